/-
  Layer 3, pure: WeaveLeads.
-/
import Derived.Test.YtabchabbdnhjpaaV15
namespace Go.Proofs.Ytabchabbdnhjpaa
open Go.RowKit

set_option linter.unusedVariables false
set_option linter.unusedSimpArgs false
set_option maxRecDepth 10000

variable {l : Ltr}

theorem Path_ok (hf : few l.2) (hl : okL l = true) {w v : List Int} (hw : isWd l w = true) (hv : isWd l v = true) (he : eqv l v w) : ∃ pl, weave_Path l w v = some (pl, 0) ∧ runP l pl w = some v ∧ pl.length ≤ 45 := by
  obtain ⟨pl, e1, e2, _⟩ := Path_eq l w v hf (len60 hw) (len60 hv)
  have h0 := errW_of2 hl hw hv
  refine ⟨pl, ?_, e2 h0 he⟩
  rw [e1, if_pos h0, if_pos he]

theorem IsPath_ok (hf : few l.2) (hl : okL l = true) {w v path : List Int} (hw : isWd l w = true) (hv : isWd l v = true) (hp : path.length ≤ 1000) (hr : runP l path w = some v) : weave_IsPath l w v path = some (true, 0) := by
  rw [IsPath_eq l w v path hf (len60 hw) (len60 hv)]
  unfold pathA
  rw [if_pos (errW_of2 hl hw hv), if_neg (by omega), hr]
  simp

end Go.Proofs.Ytabchabbdnhjpaa
