/-
  Layer 3, pure: WeaveTells answers true: classes are told by projections, layers and first forms.
-/
import Derived.Test.YtabchabbdnhjpaaV22
import Derived.Test.YtabchabbdnhjpaaV15
namespace Go.Proofs.Ytabchabbdnhjpaa
open Go.RowKit

set_option linter.unusedVariables false
set_option linter.unusedSimpArgs false
set_option linter.unusedSectionVars false
set_option maxRecDepth 10000

/-- Of two letters: they don't depend on each other, or the projections are equal. -/
def sameP (l : Ltr) (w v : List Int) (a b : Nat) : Bool := !dep l (a : Int) (b : Int) || decide (proj w a b = proj v a b)
def allP (l : Ltr) (w v : List Int) : Bool := (List.range l.1.toNat).all fun a => (List.range (a + 1)).all fun b => sameP l w v a b

section
variable {l : Ltr} (hf : few l.2) (hl : okL l = true) {w v : List Int} (hw : isWd l w = true) (hv : isWd l v = true)
include hf hl hw hv

end

theorem layS_small {l : Ltr} {w : List Int} (hw : isWd l w = true) : few (layS l w) ∧ ∀ x ∈ layS l w, x.length ≤ 1000 := by
  have hwl := isWd_len hw
  have h1 : (layS l w).length ≤ 10 := by
    unfold layS
    rw [List.length_map]
    have := ne_len (lay_ne l w)
    rw [(lay_perm l w).length_eq] at this
    omega
  refine ⟨few_of h1, fun x hx => ?_⟩
  unfold layS at hx
  obtain ⟨M, hM, rfl⟩ := List.mem_map.1 hx
  have := flat_lenL hM
  rw [(srt_perm M).length_eq]
  rw [(lay_perm l w).length_eq] at this
  omega

theorem SameLays_eq {l : Ltr} {w v : List Int} (hw : isWd l w = true) (hv : isWd l v = true) : linealref03_SameLists (layS l w) (layS l v) = some (decide (layS l w = layS l v)) :=
  SameLists_eq3 _ _ (layS_small hw).1 (layS_small hv).1 (layS_small hw).2 (layS_small hv).2

end Go.Proofs.Ytabchabbdnhjpaa
