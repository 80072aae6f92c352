/-
  Layer 3, pure: WeaveBegins.
-/
import Derived.Test.YtabchabbdnhjpaaV8
import Derived.Test.YtabchabbdnhjpaaV10
namespace Go.Proofs.Ytabchabbdnhjpaa
open Go.RowKit

set_option linter.unusedVariables false
set_option linter.unusedSimpArgs false
set_option maxRecDepth 10000

variable {l : Ltr}

theorem errW_of {ws : List (List Int)} (hl : okL l = true) (h : ∀ w ∈ ws, isWd l w = true) : errW l ws = 0 := by
  unfold errW
  rw [if_pos hl, if_pos (List.all_eq_true.2 h)]

theorem errW_of2 {u w : List Int} (hl : okL l = true) (hu : isWd l u = true) (hw : isWd l w = true) : errW l [u, w] = 0 :=
  errW_of hl (by simp [hu, hw])
theorem errW_of1 {w : List Int} (hl : okL l = true) (hw : isWd l w = true) : errW l [w] = 0 := errW_of hl (by simp [hw])

theorem len60 {w : List Int} (h : isWd l w = true) : w.length ≤ 60 := by have := isWd_len h; omega

theorem Joined_ok {u w : List Int} (hf : few l.2) (hl : okL l = true) (hu : isWd l u = true) (hw : isWd l w = true) : weave_Joined l u w = some (if u.length + w.length ≤ 10 then (FF l (u ++ w), 0) else ([], 4)) := by
  rw [Joined_eq l u w hf (len60 hu) (len60 hw)]
  unfold joinA; rw [if_pos (errW_of2 hl hu hw)]

theorem Rest_ok {u w : List Int} (hf : few l.2) (hl : okL l = true) (hu : isWd l u = true) (hw : isWd l w = true) : weave_Rest l u w = some (match rs l u w with | some v => (FF l v, 0) | none => ([], 5)) := by
  rw [Rest_eq l u w hf (len60 hu) (len60 hw)]
  unfold restA; rw [if_pos (errW_of2 hl hu hw)]
  cases rs l u w <;> rfl

theorem First_ok {w : List Int} (hf : few l.2) (hl : okL l = true) (hw : isWd l w = true) : weave_First l w = some (FF l w, 0) := by
  unfold weave_First
  obtain ⟨t, e, ht⟩ := checked1 l w hf (len60 hw)
  have h0 := errW_of1 hl hw
  rw [e, Option.bind_some, h0, if_neg (by simp), first_eq hl (ht h0) hw, Option.bind_some]

end Go.Proofs.Ytabchabbdnhjpaa
