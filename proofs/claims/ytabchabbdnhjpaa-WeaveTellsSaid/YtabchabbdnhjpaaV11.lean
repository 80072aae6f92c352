/-
  Layer 3, pure: WeaveBegins.
-/
import Derived.Test.YtabchabbdnhjpaaV8
import Derived.Test.YtabchabbdnhjpaaV10
namespace Go.Proofs.Ytabchabbdnhjpaa
open Go.RowKit

set_option linter.unusedVariables false
set_option linter.unusedSimpArgs false
set_option maxRecDepth 10000

variable {l : Ltr}

theorem errW_of {ws : List (List Int)} (hl : okL l = true) (h : ∀ w ∈ ws, isWd l w = true) : errW l ws = 0 := by
  unfold errW
  rw [if_pos hl, if_pos (List.all_eq_true.2 h)]

theorem errW_of2 {u w : List Int} (hl : okL l = true) (hu : isWd l u = true) (hw : isWd l w = true) : errW l [u, w] = 0 :=
  errW_of hl (by simp [hu, hw])
theorem errW_of1 {w : List Int} (hl : okL l = true) (hw : isWd l w = true) : errW l [w] = 0 := errW_of hl (by simp [hw])

theorem len60 {w : List Int} (h : isWd l w = true) : w.length ≤ 60 := by have := isWd_len h; omega

theorem First_ok {w : List Int} (hf : few l.2) (hl : okL l = true) (hw : isWd l w = true) : weave_First l w = some (FF l w, 0) := by
  unfold weave_First
  obtain ⟨t, e, ht⟩ := checked1 l w hf (len60 hw)
  have h0 := errW_of1 hl hw
  rw [e, Option.bind_some, h0, if_neg (by simp), first_eq hl (ht h0) hw, Option.bind_some]

/-- The law's own questions, answered. -/
theorem valid_cases (ws : List (List Int)) (hf : few l.2) (hfw : few ws) :
    lineallaw03_valid l ws = some false ∨ (lineallaw03_valid l ws = some true ∧ okL l = true ∧ ∀ w ∈ ws, isWd l w = true) := by
  by_cases hlong : (!(ws.all fun u => decide (u.length ≤ 60)) || decide (60 < l.2.length)) = true
  · left
    unfold lineallaw03_valid
    rw [Long3_eq l ws hfw, Option.bind_some, if_pos hlong]
  have hw : ∀ w ∈ ws, few w := fun w hm => by
    simp only [Bool.not_eq_true, Bool.or_eq_false_iff, Bool.not_eq_false'] at hlong
    have := List.all_eq_true.1 hlong.1 w hm
    exact few_of (by simpa using this)
  rw [valid_eq l ws hf hfw hw]
  by_cases h : errW l ws = 0
  · obtain ⟨h1, h2⟩ := errW_ok h
    cases hb : (!(!(ws.all fun w => decide (w.length ≤ 60)) || decide (60 < l.2.length)) && decide (errW l ws = 0)) with
    | false => exact .inl rfl
    | true => exact .inr ⟨rfl, h1, h2⟩
  · left; simp [h]

end Go.Proofs.Ytabchabbdnhjpaa
