/-
  Layer 2, pure: the reference's list of states.
-/
import Derived.Test.YtlfpagicagmjgaaH5a
namespace Go.Proofs.Ytlfpagicagmjgaa
open Go.RowKit

set_option linter.unusedVariables false
set_option linter.unusedSimpArgs false
set_option maxRecDepth 10000

theorem stOf_to {s : Int × Int} {i j q : Int} (hi : 0 ≤ i ∧ i < 2) (hj : 0 ≤ j ∧ j < 2) : stOf (stTo s j q) i = if i = j then q else stOf s i := by
  unfold stOf stTo
  by_cases h0 : j = 0
  · by_cases h1 : i = 0
    · simp [h0, h1]
    · simp [h0, h1]
  · have : j = 1 := by omega
    by_cases h1 : i = 0
    · subst this; simp [h1]
    · have : i = 1 := by omega
      simp [*]

/-- What holds of the states' list. -/
def tabI (specs : List Tup) (tb : List Int) (s : Int × Int) : Prop := tb.length = specs.length ∧ ∀ i : Int, 0 ≤ i → i < (specs.length : Int) → tb.getD i.toNat 0 = stOf s i

theorem tabI_to {specs : List Tup} (hs : okSs specs = true) {tb : List Int} {s : Int × Int} (h : tabI specs tb s) {j q : Int} (hj : 0 ≤ j ∧ j < (specs.length : Int)) : tabI specs (tb.set j.toNat q) (stTo s j q) := by
  have hl2 := okSs_len hs
  refine ⟨by rw [List.length_set]; exact h.1, fun i h0 h1 => ?_⟩
  rw [stOf_to ⟨h0, by omega⟩ ⟨hj.1, by omega⟩]
  by_cases e : i = j
  · subst e
    rw [if_pos rfl, List.getD_eq_getElem?_getD, List.getElem?_set_self (by rw [h.1]; omega)]; rfl
  · rw [if_neg e, List.getD_eq_getElem?_getD, List.getElem?_set_ne (by omega), ← List.getD_eq_getElem?_getD]
    exact h.2 i h0 h1

end Go.Proofs.Ytlfpagicagmjgaa
