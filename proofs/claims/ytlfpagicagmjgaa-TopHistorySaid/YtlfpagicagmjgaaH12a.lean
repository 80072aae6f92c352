/-
  Layer 2, pure: sums, and the calls of a history by their places.
-/
import Derived.Test.YtlfpagicagmjgaaH10a
namespace Go.Proofs.Ytlfpagicagmjgaa
open Go.RowKit

set_option linter.unusedVariables false
set_option linter.unusedSimpArgs false
set_option maxRecDepth 10000

theorem sumTo_at {f : Nat → Nat} {k : Nat} : ∀ {n : Nat}, k < n → f k ≤ sumTo f n
  | 0, h => by omega
  | n + 1, h => by
    show f k ≤ sumTo f n + f n
    by_cases e : k = n
    · subst e; omega
    · have := sumTo_at (f := f) (k := k) (n := n) (by omega); omega

theorem sumTo_some {f : Nat → Nat} : ∀ {n : Nat}, 0 < sumTo f n → ∃ i, i < n ∧ 0 < f i
  | 0, h => by simp [sumTo] at h
  | n + 1, h => by
    have h1 : 0 < sumTo f n + f n := h
    by_cases h0 : 0 < sumTo f n
    · obtain ⟨i, h1, h2⟩ := sumTo_some h0
      exact ⟨i, by omega, h2⟩
    · exact ⟨n, by omega, by omega⟩

theorem range_at (h : List HC6) : (List.range h.length).map (hAt h) = h := by
  refine List.ext_getElem (by simp) fun i h1 h2 => ?_
  simp only [List.getElem_map, List.getElem_range]
  unfold hAt
  rw [List.getD_eq_getElem?_getD, List.getElem?_eq_getElem h2]; rfl

end Go.Proofs.Ytlfpagicagmjgaa
