/-
  Layer 2, pure: what the laws ask first.
-/
import Derived.Test.YtlfpagicagmjgaaH1
import Derived.Test.YtlfpagicagmjgaaHtw
namespace Go.Proofs.Ytlfpagicagmjgaa
open Go.RowKit

set_option linter.unusedVariables false
set_option linter.unusedSimpArgs false
set_option maxRecDepth 10000

theorem Sane_eq : lineallaw02_Sane = some true := lineallaw02_Sane_run

theorem Long_eq2 (h : List HC6) : lineallaw02_Long h = some () := rfl

theorem filter_take {α : Type} (p : α → Bool) {xs : List α} {k : Nat} {x : α} (hk : xs[k]? = some x) : (xs.take (k + 1)).filter p = (xs.take k).filter p ++ (if p x = true then [x] else []) := by
  rw [take_one hk, List.filter_append]
  congr 1
  cases h : p x <;> simp [List.filter_cons, h]

theorem okH_len {h : List HC6} (hok : okH h = true) : h.length ≤ 8 := by
  unfold okH at hok; simp only [Bool.and_eq_true, decide_eq_true_eq] at hok; exact hok.1

theorem okH_at {h : List HC6} (hok : okH h = true) {k : Nat} (hk : k < h.length) : okAt h k = true := by
  unfold okH at hok; simp only [Bool.and_eq_true] at hok; exact allB_iff.1 hok.2 k hk

theorem okH_mem {h : List HC6} (hok : okH h = true) {c : HC6} (hc : c ∈ h) : okC c = true := by
  obtain ⟨k, hk, e⟩ := List.getElem_of_mem hc
  have := okH_at hok hk
  unfold okAt at this
  simp only [Bool.and_eq_true] at this
  have e2 : h.getD k (0, 0, 0, 0, 0, 0) = c := by rw [List.getD_eq_getElem?_getD, List.getElem?_eq_getElem hk, e]; rfl
  rw [e2] at this
  exact this.1

theorem okC_ink {c : HC6} (h : okC c = true) : InK .i64 c.1 ∧ InK .i64 c.2.1 ∧ InK .i64 c.2.2.1 ∧ InK .i64 c.2.2.2.1 ∧ InK .i64 c.2.2.2.2.1 ∧ InK .i64 c.2.2.2.2.2 := by
  have := okC_from h
  simp only [inK_i64]
  omega

theorem okC_mk {a b c d e f : Int} (h : (0 ≤ a ∧ a ≤ 3) ∧ (0 ≤ b ∧ b ≤ 1) ∧ (0 ≤ c ∧ c ≤ 3) ∧ (0 ≤ d ∧ d ≤ 9) ∧ (1 ≤ e ∧ e ≤ 100) ∧ (f = 0 ∧ d = 0 ∨ e < f ∧ f ≤ 100)) : okC (a, b, c, d, e, f) = true := by
  unfold okC inB
  simp only [Bool.and_eq_true, Bool.or_eq_true, decide_eq_true_eq]
  exact ⟨⟨⟨⟨⟨h.1, h.2.1⟩, h.2.2.1⟩, h.2.2.2.1⟩, h.2.2.2.2.1⟩, h.2.2.2.2.2⟩

end Go.Proofs.Ytlfpagicagmjgaa
