/-
  Layer 2, pure: the law HistoryOrders.
-/
import Derived.Test.YtlfpagicagmjgaaH20
import Derived.Test.YtlfpagicagmjgaaH16a
namespace Go.Proofs.Ytlfpagicagmjgaa
open Go.RowKit

set_option linter.unusedVariables false
set_option linter.unusedSimpArgs false
set_option maxRecDepth 10000

/-- The error of specifications and a history. -/
def errA (specs : List Tup) (h : List HC6) : Int := if okSs specs = true then (if (okH h && fitsB specs h) = true then 0 else 20) else 10

section
variable {specs : List Tup} {h : List HC6}

theorem checkFor_all (hs : ∀ s ∈ specs, okS s) (hl : specs.length ≤ 1000) : history_checkFor specs h = some (errA specs h) := by
  unfold history_checkFor errA
  rw [checkSpecs_eq specs hs hl, Option.bind_some]
  cases hk : okSs specs with
  | false => rfl
  | true =>
    rw [if_pos rfl, if_neg (by simp), HValid_eq, Option.bind_some]
    cases h1 : okH h with
    | false => rfl
    | true =>
      rw [if_neg (by simp), fits_eq specs _ h1, Option.bind_some]
      cases fitsB specs h <;> rfl

theorem asked_all (hs : ∀ s ∈ specs, okS s) (hl : specs.length ≤ 1000) : linealref02_asked specs h = some (errA specs h) := by
  unfold linealref02_asked errA
  rw [areSpecs_eq specs hs hl, Option.bind_some]
  cases hk : okSs specs with
  | false => rfl
  | true =>
    rw [if_neg (by simp), isFor_eq specs hs hl h, hk, Option.bind_some]
    cases h1 : okH h with
    | false => rfl
    | true => cases fitsB specs h <;> rfl

theorem err_zero (e : errA specs h = 0) : okSs specs = true ∧ okH h = true ∧ fitsB specs h = true := by
  unfold errA at e
  split at e
  · rename_i hk
    split at e
    · rename_i ha
      simp only [Bool.and_eq_true] at ha
      exact ⟨hk, ha⟩
    · cases e
  · cases e

theorem bef_to (c d : HC6) (hb : bef c d = true) : c.2.2.2.2.2 ≠ 0 := by
  unfold bef at hb
  simp only [Bool.and_eq_true, Bool.not_eq_true', decide_eq_false_iff_not] at hb
  exact hb.1

theorem bef_self {c : HC6} (hc : okC c = true) : bef c c = false := by
  have := okC_from hc
  unfold bef
  by_cases h0 : c.2.2.2.2.2 = 0
  · rw [decide_eq_true h0]; rfl
  · rw [decide_eq_false (by omega : ¬ c.2.2.2.2.2 < c.2.2.2.2.1), Bool.and_false]

theorem rOrder_eq (hs : ∀ s ∈ specs, okS s) (hl : specs.length ≤ 1000) (hk : okSs specs = true) (h1 : okH h = true) (h2 : fitsB specs h = true) :
    (cntA specs h = 0 ∧ linealref02_Order specs h = some ([], 5)) ∨ (0 < cntA specs h ∧ ∃ l, Path specs h (CF specs h 9) ((0, 0), 0) l ∧ linealref02_Order specs h = some (l.map fun (k : Nat) => (k : Int), 0)) := by
  have h8 := okH_len h1
  have hc : ∀ i, i < h.length → canC specs (hAt h i) = true := fun i hi => can_of h1 h2 hi
  have hq : ∀ i j, i < h.length → j < h.length → bef (hAt h j) (hAt h i) = true → (hAt h j).2.2.2.2.2 ≠ 0 := fun i j _ _ hb => bef_to _ _ hb
  have hq0 : ∀ i, i < h.length → bef (hAt h i) (hAt h i) = false := fun i hi => bef_self (okH_getD h1 hi)
  have e0 : errA specs h = 0 := by unfold errA; rw [hk, h1, h2]; rfl
  unfold linealref02_Order
  rw [asked_all hs hl, e0, Option.bind_some, if_neg (by simp), from0_eq hk h8 hc false true, Option.bind_some]
  have eq : qT false = bef := rfl
  rw [eq]
  rcases rs_first hk h8 hc hq hq0 9 [] [] (good_nil hk bef) (live_nil bef) with ⟨z1, z2⟩ | ⟨z1, n, r, z2, _⟩
  · refine .inl ⟨?_, ?_⟩
    · rw [CFQ_bef] at z1; exact z1
    · rw [z2]; rfl
  · refine .inr ⟨?_, r, ?_, ?_⟩
    · rw [CFQ_bef] at z1; exact z1
    · exact rs_path hk h8 hc hq hq0 9 [] [] n r (good_nil hk bef) (live_nil bef) (Nat.lt_of_le_of_lt (leftB_le _) (by decide)) z2
    · rw [z2]
      simp only [List.nil_append]
      rw [if_neg (by simp; omega)]

end

end Go.Proofs.Ytlfpagicagmjgaa
