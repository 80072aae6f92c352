/-
  Layer 2, pure: the law HistoryOrders.
-/
import Derived.Test.YtlfpagicagmjgaaH20
import Derived.Test.YtlfpagicagmjgaaH16a
namespace Go.Proofs.Ytlfpagicagmjgaa
open Go.RowKit

set_option linter.unusedVariables false
set_option linter.unusedSimpArgs false
set_option maxRecDepth 10000

/-- The error of specifications and a history. -/
def errA (specs : List Tup) (h : List HC6) : Int := if okSs specs = true then (if (okH h && fitsB specs h) = true then 0 else 20) else 10

section
variable {specs : List Tup} {h : List HC6}

theorem checkFor_all (hs : ∀ s ∈ specs, okS s) (hl : specs.length ≤ 1000) : history_checkFor specs h = some (errA specs h) := by
  unfold history_checkFor errA
  rw [checkSpecs_eq specs hs hl, Option.bind_some]
  cases hk : okSs specs with
  | false => rfl
  | true =>
    rw [if_pos rfl, if_neg (by simp), HValid_eq, Option.bind_some]
    cases h1 : okH h with
    | false => rfl
    | true =>
      rw [if_neg (by simp), fits_eq specs _ h1, Option.bind_some]
      cases fitsB specs h <;> rfl

theorem asked_all (hs : ∀ s ∈ specs, okS s) (hl : specs.length ≤ 1000) : linealref02_asked specs h = some (errA specs h) := by
  unfold linealref02_asked errA
  rw [areSpecs_eq specs hs hl, Option.bind_some]
  cases hk : okSs specs with
  | false => rfl
  | true =>
    rw [if_neg (by simp), isFor_eq specs hs hl h, hk, Option.bind_some]
    cases h1 : okH h with
    | false => rfl
    | true => cases fitsB specs h <;> rfl

theorem err_zero (e : errA specs h = 0) : okSs specs = true ∧ okH h = true ∧ fitsB specs h = true := by
  unfold errA at e
  split at e
  · rename_i hk
    split at e
    · rename_i ha
      simp only [Bool.and_eq_true] at ha
      exact ⟨hk, ha⟩
    · cases e
  · cases e

theorem bef_to (c d : HC6) (hb : bef c d = true) : c.2.2.2.2.2 ≠ 0 := by
  unfold bef at hb
  simp only [Bool.and_eq_true, Bool.not_eq_true', decide_eq_false_iff_not] at hb
  exact hb.1

theorem bef_self {c : HC6} (hc : okC c = true) : bef c c = false := by
  have := okC_from hc
  unfold bef
  by_cases h0 : c.2.2.2.2.2 = 0
  · rw [decide_eq_true h0]; rfl
  · rw [decide_eq_false (by omega : ¬ c.2.2.2.2.2 < c.2.2.2.2.1), Bool.and_false]

theorem path_unique {V : Pl → Nat} {p : Pl} {l r : List Nat} (hp : Path specs h V p l) : Path specs h V p r → l = r := by
  intro hr
  induction hp generalizing r with
  | nil p e =>
    cases hr with
    | nil _ _ => rfl
    | cons _ _ _ _ e' => rw [e] at e'; cases e'
  | cons p q i l e hi hn hv hl hp ih =>
    cases hr with
    | nil _ e' => rw [e] at e'; cases e'
    | cons _ q' i' l' e' hi' hn' hv' hl' hp' =>
      have : i = i' := by
        rcases Nat.lt_trichotomy i i' with hlt | heq | hlt
        · have := hl' i hlt q hn; omega
        · exact heq
        · have := hl i' hlt q' hn'; omega
      subst this
      rw [hn] at hn'
      injection hn' with hn'
      subst hn'
      rw [ih hp']

theorem rOrder_eq (hs : ∀ s ∈ specs, okS s) (hl : specs.length ≤ 1000) (hk : okSs specs = true) (h1 : okH h = true) (h2 : fitsB specs h = true) :
    (cntA specs h = 0 ∧ linealref02_Order specs h = some ([], 5)) ∨ (0 < cntA specs h ∧ ∃ l, Path specs h (CF specs h 9) ((0, 0), 0) l ∧ linealref02_Order specs h = some (l.map fun (k : Nat) => (k : Int), 0)) := by
  have h8 := okH_len h1
  have hc : ∀ i, i < h.length → canC specs (hAt h i) = true := fun i hi => can_of h1 h2 hi
  have hq : ∀ i j, i < h.length → j < h.length → bef (hAt h j) (hAt h i) = true → (hAt h j).2.2.2.2.2 ≠ 0 := fun i j _ _ hb => bef_to _ _ hb
  have hq0 : ∀ i, i < h.length → bef (hAt h i) (hAt h i) = false := fun i hi => bef_self (okH_getD h1 hi)
  have e0 : errA specs h = 0 := by unfold errA; rw [hk, h1, h2]; rfl
  unfold linealref02_Order
  rw [asked_all hs hl, e0, Option.bind_some, if_neg (by simp), from0_eq hk h8 hc false true, Option.bind_some]
  have eq : qT false = bef := rfl
  rw [eq]
  rcases rs_first hk h8 hc hq hq0 9 [] [] (good_nil hk bef) (live_nil bef) with ⟨z1, z2⟩ | ⟨z1, n, r, z2, _⟩
  · refine .inl ⟨?_, ?_⟩
    · rw [CFQ_bef] at z1; exact z1
    · rw [z2]; rfl
  · refine .inr ⟨?_, r, ?_, ?_⟩
    · rw [CFQ_bef] at z1; exact z1
    · exact rs_path hk h8 hc hq hq0 9 [] [] n r (good_nil hk bef) (live_nil bef) (Nat.lt_of_le_of_lt (leftB_le _) (by decide)) z2
    · rw [z2]
      simp only [List.nil_append]
      rw [if_neg (by simp; omega)]

theorem sameInts_self (a : List Int) (ha : a.length ≤ 1000) : linealref02_SameInts a a = some true := by
  unfold linealref02_SameInts
  rw [if_neg (by simp), loopB (body := linealref02_SameInts_b1 a a) a.length (fun _ => true) (fun k hk => ?_) (by unfold linealref02_SameInts_b1; rw [if_neg (by simp)]), Option.bind_some]
  · rw [if_pos (allB_iff.2 fun _ _ => rfl)]; rfl
  · unfold linealref02_SameInts_b1
    rw [if_pos (by simpa using hk), ck_pos (by omega), ck_pos (by omega), ck_pos (by omega), ck_pos (by omega), if_neg (by simp), ck_pos (inK_small (by omega)), if_pos rfl]

theorem Order_both (hs : ∀ s ∈ specs, okS s) (hl : specs.length ≤ 1000) : ∃ a e, history_Order specs h = some (a, e) ∧ linealref02_Order specs h = some (a, e) ∧ a.length ≤ 1000 := by
  by_cases e0 : errA specs h = 0
  · obtain ⟨hk, h1, h2⟩ := err_zero e0
    have h8 := okH_len h1
    rcases Order_eq hs hl hk h1 h2 with ⟨c1, e1⟩ | ⟨c1, l, p1, e1⟩
    · rcases rOrder_eq hs hl hk h1 h2 with ⟨_, e2⟩ | ⟨c2, _⟩
      · exact ⟨_, _, e1, e2, by simp⟩
      · omega
    · rcases rOrder_eq hs hl hk h1 h2 with ⟨c2, _⟩ | ⟨_, r, p2, e2⟩
      · omega
      · have := path_unique p1 p2
        subst this
        refine ⟨_, _, e1, e2, ?_⟩
        have hor := (path_order p1).1
        have hm : ∀ x ∈ (l.map fun (k : Nat) => (k : Int)), 0 ≤ x ∧ x < (h.length : Int) := ordB_mem hor
        unfold ordB at hor
        cases hmk : markA (List.replicate h.length (false : Bool)) (l.map fun (k : Nat) => (k : Int)) with
        | none => rw [hmk] at hor; cases hor
        | some s' =>
          obtain ⟨m1, m2⟩ := markA_len _ _ _ hmk
          have := cntT_le s'
          rw [List.length_replicate] at m2
          omega
  · refine ⟨[], errA specs h, ?_, ?_, by simp⟩
    · unfold history_Order
      rw [checkFor_all hs hl, Option.bind_some, if_neg (by simpa using e0)]; rfl
    · unfold linealref02_Order
      rw [asked_all hs hl, Option.bind_some, if_pos (by rw [decide_eq_false e0]; rfl)]

theorem IsOrder_both (hs : ∀ s ∈ specs, okS s) (hl : specs.length ≤ 1000) {l : List Int} (hl1 : l.length ≤ 1000) : ∃ x, history_IsOrder specs h l = some x ∧ linealref02_IsOrder specs h l = some x := by
  by_cases e0 : errA specs h = 0
  · obtain ⟨hk, h1, h2⟩ := err_zero e0
    exact ⟨_, IsOrder_eq hs hl hk h1 h2 hl1, rIsOrder_eq hs hl hk h1 h2 hl1⟩
  · refine ⟨(false, errA specs h), ?_, ?_⟩
    · unfold history_IsOrder
      rw [checkFor_all hs hl, Option.bind_some, if_neg (by simpa using e0)]; rfl
    · unfold linealref02_IsOrder
      rw [asked_all hs hl, Option.bind_some, if_pos (by rw [decide_eq_false e0]; rfl)]

theorem Allows_both (hs : ∀ s ∈ specs, okS s) (hl : specs.length ≤ 1000) {l : List Int} (hl1 : l.length ≤ 1000) : ∃ x, history_Allows specs h l = some x ∧ linealref02_Allows specs h l = some x := by
  unfold history_Allows linealref02_Allows
  rw [checkFor_all hs hl, asked_all hs hl, Option.bind_some, Option.bind_some]
  by_cases e0 : errA specs h = 0
  · obtain ⟨hk, h1, h2⟩ := err_zero e0
    have h8 := okH_len h1
    rw [e0, if_pos (by rfl), if_pos (by rfl), isOrder_eq h (by omega) l hl1, isList_eq h (by omega) l hl1, Option.bind_some, Option.bind_some]
    cases ho : ordB h l with
    | false => exact ⟨(false, 2), rfl, rfl⟩
    | true =>
      rw [if_neg (by simp), if_neg (by simp)]
      unfold history_Allows_k1 linealref02_Allows_k1
      rw [if_pos (by rfl), if_neg (by simp)]
      unfold history_told_25 history_Allows_1
      rw [allows_eq hk (fun i hi => can_of h1 h2 hi) hl1 (ordB_mem ho), rallows_eq hk (fun i hi => can_of h1 h2 hi) hl1 (ordB_mem ho)]
      exact ⟨_, rfl, rfl⟩
  · rw [if_neg (by simpa using e0), if_neg (by simpa using e0)]
    unfold history_Allows_k1 linealref02_Allows_k1
    rw [if_neg (by simpa using e0), if_pos (by rw [decide_eq_false e0]; rfl)]
    exact ⟨(false, errA specs h), rfl, rfl⟩

end

theorem HistoryOrders_eq (specs : List Tup) (hf : fewS specs) (h : List HC6) (l : List Int) : lineallaw02_HistoryOrders specs h l = some true := by
  unfold lineallaw02_HistoryOrders
  rw [Large_eq specs hf, Option.bind_some]
  cases hlg : (allB specs.length (fun k => fit (specs.getD k (0, 0, [], []))) && decide (specs.length ≤ 5)) with
  | false => rw [if_pos (by simp), Sane_eq]; rfl
  | true =>
    simp only [Bool.and_eq_true, decide_eq_true_eq] at hlg
    have hs : ∀ s ∈ specs, okS s := fun s hs => by
      obtain ⟨k, hk, e⟩ := List.getElem_of_mem hs
      have := allB_iff.1 hlg.1 k hk
      have e2 : specs.getD k (0, 0, [], []) = s := by rw [List.getD_eq_getElem?_getD, List.getElem?_eq_getElem hk, e]; rfl
      rw [e2] at this
      exact okS_of s this
    have hsl : specs.length ≤ 1000 := by omega
    rw [if_neg (by simp), Long_eq2, Option.bind_some]
    by_cases hl : 40 < h.length
    · rw [if_pos (by simp; omega), Sane_eq]; rfl
    rw [if_neg (by simp; omega)]
    by_cases hl1 : 60 < l.length
    · rw [if_pos (by simp; omega), Sane_eq]; rfl
    rw [if_neg (by simp; omega)]
    obtain ⟨x, i1, i2⟩ := IsOrder_both (h := h) hs hsl (l := l) (by omega)
    obtain ⟨y, a1, a2⟩ := Allows_both (h := h) hs hsl (l := l) (by omega)
    obtain ⟨a, e, o1, o2, o3⟩ := Order_both (h := h) hs hsl
    rw [i1, Option.bind_some, i2, Option.bind_some, a1, Option.bind_some, a2, Option.bind_some, if_neg (by simp), if_neg (by simp), if_neg (by simp), if_neg (by simp), o1, Option.bind_some, o2, Option.bind_some]
    simp only
    rw [sameInts_self a o3, Option.bind_some, if_pos rfl, if_pos (by simp), Sane_eq]; rfl

end Go.Proofs.Ytlfpagicagmjgaa
