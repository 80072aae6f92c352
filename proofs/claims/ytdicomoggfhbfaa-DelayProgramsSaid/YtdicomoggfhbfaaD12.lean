/-
  Threads turned round, on both sides; accesses held against each other.
-/
import Derived.Test.YtdicomoggfhbfaaD2
namespace Go.Proofs.Ytdicomoggfhbfaa
open Go.RowKit

set_option linter.unusedVariables false
set_option linter.unusedSimpArgs false

def fitA (a : Int × Bool) : Prop := InK .i64 a.1
theorem vld_fit {x : Acs} (hv : vld x = true) : ∀ l ∈ x, ∀ a ∈ l, fitA a := by
  intro l hl a ha
  unfold vld at hv
  simp only [Bool.and_eq_true, decide_eq_true_eq, List.all_eq_true] at hv
  have := hv.2 l hl
  unfold okTh okAc at this
  simp only [Bool.and_eq_true, decide_eq_true_eq, List.all_eq_true] at this
  have := this.2 a ha
  unfold fitA
  rw [inK_i64]; omega

theorem SameAccesses_eq {x y : Acs} (hf : few x) (hfl : ∀ l ∈ x, few l) (hx : ∀ l ∈ x, ∀ a ∈ l, fitA a) (hy : ∀ l ∈ y, ∀ a ∈ l, fitA a) : linealref09_SameAccesses x y = some (decide (x = y)) := by
  unfold linealref09_SameAccesses
  by_cases hl : x.length = y.length
  · rw [if_neg (by simp [hl])]
    rw [whileO_all (x.zip y) (fun q => decide (q.1 = q.2)) (body := linealref09_SameAccesses_b1 x y) (fun k q hk => by
      rw [List.getElem?_zip_eq_some] at hk
      obtain ⟨k1, k2⟩ := hk
      obtain ⟨hlt, hik⟩ := few_in hf k1
      have hlb := (List.getElem?_eq_some_iff.1 k2).1
      have m1 := List.mem_of_getElem? k1
      have m2 := List.mem_of_getElem? k2
      unfold linealref09_SameAccesses_b1
      rw [Int.toNat_natCast, getD_of k1, getD_of k2, if_pos (decide_eq_true (by omega)), ck_pos (by omega), ck_pos (by omega), ck_pos (by omega), ck_pos (by omega)]
      by_cases hll : q.1.length = q.2.length
      · rw [if_neg (by simp [hll]), ck_pos (by omega), ck_pos (by omega)]
        rw [whileO_all (q.1.zip q.2) (fun p => decide (p.1 = p.2)) (body := linealref09_SameAccesses_b2 x y (k : Int)) (fun j p hj => by
          rw [List.getElem?_zip_eq_some] at hj
          obtain ⟨j1, j2⟩ := hj
          obtain ⟨hlt2, hik2⟩ := few_in (hfl _ m1) j1
          have hlb2 := (List.getElem?_eq_some_iff.1 j2).1
          have f1 : InK .i64 p.1.1 := hx _ m1 _ (List.mem_of_getElem? j1)
          have f2 : InK .i64 p.2.1 := hy _ m2 _ (List.mem_of_getElem? j2)
          unfold linealref09_SameAccesses_b2
          rw [Int.toNat_natCast, Int.toNat_natCast, getD_of k1, getD_of k2, getD_of j1, getD_of j2, if_pos (decide_eq_true (by omega)), ck_pos (by omega), ck_pos (by omega), ck_pos (by omega), ck_pos (by omega), ck_pos (by omega), ck_pos (by omega), ck_pos (by omega), ck_pos (by omega), ck_pos f1, ck_pos f2]
          by_cases e : p.1 = p.2 <;> simp [e, ck_pos hik2]) (by
            unfold linealref09_SameAccesses_b2
            rw [Int.toNat_natCast, getD_of k1, if_neg (by rw [decide_eq_true_eq, List.length_zip]; omega)]), Option.bind_some, all_zip_eq _ _ hll]
        by_cases e : q.1 = q.2 <;> simp [e, linealref09_SameAccesses_k2, ck_pos hik]
      · have : q.1 ≠ q.2 := fun e => hll (by rw [e])
        rw [if_pos (by simp; omega)]; simp [this]) (by
        unfold linealref09_SameAccesses_b1
        rw [if_neg (by rw [decide_eq_true_eq, List.length_zip]; omega)]), Option.bind_some, all_zip_eq _ _ hl]
    by_cases e : x = y <;> simp [e, linealref09_SameAccesses_k1]
  · rw [if_pos (by simp; omega)]
    have : x ≠ y := fun e => hl (by rw [e])
    simp [this]

/-! ### Turned round -/
def turnX (x : Acs) : Acs := x.map List.reverse

theorem flat_map1 {α β : Type} (f : α → β) : ∀ l : List α, (l.flatMap fun k => [f k]) = l.map f
  | [] => rfl
  | a :: l => by rw [List.flatMap_cons, flat_map1 f l]; rfl
theorem map_range_getD {α β : Type} (x : List α) (d : α) (f : α → β) : (List.range x.length).map (fun k => f (x.getD k d)) = x.map f := by
  apply List.ext_getElem?
  intro i
  rw [List.getElem?_map, List.getElem?_map]
  by_cases h : i < x.length
  · rw [List.getElem?_range h, List.getElem?_eq_getElem h, Option.map_some, Option.map_some, getD_of (List.getElem?_eq_getElem h)]
  · rw [List.getElem?_eq_none (by simp; omega), List.getElem?_eq_none (by omega)]; rfl

theorem Reverse_eq (s : List (Int × Bool)) (hs : s.length ≤ 1000) : slices_Reverse s = some s.reverse := by
  unfold slices_Reverse
  rw [ck_pos (by rw [inK_i64]; omega)]
  obtain ⟨r, e, hr⟩ := whileO_inv (S := List (Int × Bool) × Int × Int) (R := List (Int × Bool)) (body := slices_Reverse_b1)
    (fun st => ∃ (l : List (Int × Bool)) (i : Nat), st = (l, (i : Int), (s.length : Int) - 1 - i) ∧ l.length = s.length ∧ 2 * i ≤ s.length + 1 ∧ ∀ k, k < s.length → l.getD k (0, false) = if k < i ∨ s.length - 1 < k + i then s.getD (s.length - 1 - k) (0, false) else s.getD k (0, false)) (fun st => s.length - st.2.1.toNat) (fun r => r = s.reverse)
    (by
      rintro st ⟨l, i, rfl, hl, hi, h⟩
      by_cases hc : (i : Int) < (s.length : Int) - 1 - i
      · left
        have hj : ((s.length : Int) - 1 - i).toNat = s.length - 1 - i := by omega
        have e2 : ((s.length : Int) - 1 - (i : Int)) - 1 = (s.length : Int) - 1 - ((i + 1 : Nat) : Int) := by omega
        refine ⟨((l.set i (l.getD (s.length - 1 - i) (0, false))).set (s.length - 1 - i) (l.getD i (0, false)), ((i + 1 : Nat) : Int), (s.length : Int) - 1 - ((i + 1 : Nat) : Int)), ?_, ⟨_, i + 1, rfl, by simp [hl], by omega, fun k hk => ?_⟩, ?_⟩
        · unfold slices_Reverse_b1
          dsimp only
          rw [Int.toNat_natCast, hj, if_pos (decide_eq_true hc), ck_pos (by omega), ck_pos (by omega), ck_pos (by omega), ck_pos (by omega), ck_pos (by omega), ck_pos (by omega), ck_pos (by omega), ck_pos (by rw [List.length_set]; omega), ck_pos (by rw [inK_i64]; omega), ck_pos (by rw [inK_i64]; omega), e2]
          rfl
        · rw [getD_setL (by rw [List.length_set]; omega), getD_setL (by omega)]
          by_cases k1 : k = s.length - 1 - i
          · rw [if_pos k1, if_pos (by omega), h i (by omega), if_neg (by omega)]
            congr 1; omega
          · rw [if_neg k1]
            by_cases k2 : k = i
            · rw [if_pos k2, if_pos (by omega), h (s.length - 1 - i) (by omega), if_neg (by omega), k2]
            · rw [if_neg k2, h k hk]
              by_cases k3 : k < i ∨ s.length - 1 < k + i
              · rw [if_pos k3, if_pos (by omega)]
              · rw [if_neg k3, if_neg (by omega)]
        · simp only; omega
      · right
        refine ⟨l, ?_, ?_⟩
        · unfold slices_Reverse_b1
          dsimp only
          rw [if_neg (by rw [decide_eq_true_eq]; exact hc)]
        · refine List.ext_getElem? fun k => ?_
          by_cases hk : k < s.length
          · rw [List.getElem?_reverse hk, List.getElem?_eq_getElem (by omega), List.getElem?_eq_getElem (show s.length - 1 - k < s.length by omega)]
            congr 1
            have := h k hk
            rw [getD_of (List.getElem?_eq_getElem (show k < l.length by omega))] at this
            rw [this]
            by_cases k3 : k < i ∨ s.length - 1 < k + i
            · rw [if_pos k3, getD_of (List.getElem?_eq_getElem (show s.length - 1 - k < s.length by omega))]
            · rw [if_neg k3]
              have : k = s.length - 1 - k := by omega
              rw [← getD_of (d := (0, false)) (List.getElem?_eq_getElem (show s.length - 1 - k < s.length by omega)), ← this]
          · rw [List.getElem?_eq_none (by omega), List.getElem?_eq_none (by simp; omega)])
    (s, 0, (s.length : Int) - 1) ⟨s, 0, by simp, rfl, by omega, fun k hk => by rw [if_neg (by omega)]⟩
  rw [e, Option.bind_some, hr]

theorem Clone_eq (s : List (Int × Bool)) (hs : s.length ≤ 1000) : slices_Clone s = some s := by
  unfold slices_Clone; rw [ck_pos (by omega)]

theorem Turned_eq (x : Acs) : delay_Turned x = some (if vld x = true then (turnX x, 0) else ([], 90)) := by
  unfold delay_Turned
  rw [Valid_eq, Option.bind_some]
  cases hv : vld x with
  | false => rfl
  | true =>
    have hlen := vld_len hv
    have hr := vld_row hv
    rw [if_neg (by simp), appN x.length 1 (fun k => [(x.getD k []).reverse]) (fun k _ => by simp) [] (body := delay_Turned_b1 x) (fun k l hk hl => by
      have h4 := hr k
      simp only [List.length_nil] at hl
      unfold delay_Turned_b1
      dsimp only
      rw [Int.toNat_natCast, if_pos (decide_eq_true (by omega)), ck_pos (by omega), ck_pos (by omega), Clone_eq _ (by omega), Option.bind_some, Reverse_eq _ (by omega), Option.bind_some, ck_pos (by omega), ck_pos (inK_nat20 (by omega))]) (fun l => by unfold delay_Turned_b1; rw [if_neg (by simp)]), Option.bind_some, List.nil_append, flat_map1, map_range_getD x [] List.reverse]
    rfl

theorem refTurned_eq {x : Acs} (hx : x.length ≤ 20) : linealref09_Turned x = some (if vld x = true then (turnX x, 0) else ([], 90)) := by
  unfold linealref09_Turned
  rw [refValid_eq hx, Option.bind_some]
  cases hv : vld x with
  | false => rfl
  | true =>
    have hlen := vld_len hv
    have hr := vld_row hv
    have w2 : ∀ (k : Nat) (a : Acs), whileO (linealref09_Turned_b2 x (a, (k : Int))) ([], ((x.getD k []).length : Int) - 1) = some (x.getD k []).reverse := by
      intro k a
      have h4 := hr k
      obtain ⟨r, e, h⟩ := whileO_inv (S := List (Int × Bool) × Int) (R := List (Int × Bool)) (body := linealref09_Turned_b2 x (a, (k : Int)))
        (fun st => ∃ (l : List (Int × Bool)) (i : Nat), st = (l, (i : Int) - 1) ∧ i ≤ (x.getD k []).length ∧ l.reverse ++ [] = (x.getD k []).drop i) (fun st => (st.2 + 1).toNat) (fun r => r = (x.getD k []).reverse)
        (by
          rintro st ⟨l, i, rfl, hi, h⟩
          by_cases hc : 0 < i
          · left
            have hj : ((i : Int) - 1).toNat = i - 1 := by omega
            have hll : l.length ≤ 4 := by have := congrArg List.length h; simp only [List.length_append, List.length_reverse, List.length_drop, List.length_nil] at this; omega
            refine ⟨(l ++ [(x.getD k []).getD (i - 1) (0, false)], ((i - 1 : Nat) : Int) - 1), ?_, ⟨_, i - 1, rfl, by omega, ?_⟩, by simp only; omega⟩
            · unfold linealref09_Turned_b2
              dsimp only
              rw [Int.toNat_natCast, hj, if_pos (decide_eq_true (by omega)), ck_pos (by omega), ck_pos (by omega), ck_pos (by omega), ck_pos (by rw [inK_i64]; omega)]
              congr 3; omega
            · rw [List.reverse_append, List.append_nil, List.drop_eq_getElem_cons (show i - 1 < (x.getD k []).length by omega), show i - 1 + 1 = i by omega, ← h, List.append_nil, getD_of (List.getElem?_eq_getElem (show i - 1 < (x.getD k []).length by omega))]
              rfl
          · right
            have : i = 0 := by omega
            subst this
            refine ⟨l, ?_, ?_⟩
            · unfold linealref09_Turned_b2
              dsimp only
              rw [if_neg (by rw [decide_eq_true_eq]; omega)]
            · rw [List.append_nil, List.drop_zero] at h
              rw [← h, List.reverse_reverse])
        ([], ((x.getD k []).length : Int) - 1) ⟨[], (x.getD k []).length, rfl, by omega, by simp⟩
      rw [e, h]
    rw [if_neg (by simp), appN x.length 1 (fun k => [(x.getD k []).reverse]) (fun k _ => by simp) [] (body := linealref09_Turned_b1 x) (fun k l hk hl => by
      have h4 := hr k
      simp only [List.length_nil] at hl
      unfold linealref09_Turned_b1
      dsimp only
      rw [Int.toNat_natCast, if_pos (decide_eq_true (by omega)), ck_pos (by omega), ck_pos (by omega), ck_pos (by rw [inK_i64]; omega), w2 k l, Option.bind_some]
      unfold linealref09_Turned_k3 linealref09_Turned_k2
      dsimp only
      rw [ck_pos (by omega), ck_pos (inK_nat20 (by omega))]) (fun l => by unfold linealref09_Turned_b1; rw [if_neg (by simp)]), Option.bind_some, List.nil_append, flat_map1, map_range_getD x [] List.reverse]
    rfl

theorem turn_vld {x : Acs} (hv : vld x = true) : vld (turnX x) = true := by
  unfold vld turnX at *
  simp only [Bool.and_eq_true, decide_eq_true_eq, List.all_eq_true, List.length_map] at *
  refine ⟨hv.1, fun l hl => ?_⟩
  obtain ⟨r, hr, rfl⟩ := List.mem_map.1 hl
  have := hv.2 r hr
  unfold okTh at *
  simp only [Bool.and_eq_true, decide_eq_true_eq, List.all_eq_true, List.length_reverse, List.mem_reverse] at *
  exact this
end Go.Proofs.Ytdicomoggfhbfaa
