/-
  Which lists are circles, and how many there are: on both sides.
-/
import Derived.Test.YtdicomoggfhbfaaD4
namespace Go.Proofs.Ytdicomoggfhbfaa
open Go.RowKit

set_option linter.unusedVariables false
set_option linter.unusedSimpArgs false

/-! ### Sums over lists -/
def sumL {α : Type} (l : List α) (f : α → Nat) : Nat := (l.map f).sum
theorem sumL_nil {α : Type} (f : α → Nat) : sumL [] f = 0 := rfl
theorem sumL_cons {α : Type} (a : α) (l : List α) (f : α → Nat) : sumL (a :: l) f = f a + sumL l f := by simp [sumL]
theorem sumL_congr {α : Type} {l : List α} {f g : α → Nat} (h : ∀ a ∈ l, f a = g a) : sumL l f = sumL l g := by
  unfold sumL; rw [List.map_congr_left h]
theorem sumL_add {α : Type} (l : List α) (f g : α → Nat) : sumL l (fun a => f a + g a) = sumL l f + sumL l g := by
  induction l with
  | nil => rfl
  | cons a l ih => rw [sumL_cons, sumL_cons, sumL_cons, ih]; omega
theorem sumL_zero {α : Type} (l : List α) : sumL l (fun _ => 0) = 0 := by
  induction l with
  | nil => rfl
  | cons a l ih => rw [sumL_cons, ih]
theorem len_flatS {α β : Type} (l : List α) (f : α → List β) : (l.flatMap f).length = sumL l (fun a => (f a).length) := by
  rw [List.length_flatMap]; rfl
/-! ### Circles -/
def c2 (x : Acs) (r s : Sta) : Bool := !decide (r.1 = s.1) && (mts x r s && (mts x s r && (!oneB r || !oneB s)))
def c3 (x : Acs) (r s q : Sta) : Bool := (!decide (r.1 = s.1) && mts x r s) && ((!decide (r.1 = q.1) && !decide (s.1 = q.1)) && (mts x s q && (mts x q r && (!oneB r || (!oneB s || !oneB q)))))
def nC (x : Acs) : Nat := sumL (stas x) (fun r => sumL (stas x) fun s => (c2 x r s).toNat) + sumL (stas x) (fun r => sumL (stas x) fun s => sumL (stas x) fun q => (c3 x r s q).toNat)
/-- A list is a circle. -/
def isC (x : Acs) (l : List Sta) : Bool := match l with
  | [r, s] => isSt x r && (isSt x s && c2 x r s)
  | [r, s, q] => isSt x r && (isSt x s && (isSt x q && c3 x r s q))
  | _ => false

theorem clos_two {x : Acs} {r s : Sta} : (goes x [r] s && clos x [r, s]) = c2 x r s := by
  rw [goes_two]; unfold clos c2 lastS
  simp only [List.any_cons, List.any_nil, Bool.or_false]
  show ((!decide (r.1 = s.1) && mts x r s) && ((!oneB r || !oneB s) && mts x s r)) = _
  cases decide (r.1 = s.1) <;> cases mts x r s <;> cases mts x s r <;> cases oneB r <;> cases oneB s <;> rfl
theorem clos_three {x : Acs} {r s q : Sta} : (goes x [r] s && (goes x [r, s] q && clos x [r, s, q])) = c3 x r s q := by
  rw [goes_two, goes_three]; unfold clos c3 lastS
  simp only [List.any_cons, List.any_nil, Bool.or_false]
  show ((!decide (r.1 = s.1) && mts x r s) && ((!(decide (r.1 = q.1) || decide (s.1 = q.1)) && mts x s q) && ((!oneB r || (!oneB s || !oneB q)) && mts x q r))) = _
  cases decide (r.1 = s.1) <;> cases mts x r s <;> cases mts x s q <;> cases mts x q r <;> cases decide (r.1 = q.1) <;> cases decide (s.1 = q.1) <;> cases oneB r <;> cases oneB s <;> cases oneB q <;> rfl

theorem mem_circs {x : Acs} {l : List Sta} : l ∈ circs x ↔ isC x l = true := by
  unfold circs
  rw [List.mem_filter, List.mem_append, mem_L2, mem_L3]
  constructor
  · rintro ⟨⟨r, s, hr, hs, hg, rfl⟩ | ⟨r, s, q, hr, hs, hq, hg, hg2, rfl⟩, hc⟩
    · have := clos_two (x := x) (r := r) (s := s)
      rw [hg, hc] at this
      simp [isC, hr, hs, ← this]
    · have := clos_three (x := x) (r := r) (s := s) (q := q)
      rw [hg, hg2, hc] at this
      simp [isC, hr, hs, hq, ← this]
  · intro h
    unfold isC at h
    split at h
    · rename_i r s
      simp only [Bool.and_eq_true] at h
      obtain ⟨hr, hs, hc⟩ := h
      rw [← clos_two, Bool.and_eq_true] at hc
      exact ⟨.inl ⟨r, s, hr, hs, hc.1, rfl⟩, hc.2⟩
    · rename_i r s q
      simp only [Bool.and_eq_true] at h
      obtain ⟨hr, hs, hq, hc⟩ := h
      rw [← clos_three, Bool.and_eq_true, Bool.and_eq_true] at hc
      exact ⟨.inr ⟨r, s, q, hr, hs, hq, hc.1, hc.2.1, rfl⟩, hc.2.2⟩
    · cases h

theorem len_if {α : Type} (c : Bool) (p : α → Bool) (a : α) : ((if c = true then [a] else []).filter p).length = (c && p a).toNat := by
  cases c
  · rfl
  · cases h : p a <;> simp [h]

theorem circs_count (x : Acs) : (circs x).length = nC x := by
  unfold circs nC
  rw [List.filter_append, List.length_append]
  congr 1
  · unfold L2
    rw [List.flatMap_map, List.filter_flatMap, len_flatS]
    refine sumL_congr fun r _ => ?_
    unfold extS
    rw [List.filter_flatMap, len_flatS]
    refine sumL_congr fun s _ => ?_
    rw [len_if, ← clos_two]; rfl
  · unfold L3 L2
    rw [List.flatMap_map, List.filter_flatMap, List.flatMap_assoc, len_flatS]
    refine sumL_congr fun r _ => ?_
    rw [len_flatS]
    unfold extS
    have : ∀ (S : List Sta), sumL (S.flatMap fun s => if goes x [r] s = true then [[r] ++ [s]] else []) (fun l => (List.filter (clos x) ((stas x).flatMap fun s => if goes x l s = true then [l ++ [s]] else [])).length) = sumL S fun s => sumL (stas x) fun q => (c3 x r s q).toNat := by
      intro S
      induction S with
      | nil => rfl
      | cons s S ih =>
        rw [List.flatMap_cons, sumL_cons]
        have e : ∀ (a b : List (List Sta)) (f : List Sta → Nat), sumL (a ++ b) f = sumL a f + sumL b f := fun a b f => by simp [sumL]
        rw [e, ih]
        congr 1
        cases hg : goes x [r] s with
        | false =>
          simp only [Bool.false_eq_true, if_false, sumL_nil]
          rw [sumL_congr (g := fun _ => 0) fun q _ => by rw [← clos_three, hg]; rfl, sumL_zero]
        | true =>
          simp only [if_true, sumL_cons, sumL_nil, Nat.add_zero]
          rw [List.filter_flatMap, len_flatS]
          refine sumL_congr fun q _ => ?_
          rw [len_if, ← clos_three, hg]; rfl
    exact this (stas x)

/-! ### IsCircle of the program -/
theorem isCircle_eq {x : Acs} (hv : vld x = true) {l : List Sta} (hf : few l) : delay_accesses_isCircle x l = some (isC x l) := by
  unfold delay_accesses_isCircle
  obtain ⟨r, e, hr⟩ := scan1 (R := Sum Unit Unit) l (fun k => ∀ i, i < k → isSt x (l.getD i (0, 0, 0)) = true ∧ goes x (l.take i) (l.getD i (0, 0, 0)) = true)
    (fun r => (r = .inr () ∧ ∀ i, i < l.length → isSt x (l.getD i (0, 0, 0)) = true ∧ goes x (l.take i) (l.getD i (0, 0, 0)) = true) ∨ (r = .inl () ∧ ∃ i, i < l.length ∧ ¬ (isSt x (l.getD i (0, 0, 0)) = true ∧ goes x (l.take i) (l.getD i (0, 0, 0)) = true))) (body := delay_accesses_isCircle_b1 x l) (fun i hi => absurd hi (Nat.not_lt_zero i))
    (fun k s hk hI => by
      obtain ⟨hlt, hik⟩ := few_in hf hk
      have hd : l.getD k (0, 0, 0) = s := getD_of hk
      have hb : delay_accesses_isCircle_b1 x l (k : Int) = if isSt x s = true ∧ goes x (l.take k) s = true then some (.next ((k : Int) + 1)) else some (.done (Sum.inl ())) := by
        unfold delay_accesses_isCircle_b1
        rw [Int.toNat_natCast, hd, if_pos (decide_eq_true (by omega)), ck_pos (by omega), ck_pos (by omega), isStation_eq, Option.bind_some]
        cases hs : isSt x s with
        | false => simp
        | true =>
          rw [if_neg (by simp), ck_pos (by omega), ck_pos (by omega), goesOn_eq (l := l.take k) (fun o ho => by
            obtain ⟨i, hi, rfl⟩ := List.getElem_of_mem ho
            rw [List.length_take] at hi
            have := (hI i (by omega)).1
            rw [List.getElem_take]
            rwa [getD_of (List.getElem?_eq_getElem (show i < l.length by omega))] at this) hs (by unfold few at *; rw [List.length_take]; omega), Option.bind_some]
          cases goes x (l.take k) s <;> simp [ck_pos hik]
      by_cases hc : isSt x s = true ∧ goes x (l.take k) s = true
      · rw [if_pos hc] at hb
        refine .inl ⟨hb, fun i hi => ?_⟩
        rcases Nat.lt_or_ge i k with h | h
        · exact hI i h
        · have : i = k := by omega
          subst this
          rw [hd]; exact hc
      · rw [if_neg hc] at hb
        exact .inr ⟨_, hb, .inr ⟨rfl, k, hlt, by rw [hd]; exact hc⟩⟩)
    (fun hI => ⟨_, (by unfold delay_accesses_isCircle_b1; rw [if_neg (by simp)]), .inl ⟨rfl, hI⟩⟩)
  rw [e, Option.bind_some]
  rcases hr with ⟨rfl, hall⟩ | ⟨rfl, i, hi, hno⟩
  · unfold delay_accesses_isCircle_k1
    simp only
    have hst : ∀ o ∈ l, isSt x o = true := fun o ho => by
      obtain ⟨i, hi, rfl⟩ := List.getElem_of_mem ho
      have := (hall i hi).1
      rwa [getD_of (List.getElem?_eq_getElem hi)] at this
    rw [isClosed_eq hst hf]
    show some (clos x l) = some (isC x l)
    congr 1
    match l, hall, hst with
    | [], _, _ => rfl
    | [r], _, _ => simp [clos, lastS, mts, conf, isC]
    | [r, s], hall, hst =>
      have h1 := (hall 1 (by simp)).2
      have h1 : goes x [r] s = true := h1
      have := clos_two (x := x) (r := r) (s := s)
      rw [h1, Bool.true_and] at this
      rw [this]
      simp [isC, hst r (by simp), hst s (by simp)]
    | [r, s, q], hall, hst =>
      have h1 : goes x [r] s = true := (hall 1 (by simp)).2
      have h2 : goes x [r, s] q = true := (hall 2 (by simp)).2
      have := clos_three (x := x) (r := r) (s := s) (q := q)
      rw [h1, h2, Bool.true_and, Bool.true_and] at this
      rw [this]
      simp [isC, hst r (by simp), hst s (by simp), hst q (by simp)]
    | r :: s :: q :: p :: m, hall, hst =>
      exfalso
      have h1 : goes x [r] s = true := (hall 1 (by simp)).2
      have h2 : goes x [r, s] q = true := (hall 2 (by simp)).2
      have h3 : goes x [r, s, q] p = true := (hall 3 (by simp)).2
      rw [goes_two] at h1
      rw [goes_three] at h2
      rw [goes_four] at h3
      simp only [Bool.and_eq_true, Bool.not_eq_true', Bool.or_eq_false_iff, decide_eq_false_iff_not] at h1 h2 h3
      have := st_thread hv (hst r (by simp))
      have := st_thread hv (hst s (by simp))
      have := st_thread hv (hst q (by simp))
      have := st_thread hv (hst p (by simp))
      omega
  · simp only
    congr 1
    symm
    rw [Bool.eq_false_iff]
    intro hc
    apply hno
    unfold isC at hc
    split at hc
    · rename_i r s
      simp only [Bool.and_eq_true] at hc
      obtain ⟨hr, hs, hc⟩ := hc
      rw [← clos_two, Bool.and_eq_true] at hc
      match i, hi with
      | 0, _ => exact ⟨hr, by simp [goes]⟩
      | 1, _ => exact ⟨hs, hc.1⟩
      | i + 2, hi => exact absurd hi (by simp only [List.length_cons, List.length_nil]; omega)
    · rename_i r s q
      simp only [Bool.and_eq_true] at hc
      obtain ⟨hr, hs, hq, hc⟩ := hc
      rw [← clos_three, Bool.and_eq_true, Bool.and_eq_true] at hc
      match i, hi with
      | 0, _ => exact ⟨hr, by simp [goes]⟩
      | 1, _ => exact ⟨hs, hc.1⟩
      | 2, _ => exact ⟨hq, hc.2.1⟩
      | i + 3, hi => exact absurd hi (by simp only [List.length_cons, List.length_nil]; omega)
    · cases hc

theorem IsCircle_eq (x : Acs) {l : List Sta} (hf : few l) : delay_IsCircle x l = some (if vld x = true then isC x l else false, if vld x = true then 0 else 90) := by
  unfold delay_IsCircle
  rw [of_eq, Option.bind_some]
  cases hv : vld x with
  | false => rfl
  | true =>
    simp only [if_true]
    rw [if_neg (by simp), isCircle_eq hv hf]; rfl

end Go.Proofs.Ytdicomoggfhbfaa
