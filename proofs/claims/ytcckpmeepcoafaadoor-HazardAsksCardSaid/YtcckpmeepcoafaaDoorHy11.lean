/-
  Hazard: what single calls return behind deeds is what the reference's yard returns.
-/
import Derived.Test.YtcckpmeepcoafaaDoorHy5
import Derived.Test.YtcckpmeepcoafaaDoorHy9
namespace Go.Proofs.YtcckpmeepcoafaaDoor
open Go.RowKit

set_option linter.unusedVariables false
set_option linter.unusedSimpArgs false
set_option linter.constructorNameAsVariable false
set_option maxRecDepth 10000

section
variable {n m : Nat} {N : El T63} {S : El T65} {L : El T69} {X : El T66} {Y : List (Int × Int)} {Z : List (List Int)} {A : Mo}

theorem sameI_eq (l : List Int) (hl : l.length ≤ 1000) : linealref06_SameInts l l = some true := by
  unfold linealref06_SameInts
  rw [if_neg (by simp)]
  obtain ⟨r, h1, h2⟩ := scan1 l (fun _ => True) (fun r : Sum Unit Unit => r = Sum.inr ()) (body := linealref06_SameInts_b1 l l) trivial (fun k x hx _ => by
    left
    refine ⟨?_, trivial⟩
    have hk := (List.getElem?_eq_some_iff.1 hx).1
    have c1 : ((k : Nat) : Int) < (l.length : Int) := by omega
    unfold linealref06_SameInts_b1
    rw [if_pos (decide_eq_true c1), ck_pos (show (0 : Int) ≤ (k : Int) by omega), ck_pos c1, ck_pos (show (0 : Int) ≤ (k : Int) by omega), ck_pos c1, if_neg (by simp), ck_pos (inK_small (by omega))]) (fun _ => ⟨Sum.inr (), by unfold linealref06_SameInts_b1; rw [if_neg (by simp)], rfl⟩)
  rw [h1, h2]
  rfl

/-! ### What the reference tells -/

theorem rState_eq (hr : Rr n X Y Z A) (k a b : Int) : linealref06_Yard_State k a b X Y Z = some (stateA A k) := by
  unfold linealref06_Yard_State stateA
  rw [rnd, Option.bind_some]
  by_cases h : 0 ≤ k ∧ k < 8
  · rw [decide_eq_true h, if_neg (by simp), if_pos h, ck_pos h.1, ck_pos h.2, Nat.mul_one, hr.nd k.toNat (by omega)]
  · rw [decide_eq_false h, if_pos (by simp), if_neg h]

theorem rList_eq (h4 : n ≤ 4) (hr : Rr n X Y Z A) (M t : Int) : linealref06_Yard_List t (n : Int) M X Y Z = some (listA n A t) := by
  unfold linealref06_Yard_List listA
  rw [rth h4, Option.bind_some]
  by_cases h : 0 ≤ t ∧ t < n
  · rw [decide_eq_true h, if_neg (by simp), if_pos h, ck_pos h.1, ck_pos (by rw [hr.zl]; exact h.2), hr.ls t.toNat (by omega)]
  · rw [decide_eq_false h, if_pos (by simp), if_neg h]

theorem rSlot_eq (h4 : n ≤ 4) (hr : Rr n X Y Z A) (M t s : Int) : linealref06_Yard_Slot t s (n : Int) M X Y Z = some (slotA n A t s) := by
  unfold linealref06_Yard_Slot slotA
  rw [rth h4, Option.bind_some]
  by_cases h : 0 ≤ t ∧ t < n
  · rw [decide_eq_true h, if_neg (by simp), rsl, Option.bind_some]
    by_cases h1 : 0 ≤ s ∧ s < 2
    · have hc : (0 ≤ t ∧ t < (n : Int)) ∧ 0 ≤ s ∧ s < 2 := ⟨h, h1⟩
      rw [decide_eq_true h1, if_neg (by simp), if_pos hc, ck_pos h.1, ck_pos (by rw [hr.yl]; exact h.2), ck_pos h1.1, ck_pos h1.2, hr.sl t.toNat (by omega)]
      by_cases h0 : s = 0
      · rw [if_pos (decide_eq_true h0), h0]; rfl
      · have e : s.toNat = 1 := by omega
        rw [if_neg (by simpa using h0), e]
    · rw [decide_eq_false h1, if_pos (by simp), if_neg (fun c => h1 c.2)]
  · rw [decide_eq_false h, if_pos (by simp), if_neg (fun c => h c.1)]

theorem rCount_eq (hr : Rr n X Y Z A) (w a b : Int) : linealref06_Yard_Count w a b X Y Z = some (cntM A w : Int) := by
  unfold linealref06_Yard_Count
  obtain ⟨r, hr', hg⟩ := scan2 (List.range 8) (fun k (s : Int) => s = (((List.range k).filter fun j => decide (A.N j = w)).length : Int)) (fun r => r = (cntM A w : Int)) (body := linealref06_Yard_Count_b1 w X) (s0 := 0) rfl (fun k x s hx hs => by
    have hk : k < 8 := by simpa using (List.getElem?_eq_some_iff.1 hx).1
    left
    unfold linealref06_Yard_Count_b1
    have hb : ((List.range k).filter fun j => decide (A.N j = w)).length ≤ k := by
      have := List.length_filter_le (fun j => decide (A.N j = w)) (List.range k)
      simpa using this
    have hat := hr.nd k hk
    rw [if_pos (decide_eq_true (show ((k : Nat) : Int) < 8 by omega)), ck_pos (by omega), ck_pos (by simp; omega)]
    simp only [Int.toNat_natCast, Nat.mul_one, hat]
    by_cases h : A.N k = w
    · refine ⟨s + 1, ?_, ?_⟩
      · rw [if_pos (decide_eq_true h), ck_pos (by rw [hs]; exact inK_small (by omega)), ck_pos (inK_small (by omega))]
      · rw [List.range_succ, List.filter_append, List.length_append, hs]
        simp [h]
    · refine ⟨s, ?_, ?_⟩
      · rw [if_neg (by simpa using h), ck_pos (inK_small (by omega))]
      · rw [List.range_succ, List.filter_append, List.length_append, hs]
        simp [h]) (fun s hs => ⟨s, by unfold linealref06_Yard_Count_b1; rw [if_neg (by simp)], by rw [hs]; simp [cntM]⟩)
  rw [hr', hg]; rfl

theorem rHeld_eq (hI : Iv n m A) (hr : Rr n X Y Z A) (M : Int) : linealref06_Yard_Held (n : Int) M X Y Z = some (heldL A) := by
  unfold linealref06_Yard_Held
  obtain ⟨r, hr', hg⟩ := scan2 (List.range 8) (fun k (s : List Int) => s = ((List.range k).map fun j : Nat => (j : Int)).filter (hld A)) (fun r => r = heldL A) (body := linealref06_Yard_Held_b1 (n : Int) M X Y Z) (s0 := []) rfl (fun k x s hx hs => by
    have hk : k < 8 := by simpa using (List.getElem?_eq_some_iff.1 hx).1
    left
    unfold linealref06_Yard_Held_b1
    have hb : s.length ≤ k := by
      have := List.length_filter_le (hld A) ((List.range k).map fun j : Nat => (j : Int))
      rw [hs]; simpa using this
    rw [if_pos (decide_eq_true (show ((k : Nat) : Int) < 8 by omega)), rIsHeld_eq hI hr]
    simp only [Option.bind_some]
    cases h : hld A (k : Int) with
    | true =>
      refine ⟨s ++ [(k : Int)], ?_, ?_⟩
      · rw [if_pos rfl, ck_pos (by omega), ck_pos (inK_small (by omega))]
      · rw [List.range_succ, List.map_append, List.filter_append, hs]
        simp [h]
    | false =>
      refine ⟨s, ?_, ?_⟩
      · rw [if_neg (by simp), ck_pos (inK_small (by omega))]
      · rw [List.range_succ, List.map_append, List.filter_append, hs]
        simp [h]) (fun s hs => ⟨s, by unfold linealref06_Yard_Held_b1; rw [if_neg (by simp)], by rw [hs]; simp [heldL]⟩)
  rw [hr', hg]; rfl

/-! ### A yard is that of the reference -/

theorem is_b1 (hI : Iv n m A) (hR : Rp N S L A) (hr : Rr n X Y Z A) : whileO (lineallaw06_Is_b1 ((n : Int), (m : Int), N, S, L) X) 0 = some (Sum.inr ()) := by
  obtain ⟨r, h1, h2⟩ := scan1 (List.range 8) (fun _ => True) (fun r : Sum Unit Unit => r = Sum.inr ()) (body := lineallaw06_Is_b1 ((n : Int), (m : Int), N, S, L) X) trivial (fun k x hx _ => by
    left
    refine ⟨?_, trivial⟩
    have hk : k < 8 := by simpa using (List.getElem?_eq_some_iff.1 hx).1
    have hs : stateA A (k : Int) = (A.N k, 0) := by unfold stateA; rw [if_pos (by omega), Int.toNat_natCast]
    have hx2 : intAt T66 X (((k : Nat) : Int).toNat * 1) = A.N k := by rw [Int.toNat_natCast, Nat.mul_one]; exact hr.nd k hk
    unfold lineallaw06_Is_b1
    rw [if_pos (decide_eq_true (show ((k : Nat) : Int) < 8 by omega)), state_eq hI.n1 hR, hs, Option.bind_some]
    dsimp only
    rw [if_neg (by simp), ck_pos (show (0 : Int) ≤ (k : Int) by omega), ck_pos (show ((k : Nat) : Int) < 8 by omega), hx2, if_neg (by simp), ck_pos (inK_small (by omega))]) (fun _ => ⟨Sum.inr (), by unfold lineallaw06_Is_b1; rw [if_neg (by simp)], rfl⟩)
  rw [h1, h2]

theorem is_b3 (hI : Iv n m A) (hR : Rp N S L A) (hr : Rr n X Y Z A) {t : Nat} (ht : t < n) : whileO (lineallaw06_Is_b3 ((n : Int), (m : Int), N, S, L) Y (t : Int)) 0 = some (Sum.inr ()) := by
  have h4 := hI.n4
  have hg : Y.getD ((t : Nat) : Int).toNat (0, 0) = (A.S (t * 2), A.S (t * 2 + 1)) := hr.sl t ht
  have c1 : (0 : Int) ≤ (t : Int) := by omega
  have c2 : (t : Int) < (Y.length : Int) := by rw [hr.yl]; omega
  have s0 : slotA n A (t : Int) 0 = (A.S (t * 2), 0) := by unfold slotA; rw [if_pos (by omega)]; rfl
  have s1 : slotA n A (t : Int) 1 = (A.S (t * 2 + 1), 0) := by unfold slotA; rw [if_pos (by omega)]; rfl
  refine whileO_on (s' := (1 : Int)) ?_ (whileO_on (s' := (2 : Int)) ?_ (whileO_end ?_))
  · unfold lineallaw06_Is_b3
    rw [if_pos (by simp), slot_eq hI hR, s0, Option.bind_some]
    dsimp only
    rw [if_neg (by simp), ck_pos c1, ck_pos c2, ck_pos (by omega), ck_pos (by omega), if_pos (by simp), hg, if_neg (by simp), ck_pos (by rw [inK_i64]; omega)]
    rfl
  · unfold lineallaw06_Is_b3
    rw [if_pos (by simp), slot_eq hI hR, s1, Option.bind_some]
    dsimp only
    rw [if_neg (by simp), ck_pos c1, ck_pos c2, ck_pos (by omega), ck_pos (by omega), if_neg (by simp), hg, if_neg (by simp), ck_pos (by rw [inK_i64]; omega)]
    rfl
  · unfold lineallaw06_Is_b3
    rw [if_neg (by simp)]

theorem is_b2 (hI : Iv n m A) (hR : Rp N S L A) (hr : Rr n X Y Z A) : whileO (lineallaw06_Is_b2 ((n : Int), (m : Int), N, S, L) (n : Int) Y Z) 0 = some (Sum.inr ()) := by
  have h4 := hI.n4
  obtain ⟨r, h1, h2⟩ := scan1 (List.range n) (fun _ => True) (fun r : Sum Unit Unit => r = Sum.inr ()) (body := lineallaw06_Is_b2 ((n : Int), (m : Int), N, S, L) (n : Int) Y Z) trivial (fun k x hx _ => by
    left
    refine ⟨?_, trivial⟩
    have hk : k < n := by simpa using (List.getElem?_eq_some_iff.1 hx).1
    have hs : listA n A (k : Int) = (A.L k, 0) := by unfold listA; rw [if_pos (by omega), Int.toNat_natCast]
    have hz : Z.getD ((k : Nat) : Int).toNat [] = A.L k := hr.ls k hk
    have hf := hI.few (t := k)
    unfold lineallaw06_Is_b2
    rw [if_pos (decide_eq_true (show ((k : Nat) : Int) < (n : Int) by omega)), list_eq hI hR, hs, Option.bind_some]
    dsimp only
    rw [if_neg (by simp), ck_pos (show (0 : Int) ≤ (k : Int) by omega), ck_pos (show ((k : Nat) : Int) < (Z.length : Int) by rw [hr.zl]; omega), hz, sameI_eq _ (by omega), Option.bind_some, if_neg (by simp), is_b3 hI hR hr hk, Option.bind_some]
    unfold lineallaw06_Is_k3
    dsimp only
    rw [ck_pos (inK_small (by omega))]) (fun _ => ⟨Sum.inr (), by unfold lineallaw06_Is_b2; rw [if_neg (by simp)], rfl⟩)
  rw [h1, h2]

theorem Is_eq (hI : Iv n m A) (hR : Rp N S L A) (hr : Rr n X Y Z A) : lineallaw06_Is ((n : Int), (m : Int), N, S, L) (n : Int) (m : Int) X Y Z = some true := by
  unfold lineallaw06_Is
  have hl := heldL_len A
  rw [By_eq hI.n1 hR, Option.bind_some, rCount_eq hr, Option.bind_some, if_neg (by simp), Free_eq hI.n1 hR, Option.bind_some, rCount_eq hr, Option.bind_some, if_neg (by simp), Held_eq hI.n1 hR, Option.bind_some, rHeld_eq hI hr, Option.bind_some, sameI_eq _ (by omega), Option.bind_some, if_neg (by simp), is_b1 hI hR hr, Option.bind_some]
  dsimp only
  unfold lineallaw06_Is_k1
  rw [is_b2 hI hR hr, Option.bind_some]
  rfl

/-! ### The law -/

theorem asks_loop (hI : Iv n m newM) {N0 : El T63} {S0 : El T65} {L0 : El T69} (hR0 : Rp N0 S0 L0 newM) {X0 : El T66} {Y0 : List (Int × Int)} {Z0 : List (List Int)} (hr0 : Rr n X0 Y0 Z0 newM) (x : List (Int × Int × Int × Int) × Int × Int × Int) (hl : x.1.length ≤ 100) :
    ∃ r : El T63 × El T65 × El T69 × El T66 × List (Int × Int) × List (List Int), whileO (lineallaw06_HazardAsks_b1 (n : Int) (m : Int) x) (N0, S0, L0, X0, Y0, Z0, 0) = some r ∧ Rp r.1 r.2.1 r.2.2.1 (behind n m newM x.1) ∧ Rr n r.2.2.2.1 r.2.2.2.2.1 r.2.2.2.2.2 (behind n m newM x.1) := by
  refine whileO_inv (fun q : El T63 × El T65 × El T69 × El T66 × List (Int × Int) × List (List Int) × Int => ∃ k : Nat, q.2.2.2.2.2.2 = (k : Int) ∧ k ≤ x.1.length ∧ Rp q.1 q.2.1 q.2.2.1 (behind n m newM (x.1.take k)) ∧ Rr n q.2.2.2.1 q.2.2.2.2.1 q.2.2.2.2.2.1 (behind n m newM (x.1.take k))) (fun q => x.1.length - q.2.2.2.2.2.2.toNat) _ ?_ (N0, S0, L0, X0, Y0, Z0, 0) ⟨0, rfl, Nat.zero_le _, hR0, hr0⟩
  rintro ⟨N, S, L, X, Y, Z, q⟩ ⟨k, hq, hk, hR, hr⟩
  simp only at hq hR hr
  subst hq
  by_cases hlt : k < x.1.length
  · left
    have hx := List.getElem?_eq_getElem hlt
    have hIk := hI.behind_ (x.1.take k)
    obtain ⟨N', S', L', e, hR'⟩ := Do_eq hIk hR x.1[k]
    obtain ⟨X', Y', Z', e2, hr'⟩ := rDo_eq hIk hr x.1[k]
    have hg : x.1.getD ((k : Nat) : Int).toNat (0, 0, 0, 0) = x.1[k] := getD_of hx
    refine ⟨(N', S', L', X', Y', Z', (k : Int) + 1), ?_, ⟨k + 1, rfl, hlt, by rw [behind_succ hlt]; exact hR', by rw [behind_succ hlt]; exact hr'⟩, by simp; omega⟩
    unfold lineallaw06_HazardAsks_b1
    dsimp only
    rw [if_pos (decide_eq_true (show ((k : Nat) : Int) < (x.1.length : Int) by omega)), ck_pos (show (0 : Int) ≤ (k : Int) by omega), ck_pos (show ((k : Nat) : Int) < (x.1.length : Int) by omega), hg, e, Option.bind_some, e2, Option.bind_some]
    dsimp only
    rw [ck_pos (inK_small (by omega))]
  · right
    have : k = x.1.length := by omega
    subst this
    rw [List.take_length] at hR hr
    exact ⟨_, by unfold lineallaw06_HazardAsks_b1; rw [if_neg (by simp)], hR, hr⟩

theorem listA_len (hI : Iv n m A) (t : Int) : (listA n A t).1.length ≤ 1000 := by
  unfold listA
  split
  · have := hI.few (t := t.toNat); simp only; omega
  · simp

theorem asks_k1 (hI : Iv n m A) {q : El T63 × El T65 × El T69 × El T66 × List (Int × Int) × List (List Int)} (hR : Rp q.1 q.2.1 q.2.2.1 A) (hr : Rr n q.2.2.2.1 q.2.2.2.2.1 q.2.2.2.2.2 A) (x : List (Int × Int × Int × Int) × Int × Int × Int) :
    lineallaw06_HazardAsks_k1 (n : Int) (m : Int) x q = some true := by
  have h4 := hI.n4
  obtain ⟨N, S, L, X, Y, Z⟩ := q
  obtain ⟨ds, a, b, c⟩ := x
  simp only at hR hr
  obtain ⟨S1, e1, hR1⟩ := Point_eq hI hR a b c
  obtain ⟨Y1, f1, hr1⟩ := rPoint_eq h4 hr (m : Int) a b c
  have hI1 := hI.point a b c
  obtain ⟨S2, e2, hR2⟩ := Clear_eq hI1 hR1 b a
  obtain ⟨Y2, f2, hr2⟩ := rClear_eq h4 hr1 (m : Int) b a
  have hI2 := hI1.clear b a
  obtain ⟨N3, L3, e3, hR3⟩ := PutBy_eq hI2 hR2 a c
  obtain ⟨X3, Z3, f3, hr3⟩ := rPutBy_eq hI2 hr2 a c
  have hI3 := hI2.put a c
  obtain ⟨N4, e4, hR4⟩ := Take_eq hI3 hR3 b
  obtain ⟨X4, f4, hr4⟩ := rTake_eq h4 hr3 (m : Int) b
  have hI4 := hI3.take b
  obtain ⟨N5, L5, e5, hR5⟩ := Sweep_eq hI4 hR4 a
  obtain ⟨X5, Z5, f5, hr5⟩ := rSweep_eq hI4 hr4 a
  have hI5 := hI4.sweep a
  unfold lineallaw06_HazardAsks_k1
  dsimp only
  rw [state_eq hI.n1 hR, Option.bind_some, rState_eq hr, Option.bind_some, list_eq hI hR, Option.bind_some, rList_eq h4 hr, Option.bind_some, if_neg (by simp), if_neg (by simp), sameI_eq _ (listA_len hI a), Option.bind_some, if_neg (by simp), if_neg (by simp)]
  rw [slot_eq hI hR, Option.bind_some, rSlot_eq h4 hr, Option.bind_some, use_eq hI hR, Option.bind_some, rUse_eq hI hr, Option.bind_some, if_neg (by simp), if_neg (by simp), if_neg (by simp), if_neg (by simp)]
  rw [e1, Option.bind_some, f1, Option.bind_some]
  dsimp only
  rw [if_neg (by simp), e2, Option.bind_some, f2, Option.bind_some]
  dsimp only
  rw [if_neg (by simp), e3, Option.bind_some, f3, Option.bind_some]
  dsimp only
  rw [e4, Option.bind_some, f4, Option.bind_some]
  dsimp only
  rw [if_neg (by simp), if_neg (by simp), if_neg (by simp), if_neg (by simp), e5, Option.bind_some, f5, Option.bind_some]
  dsimp only
  rw [if_pos (by simp), if_pos (by simp), Is_eq hI5 hR5 hr5, Option.bind_some, if_pos rfl, lineallaw06_Sane_run]
  rfl

theorem HazardAsks_eq (a b : Int) (x : List (Int × Int × Int × Int) × Int × Int × Int) : lineallaw06_HazardAsks a b x = some true := by
  unfold lineallaw06_HazardAsks
  by_cases hab : (1 ≤ a ∧ a ≤ 4) ∧ 1 ≤ b ∧ b ≤ 4
  · obtain ⟨n, rfl⟩ : ∃ n : Nat, a = (n : Int) := ⟨a.toNat, by omega⟩
    obtain ⟨m, rfl⟩ : ∃ m : Nat, b = (m : Int) := ⟨b.toNat, by omega⟩
    obtain ⟨S0, e0, hR0⟩ := New_eq hab.1 hab.2
    rw [e0, Option.bind_some]
    dsimp only
    have hone : lineallaw06_isOne_2 0 (n : Int) (m : Int) ((n : Int), (m : Int), Ty.dflt T63, S0, Ty.dflt T69) = some true := by
      unfold lineallaw06_isOne_2
      rw [rIsNew_eq, decide_eq_true hab, Option.bind_some, if_neg (by simp)]
      rfl
    rw [hone, Option.bind_some, if_neg (by simp)]
    by_cases hl : 100 < (x.1.length : Int)
    · rw [if_pos (decide_eq_true hl), lineallaw06_Sane_run]; rfl
    · have hI : Iv n m newM := Iv.new (by omega) (by omega) (by omega) (by omega)
      obtain ⟨r, e1, hR, hr⟩ := asks_loop hI hR0 (Rr.new_ (n := n) fun j hj => z66 hj) x (by omega)
      rw [if_neg (by simpa using hl), rNew_eq (by omega), Option.bind_some]
      dsimp only
      rw [e1, Option.bind_some, asks_k1 (hI.behind_ x.1) hR hr]
  · rw [New_no hab, Option.bind_some]
    dsimp only
    have hone : lineallaw06_isOne 2 a b = some true := by
      unfold lineallaw06_isOne
      rw [rIsNew_eq, decide_eq_false hab, Option.bind_some, if_pos (by simp)]
      rfl
    rw [hone, Option.bind_some, if_neg (by simp), lineallaw06_Sane_run]; rfl

end
end Go.Proofs.YtcckpmeepcoafaaDoor
