/-
  Hazard: if all slots are empty and all threads have swept, no node is by.
-/
import Derived.Test.YtcckpmeepcoafaaDoorHy4
import Derived.Test.YtcckpmeepcoafaaDoorHztw
namespace Go.Proofs.YtcckpmeepcoafaaDoor
open Go.RowKit

set_option linter.unusedVariables false
set_option linter.unusedSimpArgs false
set_option linter.constructorNameAsVariable false
set_option maxRecDepth 10000

section
variable {n m : Nat} {N : El T63} {S : El T65} {L : El T69} {A : Mo}

theorem sw_again (A : Mo) (t : Nat) : swN (swM A t) t = 0 := by
  have h1 : (swM A t).L t = (A.L t).filter (hld A) := upd_same _ _ _
  have h2 : hld (swM A t) = hld A := rfl
  unfold swN
  rw [h1, h2, List.filter_filter]
  simp

theorem sweepA_in {t : Nat} (ht : t < n) : sweepA n A (t : Int) = (swN A t, 0, swM A t) := by
  unfold sweepA; rw [if_pos (by omega), Int.toNat_natCast]

/-- Both sweeps of each thread. -/
theorem ends_b1 (hI : Iv n m A) {r : El T63 × El T65 × El T69} (hR : Rp r.1 r.2.1 r.2.2 A) {s : Int × Int} (hn : 1 + s.1 % 4 = (n : Int)) (hm : 1 + s.2 % 4 = (m : Int)) :
    ∃ q : El T63 × El T69, whileO (lineallaw06_HazardEnds_b1 s r) (r.1, r.2.2, 0) = some (Sum.inr q) ∧ ∃ B, Iv n m B ∧ Rp q.1 r.2.1 q.2 B := by
  have h4 := hI.n4
  have key : ∃ x : Sum Unit (El T63 × El T69), whileO (lineallaw06_HazardEnds_b1 s r) (r.1, r.2.2, 0) = some x ∧ ∃ q, x = Sum.inr q ∧ ∃ B, Iv n m B ∧ Rp q.1 r.2.1 q.2 B := by
    refine whileO_inv (fun q : El T63 × El T69 × Int => ∃ k : Nat, q.2.2 = (k : Int) ∧ k ≤ n ∧ ∃ B, Iv n m B ∧ Rp q.1 r.2.1 q.2.1 B) (fun q => n - q.2.2.toNat) _ ?_ (r.1, r.2.2, 0) ⟨0, rfl, Nat.zero_le _, A, hI, hR⟩
    rintro ⟨N1, L1, q⟩ ⟨k, hq, hk, B, hIB, hRB⟩
    simp only at hq hRB
    subst hq
    by_cases hlt : k < n
    · left
      obtain ⟨N2, L2, e1, hR2⟩ := Sweep_eq hIB hRB (k : Int)
      have hI2 := hIB.sweep (k : Int)
      rw [sweepA_in hlt] at e1 hR2 hI2
      obtain ⟨N3, L3, e2, hR3⟩ := Sweep_eq hI2 hR2 (k : Int)
      have hI3 := hI2.sweep (k : Int)
      rw [sweepA_in hlt] at e2 hR3 hI3
      refine ⟨(N3, L3, (k : Int) + 1), ?_, ⟨k + 1, rfl, hlt, _, hI3, hR3⟩, by simp; omega⟩
      unfold lineallaw06_HazardEnds_b1
      rw [hn, hm, if_pos (decide_eq_true (show ((k : Nat) : Int) < (n : Int) by omega)), e1, Option.bind_some]
      dsimp only at e2 ⊢
      rw [e2, Option.bind_some]
      dsimp only
      rw [if_neg (by simp), if_neg (by simp), if_neg (by simp [sw_again]), ck_pos (inK_small (by omega))]
    · right
      have : k = n := by omega
      subst this
      exact ⟨Sum.inr (N1, L1), by unfold lineallaw06_HazardEnds_b1; rw [hn, if_neg (by simp)], _, rfl, B, hIB, hRB⟩
  obtain ⟨x, h1, q, rfl, h2⟩ := key
  exact ⟨q, h1, h2⟩

/-- All slots are cleared. -/
theorem ends_b3 {s : Int × Int} (hn : 1 + s.1 % 4 = (n : Int)) (hm : 1 + s.2 % 4 = (m : Int)) {b : El T63 × El T69} {t : Nat} (ht : t < n) (T0 : El T65) {S1 : El T65} (hI : Iv n m A) (hR : Rp b.1 S1 b.2 A) (hS : ∀ j, j < 2 * t → A.S j = -1) :
    ∃ S2, whileO (lineallaw06_HazardEnds_b3 s b (T0, (t : Int))) (S1, 0) = some (Sum.inr S2) ∧ ∃ B, Iv n m B ∧ Rp b.1 S2 b.2 B ∧ ∀ j, j < 2 * (t + 1) → B.S j = -1 := by
  have key : ∃ x : Sum Unit (El T65), whileO (lineallaw06_HazardEnds_b3 s b (T0, (t : Int))) (S1, 0) = some x ∧ ∃ S2, x = Sum.inr S2 ∧ ∃ B, Iv n m B ∧ Rp b.1 S2 b.2 B ∧ ∀ j, j < 2 * (t + 1) → B.S j = -1 := by
    refine scan2 (List.range 2) (fun k S1 => ∃ B, Iv n m B ∧ Rp b.1 S1 b.2 B ∧ ∀ j, j < 2 * t + k → B.S j = -1) _ ⟨A, hI, hR, hS⟩ (fun k x S1 hx hp => ?_) (fun S1 hp => ?_)
    · have hk : k < 2 := by simpa using (List.getElem?_eq_some_iff.1 hx).1
      left
      obtain ⟨B, hIB, hRB, hSB⟩ := hp
      obtain ⟨S2, e1, hR2⟩ := Clear_eq hIB hRB (t : Int) (k : Int)
      have hI2 := hIB.clear (t : Int) (k : Int)
      have hc : clearA n B (t : Int) (k : Int) = (0, { B with S := upd B.S (t * 2 + k) (-1) }) := by
        unfold clearA; rw [if_pos (by omega), Int.toNat_natCast, Int.toNat_natCast]
      rw [hc] at e1 hR2 hI2
      refine ⟨S2, ?_, _, hI2, hR2, fun j hj => ?_⟩
      · unfold lineallaw06_HazardEnds_b3
        rw [hn, hm, if_pos (decide_eq_true (show ((k : Nat) : Int) < 2 by omega))]
        dsimp only
        rw [e1, Option.bind_some, if_neg (by simp), ck_pos (inK_small (by omega))]
      · show upd B.S (t * 2 + k) (-1) j = -1
        unfold upd
        split
        · rfl
        · exact hSB j (by omega)
    · obtain ⟨B, hIB, hRB, hSB⟩ := hp
      exact ⟨Sum.inr S1, by unfold lineallaw06_HazardEnds_b3; rw [if_neg (by simp)], _, rfl, B, hIB, hRB, fun j hj => hSB j (by simp; omega)⟩
  obtain ⟨x, h1, q, rfl, h2⟩ := key
  exact ⟨q, h1, h2⟩

theorem ends_b2 {s : Int × Int} (hn : 1 + s.1 % 4 = (n : Int)) (hm : 1 + s.2 % 4 = (m : Int)) {b : El T63 × El T69} {S1 : El T65} (hI : Iv n m A) (hR : Rp b.1 S1 b.2 A) :
    ∃ S2, whileO (lineallaw06_HazardEnds_b2 s b) (S1, 0) = some (Sum.inr S2) ∧ ∃ B, Iv n m B ∧ Rp b.1 S2 b.2 B ∧ ∀ j, j < 8 → B.S j = -1 := by
  have h4 := hI.n4
  have key : ∃ x : Sum Unit (El T65), whileO (lineallaw06_HazardEnds_b2 s b) (S1, 0) = some x ∧ ∃ S2, x = Sum.inr S2 ∧ ∃ B, Iv n m B ∧ Rp b.1 S2 b.2 B ∧ ∀ j, j < 8 → B.S j = -1 := by
    refine scan2 (List.range n) (fun k S1 => ∃ B, Iv n m B ∧ Rp b.1 S1 b.2 B ∧ ∀ j, j < 2 * k → B.S j = -1) _ ⟨A, hI, hR, fun j hj => by omega⟩ (fun k x S1 hx hp => ?_) (fun S1 hp => ?_)
    · have hk : k < n := by simpa using (List.getElem?_eq_some_iff.1 hx).1
      left
      obtain ⟨B, hIB, hRB, hSB⟩ := hp
      obtain ⟨S2, e1, h2⟩ := ends_b3 hn hm (b := b) hk S1 hIB hRB hSB
      refine ⟨S2, ?_, h2⟩
      unfold lineallaw06_HazardEnds_b2
      rw [hn, if_pos (decide_eq_true (show ((k : Nat) : Int) < (n : Int) by omega)), e1, Option.bind_some]
      dsimp only
      unfold lineallaw06_HazardEnds_k3
      rw [ck_pos (inK_small (by omega))]
    · obtain ⟨B, hIB, hRB, hSB⟩ := hp
      refine ⟨Sum.inr S1, by unfold lineallaw06_HazardEnds_b2; rw [hn, if_neg (by simp)], _, rfl, B, hIB, hRB, fun j hj => ?_⟩
      by_cases hj2 : j < 2 * n
      · exact hSB j (by simpa using hj2)
      · exact hIB.so j (by omega) hj
  obtain ⟨x, h1, q, rfl, h2⟩ := key
  exact ⟨q, h1, h2⟩

theorem hld_no (hS : ∀ j, j < 8 → A.S j = -1) (i : Nat) : hld A (i : Int) = false := by
  cases h : hld A (i : Int) with
  | false => rfl
  | true =>
    obtain ⟨j, hj, h1⟩ := hld_iff.1 h
    have := hS j hj
    omega

theorem filter_no (hI : Iv n m A) (hS : ∀ j, j < 8 → A.S j = -1) {t : Nat} (ht : t < n) : (A.L t).filter (hld A) = [] := by
  rw [List.filter_eq_nil_iff]
  intro x hx
  obtain ⟨i, _, rfl, _⟩ := hI.ls t ht x hx
  simp [hld_no hS i]

/-- How many are in the first lists. -/
def sumL (A : Mo) (k : Nat) : Nat := ((List.range k).flatMap A.L).length
theorem sumL_succ (A : Mo) (k : Nat) : sumL A (k + 1) = sumL A k + (A.L k).length := by
  unfold sumL
  rw [List.range_succ, List.flatMap_append, List.length_append]; simp
theorem sumL_le (hI : Iv n m A) : ∀ k, sumL A k ≤ 8 * k
  | 0 => by simp [sumL]
  | k + 1 => by
    have := sumL_le hI k
    have h2 := hI.few (t := k)
    rw [sumL_succ]; omega

theorem ends_b4 (hI : Iv n m A) {s : Int × Int} (hn : 1 + s.1 % 4 = (n : Int)) (hm : 1 + s.2 % 4 = (m : Int)) (hR : Rp N S L A) (hS : ∀ j, j < 8 → A.S j = -1) :
    ∃ r : El T63 × El T69 × Int, whileO (lineallaw06_HazardEnds_b4 s S) (N, L, 0, 0) = some (Sum.inr r) ∧ r.2.2 = (sumL A n : Int) ∧ ∃ B, Iv n m B ∧ Rp r.1 S r.2.1 B ∧ B.S = A.S ∧ ∀ u, u < n → B.L u = [] := by
  have h4 := hI.n4
  have key : ∃ x : Sum Unit (El T63 × El T69 × Int), whileO (lineallaw06_HazardEnds_b4 s S) (N, L, 0, 0) = some x ∧ ∃ r, x = Sum.inr r ∧ r.2.2 = (sumL A n : Int) ∧ ∃ B, Iv n m B ∧ Rp r.1 S r.2.1 B ∧ B.S = A.S ∧ ∀ u, u < n → B.L u = [] := by
    refine whileO_inv (fun q : El T63 × El T69 × Int × Int => ∃ k : Nat, q.2.2.2 = (k : Int) ∧ k ≤ n ∧ q.2.2.1 = (sumL A k : Int) ∧ ∃ B, Iv n m B ∧ Rp q.1 S q.2.1 B ∧ B.S = A.S ∧ (∀ u, u < k → B.L u = []) ∧ ∀ u, k ≤ u → B.L u = A.L u) (fun q => n - q.2.2.2.toNat) _ ?_ (N, L, 0, 0) ⟨0, rfl, Nat.zero_le _, rfl, A, hI, hR, rfl, fun u hu => by omega, fun _ _ => rfl⟩
    rintro ⟨N1, L1, f, q⟩ ⟨k, hq, hk, hf, B, hIB, hRB, hSB, hB1, hB2⟩
    simp only at hq hRB hf
    subst hq
    have hS' : ∀ j, j < 8 → B.S j = -1 := fun j hj => by rw [hSB]; exact hS j hj
    by_cases hlt : k < n
    · left
      obtain ⟨N2, L2, e1, hR2⟩ := Sweep_eq hIB hRB (k : Int)
      have hI2 := hIB.sweep (k : Int)
      rw [sweepA_in hlt] at e1 hR2 hI2
      have hno := filter_no hIB hS' hlt
      have hsw : swN B k = ((A.L k).length : Int) := by unfold swN; rw [hno, hB2 k (Nat.le_refl k)]; simp
      have hsl := sumL_le hI k
      have hle := hI.few (t := k)
      refine ⟨(N2, L2, f + ((A.L k).length : Int), (k : Int) + 1), ?_, ⟨k + 1, rfl, hlt, by rw [sumL_succ]; simp only [hf]; omega, _, hI2, hR2, hSB, fun u hu => ?_, fun u hu => ?_⟩, by simp; omega⟩
      · unfold lineallaw06_HazardEnds_b4
        rw [hn, hm, if_pos (decide_eq_true (show ((k : Nat) : Int) < (n : Int) by omega)), e1, Option.bind_some]
        dsimp only
        rw [if_neg (by simp), hsw, ck_pos (by rw [inK_i64, hf]; omega), ck_pos (inK_small (by omega))]
      · show upd B.L k ((B.L k).filter (hld B)) u = []
        by_cases e : u = k
        · subst e; rw [upd_same, hno]
        · rw [upd_other e]; exact hB1 u (by omega)
      · show upd B.L k ((B.L k).filter (hld B)) u = A.L u
        rw [upd_other (by omega)]; exact hB2 u (by omega)
    · right
      have : k = n := by omega
      subst this
      exact ⟨Sum.inr (N1, L1, f), by unfold lineallaw06_HazardEnds_b4; rw [hn, if_neg (by simp)], _, rfl, hf, B, hIB, hRB, hSB, hB1⟩
  obtain ⟨x, h1, r, rfl, h2⟩ := key
  exact ⟨r, h1, h2⟩

theorem HazardEnds_eq (s : Int × Int) (hs : InK .u8 s.1 ∧ InK .u8 s.2) (ds : List (Int × Int × Int × Int)) : lineallaw06_HazardEnds s ds = some true := by
  unfold lineallaw06_HazardEnds
  by_cases hl : 100 < (ds.length : Int)
  · rw [if_pos (decide_eq_true hl), lineallaw06_Sane_run]; rfl
  · obtain ⟨h1, h2⟩ := (inK_u8 _).1 hs.1
    obtain ⟨h3, h4⟩ := (inK_u8 _).1 hs.2
    obtain ⟨n, hn, n1, n4⟩ := ten s.1 h1
    obtain ⟨m, hm, m1, m4⟩ := ten s.2 h3
    have hI : Iv n m newM := Iv.new n1 n4 m1 m4
    obtain ⟨r0, e0, hR0⟩ := done_eq h1 h2 h3 h4 hn hm ds (by omega)
    have hI0 := hI.behind_ ds
    obtain ⟨q, e1, B, hIB, hRB⟩ := ends_b1 hI0 hR0 hn hm
    obtain ⟨S2, e2, C, hIC, hRC, hSC⟩ := ends_b2 hn hm (b := q) hIB hRB
    obtain ⟨r4, e4, hf, D, hID, hRD, hSD, hLD⟩ := ends_b4 hIC hn hm hRC hSC
    have hcC := (cnt_flat hIC).1
    have hcD := (cnt_flat hID).1
    have hz : (List.range n).flatMap D.L = [] := by
      rw [List.flatMap_eq_nil_iff]
      intro u hu
      exact hLD u (List.mem_range.1 hu)
    rw [hz] at hcD
    have hh : heldL D = [] := by
      unfold heldL
      rw [List.filter_eq_nil_iff]
      intro x hx
      obtain ⟨i, _, rfl⟩ := List.mem_map.1 hx
      simp [hld_no (A := D) (fun j hj => by rw [hSD]; exact hSC j hj) i]
    rw [if_neg (by simpa using hl), e0, Option.bind_some]
    dsimp only
    rw [ck_pos (by rw [inK_i64]; omega), ck_pos h1, ck_pos (by rw [inK_i64]; omega), e1, Option.bind_some]
    dsimp only
    unfold lineallaw06_HazardEnds_k1
    rw [e2, Option.bind_some]
    dsimp only
    unfold lineallaw06_HazardEnds_k2
    rw [hn, hm, By_eq n1 hRC, Option.bind_some, e4, Option.bind_some]
    dsimp only
    unfold lineallaw06_HazardEnds_k4
    have hf2 : r4.2.2 = (cntM C 2 : Int) := by rw [hf, hcC]; rfl
    rw [if_pos (decide_eq_true hf2), hn, hm, By_eq n1 hRD, Option.bind_some, if_pos (decide_eq_true (by rw [hcD]; rfl)), Held_eq n1 hRD, Option.bind_some, hh, if_pos (by simp), lineallaw06_Sane_run]
    rfl

end
end Go.Proofs.YtcckpmeepcoafaaDoor
