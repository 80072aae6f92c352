/-
  Hazard: behind deeds, puts of all nodes, clears of all slots and sweeps of all threads, all nodes are free.
-/
import Derived.Test.YtcckpmeepcoafaaDoorHy5
import Derived.Test.YtcckpmeepcoafaaDoorHy6
import Derived.Test.YtcckpmeepcoafaaDoorHy7
namespace Go.Proofs.YtcckpmeepcoafaaDoor
open Go.RowKit

set_option linter.unusedVariables false
set_option linter.unusedSimpArgs false
set_option linter.constructorNameAsVariable false
set_option maxRecDepth 10000

section
variable {n m : Nat} {N : El T63} {S : El T65} {L : El T69} {A : Mo}

theorem top_b3 : linealtop_TopHazard_b3 = linealtop_TopHazard_b2 := rfl
theorem top_b4 : linealtop_TopHazard_b4 = linealtop_TopHazard_b2 := rfl
theorem top_b7 : linealtop_TopHazard_b7 = lineallaw06_HazardEnds_b3 := rfl
theorem top_b6 : linealtop_TopHazard_b6 = lineallaw06_HazardEnds_b2 := rfl

theorem stateA_in {i : Nat} (hi : i < 8) : stateA A (i : Int) = (A.N i, 0) := by unfold stateA; rw [if_pos (by omega), Int.toNat_natCast]

theorem top_b2 (hI : Iv n m A) (hR : Rp N S L A) {s : Int × Int} (hn : 1 + s.1 % 4 = (n : Int)) (hm : 1 + s.2 % 4 = (m : Int)) (p q : Int) : whileO (linealtop_TopHazard_b2 s (p, q, N, S, L) (heldL A)) 0 = some (Sum.inr ()) := by
  obtain ⟨r, h1, h2⟩ := scan1 (heldL A) (fun _ => True) (fun r : Sum Unit Unit => r = Sum.inr ()) (body := linealtop_TopHazard_b2 s (p, q, N, S, L) (heldL A)) trivial (fun k x hx _ => by
    left
    refine ⟨?_, trivial⟩
    have hk := (List.getElem?_eq_some_iff.1 hx).1
    have hl := heldL_len A
    obtain ⟨⟨i, hi, rfl⟩, hh⟩ := heldL_mem.1 (List.mem_of_getElem? hx)
    have hne := held_ok hI hi hh
    unfold linealtop_TopHazard_b2
    have hg : (heldL A).getD ((k : Nat) : Int).toNat 0 = (i : Int) := getD_of hx
    have c1 : ((k : Nat) : Int) < ((heldL A).length : Int) := by omega
    rw [if_pos (decide_eq_true c1), ck_pos (show (0 : Int) ≤ (k : Int) by omega), ck_pos c1, hg, hn, hm, state_eq hI.n1 hR, stateA_in hi, Option.bind_some]
    dsimp only
    rw [if_neg (by simp), if_neg (by simpa using hne), ck_pos (inK_small (by omega))]) (fun _ => ⟨Sum.inr (), by unfold linealtop_TopHazard_b2; rw [if_neg (by simp)], rfl⟩)
  rw [h1, h2]

/-- A use that has no error gives a node that is not free. -/
theorem use_ok (hI : Iv n m A) {t s : Int} (h : (useA n A t s).2 = 0) : ∃ i : Nat, i < 8 ∧ (useA n A t s).1 = (i : Int) ∧ A.N i ≠ 0 := by
  have h4 := hI.n4
  unfold useA at h ⊢
  split at h
  · rename_i hc
    split at h
    · cases h
    · rename_i hne
      rw [if_pos hc, if_neg hne]
      rcases hI.sl (t.toNat * 2 + s.toNat) (by omega) with h1 | h1
      · exact absurd h1 hne
      · exact h1
  · cases h

theorem do_use (hI : Iv n m A) {d : Int × Int × Int × Int} (h0 : (doA n m A d).2.1 = 0) (h6 : d.1 = 6) : (doA n m A d).2.2 = A ∧ ∃ i : Nat, i < 8 ∧ (doA n m A d).1 = (i : Int) ∧ A.N i ≠ 0 := by
  by_cases hk : okd d = true
  · have e : doA n m A d = ((useA n A d.2.1 d.2.2.1).1, (useA n A d.2.1 d.2.2.1).2, A) := by
      unfold doA
      rw [if_pos hk, if_neg (by omega), if_neg (by omega), if_neg (by omega), if_neg (by omega), if_neg (by omega)]
    rw [e] at h0 ⊢
    exact ⟨rfl, use_ok hI h0⟩
  · have e : doA n m A d = (0, 2, A) := if_neg hk
    rw [e] at h0
    cases h0

/-- Deeds. -/
theorem top_b1 (hI : Iv n m newM) {s : Int × Int} (hn : 1 + s.1 % 4 = (n : Int)) (hm : 1 + s.2 % 4 = (m : Int)) (ds : List (Int × Int × Int × Int)) (hds : ds.length ≤ 100) {Z : El T63} {S0 : El T65} {W : El T69} (hR0 : Rp Z S0 W newM) :
    ∃ r : El T63 × El T65 × El T69, whileO (linealtop_TopHazard_b1 s ds) (Z, S0, W, 0) = some (Sum.inr r) ∧ Rp r.1 r.2.1 r.2.2 (behind n m newM ds) := by
  have key : ∃ x : Sum Unit (El T63 × El T65 × El T69), whileO (linealtop_TopHazard_b1 s ds) (Z, S0, W, 0) = some x ∧ ∃ r, x = Sum.inr r ∧ Rp r.1 r.2.1 r.2.2 (behind n m newM ds) := by
    refine whileO_inv (fun q : El T63 × El T65 × El T69 × Int => ∃ k : Nat, q.2.2.2 = (k : Int) ∧ k ≤ ds.length ∧ Rp q.1 q.2.1 q.2.2.1 (behind n m newM (ds.take k))) (fun q => ds.length - q.2.2.2.toNat) _ ?_ (Z, S0, W, 0) ⟨0, rfl, Nat.zero_le _, hR0⟩
    rintro ⟨N, S, L, q⟩ ⟨k, hq, hk, hR⟩
    simp only at hq hR
    subst hq
    by_cases hlt : k < ds.length
    · left
      have hx := List.getElem?_eq_getElem hlt
      have hIk := hI.behind_ (ds.take k)
      obtain ⟨N', S', L', e, hR'⟩ := Do_eq hIk hR ds[k]
      have hI' := hIk.do ds[k]
      have this : behind n m newM (ds.take (k + 1)) = (doA n m (behind n m newM (ds.take k)) ds[k]).2.2 := by
        unfold behind
        rw [take_one hx, List.foldl_append]; rfl
      refine ⟨(N', S', L', (k : Int) + 1), ?_, ⟨k + 1, rfl, hlt, ?_⟩, by simp; omega⟩
      · unfold linealtop_TopHazard_b1
        have hg : ds.getD ((k : Nat) : Int).toNat (0, 0, 0, 0) = ds[k] := getD_of hx
        rw [if_pos (decide_eq_true (show ((k : Nat) : Int) < (ds.length : Int) by omega)), ck_pos (show (0 : Int) ≤ (k : Int) by omega), ck_pos (show ((k : Nat) : Int) < (ds.length : Int) by omega)]
        dsimp only
        rw [hg, hn, hm, e, Option.bind_some]
        dsimp only
        by_cases h0 : (doA n m (behind n m newM (ds.take k)) ds[k]).2.1 = 0
        · rw [if_pos (decide_eq_true h0), ck_pos (show (0 : Int) ≤ (k : Int) by omega), ck_pos (show ((k : Nat) : Int) < (ds.length : Int) by omega)]
          by_cases h6 : ds[k].1 = 6
          · obtain ⟨e6, i, hi, hr, hne⟩ := do_use hIk h0 h6
            rw [← e6] at hne
            rw [if_pos (decide_eq_true h6), state_eq hI.n1 hR', hr, stateA_in hi, Option.bind_some]
            dsimp only
            rw [if_neg (by simp), if_neg (by simpa using hne), Held_eq hI.n1 hR', Option.bind_some, top_b2 hI' hR' hn hm, Option.bind_some]
            unfold linealtop_TopHazard_k2
            dsimp only
            rw [ck_pos (inK_small (by omega))]
          · rw [if_neg (by simpa using h6), Held_eq hI.n1 hR', Option.bind_some, top_b3, top_b2 hI' hR' hn hm, Option.bind_some]
            unfold linealtop_TopHazard_k2
            dsimp only
            rw [ck_pos (inK_small (by omega))]
        · rw [if_neg (by simpa using h0), Held_eq hI.n1 hR', Option.bind_some, top_b4, top_b2 hI' hR' hn hm, Option.bind_some]
          unfold linealtop_TopHazard_k2
          dsimp only
          rw [ck_pos (inK_small (by omega))]
      · rw [this]; exact hR'
    · right
      have : k = ds.length := by omega
      subst this
      rw [List.take_length] at hR
      exact ⟨Sum.inr (N, S, L), by unfold linealtop_TopHazard_b1; rw [if_neg (by simp)], _, rfl, hR⟩
  obtain ⟨x, h1, r, rfl, h2⟩ := key
  exact ⟨r, h1, h2⟩

/-- A sweep makes no node in. -/
theorem swM_one {t i : Nat} (h : (swM A t).N i = 1) : A.N i = 1 := by
  have h' : (if (i : Int) ∈ A.L t ∧ hld A i = false then 0 else A.N i) = 1 := h
  split at h'
  · cases h'
  · exact h'
theorem putM_one {t k i : Nat} (h : (putM A t (k : Int)).N i = 1) : A.N i = 1 ∧ i ≠ k := by
  have h' : upd A.N ((k : Int)).toNat 2 i = 1 := h
  rw [Int.toNat_natCast] at h'
  by_cases e : i = k
  · subst e; rw [upd_same] at h'; cases h'
  · rw [upd_other e] at h'; exact ⟨h', e⟩
theorem putA_S (t k : Int) : (putA n m A t k).2.2.S = A.S := by
  unfold putA
  split
  · split
    · split <;> rfl
    · rfl
  · rfl

/-- Each node is put by. -/
theorem top_b5 (hI : Iv n m A) {r : El T63 × El T65 × El T69} (hR : Rp r.1 r.2.1 r.2.2 A) {s : Int × Int} (hn : 1 + s.1 % 4 = (n : Int)) (hm : 1 + s.2 % 4 = (m : Int)) :
    ∃ q : El T63 × El T69, whileO (linealtop_TopHazard_b5 s r) (r.1, r.2.2, 0) = some (Sum.inr q) ∧ ∃ B, Iv n m B ∧ Rp q.1 r.2.1 q.2 B ∧ ∀ i, i < 8 → B.N i ≠ 1 := by
  have n1 := hI.n1
  have h4 := hI.n4
  have key : ∃ x : Sum Unit (El T63 × El T69), whileO (linealtop_TopHazard_b5 s r) (r.1, r.2.2, 0) = some x ∧ ∃ q, x = Sum.inr q ∧ ∃ B, Iv n m B ∧ Rp q.1 r.2.1 q.2 B ∧ ∀ i, i < 8 → B.N i ≠ 1 := by
    refine whileO_inv (fun q : El T63 × El T69 × Int => ∃ k : Nat, q.2.2 = (k : Int) ∧ k ≤ 8 ∧ ∃ B, Iv n m B ∧ Rp q.1 r.2.1 q.2.1 B ∧ ∀ i, i < k → B.N i ≠ 1) (fun q => 8 - q.2.2.toNat) _ ?_ (r.1, r.2.2, 0) ⟨0, rfl, Nat.zero_le _, A, hI, hR, fun i hi => by omega⟩
    rintro ⟨N1, L1, q⟩ ⟨k, hq, hk, B, hIB, hRB, hB⟩
    simp only at hq hRB
    subst hq
    by_cases hlt : k < 8
    · left
      have hmod : ((k : Nat) : Int) % (n : Int) = ((k % n : Nat) : Int) := by omega
      have hml : k % n < n := Nat.mod_lt _ (by omega)
      obtain ⟨N2, L2, e1, hR2⟩ := PutBy_eq hIB hRB ((k % n : Nat) : Int) (k : Int)
      have hI2 := hIB.put ((k % n : Nat) : Int) (k : Int)
      have hin : (0 ≤ ((k % n : Nat) : Int) ∧ ((k % n : Nat) : Int) < n) ∧ (0 : Int) ≤ (k : Int) ∧ (k : Int) < 8 := by omega
      have hp : ((putA n m B ((k % n : Nat) : Int) (k : Int)).2.1 = 0 ↔ B.N k = 1) ∧ ∀ i, i < k + 1 → (putA n m B ((k % n : Nat) : Int) (k : Int)).2.2.N i ≠ 1 := by
        unfold putA
        rw [if_pos hin, Int.toNat_natCast]
        by_cases h1 : B.N k = 1
        · rw [if_pos h1]
          have ho : ∀ i, i < k + 1 → (putM B (k % n) (k : Int)).N i ≠ 1 := fun i hi h => by
            obtain ⟨h5, h6⟩ := putM_one h
            exact hB i (by omega) h5
          split
          · exact ⟨by simp [h1], ho⟩
          · exact ⟨by simp [h1], fun i hi h => ho i hi (swM_one h)⟩
        · rw [if_neg h1]
          refine ⟨by simp [h1], fun i hi => ?_⟩
          by_cases e : i = k
          · subst e; exact h1
          · exact hB i (by omega)
      refine ⟨(N2, L2, (k : Int) + 1), ?_, ⟨k + 1, rfl, hlt, _, hI2, hR2, hp.2⟩, by simp; omega⟩
      unfold linealtop_TopHazard_b5
      rw [if_pos (decide_eq_true (show ((k : Nat) : Int) < 8 by omega))]
      dsimp only
      rw [hn, hm, state_eq hI.n1 hRB, stateA_in hlt, Option.bind_some]
      dsimp only
      rw [if_neg (by simp), ck_pos (show (0 : Int) ≤ (k : Int) by omega), ck_pos (show (0 : Int) < (n : Int) by omega), hmod, e1, Option.bind_some]
      dsimp only
      have hb : (((decide (B.N k = 1)) == (decide ((putA n m B ((k % n : Nat) : Int) (k : Int)).2.1 = 0))) != true) = false := by
        rw [show decide ((putA n m B ((k % n : Nat) : Int) (k : Int)).2.1 = 0) = decide (B.N k = 1) from decide_eq_decide.2 hp.1]
        simp
      rw [hb, if_neg (by simp), ck_pos (inK_small (by omega))]
    · right
      have : k = 8 := by omega
      subst this
      exact ⟨Sum.inr (N1, L1), by unfold linealtop_TopHazard_b5; rw [if_neg (by simp)], _, rfl, B, hIB, hRB, hB⟩
  obtain ⟨x, h1, q, rfl, h2⟩ := key
  exact ⟨q, h1, h2⟩

/-- Each thread sweeps. -/
theorem top_b8 (hI : Iv n m A) {s : Int × Int} (hn : 1 + s.1 % 4 = (n : Int)) (hm : 1 + s.2 % 4 = (m : Int)) (hR : Rp N S L A) (hS : ∀ j, j < 8 → A.S j = -1) (hN : ∀ i, i < 8 → A.N i ≠ 1) :
    ∃ r : El T63 × El T69, whileO (linealtop_TopHazard_b8 s S) (N, L, 0) = some (Sum.inr r) ∧ ∃ B, Iv n m B ∧ Rp r.1 S r.2 B ∧ B.S = A.S ∧ (∀ u, u < n → B.L u = []) ∧ ∀ i, i < 8 → B.N i ≠ 1 := by
  have h4 := hI.n4
  have key : ∃ x : Sum Unit (El T63 × El T69), whileO (linealtop_TopHazard_b8 s S) (N, L, 0) = some x ∧ ∃ r, x = Sum.inr r ∧ ∃ B, Iv n m B ∧ Rp r.1 S r.2 B ∧ B.S = A.S ∧ (∀ u, u < n → B.L u = []) ∧ ∀ i, i < 8 → B.N i ≠ 1 := by
    refine whileO_inv (fun q : El T63 × El T69 × Int => ∃ k : Nat, q.2.2 = (k : Int) ∧ k ≤ n ∧ ∃ B, Iv n m B ∧ Rp q.1 S q.2.1 B ∧ B.S = A.S ∧ (∀ u, u < k → B.L u = []) ∧ ∀ i, i < 8 → B.N i ≠ 1) (fun q => n - q.2.2.toNat) _ ?_ (N, L, 0) ⟨0, rfl, Nat.zero_le _, A, hI, hR, rfl, fun u hu => by omega, hN⟩
    rintro ⟨N1, L1, q⟩ ⟨k, hq, hk, B, hIB, hRB, hSB, hB1, hB2⟩
    simp only at hq hRB
    subst hq
    have hS' : ∀ j, j < 8 → B.S j = -1 := fun j hj => by rw [hSB]; exact hS j hj
    by_cases hlt : k < n
    · left
      obtain ⟨N2, L2, e1, hR2⟩ := Sweep_eq hIB hRB (k : Int)
      have hI2 := hIB.sweep (k : Int)
      rw [sweepA_in hlt] at e1 hR2 hI2
      have hno := filter_no hIB hS' hlt
      refine ⟨(N2, L2, (k : Int) + 1), ?_, ⟨k + 1, rfl, hlt, _, hI2, hR2, hSB, fun u hu => ?_, fun i hi h => hB2 i hi (swM_one h)⟩, by simp; omega⟩
      · unfold linealtop_TopHazard_b8
        rw [hn, hm, if_pos (decide_eq_true (show ((k : Nat) : Int) < (n : Int) by omega)), e1, Option.bind_some]
        dsimp only
        rw [if_neg (by simp), ck_pos (inK_small (by omega))]
      · show upd B.L k ((B.L k).filter (hld B)) u = []
        by_cases e : u = k
        · subst e; rw [upd_same, hno]
        · rw [upd_other e]; exact hB1 u (by omega)
    · right
      have : k = n := by omega
      subst this
      exact ⟨Sum.inr (N1, L1), by unfold linealtop_TopHazard_b8; rw [hn, if_neg (by simp)], _, rfl, B, hIB, hRB, hSB, hB1, hB2⟩
  obtain ⟨x, h1, r, rfl, h2⟩ := key
  exact ⟨r, h1, h2⟩

theorem TopHazard_eq (s : Int × Int) (hs : InK .u8 s.1 ∧ InK .u8 s.2) (ds : List (Int × Int × Int × Int)) : linealtop_TopHazard s ds = some true := by
  unfold linealtop_TopHazard
  by_cases hl : 100 < (ds.length : Int)
  · rw [if_pos (decide_eq_true hl), lineallaw06_Sane_run]; rfl
  · obtain ⟨h1, h2⟩ := (inK_u8 _).1 hs.1
    obtain ⟨h3, h4⟩ := (inK_u8 _).1 hs.2
    obtain ⟨n, hn, n1, n4⟩ := ten s.1 h1
    obtain ⟨m, hm, m1, m4⟩ := ten s.2 h3
    have hI : Iv n m newM := Iv.new n1 n4 m1 m4
    obtain ⟨S0, e0, hR0⟩ := New_eq (a := (n : Int)) (b := (m : Int)) (by omega) (by omega)
    obtain ⟨r1, e1, hR1⟩ := top_b1 hI hn hm ds (by omega) hR0
    have hI1 := hI.behind_ ds
    obtain ⟨q, e5, B, hIB, hRB, hNB⟩ := top_b5 hI1 hR1 hn hm
    obtain ⟨S2, e6, C, hIC, hRC, hSC, hNC⟩ : ∃ S2, whileO (linealtop_TopHazard_b6 s q) (r1.2.1, 0) = some (Sum.inr S2) ∧ ∃ C, Iv n m C ∧ Rp q.1 S2 q.2 C ∧ (∀ j, j < 8 → C.S j = -1) ∧ ∀ i, i < 8 → C.N i ≠ 1 := by
      obtain ⟨S2, e6, C, hIC, hRC, hSC⟩ := ends_b2 hn hm (b := q) hIB hRB
      exact ⟨S2, by rw [top_b6]; exact e6, C, hIC, hRC, hSC, fun i hi => by rw [← hRC.nd i hi, hRB.nd i hi]; exact hNB i hi⟩
    obtain ⟨r8, e8, D, hID, hRD, hSD, hLD, hND⟩ := top_b8 hIC hn hm hRC hSC hNC
    have hcD := (cnt_flat hID).1
    have hz : (List.range n).flatMap D.L = [] := by
      rw [List.flatMap_eq_nil_iff]
      intro u hu
      exact hLD u (List.mem_range.1 hu)
    rw [hz] at hcD
    have hcD' : cntM D 2 = 0 := hcD
    have hc1 : cntM D 1 = 0 := by
      unfold cntM
      rw [List.length_eq_zero_iff, List.filter_eq_nil_iff]
      intro i hi
      simpa using hND i (List.mem_range.1 hi)
    have hc0 := cnt_all hID
    have hh : heldL D = [] := by
      unfold heldL
      rw [List.filter_eq_nil_iff]
      intro x hx
      obtain ⟨i, _, rfl⟩ := List.mem_map.1 hx
      simp [hld_no (A := D) (fun j hj => by rw [hSD]; exact hSC j hj) i]
    rw [if_neg (by simpa using hl), ck_pos (by rw [inK_i64]; omega), ck_pos h1, ck_pos (by rw [inK_i64]; omega), ck_pos (by rw [inK_i64]; omega), ck_pos h3, ck_pos (by rw [inK_i64]; omega), hn, hm, e0, Option.bind_some]
    dsimp only
    rw [e1, Option.bind_some]
    dsimp only
    unfold linealtop_TopHazard_k1
    rw [e5, Option.bind_some]
    dsimp only
    unfold linealtop_TopHazard_k3
    rw [e6, Option.bind_some]
    dsimp only
    unfold linealtop_TopHazard_k4
    rw [e8, Option.bind_some]
    dsimp only
    unfold linealtop_TopHazard_k6
    rw [hn, hm, Free_eq n1 hRD, Option.bind_some, if_pos (decide_eq_true (by omega)), By_eq n1 hRD, Option.bind_some, if_pos (decide_eq_true (by rw [hcD']; rfl)), Held_eq n1 hRD, Option.bind_some, hh, if_pos (by simp), lineallaw06_Sane_run]
    rfl

end
end Go.Proofs.YtcckpmeepcoafaaDoor
