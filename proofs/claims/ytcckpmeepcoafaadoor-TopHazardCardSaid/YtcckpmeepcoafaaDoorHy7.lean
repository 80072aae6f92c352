/-
  Hazard: the nodes that are by are those of the lists; nodes are conserved; what a list has behind a sweep.
-/
import Derived.Test.YtcckpmeepcoafaaDoorHy4
import Derived.Test.YtcckpmeepcoafaaDoorHztw
namespace Go.Proofs.YtcckpmeepcoafaaDoor
open Go.RowKit

set_option linter.unusedVariables false
set_option linter.unusedSimpArgs false
set_option linter.constructorNameAsVariable false
set_option maxRecDepth 10000

section
variable {n m : Nat} {N : El T63} {S : El T65} {L : El T69} {A : Mo}

theorem heldL_mem7 {A : Mo} {x : Int} : x ∈ heldL A ↔ (∃ i : Nat, i < 8 ∧ x = i) ∧ hld A x = true := by
  unfold heldL
  rw [List.mem_filter, List.mem_map]
  constructor
  · rintro ⟨⟨i, hi, rfl⟩, h⟩; exact ⟨⟨i, List.mem_range.1 hi, rfl⟩, h⟩
  · rintro ⟨⟨i, hi, rfl⟩, h⟩; exact ⟨⟨i, List.mem_range.2 hi, rfl⟩, h⟩
theorem heldL_len7 (A : Mo) : (heldL A).length ≤ 8 := by
  unfold heldL
  have := List.length_filter_le (hld A) ((List.range 8).map fun j : Nat => (j : Int))
  simpa using this

theorem swM_held (A : Mo) (t : Nat) : ∀ x ∈ (swM A t).L t, hld (swM A t) x = true := by
  intro x hx
  have h1 : (swM A t).L t = (A.L t).filter (hld A) := upd_same _ _ _
  have h2 : hld (swM A t) = hld A := rfl
  rw [h1] at hx
  rw [h2]
  exact (List.mem_filter.1 hx).2

theorem do_held {d : Int × Int × Int × Int} {t : Nat} (ht : t < n) (h0 : (doA n m A d).2.1 = 0) (hd : d.2.1 = (t : Int)) (hq : d.1 = 5 ∨ d.1 = 4 ∧ (m : Int) ≤ (((doA n m A d).2.2.L t).length : Int)) : ∀ x ∈ (doA n m A d).2.2.L t, hld (doA n m A d).2.2 x = true := by
  cases hk : okd d with
  | false => unfold doA at h0; rw [hk] at h0; simp at h0
  | true =>
    rcases hq with h5 | ⟨h4, hlen⟩
    · have e : doA n m A d = sweepA n A d.2.1 := by unfold doA; rw [if_pos hk, if_neg (by omega), if_neg (by omega), if_neg (by omega), if_neg (by omega), if_pos h5]
      have e2 : sweepA n A d.2.1 = (swN A t, 0, swM A t) := by unfold sweepA; rw [hd, if_pos (by omega), Int.toNat_natCast]
      rw [e, e2]
      exact swM_held A t
    · have e : doA n m A d = putA n m A d.2.1 d.2.2.1 := by unfold doA; rw [if_pos hk, if_neg (by omega), if_neg (by omega), if_neg (by omega), if_pos h4]
      rw [e] at h0 hlen ⊢
      rw [hd] at h0 hlen ⊢
      unfold putA at h0 hlen ⊢
      by_cases h1 : (0 ≤ (t : Int) ∧ (t : Int) < n) ∧ 0 ≤ d.2.2.1 ∧ d.2.2.1 < 8
      · simp only [if_pos h1] at h0 hlen ⊢
        by_cases h2 : A.N d.2.2.1.toNat = 1
        · simp only [if_pos h2, Int.toNat_natCast] at h0 hlen ⊢
          by_cases h3 : ((A.L t).length : Int) + 1 < m
          · simp only [if_pos h3] at hlen
            have : (putM A t d.2.2.1).L t = A.L t ++ [d.2.2.1] := upd_same _ _ _
            rw [this] at hlen
            simp at hlen
            omega
          · simp only [if_neg h3]
            exact swM_held _ t
        · simp only [if_neg h2] at h0
          omega
      · simp only [if_neg h1] at h0
        omega

theorem flat_take {B : Mo} {t k : Nat} {x : Int} (hI : Iv n m B) (ht : t < n) (hx : (B.L t)[k]? = some x) : x ∉ (List.range t).flatMap B.L ++ (B.L t).take k := by
  intro h
  rcases List.mem_append.1 h with h1 | h1
  · simp only [List.mem_flatMap, List.mem_range] at h1
    obtain ⟨u, hu, hm⟩ := h1
    exact hI.dj u t (by omega) ht (by omega) x hm (List.mem_of_getElem? hx)
  · obtain ⟨i, hi, e⟩ := List.mem_iff_getElem.1 h1
    simp at hi
    rw [List.getElem_take] at e
    have hk := (List.getElem?_eq_some_iff.1 hx)
    obtain ⟨hk1, hk2⟩ := hk
    have := List.pairwise_iff_getElem.1 (List.nodup_iff_pairwise_ne.1 (hI.dd t ht)) i k (by omega) hk1 (by omega)
    exact this (e.trans hk2.symm)

theorem flat_lenM (hI : Iv n m A) : ∀ k, ((List.range k).flatMap A.L).length ≤ 8 * k
  | 0 => by simp
  | k + 1 => by
    have := flat_lenM hI k
    have h2 := hI.few (t := k)
    rw [List.range_succ, List.flatMap_append, List.length_append]
    simp
    simp at this
    omega

theorem lists_b3 (hI : Iv n m A) (hR : Rp N S L A) {s : Int × Int} (hn : 1 + s.1 % 4 = (n : Int)) (hm : 1 + s.2 % 4 = (m : Int)) (p q e : Int) {t : Nat} (ht : t < n) :
    whileO (lineallaw06_HazardLists_b3 s (p, q, N, S, L) (A.L t, e)) ((List.range t).flatMap A.L, 0) = some (Sum.inr ((List.range (t + 1)).flatMap A.L)) := by
  have h4 := hI.n4
  have hfl := flat_lenM hI t
  have hfw := hI.few (t := t)
  obtain ⟨r, h1, h2⟩ := scan2 (A.L t) (fun k s => s = (List.range t).flatMap A.L ++ (A.L t).take k) (fun r : Sum Unit (List Int) => r = Sum.inr ((List.range (t + 1)).flatMap A.L)) (body := lineallaw06_HazardLists_b3 s (p, q, N, S, L) (A.L t, e)) (s0 := (List.range t).flatMap A.L) (by simp) (fun k x st hx hp => by
    left
    have hk := (List.getElem?_eq_some_iff.1 hx).1
    obtain ⟨i, hi, rfl, hN⟩ := hI.ls t ht x (List.mem_of_getElem? hx)
    have hno := flat_take hI ht hx
    rw [← hp] at hno
    have hlen : st.length ≤ 100 := by
      rw [hp, List.length_append]
      have : ((A.L t).take k).length ≤ 8 := by simp; omega
      omega
    have hg : (A.L t).getD ((k : Nat) : Int).toNat 0 = (i : Int) := getD_of hx
    have hst : stateA A (i : Int) = (A.N i, 0) := by unfold stateA; rw [if_pos (by omega), Int.toNat_natCast]
    have c1 : ((k : Nat) : Int) < ((A.L t).length : Int) := by omega
    have c0 : (0 : Int) ≤ ((k : Nat) : Int) := by omega
    refine ⟨st ++ [(i : Int)], ?_, ?_⟩
    · unfold lineallaw06_HazardLists_b3
      dsimp only
      rw [if_pos (decide_eq_true c1), ck_pos c0, ck_pos c1, hg, hn, hm, state_eq hI.n1 hR, Option.bind_some, hst]
      dsimp only
      rw [if_neg (by simp), if_neg (by simp [hN]), ck_pos c0, ck_pos c1, has_eq _ _ (by omega), Option.bind_some, if_neg (by simpa using hno), ck_pos c0, ck_pos c1, ck_pos (by omega), ck_pos (inK_small (by omega))]
    · rw [hp, take_one hx, List.append_assoc]) (fun st hp => by
    refine ⟨Sum.inr st, by unfold lineallaw06_HazardLists_b3; rw [if_neg (by simp)], ?_⟩
    rw [hp, List.take_length, List.range_succ, List.flatMap_append]
    simp)
  rw [h1, h2]

theorem lists_b4 {l : List Int} {e : Int} (hl : l.length ≤ 100) (hh : ∀ x ∈ l, x ∈ heldL A) : whileO (lineallaw06_HazardLists_b4 (l, e) (heldL A)) 0 = some (Sum.inr ()) := by
  obtain ⟨r, h1, h2⟩ := scan1 l (fun _ => True) (fun r : Sum Unit Unit => r = Sum.inr ()) (body := lineallaw06_HazardLists_b4 (l, e) (heldL A)) trivial (fun k x hx _ => by
    left
    refine ⟨?_, trivial⟩
    have hk := (List.getElem?_eq_some_iff.1 hx).1
    have hg : l.getD ((k : Nat) : Int).toNat 0 = x := getD_of hx
    have c1 : ((k : Nat) : Int) < (l.length : Int) := by omega
    unfold lineallaw06_HazardLists_b4
    dsimp only
    rw [if_pos (decide_eq_true c1), ck_pos (show (0 : Int) ≤ (k : Int) by omega), ck_pos c1, hg, has_eq _ _ (by have := heldL_len7 A; omega), Option.bind_some, if_neg (by simp [hh x (List.mem_of_getElem? hx)]), ck_pos (inK_small (by omega))]) (fun _ => ⟨Sum.inr (), by unfold lineallaw06_HazardLists_b4; rw [if_neg (by simp)], rfl⟩)
  rw [h1, h2]

theorem lists_b5 {l : List Int} {e : Int} (hl : l.length ≤ 100) (hh : ∀ x ∈ l, x ∈ heldL A) : whileO (lineallaw06_HazardLists_b5 (l, e) (heldL A)) 0 = some (Sum.inr ()) := by
  obtain ⟨r, h1, h2⟩ := scan1 l (fun _ => True) (fun r : Sum Unit Unit => r = Sum.inr ()) (body := lineallaw06_HazardLists_b5 (l, e) (heldL A)) trivial (fun k x hx _ => by
    left
    refine ⟨?_, trivial⟩
    have hk := (List.getElem?_eq_some_iff.1 hx).1
    have hg : l.getD ((k : Nat) : Int).toNat 0 = x := getD_of hx
    have c1 : ((k : Nat) : Int) < (l.length : Int) := by omega
    unfold lineallaw06_HazardLists_b5
    dsimp only
    rw [if_pos (decide_eq_true c1), ck_pos (show (0 : Int) ≤ (k : Int) by omega), ck_pos c1, hg, has_eq _ _ (by have := heldL_len7 A; omega), Option.bind_some, if_neg (by simp [hh x (List.mem_of_getElem? hx)]), ck_pos (inK_small (by omega))]) (fun _ => ⟨Sum.inr (), by unfold lineallaw06_HazardLists_b5; rw [if_neg (by simp)], rfl⟩)
  rw [h1, h2]

theorem lists_b2 {d : Int × Int × Int × Int} {ds : List (Int × Int × Int × Int)} {k : Nat} (hk : k < 1000) (hx : ds.getD ((k : Nat) : Int).toNat (0, 0, 0, 0) = d) (hIB : Iv n m (doA n m A d).2.2) (hRB : Rp N S L (doA n m A d).2.2) {s : Int × Int} (hn : 1 + s.1 % 4 = (n : Int)) (hm : 1 + s.2 % 4 = (m : Int)) (Z : El T63) (S0 : El T65) (W : El T69) :
    whileO (lineallaw06_HazardLists_b2 s ds (Z, S0, W, (k : Int)) ((doA n m A d).1, (doA n m A d).2.1, N, S, L)) ([], 0) = some (Sum.inr ((List.range n).flatMap (doA n m A d).2.2.L)) := by
  have h4 := hIB.n4
  generalize hB : (doA n m A d).2.2 = B at *
  obtain ⟨r, h1, h2⟩ := scan2 (List.range n) (fun t (st : List Int) => st = (List.range t).flatMap B.L) (fun r : Sum Unit (List Int) => r = Sum.inr ((List.range n).flatMap B.L)) (body := lineallaw06_HazardLists_b2 s ds (Z, S0, W, (k : Int)) ((doA n m A d).1, (doA n m A d).2.1, N, S, L)) (s0 := []) rfl (fun t x st hx2 hp => by
    have ht : t < n := by simpa using (List.getElem?_eq_some_iff.1 hx2).1
    left
    subst hp
    refine ⟨(List.range (t + 1)).flatMap B.L, ?_, rfl⟩
    have hli : listA n B (t : Int) = (B.L t, 0) := by unfold listA; rw [if_pos (by omega), Int.toNat_natCast]
    have hfew := hIB.few (t := t)
    have hgo : lineallaw06_HazardLists_k4 ((List.range t).flatMap B.L, (t : Int)) ((List.range (t + 1)).flatMap B.L) = some (.next ((List.range (t + 1)).flatMap B.L, (t : Int) + 1)) := by
      unfold lineallaw06_HazardLists_k4
      dsimp only
      rw [ck_pos (inK_small (by omega))]
    unfold lineallaw06_HazardLists_b2
    dsimp only
    rw [hn, hm, if_pos (decide_eq_true (show ((t : Nat) : Int) < (n : Int) by omega)), list_eq hIB hRB, Option.bind_some, hli]
    dsimp only
    rw [if_neg (by simp), lists_b3 hIB hRB hn hm _ _ _ ht, Option.bind_some]
    dsimp only
    unfold lineallaw06_HazardLists_k5
    dsimp only
    rw [hx]
    by_cases e0 : (doA n m A d).2.1 = 0
    · rw [if_pos (decide_eq_true e0)]
      by_cases e1 : d.2.1 = (t : Int)
      · rw [if_pos (decide_eq_true e1)]
        have hheld : (d.1 = 5 ∨ d.1 = 4 ∧ (m : Int) ≤ ((B.L t).length : Int)) → ∀ x ∈ B.L t, x ∈ heldL B := fun hq x hxm => by
          obtain ⟨i, hi, rfl, _⟩ := hIB.ls t ht x hxm
          refine heldL_mem7.2 ⟨⟨i, hi, rfl⟩, ?_⟩
          have := do_held (A := A) ht e0 e1 (by rw [hB]; exact hq) (i : Int) (by rw [hB]; exact hxm)
          rwa [hB] at this
        by_cases e5 : d.1 = 5
        · rw [if_pos (decide_eq_true e5), hn, hm, Held_eq hIB.n1 hRB, Option.bind_some, lists_b4 (by omega) (hheld (.inl e5)), Option.bind_some]
          exact hgo
        · rw [if_neg (by simpa using e5)]
          by_cases e4 : d.1 = 4
          · rw [if_pos (decide_eq_true e4), hm]
            by_cases e6 : (m : Int) ≤ ((B.L t).length : Int)
            · rw [if_pos (decide_eq_true e6), hn, Held_eq hIB.n1 hRB, Option.bind_some, lists_b5 (by omega) (hheld (.inr ⟨e4, e6⟩)), Option.bind_some]
              exact hgo
            · rw [if_neg (by simpa using e6)]
              exact hgo
          · rw [if_neg (by simpa using e4)]
            exact hgo
      · rw [if_neg (by simpa using e1)]
        exact hgo
    · rw [if_neg (by simpa using e0)]
      exact hgo) (fun st hp => ⟨Sum.inr st, by unfold lineallaw06_HazardLists_b2; rw [hn, if_neg (by simp)], by rw [hp]; simp⟩)
  rw [h1, h2]

theorem cnt_all (hI : Iv n m A) : cntM A 0 + cntM A 2 + cntM A 1 = 8 := by
  unfold cntM
  have : ∀ k, k ≤ 8 → ((List.range k).filter fun j => decide (A.N j = 0)).length + ((List.range k).filter fun j => decide (A.N j = 2)).length + ((List.range k).filter fun j => decide (A.N j = 1)).length = k := by
    intro k
    induction k with
    | zero => intro _; rfl
    | succ k ih =>
      intro hk
      have h0 := ih (by omega)
      rw [List.range_succ, List.filter_append, List.filter_append, List.filter_append, List.length_append, List.length_append, List.length_append]
      rcases hI.nd k (by omega) with e | e | e <;> simp [e] <;> omega
  exact this 8 (Nat.le_refl 8)

theorem lists_b6 (hI : Iv n m A) (hR : Rp N S L A) {s : Int × Int} (hn : 1 + s.1 % 4 = (n : Int)) (hm : 1 + s.2 % 4 = (m : Int)) (p q : Int) :
    whileO (lineallaw06_HazardLists_b6 s (p, q, N, S, L) ((List.range n).flatMap A.L)) (0, 0) = some (Sum.inr (cntM A 1 : Int)) := by
  have hc := cnt_flat hI
  have hfl := flat_lenM hI n
  have h4 := hI.n4
  obtain ⟨r, h1, h2⟩ := scan2 (List.range 8) (fun k (st : Int) => st = (((List.range k).filter fun j => decide (A.N j = 1)).length : Int)) (fun r : Sum Unit Int => r = Sum.inr (cntM A 1 : Int)) (body := lineallaw06_HazardLists_b6 s (p, q, N, S, L) ((List.range n).flatMap A.L)) (s0 := 0) rfl (fun k x st hx hp => by
    have hk : k < 8 := by simpa using (List.getElem?_eq_some_iff.1 hx).1
    left
    have hb : ((List.range k).filter fun j => decide (A.N j = 1)).length ≤ k := by
      have := List.length_filter_le (fun j => decide (A.N j = 1)) (List.range k)
      simpa using this
    have hst : stateA A (k : Int) = (A.N k, 0) := by unfold stateA; rw [if_pos (by omega), Int.toNat_natCast]
    have hm2 : decide (((k : Nat) : Int) ∈ (List.range n).flatMap A.L) = decide (A.N k = 2) := by
      have := hc.2.2 k hk
      by_cases e : A.N k = 2
      · rw [decide_eq_true (this.2 e), decide_eq_true e]
      · rw [decide_eq_false (fun h => e (this.1 h)), decide_eq_false e]
    have hbase : lineallaw06_HazardLists_b6 s (p, q, N, S, L) ((List.range n).flatMap A.L) (st, (k : Int)) = some (if A.N k = 1 then .next (st + 1, (k : Int) + 1) else .next (st, (k : Int) + 1)) := by
      unfold lineallaw06_HazardLists_b6
      dsimp only
      rw [if_pos (decide_eq_true (show ((k : Nat) : Int) < 8 by omega)), hn, hm, state_eq hI.n1 hR, Option.bind_some, hst]
      dsimp only
      rw [if_neg (by simp), has_eq _ _ (by omega), Option.bind_some, hm2, if_neg (by simp)]
      by_cases e : A.N k = 1
      · rw [if_pos (decide_eq_true e), ck_pos (by rw [hp]; exact inK_small (by omega)), ck_pos (inK_small (by omega)), if_pos e]
      · rw [if_neg (by simpa using e), ck_pos (inK_small (by omega)), if_neg e]
    by_cases e : A.N k = 1
    · refine ⟨st + 1, by rw [hbase, if_pos e], ?_⟩
      rw [List.range_succ, List.filter_append, List.length_append, hp]
      simp [e]
    · refine ⟨st, by rw [hbase, if_neg e], ?_⟩
      rw [List.range_succ, List.filter_append, List.length_append, hp]
      simp [e]) (fun st hp => ⟨Sum.inr st, by unfold lineallaw06_HazardLists_b6; rw [if_neg (by simp)], by rw [hp]; simp [cntM]⟩)
  rw [h1, h2]

theorem HazardLists_eq (s : Int × Int) (hs : InK .u8 s.1 ∧ InK .u8 s.2) (ds : List (Int × Int × Int × Int)) : lineallaw06_HazardLists s ds = some true := by
  unfold lineallaw06_HazardLists
  by_cases hl : 100 < (ds.length : Int)
  · rw [if_pos (decide_eq_true hl), lineallaw06_Sane_run]; rfl
  · obtain ⟨h1, h2⟩ := (inK_u8 _).1 hs.1
    obtain ⟨h3, h4⟩ := (inK_u8 _).1 hs.2
    obtain ⟨n, hn, n1, n4⟩ := ten s.1 h1
    obtain ⟨m, hm, m1, m4⟩ := ten s.2 h3
    have hI : Iv n m newM := Iv.new n1 n4 m1 m4
    obtain ⟨r0, e0, hR0⟩ := done_eq h1 h2 h3 h4 hn hm [] (by simp)
    have key : ∃ r : Sum Unit Unit, whileO (lineallaw06_HazardLists_b1 s ds) (r0.1, r0.2.1, r0.2.2, 0) = some r ∧ r = Sum.inr () := by
      refine whileO_inv (fun q : El T63 × El T65 × El T69 × Int => ∃ k : Nat, q.2.2.2 = (k : Int) ∧ k ≤ ds.length ∧ Rp q.1 q.2.1 q.2.2.1 (behind n m newM (ds.take k))) (fun q => ds.length - q.2.2.2.toNat) _ ?_ (r0.1, r0.2.1, r0.2.2, 0) ⟨0, rfl, Nat.zero_le _, hR0⟩
      rintro ⟨N, S, L, q⟩ ⟨k, hq, hk, hR⟩
      simp only at hq hR
      subst hq
      by_cases hlt : k < ds.length
      · left
        have hx := List.getElem?_eq_getElem hlt
        have hIk := hI.behind_ (ds.take k)
        obtain ⟨N', S', L', e, hR'⟩ := Do_eq hIk hR ds[k]
        have hI' := hIk.do ds[k]
        have this : behind n m newM (ds.take (k + 1)) = (doA n m (behind n m newM (ds.take k)) ds[k]).2.2 := by
          unfold behind
          rw [take_one hx, List.foldl_append]; rfl
        have hc := cnt_flat hI'
        have ha := cnt_all hI'
        refine ⟨(N', S', L', (k : Int) + 1), ?_, ⟨k + 1, rfl, hlt, ?_⟩, by simp; omega⟩
        · unfold lineallaw06_HazardLists_b1
          have hg : ds.getD ((k : Nat) : Int).toNat (0, 0, 0, 0) = ds[k] := getD_of hx
          dsimp only
          rw [if_pos (decide_eq_true (show ((k : Nat) : Int) < (ds.length : Int) by omega)), ck_pos (show (0 : Int) ≤ (k : Int) by omega), ck_pos (show ((k : Nat) : Int) < (ds.length : Int) by omega), hg, hn, hm, e, Option.bind_some, lists_b2 (by omega) hg hI' hR' hn hm, Option.bind_some]
          dsimp only
          unfold lineallaw06_HazardLists_k3
          rw [lists_b6 hI' hR' hn hm, Option.bind_some]
          dsimp only
          unfold lineallaw06_HazardLists_k6
          dsimp only
          rw [hn, hm, By_eq n1 hR', Option.bind_some, if_neg (by simp [hc.1]), Free_eq n1 hR', Option.bind_some, Option.bind_some, ck_pos (by rw [inK_i64]; omega), ck_pos (by rw [inK_i64]; omega), if_neg (by simp; omega)]
          unfold lineallaw06_HazardLists_k2
          dsimp only
          rw [ck_pos (inK_small (by omega))]
        · rw [this]; exact hR'
      · right
        have : k = ds.length := by omega
        subst this
        exact ⟨Sum.inr (), by unfold lineallaw06_HazardLists_b1; rw [if_neg (by simp)], rfl⟩
    obtain ⟨r, h5, rfl⟩ := key
    rw [if_neg (by simpa using hl), e0, Option.bind_some]
    dsimp only
    rw [ck_pos (by rw [inK_i64]; omega), ck_pos h1, ck_pos (by rw [inK_i64]; omega), ck_pos (by rw [inK_i64]; omega), ck_pos h3, ck_pos (by rw [inK_i64]; omega), h5, Option.bind_some]
    unfold lineallaw06_HazardLists_k1
    dsimp only
    rw [lineallaw06_Sane_run]; rfl

end
end Go.Proofs.YtcckpmeepcoafaaDoor
