/-
  Hazard: nothing that is held is freed.
-/
import Derived.Test.YtcckpmeepcoafaaDoorHy4
import Derived.Test.YtcckpmeepcoafaaDoorHztw
namespace Go.Proofs.YtcckpmeepcoafaaDoor
open Go.RowKit

set_option linter.unusedVariables false
set_option linter.unusedSimpArgs false
set_option linter.constructorNameAsVariable false
set_option maxRecDepth 10000

section
variable {n m : Nat} {N : El T63} {S : El T65} {L : El T69} {A : Mo}

theorem heldL_asc (A : Mo) : (heldL A).Pairwise (· < ·) := by
  unfold heldL
  refine List.Pairwise.filter _ ?_
  rw [List.pairwise_map]
  exact List.pairwise_lt_range.imp fun h => by omega
theorem heldL_mem {A : Mo} {x : Int} : x ∈ heldL A ↔ (∃ i : Nat, i < 8 ∧ x = i) ∧ hld A x = true := by
  unfold heldL
  rw [List.mem_filter, List.mem_map]
  constructor
  · rintro ⟨⟨i, hi, rfl⟩, h⟩; exact ⟨⟨i, List.mem_range.1 hi, rfl⟩, h⟩
  · rintro ⟨⟨i, hi, rfl⟩, h⟩; exact ⟨⟨i, List.mem_range.2 hi, rfl⟩, h⟩
theorem heldL_len (A : Mo) : (heldL A).length ≤ 8 := by
  unfold heldL
  have := List.length_filter_le (hld A) ((List.range 8).map fun j : Nat => (j : Int))
  simpa using this
theorem held_ok (hI : Iv n m A) {i : Nat} (hi : i < 8) (h : hld A (i : Int) = true) : A.N i ≠ 0 := by
  obtain ⟨j, hj, h1⟩ := hld_iff.1 h
  rcases hI.sl j hj with h2 | ⟨q, _, h2, h3⟩
  · omega
  · have : q = i := by omega
    subst this; exact h3

theorem safes_b2 (hI : Iv n m A) (hR : Rp N S L A) {s : Int × Int} (hn : 1 + s.1 % 4 = (n : Int)) (hm : 1 + s.2 % 4 = (m : Int)) (p q : Int) : whileO (lineallaw06_HazardSafes_b2 s (p, q, N, S, L) (heldL A)) 0 = some (Sum.inr ()) := by
  obtain ⟨r, h1, h2⟩ := scan1 (heldL A) (fun _ => True) (fun r : Sum Unit Unit => r = Sum.inr ()) (body := lineallaw06_HazardSafes_b2 s (p, q, N, S, L) (heldL A)) trivial (fun k x hx _ => by
    left
    refine ⟨?_, trivial⟩
    have hk := (List.getElem?_eq_some_iff.1 hx).1
    have hl := heldL_len A
    obtain ⟨⟨i, hi, rfl⟩, hh⟩ := heldL_mem.1 (List.mem_of_getElem? hx)
    have hne := held_ok hI hi hh
    unfold lineallaw06_HazardSafes_b2
    have hg : (heldL A).getD ((k : Nat) : Int).toNat 0 = (i : Int) := getD_of hx
    have c1 : ((k : Nat) : Int) < ((heldL A).length : Int) := by omega
    have hst : stateA A (i : Int) = (A.N i, 0) := by unfold stateA; rw [if_pos (by omega), Int.toNat_natCast]
    rw [if_pos (decide_eq_true c1), ck_pos (show (0 : Int) ≤ (k : Int) by omega), ck_pos c1, hg, hn, hm, state_eq hI.n1 hR, hst, Option.bind_some]
    dsimp only
    rw [if_neg (by simp), if_neg (by simpa using hne)]
    by_cases h0 : (0 : Int) < (k : Int)
    · have hk1 : k - 1 < (heldL A).length := by omega
      have hx1 := List.getElem?_eq_getElem hk1
      have hg1 : (heldL A).getD (((k : Nat) : Int) - 1).toNat 0 = (heldL A)[k - 1] := by
        rw [show (((k : Nat) : Int) - 1).toNat = k - 1 by omega]; exact getD_of hx1
      have hlt : (heldL A)[k - 1] < (i : Int) := by
        have := List.pairwise_iff_getElem.1 (heldL_asc A) (k - 1) k hk1 hk (by omega)
        have e : (heldL A)[k] = (i : Int) := (List.getElem?_eq_some_iff.1 hx).2
        rwa [e] at this
      rw [if_pos (decide_eq_true h0), ck_pos (show (0 : Int) ≤ (k : Int) by omega), ck_pos c1, ck_pos (by rw [inK_i64]; omega), ck_pos (by omega), ck_pos (by omega), hg1, if_neg (by simpa using hlt), ck_pos (inK_small (by omega))]
    · rw [if_neg (by simpa using h0), ck_pos (inK_small (by omega))]) (fun _ => ⟨Sum.inr (), by unfold lineallaw06_HazardSafes_b2; rw [if_neg (by simp)], rfl⟩)
  rw [h1, h2]

theorem safes_b4 (hI : Iv n m A) (hR : Rp N S L A) {s : Int × Int} (hn : 1 + s.1 % 4 = (n : Int)) (hm : 1 + s.2 % 4 = (m : Int)) (p q : Int) {t : Nat} (ht : t < n) : whileO (lineallaw06_HazardSafes_b4 s (p, q, N, S, L) (heldL A) (t : Int)) 0 = some (Sum.inr ()) := by
  have h4 := hI.n4
  obtain ⟨r, h1, h2⟩ := scan1 (List.range 2) (fun _ => True) (fun r : Sum Unit Unit => r = Sum.inr ()) (body := lineallaw06_HazardSafes_b4 s (p, q, N, S, L) (heldL A) (t : Int)) trivial (fun k x hx _ => by
    left
    refine ⟨?_, trivial⟩
    have hk : k < 2 := by simpa using (List.getElem?_eq_some_iff.1 hx).1
    unfold lineallaw06_HazardSafes_b4
    have hsl : slotA n A (t : Int) (k : Int) = (A.S (t * 2 + k), 0) := by unfold slotA; rw [if_pos (by omega), Int.toNat_natCast, Int.toNat_natCast]
    have hus : useA n A (t : Int) (k : Int) = if A.S (t * 2 + k) = -1 then (0, 5) else (A.S (t * 2 + k), 0) := by unfold useA; rw [if_pos (by omega), Int.toNat_natCast, Int.toNat_natCast]
    rcases hI.sl (t * 2 + k) (by omega) with h | ⟨i, hi, h, hne⟩
    · have hu1 := hus.trans (if_pos h)
      rw [if_pos (decide_eq_true (show ((k : Nat) : Int) < 2 by omega)), hn, hm, use_eq hI hR, Option.bind_some, slot_eq hI hR, Option.bind_some, hsl, hu1]
      dsimp only
      rw [if_neg (by simp), if_neg (by simp [h]), if_neg (by simp), ck_pos (inK_small (by omega))]
    · have hu1 := hus.trans (if_neg (by omega))
      rw [if_pos (decide_eq_true (show ((k : Nat) : Int) < 2 by omega)), hn, hm, use_eq hI hR, Option.bind_some, slot_eq hI hR, Option.bind_some, hsl, hu1]
      dsimp only
      have hm2 : A.S (t * 2 + k) ∈ heldL A := heldL_mem.2 ⟨⟨i, hi, h⟩, hld_iff.2 ⟨t * 2 + k, by omega, rfl⟩⟩
      have h0 : 0 ≤ A.S (t * 2 + k) := by omega
      rw [if_neg (by simp), if_neg (by simp [h0]), if_pos (by simp), if_neg (by simp), has_eq _ _ (by have := heldL_len A; omega), Option.bind_some, if_neg (by simp [hm2]), ck_pos (inK_small (by omega))]) (fun _ => ⟨Sum.inr (), by unfold lineallaw06_HazardSafes_b4; rw [if_neg (by simp)], rfl⟩)
  rw [h1, h2]

theorem safes_b3 (hI : Iv n m A) (hR : Rp N S L A) {s : Int × Int} (hs1 : 0 ≤ s.1) (hs2 : s.1 ≤ 255) (hn : 1 + s.1 % 4 = (n : Int)) (hm : 1 + s.2 % 4 = (m : Int)) (p q : Int) : whileO (lineallaw06_HazardSafes_b3 s (p, q, N, S, L) (heldL A)) 0 = some (Sum.inr ()) := by
  have h4 := hI.n4
  obtain ⟨r, h1, h2⟩ := scan1 (List.range n) (fun _ => True) (fun r : Sum Unit Unit => r = Sum.inr ()) (body := lineallaw06_HazardSafes_b3 s (p, q, N, S, L) (heldL A)) trivial (fun k x hx _ => by
    left
    refine ⟨?_, trivial⟩
    have hk : k < n := by simpa using (List.getElem?_eq_some_iff.1 hx).1
    unfold lineallaw06_HazardSafes_b3
    rw [ck_pos (by rw [inK_i64]; omega), ck_pos hs1, ck_pos (by rw [inK_i64]; omega), hn, if_pos (decide_eq_true (show ((k : Nat) : Int) < (n : Int) by omega)), safes_b4 hI hR hn hm p q hk, Option.bind_some]
    unfold lineallaw06_HazardSafes_k4
    dsimp only
    rw [ck_pos (inK_small (by omega))]) (fun _ => ⟨Sum.inr (), by
    unfold lineallaw06_HazardSafes_b3
    rw [ck_pos (by rw [inK_i64]; omega), ck_pos hs1, ck_pos (by rw [inK_i64]; omega), hn, if_neg (by simp)], rfl⟩)
  rw [h1, h2]

theorem HazardSafes_eq (s : Int × Int) (hs : InK .u8 s.1 ∧ InK .u8 s.2) (ds : List (Int × Int × Int × Int)) : lineallaw06_HazardSafes s ds = some true := by
  unfold lineallaw06_HazardSafes
  by_cases hl : 100 < (ds.length : Int)
  · rw [if_pos (decide_eq_true hl), lineallaw06_Sane_run]; rfl
  · obtain ⟨h1, h2⟩ := (inK_u8 _).1 hs.1
    obtain ⟨h3, h4⟩ := (inK_u8 _).1 hs.2
    obtain ⟨n, hn, n1, n4⟩ := ten s.1 h1
    obtain ⟨m, hm, m1, m4⟩ := ten s.2 h3
    have hI : Iv n m newM := Iv.new n1 n4 m1 m4
    obtain ⟨r0, e0, hR0⟩ := done_eq h1 h2 h3 h4 hn hm [] (by simp)
    have key : ∃ r : Sum Unit Unit, whileO (lineallaw06_HazardSafes_b1 s ds) (r0.1, r0.2.1, r0.2.2, 0) = some r ∧ r = Sum.inr () := by
      refine whileO_inv (fun q : El T63 × El T65 × El T69 × Int => ∃ k : Nat, q.2.2.2 = (k : Int) ∧ k ≤ ds.length ∧ Rp q.1 q.2.1 q.2.2.1 (behind n m newM (ds.take k))) (fun q => ds.length - q.2.2.2.toNat) _ ?_ (r0.1, r0.2.1, r0.2.2, 0) ⟨0, rfl, Nat.zero_le _, hR0⟩
      rintro ⟨N, S, L, q⟩ ⟨k, hq, hk, hR⟩
      simp only at hq hR
      subst hq
      by_cases hlt : k < ds.length
      · left
        have hx := List.getElem?_eq_getElem hlt
        have hIk := hI.behind_ (ds.take k)
        obtain ⟨N', S', L', e, hR'⟩ := Do_eq hIk hR ds[k]
        have hI' := hIk.do ds[k]
        have this : behind n m newM (ds.take (k + 1)) = (doA n m (behind n m newM (ds.take k)) ds[k]).2.2 := by
          unfold behind
          rw [take_one hx, List.foldl_append]; rfl
        refine ⟨(N', S', L', (k : Int) + 1), ?_, ⟨k + 1, rfl, hlt, ?_⟩, by simp; omega⟩
        · unfold lineallaw06_HazardSafes_b1
          have hg : ds.getD ((k : Nat) : Int).toNat (0, 0, 0, 0) = ds[k] := getD_of hx
          rw [if_pos (decide_eq_true (show ((k : Nat) : Int) < (ds.length : Int) by omega)), ck_pos (show (0 : Int) ≤ (k : Int) by omega), ck_pos (show ((k : Nat) : Int) < (ds.length : Int) by omega), hg, hn, hm, e, Option.bind_some]
          dsimp only
          rw [Held_eq n1 hR', Option.bind_some, safes_b2 hI' hR' hn hm, Option.bind_some]
          dsimp only
          unfold lineallaw06_HazardSafes_k3
          rw [safes_b3 hI' hR' h1 h2 hn hm, Option.bind_some]
          unfold lineallaw06_HazardSafes_k2
          dsimp only
          rw [ck_pos (inK_small (by omega))]
        · rw [this]; exact hR'
      · right
        have : k = ds.length := by omega
        subst this
        exact ⟨Sum.inr (), by unfold lineallaw06_HazardSafes_b1; rw [if_neg (by simp)], rfl⟩
    obtain ⟨r, h5, rfl⟩ := key
    rw [if_neg (by simpa using hl), e0, Option.bind_some]
    dsimp only
    rw [h5, Option.bind_some]
    unfold lineallaw06_HazardSafes_k1
    dsimp only
    rw [lineallaw06_Sane_run]; rfl

end
end Go.Proofs.YtcckpmeepcoafaaDoor
