/-
  Hazard: deeds by Do and by their own functions; copies.
-/
import Derived.Test.YtcckpmeepcoafaaDoorHy11
namespace Go.Proofs.YtcckpmeepcoafaaDoor
open Go.RowKit

set_option linter.unusedVariables false
set_option linter.unusedSimpArgs false
set_option linter.constructorNameAsVariable false
set_option maxRecDepth 10000

theorem okD_all {k : IntKind} : ∀ {t : Ty} (x : El t), allInt k t = true → (∀ q, q < t.size → InK k (intAt t x q)) → okD t x
  | .int q, x, hk, h => by
    have e : q = k := by simpa [allInt] using hk
    subst e
    exact h 0 (by simp [Ty.size])
  | .bool, x, hk, h => trivial
  | .unit, x, hk, h => trivial
  | .pair a b, x, hk, h => by
    simp only [allInt, Bool.and_eq_true] at hk
    refine ⟨okD_all x.1 hk.1 fun q hq => ?_, okD_all x.2 hk.2 fun q hq => ?_⟩
    · have := h q (by simp only [Ty.size]; omega)
      simpa only [intAt, hq, if_true] using this
    · have := h (q + a.size) (by simp only [Ty.size]; omega)
      simpa only [intAt, show ¬ q + a.size < a.size by omega, if_false, Nat.add_sub_cancel] using this
  | .sl _, x, hk, h => by cases hk

section
variable {n m : Nat} {N : El T63} {S : El T65} {L : El T69} {X : El T66} {Y : List (Int × Int)} {Z : List (List Int)} {A : Mo}

theorem okN (hI : Iv n m A) (hR : Rp N S L A) : okD T63 N := okD_all (k := .i64) N rfl fun q hq => by
  have hq' : q < 8 := by rw [T63_size] at hq; exact hq
  rw [hR.nd q hq', inK_i64]
  have := hI.nd q hq'
  omega
theorem okS (hI : Iv n m A) (hR : Rp N S L A) : okD T65 S := okD_all (k := .i64) S rfl fun q hq => by
  have hq' : q < 8 := by rw [T65_size] at hq; exact hq
  rw [hR.sl q hq', inK_i64]
  rcases hI.sl q hq' with h | ⟨i, hi, h, _⟩ <;> omega
theorem okL (hR : Rp N S L A) : okD T69 L := okD_all (k := .i64) L rfl fun q hq => by
  have hq' : q < 36 := by rw [T69_size] at hq; exact hq
  rw [inK_i64]
  have := hR.ok q hq'
  omega

theorem same_eq (hI : Iv n m A) (hR : Rp N S L A) : hazard_Same ((n : Int), (m : Int), N, S, L) ((n : Int), (m : Int), N, S, L) = some true := by
  have hN := okN hI hR
  have hS := okS hI hR
  have hL := okL hR
  have hz := nz hI.n1
  unfold hazard_Same hazard_Yard_isNone
  dsimp only
  rw [Option.bind_some, hz, if_neg Bool.false_ne_true, Option.bind_some, if_neg Bool.false_ne_true, if_pos (by simp), if_pos (by simp), ck_pos hN, ck_pos hN, if_pos (by simp), ck_pos hS, ck_pos hS, if_pos (by simp), ck_pos hL, ck_pos hL]
  simp

theorem copy_eq (hn : 1 ≤ n) (M : Int) : hazard_Yard_Copy ((n : Int), M, N, S, L) = some (Sum.inr ()) := by
  unfold hazard_Yard_Copy hazard_Yard_isNone
  dsimp only
  rw [Option.bind_some, nz hn, if_neg Bool.false_ne_true]

/-! ### What an error leaves as it was -/

theorem Take_err {t a b r e : Int} {N' : El T63} (h : hazard_Yard_Take t (a, b, N, S, L) = some (r, e, N')) (he : e ≠ 0) : N' = N := by
  unfold hazard_Yard_Take at h
  obtain ⟨_, _, h⟩ := Option.bind_eq_some_iff.1 h
  obtain ⟨v, _, h⟩ := Option.bind_eq_some_iff.1 h
  dsimp only at h
  split at h
  · injection h with h; injection h with _ h; injection h with _ h; exact h.symm
  · obtain ⟨v, _, h⟩ := Option.bind_eq_some_iff.1 h
    split at h
    · injection h with h; injection h with _ h; injection h with _ h; exact h.symm
    · obtain ⟨_, h⟩ := ck_some.1 h
      obtain ⟨_, h⟩ := ck_some.1 h
      injection h with h; injection h with _ h; injection h with h _
      exact absurd h.symm he

theorem Point_err {t s k a b e : Int} {S' : El T65} (h : hazard_Yard_Point t s k (a, b, N, S, L) = some (e, S')) (he : e ≠ 0) : S' = S := by
  unfold hazard_Yard_Point at h
  obtain ⟨_, _, h⟩ := Option.bind_eq_some_iff.1 h
  obtain ⟨_, _, h⟩ := Option.bind_eq_some_iff.1 h
  obtain ⟨_, _, h⟩ := Option.bind_eq_some_iff.1 h
  obtain ⟨_, _, h⟩ := Option.bind_eq_some_iff.1 h
  obtain ⟨v, _, h⟩ := Option.bind_eq_some_iff.1 h
  dsimp only at h
  split at h
  · injection h with h; injection h with _ h; exact h.symm
  · obtain ⟨_, h⟩ := ck_some.1 h
    obtain ⟨_, h⟩ := ck_some.1 h
    obtain ⟨_, h⟩ := ck_some.1 h
    obtain ⟨_, h⟩ := ck_some.1 h
    injection h with h; injection h with h _
    exact absurd h.symm he

theorem Clear_err {t s a b e : Int} {S' : El T65} (h : hazard_Yard_Clear t s (a, b, N, S, L) = some (e, S')) (he : e ≠ 0) : S' = S := by
  unfold hazard_Yard_Clear at h
  obtain ⟨_, _, h⟩ := Option.bind_eq_some_iff.1 h
  obtain ⟨_, _, h⟩ := Option.bind_eq_some_iff.1 h
  obtain ⟨v, _, h⟩ := Option.bind_eq_some_iff.1 h
  dsimp only at h
  split at h
  · injection h with h; injection h with _ h; exact h.symm
  · obtain ⟨_, h⟩ := ck_some.1 h
    obtain ⟨_, h⟩ := ck_some.1 h
    obtain ⟨_, h⟩ := ck_some.1 h
    obtain ⟨_, h⟩ := ck_some.1 h
    injection h with h; injection h with h _
    exact absurd h.symm he

theorem PutBy_err {t k a b r e : Int} {N' : El T63} {L' : El T69} (h : hazard_Yard_PutBy t k (a, b, N, S, L) = some (r, e, N', L')) (he : e ≠ 0) : N' = N ∧ L' = L := by
  unfold hazard_Yard_PutBy at h
  obtain ⟨_, _, h⟩ := Option.bind_eq_some_iff.1 h
  obtain ⟨_, _, h⟩ := Option.bind_eq_some_iff.1 h
  obtain ⟨_, _, h⟩ := Option.bind_eq_some_iff.1 h
  obtain ⟨v, _, h⟩ := Option.bind_eq_some_iff.1 h
  dsimp only at h
  split at h
  · injection h with h; injection h with _ h; injection h with _ h; injection h with h1 h2; exact ⟨h1.symm, h2.symm⟩
  · obtain ⟨_, h⟩ := ck_some.1 h
    obtain ⟨_, h⟩ := ck_some.1 h
    obtain ⟨_, h⟩ := ck_some.1 h
    obtain ⟨_, h⟩ := ck_some.1 h
    obtain ⟨v, _, h⟩ := Option.bind_eq_some_iff.1 h
    obtain ⟨_, h⟩ := ck_some.1 h
    obtain ⟨_, h⟩ := ck_some.1 h
    split at h
    · injection h with h; injection h with _ h; injection h with h _
      exact absurd h.symm he
    · obtain ⟨v, _, h⟩ := Option.bind_eq_some_iff.1 h
      injection h with h; injection h with _ h; injection h with h _
      exact absurd h.symm he

theorem Sweep_err {t a b r e : Int} {N' : El T63} {L' : El T69} (h : hazard_Yard_Sweep t (a, b, N, S, L) = some (r, e, N', L')) (he : e ≠ 0) : N' = N ∧ L' = L := by
  unfold hazard_Yard_Sweep at h
  obtain ⟨_, _, h⟩ := Option.bind_eq_some_iff.1 h
  obtain ⟨v, _, h⟩ := Option.bind_eq_some_iff.1 h
  dsimp only at h
  split at h
  · injection h with h; injection h with _ h; injection h with _ h; injection h with h1 h2; exact ⟨h1.symm, h2.symm⟩
  · obtain ⟨v, _, h⟩ := Option.bind_eq_some_iff.1 h
    injection h with h; injection h with _ h; injection h with h _
    exact absurd h.symm he

theorem Do_err {d : Int × Int × Int × Int} {a b r e : Int} {q : El T63 × El T65 × El T69} (h : hazard_Yard_Do d (a, b, N, S, L) = some (r, e, q)) (he : e ≠ 0) : q = (N, S, L) := by
  obtain ⟨N', S', L'⟩ := q
  unfold hazard_Yard_Do at h
  obtain ⟨_, _, h⟩ := Option.bind_eq_some_iff.1 h
  obtain ⟨v, _, h⟩ := Option.bind_eq_some_iff.1 h
  dsimp only at h
  split at h
  · injection h with h; injection h with _ h; injection h with _ h; exact h.symm
  · split at h
    · obtain ⟨⟨v1, v2, v3⟩, hv, h⟩ := Option.bind_eq_some_iff.1 h
      dsimp only at h
      injection h with h; injection h with _ h; injection h with h1 h; injection h with h2 h; injection h with h3 h4
      subst h1 h2 h3 h4
      rw [Take_err hv he]
    · split at h
      · obtain ⟨⟨v1, v2⟩, hv, h⟩ := Option.bind_eq_some_iff.1 h
        dsimp only at h
        injection h with h; injection h with _ h; injection h with h1 h; injection h with h2 h; injection h with h3 h4
        subst h1 h2 h3 h4
        rw [Point_err hv he]
      · split at h
        · obtain ⟨⟨v1, v2⟩, hv, h⟩ := Option.bind_eq_some_iff.1 h
          dsimp only at h
          injection h with h; injection h with _ h; injection h with h1 h; injection h with h2 h; injection h with h3 h4
          subst h1 h2 h3 h4
          rw [Clear_err hv he]
        · split at h
          · obtain ⟨⟨v1, v2, v3, v4⟩, hv, h⟩ := Option.bind_eq_some_iff.1 h
            dsimp only at h
            injection h with h; injection h with _ h; injection h with h1 h; injection h with h2 h; injection h with h3 h4
            subst h1 h2 h3 h4
            obtain ⟨e1, e2⟩ := PutBy_err hv he
            rw [e1, e2]
          · split at h
            · obtain ⟨⟨v1, v2, v3, v4⟩, hv, h⟩ := Option.bind_eq_some_iff.1 h
              dsimp only at h
              injection h with h; injection h with _ h; injection h with h1 h; injection h with h2 h; injection h with h3 h4
              subst h1 h2 h3 h4
              obtain ⟨e1, e2⟩ := Sweep_err hv he
              rw [e1, e2]
            · obtain ⟨⟨v1, v2⟩, hv, h⟩ := Option.bind_eq_some_iff.1 h
              dsimp only at h
              injection h with h; injection h with _ h; injection h with _ h; exact h.symm

/-! ### Deeds -/

/-! ### Copies -/

/-- What the arrays are behind deeds. -/
noncomputable def arrs (n m : Nat) (q : El T63 × El T65 × El T69) (ds : List (Int × Int × Int × Int)) : El T63 × El T65 × El T69 :=
  ds.foldl (fun q d => match hazard_Yard_Do d ((n : Int), (m : Int), q) with | some v => v.2.2 | none => q) q

theorem arrs_succ {q : El T63 × El T65 × El T69} {ds : List (Int × Int × Int × Int)} {k : Nat} (hk : k < ds.length) {r e : Int} {q' : El T63 × El T65 × El T69} (h : hazard_Yard_Do ds[k] ((n : Int), (m : Int), arrs n m q (ds.take k)) = some (r, e, q')) : arrs n m q (ds.take (k + 1)) = q' := by
  have h1 : arrs n m q (ds.take (k + 1)) = match hazard_Yard_Do ds[k] ((n : Int), (m : Int), arrs n m q (ds.take k)) with | some v => v.2.2 | none => arrs n m q (ds.take k) := by
    unfold arrs
    rw [take_one (List.getElem?_eq_getElem hk), List.foldl_append]; rfl
  rw [h1, h]

theorem behind_succ2 {ds : List (Int × Int × Int × Int)} {k : Nat} (hk : k < ds.length) : behind n m A (ds.take (k + 1)) = (doA n m (behind n m A (ds.take k)) ds[k]).2.2 := by
  unfold behind
  rw [take_one (List.getElem?_eq_getElem hk), List.foldl_append]; rfl

theorem copies_b4 (hI : Iv n m A) {q : El T63 × El T65 × El T69} (hR : Rp q.1 q.2.1 q.2.2 A) {s : Int × Int} (hn : 1 + s.1 % 4 = (n : Int)) (hm : 1 + s.2 % 4 = (m : Int)) (ds : List (Int × Int × Int × Int)) (hds : ds.length ≤ 1000) :
    whileO (lineallaw06_HazardCopies_b4 s ds) (q.1, q.2.1, q.2.2, 0) = some (arrs n m q ds) := by
  have key : ∃ r : El T63 × El T65 × El T69, whileO (lineallaw06_HazardCopies_b4 s ds) (q.1, q.2.1, q.2.2, 0) = some r ∧ r = arrs n m q ds := by
    refine whileO_inv (fun p : El T63 × El T65 × El T69 × Int => ∃ k : Nat, p.2.2.2 = (k : Int) ∧ k ≤ ds.length ∧ (p.1, p.2.1, p.2.2.1) = arrs n m q (ds.take k) ∧ Rp p.1 p.2.1 p.2.2.1 (behind n m A (ds.take k))) (fun p => ds.length - p.2.2.2.toNat) _ ?_ (q.1, q.2.1, q.2.2, 0) ⟨0, rfl, Nat.zero_le _, rfl, hR⟩
    rintro ⟨N, S, L, p⟩ ⟨k, hq, hk, ha, hR⟩
    simp only at hq hR ha
    subst hq
    by_cases hlt : k < ds.length
    · left
      have hx := List.getElem?_eq_getElem hlt
      have hIk := hI.behind_ (ds.take k)
      obtain ⟨N', S', L', e, hR'⟩ := Do_eq hIk hR ds[k]
      have hg : ds.getD ((k : Nat) : Int).toNat (0, 0, 0, 0) = ds[k] := getD_of hx
      refine ⟨(N', S', L', (k : Int) + 1), ?_, ⟨k + 1, rfl, hlt, ?_, by rw [behind_succ2 hlt]; exact hR'⟩, by simp; omega⟩
      · unfold lineallaw06_HazardCopies_b4
        dsimp only
        rw [if_pos (decide_eq_true (show ((k : Nat) : Int) < (ds.length : Int) by omega)), ck_pos (show (0 : Int) ≤ (k : Int) by omega), ck_pos (show ((k : Nat) : Int) < (ds.length : Int) by omega), hg, hn, hm, e, Option.bind_some]
        dsimp only
        rw [ck_pos (inK_small (by omega))]
      · rw [ha] at e
        exact (arrs_succ hlt e).symm
    · right
      have : k = ds.length := by omega
      subst this
      rw [List.take_length] at ha
      exact ⟨_, by unfold lineallaw06_HazardCopies_b4; rw [if_neg (by simp)], ha⟩
  obtain ⟨r, h1, rfl⟩ := key
  exact h1

theorem copies_b3 (hI : Iv n m A) {q : El T63 × El T65 × El T69} (hR : Rp q.1 q.2.1 q.2.2 A) {s : Int × Int} (hn : 1 + s.1 % 4 = (n : Int)) (hm : 1 + s.2 % 4 = (m : Int)) (ds : List (Int × Int × Int × Int)) (hds : ds.length ≤ 1000) :
    whileO (lineallaw06_HazardCopies_b3 s ds) (q.1, q.2.1, q.2.2, 0) = some (Sum.inr (arrs n m q ds)) ∧ Rp (arrs n m q ds).1 (arrs n m q ds).2.1 (arrs n m q ds).2.2 (behind n m A ds) := by
  have key : ∃ r : Sum Unit (El T63 × El T65 × El T69), whileO (lineallaw06_HazardCopies_b3 s ds) (q.1, q.2.1, q.2.2, 0) = some r ∧ (r = Sum.inr (arrs n m q ds) ∧ Rp (arrs n m q ds).1 (arrs n m q ds).2.1 (arrs n m q ds).2.2 (behind n m A ds)) := by
    refine whileO_inv (fun p : El T63 × El T65 × El T69 × Int => ∃ k : Nat, p.2.2.2 = (k : Int) ∧ k ≤ ds.length ∧ (p.1, p.2.1, p.2.2.1) = arrs n m q (ds.take k) ∧ Rp p.1 p.2.1 p.2.2.1 (behind n m A (ds.take k))) (fun p => ds.length - p.2.2.2.toNat) _ ?_ (q.1, q.2.1, q.2.2, 0) ⟨0, rfl, Nat.zero_le _, rfl, hR⟩
    rintro ⟨N, S, L, p⟩ ⟨k, hq, hk, ha, hR⟩
    simp only at hq hR ha
    subst hq
    by_cases hlt : k < ds.length
    · left
      have hx := List.getElem?_eq_getElem hlt
      have hIk := hI.behind_ (ds.take k)
      obtain ⟨N', S', L', e, hR'⟩ := Do_eq hIk hR ds[k]
      have hg : ds.getD ((k : Nat) : Int).toNat (0, 0, 0, 0) = ds[k] := getD_of hx
      refine ⟨(N', S', L', (k : Int) + 1), ?_, ⟨k + 1, rfl, hlt, ?_, by rw [behind_succ2 hlt]; exact hR'⟩, by simp; omega⟩
      · unfold lineallaw06_HazardCopies_b3
        dsimp only
        rw [if_pos (decide_eq_true (show ((k : Nat) : Int) < (ds.length : Int) by omega)), hn, hm, copy_eq hI.n1, Option.bind_some]
        dsimp only
        rw [ck_pos (show (0 : Int) ≤ (k : Int) by omega), ck_pos (show ((k : Nat) : Int) < (ds.length : Int) by omega), hg, e, Option.bind_some]
        dsimp only
        by_cases h0 : (doA n m (behind n m A (ds.take k)) ds[k]).2.1 = 0
        · rw [if_neg (by simp [h0]), ck_pos (inK_small (by omega))]
        · have hsm := Do_err e h0
          injection hsm with g1 hsm
          injection hsm with g2 g3
          subst g1 g2 g3
          rw [if_pos (nd_true h0), same_eq hIk hR, Option.bind_some, if_neg (by simp), ck_pos (inK_small (by omega))]
      · rw [ha] at e
        exact (arrs_succ hlt e).symm
    · right
      have : k = ds.length := by omega
      subst this
      rw [List.take_length] at ha hR
      exact ⟨_, by unfold lineallaw06_HazardCopies_b3; rw [if_neg (by simp)], by rw [← ha], by rw [← ha]; exact hR⟩
  obtain ⟨r, h1, rfl, h2⟩ := key
  exact ⟨h1, h2⟩

theorem HazardCopies_eq (s : Int × Int) (hs : InK .u8 s.1 ∧ InK .u8 s.2) (ds es : List (Int × Int × Int × Int)) : lineallaw06_HazardCopies s ds es = some true := by
  unfold lineallaw06_HazardCopies
  by_cases hl : 100 < (ds.length : Int)
  · rw [if_pos (decide_eq_true hl), lineallaw06_Sane_run]; rfl
  · rw [if_neg (by simpa using hl)]
    by_cases hl2 : 100 < (es.length : Int)
    · rw [if_pos (decide_eq_true hl2), lineallaw06_Sane_run]; rfl
    · obtain ⟨h1, h2⟩ := (inK_u8 _).1 hs.1
      obtain ⟨h3, h4⟩ := (inK_u8 _).1 hs.2
      obtain ⟨n, hn, n1, n4⟩ := ten s.1 h1
      obtain ⟨m, hm, m1, m4⟩ := ten s.2 h3
      have hI : Iv n m newM := Iv.new n1 n4 m1 m4
      obtain ⟨⟨N, S, L⟩, e0, hR0⟩ := done_eq h1 h2 h3 h4 hn hm ds (by omega)
      have hI0 := hI.behind_ ds
      obtain ⟨e3, hR3⟩ := copies_b3 hI0 (q := (N, S, L)) hR0 hn hm es (by omega)
      have e4 := copies_b4 hI0 (q := (N, S, L)) hR0 hn hm es (by omega)
      have hI3 := hI0.behind_ es
      have hs0 := same_eq hI0 hR0
      have hs3 : hazard_Same ((n : Int), (m : Int), arrs n m (N, S, L) es) ((n : Int), (m : Int), arrs n m (N, S, L) es) = some true := same_eq hI3 hR3
      rw [if_neg (by simpa using hl2), e0, Option.bind_some]
      dsimp only
      rw [Option.bind_some]
      dsimp only
      rw [hn, hm, hs0, Option.bind_some, if_neg (by simp), copy_eq n1, Option.bind_some]
      dsimp only
      dsimp only at e3
      rw [e3, Option.bind_some]
      dsimp only
      unfold lineallaw06_HazardCopies_k3
      dsimp only
      dsimp only at e4
      rw [hn, hm, hs0, Option.bind_some, if_neg (by simp), e4, Option.bind_some]
      unfold lineallaw06_HazardCopies_k4
      rw [hn, hm, hs3, Option.bind_some, if_pos rfl, Option.bind_some, if_pos rfl, lineallaw06_Sane_run]
      rfl

end
end Go.Proofs.YtcckpmeepcoafaaDoor
