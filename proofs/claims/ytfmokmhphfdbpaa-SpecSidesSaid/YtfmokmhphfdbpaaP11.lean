/-
  Layer 1, pure: two specifications side by side.
-/
import Derived.Test.YtfmokmhphfdbpaaP9
namespace Go.Proofs.Ytfmokmhphfdbpaa
open Go.RowKit

set_option linter.unusedVariables false
set_option linter.unusedSimpArgs false
set_option maxRecDepth 10000
set_option linter.unusedSectionVars false

theorem while3 {S R : Type} {body : S → Option (Step S R)} {s0 s1 s2 : S} {r : R} (h0 : body s0 = some (.next s1)) (h1 : body s1 = some (.next s2)) (h2 : body s2 = some (.done r)) : whileO body s0 = some r :=
  whileO_of (n := 3) (by simp [whileN, h0, h1, h2])

theorem Grow_eq {n : Int} (h0 : 0 ≤ n) (h1 : n ≤ 1000) : slices_Grow n = some () := by
  unfold slices_Grow
  have e : n - (0 - 0) = n := by omega
  rw [if_neg (by simpa using h0), e, ck_pos (by rw [inK_i64]; omega), ck_pos (by rw [inK_i64]; omega)]
  by_cases hp : 0 < n
  · rw [if_pos (by simpa using hp), ck_pos hp, ck_pos (by omega), ck_pos (by omega), ck_pos (by omega), ck_pos (by omega)]
  · rw [if_neg (by simpa using hp)]

theorem Concat_eq (a b : List Int) (ha : a.length ≤ 100) (hb : b.length ≤ 100) : slices_Concat [a, b] = some (a ++ b) := by
  unfold slices_Concat
  have l1 : whileO (slices_Concat_b1 [a, b]) (0, 0) = some ((a.length : Int) + (b.length : Int)) := by
    refine while3 (s1 := ((a.length : Int), 1)) (s2 := ((a.length : Int) + (b.length : Int), 2)) ?_ ?_ ?_
    · unfold slices_Concat_b1
      rw [if_pos (by simp)]
      show ck _ (ck _ (ck (InK .i64 (0 + ((a.length : Nat) : Int))) _)) = _
      rw [ck_pos (by simp), ck_pos (by simp), ck_pos (by rw [inK_i64]; omega)]
      show (if decide (0 + ((a.length : Nat) : Int) < 0) = true then none else ck _ (some (Step.next (0 + ((a.length : Nat) : Int), _)))) = _
      rw [if_neg (by simp), ck_pos (by rw [inK_i64]; omega), Int.zero_add]; rfl
    · unfold slices_Concat_b1
      rw [if_pos (by simp)]
      show ck _ (ck _ (ck (InK .i64 ((a.length : Int) + ((b.length : Nat) : Int))) _)) = _
      rw [ck_pos (by simp), ck_pos (by simp), ck_pos (by rw [inK_i64]; omega)]
      show (if decide ((a.length : Int) + ((b.length : Nat) : Int) < 0) = true then none else ck _ (some (Step.next ((a.length : Int) + ((b.length : Nat) : Int), _)))) = _
      rw [if_neg (by simp; omega), ck_pos (by rw [inK_i64]; omega)]; rfl
    · unfold slices_Concat_b1
      rw [if_neg (by simp)]
  have l2 : whileO (slices_Concat_b2 [a, b]) ([], 0) = some (a ++ b) := by
    refine while3 (s1 := (a, 1)) (s2 := (a ++ b, 2)) ?_ ?_ ?_
    · unfold slices_Concat_b2
      rw [if_pos (by simp), ck_pos (by simp), ck_pos (by simp), ck_pos (by simp; omega), ck_pos (by rw [inK_i64]; omega)]; rfl
    · unfold slices_Concat_b2
      rw [if_pos (by simp), ck_pos (by simp), ck_pos (by simp), ck_pos (by simp; omega), ck_pos (by rw [inK_i64]; omega)]; rfl
    · unfold slices_Concat_b2
      rw [if_neg (by simp)]
  rw [l1, Option.bind_some]
  unfold slices_Concat_k1 slices_Concat_k2
  rw [Grow_eq (by omega) (by omega), Option.bind_some, l2]; rfl

theorem mul_small {a b : Int} (h0 : 0 ≤ a) (h1 : a ≤ 8) (h2 : 0 ≤ b) (h3 : b ≤ 8) : 0 ≤ a * b ∧ a * b ≤ 64 :=
  ⟨Int.mul_nonneg h0 h2, Int.le_trans (Int.mul_le_mul h1 h3 h2 (by omega)) (by decide)⟩

theorem pair_lt {S T i k : Int} (hi : 0 ≤ i ∧ i < S) (hk : 0 ≤ k ∧ k < T) : 0 ≤ i * T + k ∧ i * T + k < S * T := by
  have h1 : 0 ≤ i * T := Int.mul_nonneg hi.1 (by omega)
  have h2 : (i + 1) * T ≤ S * T := Int.mul_le_mul_of_nonneg_right (by omega) (by omega)
  rw [Int.add_mul, Int.one_mul] at h2
  omega

def bG (s t : Tup) (q : Nat) : List Int := (s.2.2.1.getD (q / t.1.toNat) []).map (fun x => x * t.1 + ((q % t.1.toNat : Nat) : Int)) ++ (t.2.2.1.getD (q % t.1.toNat) []).map (fun x => ((q / t.1.toNat : Nat) : Int) * t.1 + x)
def bS (s t : Tup) (q : Nat) : List Int := s.2.2.2.getD (q / t.1.toNat) [] ++ t.2.2.2.getD (q % t.1.toNat) []
def bothT (s t : Tup) : Tup := (s.1 * t.1, s.2.1 + t.2.1, (List.range (s.1.toNat * t.1.toNat)).map (bG s t), (List.range (s.1.toNat * t.1.toNat)).map (bS s t))

theorem row_gen {s : Tup} (hv : (toSp s).ok = true) {i : Nat} (hi : (i : Int) < s.1) : ((s.2.2.1.getD i []).length : Int) = s.2.1 ∧ (∀ x ∈ s.2.2.1.getD i [], 0 ≤ x ∧ x < s.1) ∧ ((s.2.2.2.getD i []).length : Int) = s.2.1 ∧ (∀ x ∈ s.2.2.2.getD i [], ansB x = true) ∧ (i : Int) < (s.2.2.1.length : Int) ∧ (i : Int) < (s.2.2.2.length : Int) := by
  have hm := Sp.okE hv
  obtain ⟨r, e1, e2, e3⟩ := row_at (q := (i : Int)) hm.2.2.2.2.1 ⟨by omega, hi⟩
  obtain ⟨r', e1', e2', e3'⟩ := row_at (q := (i : Int)) hm.2.2.2.2.2 ⟨by omega, hi⟩
  rw [Int.toNat_natCast] at e1 e1'
  have f1 : s.2.2.1[i]? = some r := e1
  have f2 : s.2.2.2[i]? = some r' := e1'
  have g1 := (List.getElem?_eq_some_iff.1 f1).1
  have g2 := (List.getElem?_eq_some_iff.1 f2).1
  rw [getD_of f1, getD_of f2]
  exact ⟨e2, fun x hx => of_decide_eq_true (e3.1 x hx), e2', e3'.1, by omega, by omega⟩

section
variable {s t : Tup} (hv : (toSp s).ok = true) (hw : (toSp t).ok = true)
include hv hw

theorem Both_rows {i k : Nat} (hi : (i : Int) < s.1) (hk : (k : Int) < t.1) : (i * t.1.toNat + k) / t.1.toNat = i ∧ (i * t.1.toNat + k) % t.1.toNat = k := by
  have : k < t.1.toNat := by omega
  constructor
  · rw [Nat.mul_comm, Nat.mul_add_div (by omega), Nat.div_eq_of_lt this, Nat.add_zero]
  · rw [Nat.mul_comm, Nat.mul_add_mod, Nat.mod_eq_of_lt this]

theorem Both_b3 {i k : Nat} (hi : (i : Int) < s.1) (hk : (k : Int) < t.1) (a b c d : List (List Int)) : whileO (spec_Both_b3 s t (a, b, (i : Int)) (c, d, (k : Int))) (List.replicate 0 (0 : Int), 0) = some ((s.2.2.1.getD i []).map fun x => x * t.1 + (k : Int)) := by
  have hm := Sp.okE hv
  have hm' := Sp.okE hw
  have m1 : s.1 ≤ 8 := hm.2.1
  have m2 : t.1 ≤ 8 := hm'.2.1
  have m3 : s.2.1 ≤ 4 := hm.2.2.2.1
  obtain ⟨r1, r2, _⟩ := row_gen hv hi
  have hbody : ∀ x : List Int × Int, spec_Both_b3 s t (a, b, (i : Int)) (c, d, (k : Int)) x = if (decide (x.2 < ((s.2.2.1.getD i []).length : Int))) = true then
      ck (0 ≤ x.2) <| ck (x.2 < ((s.2.2.1.getD i []).length : Int)) <| ck (InK .i64 (((s.2.2.1.getD i []).getD x.2.toNat 0) * t.1)) <| ck (InK .i64 ((((s.2.2.1.getD i []).getD x.2.toNat 0) * t.1) + (k : Int))) <| ck ((x.1.length + 1) * 8 ≤ 140737488355328) <| ck (InK .i64 (x.2 + 1)) <| some (.next ((x.1 ++ [((((s.2.2.1.getD i []).getD x.2.toNat 0) * t.1) + (k : Int))]), (x.2 + 1)))
      else some (.done x.1) := fun x => rfl
  generalize s.2.2.1.getD i [] = r at *
  have := whileO_seq (body := spec_Both_b3 s t (a, b, (i : Int)) (c, d, (k : Int))) (fun j => ((List.range j).map fun j => r.getD j 0 * t.1 + (k : Int), ((j : Nat) : Int))) r.length (r := (List.range r.length).map fun j => r.getD j 0 * t.1 + (k : Int)) (fun j hj => ?_) ?_
  · rw [map_range_getD (l := r) (fun x => x * t.1 + (k : Int))] at this
    exact this
  · have hx := r2 (r.getD j 0) (by rw [List.getD_eq_getElem?_getD, List.getElem?_eq_getElem hj]; exact List.getElem_mem hj)
    have hmul := mul_small (a := r.getD j 0) (b := t.1) hx.1 (by omega) (by omega) m2
    rw [hbody]
    simp only
    rw [if_pos (by simpa using hj), ck_pos (by omega), ck_pos (by omega), Int.toNat_natCast, ck_pos (by rw [inK_i64]; omega), ck_pos (by rw [inK_i64]; omega), ck_pos (by rw [List.length_map, List.length_range]; omega), ck_pos (by rw [inK_i64]; omega), List.range_succ, List.map_append]
    rfl
  · rw [hbody]
    simp only
    rw [if_neg (by simp)]

theorem Both_b4 {i k : Nat} (hi : (i : Int) < s.1) (hk : (k : Int) < t.1) (a b c d : List (List Int)) (pre : List Int) (hp : pre.length ≤ 8) : whileO (spec_Both_b4 t (a, b, (i : Int)) (c, d, (k : Int))) (pre, 0) = some (pre ++ (t.2.2.1.getD k []).map fun x => (i : Int) * t.1 + x) := by
  have hm := Sp.okE hv
  have hm' := Sp.okE hw
  have m1 : s.1 ≤ 8 := hm.2.1
  have m2 : t.1 ≤ 8 := hm'.2.1
  have m3 : t.2.1 ≤ 4 := hm'.2.2.2.1
  obtain ⟨r1, r2, _⟩ := row_gen hw hk
  have hbody : ∀ x : List Int × Int, spec_Both_b4 t (a, b, (i : Int)) (c, d, (k : Int)) x = if (decide (x.2 < ((t.2.2.1.getD k []).length : Int))) = true then
      ck (0 ≤ x.2) <| ck (x.2 < ((t.2.2.1.getD k []).length : Int)) <| ck (InK .i64 ((i : Int) * t.1)) <| ck (InK .i64 (((i : Int) * t.1) + ((t.2.2.1.getD k []).getD x.2.toNat 0))) <| ck ((x.1.length + 1) * 8 ≤ 140737488355328) <| ck (InK .i64 (x.2 + 1)) <| some (.next ((x.1 ++ [(((i : Int) * t.1) + ((t.2.2.1.getD k []).getD x.2.toNat 0))]), (x.2 + 1)))
      else some (.done x.1) := fun x => rfl
  generalize t.2.2.1.getD k [] = r at *
  have := whileO_seq (body := spec_Both_b4 t (a, b, (i : Int)) (c, d, (k : Int))) (fun j => (pre ++ (List.range j).map fun j => (i : Int) * t.1 + r.getD j 0, ((j : Nat) : Int))) r.length (r := pre ++ (List.range r.length).map fun j => (i : Int) * t.1 + r.getD j 0) (fun j hj => ?_) ?_
  · rw [map_range_getD (l := r) (fun x => (i : Int) * t.1 + x)] at this
    have e : (pre ++ (List.range 0).map fun j => (i : Int) * t.1 + r.getD j 0, ((0 : Nat) : Int)) = (pre, 0) := by simp
    rw [e] at this
    exact this
  · have hx := r2 (r.getD j 0) (by rw [List.getD_eq_getElem?_getD, List.getElem?_eq_getElem hj]; exact List.getElem_mem hj)
    have hmul := mul_small (a := (i : Int)) (b := t.1) (by omega) (by omega) (by omega) m2
    rw [hbody]
    simp only
    rw [if_pos (by simpa using hj), ck_pos (by omega), ck_pos (by omega), Int.toNat_natCast, ck_pos (by rw [inK_i64]; omega), ck_pos (by rw [inK_i64]; omega), ck_pos (by rw [List.length_append, List.length_map, List.length_range]; omega), ck_pos (by rw [inK_i64]; omega), List.range_succ, List.map_append, List.append_assoc]
    rfl
  · rw [hbody]
    simp only
    rw [if_neg (by simp)]

theorem Both_b2 {i : Nat} (hi : (i : Int) < s.1) (h8 : s.1 * t.1 ≤ 8) : whileO (spec_Both_b2 s t ((List.range (i * t.1.toNat)).map (bG s t), (List.range (i * t.1.toNat)).map (bS s t), (i : Int))) ((List.range (i * t.1.toNat)).map (bG s t), (List.range (i * t.1.toNat)).map (bS s t), 0) = some ((List.range ((i + 1) * t.1.toNat)).map (bG s t), (List.range ((i + 1) * t.1.toNat)).map (bS s t)) := by
  have hm := Sp.okE hv
  have hm' := Sp.okE hw
  have m0 : 1 ≤ s.1 := hm.1
  have m1 : s.1 ≤ 8 := hm.2.1
  have m2 : t.1 ≤ 8 := hm'.2.1
  have m0' : 1 ≤ t.1 := hm'.1
  have m3 : s.2.1 ≤ 4 := hm.2.2.2.1
  have m3' : t.2.1 ≤ 4 := hm'.2.2.2.1
  have m4 : 1 ≤ s.2.1 := hm.2.2.1
  have m4' : 1 ≤ t.2.1 := hm'.2.2.1
  have hbig : ∀ k : Nat, (k : Int) < t.1 → i * t.1.toNat + k ≤ 64 := fun k hk => by
    have h1 : i * t.1.toNat ≤ 7 * 8 := Nat.mul_le_mul (by omega) (by omega)
    omega
  generalize hA : (List.range (i * t.1.toNat)).map (bG s t) = A
  generalize hB : (List.range (i * t.1.toNat)).map (bS s t) = B
  have := whileO_seq (body := spec_Both_b2 s t (A, B, (i : Int))) (fun k => ((List.range (i * t.1.toNat + k)).map (bG s t), (List.range (i * t.1.toNat + k)).map (bS s t), ((k : Nat) : Int))) t.1.toNat (r := ((List.range ((i + 1) * t.1.toNat)).map (bG s t), (List.range ((i + 1) * t.1.toNat)).map (bS s t))) (fun k hk => ?_) ?_
  · rw [← hA, ← hB]
    rw [← hA, ← hB] at this
    exact this
  · have hk' : (k : Int) < t.1 := by omega
    obtain ⟨r1, _, r3, _, r5, r6⟩ := row_gen hv hi
    obtain ⟨s1, _, s3, _, s5, s6⟩ := row_gen hw hk'
    have hb := hbig k hk'
    unfold spec_Both_b2
    simp only
    rw [if_pos (by simpa using hk'), ck_pos (by omega), ck_pos (by omega), ck_pos (by omega), ck_pos r5, Both_b3 hv hw hi hk', Option.bind_some]
    unfold spec_Both_k4
    simp only
    rw [ck_pos (by omega), ck_pos s5, Both_b4 hv hw hi hk' _ _ _ _ _ (by rw [List.length_map]; omega), Option.bind_some]
    unfold spec_Both_k5
    simp only
    rw [ck_pos (by rw [List.length_map, List.length_range]; omega), ck_pos (by omega), ck_pos r6, ck_pos (by omega), ck_pos s6, Int.toNat_natCast, Int.toNat_natCast, Concat_eq _ _ (by omega) (by omega), Option.bind_some, ck_pos (by rw [List.length_map, List.length_range]; omega)]
    unfold spec_Both_k3
    simp only
    rw [ck_pos (by rw [inK_i64]; omega)]
    obtain ⟨d1, d2⟩ := Both_rows hv hw hi hk'
    have g1 : (s.2.2.1.getD i []).map (fun x => x * t.1 + (k : Int)) ++ (t.2.2.1.getD k []).map (fun x => (i : Int) * t.1 + x) = bG s t (i * t.1.toNat + k) := by
      unfold bG; rw [d1, d2]
    have g2 : s.2.2.2.getD i [] ++ t.2.2.2.getD k [] = bS s t (i * t.1.toNat + k) := by
      unfold bS; rw [d1, d2]
    rw [g1, g2, ← Nat.add_assoc, List.range_succ, List.map_append, List.map_append]
    rfl
  · unfold spec_Both_b2
    simp only
    rw [if_neg (by simp; omega), Nat.add_mul, Nat.one_mul]

theorem Both_eq (hs : okS s) (ht : okS t) : spec_Both s t = some (if 8 < s.1 * t.1 then (0, 0, [], [], 4) else if 4 < s.2.1 + t.2.1 then (0, 0, [], [], 4) else ((bothT s t).1, (bothT s t).2.1, (bothT s t).2.2.1, (bothT s t).2.2.2, 0)) := by
  have hm := Sp.okE hv
  have hm' := Sp.okE hw
  have m0 : 1 ≤ s.1 := hm.1
  have m1 : s.1 ≤ 8 := hm.2.1
  have m2 : t.1 ≤ 8 := hm'.2.1
  have m0' : 1 ≤ t.1 := hm'.1
  have m3 : s.2.1 ≤ 4 := hm.2.2.2.1
  have m3' : t.2.1 ≤ 4 := hm'.2.2.2.1
  have m4 : 1 ≤ s.2.1 := hm.2.2.1
  have m4' : 1 ≤ t.2.1 := hm'.2.2.1
  have hmul := mul_small (a := s.1) (b := t.1) (by omega) m1 (by omega) m2
  unfold spec_Both
  rw [Valid_eq s hs, hv, Option.bind_some, if_neg (by simp), Valid_eq t ht, hw, Option.bind_some, if_neg (by simp), ck_pos (by rw [inK_i64]; omega), ck_pos (by rw [inK_i64]; omega)]
  by_cases h8 : 8 < s.1 * t.1
  · rw [if_pos (by simpa using h8), if_pos h8]
  rw [if_neg (by simpa using h8), if_neg h8]
  by_cases h4 : 4 < s.2.1 + t.2.1
  · rw [if_pos (by simpa using h4), if_pos h4]
  rw [if_neg (by simpa using h4), if_neg h4]
  have := whileO_seq (body := spec_Both_b1 s t) (fun i => ((List.range (i * t.1.toNat)).map (bG s t), (List.range (i * t.1.toNat)).map (bS s t), ((i : Nat) : Int))) s.1.toNat (r := ((bothT s t).2.2.1, (bothT s t).2.2.2)) (fun i hi => ?_) ?_
  · have e : ((List.range (0 * t.1.toNat)).map (bG s t), (List.range (0 * t.1.toNat)).map (bS s t), ((0 : Nat) : Int)) = ([], [], 0) := by simp
    rw [e] at this
    rw [this]; rfl
  · unfold spec_Both_b1
    simp only
    rw [if_pos (by simp; omega), Both_b2 hv hw (by omega) (by omega), Option.bind_some]
    unfold spec_Both_k2
    rw [ck_pos (by rw [inK_i64]; simp only; omega)]
    rfl
  · unfold spec_Both_b1
    simp only
    rw [if_neg (by simp; omega)]
    rfl

/-! ### What it does -/

theorem both_row (q : Nat) (hq : q < s.1.toNat * t.1.toNat) : (bothT s t).2.2.1[q]? = some (bG s t q) ∧ (bothT s t).2.2.2[q]? = some (bS s t q) := by
  unfold bothT
  simp [hq]

theorem both_mul : ((s.1.toNat * t.1.toNat : Nat) : Int) = s.1 * t.1 := by
  have hm : 1 ≤ s.1 := (Sp.okE hv).1
  have hm' : 1 ≤ t.1 := (Sp.okE hw).1
  rw [Int.natCast_mul, Int.toNat_of_nonneg (by omega), Int.toNat_of_nonneg (by omega)]

theorem both_dm {q : Nat} (hq : q < s.1.toNat * t.1.toNat) : ((q / t.1.toNat : Nat) : Int) < s.1 ∧ ((q % t.1.toNat : Nat) : Int) < t.1 := by
  have hm : 1 ≤ s.1 := (Sp.okE hv).1
  have hm' : 1 ≤ t.1 := (Sp.okE hw).1
  have h1 : q / t.1.toNat < s.1.toNat := Nat.div_lt_of_lt_mul (by rw [Nat.mul_comm]; exact hq)
  have h2 : q % t.1.toNat < t.1.toNat := Nat.mod_lt _ (by omega)
  omega

theorem bothT_ok (h8 : s.1 * t.1 ≤ 8) (h4 : s.2.1 + t.2.1 ≤ 4) : (toSp (bothT s t)).ok = true := by
  have hm := Sp.okE hv
  have hm' := Sp.okE hw
  have m0 : 1 ≤ s.1 := hm.1
  have m0' : 1 ≤ t.1 := hm'.1
  have m4 : 1 ≤ s.2.1 := hm.2.2.1
  have m4' : 1 ≤ t.2.1 := hm'.2.2.1
  have hmul := both_mul hv hw
  have h1 : 1 ≤ s.1 * t.1 := by
    have := Int.mul_le_mul m0 m0' (by omega) (by omega)
    simpa using this
  have key : ∀ (f : Nat → List Int) (p : Int → Bool), (∀ q, q < s.1.toNat * t.1.toNat → ((f q).length : Int) = s.2.1 + t.2.1 ∧ ∀ x ∈ f q, p x = true) → tab (s.1 * t.1) (s.2.1 + t.2.1) p ((List.range (s.1.toNat * t.1.toNat)).map f) = true := by
    intro f p hf
    rw [tab_iff]
    refine ⟨by rw [List.length_map, List.length_range]; exact hmul, fun r hr => ?_⟩
    obtain ⟨q, hq, rfl⟩ := List.mem_map.1 hr
    exact hf q (by simpa using hq)
  have k1 : tab (s.1 * t.1) (s.2.1 + t.2.1) (inR (s.1 * t.1)) (toSp (bothT s t)).nx = true := key (bG s t) _ fun q hq => by
    obtain ⟨d1, d2⟩ := both_dm hv hw hq
    obtain ⟨r1, r2, _⟩ := row_gen hv d1
    obtain ⟨u1, u2, _⟩ := row_gen hw d2
    unfold bG
    refine ⟨by rw [List.length_append, List.length_map, List.length_map]; omega, fun x hx => ?_⟩
    rcases List.mem_append.1 hx with hx | hx
    · obtain ⟨y, hy, rfl⟩ := List.mem_map.1 hx
      exact decide_eq_true (pair_lt (r2 y hy) ⟨Int.natCast_nonneg _, d2⟩)
    · obtain ⟨y, hy, rfl⟩ := List.mem_map.1 hx
      exact decide_eq_true (pair_lt (S := s.1) (i := ((q / t.1.toNat : Nat) : Int)) ⟨Int.natCast_nonneg _, d1⟩ (u2 y hy))
  have k2 : tab (s.1 * t.1) (s.2.1 + t.2.1) ansB (toSp (bothT s t)).sy = true := key (bS s t) _ fun q hq => by
    obtain ⟨d1, d2⟩ := both_dm hv hw hq
    obtain ⟨_, _, r1, r2, _⟩ := row_gen hv d1
    obtain ⟨_, _, u1, u2, _⟩ := row_gen hw d2
    unfold bS
    refine ⟨by rw [List.length_append]; omega, fun x hx => ?_⟩
    rcases List.mem_append.1 hx with hx | hx
    · exact r2 x hx
    · exact u2 x hx
  show (decide (1 ≤ s.1 * t.1) && decide (s.1 * t.1 ≤ 8) && decide (1 ≤ s.2.1 + t.2.1) && decide (s.2.1 + t.2.1 ≤ 4) && tab (s.1 * t.1) (s.2.1 + t.2.1) (inR (s.1 * t.1)) (toSp (bothT s t)).nx && tab (s.1 * t.1) (s.2.1 + t.2.1) ansB (toSp (bothT s t)).sy) = true
  rw [k1, k2, decide_eq_true h1, decide_eq_true h8, decide_eq_true h4, decide_eq_true (by omega : 1 ≤ s.2.1 + t.2.1)]; rfl

/-- One call: it goes to the one or to the other one. -/
theorem both_at {i k : Nat} (hi : (i : Int) < s.1) (hk : (k : Int) < t.1) {o : Int} (h0 : 0 ≤ o) (ho : o < s.2.1 + t.2.1) :
    (o < s.2.1 → at2 (bothT s t).2.2.1 ((i * t.1.toNat + k : Nat) : Int) o.toNat = at2 s.2.2.1 (i : Int) o.toNat * t.1 + (k : Int) ∧ at2 (bothT s t).2.2.2 ((i * t.1.toNat + k : Nat) : Int) o.toNat = at2 s.2.2.2 (i : Int) o.toNat) ∧
    (¬ o < s.2.1 → at2 (bothT s t).2.2.1 ((i * t.1.toNat + k : Nat) : Int) o.toNat = (i : Int) * t.1 + at2 t.2.2.1 (k : Int) (o - s.2.1).toNat ∧ at2 (bothT s t).2.2.2 ((i * t.1.toNat + k : Nat) : Int) o.toNat = at2 t.2.2.2 (k : Int) (o - s.2.1).toNat) := by
  have hq : i * t.1.toNat + k < s.1.toNat * t.1.toNat := by
    have h1 : (i + 1) * t.1.toNat ≤ s.1.toNat * t.1.toNat := Nat.mul_le_mul_right _ (by omega)
    rw [Nat.add_mul, Nat.one_mul] at h1
    omega
  obtain ⟨d1, d2⟩ := Both_rows hv hw hi hk
  obtain ⟨e1, e2⟩ := both_row hv hw _ hq
  obtain ⟨r1, _, r3, _, r5, r6⟩ := row_gen hv hi
  obtain ⟨u1, _, u3, _, u5, u6⟩ := row_gen hw hk
  have a1 : s.2.2.1[i]?.getD [] = s.2.2.1.getD i [] := (List.getD_eq_getElem?_getD ..).symm
  have a2 : s.2.2.2[i]?.getD [] = s.2.2.2.getD i [] := (List.getD_eq_getElem?_getD ..).symm
  have a3 : t.2.2.1[k]?.getD [] = t.2.2.1.getD k [] := (List.getD_eq_getElem?_getD ..).symm
  have a4 : t.2.2.2[k]?.getD [] = t.2.2.2.getD k [] := (List.getD_eq_getElem?_getD ..).symm
  unfold at2
  rw [Int.toNat_natCast, Int.toNat_natCast, Int.toNat_natCast, e1, e2, a1, a2, a3, a4]
  unfold bG bS
  rw [d1, d2]
  simp only [Option.getD_some]
  constructor
  · intro hlt
    rw [List.getElem?_append_left (by rw [List.length_map]; omega), List.getElem?_append_left (by omega), List.getElem?_map]
    have hl : o.toNat < (s.2.2.1.getD i []).length := by omega
    rw [List.getElem?_eq_getElem hl]
    exact ⟨rfl, rfl⟩
  · intro hge
    have l1 : ((s.2.2.1.getD i []).map fun x => x * t.1 + (k : Int)).length ≤ o.toNat := by rw [List.length_map]; omega
    have l2 : (s.2.2.2.getD i []).length ≤ o.toNat := by omega
    rw [List.getElem?_append_right l1, List.getElem?_append_right l2, List.length_map, List.getElem?_map]
    have e3 : o.toNat - (s.2.2.1.getD i []).length = (o - s.2.1).toNat := by omega
    have e4 : o.toNat - (s.2.2.2.getD i []).length = (o - s.2.1).toNat := by omega
    rw [e3, e4]
    have hl : (o - s.2.1).toNat < (t.2.2.1.getD k []).length := by omega
    rw [List.getElem?_eq_getElem hl]
    exact ⟨rfl, rfl⟩

/-- Calls of different sides commute. -/
theorem both_com (h8 : s.1 * t.1 ≤ 8) (h4 : s.2.1 + t.2.1 ≤ 4) {i k : Nat} (hi : (i : Int) < s.1) (hk : (k : Int) < t.1) {a b : Int} (ha : 0 ≤ a ∧ a < s.2.1) (hb : 0 ≤ b ∧ b < t.2.1) : comB (bothT s t) ((i * t.1.toNat + k : Nat) : Int) a (s.2.1 + b) = true := by
  have hok := bothT_ok hv hw h8 h4
  have ht1 : 1 ≤ t.1 := (Sp.okE hw).1
  have eT : (t.1.toNat : Int) = t.1 := Int.toNat_of_nonneg (by omega)
  have ha' : inR s.2.1 a = true := by simpa [inR] using ha
  have hb' : inR t.2.1 b = true := by simpa [inR] using hb
  have hiR : inR s.1 (i : Int) = true := by simp [inR]; exact hi
  have hkR : inR t.1 (k : Int) = true := by simp [inR]; exact hk
  have n1 := nx_in hv hiR ha'
  have n2 := nx_in hw hkR hb'
  have n1' : 0 ≤ at2 s.2.2.1 (i : Int) a.toNat ∧ at2 s.2.2.1 (i : Int) a.toNat < s.1 := of_decide_eq_true n1
  have n2' : 0 ≤ at2 t.2.2.1 (k : Int) b.toNat ∧ at2 t.2.2.1 (k : Int) b.toNat < t.1 := of_decide_eq_true n2
  obtain ⟨i', hi'⟩ : ∃ i' : Nat, at2 s.2.2.1 (i : Int) a.toNat = (i' : Int) := ⟨_, (Int.toNat_of_nonneg n1'.1).symm⟩
  obtain ⟨k', hk'⟩ : ∃ k' : Nat, at2 t.2.2.1 (k : Int) b.toNat = (k' : Int) := ⟨_, (Int.toNat_of_nonneg n2'.1).symm⟩
  have eb : s.2.1 + b - s.2.1 = b := by omega
  have A := (both_at hv hw hi hk ha.1 (by omega)).1 ha.2
  have B := (both_at hv hw hi hk (o := s.2.1 + b) (by omega) (by omega)).2 (by omega)
  rw [eb] at B
  have c1 : ∀ x y : Nat, (x : Int) * t.1 + (y : Int) = ((x * t.1.toNat + y : Nat) : Int) := fun x y => by rw [Int.natCast_add, Int.natCast_mul, eT]
  have sA : nxt (bothT s t) ((i * t.1.toNat + k : Nat) : Int) a = ((i' * t.1.toNat + k : Nat) : Int) := by
    unfold nxt; rw [A.1, hi', c1]
  have sB : nxt (bothT s t) ((i * t.1.toNat + k : Nat) : Int) (s.2.1 + b) = ((i * t.1.toNat + k' : Nat) : Int) := by
    unfold nxt; rw [B.1, hk', c1]
  have A2 := (both_at hv hw hi (k := k') (by omega) ha.1 (by omega)).1 ha.2
  have B2 := (both_at hv hw (i := i') (by omega) hk (o := s.2.1 + b) (by omega) (by omega)).2 (by omega)
  rw [eb] at B2
  unfold comB
  rw [sA, sB]
  have x1 : say (bothT s t) ((i * t.1.toNat + k : Nat) : Int) a = say (bothT s t) ((i * t.1.toNat + k' : Nat) : Int) a := by
    unfold say; rw [A.2, A2.2]
  have x2 : say (bothT s t) ((i' * t.1.toNat + k : Nat) : Int) (s.2.1 + b) = say (bothT s t) ((i * t.1.toNat + k : Nat) : Int) (s.2.1 + b) := by
    unfold say; rw [B.2, B2.2]
  have x3 : nxt (bothT s t) ((i' * t.1.toNat + k : Nat) : Int) (s.2.1 + b) = nxt (bothT s t) ((i * t.1.toNat + k' : Nat) : Int) a := by
    unfold nxt; rw [B2.1, A2.1, hi', hk']
  have hst : inR (bothT s t).1 (nxt (bothT s t) ((i * t.1.toNat + k' : Nat) : Int) a) = true := by
    have : nxt (bothT s t) ((i * t.1.toNat + k' : Nat) : Int) a = (i' : Int) * t.1 + (k' : Int) := by unfold nxt; rw [A2.1, hi']
    rw [this]
    exact decide_eq_true (pair_lt (S := s.1) (T := t.1) (i := (i' : Int)) (k := (k' : Int)) (by omega) (by omega))
  rw [x1, x2, x3, same_refl hok hst]
  simp

/-- A word, told apart. -/
def spR (So : Int) : List (Int × Int) → List Int × List Int × List Int × List Int
  | [] => ([], [], [], [])
  | x :: r => if x.1 < So then (x.1 :: (spR So r).1, (spR So r).2.1, x.2 :: (spR So r).2.2.1, (spR So r).2.2.2) else ((spR So r).1, (x.1 - So) :: (spR So r).2.1, (spR So r).2.2.1, x.2 :: (spR So r).2.2.2)

theorem both_run (h8 : s.1 * t.1 ≤ 8) (h4 : s.2.1 + t.2.1 ≤ 4) : ∀ (w : List Int) (i k : Nat), (i : Int) < s.1 → (k : Int) < t.1 → (∀ o ∈ w, 0 ≤ o ∧ o < s.2.1 + t.2.1) →
    let F := spR s.2.1 (w.zip (ans (toSp (bothT s t)) ((i * t.1.toNat + k : Nat) : Int) w))
    (∀ o ∈ F.1, inR s.2.1 o = true) ∧ (∀ o ∈ F.2.1, inR t.2.1 o = true) ∧ F.1.length ≤ w.length ∧ F.2.1.length ≤ w.length ∧ ans (toSp s) (i : Int) F.1 = F.2.2.1 ∧ ans (toSp t) (k : Int) F.2.1 = F.2.2.2
  | [], i, k, _, _, _ => by
    refine ⟨fun o ho => ?_, fun o ho => ?_, Nat.le_refl _, Nat.le_refl _, rfl, rfl⟩
    · exact absurd ho (by simp [spR])
    · exact absurd ho (by simp [spR])
  | o :: w, i, k, hi, hk, hw' => by
    have ho := hw' o (List.mem_cons_self ..)
    have ht1 : 1 ≤ t.1 := (Sp.okE hw).1
    have eT : (t.1.toNat : Int) = t.1 := Int.toNat_of_nonneg (by omega)
    have c1 : ∀ x y : Nat, (x : Int) * t.1 + (y : Int) = ((x * t.1.toNat + y : Nat) : Int) := fun x y => by rw [Int.natCast_add, Int.natCast_mul, eT]
    have AB := both_at hv hw hi hk ho.1 ho.2
    have ez : ans (toSp (bothT s t)) ((i * t.1.toNat + k : Nat) : Int) (o :: w) = at2 (bothT s t).2.2.2 ((i * t.1.toNat + k : Nat) : Int) o.toNat :: ans (toSp (bothT s t)) (at2 (bothT s t).2.2.1 ((i * t.1.toNat + k : Nat) : Int) o.toNat) w := rfl
    simp only
    rw [ez, List.zip_cons_cons]
    unfold spR
    by_cases hlt : o < s.2.1
    · have A := AB.1 hlt
      have hiR : inR s.1 (i : Int) = true := by simp [inR]; exact hi
      have ha' : inR s.2.1 o = true := by simp [inR]; omega
      have n1' : 0 ≤ at2 s.2.2.1 (i : Int) o.toNat ∧ at2 s.2.2.1 (i : Int) o.toNat < s.1 := of_decide_eq_true (nx_in hv hiR ha')
      obtain ⟨i', hi'⟩ : ∃ i' : Nat, at2 s.2.2.1 (i : Int) o.toNat = (i' : Int) := ⟨_, (Int.toNat_of_nonneg n1'.1).symm⟩
      have ih := both_run h8 h4 w i' k (by omega) hk (fun x hx => hw' x (List.mem_cons_of_mem _ hx))
      rw [if_pos hlt, A.1, A.2, hi', c1]
      simp only at ih ⊢
      obtain ⟨p1, p2, p3, p4, p5, p6⟩ := ih
      refine ⟨fun x hx => ?_, p2, Nat.succ_le_succ p3, Nat.le_succ_of_le p4, ?_, p6⟩
      · rcases List.mem_cons.1 hx with rfl | hx
        · exact ha'
        · exact p1 x hx
      · show at2 s.2.2.2 (i : Int) o.toNat :: ans (toSp s) (at2 s.2.2.1 (i : Int) o.toNat) _ = _
        rw [hi', p5]
    · have B := AB.2 hlt
      have hkR : inR t.1 (k : Int) = true := by simp [inR]; exact hk
      have hb' : inR t.2.1 (o - s.2.1) = true := by simp [inR]; omega
      have n2' : 0 ≤ at2 t.2.2.1 (k : Int) (o - s.2.1).toNat ∧ at2 t.2.2.1 (k : Int) (o - s.2.1).toNat < t.1 := of_decide_eq_true (nx_in hw hkR hb')
      obtain ⟨k', hk'⟩ : ∃ k' : Nat, at2 t.2.2.1 (k : Int) (o - s.2.1).toNat = (k' : Int) := ⟨_, (Int.toNat_of_nonneg n2'.1).symm⟩
      have ih := both_run h8 h4 w i k' hi (by omega) (fun x hx => hw' x (List.mem_cons_of_mem _ hx))
      rw [if_neg hlt, B.1, B.2, hk', c1]
      simp only at ih ⊢
      obtain ⟨p1, p2, p3, p4, p5, p6⟩ := ih
      refine ⟨p1, fun x hx => ?_, Nat.le_succ_of_le p3, Nat.succ_le_succ p4, p5, ?_⟩
      · rcases List.mem_cons.1 hx with rfl | hx
        · exact hb'
        · exact p2 x hx
      · show at2 t.2.2.2 (k : Int) (o - s.2.1).toNat :: ans (toSp t) (at2 t.2.2.1 (k : Int) (o - s.2.1).toNat) _ = _
        rw [hk', p6]

end
end Go.Proofs.Ytfmokmhphfdbpaa
