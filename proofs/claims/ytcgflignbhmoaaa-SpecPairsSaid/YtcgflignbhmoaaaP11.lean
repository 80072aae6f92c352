/-
  Layer 1, pure: two specifications side by side.
-/
import Derived.Test.YtcgflignbhmoaaaP9
namespace Go.Proofs.Ytcgflignbhmoaaa
open Go.RowKit

set_option linter.unusedVariables false
set_option linter.unusedSimpArgs false
set_option maxRecDepth 10000
set_option linter.unusedSectionVars false

theorem while3 {S R : Type} {body : S → Option (Step S R)} {s0 s1 s2 : S} {r : R} (h0 : body s0 = some (.next s1)) (h1 : body s1 = some (.next s2)) (h2 : body s2 = some (.done r)) : whileO body s0 = some r :=
  whileO_of (n := 3) (by simp [whileN, h0, h1, h2])

theorem Grow_eq {n : Int} (h0 : 0 ≤ n) (h1 : n ≤ 1000) : slices_Grow n = some () := by
  unfold slices_Grow
  have e : n - (0 - 0) = n := by omega
  rw [if_neg (by simpa using h0), e, ck_pos (by rw [inK_i64]; omega), ck_pos (by rw [inK_i64]; omega)]
  by_cases hp : 0 < n
  · rw [if_pos (by simpa using hp), ck_pos hp, ck_pos (by omega), ck_pos (by omega), ck_pos (by omega), ck_pos (by omega)]
  · rw [if_neg (by simpa using hp)]

theorem Concat_eq (a b : List Int) (ha : a.length ≤ 100) (hb : b.length ≤ 100) : slices_Concat [a, b] = some (a ++ b) := by
  unfold slices_Concat
  have l1 : whileO (slices_Concat_b1 [a, b]) (0, 0) = some ((a.length : Int) + (b.length : Int)) := by
    refine while3 (s1 := ((a.length : Int), 1)) (s2 := ((a.length : Int) + (b.length : Int), 2)) ?_ ?_ ?_
    · unfold slices_Concat_b1
      rw [if_pos (by simp)]
      show ck _ (ck _ (ck (InK .i64 (0 + ((a.length : Nat) : Int))) _)) = _
      rw [ck_pos (by simp), ck_pos (by simp), ck_pos (by rw [inK_i64]; omega)]
      show (if decide (0 + ((a.length : Nat) : Int) < 0) = true then none else ck _ (some (Step.next (0 + ((a.length : Nat) : Int), _)))) = _
      rw [if_neg (by simp), ck_pos (by rw [inK_i64]; omega), Int.zero_add]; rfl
    · unfold slices_Concat_b1
      rw [if_pos (by simp)]
      show ck _ (ck _ (ck (InK .i64 ((a.length : Int) + ((b.length : Nat) : Int))) _)) = _
      rw [ck_pos (by simp), ck_pos (by simp), ck_pos (by rw [inK_i64]; omega)]
      show (if decide ((a.length : Int) + ((b.length : Nat) : Int) < 0) = true then none else ck _ (some (Step.next ((a.length : Int) + ((b.length : Nat) : Int), _)))) = _
      rw [if_neg (by simp; omega), ck_pos (by rw [inK_i64]; omega)]; rfl
    · unfold slices_Concat_b1
      rw [if_neg (by simp)]
  have l2 : whileO (slices_Concat_b2 [a, b]) ([], 0) = some (a ++ b) := by
    refine while3 (s1 := (a, 1)) (s2 := (a ++ b, 2)) ?_ ?_ ?_
    · unfold slices_Concat_b2
      rw [if_pos (by simp), ck_pos (by simp), ck_pos (by simp), ck_pos (by simp; omega), ck_pos (by rw [inK_i64]; omega)]; rfl
    · unfold slices_Concat_b2
      rw [if_pos (by simp), ck_pos (by simp), ck_pos (by simp), ck_pos (by simp; omega), ck_pos (by rw [inK_i64]; omega)]; rfl
    · unfold slices_Concat_b2
      rw [if_neg (by simp)]
  rw [l1, Option.bind_some]
  unfold slices_Concat_k1 slices_Concat_k2
  rw [Grow_eq (by omega) (by omega), Option.bind_some, l2]; rfl

theorem mul_small {a b : Int} (h0 : 0 ≤ a) (h1 : a ≤ 8) (h2 : 0 ≤ b) (h3 : b ≤ 8) : 0 ≤ a * b ∧ a * b ≤ 64 :=
  ⟨Int.mul_nonneg h0 h2, Int.le_trans (Int.mul_le_mul h1 h3 h2 (by omega)) (by decide)⟩

theorem pair_lt {S T i k : Int} (hi : 0 ≤ i ∧ i < S) (hk : 0 ≤ k ∧ k < T) : 0 ≤ i * T + k ∧ i * T + k < S * T := by
  have h1 : 0 ≤ i * T := Int.mul_nonneg hi.1 (by omega)
  have h2 : (i + 1) * T ≤ S * T := Int.mul_le_mul_of_nonneg_right (by omega) (by omega)
  rw [Int.add_mul, Int.one_mul] at h2
  omega

def bG (s t : Tup) (q : Nat) : List Int := (s.2.2.1.getD (q / t.1.toNat) []).map (fun x => x * t.1 + ((q % t.1.toNat : Nat) : Int)) ++ (t.2.2.1.getD (q % t.1.toNat) []).map (fun x => ((q / t.1.toNat : Nat) : Int) * t.1 + x)
def bS (s t : Tup) (q : Nat) : List Int := s.2.2.2.getD (q / t.1.toNat) [] ++ t.2.2.2.getD (q % t.1.toNat) []
def bothT (s t : Tup) : Tup := (s.1 * t.1, s.2.1 + t.2.1, (List.range (s.1.toNat * t.1.toNat)).map (bG s t), (List.range (s.1.toNat * t.1.toNat)).map (bS s t))

theorem row_gen {s : Tup} (hv : (toSp s).ok = true) {i : Nat} (hi : (i : Int) < s.1) : ((s.2.2.1.getD i []).length : Int) = s.2.1 ∧ (∀ x ∈ s.2.2.1.getD i [], 0 ≤ x ∧ x < s.1) ∧ ((s.2.2.2.getD i []).length : Int) = s.2.1 ∧ (∀ x ∈ s.2.2.2.getD i [], ansB x = true) ∧ (i : Int) < (s.2.2.1.length : Int) ∧ (i : Int) < (s.2.2.2.length : Int) := by
  have hm := Sp.okE hv
  obtain ⟨r, e1, e2, e3⟩ := row_at (q := (i : Int)) hm.2.2.2.2.1 ⟨by omega, hi⟩
  obtain ⟨r', e1', e2', e3'⟩ := row_at (q := (i : Int)) hm.2.2.2.2.2 ⟨by omega, hi⟩
  rw [Int.toNat_natCast] at e1 e1'
  have f1 : s.2.2.1[i]? = some r := e1
  have f2 : s.2.2.2[i]? = some r' := e1'
  have g1 := (List.getElem?_eq_some_iff.1 f1).1
  have g2 := (List.getElem?_eq_some_iff.1 f2).1
  rw [getD_of f1, getD_of f2]
  exact ⟨e2, fun x hx => of_decide_eq_true (e3.1 x hx), e2', e3'.1, by omega, by omega⟩

section
variable {s t : Tup} (hv : (toSp s).ok = true) (hw : (toSp t).ok = true)
include hv hw

theorem Both_rows {i k : Nat} (hi : (i : Int) < s.1) (hk : (k : Int) < t.1) : (i * t.1.toNat + k) / t.1.toNat = i ∧ (i * t.1.toNat + k) % t.1.toNat = k := by
  have : k < t.1.toNat := by omega
  constructor
  · rw [Nat.mul_comm, Nat.mul_add_div (by omega), Nat.div_eq_of_lt this, Nat.add_zero]
  · rw [Nat.mul_comm, Nat.mul_add_mod, Nat.mod_eq_of_lt this]

theorem Both_b3 {i k : Nat} (hi : (i : Int) < s.1) (hk : (k : Int) < t.1) (a b c d : List (List Int)) : whileO (spec_Both_b3 s t (a, b, (i : Int)) (c, d, (k : Int))) (List.replicate 0 (0 : Int), 0) = some ((s.2.2.1.getD i []).map fun x => x * t.1 + (k : Int)) := by
  have hm := Sp.okE hv
  have hm' := Sp.okE hw
  have m1 : s.1 ≤ 8 := hm.2.1
  have m2 : t.1 ≤ 8 := hm'.2.1
  have m3 : s.2.1 ≤ 4 := hm.2.2.2.1
  obtain ⟨r1, r2, _⟩ := row_gen hv hi
  have hbody : ∀ x : List Int × Int, spec_Both_b3 s t (a, b, (i : Int)) (c, d, (k : Int)) x = if (decide (x.2 < ((s.2.2.1.getD i []).length : Int))) = true then
      ck (0 ≤ x.2) <| ck (x.2 < ((s.2.2.1.getD i []).length : Int)) <| ck (InK .i64 (((s.2.2.1.getD i []).getD x.2.toNat 0) * t.1)) <| ck (InK .i64 ((((s.2.2.1.getD i []).getD x.2.toNat 0) * t.1) + (k : Int))) <| ck ((x.1.length + 1) * 8 ≤ 140737488355328) <| ck (InK .i64 (x.2 + 1)) <| some (.next ((x.1 ++ [((((s.2.2.1.getD i []).getD x.2.toNat 0) * t.1) + (k : Int))]), (x.2 + 1)))
      else some (.done x.1) := fun x => rfl
  generalize s.2.2.1.getD i [] = r at *
  have := whileO_seq (body := spec_Both_b3 s t (a, b, (i : Int)) (c, d, (k : Int))) (fun j => ((List.range j).map fun j => r.getD j 0 * t.1 + (k : Int), ((j : Nat) : Int))) r.length (r := (List.range r.length).map fun j => r.getD j 0 * t.1 + (k : Int)) (fun j hj => ?_) ?_
  · rw [map_range_getD (l := r) (fun x => x * t.1 + (k : Int))] at this
    exact this
  · have hx := r2 (r.getD j 0) (by rw [List.getD_eq_getElem?_getD, List.getElem?_eq_getElem hj]; exact List.getElem_mem hj)
    have hmul := mul_small (a := r.getD j 0) (b := t.1) hx.1 (by omega) (by omega) m2
    rw [hbody]
    simp only
    rw [if_pos (by simpa using hj), ck_pos (by omega), ck_pos (by omega), Int.toNat_natCast, ck_pos (by rw [inK_i64]; omega), ck_pos (by rw [inK_i64]; omega), ck_pos (by rw [List.length_map, List.length_range]; omega), ck_pos (by rw [inK_i64]; omega), List.range_succ, List.map_append]
    rfl
  · rw [hbody]
    simp only
    rw [if_neg (by simp)]

theorem Both_b4 {i k : Nat} (hi : (i : Int) < s.1) (hk : (k : Int) < t.1) (a b c d : List (List Int)) (pre : List Int) (hp : pre.length ≤ 8) : whileO (spec_Both_b4 t (a, b, (i : Int)) (c, d, (k : Int))) (pre, 0) = some (pre ++ (t.2.2.1.getD k []).map fun x => (i : Int) * t.1 + x) := by
  have hm := Sp.okE hv
  have hm' := Sp.okE hw
  have m1 : s.1 ≤ 8 := hm.2.1
  have m2 : t.1 ≤ 8 := hm'.2.1
  have m3 : t.2.1 ≤ 4 := hm'.2.2.2.1
  obtain ⟨r1, r2, _⟩ := row_gen hw hk
  have hbody : ∀ x : List Int × Int, spec_Both_b4 t (a, b, (i : Int)) (c, d, (k : Int)) x = if (decide (x.2 < ((t.2.2.1.getD k []).length : Int))) = true then
      ck (0 ≤ x.2) <| ck (x.2 < ((t.2.2.1.getD k []).length : Int)) <| ck (InK .i64 ((i : Int) * t.1)) <| ck (InK .i64 (((i : Int) * t.1) + ((t.2.2.1.getD k []).getD x.2.toNat 0))) <| ck ((x.1.length + 1) * 8 ≤ 140737488355328) <| ck (InK .i64 (x.2 + 1)) <| some (.next ((x.1 ++ [(((i : Int) * t.1) + ((t.2.2.1.getD k []).getD x.2.toNat 0))]), (x.2 + 1)))
      else some (.done x.1) := fun x => rfl
  generalize t.2.2.1.getD k [] = r at *
  have := whileO_seq (body := spec_Both_b4 t (a, b, (i : Int)) (c, d, (k : Int))) (fun j => (pre ++ (List.range j).map fun j => (i : Int) * t.1 + r.getD j 0, ((j : Nat) : Int))) r.length (r := pre ++ (List.range r.length).map fun j => (i : Int) * t.1 + r.getD j 0) (fun j hj => ?_) ?_
  · rw [map_range_getD (l := r) (fun x => (i : Int) * t.1 + x)] at this
    have e : (pre ++ (List.range 0).map fun j => (i : Int) * t.1 + r.getD j 0, ((0 : Nat) : Int)) = (pre, 0) := by simp
    rw [e] at this
    exact this
  · have hx := r2 (r.getD j 0) (by rw [List.getD_eq_getElem?_getD, List.getElem?_eq_getElem hj]; exact List.getElem_mem hj)
    have hmul := mul_small (a := (i : Int)) (b := t.1) (by omega) (by omega) (by omega) m2
    rw [hbody]
    simp only
    rw [if_pos (by simpa using hj), ck_pos (by omega), ck_pos (by omega), Int.toNat_natCast, ck_pos (by rw [inK_i64]; omega), ck_pos (by rw [inK_i64]; omega), ck_pos (by rw [List.length_append, List.length_map, List.length_range]; omega), ck_pos (by rw [inK_i64]; omega), List.range_succ, List.map_append, List.append_assoc]
    rfl
  · rw [hbody]
    simp only
    rw [if_neg (by simp)]

theorem Both_b2 {i : Nat} (hi : (i : Int) < s.1) (h8 : s.1 * t.1 ≤ 8) : whileO (spec_Both_b2 s t ((List.range (i * t.1.toNat)).map (bG s t), (List.range (i * t.1.toNat)).map (bS s t), (i : Int))) ((List.range (i * t.1.toNat)).map (bG s t), (List.range (i * t.1.toNat)).map (bS s t), 0) = some ((List.range ((i + 1) * t.1.toNat)).map (bG s t), (List.range ((i + 1) * t.1.toNat)).map (bS s t)) := by
  have hm := Sp.okE hv
  have hm' := Sp.okE hw
  have m0 : 1 ≤ s.1 := hm.1
  have m1 : s.1 ≤ 8 := hm.2.1
  have m2 : t.1 ≤ 8 := hm'.2.1
  have m0' : 1 ≤ t.1 := hm'.1
  have m3 : s.2.1 ≤ 4 := hm.2.2.2.1
  have m3' : t.2.1 ≤ 4 := hm'.2.2.2.1
  have m4 : 1 ≤ s.2.1 := hm.2.2.1
  have m4' : 1 ≤ t.2.1 := hm'.2.2.1
  have hbig : ∀ k : Nat, (k : Int) < t.1 → i * t.1.toNat + k ≤ 64 := fun k hk => by
    have h1 : i * t.1.toNat ≤ 7 * 8 := Nat.mul_le_mul (by omega) (by omega)
    omega
  generalize hA : (List.range (i * t.1.toNat)).map (bG s t) = A
  generalize hB : (List.range (i * t.1.toNat)).map (bS s t) = B
  have := whileO_seq (body := spec_Both_b2 s t (A, B, (i : Int))) (fun k => ((List.range (i * t.1.toNat + k)).map (bG s t), (List.range (i * t.1.toNat + k)).map (bS s t), ((k : Nat) : Int))) t.1.toNat (r := ((List.range ((i + 1) * t.1.toNat)).map (bG s t), (List.range ((i + 1) * t.1.toNat)).map (bS s t))) (fun k hk => ?_) ?_
  · rw [← hA, ← hB]
    rw [← hA, ← hB] at this
    exact this
  · have hk' : (k : Int) < t.1 := by omega
    obtain ⟨r1, _, r3, _, r5, r6⟩ := row_gen hv hi
    obtain ⟨s1, _, s3, _, s5, s6⟩ := row_gen hw hk'
    have hb := hbig k hk'
    unfold spec_Both_b2
    simp only
    rw [if_pos (by simpa using hk'), ck_pos (by omega), ck_pos (by omega), ck_pos (by omega), ck_pos r5, Both_b3 hv hw hi hk', Option.bind_some]
    unfold spec_Both_k4
    simp only
    rw [ck_pos (by omega), ck_pos s5, Both_b4 hv hw hi hk' _ _ _ _ _ (by rw [List.length_map]; omega), Option.bind_some]
    unfold spec_Both_k5
    simp only
    rw [ck_pos (by rw [List.length_map, List.length_range]; omega), ck_pos (by omega), ck_pos r6, ck_pos (by omega), ck_pos s6, Int.toNat_natCast, Int.toNat_natCast, Concat_eq _ _ (by omega) (by omega), Option.bind_some, ck_pos (by rw [List.length_map, List.length_range]; omega)]
    unfold spec_Both_k3
    simp only
    rw [ck_pos (by rw [inK_i64]; omega)]
    obtain ⟨d1, d2⟩ := Both_rows hv hw hi hk'
    have g1 : (s.2.2.1.getD i []).map (fun x => x * t.1 + (k : Int)) ++ (t.2.2.1.getD k []).map (fun x => (i : Int) * t.1 + x) = bG s t (i * t.1.toNat + k) := by
      unfold bG; rw [d1, d2]
    have g2 : s.2.2.2.getD i [] ++ t.2.2.2.getD k [] = bS s t (i * t.1.toNat + k) := by
      unfold bS; rw [d1, d2]
    rw [g1, g2, ← Nat.add_assoc, List.range_succ, List.map_append, List.map_append]
    rfl
  · unfold spec_Both_b2
    simp only
    rw [if_neg (by simp; omega), Nat.add_mul, Nat.one_mul]

theorem Both_eq (hs : okS s) (ht : okS t) : spec_Both s t = some (if 8 < s.1 * t.1 then (0, 0, [], [], 4) else if 4 < s.2.1 + t.2.1 then (0, 0, [], [], 4) else ((bothT s t).1, (bothT s t).2.1, (bothT s t).2.2.1, (bothT s t).2.2.2, 0)) := by
  have hm := Sp.okE hv
  have hm' := Sp.okE hw
  have m0 : 1 ≤ s.1 := hm.1
  have m1 : s.1 ≤ 8 := hm.2.1
  have m2 : t.1 ≤ 8 := hm'.2.1
  have m0' : 1 ≤ t.1 := hm'.1
  have m3 : s.2.1 ≤ 4 := hm.2.2.2.1
  have m3' : t.2.1 ≤ 4 := hm'.2.2.2.1
  have m4 : 1 ≤ s.2.1 := hm.2.2.1
  have m4' : 1 ≤ t.2.1 := hm'.2.2.1
  have hmul := mul_small (a := s.1) (b := t.1) (by omega) m1 (by omega) m2
  unfold spec_Both
  rw [Valid_eq s hs, hv, Option.bind_some, if_neg (by simp), Valid_eq t ht, hw, Option.bind_some, if_neg (by simp), ck_pos (by rw [inK_i64]; omega), ck_pos (by rw [inK_i64]; omega)]
  by_cases h8 : 8 < s.1 * t.1
  · rw [if_pos (by simpa using h8), if_pos h8]
  rw [if_neg (by simpa using h8), if_neg h8]
  by_cases h4 : 4 < s.2.1 + t.2.1
  · rw [if_pos (by simpa using h4), if_pos h4]
  rw [if_neg (by simpa using h4), if_neg h4]
  have := whileO_seq (body := spec_Both_b1 s t) (fun i => ((List.range (i * t.1.toNat)).map (bG s t), (List.range (i * t.1.toNat)).map (bS s t), ((i : Nat) : Int))) s.1.toNat (r := ((bothT s t).2.2.1, (bothT s t).2.2.2)) (fun i hi => ?_) ?_
  · have e : ((List.range (0 * t.1.toNat)).map (bG s t), (List.range (0 * t.1.toNat)).map (bS s t), ((0 : Nat) : Int)) = ([], [], 0) := by simp
    rw [e] at this
    rw [this]; rfl
  · unfold spec_Both_b1
    simp only
    rw [if_pos (by simp; omega), Both_b2 hv hw (by omega) (by omega), Option.bind_some]
    unfold spec_Both_k2
    rw [ck_pos (by rw [inK_i64]; simp only; omega)]
    rfl
  · unfold spec_Both_b1
    simp only
    rw [if_neg (by simp; omega)]
    rfl

/-! ### What it does -/

theorem both_mul : ((s.1.toNat * t.1.toNat : Nat) : Int) = s.1 * t.1 := by
  have hm : 1 ≤ s.1 := (Sp.okE hv).1
  have hm' : 1 ≤ t.1 := (Sp.okE hw).1
  rw [Int.natCast_mul, Int.toNat_of_nonneg (by omega), Int.toNat_of_nonneg (by omega)]

theorem both_dm {q : Nat} (hq : q < s.1.toNat * t.1.toNat) : ((q / t.1.toNat : Nat) : Int) < s.1 ∧ ((q % t.1.toNat : Nat) : Int) < t.1 := by
  have hm : 1 ≤ s.1 := (Sp.okE hv).1
  have hm' : 1 ≤ t.1 := (Sp.okE hw).1
  have h1 : q / t.1.toNat < s.1.toNat := Nat.div_lt_of_lt_mul (by rw [Nat.mul_comm]; exact hq)
  have h2 : q % t.1.toNat < t.1.toNat := Nat.mod_lt _ (by omega)
  omega

theorem bothT_ok (h8 : s.1 * t.1 ≤ 8) (h4 : s.2.1 + t.2.1 ≤ 4) : (toSp (bothT s t)).ok = true := by
  have hm := Sp.okE hv
  have hm' := Sp.okE hw
  have m0 : 1 ≤ s.1 := hm.1
  have m0' : 1 ≤ t.1 := hm'.1
  have m4 : 1 ≤ s.2.1 := hm.2.2.1
  have m4' : 1 ≤ t.2.1 := hm'.2.2.1
  have hmul := both_mul hv hw
  have h1 : 1 ≤ s.1 * t.1 := by
    have := Int.mul_le_mul m0 m0' (by omega) (by omega)
    simpa using this
  have key : ∀ (f : Nat → List Int) (p : Int → Bool), (∀ q, q < s.1.toNat * t.1.toNat → ((f q).length : Int) = s.2.1 + t.2.1 ∧ ∀ x ∈ f q, p x = true) → tab (s.1 * t.1) (s.2.1 + t.2.1) p ((List.range (s.1.toNat * t.1.toNat)).map f) = true := by
    intro f p hf
    rw [tab_iff]
    refine ⟨by rw [List.length_map, List.length_range]; exact hmul, fun r hr => ?_⟩
    obtain ⟨q, hq, rfl⟩ := List.mem_map.1 hr
    exact hf q (by simpa using hq)
  have k1 : tab (s.1 * t.1) (s.2.1 + t.2.1) (inR (s.1 * t.1)) (toSp (bothT s t)).nx = true := key (bG s t) _ fun q hq => by
    obtain ⟨d1, d2⟩ := both_dm hv hw hq
    obtain ⟨r1, r2, _⟩ := row_gen hv d1
    obtain ⟨u1, u2, _⟩ := row_gen hw d2
    unfold bG
    refine ⟨by rw [List.length_append, List.length_map, List.length_map]; omega, fun x hx => ?_⟩
    rcases List.mem_append.1 hx with hx | hx
    · obtain ⟨y, hy, rfl⟩ := List.mem_map.1 hx
      exact decide_eq_true (pair_lt (r2 y hy) ⟨Int.natCast_nonneg _, d2⟩)
    · obtain ⟨y, hy, rfl⟩ := List.mem_map.1 hx
      exact decide_eq_true (pair_lt (S := s.1) (i := ((q / t.1.toNat : Nat) : Int)) ⟨Int.natCast_nonneg _, d1⟩ (u2 y hy))
  have k2 : tab (s.1 * t.1) (s.2.1 + t.2.1) ansB (toSp (bothT s t)).sy = true := key (bS s t) _ fun q hq => by
    obtain ⟨d1, d2⟩ := both_dm hv hw hq
    obtain ⟨_, _, r1, r2, _⟩ := row_gen hv d1
    obtain ⟨_, _, u1, u2, _⟩ := row_gen hw d2
    unfold bS
    refine ⟨by rw [List.length_append]; omega, fun x hx => ?_⟩
    rcases List.mem_append.1 hx with hx | hx
    · exact r2 x hx
    · exact u2 x hx
  show (decide (1 ≤ s.1 * t.1) && decide (s.1 * t.1 ≤ 8) && decide (1 ≤ s.2.1 + t.2.1) && decide (s.2.1 + t.2.1 ≤ 4) && tab (s.1 * t.1) (s.2.1 + t.2.1) (inR (s.1 * t.1)) (toSp (bothT s t)).nx && tab (s.1 * t.1) (s.2.1 + t.2.1) ansB (toSp (bothT s t)).sy) = true
  rw [k1, k2, decide_eq_true h1, decide_eq_true h8, decide_eq_true h4, decide_eq_true (by omega : 1 ≤ s.2.1 + t.2.1)]; rfl

/-- A word, told apart. -/
def spR (So : Int) : List (Int × Int) → List Int × List Int × List Int × List Int
  | [] => ([], [], [], [])
  | x :: r => if x.1 < So then (x.1 :: (spR So r).1, (spR So r).2.1, x.2 :: (spR So r).2.2.1, (spR So r).2.2.2) else ((spR So r).1, (x.1 - So) :: (spR So r).2.1, (spR So r).2.2.1, x.2 :: (spR So r).2.2.2)

end
end Go.Proofs.Ytcgflignbhmoaaa
