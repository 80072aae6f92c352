/-
  Layer 1, pure: the reference's table, computed; whether two states are the same, as the reference says.
-/
import Derived.Test.YtcgflignbhmoaaaP19
namespace Go.Proofs.Ytcgflignbhmoaaa
open Go.RowKit

set_option linter.unusedVariables false
set_option linter.unusedSectionVars false
set_option linter.unusedSimpArgs false

/-- What an entry may hold while a round goes on. -/
def midV (s t : Tup) (n a b : Nat) (v : Int) : Prop := v = dF s t n a b ∨ (dF s t n a b = 0 ∧ (v = (n : Int) + 1 ∨ v = 0))

theorem mid_same {s t : Tup} {n a b : Nat} {v : Int} (h : midV s t n a b v) : (0 < v ∧ v = n) ↔ (0 < dF s t n a b ∧ dF s t n a b = n) := by
  rcases h with h | ⟨h1, h2⟩
  · rw [h]
  · rw [h1]
    rcases h2 with h2 | h2 <;> rw [h2]
    · constructor
      · intro h; omega
      · intro h; omega

theorem mid_next (s t : Tup) (n a b : Nat) : midV s t n a b (dF s t (n + 1) a b) := by
  have hr := dF_range s t n a b
  by_cases h : 0 < dF s t n a b
  · exact .inl (by rw [dF_succ, if_pos h])
  · refine .inr ⟨by omega, ?_⟩
    rw [dF_succ, if_neg h]
    split
    · exact .inl rfl
    · exact .inr rfl

section
variable {s t : Tup} (hv : (toSp s).ok = true) (hw : (toSp t).ok = true) (hop : s.2.1 = t.2.1)
include hv hw hop

/-- The calls of one pair, so far. -/
def P5 (s t : Tup) (n a b j : Nat) (M : Tbl) : Prop := shp s.1.toNat t.1.toNat M ∧ (∀ c d, c < s.1.toNat → d < t.1.toNat → midV s t n c d (ent M c d)) ∧
  (∀ c d, c < s.1.toNat → d < t.1.toNat → ¬ (c = a ∧ d = b) → ent M c d = if c < a ∨ (c = a ∧ d < b) then dF s t (n + 1) c d else dF s t n c d) ∧
  ent M a b = if (List.range j).any (hitB s t n a b) = true then (n : Int) + 1 else 0

theorem far_b5 {n a b : Nat} (hn : n ≤ 100) (ha : (a : Int) < s.1) (hb : (b : Int) < t.1) (h0 : dF s t n a b = 0) (M2 M3 M4 : Tbl) {j : Nat} {M : Tbl} (hj : j < s.2.1.toNat) (hp : P5 s t n a b j M) :
    ∃ M', linealref01_far_b5 s t (M2, (n : Int) + 1) (M3, (a : Int)) (M4, (b : Int)) (M, (j : Int)) = some (.next (M', (j : Int) + 1)) ∧ P5 s t n a b (j + 1) M' := by
  obtain ⟨p1, p2, p3, p4⟩ := hp
  have hm := Sp.okE hv
  have h2 : s.1 ≤ 8 := hm.2.1
  have h4 : s.2.1 ≤ 4 := hm.2.2.2.1
  have hm' := Sp.okE hw
  have h2' : t.1 ≤ 8 := hm'.2.1
  have hj1 : (j : Int) < s.2.1 := by omega
  have hj2 : (j : Int) < t.2.1 := by rw [← hop]; exact hj1
  have ia : inR s.1 (a : Int) = true := by simp only [inR, decide_eq_true_eq]; omega
  have ib : inR t.1 (b : Int) = true := by simp only [inR, decide_eq_true_eq]; omega
  obtain ⟨r1, x1, y1, z1, w1⟩ := tab_at hm.2.2.2.2.1 ia hj1
  obtain ⟨r2, x2, y2, z2, w2⟩ := tab_at hm.2.2.2.2.2 ia hj1
  obtain ⟨r3, x3, y3, z3, w3⟩ := tab_at hm'.2.2.2.2.1 ib hj2
  obtain ⟨r4, x4, y4, z4, w4⟩ := tab_at hm'.2.2.2.2.2 ib hj2
  rw [Int.toNat_natCast] at x1 x2 x3 x4
  have e1 : s.2.2.1.getD a [] = r1 := getD_of x1
  have e2 : s.2.2.2.getD a [] = r2 := getD_of x2
  have e3 : t.2.2.1.getD b [] = r3 := getD_of x3
  have e4 : t.2.2.2.getD b [] = r4 := getD_of x4
  have f1 : r1.getD j 0 = at2 s.2.2.1 a j := getD_of y1
  have f2 : r2.getD j 0 = at2 s.2.2.2 a j := getD_of y2
  have f3 : r3.getD j 0 = at2 t.2.2.1 b j := getD_of y3
  have f4 : r4.getD j 0 = at2 t.2.2.2 b j := getD_of y4
  have l1 : a < s.2.2.1.length := lt_of_get x1
  have l2 : a < s.2.2.2.length := lt_of_get x2
  have l3 : b < t.2.2.1.length := lt_of_get x3
  have l4 : b < t.2.2.2.length := lt_of_get x4
  have w1' : (r1.length : Int) = s.2.1 := w1
  have w2' : (r2.length : Int) = s.2.1 := w2
  have w3' : (r3.length : Int) = t.2.1 := w3
  have w4' : (r4.length : Int) = t.2.1 := w4
  obtain ⟨n1, n2⟩ := nxN_in hv hw hop ha hj1
  obtain ⟨m1, m2⟩ := nxN_in hw hv hop.symm hb hj2
  have k1 := p1.2 a (by omega)
  have k2 := p1.2 (nxN s a j) (by omega)
  have k0 := p1.1
  have hmid := mid_same (p2 (nxN s a j) (nxN t b j) (by omega) (by omega))
  have he : ((M.getD (nxN s a j) []).getD (nxN t b j) 0) = ent M (nxN s a j) (nxN t b j) := rfl
  have hany : (List.range (j + 1)).any (hitB s t n a b) = ((List.range j).any (hitB s t n a b) || hitB s t n a b j) := by
    rw [List.range_succ, List.any_append]; simp
  have good : ∃ M', (hitB s t n a b j = true → M' = M.set a ((M.getD a []).set b ((n : Int) + 1))) ∧ (hitB s t n a b j = false → M' = M) ∧ P5 s t n a b (j + 1) M' := by
    cases hh : hitB s t n a b j with
    | false =>
      refine ⟨M, fun h => (by cases h), fun _ => rfl, p1, p2, p3, ?_⟩
      rw [hany, hh, Bool.or_false]; exact p4
    | true =>
      refine ⟨_, fun _ => rfl, fun h => (by cases h), set_shp p1 (by omega) _, fun c d hc hd => ?_, fun c d hc hd hne => ?_, ?_⟩
      · rw [set_ent p1 (by omega) (by omega)]
        split
        · rename_i e; obtain ⟨rfl, rfl⟩ := e
          exact .inr ⟨h0, .inl rfl⟩
        · exact p2 c d hc hd
      · rw [set_ent p1 (by omega) (by omega), if_neg hne]; exact p3 c d hc hd hne
      · rw [set_ent p1 (by omega) (by omega), if_pos ⟨rfl, rfl⟩, hany, hh, Bool.or_true, if_pos rfl]
  obtain ⟨M', g1, g2, g3⟩ := good
  refine ⟨M', ?_, g3⟩
  have hhit : hitB s t n a b j = (decide (at2 s.2.2.2 a j ≠ at2 t.2.2.2 b j) || (decide (0 < dF s t n (nxN s a j) (nxN t b j)) && decide (dF s t n (nxN s a j) (nxN t b j) = n))) := rfl
  have ki : InK .i64 ((j : Int) + 1) := by rw [inK_i64]; omega
  unfold linealref01_far_b5
  simp only [Int.toNat_natCast, e1, e2, e3, e4, f1, f2, f3, f4, ← n1, ← m1, he]
  rw [if_pos (by rw [decide_eq_true_eq]; exact hj1)]
  simp only [ck_pos ki]
  rw [ck_pos (by omega), ck_pos (by omega), ck_pos (by omega), ck_pos (by omega), ck_pos (by omega), ck_pos (by omega), ck_pos (by omega), ck_pos (by omega), ck_pos (by omega), ck_pos (by omega), ck_pos (by omega), ck_pos (by omega), ck_pos (by omega), ck_pos (by omega), ck_pos (by omega), ck_pos (by omega), ck_pos (by omega), ck_pos (by omega), ck_pos (by omega), ck_pos (by omega)]
  by_cases hs : at2 s.2.2.2 a j = at2 t.2.2.2 b j
  · rw [if_neg (by simp [hs])]
    by_cases hpos : 0 < ent M (nxN s a j) (nxN t b j)
    · rw [if_pos (by simpa using hpos), ck_pos (by rw [inK_i64]; omega)]
      by_cases heq : ent M (nxN s a j) (nxN t b j) = n
      · have hd := hmid.1 ⟨hpos, heq⟩
        have ht : hitB s t n a b j = true := by rw [hhit, decide_eq_true hd.1, decide_eq_true hd.2]; simp
        rw [if_pos (by rw [decide_eq_true_eq]; omega), ck_pos (by omega), ck_pos (by omega), ck_pos (by omega), ck_pos (by omega), g1 ht]
      · have hd : ¬ (0 < dF s t n (nxN s a j) (nxN t b j) ∧ dF s t n (nxN s a j) (nxN t b j) = n) := fun h => heq (hmid.2 h).2
        have ht : hitB s t n a b j = false := by
          rw [hhit, Bool.or_eq_false_iff, Bool.and_eq_false_iff, decide_eq_false_iff_not, decide_eq_false_iff_not, decide_eq_false_iff_not]
          exact ⟨fun h => h hs, by omega⟩
        rw [if_neg (by rw [decide_eq_true_eq]; omega), g2 ht]
    · have hd : ¬ (0 < dF s t n (nxN s a j) (nxN t b j) ∧ dF s t n (nxN s a j) (nxN t b j) = n) := fun h => hpos (hmid.2 h).1
      have ht : hitB s t n a b j = false := by
        rw [hhit, Bool.or_eq_false_iff, Bool.and_eq_false_iff, decide_eq_false_iff_not, decide_eq_false_iff_not, decide_eq_false_iff_not]
        exact ⟨fun h => h hs, by omega⟩
      rw [if_neg (by simpa using hpos), g2 ht]
  · have ht : hitB s t n a b j = true := by rw [hhit, decide_eq_true hs]; rfl
    rw [if_pos (by simp [hs]), ck_pos (by omega), ck_pos (by omega), ck_pos (by omega), ck_pos (by omega), g1 ht]

/-- The pairs of one row, so far. -/
def P4 (s t : Tup) (n a b : Nat) (M : Tbl) : Prop := shp s.1.toNat t.1.toNat M ∧
  ∀ c d, c < s.1.toNat → d < t.1.toNat → ent M c d = if c < a ∨ (c = a ∧ d < b) then dF s t (n + 1) c d else dF s t n c d

theorem P4_mid {n a b : Nat} {M : Tbl} (h : P4 s t n a b M) : ∀ c d, c < s.1.toNat → d < t.1.toNat → midV s t n c d (ent M c d) := fun c d hc hd => by
  rw [h.2 c d hc hd]
  split
  · exact mid_next s t n c d
  · exact .inl rfl

theorem far_b4 {n a : Nat} (hn : n ≤ 100) (ha : (a : Int) < s.1) {M2 M3 : Tbl} (h3 : shp s.1.toNat t.1.toNat M3) {b : Nat} {M : Tbl} (hb : b < t.1.toNat) (hp : P4 s t n a b M) :
    ∃ M', linealref01_far_b4 s t (M2, (n : Int) + 1) (M3, (a : Int)) (M, (b : Int)) = some (.next (M', (b : Int) + 1)) ∧ P4 s t n a (b + 1) M' := by
  have hm := Sp.okE hv
  have g2 : s.1 ≤ 8 := hm.2.1
  have hm' := Sp.okE hw
  have g2' : t.1 ≤ 8 := hm'.2.1
  have k3 := h3.2 a (by omega)
  have k1 := hp.1.2 a (by omega)
  have k0 := hp.1.1
  have hb' : (b : Int) < t.1 := by omega
  have hab := hp.2 a b (by omega) hb
  rw [if_neg (by omega)] at hab
  have he : ((M.getD a []).getD b 0) = ent M a b := rfl
  have step : ∀ M' : Tbl, shp s.1.toNat t.1.toNat M' → (∀ c d, c < s.1.toNat → d < t.1.toNat → ¬ (c = a ∧ d = b) → ent M' c d = if c < a ∨ (c = a ∧ d < b) then dF s t (n + 1) c d else dF s t n c d) → ent M' a b = dF s t (n + 1) a b → P4 s t n a (b + 1) M' := by
    intro M' q1 q2 q3
    refine ⟨q1, fun c d hc hd => ?_⟩
    by_cases e : c = a ∧ d = b
    · obtain ⟨rfl, rfl⟩ := e
      rw [if_pos (by omega), q3]
    · rw [q2 c d hc hd e]
      have : (c < a ∨ (c = a ∧ d < b)) ↔ (c < a ∨ (c = a ∧ d < b + 1)) := by omega
      simp only [this]
  unfold linealref01_far_b4
  simp only [Int.toNat_natCast, he]
  rw [if_pos (by rw [decide_eq_true_eq]; omega), ck_pos (by omega), ck_pos (by omega), ck_pos (by omega), ck_pos (by omega)]
  by_cases hpos : 0 < dF s t n a b
  · refine ⟨M, ?_, step M hp.1 (fun c d hc hd _ => hp.2 c d hc hd) (by rw [hab, dF_succ, if_pos hpos])⟩
    rw [if_pos (by rw [hab]; simpa using hpos)]
    unfold linealref01_far_k5
    rw [ck_pos (by rw [inK_i64]; simp only; omega)]
  · have h0 : dF s t n a b = 0 := by have := dF_range s t n a b; omega
    have start : P5 s t n a b 0 M := ⟨hp.1, P4_mid hv hw hop hp, fun c d hc hd _ => hp.2 c d hc hd, by rw [hab, h0]; rfl⟩
    obtain ⟨M', r1, r2⟩ := loop_mat (body := linealref01_far_b5 s t (M2, (n : Int) + 1) (M3, (a : Int)) (M, (b : Int))) s.2.1.toNat (P5 s t n a b) (fun k Mk hk hpk => far_b5 hv hw hop hn ha hb' h0 M2 M3 M hk hpk) (fun Mk _ => by
      unfold linealref01_far_b5
      have h3 : 1 ≤ s.2.1 := hm.2.2.1
      rw [if_neg (by rw [decide_eq_true_eq]; simp only; omega)]) s.2.1.toNat 0 M (by omega) (by omega) start
    refine ⟨M', ?_, step M' r2.1 r2.2.2.1 ?_⟩
    · rw [if_neg (by rw [hab, h0]; simp)]
      have r1' : whileO (linealref01_far_b5 s t (M2, (n : Int) + 1) (M3, (a : Int)) (M, (b : Int))) (M, 0) = some M' := r1
      rw [r1', Option.bind_some]
      unfold linealref01_far_k5
      rw [ck_pos (by rw [inK_i64]; simp only; omega)]
    · rw [r2.2.2.2, dF_succ, if_neg hpos]

theorem far_b3 {n : Nat} (hn : n ≤ 100) {M2 : Tbl} (h2 : shp s.1.toNat t.1.toNat M2) {a : Nat} {M : Tbl} (ha : a < s.1.toNat) (hp : P4 s t n a 0 M) :
    ∃ M', linealref01_far_b3 s t (M2, (n : Int) + 1) (M, (a : Int)) = some (.next (M', (a : Int) + 1)) ∧ P4 s t n (a + 1) 0 M' := by
  have hm := Sp.okE hv
  have g2 : s.1 ≤ 8 := hm.2.1
  have hm' := Sp.okE hw
  have g1' : 1 ≤ t.1 := hm'.1
  have k0 := hp.1.1
  have k1 := hp.1.2 a ha
  have k2 := h2.1
  obtain ⟨M', r1, r2⟩ := loop_mat (body := linealref01_far_b4 s t (M2, (n : Int) + 1) (M, (a : Int))) t.1.toNat (P4 s t n a) (fun k Mk hk hpk => far_b4 hv hw hop hn (by omega) hp.1 hk hpk) (fun Mk hpk => by
    unfold linealref01_far_b4
    simp only [Int.toNat_natCast]
    rw [if_neg (by rw [decide_eq_true_eq]; omega)]) t.1.toNat 0 M (by omega) (by omega) hp
  refine ⟨M', ?_, r2.1, fun c d hc hd => ?_⟩
  · unfold linealref01_far_b3
    simp only
    have r1' : whileO (linealref01_far_b4 s t (M2, (n : Int) + 1) (M, (a : Int))) (M, 0) = some M' := r1
    rw [if_pos (by rw [decide_eq_true_eq]; omega), ck_pos (by omega), ck_pos (by omega), r1', Option.bind_some]
    unfold linealref01_far_k4
    rw [ck_pos (by rw [inK_i64]; simp only; omega)]
  · rw [r2.2 c d hc hd]
    have : (c < a ∨ (c = a ∧ d < t.1.toNat)) ↔ (c < a + 1 ∨ (c = a + 1 ∧ d < 0)) := by omega
    simp only [this]

/-- The rounds, so far. -/
def P2 (s t : Tup) (n : Nat) (M : Tbl) : Prop := shp s.1.toNat t.1.toNat M ∧ ∀ c d, c < s.1.toNat → d < t.1.toNat → ent M c d = dF s t n c d

theorem far_b2 {n : Nat} {M : Tbl} (hn : n < s.1.toNat * t.1.toNat) (hp : P2 s t n M) : ∃ M', linealref01_far_b2 s t (M, (n : Int) + 1) = some (.next (M', (n : Int) + 1 + 1)) ∧ P2 s t (n + 1) M' := by
  have hm := Sp.okE hv
  have g1 : 1 ≤ s.1 := hm.1
  have g2 : s.1 ≤ 8 := hm.2.1
  have hm' := Sp.okE hw
  have g1' : 1 ≤ t.1 := hm'.1
  have g2' : t.1 ≤ 8 := hm'.2.1
  have hmul : ((s.1.toNat * t.1.toNat : Nat) : Int) = s.1 * t.1 := by
    rw [Int.natCast_mul, Int.toNat_of_nonneg (by omega), Int.toNat_of_nonneg (by omega)]
  have h64 : s.1.toNat * t.1.toNat ≤ 8 * 8 := Nat.mul_le_mul (by omega) (by omega)
  have k0 := hp.1.1
  have start : P4 s t n 0 0 M := ⟨hp.1, fun c d hc hd => by rw [hp.2 c d hc hd, if_neg (by omega)]⟩
  obtain ⟨M', r1, r2⟩ := loop_mat (body := linealref01_far_b3 s t (M, (n : Int) + 1)) s.1.toNat (fun a => P4 s t n a 0) (fun k Mk hk hpk => far_b3 hv hw hop (by omega) hp.1 hk hpk) (fun Mk hpk => by
    unfold linealref01_far_b3
    simp only
    rw [if_neg (by rw [decide_eq_true_eq]; omega)]) s.1.toNat 0 M (by omega) (by omega) start
  refine ⟨M', ?_, r2.1, fun c d hc hd => by rw [r2.2 c d hc hd, if_pos (.inl hc)]⟩
  unfold linealref01_far_b2
  simp only
  have r1' : whileO (linealref01_far_b3 s t (M, (n : Int) + 1)) (M, 0) = some M' := r1
  rw [ck_pos (by rw [inK_i64]; omega), if_pos (by rw [decide_eq_true_eq]; omega), r1', Option.bind_some]
  unfold linealref01_far_k3
  rw [ck_pos (by rw [inK_i64]; simp only; omega)]

theorem far_eq : ∃ M, linealref01_far s t = some M ∧ P2 s t (s.1.toNat * t.1.toNat) M := by
  have hm := Sp.okE hv
  have g1 : 1 ≤ s.1 := hm.1
  have g2 : s.1 ≤ 8 := hm.2.1
  have hm' := Sp.okE hw
  have g1' : 1 ≤ t.1 := hm'.1
  have g2' : t.1 ≤ 8 := hm'.2.1
  have hmul : ((s.1.toNat * t.1.toNat : Nat) : Int) = s.1 * t.1 := by
    rw [Int.natCast_mul, Int.toNat_of_nonneg (by omega), Int.toNat_of_nonneg (by omega)]
  have h64 : s.1.toNat * t.1.toNat ≤ 8 * 8 := Nat.mul_le_mul (by omega) (by omega)
  obtain ⟨M1, i1, i2, i3⟩ := loop_mat (body := linealref01_far_b1 s t) s.1.toNat (fun k M => M.length = s.1.toNat ∧ ∀ c, c < k → M.getD c [] = List.replicate t.1.toNat (0 : Int)) (fun k Mk hk hpk => by
    refine ⟨Mk.set k (List.replicate t.1.toNat 0), ?_, by rw [List.length_set]; exact hpk.1, fun c hc => ?_⟩
    · unfold linealref01_far_b1
      simp only [List.length_replicate, Int.toNat_natCast]
      have := hpk.1
      rw [if_pos (by rw [decide_eq_true_eq]; omega), ck_pos (by omega), ck_pos (by omega), ck_pos (by omega), ck_pos (by omega), ck_pos (by rw [inK_i64]; omega)]
    · rw [getD_set (by rw [hpk.1]; exact hk)]
      by_cases e : c = k
      · rw [if_pos e]
      · rw [if_neg e]; exact hpk.2 c (by omega)) (fun Mk hpk => by
    unfold linealref01_far_b1
    simp only [List.length_replicate]
    rw [if_neg (by rw [decide_eq_true_eq]; omega)]) s.1.toNat 0 (List.replicate s.1.toNat []) (by omega) (by omega) ⟨by simp, fun c hc => by omega⟩
  have start : P2 s t 0 M1 := ⟨⟨i2, fun a ha => by rw [i3 a ha]; simp⟩, fun c d hc hd => by
    unfold ent
    rw [i3 c hc]
    simp [dF, List.getD, hd]⟩
  have rounds : ∀ (d n : Nat) (M : Tbl), s.1.toNat * t.1.toNat - n = d → n ≤ s.1.toNat * t.1.toNat → P2 s t n M → ∃ M', whileN (linealref01_far_b2 s t) (d + 1) (M, (n : Int) + 1) = some M' ∧ P2 s t (s.1.toNat * t.1.toNat) M' := by
    intro d
    induction d with
    | zero =>
      intro n M h1 h2 hp
      have e : n = s.1.toNat * t.1.toNat := by omega
      subst e
      refine ⟨M, ?_, hp⟩
      unfold whileN linealref01_far_b2
      simp only
      rw [ck_pos (by rw [inK_i64]; omega), if_neg (by rw [decide_eq_true_eq]; omega)]
    | succ d ih =>
      intro n M h1 h2 hp
      obtain ⟨M', e1, hp'⟩ := far_b2 hv hw hop (by omega) hp
      obtain ⟨M2, e2, hp2⟩ := ih (n + 1) M' (by omega) (by omega) hp'
      refine ⟨M2, ?_, hp2⟩
      unfold whileN
      rw [e1]
      have e9 : ((n : Int) + 1 + 1) = (((n + 1 : Nat) : Int) + 1) := by omega
      simp only
      rw [e9]
      exact e2
  obtain ⟨M, r1, r2⟩ := rounds _ 0 M1 rfl (by omega) start
  refine ⟨M, ?_, r2⟩
  unfold linealref01_far
  have i1' : whileO (linealref01_far_b1 s t) (List.replicate s.1.toNat ([] : List Int), 0) = some M1 := i1
  rw [ck_pos (by omega), ck_pos (by omega), ck_pos (by omega), i1', Option.bind_some]
  unfold linealref01_far_k1
  have r1' : whileO (linealref01_far_b2 s t) (M1, 1) = some M := whileO_of r1
  rw [r1', Option.bind_some]
  rfl

end

attribute [local irreducible] sameB dF

end Go.Proofs.Ytcgflignbhmoaaa
