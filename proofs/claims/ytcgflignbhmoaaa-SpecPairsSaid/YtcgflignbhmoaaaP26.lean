/-
  Layer 1, pure: the reference's word and classes, computed; the law about words.
-/
import Derived.Test.YtcgflignbhmoaaaP25
namespace Go.Proofs.Ytcgflignbhmoaaa
open Go.RowKit

set_option linter.unusedVariables false
set_option linter.unusedSectionVars false
set_option linter.unusedSimpArgs false

section
variable {S T : Sp} (hS : S.ok = true) (hT : T.ok = true) (hop : S.op = T.op)
include hS hT hop
theorem short_two2 {p q : Int} (hp : inR S.st p = true) (hq : inR T.st q = true) {w : List Int} (hw : calls S.op w) (hd : ans S p w ≠ ans T q w) : ∃ v, calls S.op v ∧ ans S p v ≠ ans T q v ∧ (v.length : Int) ≤ S.st + T.st - 1 := by
  have hm := Sp.okE hS
  have hn := Sp.okE hT
  have hp' := hp
  have hq' := hq
  simp only [inR, decide_eq_true_eq] at hp' hq'
  have a1 : inR (uni S T).st p = true := by
    show inR (S.st + T.st) _ = true
    simp only [inR, decide_eq_true_eq]; omega
  have a2 : inR (uni S T).st (S.st + q) = true := by
    show inR (S.st + T.st) _ = true
    simp only [inR, decide_eq_true_eq]; omega
  obtain ⟨v, h1, h2, h3⟩ := short_diff2 (S := uni S T) (by show 1 ≤ S.st + T.st; omega) (uni_closed hS hT hop) a1 a2 (w := w) hw (by rw [uni_ans1 hS hT hop w p hp hw, uni_ans2 hS hT hop w q hq hw]; exact hd)
  have h1' : calls S.op v := h1
  rw [uni_ans1 hS hT hop v p hp h1', uni_ans2 hS hT hop v q hq h1'] at h2
  exact ⟨v, h1', h2, h3⟩
end

section
variable {s t : Tup} (hv : (toSp s).ok = true) (hw : (toSp t).ok = true) (hop : s.2.1 = t.2.1)
include hv hw hop

theorem told_step {N : Nat} {M : Tbl} (hp : P2 s t N M) (hN : N ≤ 100) {a b k : Nat} (ha : (a : Int) < s.1) (hb : (b : Int) < t.1) (hd : dF s t N a b = (k : Int)) (hk : 1 ≤ k) (out : List Int) {j : Nat} (hj : j < s.2.1.toNat) (nx : Int) :
    linealref01_told_b2 s t M ((a : Int), (b : Int), out) (nx, (j : Int)) = some (.next (if dnB s t N a b k j = true then (j : Int) else nx, (j : Int) - 1)) := by
  have hm := Sp.okE hv
  have h2 : s.1 ≤ 8 := hm.2.1
  have h4 : s.2.1 ≤ 4 := hm.2.2.2.1
  have hm' := Sp.okE hw
  have h2' : t.1 ≤ 8 := hm'.2.1
  have hj1 : (j : Int) < s.2.1 := by omega
  have hj2 : (j : Int) < t.2.1 := by rw [← hop]; exact hj1
  have ia : inR s.1 (a : Int) = true := by simp only [inR, decide_eq_true_eq]; omega
  have ib : inR t.1 (b : Int) = true := by simp only [inR, decide_eq_true_eq]; omega
  obtain ⟨r1, x1, y1, z1, w1⟩ := tab_at hm.2.2.2.2.1 ia hj1
  obtain ⟨r2, x2, y2, z2, w2⟩ := tab_at hm.2.2.2.2.2 ia hj1
  obtain ⟨r3, x3, y3, z3, w3⟩ := tab_at hm'.2.2.2.2.1 ib hj2
  obtain ⟨r4, x4, y4, z4, w4⟩ := tab_at hm'.2.2.2.2.2 ib hj2
  rw [Int.toNat_natCast] at x1 x2 x3 x4
  have e1 : s.2.2.1.getD a [] = r1 := getD_of x1
  have e2 : s.2.2.2.getD a [] = r2 := getD_of x2
  have e3 : t.2.2.1.getD b [] = r3 := getD_of x3
  have e4 : t.2.2.2.getD b [] = r4 := getD_of x4
  have f1 : r1.getD j 0 = at2 s.2.2.1 a j := getD_of y1
  have f2 : r2.getD j 0 = at2 s.2.2.2 a j := getD_of y2
  have f3 : r3.getD j 0 = at2 t.2.2.1 b j := getD_of y3
  have f4 : r4.getD j 0 = at2 t.2.2.2 b j := getD_of y4
  have l1 : a < s.2.2.1.length := lt_of_get x1
  have l2 : a < s.2.2.2.length := lt_of_get x2
  have l3 : b < t.2.2.1.length := lt_of_get x3
  have l4 : b < t.2.2.2.length := lt_of_get x4
  have w1' : (r1.length : Int) = s.2.1 := w1
  have w2' : (r2.length : Int) = s.2.1 := w2
  have w3' : (r3.length : Int) = t.2.1 := w3
  have w4' : (r4.length : Int) = t.2.1 := w4
  obtain ⟨n1, n2⟩ := nxN_in hv hw hop ha hj1
  obtain ⟨m1, m2⟩ := nxN_in hw hv hop.symm hb hj2
  have k1 := hp.1.2 (nxN s a j) (by omega)
  have k0 := hp.1.1
  have hab : (M.getD a []).getD b 0 = (k : Int) := by
    have := hp.2 a b (by omega) (by omega)
    rw [← hd]; exact this
  have hnn : (M.getD (nxN s a j) []).getD (nxN t b j) 0 = dF s t N (nxN s a j) (nxN t b j) := hp.2 _ _ (by omega) (by omega)
  have hr := dF_range s t N a b
  have ki : InK .i64 ((j : Int) - 1) := by rw [inK_i64]; omega
  have kk : InK .i64 ((k : Int) - 1) := by rw [inK_i64]; omega
  unfold linealref01_told_b2
  simp only [Int.toNat_natCast, e1, e2, e3, e4, f1, f2, f3, f4, ← n1, ← m1, hab, hnn, ck_pos ki, ck_pos kk]
  rw [if_pos (by rw [decide_eq_true_eq]; omega)]
  unfold dnB
  by_cases h1 : k = 1
  · rw [if_pos (by rw [decide_eq_true_eq]; omega), ck_pos (by omega), ck_pos (by omega), ck_pos (by omega), ck_pos (by omega), ck_pos (by omega), ck_pos (by omega), ck_pos (by omega), ck_pos (by omega), if_pos h1]
    by_cases hs : at2 s.2.2.2 a j = at2 t.2.2.2 b j
    · rw [if_neg (by simp [hs]), if_neg (by rw [decide_eq_true_eq]; omega), if_neg (by simp [hs])]
    · rw [if_pos (by simp [hs]), if_pos (by simp [hs])]
  · rw [if_neg (by rw [decide_eq_true_eq]; omega), if_pos (by rw [decide_eq_true_eq]; omega), ck_pos (by omega), ck_pos (by omega), ck_pos (by omega), ck_pos (by omega), ck_pos (by omega), ck_pos (by omega), ck_pos (by omega), ck_pos (by omega), ck_pos (by omega), ck_pos (by omega), ck_pos (by omega), ck_pos (by omega), if_neg h1]
    by_cases hs : dF s t N (nxN s a j) (nxN t b j) = (k : Int) - 1
    · rw [if_pos (by simp [hs]), if_pos (by simp [hs])]
    · rw [if_neg (by simp [hs]), if_neg (by simp [hs])]

theorem told_b2 {N : Nat} {M : Tbl} (hp : P2 s t N M) (hN : N ≤ 100) {a b k : Nat} (ha : (a : Int) < s.1) (hb : (b : Int) < t.1) (hd : dF s t N a b = (k : Int)) (hk : 1 ≤ k) (out : List Int) : ∀ (j : Nat), j ≤ s.2.1.toNat → ∀ nx : Int,
    whileN (linealref01_told_b2 s t M ((a : Int), (b : Int), out)) (j + 1) (nx, (j : Int) - 1) = some (match (List.range j).find? (dnB s t N a b k) with | some o => (o : Int) | none => nx)
  | 0, _, nx => by
    unfold whileN linealref01_told_b2
    rw [if_neg (by rw [decide_eq_true_eq]; simp only; omega)]
    rfl
  | j + 1, hj, nx => by
    have e : (((j + 1 : Nat) : Int)) - 1 = (j : Int) := by omega
    unfold whileN
    rw [e, told_step hv hw hop hp hN ha hb hd hk out (by omega) nx]
    simp only
    rw [told_b2 hp hN ha hb hd hk out j (by omega), List.range_succ, List.find?_append]
    cases (List.range j).find? (dnB s t N a b k) with
    | some o => rfl
    | none =>
      by_cases h : dnB s t N a b k j = true
      · simp [h]
      · simp [h]

theorem told_b1 {N : Nat} {M : Tbl} (hp : P2 s t N M) (hN : N ≤ 100) : ∀ (k a b : Nat) (out : List Int), (a : Int) < s.1 → (b : Int) < t.1 → dF s t N a b = ((k + 1 : Nat) : Int) → out.length + k ≤ 1000 →
    whileN (linealref01_told_b1 s t M) (k + 1) ((a : Int), (b : Int), out) = some (out ++ tolW s t N (k + 1) a b) := by
  have hm := Sp.okE hv
  have h2 : s.1 ≤ 8 := hm.2.1
  have h3 : 1 ≤ s.2.1 := hm.2.2.1
  have h4 : s.2.1 ≤ 4 := hm.2.2.2.1
  have hm' := Sp.okE hw
  have h2' : t.1 ≤ 8 := hm'.2.1
  intro k
  induction k with
  | zero =>
    intro a b out ha hb hd hl
    obtain ⟨g1, g2, g3, g4⟩ := gop_spec (dn_ex hv hw hop hd)
    have hin := whileO_of (told_b2 hv hw hop hp hN ha hb hd (by omega) out s.2.1.toNat (Nat.le_refl _) (-1))
    rw [g4] at hin
    have e : ((s.2.1.toNat : Nat) : Int) - 1 = s.2.1 - 1 := by omega
    rw [e] at hin
    have hab : (M.getD a []).getD b 0 = ((0 + 1 : Nat) : Int) := by
      have := hp.2 a b (by omega) (by omega)
      rw [← hd]; exact this
    have k0 := hp.1.1
    have k1 := hp.1.2 a (by omega)
    unfold whileN linealref01_told_b1
    simp only [Int.toNat_natCast]
    rw [ck_pos (by omega), ck_pos (by omega), ck_pos (by omega), ck_pos (by omega), ck_pos (by rw [inK_i64]; omega), hin, Option.bind_some]
    unfold linealref01_told_k1
    simp only [Int.toNat_natCast, hab]
    rw [ck_pos (by omega), if_pos (by simp)]
    rfl
  | succ k ih =>
    intro a b out ha hb hd hl
    obtain ⟨g1, g2, g3, g4⟩ := gop_spec (dn_ex hv hw hop hd)
    have hin := whileO_of (told_b2 hv hw hop hp hN ha hb hd (by omega) out s.2.1.toNat (Nat.le_refl _) (-1))
    rw [g4] at hin
    have e : ((s.2.1.toNat : Nat) : Int) - 1 = s.2.1 - 1 := by omega
    rw [e] at hin
    have hab : (M.getD a []).getD b 0 = ((k + 1 + 1 : Nat) : Int) := by
      have := hp.2 a b (by omega) (by omega)
      rw [← hd]; exact this
    have k0 := hp.1.1
    have k1 := hp.1.2 a (by omega)
    have e9 : tolW s t N (k + 1 + 1) a b = (gop s t N a b (k + 1 + 1) : Int) :: tolW s t N (k + 1) (nxN s a (gop s t N a b (k + 1 + 1))) (nxN t b (gop s t N a b (k + 1 + 1))) := rfl
    rw [e9]
    generalize gop s t N a b (k + 1 + 1) = g at *
    have hj1 : (g : Int) < s.2.1 := by omega
    have hj2 : (g : Int) < t.2.1 := by rw [← hop]; exact hj1
    unfold dnB at g2
    rw [if_neg (by omega), decide_eq_true_eq] at g2
    obtain ⟨n1, n2⟩ := nxN_in hv hw hop ha hj1
    obtain ⟨m1, m2⟩ := nxN_in hw hv hop.symm hb hj2
    have ia : inR s.1 (a : Int) = true := by simp only [inR, decide_eq_true_eq]; omega
    have ib : inR t.1 (b : Int) = true := by simp only [inR, decide_eq_true_eq]; omega
    obtain ⟨r1, x1, y1, z1, w1⟩ := tab_at hm.2.2.2.2.1 ia hj1
    obtain ⟨r3, x3, y3, z3, w3⟩ := tab_at hm'.2.2.2.2.1 ib hj2
    rw [Int.toNat_natCast] at x1 x3
    have e1 : s.2.2.1.getD a [] = r1 := getD_of x1
    have e3 : t.2.2.1.getD b [] = r3 := getD_of x3
    have f1 : r1.getD g 0 = at2 s.2.2.1 a g := getD_of y1
    have f3 : r3.getD g 0 = at2 t.2.2.1 b g := getD_of y3
    have l1 : a < s.2.2.1.length := lt_of_get x1
    have l3 : b < t.2.2.1.length := lt_of_get x3
    have w1' : (r1.length : Int) = s.2.1 := w1
    have w3' : (r3.length : Int) = t.2.1 := w3
    have hi := ih (nxN s a g) (nxN t b g) (out ++ [(g : Int)]) n2 m2 (by rw [g2]; omega) (by rw [List.length_append]; simp; omega)
    have step : linealref01_told_b1 s t M ((a : Int), (b : Int), out) = some (.next (((nxN s a g : Nat) : Int), ((nxN t b g : Nat) : Int), out ++ [(g : Int)])) := by
      unfold linealref01_told_b1
      simp only [Int.toNat_natCast]
      rw [ck_pos (by omega), ck_pos (by omega), ck_pos (by omega), ck_pos (by omega), ck_pos (by rw [inK_i64]; omega), hin, Option.bind_some]
      unfold linealref01_told_k1
      simp only [Int.toNat_natCast, hab, e1, e3, f1, f3, ← n1, ← m1]
      rw [ck_pos (by omega), if_neg (by rw [decide_eq_true_eq]; omega), ck_pos (by omega), ck_pos (by omega), ck_pos (by omega), ck_pos (by omega), ck_pos (by omega), ck_pos (by omega), ck_pos (by omega), ck_pos (by omega)]
    unfold whileN
    rw [step]
    simp only
    rw [hi, List.append_assoc]
    rfl

attribute [local irreducible] dF tolW

theorem told_eq {a b : Int} (ha : inR s.1 a = true) (hb : inR t.1 b = true) : linealref01_told s t a b = some (match apartP (toSp s) (toSp t) (a, b) with | some w => (w, true) | none => ([], false)) := by
  obtain ⟨M, h1, h2⟩ := far_eq hv hw hop
  have hm := Sp.okE hv
  have q1 : 1 ≤ s.1 := hm.1
  have q2 : s.1 ≤ 8 := hm.2.1
  have q4 : s.2.1 ≤ 4 := hm.2.2.2.1
  have hm' := Sp.okE hw
  have q1' : 1 ≤ t.1 := hm'.1
  have q2' : t.1 ≤ 8 := hm'.2.1
  have hf : okP (toSp s) (toSp t) (a, b) := ⟨ha, hb⟩
  have h64 : s.1.toNat * t.1.toNat ≤ 8 * 8 := Nat.mul_le_mul (by omega) (by omega)
  have hsum : s.1.toNat + t.1.toNat ≤ s.1.toNat * t.1.toNat + 1 := by
    obtain ⟨x, hx⟩ : ∃ x, s.1.toNat = x + 1 := ⟨s.1.toNat - 1, by omega⟩
    obtain ⟨y, hy⟩ : ∃ y, t.1.toNat = y + 1 := ⟨t.1.toNat - 1, by omega⟩
    rw [hx, hy, Nat.add_mul, Nat.mul_add]; omega
  have ha' := ha
  have hb' := hb
  simp only [inR, decide_eq_true_eq] at ha' hb'
  obtain ⟨a, rfl⟩ := Int.eq_ofNat_of_zero_le ha'.1
  obtain ⟨b, rfl⟩ := Int.eq_ofNat_of_zero_le hb'.1
  have k0 := h2.1.1
  have k1 := h2.1.2 a (by omega)
  have he : (M.getD a []).getD b 0 = dF s t (s.1.toNat * t.1.toNat) a b := h2.2 a b (by omega) (by omega)
  have hz := dF_zero hv hw hop (s.1.toNat * t.1.toNat) a b ha'.2 hb'.2
  have hr := dF_range s t (s.1.toNat * t.1.toNat) a b
  unfold linealref01_told
  rw [h1, Option.bind_some]
  simp only [Int.toNat_natCast, he]
  rw [ck_pos (by omega), ck_pos (by omega), ck_pos (by omega), ck_pos (by omega)]
  by_cases h0 : dF s t (s.1.toNat * t.1.toNat) a b = 0
  · rw [if_pos (by rw [decide_eq_true_eq]; exact h0)]
    cases hx : apartP (toSp s) (toSp t) ((a : Int), (b : Int)) with
    | none => rfl
    | some own =>
      obtain ⟨o1, o2, o3, o4⟩ := apart_some hv hw hop hf hx
      obtain ⟨v, v1, v2, v3⟩ := short_two2 hv hw hop ha hb (w := own) o1 o3
      have v3' : (v.length : Int) ≤ s.1 + t.1 - 1 := v3
      exact absurd (hz.1 h0 v v1 (by omega)) v2
  · rw [if_neg (by rw [decide_eq_true_eq]; exact h0)]
    obtain ⟨k, hk⟩ : ∃ k : Nat, dF s t (s.1.toNat * t.1.toNat) a b = ((k + 1 : Nat) : Int) := ⟨(dF s t (s.1.toNat * t.1.toNat) a b).toNat - 1, by omega⟩
    obtain ⟨t1, t2, t3, t4⟩ := tolW_spec hv hw hop _ k a b ha'.2 hb'.2 hk
    have hw1 := whileO_of (told_b1 hv hw hop h2 (by omega) k a b [] ha'.2 hb'.2 hk (by simp; omega))
    rw [List.nil_append] at hw1
    rw [hw1, Option.bind_some]
    cases hx : apartP (toSp s) (toSp t) ((a : Int), (b : Int)) with
    | none => exact absurd (apart_none hv hw hop hf hx t1) t3
    | some own =>
      obtain ⟨o1, o2, o3, o4⟩ := apart_some hv hw hop hf hx
      have c1 := apart_cd hv hw hop hf hx t1 t3
      have c2 := t4 own o1 o3
      have : own = tolW s t (s.1.toNat * t.1.toNat) (k + 1) a b := cd_inj q4 own.length own _ rfl o1 t1 (by omega)
      rw [this]

end

attribute [local irreducible] sameB dF leastF

theorem eqb_self (b : Bool) : ((b == b) != true) = false := by cases b <;> rfl

theorem apart_len {s t : Tup} (hv : (toSp s).ok = true) (hw : (toSp t).ok = true) (hop : s.2.1 = t.2.1) {a b : Int} (ha : inR s.1 a = true) (hb : inR t.1 b = true) {w : List Int} (h : apartP (toSp s) (toSp t) (a, b) = some w) : w.length ≤ 1000 := by
  obtain ⟨o1, o2, o3, o4⟩ := apart_some hv hw hop (f := (a, b)) ⟨ha, hb⟩ h
  obtain ⟨v, v1, v2, v3⟩ := short_two2 hv hw hop ha hb (w := w) o1 o3
  have h1 : s.1 ≤ 8 := (Sp.okE hv).2.1
  have h2 : t.1 ≤ 8 := (Sp.okE hw).2.1
  have v3' : (v.length : Int) ≤ s.1 + t.1 - 1 := v3
  have := o4 v v1 v2
  omega

end Go.Proofs.Ytcgflignbhmoaaa
