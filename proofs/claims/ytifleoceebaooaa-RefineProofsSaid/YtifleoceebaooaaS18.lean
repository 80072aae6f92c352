/-
  Layer 5, pure: the greatest proof, by the program and by the reference; which relations are proofs.
-/
import Derived.Test.YtifleoceebaooaaS17
namespace Go.Proofs.Ytifleoceebaooaa

set_option linter.unusedVariables false
set_option linter.unusedSimpArgs false
set_option maxRecDepth 100000
set_option maxHeartbeats 1000000

/-- The greatest proof. -/
noncomputable def gP (c a : Sys) (x : Nat) : Nat := setM fun y => @decide (∃ Q, Sim c a Q ∧ (Q x).testBit y = true) (Classical.propDecidable _)

theorem and_i64 : ∀ a < 64, ∀ b < 64, iand .i64 ((a : Nat) : Int) ((b : Nat) : Int) = ((a &&& b : Nat) : Int) := by decide +kernel
theorem shl7i : ∀ i < 7, ishl .i64 1 ((i : Nat) : Int) = ((2 ^ i : Nat) : Int) := by decide +kernel
/-- A set less one state. -/
def clr (a i : Nat) : Nat := a ^^^ (a &&& 2 ^ i)
theorem clr_i64 : ∀ a < 64, ∀ i < 6, iandn .i64 ((a : Nat) : Int) ((2 ^ i : Nat) : Int) = ((clr a i : Nat) : Int) := by decide +kernel
theorem clr_bit (a i j : Nat) : (clr a i).testBit j = (a.testBit j && !decide (i = j)) := by
  unfold clr
  rw [Nat.testBit_xor, Nat.testBit_and, Nat.testBit_two_pow]
  cases a.testBit j <;> cases decide (i = j) <;> rfl
theorem clr_sub (a i : Nat) : sub (clr a i) a := fun j hj => by
  rw [clr_bit, Bool.and_eq_true] at hj; exact hj.1
theorem and_lt {a b : Nat} (h : a < 64) : a &&& b < 64 := Nat.lt_of_le_of_lt Nat.and_le_left h

section
variable {c a : Sys} (hc : OkS c) (ha : OkS a)

theorem gP_bit {x y : Nat} : (gP c a x).testBit y = true ↔ y < 6 ∧ ∃ Q, Sim c a Q ∧ (Q x).testBit y = true := by
  unfold gP
  rw [setM_bit]
  constructor
  · rintro ⟨h1, h2⟩; exact ⟨h1, @of_decide_eq_true _ (Classical.propDecidable _) h2⟩
  · rintro ⟨h1, h2⟩; exact ⟨h1, @decide_eq_true _ (Classical.propDecidable _) h2⟩

theorem gP_lt (x : Nat) : gP c a x < 64 := setM_lt _

theorem gP_out {x : Nat} (h : c.1.toNat ≤ x) : gP c a x = 0 := by
  refine sub_anti (fun y hy => ?_) (zero_sub _)
  obtain ⟨_, Q, hQ, hb⟩ := gP_bit.1 hy
  have := (hQ x y hb).1
  omega

include ha in
theorem gP_top {Q : Nat → Nat} (h : Sim c a Q) (x : Nat) : sub (Q x) (gP c a x) := fun y hy => by
  have := n6 ha
  have h2 := (h x y hy).2.1
  exact gP_bit.2 ⟨by omega, Q, h, hy⟩

include ha in
theorem gP_sim : Sim c a (gP c a) := fun x y hy => by
  obtain ⟨_, Q, hQ, hb⟩ := gP_bit.1 hy
  obtain ⟨h1, h2, h3⟩ := hQ x y hb
  exact ⟨h1, h2, folB_mono (gP_top ha hQ) h3⟩

include ha in
theorem gP_is {P : Nat → Nat} (hS : Sim c a P) (hL : ∀ Q, Sim c a Q → ∀ x, sub (Q x) (P x)) : P = gP c a := by
  funext x
  exact sub_anti (gP_top ha hS x) (hL _ (gP_sim ha) x)

include ha in
theorem refD_gP : refD c a ↔ (gP c a 0).testBit 0 = true := ⟨fun ⟨Q, h1, h2⟩ => gP_top ha h1 0 0 h2, fun h => ⟨_, gP_sim ha, h⟩⟩

end

theorem best_is {c a : Sys} {Tc Ta : El T69} (hc : OkS c) (ha : OkS a) (hT : Frm a Ta) : ∃ T, refine_two_best ((c, Tc), a, Ta) = some T ∧ Rep T (gP c a) := by
  obtain ⟨T, P, e, h1, h2, h3⟩ := best_eq (Tc := Tc) hc ha hT
  rw [gP_is ha h2 h3] at h1
  exact ⟨T, e, h1⟩

theorem twoOf_yes {c a : Sys} (kc : okZ c) (ka : okZ a) (hc : validB c = true) (ha : validB a = true) : ∃ Tc Ta, refine_twoOf c a = some (c.1, c.2, Tc, a.1, a.2, Ta, 0) ∧ Frm c Tc ∧ Frm a Ta := by
  obtain ⟨Tc, e1, h1⟩ := frameOf_eq c kc
  obtain ⟨Ta, e2, h2⟩ := frameOf_eq a ka
  rw [if_pos hc] at e1
  rw [if_pos ha] at e2
  refine ⟨Tc, Ta, ?_, h1 hc, h2 ha⟩
  unfold refine_twoOf
  rw [e1, Option.bind_some]
  simp only [decide_true, Bool.not_true, Bool.false_eq_true, if_false]
  rw [e2, Option.bind_some]
  simp only [decide_true, Bool.not_true, Bool.false_eq_true, if_false]

theorem twoOf_no {c a : Sys} (kc : okZ c) (ka : okZ a) (h : (validB c && validB a) = false) : refine_twoOf c a = some (0, [], Ty.dflt T69, 0, [], Ty.dflt T69, 50) := by
  obtain ⟨Tc, e1, h1⟩ := frameOf_eq c kc
  obtain ⟨Ta, e2, h2⟩ := frameOf_eq a ka
  unfold refine_twoOf
  cases hc : validB c with
  | false =>
    rw [hc] at e1
    rw [e1]
    rfl
  | true =>
    rw [hc, Bool.true_and] at h
    rw [if_pos hc] at e1
    rw [h] at e2
    rw [e1, Option.bind_some]
    simp only [decide_true, Bool.not_true, Bool.false_eq_true, if_false]
    rw [e2]
    rfl

theorem Best_yes {c a : Sys} (kc : okZ c) (ka : okZ a) (hc : validB c = true) (ha : validB a = true) : refine_Best c a = some ((relK (gP c a) 6).map pin, 0) := by
  obtain ⟨Tc, Ta, e1, _, h2⟩ := twoOf_yes kc ka hc ha
  obtain ⟨T, e2, hT⟩ := best_is (Tc := Tc) (okS_valid hc) (okS_valid ha) h2
  have e2' : refine_two_best (((c.1, c.2), Tc), (a.1, a.2), Ta) = some T := e2
  unfold refine_Best
  rw [e1, Option.bind_some]
  simp only [decide_true, Bool.not_true, Bool.false_eq_true, if_false]
  rw [e2', Option.bind_some, list_eq hT, Option.bind_some]

theorem Best_no {c a : Sys} (kc : okZ c) (ka : okZ a) (h : (validB c && validB a) = false) : refine_Best c a = some ([], 50) := by
  unfold refine_Best
  rw [twoOf_no kc ka h, Option.bind_some]
  rfl

/-! ### The reference -/

section
variable {c a : Sys} (hc : OkS c) (ha : OkS a)
include hc ha

theorem holds_eq {ps : List Int} {R : Nat → Nat} (h : RepL c.1.toNat ps R) (x : Nat) {y : Nat} (hy : y < a.1.toNat) : linealref05_holds c a ps (x : Int) (y : Int) = some (folB c a R x y) := by
  have h6 := n6 ha
  have hlen := hc.len
  unfold linealref05_holds
  have hL := loopB (body := linealref05_holds_b1 c a ps (x : Int) (y : Int)) c.2.length (fun k => !decide ((c.2.getD k (0, 0, 0)).1 = (x : Int)) || !decide (coM a (2 ^ y) (c.2.getD k (0, 0, 0)).2.1 &&& R (c.2.getD k (0, 0, 0)).2.2.toNat = 0)) (fun k hk => by
    have hz : c.2[k]? = some (c.2.getD k (0, 0, 0)) := by rw [List.getD_eq_getElem?_getD, List.getElem?_eq_getElem hk]; rfl
    have ki : InK .i64 ((k : Int) + 1) := by rw [inK_i64]; omega
    have hst := hc.st _ (List.mem_of_getElem? hz)
    unfold linealref05_holds_b1
    simp only [Int.toNat_natCast]
    obtain ⟨z, hzz⟩ : ∃ z, c.2.getD k (0, 0, 0) = z := ⟨_, rfl⟩
    simp only [hzz] at hst ⊢
    rw [if_pos (by rw [decide_eq_true_eq]; omega), ck_pos (by omega), ck_pos (by omega)]
    by_cases h1 : z.1 = (x : Int)
    · have hm : 2 ^ y < 2 ^ a.1.toNat := Nat.pow_lt_pow_right (by omega) hy
      have hcl := lt64 ha (coM_lt ha hm z.2.1)
      rw [if_pos (by simpa using h1), ck_pos (by omega), shl_i64 y (by omega), refcomes_eq ha hm, Option.bind_some, ck_pos (by omega), ck_pos (by rw [h.len]; omega), h.has _ (by omega), and_i64 _ hcl _ (h.lt _)]
      by_cases h2 : coM a (2 ^ y) z.2.1 &&& R z.2.2.toNat = 0
      · rw [if_pos (by rw [decide_eq_true_eq]; omega), if_neg (by simp [h1, h2])]
      · rw [if_neg (by rw [decide_eq_true_eq]; omega), ck_pos ki, if_pos (by simp [h2])]
    · rw [if_neg (by simpa using h1), ck_pos ki, if_pos (by simp [h1])]) (by
    unfold linealref05_holds_b1
    rw [if_neg (by rw [decide_eq_true_eq]; omega)])
  rw [hL, Option.bind_some]
  have hall : (allB c.2.length fun k => !decide ((c.2.getD k (0, 0, 0)).1 = (x : Int)) || !decide (coM a (2 ^ y) (c.2.getD k (0, 0, 0)).2.1 &&& R (c.2.getD k (0, 0, 0)).2.2.toNat = 0)) = folB c a R x y := by
    unfold folB
    rw [Bool.eq_iff_iff, allB_iff, List.all_eq_true]
    constructor
    · intro h9 z hz
      obtain ⟨k, hk⟩ := List.getElem?_of_mem hz
      have := h9 k (List.getElem?_eq_some_iff.1 hk).1
      rwa [getD_of hk] at this
    · intro h9 k hk
      have hz : c.2[k]? = some (c.2.getD k (0, 0, 0)) := by rw [List.getD_eq_getElem?_getD, List.getElem?_eq_getElem hk]; rfl
      exact h9 _ (List.mem_of_getElem? hz)
  rw [hall]
  cases folB c a R x y <;> rfl

/-- What a turn of the reference keeps. -/
structure Keep (R0 R : Nat → Nat) : Prop where
  top : ∀ Q, Sim c a Q → ∀ x, sub (Q x) (R x)
  le : ∀ x, sub (R x) (R0 x)

theorem turn_in (st2 : List Int × Int) {x : Nat} (hx : x < c.1.toNat) {ps : List Int} {R : Nat → Nat} (h : RepL c.1.toNat ps R) (hf : ∀ x, sub (R x) (full c a x)) (hk : ∀ Q, Sim c a Q → ∀ x, sub (Q x) (R x)) :
    ∃ ps' R', whileO (linealref05_best_b4 c a (ps, (x : Int)) ((bitsL (R x)).map fun (i : Nat) => (i : Int))) (ps, 0) = some ps' ∧ RepL c.1.toNat ps' R' ∧ Keep (c := c) (a := a) R R' ∧ (R' = R → ∀ y, (R x).testBit y = true → folB c a R x y = true) := by
  have h6 := n6 ha
  obtain ⟨r, e1, R', g1, g2, g3⟩ := scan2 (R := List Int) (bitsL (R x)) (fun k o => ∃ R', RepL c.1.toNat o R' ∧ Keep (c := c) (a := a) R R' ∧ (R' = R → ∀ y ∈ (bitsL (R x)).take k, folB c a R x y = true)) (fun o => ∃ R', RepL c.1.toNat o R' ∧ Keep (c := c) (a := a) R R' ∧ (R' = R → ∀ y, (R x).testBit y = true → folB c a R x y = true))
    (body := linealref05_best_b4 c a (ps, (x : Int)) ((bitsL (R x)).map fun (i : Nat) => (i : Int))) (s0 := ps) ⟨R, h, ⟨hk, fun _ => sub_refl _⟩, fun _ y hy => by simp at hy⟩
    (fun k y o hky hI => by
      obtain ⟨R', g1, g2, g3⟩ := hI
      have hlt := (List.getElem?_eq_some_iff.1 hky).1
      have hbl := bitsL_len (R x)
      have ki : InK .i64 ((k : Int) + 1) := by rw [inK_i64]; omega
      have hmem := List.mem_of_getElem? hky
      unfold bitsL at hmem
      rw [List.mem_filter, List.mem_range] at hmem
      obtain ⟨hx1, hya⟩ := full_in hc ha (hf x y hmem.2)
      have hg : ((bitsL (R x)).map fun (i : Nat) => (i : Int)).getD k 0 = (y : Int) := getD_of (by rw [List.getElem?_map, hky]; rfl)
      unfold linealref05_best_b4
      simp only [Int.toNat_natCast, hg, List.length_map]
      rw [if_pos (by rw [decide_eq_true_eq]; omega), ck_pos (by omega), ck_pos (by omega), holds_eq hc ha g1 x hya, Option.bind_some]
      cases hfb : folB c a R' x y with
      | false =>
        rw [if_pos (by simp), ck_pos (by omega), ck_pos (by rw [g1.len]; omega), ck_pos (by omega), ck_pos (by omega), ck_pos (by rw [g1.len]; omega), ck_pos ki, g1.has x hx, shl_i64 y (by omega), clr_i64 _ (g1.lt x) y (by omega)]
        have hcl : clr (R' x) y < 64 := sub_lt (n := 6) (clr_sub _ _) (g1.lt x)
        refine .inl ⟨_, rfl, _, repL_set g1 hx hcl, ⟨fun Q hQ i j hj => ?_, fun i => ?_⟩, fun e => ?_⟩
        · have h1 := g2.top Q hQ i j hj
          by_cases ei : i = x
          · subst ei
            rw [if_pos rfl, clr_bit, h1, Bool.true_and]
            by_cases ej : y = j
            · subst ej
              have := folB_mono (g2.top Q hQ) (hQ i y hj).2.2
              rw [hfb] at this; cases this
            · simp [ej]
          · rw [if_neg ei]; exact h1
        · by_cases ei : i = x
          · rw [ei, if_pos rfl]; exact sub_trans (clr_sub _ _) (g2.le x)
          · rw [if_neg ei]; exact g2.le i
        · have := congrFun e x
          rw [if_pos rfl] at this
          have h1 := hmem.2
          rw [← this, clr_bit] at h1
          simp at h1
      | true =>
        rw [if_neg (by simp), ck_pos ki]
        refine .inl ⟨o, rfl, R', g1, g2, fun e y' hy' => ?_⟩
        rw [take_one hky, List.mem_append, List.mem_singleton] at hy'
        rcases hy' with hy' | rfl
        · exact g3 e y' hy'
        · rw [e] at hfb; exact hfb)
    (fun o hI => by
      obtain ⟨R', g1, g2, g3⟩ := hI
      refine ⟨o, ?_, R', g1, g2, fun e y hy => g3 e y ?_⟩
      · unfold linealref05_best_b4
        rw [if_neg (by simp)]
      · rw [List.take_length]
        unfold bitsL
        rw [List.mem_filter, List.mem_range]
        exact ⟨bit_lt (n := 6) (h.lt x) hy, hy⟩)
  exact ⟨r, R', e1, g1, g2, g3⟩

theorem turn_eq (st2 : Int) {ps : List Int} {R : Nat → Nat} (h : RepL c.1.toNat ps R) (hf : ∀ x, sub (R x) (full c a x)) (hk : ∀ Q, Sim c a Q → ∀ x, sub (Q x) (R x)) :
    ∃ ps' R', whileO (linealref05_best_b3 c a (ps, st2)) (ps, 0) = some ps' ∧ RepL c.1.toNat ps' R' ∧ Keep (c := c) (a := a) R R' ∧ (R' = R → Sim c a R) := by
  have c6 := n6 hc
  obtain ⟨r, e1, R', g1, g2, g3⟩ := scan2 (R := List Int) (List.range c.1.toNat) (fun k o => ∃ R', RepL c.1.toNat o R' ∧ Keep (c := c) (a := a) R R' ∧ (R' = R → ∀ x, x < k → ∀ y, (R x).testBit y = true → folB c a R x y = true)) (fun o => ∃ R', RepL c.1.toNat o R' ∧ Keep (c := c) (a := a) R R' ∧ (R' = R → Sim c a R))
    (body := linealref05_best_b3 c a (ps, st2)) (s0 := ps) ⟨R, h, ⟨hk, fun _ => sub_refl _⟩, fun _ x hx => by omega⟩
    (fun k z o hkz hI => by
      obtain ⟨R1, g1, g2, g3⟩ := hI
      have hlt := (List.getElem?_eq_some_iff.1 hkz).1
      rw [List.length_range] at hlt
      have ki : InK .i64 ((k : Int) + 1) := by rw [inK_i64]; omega
      have hf1 : ∀ x, sub (R1 x) (full c a x) := fun x => sub_trans (g2.le x) (hf x)
      obtain ⟨ps', R2, e2, q1, q2, q3⟩ := turn_in hc ha (o, st2) hlt g1 hf1 g2.top
      refine .inl ⟨ps', ?_, R2, q1, ⟨q2.top, fun x => sub_trans (q2.le x) (g2.le x)⟩, fun e x hx y hy => ?_⟩
      · unfold linealref05_best_b3
        simp only [Int.toNat_natCast]
        rw [h.len, if_pos (by rw [decide_eq_true_eq]; omega), ck_pos (by omega), ck_pos (by rw [g1.len]; omega), g1.has k hlt, reflist_eq (g1.lt k), Option.bind_some, e2, Option.bind_some]
        unfold linealref05_best_k4
        rw [ck_pos ki]
      · have e1 : R1 = R := by
          funext i
          refine sub_anti (g2.le i) ?_
          rw [← e]; exact q2.le i
        rcases Nat.lt_succ_iff_lt_or_eq.1 hx with hx | hx
        · exact g3 e1 x hx y hy
        · subst hx
          have := q3 (by rw [e, e1]) y (by rw [e1]; exact hy)
          rwa [e1] at this)
    (fun o hI => by
      obtain ⟨R1, g1, g2, g3⟩ := hI
      rw [List.length_range] at g3
      refine ⟨o, ?_, R1, g1, g2, fun e x y hy => ?_⟩
      · unfold linealref05_best_b3
        simp only
        rw [h.len, List.length_range, if_neg (by simp)]
      · obtain ⟨h1, h2⟩ := full_in hc ha (hf x y hy)
        exact ⟨h1, h2, g3 e x h1 y hy⟩)
  exact ⟨r, R', e1, g1, g2, g3⟩

theorem mu_full : (mu (full c a) : Int) ≤ c.1 * a.1 := by
  have c6 := n6 hc
  have a6 := n6 ha
  have hcl := hc.lo
  have hal := ha.lo
  have key : ∀ m < 7, ∀ n < 7, cnt (if 0 < m then 2 ^ n - 1 else 0) + cnt (if 1 < m then 2 ^ n - 1 else 0) + cnt (if 2 < m then 2 ^ n - 1 else 0) + cnt (if 3 < m then 2 ^ n - 1 else 0) + cnt (if 4 < m then 2 ^ n - 1 else 0) + cnt (if 5 < m then 2 ^ n - 1 else 0) ≤ m * n := by decide +kernel
  have := key c.1.toNat (by omega) a.1.toNat (by omega)
  have e1 : c.1 = (c.1.toNat : Int) := (Int.toNat_of_nonneg (by omega)).symm
  have e2 : a.1 = (a.1.toNat : Int) := (Int.toNat_of_nonneg (by omega)).symm
  rw [e1, e2, ← Int.natCast_mul]
  unfold mu full
  exact Int.ofNat_le.2 this

theorem prod_le : 0 ≤ c.1 * a.1 ∧ c.1 * a.1 ≤ 36 := by
  have c6 := n6 hc
  have a6 := n6 ha
  have hcl := hc.lo
  have hal := ha.lo
  have e1 : c.1 = (c.1.toNat : Int) := (Int.toNat_of_nonneg (by omega)).symm
  have e2 : a.1 = (a.1.toNat : Int) := (Int.toNat_of_nonneg (by omega)).symm
  have key : ∀ m < 7, ∀ n < 7, m * n ≤ 36 := by decide
  have := key c.1.toNat (by omega) a.1.toNat (by omega)
  rw [e1, e2, ← Int.natCast_mul]
  omega

/-- The reference's greatest proof. -/
theorem refbest_eq : ∃ ps, linealref05_best c a = some ps ∧ RepL c.1.toNat ps (gP c a) := by
  have c6 := n6 hc
  have a6 := n6 ha
  have hcl := hc.lo
  have hal := ha.lo
  obtain ⟨np, hnp⟩ : ∃ N : Nat, c.1 * a.1 = (N : Int) := Int.eq_ofNat_of_zero_le (prod_le hc ha).1
  have hN := (prod_le hc ha).2
  have hp : 2 ^ a.1.toNat ≤ 64 := (Nat.pow_le_pow_right (by omega) a6 : 2 ^ a.1.toNat ≤ 2 ^ 6)
  have hp1 : 1 ≤ 2 ^ a.1.toNat := Nat.one_le_two_pow
  have hsh : ishl .i64 1 a.1 - 1 = ((2 ^ a.1.toNat - 1 : Nat) : Int) := by
    have : ishl .i64 1 a.1 = ((2 ^ a.1.toNat : Nat) : Int) := by
      conv => lhs; rw [show a.1 = (a.1.toNat : Int) from (Int.toNat_of_nonneg (by omega)).symm]
      exact shl7i _ (by omega)
    rw [this]; omega
  obtain ⟨p0, e1, h1⟩ := scan2 (R := List Int) (List.range c.1.toNat) (fun k o => RepL c.1.toNat o fun i => if i < k then 2 ^ a.1.toNat - 1 else 0) (fun o => RepL c.1.toNat o (full c a)) (body := linealref05_best_b1 c a) (s0 := List.replicate c.1.toNat (0 : Int)) (by simpa using repL_zero c.1.toNat)
    (fun k z o hk hI => by
      have hlt := (List.getElem?_eq_some_iff.1 hk).1
      rw [List.length_range] at hlt
      have ki : InK .i64 ((k : Int) + 1) := by rw [inK_i64]; omega
      refine .inl ⟨o.set k ((2 ^ a.1.toNat - 1 : Nat) : Int), ?_, ?_⟩
      · unfold linealref05_best_b1
        simp only [Int.toNat_natCast, hsh, List.length_replicate]
        rw [if_pos (by rw [decide_eq_true_eq]; omega), ck_pos (by omega), ck_pos (by rw [inK_i64]; omega), ck_pos (by omega), ck_pos (by rw [hI.len]; omega), ck_pos ki]
      · have := repL_set hI (i := k) (m := 2 ^ a.1.toNat - 1) hlt (by omega)
        have e : (fun j => if j = k then 2 ^ a.1.toNat - 1 else if j < k then 2 ^ a.1.toNat - 1 else 0) = fun i => if i < k + 1 then 2 ^ a.1.toNat - 1 else 0 := by
          funext j
          by_cases g : j = k
          · rw [if_pos g, if_pos (by omega)]
          · rw [if_neg g]
            by_cases g2 : j < k
            · rw [if_pos g2, if_pos (by omega)]
            · rw [if_neg g2, if_neg (by omega)]
        rw [← e]; exact this)
    (fun o hI => by
      rw [List.length_range] at hI ⊢
      refine ⟨o, ?_, hI⟩
      unfold linealref05_best_b1
      simp only [List.length_replicate]
      rw [if_neg (by rw [decide_eq_true_eq]; omega)])
  obtain ⟨p1, e2, R, h2, h3, h4⟩ := scan2 (R := List Int) (List.range np) (fun k o => ∃ R, RepL c.1.toNat o R ∧ Keep (c := c) (a := a) (full c a) R ∧ (Sim c a R ∨ mu R + k ≤ np)) (fun o => ∃ R, RepL c.1.toNat o R ∧ Keep (c := c) (a := a) (full c a) R ∧ Sim c a R) (body := linealref05_best_b2 c a) (s0 := p0)
    ⟨_, h1, ⟨fun Q hQ x => full_sim hc ha hQ x, fun _ => sub_refl _⟩, .inr (by have := mu_full hc ha; omega)⟩
    (fun k z o hk hI => by
      obtain ⟨R, h2, h3, h4⟩ := hI
      have hlt := (List.getElem?_eq_some_iff.1 hk).1
      rw [List.length_range] at hlt
      have ki : InK .i64 ((k : Int) + 1) := by rw [inK_i64]; omega
      obtain ⟨o', R', e3, q1, q2, q3⟩ := turn_eq hc ha (k : Int) h2 h3.le h3.top
      refine .inl ⟨o', ?_, R', q1, ⟨q2.top, fun x => sub_trans (q2.le x) (h3.le x)⟩, ?_⟩
      · unfold linealref05_best_b2
        simp only
        rw [if_pos (by rw [decide_eq_true_eq]; omega), e3, Option.bind_some]
        unfold linealref05_best_k3
        rw [ck_pos ki]
      · by_cases hS : Sim c a R
        · have : R' = R := by funext x; exact sub_anti (q2.le x) (q2.top R hS x)
          rw [this]; exact .inl hS
        · rcases h4 with h4 | h4
          · exact (hS h4).elim
          · have := mu_lt q2.le h2.lt (fun x hx => h2.out x (by omega)) (fun e => hS (q3 e))
            exact .inr (by omega))
    (fun o hI => by
      obtain ⟨R, h2, h3, h4⟩ := hI
      rw [List.length_range] at h4 ⊢
      refine ⟨o, ?_, R, h2, h3, ?_⟩
      · unfold linealref05_best_b2
        simp only
        rw [if_neg (by rw [decide_eq_true_eq]; omega)]
      · rcases h4 with h4 | h4
        · exact h4
        · intro x y hy
          exfalso
          have hz : mu R = 0 := by omega
          have hx := (full_in hc ha (h3.le x y hy)).1
          have hcx : cnt (R x) = 0 := by
            unfold mu at hz
            have : x < 6 := by omega
            match x, this with
            | 0, _ => omega
            | 1, _ => omega
            | 2, _ => omega
            | 3, _ => omega
            | 4, _ => omega
            | 5, _ => omega
            | n + 6, h => omega
          have := cnt_lt (a := 0) (b := R x) (zero_sub _) (h2.lt x) (fun e => by rw [← e] at hy; simp at hy)
          omega)
  refine ⟨p1, ?_, ?_⟩
  · unfold linealref05_best
    rw [ck_pos (by omega), ck_pos (by omega), e1, Option.bind_some]
    unfold linealref05_best_k1
    rw [ck_pos (by rw [inK_i64]; omega), e2, Option.bind_some]
    rfl
  · rw [← gP_is ha h4 h3.top]; exact h2

end

theorem refBest_yes {c a : Sys} (kc : okZ c) (ka : okZ a) (hc : validB c = true) (ha : validB a = true) : linealref05_Best c a = some ((relK (gP c a) 6).map pin, 0) := by
  obtain ⟨ps, e, h⟩ := refbest_eq (okS_valid hc) (okS_valid ha)
  have c6 := n6 (okS_valid hc)
  have hr : relK (gP c a) 6 = relK (gP c a) c.1.toNat := by
    have := relK_out (R := gP c a) (n := c.1.toNat) (fun i hi => gP_out hi) (6 - c.1.toNat)
    rwa [show c.1.toNat + (6 - c.1.toNat) = 6 by omega] at this
  unfold linealref05_Best
  rw [refValid_eq c kc, Option.bind_some, hc, if_neg (by simp), refValid_eq a ka, Option.bind_some, ha, if_neg (by simp), e, Option.bind_some, refrel_eq c6 h, Option.bind_some, hr]

theorem refBest_no {c a : Sys} (kc : okZ c) (ka : okZ a) (h : (validB c && validB a) = false) : linealref05_Best c a = some ([], 50) := by
  unfold linealref05_Best
  rw [refValid_eq c kc, Option.bind_some, refValid_eq a ka]
  cases hc : validB c with
  | false => rfl
  | true =>
    rw [hc, Bool.true_and] at h
    rw [h]; rfl

/-! ### Which relations are proofs -/

/-- The relation of a list. -/
def relM (L : List (Nat × Nat)) : Nat → Nat := accM L fun p => 2 ^ p.2

theorem relM_bit {L : List (Nat × Nat)} {x y : Nat} : (relM L x).testBit y = true ↔ (x, y) ∈ L := by
  unfold relM
  rw [accM_bit]
  constructor
  · rintro ⟨p, hp, rfl, h⟩
    rw [Nat.testBit_two_pow, decide_eq_true_eq] at h
    rw [← h]; exact hp
  · intro h
    exact ⟨(x, y), h, rfl, by simp⟩

theorem IsProof_both {c a : Sys} (kc : okZ c) (ka : okZ a) (hc : validB c = true) (ha : validB a = true) {L : List (Nat × Nat)} (hL : ∀ p ∈ L, p.1 < c.1.toNat ∧ p.2 < a.1.toNat) (fL : few L) (iL : isRelB c.1 a.1 (L.map pin) = true) :
    ∃ b, refine_IsProof c a (L.map pin) = some (b, 0) ∧ linealref05_IsProof c a (L.map pin) = some (b, 0) ∧ (b = true ↔ Sim c a (relM L)) := by
  have oc := okS_valid hc
  have oa := okS_valid ha
  have c6 := n6 oc
  have a6 := n6 oa
  have hL6 : ∀ p ∈ L, p.1 < 6 ∧ p.2 < 6 := fun p hp => by have := hL p hp; omega
  have fL' : few (L.map pin) := by unfold few at fL ⊢; rwa [List.length_map]
  obtain ⟨Tc, Ta, e1, _, h2⟩ := twoOf_yes kc ka hc ha
  obtain ⟨T, e2, hT⟩ := relOf_eq hL6 fL
  obtain ⟨U, e3, hU⟩ := held_eq oc oa h2 (Tc := Tc) hT (fun x y hb => (hL _ (relM_bit.1 hb)).2)
  have e3' : refine_two_held (((c.1, c.2), Tc), (a.1, a.2), Ta) T = some U := e3
  have hsim : U = T ↔ Sim c a (relM L) := by
    rw [rep_eq hU hT]
    constructor
    · intro e x y hb
      have hm := hL _ (relM_bit.1 hb)
      refine ⟨hm.1, hm.2, ?_⟩
      have hb' : (heldR c a (relM L) x).testBit y = true := by
        have := congrFun e x
        show (heldR c a (accM L fun p => 2 ^ p.2) x).testBit y = true
        rw [this]; exact hb
      unfold heldR at hb'
      rw [setM_bit, Bool.and_eq_true] at hb'
      exact hb'.2.2
    · intro hS
      funext x
      refine sub_anti (held_sub _ x) fun y hy => ?_
      unfold heldR
      rw [setM_bit, Bool.and_eq_true]
      exact ⟨by have := (hL6 _ (relM_bit.1 hy)).2; exact this, hy, (hS x y hy).2.2⟩
  refine ⟨decide (U = T), ?_, ?_, by rw [decide_eq_true_eq]; exact hsim⟩
  · unfold refine_IsProof
    rw [e1, Option.bind_some]
    simp only [decide_true, Bool.not_true, Bool.false_eq_true, if_false]
    rw [isRel_eq _ _ _ fL', Option.bind_some, iL, if_neg (by simp), e2, Option.bind_some, e3', Option.bind_some, ck_pos (rep_ok hU), ck_pos (rep_ok hT)]
  · obtain ⟨ps, e4, h4⟩ := scan2 (R := List Int) L (fun k o => RepL c.1.toNat o (relM (L.take k))) (fun o => RepL c.1.toNat o (relM L)) (body := linealref05_IsProof_b1 (L.map pin)) (s0 := List.replicate c.1.toNat (0 : Int)) (repL_zero c.1.toNat)
      (fun k p o hk hI => by
        have hlt := (List.getElem?_eq_some_iff.1 hk).1
        obtain ⟨_, ki⟩ := few_in fL hk
        have hp := hL p (List.mem_of_getElem? hk)
        have hgk : (L.map pin).getD k (0, 0) = ((p.1 : Int), (p.2 : Int)) := getD_of (by rw [List.getElem?_map, hk]; rfl)
        have h64 : 2 ^ p.2 < 64 := Nat.pow_lt_pow_right (by omega) (by omega : p.2 < 6)
        refine .inl ⟨o.set p.1 ((relM (L.take k) p.1 ||| 2 ^ p.2 : Nat) : Int), ?_, ?_⟩
        · unfold linealref05_IsProof_b1
          simp only [Int.toNat_natCast, hgk, List.length_map]
          rw [if_pos (by rw [decide_eq_true_eq]; omega), ck_pos (by omega), ck_pos (by omega), ck_pos (by omega), ck_pos (by rw [hI.len]; omega), ck_pos (by omega), ck_pos (by omega), ck_pos (by rw [hI.len]; omega), ck_pos ki, hI.has p.1 hp.1, shl_i64 p.2 (by omega), or_i64 _ (hI.lt _) _ h64]
        · have := repL_set hI hp.1 (or_lt (n := 6) (hI.lt p.1) h64)
          have e : (fun j => if j = p.1 then relM (L.take k) p.1 ||| 2 ^ p.2 else relM (L.take k) j) = relM (L.take (k + 1)) := by
            funext j
            rw [take_one hk]
            unfold relM
            rw [accM_snoc]
            by_cases g : j = p.1
            · subst g; rw [if_pos rfl]
            · rw [if_neg g, if_neg g]
          rw [← e]; exact this)
      (fun o hI => by
        refine ⟨o, ?_, by rwa [List.take_length] at hI⟩
        unfold linealref05_IsProof_b1
        rw [if_neg (by simp)])
    have hl2 := loopB (body := linealref05_IsProof_b2 c a (L.map pin) ps) L.length (fun k => folB c a (relM L) (L.getD k (0, 0)).1 (L.getD k (0, 0)).2) (fun k hk => by
      have hz : L[k]? = some (L.getD k (0, 0)) := by rw [List.getD_eq_getElem?_getD, List.getElem?_eq_getElem hk]; rfl
      obtain ⟨_, ki⟩ := few_in fL hz
      obtain ⟨p, hpp⟩ : ∃ p, L.getD k (0, 0) = p := ⟨_, rfl⟩
      rw [hpp] at hz
      have hp := hL p (List.mem_of_getElem? hz)
      have hgk : (L.map pin).getD k (0, 0) = ((p.1 : Int), (p.2 : Int)) := getD_of (by rw [List.getElem?_map, hz]; rfl)
      unfold linealref05_IsProof_b2
      simp only [Int.toNat_natCast, hgk, List.length_map, hpp]
      rw [if_pos (by rw [decide_eq_true_eq]; omega), ck_pos (by omega), ck_pos (by omega), holds_eq oc oa h4 p.1 hp.2, Option.bind_some]
      cases folB c a (relM L) p.1 p.2
      · rfl
      · rw [if_neg (by simp), ck_pos ki]; rfl) (by
      unfold linealref05_IsProof_b2
      rw [if_neg (by simp)])
    have hall : (allB L.length fun k => folB c a (relM L) (L.getD k (0, 0)).1 (L.getD k (0, 0)).2) = decide (U = T) := by
      rw [Bool.eq_iff_iff, allB_iff, decide_eq_true_eq, hsim]
      constructor
      · intro h9 x y hb
        have hm := relM_bit.1 hb
        obtain ⟨k, hk⟩ := List.getElem?_of_mem hm
        have := h9 k (List.getElem?_eq_some_iff.1 hk).1
        rw [getD_of hk] at this
        exact ⟨(hL _ hm).1, (hL _ hm).2, this⟩
      · intro hS k hk
        have hz : L[k]? = some (L.getD k (0, 0)) := by rw [List.getD_eq_getElem?_getD, List.getElem?_eq_getElem hk]; rfl
        exact (hS _ _ (relM_bit.2 (List.mem_of_getElem? hz))).2.2
    unfold linealref05_IsProof
    rw [refValid_eq c kc, Option.bind_some, hc, if_neg (by simp), refValid_eq a ka, Option.bind_some, ha, if_neg (by simp), refisRel_eq _ _ _ fL', Option.bind_some, iL, if_neg (by simp), ck_pos (by have := oc.lo; omega), ck_pos (by omega), e4, Option.bind_some]
    unfold linealref05_IsProof_k1
    rw [hl2, hall, Option.bind_some]
    cases decide (U = T) <;> rfl

theorem IsProof_noRel {c a : Sys} (kc : okZ c) (ka : okZ a) (hc : validB c = true) (ha : validB a = true) {r : List (Int × Int)} (fr : few r) (ir : isRelB c.1 a.1 r = false) : refine_IsProof c a r = some (false, 2) ∧ linealref05_IsProof c a r = some (false, 2) := by
  obtain ⟨Tc, Ta, e1, _, h2⟩ := twoOf_yes kc ka hc ha
  constructor
  · unfold refine_IsProof
    rw [e1, Option.bind_some]
    simp only [decide_true, Bool.not_true, Bool.false_eq_true, if_false]
    rw [isRel_eq _ _ _ fr, Option.bind_some, ir]
    rfl
  · unfold linealref05_IsProof
    rw [refValid_eq c kc, Option.bind_some, hc, if_neg (by simp), refValid_eq a ka, Option.bind_some, ha, if_neg (by simp), refisRel_eq _ _ _ fr, Option.bind_some, ir]
    rfl

theorem IsProof_no {c a : Sys} (kc : okZ c) (ka : okZ a) (h : (validB c && validB a) = false) (r : List (Int × Int)) : refine_IsProof c a r = some (false, 50) ∧ linealref05_IsProof c a r = some (false, 50) := by
  constructor
  · unfold refine_IsProof
    rw [twoOf_no kc ka h, Option.bind_some]
    rfl
  · unfold linealref05_IsProof
    rw [refValid_eq c kc, Option.bind_some, refValid_eq a ka]
    cases hc : validB c with
    | false => rfl
    | true =>
      rw [hc, Bool.true_and] at h
      rw [h]; rfl

end Go.Proofs.Ytifleoceebaooaa
