/-
 Layer 5, pure: the pairs of the greatest proof that are needed, by the program's walk and by the reference's rounds.
-/
import Derived.Test.YtifleoceebaooaaS18
namespace Go.Proofs.Ytifleoceebaooaa

set_option linter.unusedVariables false
set_option linter.unusedSimpArgs false
set_option linter.unusedSectionVars false
set_option maxRecDepth 100000
set_option maxHeartbeats 1000000

/-- The least state of a set. -/
def lst (m : Nat) : Nat := (bitsL m).getD 0 0

theorem lst_tab : ∀ m < 64, 0 < m → strAt strL0 m = ((lst m : Nat) : Int) ∧ lst m < 6 ∧ m.testBit (lst m) = true ∧ 0 < (bitsL m).length := by decide +kernel

theorem least_eq {m : Nat} (hm : m < 64) (h0 : 0 < m) : refine_set_least (m : Int) = some () := by
 obtain ⟨h1, h2, _⟩ := lst_tab m hm h0
 unfold refine_set_least math_bits_TrailingZeros8
 rw [ck_pos (by omega), ck_pos (by omega), Int.toNat_natCast, h1, ck_pos (by rw [inK_i64]; omega)]
 rfl

section
variable (c a : Sys) (P : Nat → Nat)
/-- The state with which a step is followed. -/
def nxt (y : Nat) (z : Stp) : Nat := lst (coM a (2 ^ y) z.2.1 &&& P z.2.2.toNat)
/-- With a pair all that it needs is there. -/
def Clo (C : Nat → Nat) : Prop := ∀ i j, (C i).testBit j = true → ∀ z ∈ c.2, z.1 = (i : Int) → (C z.2.2.toNat).testBit (nxt a P j z) = true
end

section
variable {c a : Sys} {P : Nat → Nat} (hc : OkS c) (ha : OkS a) (hP : Sim c a P) (h64 : ∀ x, P x < 64)
include hc ha hP h64

theorem nxt_in {x y : Nat} (h : (P x).testBit y = true) {z : Stp} (hz : z ∈ c.2) (hzx : z.1 = (x : Int)) : 0 < coM a (2 ^ y) z.2.1 &&& P z.2.2.toNat ∧ coM a (2 ^ y) z.2.1 &&& P z.2.2.toNat < 64 ∧ (P z.2.2.toNat).testBit (nxt a P y z) = true ∧ nxt a P y z < 6 := by
 obtain ⟨_, h2, h3⟩ := hP x y h
 have h6 := n6 ha
 have hm : 2 ^ y < 2 ^ a.1.toNat := Nat.pow_lt_pow_right (by omega) h2
 have hlt : coM a (2 ^ y) z.2.1 &&& P z.2.2.toNat < 64 := and_lt (lt64 ha (coM_lt ha hm z.2.1))
 have hne : coM a (2 ^ y) z.2.1 &&& P z.2.2.toNat ≠ 0 := and_ne.2 (folB_iff.1 h3 z hz hzx)
 obtain ⟨_, g2, g3, _⟩ := lst_tab _ hlt (by omega)
 refine ⟨by omega, hlt, ?_, g2⟩
 unfold nxt
 rw [Nat.testBit_and, Bool.and_eq_true] at g3
 exact g3.2

omit hc ha hP h64 in
/-- What the walk makes of what it has found. -/
structure Need (c a : Sys) (P A : Nat → Nat) (x y : Nat) (R : Nat → Nat) : Prop where
 inP : ∀ i, sub (R i) (P i)
 su : ∀ i, sub (A i) (R i)
 me : (R x).testBit y = true
 cl : ∀ i j, (R i).testBit j = true → (A i).testBit j = false → ∀ z ∈ c.2, z.1 = (i : Int) → (R z.2.2.toNat).testBit (nxt a P j z) = true
 le : ∀ C, Clo c a P C → (∀ i, sub (A i) (C i)) → (C x).testBit y = true → ∀ i, sub (R i) (C i)

omit hc ha hP h64 in
theorem mu_le {R : Nat → Nat} : mu R ≤ 36 := by
 unfold mu
 have := cnt_le (R 0); have := cnt_le (R 1); have := cnt_le (R 2); have := cnt_le (R 3); have := cnt_le (R 4); have := cnt_le (R 5)
 omega

omit hc ha hP h64 in
theorem mu_mono {A R : Nat → Nat} (h : ∀ i, sub (A i) (R i)) : mu A ≤ mu R := by
 unfold mu
 have := cnt_mono (h 0); have := cnt_mono (h 1); have := cnt_mono (h 2); have := cnt_mono (h 3); have := cnt_mono (h 4); have := cnt_mono (h 5)
 omega

variable {Tc Ta : El T69} (hT : Frm a Ta) {Tb : El T94} (hB : Rep Tb P)
include hT hB

theorem need_go : ∀ (n : Nat) (A : Nat → Nat) (T : El T94) (x y : Nat), 37 ≤ mu A + n → Rep T A → (∀ i, sub (A i) (P i)) → (P x).testBit y = true → ∃ U R, refine_two_proof_1 n (x : Int) (y : Int) T ((c, Tc), a, Ta) Tb = some U ∧ Rep U R ∧ Need c a P A x y R := by
 intro n
 induction n with
 | zero => intro A T x y h1; have := @mu_le A; omega
 | succ n ih =>
  intro A T x y h1 hA hAP hxy
  have h6 := n6 ha
  have c6 := n6 hc
  obtain ⟨hx, hy, _⟩ := hP x y hxy
  show ∃ U R, refine_two_proof_1F (refine_two_proof_1 n) (x : Int) (y : Int) T ((c, Tc), a, Ta) Tb = some U ∧ Rep U R ∧ Need c a P A x y R
  unfold refine_two_proof_1F
  simp only [Int.toNat_natCast, Nat.zero_add, Nat.mul_one]
  rw [ck_pos (by omega), ck_pos (by omega), has_eq _ _ (by omega), Option.bind_some, hA.has x (by omega), bit_u8 (hA.lt x) (by omega) (by omega), Int.toNat_natCast]
  by_cases hb : (A x).testBit y = true
  ·rw [if_pos hb]
   exact ⟨T, A, rfl, hA, hAP, fun _ => sub_refl _, hb, fun i j h2 h3 => (by rw [h2] at h3; cases h3), fun C _ h _ => h⟩
  ·rw [if_neg hb, ck_pos (by omega), ck_pos (by omega), ck_pos (by omega), ck_pos (by omega), ck_pos (by omega), shl_u8 y (by omega), or_u8 _ (hA.lt x) (2 ^ y) (Nat.pow_lt_pow_right (by omega) (by omega : y < 6))]
   have h2y : 2 ^ y < 64 := Nat.pow_lt_pow_right (by omega) (by omega : y < 6)
   obtain ⟨A', hA'⟩ : ∃ A' : Nat → Nat, A' = fun j => if j = x then A x ||| 2 ^ y else A j := ⟨_, rfl⟩
   have hAr := rep_set hA (i := x) (m := A x ||| 2 ^ y) (by omega) (or_lt (n := 6) (hA.lt x) h2y)
   rw [← hA'] at hAr
   have hAbit : ∀ i j, (A' i).testBit j = true ↔ (A i).testBit j = true ∨ i = x ∧ j = y := fun i j => by
    rw [hA']
    simp only
    by_cases e : i = x
    ·subst e
     rw [if_pos rfl, Nat.testBit_or, Nat.testBit_two_pow, Bool.or_eq_true, decide_eq_true_eq]
     constructor
     ·rintro (h | h)
      ·exact .inl h
      ·exact .inr ⟨rfl, h.symm⟩
     ·rintro (h | ⟨_, h⟩)
      ·exact .inl h
      ·exact .inr h.symm
    ·rw [if_neg e]; simp [e]
   have hsA : ∀ i, sub (A i) (A' i) := fun i j h => (hAbit i j).2 (.inl h)
   have hA'P : ∀ i, sub (A' i) (P i) := fun i j h => by
    rcases (hAbit i j).1 h with h | ⟨rfl, rfl⟩
    ·exact hAP i j h
    ·exact hxy
   have hmu : mu A < mu A' := by
    refine mu_lt hsA hAr.lt hAr.out fun e => hb ?_
    rw [e]; exact (hAbit x y).2 (.inr ⟨rfl, rfl⟩)
   obtain ⟨r, e1, R, hR, g1, g2, g3, g4, g5⟩ := scan2 (R := El T94) c.2 (fun k (cur : El T94) => ∃ R, Rep cur R ∧ (∀ i, sub (R i) (P i)) ∧ (∀ i, sub (A' i) (R i)) ∧ (∀ i j, (R i).testBit j = true → (A' i).testBit j = false → ∀ z ∈ c.2, z.1 = (i : Int) → (R z.2.2.toNat).testBit (nxt a P j z) = true) ∧
     (∀ C, Clo c a P C → (∀ i, sub (A i) (C i)) → (C x).testBit y = true → ∀ i, sub (R i) (C i)) ∧ ∀ j z, j < k → c.2[j]? = some z → z.1 = (x : Int) → (R z.2.2.toNat).testBit (nxt a P y z) = true)
    (fun cur => ∃ R, Rep cur R ∧ (∀ i, sub (R i) (P i)) ∧ (∀ i, sub (A' i) (R i)) ∧ (∀ i j, (R i).testBit j = true → (A' i).testBit j = false → ∀ z ∈ c.2, z.1 = (i : Int) → (R z.2.2.toNat).testBit (nxt a P j z) = true) ∧
     (∀ C, Clo c a P C → (∀ i, sub (A i) (C i)) → (C x).testBit y = true → ∀ i, sub (R i) (C i)) ∧ ∀ z ∈ c.2, z.1 = (x : Int) → (R z.2.2.toNat).testBit (nxt a P y z) = true)
    (body := refine_two_proof_1_b1 (refine_two_proof_1 n) (x : Int) (y : Int) ((c, Tc), a, Ta) Tb) (s0 := setInt T94 T x ((A x ||| 2 ^ y : Nat) : Int))
    ⟨A', hAr, hA'P, fun _ => sub_refl _, fun i j h2 h3 => by (rw [h2] at h3; cases h3), fun C _ h3 h4 i j hj => by
     rcases (hAbit i j).1 hj with h | ⟨rfl, rfl⟩
     ·exact h3 i j h
     ·exact h4, fun j z hj => by omega⟩
    (fun k z cur hk hI => by
     obtain ⟨R, q0, q1, q2, q3, q4, q5⟩ := hI
     have hlt := (List.getElem?_eq_some_iff.1 hk).1
     have hmem := List.mem_of_getElem? hk
     have hz := hc.st z hmem
     have hlen := hc.len
     have ki : InK .i64 ((k : Int) + 1) := by rw [inK_i64]; omega
     refine .inl ?_
     unfold refine_two_proof_1_b1
     simp only [Int.toNat_natCast, getD_of hk, ck_pos ki, Nat.mul_one, Nat.zero_add]
     rw [if_pos (by rw [decide_eq_true_eq]; omega), ck_pos (by omega), ck_pos (by omega)]
     by_cases h2 : z.1 = (x : Int)
     ·rw [if_pos (by simpa using h2), ck_pos (by omega), ck_pos (by omega), ck_pos (by omega), ck_pos (by omega), ck_pos (by omega), ck_pos (by omega)]
      obtain ⟨w0, w1, w2, w3⟩ := nxt_in hc ha hP h64 hxy hmem h2
      have hco : coM a (2 ^ y) z.2.1 < 64 := lt64 ha (coM_lt ha (Nat.pow_lt_pow_right (by omega) hy) z.2.1)
      have hl : (z.2.1.toNat : Int) = z.2.1 := Int.toNat_of_nonneg (by omega)
      have hat : intAt T69 Ta (y * 4 + z.2.1.toNat) = ((coM a (2 ^ y) z.2.1 : Nat) : Int) := by
       have := hT y z.2.1.toNat hy (by omega)
       rwa [hl] at this
      rw [hat, hB.has _ (by omega), and_u8 _ hco _ (h64 _), least_eq w1 w0, Option.bind_some, Int.toNat_natCast, (lst_tab _ w1 w0).1]
      have hmc := mu_mono q2
      obtain ⟨U, R2, r1, r2, r3⟩ := ih R cur z.2.2.toNat (nxt a P y z) (by omega) q0 q1 w2
      rw [Int.toNat_of_nonneg (by omega)] at r1
      have r1' : refine_two_proof_1 n z.2.2 ((lst (coM a (2 ^ y) z.2.1 &&& P z.2.2.toNat) : Nat) : Int) cur ((c, Tc), a, Ta) Tb = some U := r1
      rw [r1', Option.bind_some]
      refine ⟨U, rfl, R2, r2, r3.inP, fun i => sub_trans (q2 i) (r3.su i), fun i j g1 g2 v hv g3 => ?_, fun C g1 g2 g3 => r3.le C g1 (q4 C g1 g2 g3) ?_, fun j v g1 g2 g3 => ?_⟩
      ·cases hcx : (R i).testBit j with
       | true => exact r3.su _ _ (q3 i j hcx g2 v hv g3)
       | false => exact r3.cl i j g1 hcx v hv g3
      ·exact g1 x y g3 z hmem h2
      ·rcases Nat.lt_succ_iff_lt_or_eq.1 g1 with g1 | g1
       ·exact r3.su _ _ (q5 j v g1 g2 g3)
       ·subst g1
        rw [hk] at g2
        have := Option.some.inj g2
        subst this
        exact r3.me
     ·rw [if_neg (by simpa using h2)]
      refine ⟨cur, rfl, R, q0, q1, q2, q3, q4, fun j v g1 g2 g3 => ?_⟩
      rcases Nat.lt_succ_iff_lt_or_eq.1 g1 with g1 | g1
      ·exact q5 j v g1 g2 g3
      ·subst g1
       rw [hk] at g2
       have := Option.some.inj g2
       subst this
       exact absurd g3 h2)
    (fun cur hI => by
     obtain ⟨R, q0, q1, q2, q3, q4, q5⟩ := hI
     refine ⟨cur, ?_, R, q0, q1, q2, q3, q4, fun z hz g3 => ?_⟩
     ·unfold refine_two_proof_1_b1
      rw [if_neg (by rw [decide_eq_true_eq]; simp only; omega)]
     ·obtain ⟨j, hj⟩ := List.getElem?_of_mem hz
      exact q5 j z (List.getElem?_eq_some_iff.1 hj).1 hj g3)
   rw [e1, Option.bind_some]
   refine ⟨r, R, rfl, hR, g1, fun i => sub_trans (hsA i) (g2 i), g2 _ _ ((hAbit x y).2 (.inr ⟨rfl, rfl⟩)), fun i j h2 h3 z hz h4 => ?_, g4⟩
   cases hAx : (A' i).testBit j with
   | true =>
    rcases (hAbit i j).1 hAx with h | ⟨rfl, rfl⟩
    ·rw [h] at h3; cases h3
    ·exact g5 z hz h4
   | false => exact g3 i j h2 hAx z hz h4

end

/-- The pairs that are needed. -/
noncomputable def nP (c a : Sys) (x : Nat) : Nat := setM fun y => @decide (∀ C, Clo c a (gP c a) C → (C 0).testBit 0 = true → (C x).testBit y = true) (Classical.propDecidable _)

theorem nP_bit {c a : Sys} {x y : Nat} : (nP c a x).testBit y = true ↔ y < 6 ∧ ∀ C, Clo c a (gP c a) C → (C 0).testBit 0 = true → (C x).testBit y = true := by
 unfold nP
 rw [setM_bit]
 constructor
 ·rintro ⟨h1, h2⟩; exact ⟨h1, @of_decide_eq_true _ (Classical.propDecidable _) h2⟩
 ·rintro ⟨h1, h2⟩; exact ⟨h1, @decide_eq_true _ (Classical.propDecidable _) h2⟩

theorem nP_is {c a : Sys} {R : Nat → Nat} (h6 : ∀ x, R x < 64) (hC : Clo c a (gP c a) R) (h0 : (R 0).testBit 0 = true) (hL : ∀ C, Clo c a (gP c a) C → (C 0).testBit 0 = true → ∀ i, sub (R i) (C i)) : R = nP c a := by
 funext x
 refine sub_anti (fun y hy => nP_bit.2 ⟨bit_lt (n := 6) (h6 x) hy, fun C h1 h2 => hL C h1 h2 x y hy⟩) fun y hy => (nP_bit.1 hy).2 R hC h0

section
variable {c a : Sys} {Tc Ta : El T69} (hc : OkS c) (ha : OkS a) (hT : Frm a Ta)
include hc ha hT

theorem proof_yes (h : refD c a) : ∃ T, refine_two_proof ((c, Tc), a, Ta) = some (T, true) ∧ Rep T (nP c a) ∧ (∀ i, sub (nP c a i) (gP c a i)) ∧ Clo c a (gP c a) (nP c a) ∧ (nP c a 0).testBit 0 = true := by
 obtain ⟨Tb, e, hB⟩ := best_is (Tc := Tc) hc ha hT
 have h0 := (refD_gP ha).1 h
 obtain ⟨U, R, e2, hU, hN⟩ := need_go hc ha (gP_sim ha) gP_lt (Tc := Tc) hT hB fuel (fun _ => 0) (Ty.dflt T94) 0 0 (by unfold fuel; omega) rep_zero (fun _ => zero_sub _) h0
 have hCl : Clo c a (gP c a) R := fun i j hj z hz hzi => hN.cl i j hj (by simp) z hz hzi
 have hR : R = nP c a := nP_is hU.lt hCl hN.me fun C h1 h2 => hN.le C h1 (fun _ => zero_sub _) h2
 refine ⟨U, ?_, hR ▸ hU, hR ▸ hN.inP, hR ▸ hCl, hR ▸ hN.me⟩
 unfold refine_two_proof
 have e2' : refine_two_proof_1 fuel 0 0 (Ty.dflt T94) ((c, Tc), a, Ta) Tb = some U := e2
 rw [e, Option.bind_some, has_eq _ _ (by omega), Option.bind_some, hB.has 0 (by omega), bit_u8 (gP_lt 0) (by omega) (by omega), show (0 : Int).toNat = 0 from rfl, h0, if_neg (by simp), e2', Option.bind_some]

end

theorem Proof_yes {c a : Sys} (kc : okZ c) (ka : okZ a) (hc : validB c = true) (ha : validB a = true) (h : refD c a) : refine_Proof c a = some ((relK (nP c a) 6).map pin, 0) := by
 obtain ⟨Tc, Ta, e1, _, h2⟩ := twoOf_yes kc ka hc ha
 obtain ⟨T, e2, hT, _⟩ := proof_yes (Tc := Tc) (okS_valid hc) (okS_valid ha) h2 h
 have e2' : refine_two_proof (((c.1, c.2), Tc), (a.1, a.2), Ta) = some (T, true) := e2
 unfold refine_Proof
 rw [e1, Option.bind_some]
 simp only [decide_true, Bool.not_true, Bool.false_eq_true, if_false]
 rw [e2', Option.bind_some]
 simp only [Bool.not_true, Bool.false_eq_true, if_false]
 rw [list_eq hT, Option.bind_some]

/-! ### The reference's rounds -/

/-- What a round of the reference keeps. -/
structure Own (c a : Sys) (O0 O : Nat → Nat) : Prop where
 inP : ∀ i, sub (O i) (gP c a i)
 su : ∀ i, sub (O0 i) (O i)
 le : ∀ C, Clo c a (gP c a) C → (C 0).testBit 0 = true → ∀ i, sub (O i) (C i)

section
variable {c a : Sys} (hc : OkS c) (ha : OkS a) {all : List Int} (hA : RepL c.1.toNat all (gP c a))
include hc ha hA

end

theorem relK_few (R : Nat → Nat) : few (relK R 6) := few_of (relK_len R 6)
theorem relK_six {R : Nat → Nat} : ∀ p ∈ relK R 6, p.1 < 6 ∧ p.2 < 6 := fun p hp => ⟨(relK_mem.1 hp).1, (relK_mem.1 hp).2.1⟩
end Go.Proofs.Ytifleoceebaooaa
