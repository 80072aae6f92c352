/-
 Layer 5, pure: the greatest proof, by the program and by the reference; which relations are proofs.
-/
import Derived.Test.YtifleoceebaooaaS17
namespace Go.Proofs.Ytifleoceebaooaa

set_option linter.unusedVariables false
set_option linter.unusedSimpArgs false
set_option maxRecDepth 100000
set_option maxHeartbeats 1000000

/-- The greatest proof. -/
noncomputable def gP (c a : Sys) (x : Nat) : Nat := setM fun y => @decide (∃ Q, Sim c a Q ∧ (Q x).testBit y = true) (Classical.propDecidable _)

theorem and_i64 : ∀ a < 64, ∀ b < 64, iand .i64 ((a : Nat) : Int) ((b : Nat) : Int) = ((a &&& b : Nat) : Int) := by decide +kernel
/-- A set less one state. -/
def clr (a i : Nat) : Nat := a ^^^ (a &&& 2 ^ i)
theorem and_lt {a b : Nat} (h : a < 64) : a &&& b < 64 := Nat.lt_of_le_of_lt Nat.and_le_left h

section
variable {c a : Sys} (hc : OkS c) (ha : OkS a)

theorem gP_bit {x y : Nat} : (gP c a x).testBit y = true ↔ y < 6 ∧ ∃ Q, Sim c a Q ∧ (Q x).testBit y = true := by
 unfold gP
 rw [setM_bit]
 constructor
 ·rintro ⟨h1, h2⟩; exact ⟨h1, @of_decide_eq_true _ (Classical.propDecidable _) h2⟩
 ·rintro ⟨h1, h2⟩; exact ⟨h1, @decide_eq_true _ (Classical.propDecidable _) h2⟩

theorem gP_lt (x : Nat) : gP c a x < 64 := setM_lt _

include ha in
theorem gP_top {Q : Nat → Nat} (h : Sim c a Q) (x : Nat) : sub (Q x) (gP c a x) := fun y hy => by
 have := n6 ha
 have h2 := (h x y hy).2.1
 exact gP_bit.2 ⟨by omega, Q, h, hy⟩

include ha in
theorem gP_sim : Sim c a (gP c a) := fun x y hy => by
 obtain ⟨_, Q, hQ, hb⟩ := gP_bit.1 hy
 obtain ⟨h1, h2, h3⟩ := hQ x y hb
 exact ⟨h1, h2, folB_mono (gP_top ha hQ) h3⟩

include ha in
theorem gP_is {P : Nat → Nat} (hS : Sim c a P) (hL : ∀ Q, Sim c a Q → ∀ x, sub (Q x) (P x)) : P = gP c a := by
 funext x
 exact sub_anti (gP_top ha hS x) (hL _ (gP_sim ha) x)

include ha in
theorem refD_gP : refD c a ↔ (gP c a 0).testBit 0 = true := ⟨fun ⟨Q, h1, h2⟩ => gP_top ha h1 0 0 h2, fun h => ⟨_, gP_sim ha, h⟩⟩

end

theorem best_is {c a : Sys} {Tc Ta : El T69} (hc : OkS c) (ha : OkS a) (hT : Frm a Ta) : ∃ T, refine_two_best ((c, Tc), a, Ta) = some T ∧ Rep T (gP c a) := by
 obtain ⟨T, P, e, h1, h2, h3⟩ := best_eq (Tc := Tc) hc ha hT
 rw [gP_is ha h2 h3] at h1
 exact ⟨T, e, h1⟩

theorem twoOf_yes {c a : Sys} (kc : okZ c) (ka : okZ a) (hc : validB c = true) (ha : validB a = true) : ∃ Tc Ta, refine_twoOf c a = some (c.1, c.2, Tc, a.1, a.2, Ta, 0) ∧ Frm c Tc ∧ Frm a Ta := by
 obtain ⟨Tc, e1, h1⟩ := frameOf_eq c kc
 obtain ⟨Ta, e2, h2⟩ := frameOf_eq a ka
 rw [if_pos hc] at e1
 rw [if_pos ha] at e2
 refine ⟨Tc, Ta, ?_, h1 hc, h2 ha⟩
 unfold refine_twoOf
 rw [e1, Option.bind_some]
 simp only [decide_true, Bool.not_true, Bool.false_eq_true, if_false]
 rw [e2, Option.bind_some]
 simp only [decide_true, Bool.not_true, Bool.false_eq_true, if_false]

theorem Best_yes {c a : Sys} (kc : okZ c) (ka : okZ a) (hc : validB c = true) (ha : validB a = true) : refine_Best c a = some ((relK (gP c a) 6).map pin, 0) := by
 obtain ⟨Tc, Ta, e1, _, h2⟩ := twoOf_yes kc ka hc ha
 obtain ⟨T, e2, hT⟩ := best_is (Tc := Tc) (okS_valid hc) (okS_valid ha) h2
 have e2' : refine_two_best (((c.1, c.2), Tc), (a.1, a.2), Ta) = some T := e2
 unfold refine_Best
 rw [e1, Option.bind_some]
 simp only [decide_true, Bool.not_true, Bool.false_eq_true, if_false]
 rw [e2', Option.bind_some, list_eq hT, Option.bind_some]

/-! ### The reference -/

section
variable {c a : Sys} (hc : OkS c) (ha : OkS a)
include hc ha

theorem holds_eq {ps : List Int} {R : Nat → Nat} (h : RepL c.1.toNat ps R) (x : Nat) {y : Nat} (hy : y < a.1.toNat) : linealref05_holds c a ps (x : Int) (y : Int) = some (folB c a R x y) := by
 have h6 := n6 ha
 have hlen := hc.len
 unfold linealref05_holds
 have hL := loopB (body := linealref05_holds_b1 c a ps (x : Int) (y : Int)) c.2.length (fun k => !decide ((c.2.getD k (0, 0, 0)).1 = (x : Int)) || !decide (coM a (2 ^ y) (c.2.getD k (0, 0, 0)).2.1 &&& R (c.2.getD k (0, 0, 0)).2.2.toNat = 0)) (fun k hk => by
  have hz : c.2[k]? = some (c.2.getD k (0, 0, 0)) := by rw [List.getD_eq_getElem?_getD, List.getElem?_eq_getElem hk]; rfl
  have ki : InK .i64 ((k : Int) + 1) := by rw [inK_i64]; omega
  have hst := hc.st _ (List.mem_of_getElem? hz)
  unfold linealref05_holds_b1
  simp only [Int.toNat_natCast]
  obtain ⟨z, hzz⟩ : ∃ z, c.2.getD k (0, 0, 0) = z := ⟨_, rfl⟩
  simp only [hzz] at hst ⊢
  rw [if_pos (by rw [decide_eq_true_eq]; omega), ck_pos (by omega), ck_pos (by omega)]
  by_cases h1 : z.1 = (x : Int)
  ·have hm : 2 ^ y < 2 ^ a.1.toNat := Nat.pow_lt_pow_right (by omega) hy
   have hcl := lt64 ha (coM_lt ha hm z.2.1)
   rw [if_pos (by simpa using h1), ck_pos (by omega), shl_i64 y (by omega), refcomes_eq ha hm, Option.bind_some, ck_pos (by omega), ck_pos (by rw [h.len]; omega), h.has _ (by omega), and_i64 _ hcl _ (h.lt _)]
   by_cases h2 : coM a (2 ^ y) z.2.1 &&& R z.2.2.toNat = 0
   ·rw [if_pos (by rw [decide_eq_true_eq]; omega), if_neg (by simp [h1, h2])]
   ·rw [if_neg (by rw [decide_eq_true_eq]; omega), ck_pos ki, if_pos (by simp [h2])]
  ·rw [if_neg (by simpa using h1), ck_pos ki, if_pos (by simp [h1])]) (by
  unfold linealref05_holds_b1
  rw [if_neg (by rw [decide_eq_true_eq]; omega)])
 rw [hL, Option.bind_some]
 have hall : (allB c.2.length fun k => !decide ((c.2.getD k (0, 0, 0)).1 = (x : Int)) || !decide (coM a (2 ^ y) (c.2.getD k (0, 0, 0)).2.1 &&& R (c.2.getD k (0, 0, 0)).2.2.toNat = 0)) = folB c a R x y := by
  unfold folB
  rw [Bool.eq_iff_iff, allB_iff, List.all_eq_true]
  constructor
  ·intro h9 z hz
   obtain ⟨k, hk⟩ := List.getElem?_of_mem hz
   have := h9 k (List.getElem?_eq_some_iff.1 hk).1
   rwa [getD_of hk] at this
  ·intro h9 k hk
   have hz : c.2[k]? = some (c.2.getD k (0, 0, 0)) := by rw [List.getD_eq_getElem?_getD, List.getElem?_eq_getElem hk]; rfl
   exact h9 _ (List.mem_of_getElem? hz)
 rw [hall]
 cases folB c a R x y <;> rfl

/-- What a turn of the reference keeps. -/
structure Keep (R0 R : Nat → Nat) : Prop where
 top : ∀ Q, Sim c a Q → ∀ x, sub (Q x) (R x)
 le : ∀ x, sub (R x) (R0 x)

end

/-! ### Which relations are proofs -/

/-- The relation of a list. -/
def relM (L : List (Nat × Nat)) : Nat → Nat := accM L fun p => 2 ^ p.2

theorem relM_bit {L : List (Nat × Nat)} {x y : Nat} : (relM L x).testBit y = true ↔ (x, y) ∈ L := by
 unfold relM
 rw [accM_bit]
 constructor
 ·rintro ⟨p, hp, rfl, h⟩
  rw [Nat.testBit_two_pow, decide_eq_true_eq] at h
  rw [← h]; exact hp
 ·intro h
  exact ⟨(x, y), h, rfl, by simp⟩

theorem IsProof_both {c a : Sys} (kc : okZ c) (ka : okZ a) (hc : validB c = true) (ha : validB a = true) {L : List (Nat × Nat)} (hL : ∀ p ∈ L, p.1 < c.1.toNat ∧ p.2 < a.1.toNat) (fL : few L) (iL : isRelB c.1 a.1 (L.map pin) = true) :
  ∃ b, refine_IsProof c a (L.map pin) = some (b, 0) ∧ linealref05_IsProof c a (L.map pin) = some (b, 0) ∧ (b = true ↔ Sim c a (relM L)) := by
 have oc := okS_valid hc
 have oa := okS_valid ha
 have c6 := n6 oc
 have a6 := n6 oa
 have hL6 : ∀ p ∈ L, p.1 < 6 ∧ p.2 < 6 := fun p hp => by have := hL p hp; omega
 have fL' : few (L.map pin) := by unfold few at fL ⊢; rwa [List.length_map]
 obtain ⟨Tc, Ta, e1, _, h2⟩ := twoOf_yes kc ka hc ha
 obtain ⟨T, e2, hT⟩ := relOf_eq hL6 fL
 obtain ⟨U, e3, hU⟩ := held_eq oc oa h2 (Tc := Tc) hT (fun x y hb => (hL _ (relM_bit.1 hb)).2)
 have e3' : refine_two_held (((c.1, c.2), Tc), (a.1, a.2), Ta) T = some U := e3
 have hsim : U = T ↔ Sim c a (relM L) := by
  rw [rep_eq hU hT]
  constructor
  ·intro e x y hb
   have hm := hL _ (relM_bit.1 hb)
   refine ⟨hm.1, hm.2, ?_⟩
   have hb' : (heldR c a (relM L) x).testBit y = true := by
    have := congrFun e x
    show (heldR c a (accM L fun p => 2 ^ p.2) x).testBit y = true
    rw [this]; exact hb
   unfold heldR at hb'
   rw [setM_bit, Bool.and_eq_true] at hb'
   exact hb'.2.2
  ·intro hS
   funext x
   refine sub_anti (held_sub _ x) fun y hy => ?_
   unfold heldR
   rw [setM_bit, Bool.and_eq_true]
   exact ⟨by have := (hL6 _ (relM_bit.1 hy)).2; exact this, hy, (hS x y hy).2.2⟩
 refine ⟨decide (U = T), ?_, ?_, by rw [decide_eq_true_eq]; exact hsim⟩
 ·unfold refine_IsProof
  rw [e1, Option.bind_some]
  simp only [decide_true, Bool.not_true, Bool.false_eq_true, if_false]
  rw [isRel_eq _ _ _ fL', Option.bind_some, iL, if_neg (by simp), e2, Option.bind_some, e3', Option.bind_some, ck_pos (rep_ok hU), ck_pos (rep_ok hT)]
 ·obtain ⟨ps, e4, h4⟩ := scan2 (R := List Int) L (fun k o => RepL c.1.toNat o (relM (L.take k))) (fun o => RepL c.1.toNat o (relM L)) (body := linealref05_IsProof_b1 (L.map pin)) (s0 := List.replicate c.1.toNat (0 : Int)) (repL_zero c.1.toNat)
   (fun k p o hk hI => by
    have hlt := (List.getElem?_eq_some_iff.1 hk).1
    obtain ⟨_, ki⟩ := few_in fL hk
    have hp := hL p (List.mem_of_getElem? hk)
    have hgk : (L.map pin).getD k (0, 0) = ((p.1 : Int), (p.2 : Int)) := getD_of (by rw [List.getElem?_map, hk]; rfl)
    have h64 : 2 ^ p.2 < 64 := Nat.pow_lt_pow_right (by omega) (by omega : p.2 < 6)
    refine .inl ⟨o.set p.1 ((relM (L.take k) p.1 ||| 2 ^ p.2 : Nat) : Int), ?_, ?_⟩
    ·unfold linealref05_IsProof_b1
     simp only [Int.toNat_natCast, hgk, List.length_map]
     rw [if_pos (by rw [decide_eq_true_eq]; omega), ck_pos (by omega), ck_pos (by omega), ck_pos (by omega), ck_pos (by rw [hI.len]; omega), ck_pos (by omega), ck_pos (by omega), ck_pos (by rw [hI.len]; omega), ck_pos ki, hI.has p.1 hp.1, shl_i64 p.2 (by omega), or_i64 _ (hI.lt _) _ h64]
    ·have := repL_set hI hp.1 (or_lt (n := 6) (hI.lt p.1) h64)
     have e : (fun j => if j = p.1 then relM (L.take k) p.1 ||| 2 ^ p.2 else relM (L.take k) j) = relM (L.take (k + 1)) := by
      funext j
      rw [take_one hk]
      unfold relM
      rw [accM_snoc]
      by_cases g : j = p.1
      ·subst g; rw [if_pos rfl]
      ·rw [if_neg g, if_neg g]
     rw [← e]; exact this)
   (fun o hI => by
    refine ⟨o, ?_, by rwa [List.take_length] at hI⟩
    unfold linealref05_IsProof_b1
    rw [if_neg (by simp)])
  have hl2 := loopB (body := linealref05_IsProof_b2 c a (L.map pin) ps) L.length (fun k => folB c a (relM L) (L.getD k (0, 0)).1 (L.getD k (0, 0)).2) (fun k hk => by
   have hz : L[k]? = some (L.getD k (0, 0)) := by rw [List.getD_eq_getElem?_getD, List.getElem?_eq_getElem hk]; rfl
   obtain ⟨_, ki⟩ := few_in fL hz
   obtain ⟨p, hpp⟩ : ∃ p, L.getD k (0, 0) = p := ⟨_, rfl⟩
   rw [hpp] at hz
   have hp := hL p (List.mem_of_getElem? hz)
   have hgk : (L.map pin).getD k (0, 0) = ((p.1 : Int), (p.2 : Int)) := getD_of (by rw [List.getElem?_map, hz]; rfl)
   unfold linealref05_IsProof_b2
   simp only [Int.toNat_natCast, hgk, List.length_map, hpp]
   rw [if_pos (by rw [decide_eq_true_eq]; omega), ck_pos (by omega), ck_pos (by omega), holds_eq oc oa h4 p.1 hp.2, Option.bind_some]
   cases folB c a (relM L) p.1 p.2
   ·rfl
   ·rw [if_neg (by simp), ck_pos ki]; rfl) (by
   unfold linealref05_IsProof_b2
   rw [if_neg (by simp)])
  have hall : (allB L.length fun k => folB c a (relM L) (L.getD k (0, 0)).1 (L.getD k (0, 0)).2) = decide (U = T) := by
   rw [Bool.eq_iff_iff, allB_iff, decide_eq_true_eq, hsim]
   constructor
   ·intro h9 x y hb
    have hm := relM_bit.1 hb
    obtain ⟨k, hk⟩ := List.getElem?_of_mem hm
    have := h9 k (List.getElem?_eq_some_iff.1 hk).1
    rw [getD_of hk] at this
    exact ⟨(hL _ hm).1, (hL _ hm).2, this⟩
   ·intro hS k hk
    have hz : L[k]? = some (L.getD k (0, 0)) := by rw [List.getD_eq_getElem?_getD, List.getElem?_eq_getElem hk]; rfl
    exact (hS _ _ (relM_bit.2 (List.mem_of_getElem? hz))).2.2
  unfold linealref05_IsProof
  rw [refValid_eq c kc, Option.bind_some, hc, if_neg (by simp), refValid_eq a ka, Option.bind_some, ha, if_neg (by simp), refisRel_eq _ _ _ fL', Option.bind_some, iL, if_neg (by simp), ck_pos (by have := oc.lo; omega), ck_pos (by omega), e4, Option.bind_some]
  unfold linealref05_IsProof_k1
  rw [hl2, hall, Option.bind_some]
  cases decide (U = T) <;> rfl

end Go.Proofs.Ytifleoceebaooaa
