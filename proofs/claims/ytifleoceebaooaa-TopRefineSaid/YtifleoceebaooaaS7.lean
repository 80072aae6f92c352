/-
 Layer 5, pure: the relation that the program keeps, what it holds, and that what rests of it is the greatest one that proves.
-/
import Derived.Test.YtifleoceebaooaaS5
import Derived.Test.YtifleoceebaooaaS6
namespace Go.Proofs.Ytifleoceebaooaa
open Go.RowKit

set_option linter.unusedVariables false
set_option linter.unusedSectionVars false
set_option linter.unusedSimpArgs false

theorem intAt_ext {k : IntKind} : ∀ {t : Ty} {x y : El t}, allInt k t = true → (∀ q, q < t.size → intAt t x q = intAt t y q) → x = y
 | .int p, x, y, _, h => by
  have := h 0 (by simp [Ty.size])
  exact this
 | .bool, _, _, h, _ => by simp [allInt] at h
 | .unit, _, _, _, _ => rfl
 | .sl _, _, _, h, _ => by simp [allInt] at h
 | .pair a b, x, y, h, hq => by
  simp only [allInt, Bool.and_eq_true] at h
  have h1 : x.1 = y.1 := intAt_ext h.1 fun q hlt => by
   have := hq q (by simp only [Ty.size]; omega)
   simpa only [intAt, hlt, if_true] using this
  have h2 : x.2 = y.2 := intAt_ext h.2 fun q hlt => by
   have := hq (a.size + q) (by simp only [Ty.size]; omega)
   simp only [intAt] at this
   rw [if_neg (by omega), if_neg (by omega), Nat.add_sub_cancel_left] at this
   exact this
  exact Prod.ext h1 h2

theorem okD_of {k : IntKind} : ∀ {t : Ty} {x : El t}, allInt k t = true → (∀ q, q < t.size → InK k (intAt t x q)) → okD t x
 | .int p, x, h, hq => by
  have e : p = k := by simpa [allInt] using h
  subst e
  exact hq 0 (by simp [Ty.size])
 | .bool, _, h, _ => by simp [allInt] at h
 | .unit, _, _, _ => trivial
 | .sl _, _, h, _ => by simp [allInt] at h
 | .pair a b, x, h, hq => by
  simp only [allInt, Bool.and_eq_true] at h
  refine ⟨okD_of (k := k) h.1 fun q hlt => ?_, okD_of (k := k) h.2 fun q hlt => ?_⟩
  ·have := hq q (by simp only [Ty.size]; omega)
   simpa only [intAt, hlt, if_true] using this
  ·have := hq (a.size + q) (by simp only [Ty.size]; omega)
   simp only [intAt] at this
   rw [if_neg (by omega), Nat.add_sub_cancel_left] at this
   exact this

theorem and_u8 : ∀ a < 64, ∀ b < 64, iand .u8 ((a : Nat) : Int) ((b : Nat) : Int) = ((a &&& b : Nat) : Int) := by decide +kernel
theorem shl7 : ∀ i < 7, ishl .u8 1 ((i : Nat) : Int) = ((2 ^ i : Nat) : Int) := by decide +kernel

/-- What the array holds. -/
structure Rep (T : El T94) (R : Nat → Nat) : Prop where
 has : ∀ i, i < 6 → intAt T94 T i = ((R i : Nat) : Int)
 lt : ∀ i, R i < 64
 out : ∀ i, 6 ≤ i → R i = 0

theorem rep_eq {T U : El T94} {P Q : Nat → Nat} (h : Rep T P) (k : Rep U Q) : T = U ↔ P = Q := by
 constructor
 ·intro e
  subst e
  funext i
  by_cases hi : i < 6
  ·have h1 := h.has i hi
   rw [k.has i hi] at h1
   omega
  ·rw [h.out i (by omega), k.out i (by omega)]
 ·intro e
  subst e
  exact intAt_ext (k := .u8) rfl fun q hq => by rw [h.has q hq, k.has q hq]

theorem rep_ok {T : El T94} {P : Nat → Nat} (h : Rep T P) : okD T94 T := okD_of (k := .u8) rfl fun q hq => by
 have := h.lt q
 rw [h.has q hq, inK_u8]; omega

theorem rep_zero : Rep (Ty.dflt T94) fun _ => 0 := by
 have : ∀ q, q < 6 → intAt T94 (Ty.dflt T94) q = 0 := by decide +kernel
 exact ⟨fun i hi => this i hi, fun _ => by omega, fun _ _ => rfl⟩

theorem rep_set {T : El T94} {P : Nat → Nat} (h : Rep T P) {i m : Nat} (hi : i < 6) (hm : m < 64) : Rep (setInt T94 T i (m : Int)) fun j => if j = i then m else P j := by
 refine ⟨fun j hj => ?_, fun j => ?_, fun j hj => ?_⟩
 ·rw [intAt_setInt (k := .u8) T (m : Int) rfl hi hj]
  split
  ·rfl
  ·exact h.has j hj
 ·split
  ·exact hm
  ·exact h.lt j
 ·rw [if_neg (by omega)]
  exact h.out j hj

/-! ### Its pairs -/

def relK (R : Nat → Nat) (k : Nat) : List (Nat × Nat) := (List.range k).flatMap fun i => (bitsL (R i)).map fun j => (i, j)
def pin (p : Nat × Nat) : Int × Int := ((p.1 : Int), (p.2 : Int))

theorem bitsL_len (m : Nat) : (bitsL m).length ≤ 6 := by
 have := List.length_filter_le m.testBit (List.range 6)
 rw [List.length_range] at this
 exact this

theorem relK_succ (R : Nat → Nat) (k : Nat) : relK R (k + 1) = relK R k ++ (bitsL (R k)).map fun j => (k, j) := by
 unfold relK
 rw [List.range_succ, List.flatMap_append]
 simp

theorem relK_len (R : Nat → Nat) : ∀ k, (relK R k).length ≤ 6 * k
 | 0 => by simp [relK]
 | k + 1 => by
  rw [relK_succ, List.length_append, List.length_map]
  have := relK_len R k
  have := bitsL_len (R k)
  omega

theorem relK_mem {R : Nat → Nat} {k : Nat} {p : Nat × Nat} : p ∈ relK R k ↔ p.1 < k ∧ p.2 < 6 ∧ (R p.1).testBit p.2 = true := by
 unfold relK bitsL
 rw [List.mem_flatMap]
 constructor
 ·rintro ⟨i, hi, h⟩
  rw [List.mem_map] at h
  obtain ⟨j, hj, rfl⟩ := h
  rw [List.mem_filter, List.mem_range] at hj
  exact ⟨List.mem_range.1 hi, hj.1, hj.2⟩
 ·rintro ⟨h1, h2, h3⟩
  refine ⟨p.1, List.mem_range.2 h1, List.mem_map.2 ⟨p.2, List.mem_filter.2 ⟨List.mem_range.2 h2, h3⟩, rfl⟩⟩

theorem list_in {m : Nat} (i : Nat) (out : List (Int × Int)) (ho : out.length ≤ 100) : whileO (refine_relation_list_b2 (out, (i : Int)) ((bitsL m).map fun (j : Nat) => (j : Int))) (out, 0) = some (out ++ ((bitsL m).map fun j => (i, j)).map pin) := by
 have hb := bitsL_len m
 obtain ⟨r, e1, h⟩ := scan2 (R := List (Int × Int)) (bitsL m) (fun k o => o = out ++ (((bitsL m).take k).map fun j => (i, j)).map pin) (fun r => r = out ++ ((bitsL m).map fun j => (i, j)).map pin) (body := refine_relation_list_b2 (out, (i : Int)) ((bitsL m).map fun (j : Nat) => (j : Int))) (s0 := out) (by simp)
  (fun k j o hk hI => by
   have hlt := (List.getElem?_eq_some_iff.1 hk).1
   have ki : InK .i64 ((k : Int) + 1) := by rw [inK_i64]; omega
   have hol : o.length ≤ 106 := by
    rw [hI, List.length_append, List.length_map, List.length_map, List.length_take]; omega
   have hg : ((bitsL m).map fun (j : Nat) => (j : Int)).getD k 0 = (j : Int) := getD_of (by rw [List.getElem?_map, hk]; rfl)
   refine .inl ⟨o ++ [((i : Int), (j : Int))], ?_, ?_⟩
   ·unfold refine_relation_list_b2
    simp only [Int.toNat_natCast, hg, List.length_map]
    rw [if_pos (by rw [decide_eq_true_eq]; omega), ck_pos (by omega), ck_pos (by omega), ck_pos (by omega), ck_pos ki]
   ·rw [hI, take_one hk, List.map_append, List.map_append, List.append_assoc]; rfl)
  (fun o hI => by
   refine ⟨o, ?_, by rw [hI, List.take_length]⟩
   unfold refine_relation_list_b2
   simp only [List.length_map]
   rw [if_neg (by rw [decide_eq_true_eq]; omega)])
 rw [e1, h]

theorem list_eq {T : El T94} {R : Nat → Nat} (h : Rep T R) : refine_relation_list T = some ((relK R 6).map pin) := by
 obtain ⟨r, e1, h⟩ := scan2 (R := List (Int × Int)) (List.range 6) (fun k o => o = (relK R k).map pin) (fun r => r = (relK R 6).map pin) (body := refine_relation_list_b1 T) (s0 := []) (by simp [relK])
  (fun k z o hk hI => by
   have hlt := (List.getElem?_eq_some_iff.1 hk).1
   rw [List.length_range] at hlt
   have ki : InK .i64 ((k : Int) + 1) := by rw [inK_i64]; omega
   have hol := relK_len R k
   refine .inl ⟨(relK R (k + 1)).map pin, ?_, rfl⟩
   unfold refine_relation_list_b1
   simp only [Int.toNat_natCast, Nat.mul_one]
   rw [if_pos (by rw [decide_eq_true_eq]; omega), ck_pos (by omega), ck_pos (by omega), h.has k hlt, states_eq (okS_valid (s := ((1 : Int), ([] : List Stp))) (by decide +kernel)) (h.lt k), Option.bind_some, hI, list_in k _ (by rw [List.length_map]; omega), Option.bind_some, relK_succ, List.map_append]
   unfold refine_relation_list_k2
   rw [ck_pos ki])
  (fun o hI => by
   refine ⟨o, ?_, hI⟩
   unfold refine_relation_list_b1
   rw [if_neg (by simp)])
 unfold refine_relation_list
 rw [e1, Option.bind_some, h]
 rfl

/-! ### What follows, what is held -/

section
variable {c a : Sys} {Tc Ta : El T69} (hc : OkS c) (ha : OkS a) (hT : Frm a Ta)
include hc ha hT

theorem follows_eq {T : El T94} {R : Nat → Nat} (h : Rep T R) (x : Nat) {y : Nat} (hy : y < a.1.toNat) : refine_two_follows ((c, Tc), a, Ta) T (x : Int) (y : Int) = some (folB c a R x y) := by
 have h6 := n6 ha
 have hlen := hc.len
 have hl := loopB (body := refine_two_follows_b1 ((c, Tc), a, Ta) T (x : Int) (y : Int)) c.2.length (fun k => !decide ((c.2.getD k (0, 0, 0)).1 = (x : Int)) || !decide (coM a (2 ^ y) (c.2.getD k (0, 0, 0)).2.1 &&& R (c.2.getD k (0, 0, 0)).2.2.toNat = 0)) (fun k hk => by
  have hz : c.2[k]? = some (c.2.getD k (0, 0, 0)) := by rw [List.getD_eq_getElem?_getD, List.getElem?_eq_getElem hk]; rfl
  have hs := hc.st _ (List.mem_of_getElem? hz)
  have c6 := n6 hc
  have ki : InK .i64 ((k : Int) + 1) := by rw [inK_i64]; omega
  obtain ⟨z, hzz⟩ : ∃ z, c.2.getD k (0, 0, 0) = z := ⟨_, rfl⟩
  rw [hzz] at hs
  unfold refine_two_follows_b1
  simp only [Int.toNat_natCast, hzz]
  obtain ⟨l, hl⟩ := Int.eq_ofNat_of_zero_le hs.2.1.1
  obtain ⟨t, ht⟩ := Int.eq_ofNat_of_zero_le hs.2.2.1
  rw [if_pos (by rw [decide_eq_true_eq]; omega), ck_pos (by omega), ck_pos (by omega)]
  by_cases h1 : z.1 = (x : Int)
  ·have e1 : intAt T69 Ta (y * 4 + z.2.1.toNat * 1) = ((coM a (2 ^ y) z.2.1 : Nat) : Int) := by
    rw [hl, Int.toNat_natCast, Nat.mul_one]
    exact hT y l hy (by omega)
   have e2 : intAt T94 T (0 + z.2.2.toNat * 1) = ((R z.2.2.toNat : Nat) : Int) := by
    rw [Nat.zero_add, Nat.mul_one]
    exact h.has _ (by omega)
   have b1 : coM a (2 ^ y) z.2.1 < 64 := lt64 ha (coM_lt ha (Nat.pow_lt_pow_right (by omega) hy) _)
   rw [if_pos (by rw [decide_eq_true_eq]; exact h1), ck_pos (by omega), ck_pos (by omega), ck_pos (by omega), ck_pos (by omega), ck_pos (by omega), ck_pos (by omega), e1, e2, and_u8 _ b1 _ (h.lt _)]
   by_cases h2 : coM a (2 ^ y) z.2.1 &&& R z.2.2.toNat = 0
   ·rw [if_pos (by rw [decide_eq_true_eq, h2]; rfl), if_neg (by simp [h1, h2])]
   ·rw [if_neg (by rw [decide_eq_true_eq]; omega), ck_pos ki, if_pos (by simp [h2])]
  ·rw [if_neg (by rw [decide_eq_true_eq]; exact h1), ck_pos ki, if_pos (by simp [h1])]) (by
  unfold refine_two_follows_b1
  simp only
  rw [if_neg (by rw [decide_eq_true_eq]; omega)])
 have he : (allB c.2.length fun k => !decide ((c.2.getD k (0, 0, 0)).1 = (x : Int)) || !decide (coM a (2 ^ y) (c.2.getD k (0, 0, 0)).2.1 &&& R (c.2.getD k (0, 0, 0)).2.2.toNat = 0)) = folB c a R x y := by
  unfold folB
  rw [Bool.eq_iff_iff, allB_iff, List.all_eq_true]
  constructor
  ·intro g z hz
   obtain ⟨k, hk⟩ := List.getElem?_of_mem hz
   have := g k (List.getElem?_eq_some_iff.1 hk).1
   rw [getD_of hk] at this
   exact this
  ·intro g k hk
   exact g _ (List.mem_of_getElem? (show c.2[k]? = some (c.2.getD k (0, 0, 0)) by rw [List.getD_eq_getElem?_getD, List.getElem?_eq_getElem hk]; rfl))
 unfold refine_two_follows
 rw [hl, Option.bind_some, he]
 cases folB c a R x y <;> rfl

theorem held_eq {T : El T94} {R : Nat → Nat} (h : Rep T R) (hR : ∀ x y, (R x).testBit y = true → y < a.1.toNat) : ∃ U, refine_two_held ((c, Tc), a, Ta) T = some U ∧ Rep U (heldR c a R) := by
 have h6 := n6 ha
 have hlen := relK_len R 6
 obtain ⟨r, e1, h1⟩ := scan2 (R := El T94) (relK R 6) (fun k S => ∃ P, Rep S P ∧ ∀ i j, (P i).testBit j = true ↔ (i, j) ∈ (relK R 6).take k ∧ folB c a R i j = true) (fun S => ∃ P, Rep S P ∧ ∀ i j, (P i).testBit j = true ↔ (i, j) ∈ relK R 6 ∧ folB c a R i j = true) (body := refine_two_held_b1 ((c, Tc), a, Ta) T ((relK R 6).map pin)) (s0 := Ty.dflt T94) ⟨_, rep_zero, fun i j => by simp⟩
  (fun k p S hk hI => by
   obtain ⟨P, hP, hI⟩ := hI
   obtain ⟨x, y⟩ := p
   have hlt := (List.getElem?_eq_some_iff.1 hk).1
   have ki : InK .i64 ((k : Int) + 1) := by rw [inK_i64]; omega
   obtain ⟨m1, m2, m3⟩ := relK_mem.1 (List.mem_of_getElem? hk)
   have m1 : x < 6 := m1
   have m2 : y < 6 := m2
   have m3 : (R x).testBit y = true := m3
   have hg : ((relK R 6).map pin).getD k (0, 0) = ((x : Int), (y : Int)) := getD_of (by rw [List.getElem?_map, hk]; rfl)
   refine .inl ?_
   unfold refine_two_held_b1
   simp only [Int.toNat_natCast, hg, List.length_map, Nat.mul_one, Nat.zero_add]
   rw [if_pos (by rw [decide_eq_true_eq]; omega), ck_pos (by omega), ck_pos (by omega), follows_eq hc ha hT h x (hR x y m3), Option.bind_some]
   by_cases hf : folB c a R x y = true
   ·rw [if_pos hf, ck_pos (by omega), ck_pos (by omega), ck_pos (by omega), ck_pos (by omega), ck_pos (by omega), ck_pos ki, hP.has x m1, shl_u8 y m2, or_u8 _ (hP.lt x) _ (Nat.pow_lt_pow_right (by omega) m2 : 2 ^ y < 2 ^ 6)]
    refine ⟨_, rfl, _, rep_set hP m1 (or_lt (n := 6) (hP.lt x) (Nat.pow_lt_pow_right (by omega) m2)), fun i j => ?_⟩
    rw [take_one hk, List.mem_append, List.mem_singleton]
    by_cases hi : i = x
    ·subst hi
     rw [if_pos rfl, Nat.testBit_or, Bool.or_eq_true, hI, Nat.testBit_two_pow, decide_eq_true_eq]
     constructor
     ·rintro (g | g)
      ·exact ⟨.inl g.1, g.2⟩
      ·subst g; exact ⟨.inr rfl, hf⟩
     ·rintro ⟨g | g, g2⟩
      ·exact .inl ⟨g, g2⟩
      ·have := (Prod.mk.inj g).2
       exact .inr this.symm
    ·rw [if_neg hi, hI]
     constructor
     ·rintro ⟨g1, g2⟩; exact ⟨.inl g1, g2⟩
     ·rintro ⟨g | g, g2⟩
      ·exact ⟨g, g2⟩
      ·exact absurd (Prod.mk.inj g).1 hi
   ·rw [if_neg hf, ck_pos ki]
    refine ⟨_, rfl, P, hP, fun i j => ?_⟩
    rw [take_one hk, List.mem_append, List.mem_singleton, hI]
    constructor
    ·rintro ⟨g1, g2⟩; exact ⟨.inl g1, g2⟩
    ·rintro ⟨g | g, g2⟩
     ·exact ⟨g, g2⟩
     ·obtain ⟨rfl, rfl⟩ := Prod.mk.inj g
      exact absurd g2 hf)
  (fun S hI => by
   rw [List.take_length] at hI
   refine ⟨S, ?_, hI⟩
   unfold refine_two_held_b1
   simp only [List.length_map]
   rw [if_neg (by rw [decide_eq_true_eq]; omega)])
 obtain ⟨P, hP, hI⟩ := h1
 refine ⟨r, ?_, ?_⟩
 ·unfold refine_two_held
  rw [list_eq h, Option.bind_some, e1, Option.bind_some]
  rfl
 ·have : P = heldR c a R := by
   funext i
   refine Nat.eq_of_testBit_eq fun j => ?_
   rw [Bool.eq_iff_iff, hI]
   unfold heldR
   rw [setM_bit, Bool.and_eq_true, relK_mem]
   constructor
   ·rintro ⟨⟨g1, g2, g3⟩, g4⟩; exact ⟨g2, g3, g4⟩
   ·rintro ⟨g2, g3, g4⟩
    refine ⟨⟨?_, g2, g3⟩, g4⟩
    simp only
    refine Nat.lt_of_not_le fun hi => ?_
    rw [h.out i hi] at g3
    simp at g3
  rw [← this]; exact hP

def full (c a : Sys) (x : Nat) : Nat := if x < c.1.toNat then 2 ^ a.1.toNat - 1 else 0

omit hT in
theorem full_sim {Q : Nat → Nat} (h : Sim c a Q) (x : Nat) : sub (Q x) (full c a x) := fun y hy => by
 obtain ⟨g1, g2, _⟩ := h x y hy
 unfold full
 rw [if_pos g1, Nat.testBit_two_pow_sub_one, decide_eq_true_eq]; exact g2

omit hT in
theorem full_in {x y : Nat} (h : (full c a x).testBit y = true) : x < c.1.toNat ∧ y < a.1.toNat := by
 unfold full at h
 by_cases hx : x < c.1.toNat
 ·rw [if_pos hx, Nat.testBit_two_pow_sub_one, decide_eq_true_eq] at h
  exact ⟨hx, h⟩
 ·rw [if_neg hx] at h; simp at h

omit hc ha hT in
theorem held_sub (R : Nat → Nat) (x : Nat) : sub (heldR c a R x) (R x) := fun y hy => by
 unfold heldR at hy
 rw [setM_bit, Bool.and_eq_true] at hy
 exact hy.2.1

/-- How much there is in it. -/
def mu (P : Nat → Nat) : Nat := cnt (P 0) + cnt (P 1) + cnt (P 2) + cnt (P 3) + cnt (P 4) + cnt (P 5)

omit hc ha hT in
theorem mu_lt {P Q : Nat → Nat} (h : ∀ x, sub (Q x) (P x)) (hP : ∀ x, P x < 64) (ho : ∀ x, 6 ≤ x → P x = 0) (hne : Q ≠ P) : mu Q < mu P := by
 have hm : ∀ x, cnt (Q x) ≤ cnt (P x) := fun x => cnt_mono (h x)
 obtain ⟨x, hx⟩ : ∃ x, Q x ≠ P x := Classical.byContradiction fun hn => hne (funext fun x => Classical.byContradiction fun h => hn ⟨x, h⟩)
 have h6 : x < 6 := Nat.lt_of_not_le fun h6 => hx (sub_anti (h x) (by rw [ho x h6]; exact zero_sub _))
 have hs := cnt_lt (h x) (hP x) hx
 have m0 := hm 0; have m1 := hm 1; have m2 := hm 2; have m3 := hm 3; have m4 := hm 4; have m5 := hm 5
 unfold mu
 obtain rfl | rfl | rfl | rfl | rfl | rfl : x = 0 ∨ x = 1 ∨ x = 2 ∨ x = 3 ∨ x = 4 ∨ x = 5 := by omega
 all_goals omega

theorem best_eq : ∃ T P, refine_two_best ((c, Tc), a, Ta) = some T ∧ Rep T P ∧ Sim c a P ∧ ∀ Q, Sim c a Q → ∀ x, sub (Q x) (P x) := by
 have h6 := n6 ha
 have c6 := n6 hc
 have hlo := ha.lo
 have clo := hc.lo
 obtain ⟨n, hn⟩ := Int.eq_ofNat_of_zero_le (show 0 ≤ a.1 by omega)
 have hp : 2 ^ a.1.toNat ≤ 64 := (Nat.pow_le_pow_right (by omega) h6 : 2 ^ a.1.toNat ≤ 2 ^ 6)
 have hp1 : 1 ≤ 2 ^ a.1.toNat := Nat.one_le_two_pow
 have hsh : ishl .u8 1 a.1 - 1 = ((2 ^ a.1.toNat - 1 : Nat) : Int) := by
  have : ishl .u8 1 a.1 = ((2 ^ a.1.toNat : Nat) : Int) := by
   rw [hn, Int.toNat_natCast]; exact shl7 n (by omega)
  rw [this]; omega
 obtain ⟨T0, e1, h1⟩ := scan2 (R := El T94) (List.range c.1.toNat) (fun k S => Rep S fun i => if i < k then 2 ^ a.1.toNat - 1 else 0) (fun S => Rep S (full c a)) (body := refine_two_best_b1 ((c, Tc), a, Ta)) (s0 := Ty.dflt T94) (by simpa using rep_zero)
  (fun k z S hk hI => by
   have hlt := (List.getElem?_eq_some_iff.1 hk).1
   rw [List.length_range] at hlt
   have ki : InK .i64 ((k : Int) + 1) := by rw [inK_i64]; omega
   refine .inl ⟨setInt T94 S k ((2 ^ a.1.toNat - 1 : Nat) : Int), ?_, ?_⟩
   ·unfold refine_two_best_b1
    simp only [Int.toNat_natCast, Nat.mul_one, Nat.zero_add, hsh]
    rw [if_pos (by rw [decide_eq_true_eq]; omega), ck_pos (by omega), ck_pos (by rw [inK_u8]; omega), ck_pos (by omega), ck_pos (by omega), ck_pos ki]
   ·have := rep_set hI (i := k) (m := 2 ^ a.1.toNat - 1) (by omega) (by omega)
    have e : (fun j => if j = k then 2 ^ a.1.toNat - 1 else if j < k then 2 ^ a.1.toNat - 1 else 0) = fun i => if i < k + 1 then 2 ^ a.1.toNat - 1 else 0 := by
     funext j
     by_cases g : j = k
     ·rw [if_pos g, if_pos (by omega)]
     ·rw [if_neg g]
      by_cases g2 : j < k
      ·rw [if_pos g2, if_pos (by omega)]
      ·rw [if_neg g2, if_neg (by omega)]
    rw [← e]; exact this)
  (fun S hI => by
   rw [List.length_range] at hI ⊢
   refine ⟨S, ?_, hI⟩
   unfold refine_two_best_b1
   simp only
   rw [if_neg (by rw [decide_eq_true_eq]; omega)])
 obtain ⟨U0, e2, h2⟩ := held_eq hc ha hT (Tc := Tc) h1 (fun x y hb => (full_in hc ha hb).2)
 obtain ⟨r, e3, P, hP, hS, hL⟩ := whileO_inv (R := El T94) (body := refine_two_best_b2 ((c, Tc), a, Ta)) (fun s => ∃ P, Rep s.1 P ∧ refine_two_held ((c, Tc), a, Ta) s.1 = some s.2 ∧ (∀ x, sub (P x) (full c a x)) ∧ ∀ Q, Sim c a Q → ∀ x, sub (Q x) (P x))
  (fun s => mu fun i => (intAt T94 s.1 i).toNat) (fun r => ∃ P, Rep r P ∧ Sim c a P ∧ ∀ Q, Sim c a Q → ∀ x, sub (Q x) (P x)) (fun s hs => by
   obtain ⟨p, r⟩ := s
   obtain ⟨P, hP, he, hf, hQ⟩ := hs
   simp only at hP he
   obtain ⟨U, eU, hU⟩ := held_eq hc ha hT (Tc := Tc) hP (fun x y hb => (full_in hc ha (hf x y hb)).2)
   have : r = U := Option.some.inj (he.symm.trans eU)
   subst this
   unfold refine_two_best_b2
   simp only
   rw [ck_pos (rep_ok hU), ck_pos (rep_ok hP)]
   by_cases hrp : r = p
   ·rw [if_neg (by simp [hrp])]
    refine .inr ⟨_, rfl, P, hP, fun x y hb => ?_, hQ⟩
    have heq := (rep_eq hU hP).1 hrp
    obtain ⟨g1, g2⟩ := full_in hc ha (hf x y hb)
    refine ⟨g1, g2, ?_⟩
    have hb' := hb
    rw [← heq] at hb'
    unfold heldR at hb'
    rw [setM_bit, Bool.and_eq_true] at hb'
    exact hb'.2.2
   ·rw [if_pos (by simp [hrp])]
    have hf' : ∀ x, sub (heldR c a P x) (full c a x) := fun x => sub_trans (held_sub P x) (hf x)
    obtain ⟨V, eV, hV⟩ := held_eq hc ha hT (Tc := Tc) hU (fun x y hb => (full_in hc ha (hf' x y hb)).2)
    refine .inl ⟨(r, V), by rw [eV, Option.bind_some], ⟨_, hU, eV, hf', fun Q hq => held_keeps ha.hi hq (hQ Q hq)⟩, ?_⟩
    have hmu : ∀ {T : El T94} {R : Nat → Nat}, Rep T R → (mu fun i => (intAt T94 T i).toNat) = mu R := fun {T R} h => by
     unfold mu
     simp only [h.has 0 (by omega), h.has 1 (by omega), h.has 2 (by omega), h.has 3 (by omega), h.has 4 (by omega), h.has 5 (by omega), Int.toNat_natCast]
    simp only
    rw [hmu hU, hmu hP]
    exact mu_lt (held_sub P) hP.lt hP.out fun e => hrp ((rep_eq hU hP).2 e))
  (T0, U0) ⟨_, h1, e2, fun x => sub_refl _, fun Q hq => full_sim hc ha hq⟩
 refine ⟨r, P, ?_, hP, hS, hL⟩
 unfold refine_two_best
 rw [e1, Option.bind_some]
 unfold refine_two_best_k1
 rw [e2, Option.bind_some, e3, Option.bind_some]
 rfl

end

theorem Refines_eq {c a : Sys} (kc : okZ c) (ka : okZ a) (hc : validB c = true) (ha : validB a = true) : ∃ b, refine_Refines c a = some (b, 0) ∧ (b = true ↔ refD c a) := by
 obtain ⟨Tc, e1, h1⟩ := frameOf_eq c kc
 obtain ⟨Ta, e2, h2⟩ := frameOf_eq a ka
 rw [if_pos hc] at e1
 rw [if_pos ha] at e2
 obtain ⟨T, P, e3, hP, hS, hL⟩ := best_eq (Tc := Tc) (okS_valid hc) (okS_valid ha) (h2 ha)
 refine ⟨(P 0).testBit 0, ?_, ?_⟩
 ·have e3' : refine_two_best (((c.1, c.2), Tc), (a.1, a.2), Ta) = some T := e3
  unfold refine_Refines refine_twoOf
  rw [e1, Option.bind_some]
  simp only [decide_true, Bool.not_true, Bool.false_eq_true, if_false]
  rw [e2, Option.bind_some]
  simp only [decide_true, Bool.not_true, Bool.false_eq_true, if_false, Option.bind_some]
  rw [e3', Option.bind_some, has_eq _ _ (by omega), Option.bind_some, hP.has 0 (by omega), bit_u8 (hP.lt 0) (by omega) (by omega)]
  rfl
 ·constructor
  ·intro h; exact ⟨P, hS, h⟩
  ·rintro ⟨Q, hQ, h⟩; exact hL Q hQ 0 0 h

end Go.Proofs.Ytifleoceebaooaa
