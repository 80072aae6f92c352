/-
 Layer 5, pure: relations that prove that one system follows another one; a label hidden; a system without a step.
-/
import Derived.Test.YtifleoceebaooaaS2
namespace Go.Proofs.Ytifleoceebaooaa
open Go.RowKit

set_option linter.unusedVariables false
set_option linter.unusedSectionVars false
set_option linter.unusedSimpArgs false

/-- The set of the numbers below six that are so. -/
def setM (p : Nat → Bool) : Nat := (List.range 6).foldl (fun m y => if p y = true then m ||| 2 ^ y else m) 0

theorem setM_go (p : Nat → Bool) (j : Nat) : ∀ (l : List Nat) (a : Nat), (l.foldl (fun m y => if p y = true then m ||| 2 ^ y else m) a).testBit j = true ↔ a.testBit j = true ∨ j ∈ l ∧ p j = true
 | [], a => by simp
 | y :: l, a => by
  rw [List.foldl_cons, setM_go p j l]
  by_cases h : p y = true
  ·rw [if_pos h, Nat.testBit_or, Bool.or_eq_true, Nat.testBit_two_pow, decide_eq_true_eq]
   constructor
   ·rintro ((h1 | h1) | h1)
    ·exact .inl h1
    ·subst h1; exact .inr ⟨by simp, h⟩
    ·exact .inr ⟨List.mem_cons_of_mem _ h1.1, h1.2⟩
   ·rintro (h1 | ⟨h1, h2⟩)
    ·exact .inl (.inl h1)
    ·rcases List.mem_cons.1 h1 with rfl | h1
     ·exact .inl (.inr rfl)
     ·exact .inr ⟨h1, h2⟩
  ·rw [if_neg h]
   constructor
   ·rintro (h1 | h1)
    ·exact .inl h1
    ·exact .inr ⟨List.mem_cons_of_mem _ h1.1, h1.2⟩
   ·rintro (h1 | ⟨h1, h2⟩)
    ·exact .inl h1
    ·rcases List.mem_cons.1 h1 with rfl | h1
     ·exact absurd h2 h
     ·exact .inr ⟨h1, h2⟩

theorem setM_bit {p : Nat → Bool} {j : Nat} : (setM p).testBit j = true ↔ j < 6 ∧ p j = true := by
 unfold setM
 rw [setM_go, List.mem_range]
 simp

theorem setM_lt (p : Nat → Bool) : setM p < 64 := by
 refine Nat.lt_pow_two_of_testBit (n := 6) _ fun i hi => ?_
 cases h : (setM p).testBit i with
 | false => rfl
 | true => have := (setM_bit.1 h).1; omega

theorem and_ne {a b : Nat} : a &&& b ≠ 0 ↔ ∃ j, a.testBit j = true ∧ b.testBit j = true := by
 constructor
 ·intro h
  obtain ⟨j, hj⟩ := ne_zero_bit h
  rw [Nat.testBit_and, Bool.and_eq_true] at hj
  exact ⟨j, hj⟩
 ·rintro ⟨j, h1, h2⟩ h
  have : (a &&& b).testBit j = true := by rw [Nat.testBit_and, h1, h2]; rfl
  rw [h] at this
  simp at this

/-- Whether y follows each step of x to a pair. -/
def folB (c a : Sys) (R : Nat → Nat) (x y : Nat) : Bool := c.2.all fun z => !decide (z.1 = (x : Int)) || !decide (coM a (2 ^ y) z.2.1 &&& R z.2.2.toNat = 0)

theorem folB_iff {c a : Sys} {R : Nat → Nat} {x y : Nat} : folB c a R x y = true ↔ ∀ z ∈ c.2, z.1 = (x : Int) → ∃ j, (coM a (2 ^ y) z.2.1).testBit j = true ∧ (R z.2.2.toNat).testBit j = true := by
 unfold folB
 rw [List.all_eq_true]
 constructor
 ·intro h z hz h1
  have := h z hz
  rw [Bool.or_eq_true, Bool.not_eq_true', decide_eq_false_iff_not, Bool.not_eq_true', decide_eq_false_iff_not] at this
  rcases this with this | this
  ·exact absurd h1 this
  ·exact and_ne.1 this
 ·intro h z hz
  rw [Bool.or_eq_true, Bool.not_eq_true', decide_eq_false_iff_not, Bool.not_eq_true', decide_eq_false_iff_not]
  by_cases h1 : z.1 = (x : Int)
  ·exact .inr (and_ne.2 (h z hz h1))
  ·exact .inl h1

def heldR (c a : Sys) (R : Nat → Nat) (x : Nat) : Nat := setM fun y => (R x).testBit y && folB c a R x y

/-- A relation that proves. -/
def Sim (c a : Sys) (Q : Nat → Nat) : Prop := ∀ x y, (Q x).testBit y = true → x < c.1.toNat ∧ y < a.1.toNat ∧ folB c a Q x y = true

theorem folB_mono {c a : Sys} {Q R : Nat → Nat} (h : ∀ x, sub (Q x) (R x)) {x y : Nat} (hq : folB c a Q x y = true) : folB c a R x y = true := by
 rw [folB_iff] at hq ⊢
 intro z hz h1
 obtain ⟨j, h2, h3⟩ := hq z hz h1
 exact ⟨j, h2, h _ j h3⟩

theorem held_keeps {c a : Sys} (ha : a.1 ≤ 6) {Q R : Nat → Nat} (hQ : Sim c a Q) (h : ∀ x, sub (Q x) (R x)) : ∀ x, sub (Q x) (heldR c a R x) := fun x y hy => by
 obtain ⟨_, h2, h3⟩ := hQ x y hy
 unfold heldR
 rw [setM_bit, Bool.and_eq_true]
 exact ⟨by omega, h x y hy, folB_mono h h3⟩

def refD (c a : Sys) : Prop := ∃ Q : Nat → Nat, Sim c a Q ∧ (Q 0).testBit 0 = true

theorem come_step {s : Sys} (hv : OkS s) {z : Stp} (hz : z ∈ s.2) : (coM s (2 ^ z.1.toNat) z.2.1).testBit z.2.2.toNat = true := by
 have hs := hv.st z hz
 have h2 : 2 ^ z.1.toNat < 2 ^ s.1.toNat := Nat.pow_lt_pow_right (by omega) (by omega)
 have hq : (quM s (2 ^ z.1.toNat)).testBit z.1.toNat = true := one_sub.1 (quM_sub hv _)
 unfold coM
 by_cases h : z.2.1 = 0
 ·rw [if_pos h]
  exact quM_cl hv h2 _ (stM_bit.2 ⟨z, hz, h, hq, rfl⟩)
 ·rw [if_neg h]
  exact quM_sub hv _ _ (stM_bit.2 ⟨z, hz, rfl, hq, rfl⟩)

/-- Fewer steps: refines. -/
theorem less_ref {c a : Sys} (ha : OkS a) (h1 : c.1 = a.1) (h : ∀ z ∈ c.2, z ∈ a.2) : refD c a := by
 have hlo := ha.lo
 refine ⟨fun x => if x < a.1.toNat then 2 ^ x else 0, fun x y hy => ?_, ?_⟩
 ·have hy : (if x < a.1.toNat then 2 ^ x else 0).testBit y = true := hy
  by_cases hx : x < a.1.toNat
  ·rw [if_pos hx, Nat.testBit_two_pow, decide_eq_true_eq] at hy
   subst hy
   refine ⟨by rw [h1]; exact hx, hx, folB_iff.2 fun z hz he => ⟨z.2.2.toNat, ?_, ?_⟩⟩
   ·have := come_step ha (h z hz)
    rw [he, Int.toNat_natCast] at this
    exact this
   ·have := (ha.st z (h z hz)).2.2
    show (if z.2.2.toNat < a.1.toNat then 2 ^ z.2.2.toNat else 0).testBit z.2.2.toNat = true
    rw [if_pos (by omega), Nat.testBit_two_pow]; simp
  ·rw [if_neg hx] at hy; simp at hy
 ·show (if 0 < a.1.toNat then 2 ^ 0 else 0).testBit 0 = true
  rw [if_pos (by omega)]; decide

/-! ### A label hidden -/

def hideZ (k : Int) (z : Stp) : Stp := (z.1, if z.2.1 = k then 0 else z.2.1, z.2.2)
def hideF (k : Int) (L : List Stp) (z : Stp) : List Stp := if hideZ k z ∈ L then L else L ++ [hideZ k z]
def hideL (k : Int) (l : List Stp) : List Stp := l.foldl (hideF k) []

theorem hide_go (k : Int) : ∀ (l L : List Stp), L.Nodup → (l.foldl (hideF k) L).Nodup ∧ (∀ y, y ∈ l.foldl (hideF k) L ↔ y ∈ L ∨ ∃ z ∈ l, hideZ k z = y) ∧ (l.foldl (hideF k) L).length ≤ L.length + l.length
 | [], L, h => ⟨h, fun y => by simp, by simp⟩
 | z :: l, L, h => by
  have h1 : (hideF k L z).Nodup := by
   unfold hideF
   split
   ·exact h
   ·rename_i hn
    rw [List.nodup_append]
    refine ⟨h, by simp, fun a ha b hb e => ?_⟩
    simp at hb; subst hb e; exact hn ha
  have h2 : ∀ y, y ∈ hideF k L z ↔ y ∈ L ∨ hideZ k z = y := fun y => by
   unfold hideF
   split
   ·rename_i hm
    constructor
    ·exact .inl
    ·rintro (h | h)
     ·exact h
     ·rw [← h]; exact hm
   ·rw [List.mem_append, List.mem_singleton]
    constructor
    ·rintro (h | h)
     ·exact .inl h
     ·exact .inr h.symm
    ·rintro (h | h)
     ·exact .inl h
     ·exact .inr h.symm
  have h3 : (hideF k L z).length ≤ L.length + 1 := by
   unfold hideF
   split
   ·omega
   ·simp
  obtain ⟨g1, g2, g3⟩ := hide_go k l (hideF k L z) h1
  rw [List.foldl_cons]
  refine ⟨g1, fun y => ?_, by rw [List.length_cons]; omega⟩
  rw [g2, h2]
  constructor
  ·rintro ((h | h) | ⟨y', h, e⟩)
   ·exact .inl h
   ·exact .inr ⟨z, by simp, h⟩
   ·exact .inr ⟨y', List.mem_cons_of_mem _ h, e⟩
  ·rintro (h | ⟨y', h, e⟩)
   ·exact .inl (.inl h)
   ·rcases List.mem_cons.1 h with rfl | h
    ·exact .inl (.inr e)
    ·exact .inr ⟨y', h, e⟩

theorem hideL_nd (k : Int) (l : List Stp) : (hideL k l).Nodup := (hide_go k l [] (by simp)).1
theorem hideL_mem {k : Int} {l : List Stp} {y : Stp} : y ∈ hideL k l ↔ ∃ z ∈ l, hideZ k z = y := by
 have := (hide_go k l [] (by simp)).2.1 y
 unfold hideL; rw [this]; simp
theorem hideL_len (k : Int) (l : List Stp) : (hideL k l).length ≤ l.length := by
 have := (hide_go k l [] (by simp)).2.2
 unfold hideL; simpa using this

theorem nd_inj {l : List Stp} (h : l.Nodup) {i j : Nat} {y : Stp} (hi : l[i]? = some y) (hj : l[j]? = some y) : i = j := by
 obtain ⟨hi', e1⟩ := List.getElem?_eq_some_iff.1 hi
 obtain ⟨hj', e2⟩ := List.getElem?_eq_some_iff.1 hj
 unfold List.Nodup at h
 rw [List.pairwise_iff_getElem] at h
 rcases Nat.lt_trichotomy i j with hlt | rfl | hlt
 ·exact absurd (e1.trans e2.symm) (h i j hi' hj' hlt)
 ·rfl
 ·exact absurd (e2.trans e1.symm) (h j i hj' hi' hlt)

theorem validB_of {s : Sys} (h1 : 1 ≤ s.1) (h2 : s.1 ≤ 6) (h3 : s.2.length ≤ 24) (h4 : ∀ z ∈ s.2, (0 ≤ z.1 ∧ z.1 < s.1) ∧ (0 ≤ z.2.1 ∧ z.2.1 ≤ 3) ∧ 0 ≤ z.2.2 ∧ z.2.2 < s.1) (h5 : s.2.Nodup) : validB s = true := by
 unfold validB
 rw [Bool.and_eq_true, decide_eq_true_eq, allB_iff]
 refine ⟨⟨h1, h2, h3⟩, fun k hk => ?_⟩
 have hz : s.2[k]? = some (s.2.getD k (0, 0, 0)) := by rw [List.getD_eq_getElem?_getD, List.getElem?_eq_getElem hk]; rfl
 rw [Bool.and_eq_true, Bool.not_eq_true', decide_eq_false_iff_not]
 refine ⟨stepB_iff.2 (h4 _ (List.mem_of_getElem? hz)), fun hm => ?_⟩
 obtain ⟨j, hj⟩ := List.getElem?_of_mem hm
 have hjl := (List.getElem?_eq_some_iff.1 hj).1
 rw [List.length_take] at hjl
 rw [List.getElem?_take, if_pos (by omega)] at hj
 have := nd_inj h5 hj hz
 omega

theorem valid_nd {s : Sys} (h : validB s = true) : s.2.Nodup := by
 unfold validB at h
 rw [Bool.and_eq_true, decide_eq_true_eq, allB_iff] at h
 unfold List.Nodup
 rw [List.pairwise_iff_getElem]
 intro i j hi hj hij e
 have := h.2 j hj
 rw [Bool.and_eq_true, Bool.not_eq_true', decide_eq_false_iff_not] at this
 refine this.2 (List.mem_of_getElem? (i := i) ?_)
 rw [List.getElem?_take, if_pos hij, List.getD_eq_getElem?_getD, List.getElem?_eq_getElem hj, List.getElem?_eq_getElem hi, e]
 rfl

def hid (k : Int) (s : Sys) : Sys := (s.1, hideL k s.2)

theorem hid_valid {s : Sys} {k : Int} (h : validB s = true) : validB (hid k s) = true := by
 have hv := okS_valid h
 refine validB_of hv.lo hv.hi (Nat.le_trans (hideL_len k s.2) hv.len) (fun z hz => ?_) (hideL_nd k s.2)
 obtain ⟨y, hy, rfl⟩ := hideL_mem.1 hz
 have := hv.st y hy
 refine ⟨this.1, ?_, this.2.2⟩
 unfold hideZ
 simp only
 split
 ·omega
 ·exact this.2.1

theorem hid_st {s : Sys} {k l : Int} {m : Nat} (hl : l ≠ k) : sub (stM s m l) (stM (hid k s) m l) := fun j hj => by
 obtain ⟨z, h1, h2, h3, h4⟩ := stM_bit.1 hj
 refine stM_bit.2 ⟨hideZ k z, hideL_mem.2 ⟨z, h1, rfl⟩, ?_, h3, h4⟩
 unfold hideZ
 simp only
 rw [if_neg (by rw [h2]; exact hl)]; exact h2

theorem hid_k {s : Sys} {k : Int} {m : Nat} : sub (stM s m k) (stM (hid k s) m 0) := fun j hj => by
 obtain ⟨z, h1, h2, h3, h4⟩ := stM_bit.1 hj
 refine stM_bit.2 ⟨hideZ k z, hideL_mem.2 ⟨z, h1, rfl⟩, ?_, h3, h4⟩
 unfold hideZ
 simp only
 rw [if_pos h2]

section
variable {s : Sys} (h : validB s = true) {k : Int} (hk : k ≠ 0)
include h hk

theorem hid_cl {q : Nat} (hc : cl0 (hid k s) q) : cl0 s q := sub_trans (hid_st (fun e => hk e.symm)) hc

theorem hid_qu {m : Nat} (hm : m < 2 ^ s.1.toNat) : sub (quM s m) (quM (hid k s) m) :=
 quM_least (okS_valid h) (quM_sub (okS_valid (hid_valid h)) m) (hid_cl h hk (quM_cl (s := hid k s) (okS_valid (hid_valid h)) hm))

theorem hid_co {m : Nat} (hm : m < 2 ^ s.1.toNat) (l : Int) : sub (coM s m l) (coM (hid k s) m (if l = k then 0 else l)) := by
 have hv := okS_valid h
 have hw := okS_valid (hid_valid (k := k) h)
 have hq := hid_qu h hk hm
 have hlt : quM (hid k s) m < 2 ^ s.1.toNat := quM_lt (s := hid k s) hw hm
 unfold coM
 by_cases h0 : l = 0
 ·have hne : ¬ l = k := fun e => hk (e.symm.trans h0)
  rw [if_pos h0, if_neg hne, if_pos h0]
  exact hq
 ·rw [if_neg h0]
  by_cases hlk : l = k
  ·rw [if_pos hlk, if_pos rfl, hlk]
   have hc := quM_cl (s := hid k s) hw hm
   exact quM_least hv (sub_trans (stM_mono hq) (sub_trans hid_k hc)) (hid_cl h hk hc)
  ·rw [if_neg hlk, if_neg h0]
   have hb := stM_lt (s := hid k s) hw (quM (hid k s) m) l
   have hb' := stM_lt hv (quM s m) l
   exact sub_trans (hid_qu h hk hb') (quM_mono (s := hid k s) hw (sub_trans (stM_mono hq) (hid_st hlk)) hb)

end

/-- What refines does so with a label hidden. -/
theorem hid_ref {c a : Sys} (hc : validB c = true) (ha : validB a = true) {k : Int} (hk : k ≠ 0) (h : refD c a) : refD (hid k c) (hid k a) := by
 obtain ⟨Q, h1, h2⟩ := h
 refine ⟨Q, fun x y hy => ?_, h2⟩
 obtain ⟨g1, g2, g3⟩ := h1 x y hy
 refine ⟨g1, g2, folB_iff.2 fun z hz he => ?_⟩
 obtain ⟨w, hw, rfl⟩ := hideL_mem.1 hz
 obtain ⟨j, j1, j2⟩ := folB_iff.1 g3 w hw he
 exact ⟨j, hid_co ha hk (Nat.pow_lt_pow_right (by omega) g2) w.2.1 j j1, j2⟩

end Go.Proofs.Ytifleoceebaooaa
