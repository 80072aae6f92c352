/-
  Layer 5, pure: relations that prove that one system follows another one; a label hidden; a system without a step.
-/
import Derived.Test.YtifleoceebaooaaS2
namespace Go.Proofs.Ytifleoceebaooaa
open Go.RowKit

set_option linter.unusedVariables false
set_option linter.unusedSectionVars false
set_option linter.unusedSimpArgs false

/-- The set of the numbers below six that are so. -/
def setM (p : Nat → Bool) : Nat := (List.range 6).foldl (fun m y => if p y = true then m ||| 2 ^ y else m) 0

theorem setM_go (p : Nat → Bool) (j : Nat) : ∀ (l : List Nat) (a : Nat), (l.foldl (fun m y => if p y = true then m ||| 2 ^ y else m) a).testBit j = true ↔ a.testBit j = true ∨ j ∈ l ∧ p j = true
  | [], a => by simp
  | y :: l, a => by
    rw [List.foldl_cons, setM_go p j l]
    by_cases h : p y = true
    · rw [if_pos h, Nat.testBit_or, Bool.or_eq_true, Nat.testBit_two_pow, decide_eq_true_eq]
      constructor
      · rintro ((h1 | h1) | h1)
        · exact .inl h1
        · subst h1; exact .inr ⟨by simp, h⟩
        · exact .inr ⟨List.mem_cons_of_mem _ h1.1, h1.2⟩
      · rintro (h1 | ⟨h1, h2⟩)
        · exact .inl (.inl h1)
        · rcases List.mem_cons.1 h1 with rfl | h1
          · exact .inl (.inr rfl)
          · exact .inr ⟨h1, h2⟩
    · rw [if_neg h]
      constructor
      · rintro (h1 | h1)
        · exact .inl h1
        · exact .inr ⟨List.mem_cons_of_mem _ h1.1, h1.2⟩
      · rintro (h1 | ⟨h1, h2⟩)
        · exact .inl h1
        · rcases List.mem_cons.1 h1 with rfl | h1
          · exact absurd h2 h
          · exact .inr ⟨h1, h2⟩

theorem setM_bit {p : Nat → Bool} {j : Nat} : (setM p).testBit j = true ↔ j < 6 ∧ p j = true := by
  unfold setM
  rw [setM_go, List.mem_range]
  simp

theorem and_ne {a b : Nat} : a &&& b ≠ 0 ↔ ∃ j, a.testBit j = true ∧ b.testBit j = true := by
  constructor
  · intro h
    obtain ⟨j, hj⟩ := ne_zero_bit h
    rw [Nat.testBit_and, Bool.and_eq_true] at hj
    exact ⟨j, hj⟩
  · rintro ⟨j, h1, h2⟩ h
    have : (a &&& b).testBit j = true := by rw [Nat.testBit_and, h1, h2]; rfl
    rw [h] at this
    simp at this

/-- Whether y follows each step of x to a pair. -/
def folB (c a : Sys) (R : Nat → Nat) (x y : Nat) : Bool := c.2.all fun z => !decide (z.1 = (x : Int)) || !decide (coM a (2 ^ y) z.2.1 &&& R z.2.2.toNat = 0)

theorem folB_iff {c a : Sys} {R : Nat → Nat} {x y : Nat} : folB c a R x y = true ↔ ∀ z ∈ c.2, z.1 = (x : Int) → ∃ j, (coM a (2 ^ y) z.2.1).testBit j = true ∧ (R z.2.2.toNat).testBit j = true := by
  unfold folB
  rw [List.all_eq_true]
  constructor
  · intro h z hz h1
    have := h z hz
    rw [Bool.or_eq_true, Bool.not_eq_true', decide_eq_false_iff_not, Bool.not_eq_true', decide_eq_false_iff_not] at this
    rcases this with this | this
    · exact absurd h1 this
    · exact and_ne.1 this
  · intro h z hz
    rw [Bool.or_eq_true, Bool.not_eq_true', decide_eq_false_iff_not, Bool.not_eq_true', decide_eq_false_iff_not]
    by_cases h1 : z.1 = (x : Int)
    · exact .inr (and_ne.2 (h z hz h1))
    · exact .inl h1

def heldR (c a : Sys) (R : Nat → Nat) (x : Nat) : Nat := setM fun y => (R x).testBit y && folB c a R x y

/-- A relation that proves. -/
def Sim (c a : Sys) (Q : Nat → Nat) : Prop := ∀ x y, (Q x).testBit y = true → x < c.1.toNat ∧ y < a.1.toNat ∧ folB c a Q x y = true

theorem folB_mono {c a : Sys} {Q R : Nat → Nat} (h : ∀ x, sub (Q x) (R x)) {x y : Nat} (hq : folB c a Q x y = true) : folB c a R x y = true := by
  rw [folB_iff] at hq ⊢
  intro z hz h1
  obtain ⟨j, h2, h3⟩ := hq z hz h1
  exact ⟨j, h2, h _ j h3⟩

theorem held_keeps {c a : Sys} (ha : a.1 ≤ 6) {Q R : Nat → Nat} (hQ : Sim c a Q) (h : ∀ x, sub (Q x) (R x)) : ∀ x, sub (Q x) (heldR c a R x) := fun x y hy => by
  obtain ⟨_, h2, h3⟩ := hQ x y hy
  unfold heldR
  rw [setM_bit, Bool.and_eq_true]
  exact ⟨by omega, h x y hy, folB_mono h h3⟩

def refD (c a : Sys) : Prop := ∃ Q : Nat → Nat, Sim c a Q ∧ (Q 0).testBit 0 = true

theorem come_step {s : Sys} (hv : OkS s) {z : Stp} (hz : z ∈ s.2) : (coM s (2 ^ z.1.toNat) z.2.1).testBit z.2.2.toNat = true := by
  have hs := hv.st z hz
  have h2 : 2 ^ z.1.toNat < 2 ^ s.1.toNat := Nat.pow_lt_pow_right (by omega) (by omega)
  have hq : (quM s (2 ^ z.1.toNat)).testBit z.1.toNat = true := one_sub.1 (quM_sub hv _)
  unfold coM
  by_cases h : z.2.1 = 0
  · rw [if_pos h]
    exact quM_cl hv h2 _ (stM_bit.2 ⟨z, hz, h, hq, rfl⟩)
  · rw [if_neg h]
    exact quM_sub hv _ _ (stM_bit.2 ⟨z, hz, rfl, hq, rfl⟩)

/-! ### A label hidden -/

def hideZ (k : Int) (z : Stp) : Stp := (z.1, if z.2.1 = k then 0 else z.2.1, z.2.2)
def hideF (k : Int) (L : List Stp) (z : Stp) : List Stp := if hideZ k z ∈ L then L else L ++ [hideZ k z]
def hideL (k : Int) (l : List Stp) : List Stp := l.foldl (hideF k) []

theorem nd_inj {l : List Stp} (h : l.Nodup) {i j : Nat} {y : Stp} (hi : l[i]? = some y) (hj : l[j]? = some y) : i = j := by
  obtain ⟨hi', e1⟩ := List.getElem?_eq_some_iff.1 hi
  obtain ⟨hj', e2⟩ := List.getElem?_eq_some_iff.1 hj
  unfold List.Nodup at h
  rw [List.pairwise_iff_getElem] at h
  rcases Nat.lt_trichotomy i j with hlt | rfl | hlt
  · exact absurd (e1.trans e2.symm) (h i j hi' hj' hlt)
  · rfl
  · exact absurd (e2.trans e1.symm) (h j i hj' hi' hlt)

theorem validB_of {s : Sys} (h1 : 1 ≤ s.1) (h2 : s.1 ≤ 6) (h3 : s.2.length ≤ 24) (h4 : ∀ z ∈ s.2, (0 ≤ z.1 ∧ z.1 < s.1) ∧ (0 ≤ z.2.1 ∧ z.2.1 ≤ 3) ∧ 0 ≤ z.2.2 ∧ z.2.2 < s.1) (h5 : s.2.Nodup) : validB s = true := by
  unfold validB
  rw [Bool.and_eq_true, decide_eq_true_eq, allB_iff]
  refine ⟨⟨h1, h2, h3⟩, fun k hk => ?_⟩
  have hz : s.2[k]? = some (s.2.getD k (0, 0, 0)) := by rw [List.getD_eq_getElem?_getD, List.getElem?_eq_getElem hk]; rfl
  rw [Bool.and_eq_true, Bool.not_eq_true', decide_eq_false_iff_not]
  refine ⟨stepB_iff.2 (h4 _ (List.mem_of_getElem? hz)), fun hm => ?_⟩
  obtain ⟨j, hj⟩ := List.getElem?_of_mem hm
  have hjl := (List.getElem?_eq_some_iff.1 hj).1
  rw [List.length_take] at hjl
  rw [List.getElem?_take, if_pos (by omega)] at hj
  have := nd_inj h5 hj hz
  omega

def hid (k : Int) (s : Sys) : Sys := (s.1, hideL k s.2)

section
variable {s : Sys} (h : validB s = true) {k : Int} (hk : k ≠ 0)
include h hk

end

end Go.Proofs.Ytifleoceebaooaa
