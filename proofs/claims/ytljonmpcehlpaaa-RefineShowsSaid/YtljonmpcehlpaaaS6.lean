/-
  Layer 5, pure: relations that prove that one system follows another one; a label hidden; a system without a step.
-/
import Derived.Test.YtljonmpcehlpaaaS2
namespace Go.Proofs.Ytljonmpcehlpaaa
open Go.RowKit

set_option linter.unusedVariables false
set_option linter.unusedSectionVars false
set_option linter.unusedSimpArgs false

/-- The set of the numbers below six that are so. -/
def setM (p : Nat → Bool) : Nat := (List.range 6).foldl (fun m y => if p y = true then m ||| 2 ^ y else m) 0

/-- Whether y follows each step of x to a pair. -/
def folB (c a : Sys) (R : Nat → Nat) (x y : Nat) : Bool := c.2.all fun z => !decide (z.1 = (x : Int)) || !decide (coM a (2 ^ y) z.2.1 &&& R z.2.2.toNat = 0)

def heldR (c a : Sys) (R : Nat → Nat) (x : Nat) : Nat := setM fun y => (R x).testBit y && folB c a R x y

/-- A relation that proves. -/
def Sim (c a : Sys) (Q : Nat → Nat) : Prop := ∀ x y, (Q x).testBit y = true → x < c.1.toNat ∧ y < a.1.toNat ∧ folB c a Q x y = true

def refD (c a : Sys) : Prop := ∃ Q : Nat → Nat, Sim c a Q ∧ (Q 0).testBit 0 = true

/-! ### A label hidden -/

def hideZ (k : Int) (z : Stp) : Stp := (z.1, if z.2.1 = k then 0 else z.2.1, z.2.2)
def hideF (k : Int) (L : List Stp) (z : Stp) : List Stp := if hideZ k z ∈ L then L else L ++ [hideZ k z]
def hideL (k : Int) (l : List Stp) : List Stp := l.foldl (hideF k) []

theorem nd_inj {l : List Stp} (h : l.Nodup) {i j : Nat} {y : Stp} (hi : l[i]? = some y) (hj : l[j]? = some y) : i = j := by
  obtain ⟨hi', e1⟩ := List.getElem?_eq_some_iff.1 hi
  obtain ⟨hj', e2⟩ := List.getElem?_eq_some_iff.1 hj
  unfold List.Nodup at h
  rw [List.pairwise_iff_getElem] at h
  rcases Nat.lt_trichotomy i j with hlt | rfl | hlt
  · exact absurd (e1.trans e2.symm) (h i j hi' hj' hlt)
  · rfl
  · exact absurd (e2.trans e1.symm) (h j i hj' hi' hlt)

theorem validB_of {s : Sys} (h1 : 1 ≤ s.1) (h2 : s.1 ≤ 6) (h3 : s.2.length ≤ 24) (h4 : ∀ z ∈ s.2, (0 ≤ z.1 ∧ z.1 < s.1) ∧ (0 ≤ z.2.1 ∧ z.2.1 ≤ 3) ∧ 0 ≤ z.2.2 ∧ z.2.2 < s.1) (h5 : s.2.Nodup) : validB s = true := by
  unfold validB
  rw [Bool.and_eq_true, decide_eq_true_eq, allB_iff]
  refine ⟨⟨h1, h2, h3⟩, fun k hk => ?_⟩
  have hz : s.2[k]? = some (s.2.getD k (0, 0, 0)) := by rw [List.getD_eq_getElem?_getD, List.getElem?_eq_getElem hk]; rfl
  rw [Bool.and_eq_true, Bool.not_eq_true', decide_eq_false_iff_not]
  refine ⟨stepB_iff.2 (h4 _ (List.mem_of_getElem? hz)), fun hm => ?_⟩
  obtain ⟨j, hj⟩ := List.getElem?_of_mem hm
  have hjl := (List.getElem?_eq_some_iff.1 hj).1
  rw [List.length_take] at hjl
  rw [List.getElem?_take, if_pos (by omega)] at hj
  have := nd_inj h5 hj hz
  omega

def hid (k : Int) (s : Sys) : Sys := (s.1, hideL k s.2)

section
variable {s : Sys} (h : validB s = true) {k : Int} (hk : k ≠ 0)
include h hk

end

end Go.Proofs.Ytljonmpcehlpaaa
