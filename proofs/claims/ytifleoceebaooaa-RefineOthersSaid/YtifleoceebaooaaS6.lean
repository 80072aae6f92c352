/-
  Layer 5, pure: relations that prove that one system follows another one; a label hidden; a system without a step.
-/
import Derived.Test.YtifleoceebaooaaS2
namespace Go.Proofs.Ytifleoceebaooaa
open Go.RowKit

set_option linter.unusedVariables false
set_option linter.unusedSectionVars false
set_option linter.unusedSimpArgs false

/-- The set of the numbers below six that are so. -/
def setM (p : Nat → Bool) : Nat := (List.range 6).foldl (fun m y => if p y = true then m ||| 2 ^ y else m) 0

/-- Whether y follows each step of x to a pair. -/
def folB (c a : Sys) (R : Nat → Nat) (x y : Nat) : Bool := c.2.all fun z => !decide (z.1 = (x : Int)) || !decide (coM a (2 ^ y) z.2.1 &&& R z.2.2.toNat = 0)

def heldR (c a : Sys) (R : Nat → Nat) (x : Nat) : Nat := setM fun y => (R x).testBit y && folB c a R x y

/-- A relation that proves. -/
def Sim (c a : Sys) (Q : Nat → Nat) : Prop := ∀ x y, (Q x).testBit y = true → x < c.1.toNat ∧ y < a.1.toNat ∧ folB c a Q x y = true

def refD (c a : Sys) : Prop := ∃ Q : Nat → Nat, Sim c a Q ∧ (Q 0).testBit 0 = true

/-! ### A label hidden -/

def hideZ (k : Int) (z : Stp) : Stp := (z.1, if z.2.1 = k then 0 else z.2.1, z.2.2)
def hideF (k : Int) (L : List Stp) (z : Stp) : List Stp := if hideZ k z ∈ L then L else L ++ [hideZ k z]
def hideL (k : Int) (l : List Stp) : List Stp := l.foldl (hideF k) []

theorem hide_go (k : Int) : ∀ (l L : List Stp), L.Nodup → (l.foldl (hideF k) L).Nodup ∧ (∀ y, y ∈ l.foldl (hideF k) L ↔ y ∈ L ∨ ∃ z ∈ l, hideZ k z = y) ∧ (l.foldl (hideF k) L).length ≤ L.length + l.length
  | [], L, h => ⟨h, fun y => by simp, by simp⟩
  | z :: l, L, h => by
    have h1 : (hideF k L z).Nodup := by
      unfold hideF
      split
      · exact h
      · rename_i hn
        rw [List.nodup_append]
        refine ⟨h, by simp, fun a ha b hb e => ?_⟩
        simp at hb; subst hb e; exact hn ha
    have h2 : ∀ y, y ∈ hideF k L z ↔ y ∈ L ∨ hideZ k z = y := fun y => by
      unfold hideF
      split
      · rename_i hm
        constructor
        · exact .inl
        · rintro (h | h)
          · exact h
          · rw [← h]; exact hm
      · rw [List.mem_append, List.mem_singleton]
        constructor
        · rintro (h | h)
          · exact .inl h
          · exact .inr h.symm
        · rintro (h | h)
          · exact .inl h
          · exact .inr h.symm
    have h3 : (hideF k L z).length ≤ L.length + 1 := by
      unfold hideF
      split
      · omega
      · simp
    obtain ⟨g1, g2, g3⟩ := hide_go k l (hideF k L z) h1
    rw [List.foldl_cons]
    refine ⟨g1, fun y => ?_, by rw [List.length_cons]; omega⟩
    rw [g2, h2]
    constructor
    · rintro ((h | h) | ⟨y', h, e⟩)
      · exact .inl h
      · exact .inr ⟨z, by simp, h⟩
      · exact .inr ⟨y', List.mem_cons_of_mem _ h, e⟩
    · rintro (h | ⟨y', h, e⟩)
      · exact .inl (.inl h)
      · rcases List.mem_cons.1 h with rfl | h
        · exact .inl (.inr e)
        · exact .inr ⟨y', h, e⟩

theorem hideL_nd (k : Int) (l : List Stp) : (hideL k l).Nodup := (hide_go k l [] (by simp)).1
theorem hideL_mem {k : Int} {l : List Stp} {y : Stp} : y ∈ hideL k l ↔ ∃ z ∈ l, hideZ k z = y := by
  have := (hide_go k l [] (by simp)).2.1 y
  unfold hideL; rw [this]; simp
theorem hideL_len (k : Int) (l : List Stp) : (hideL k l).length ≤ l.length := by
  have := (hide_go k l [] (by simp)).2.2
  unfold hideL; simpa using this

theorem nd_inj {l : List Stp} (h : l.Nodup) {i j : Nat} {y : Stp} (hi : l[i]? = some y) (hj : l[j]? = some y) : i = j := by
  obtain ⟨hi', e1⟩ := List.getElem?_eq_some_iff.1 hi
  obtain ⟨hj', e2⟩ := List.getElem?_eq_some_iff.1 hj
  unfold List.Nodup at h
  rw [List.pairwise_iff_getElem] at h
  rcases Nat.lt_trichotomy i j with hlt | rfl | hlt
  · exact absurd (e1.trans e2.symm) (h i j hi' hj' hlt)
  · rfl
  · exact absurd (e2.trans e1.symm) (h j i hj' hi' hlt)

theorem validB_of {s : Sys} (h1 : 1 ≤ s.1) (h2 : s.1 ≤ 6) (h3 : s.2.length ≤ 24) (h4 : ∀ z ∈ s.2, (0 ≤ z.1 ∧ z.1 < s.1) ∧ (0 ≤ z.2.1 ∧ z.2.1 ≤ 3) ∧ 0 ≤ z.2.2 ∧ z.2.2 < s.1) (h5 : s.2.Nodup) : validB s = true := by
  unfold validB
  rw [Bool.and_eq_true, decide_eq_true_eq, allB_iff]
  refine ⟨⟨h1, h2, h3⟩, fun k hk => ?_⟩
  have hz : s.2[k]? = some (s.2.getD k (0, 0, 0)) := by rw [List.getD_eq_getElem?_getD, List.getElem?_eq_getElem hk]; rfl
  rw [Bool.and_eq_true, Bool.not_eq_true', decide_eq_false_iff_not]
  refine ⟨stepB_iff.2 (h4 _ (List.mem_of_getElem? hz)), fun hm => ?_⟩
  obtain ⟨j, hj⟩ := List.getElem?_of_mem hm
  have hjl := (List.getElem?_eq_some_iff.1 hj).1
  rw [List.length_take] at hjl
  rw [List.getElem?_take, if_pos (by omega)] at hj
  have := nd_inj h5 hj hz
  omega

theorem valid_nd {s : Sys} (h : validB s = true) : s.2.Nodup := by
  unfold validB at h
  rw [Bool.and_eq_true, decide_eq_true_eq, allB_iff] at h
  unfold List.Nodup
  rw [List.pairwise_iff_getElem]
  intro i j hi hj hij e
  have := h.2 j hj
  rw [Bool.and_eq_true, Bool.not_eq_true', decide_eq_false_iff_not] at this
  refine this.2 (List.mem_of_getElem? (i := i) ?_)
  rw [List.getElem?_take, if_pos hij, List.getD_eq_getElem?_getD, List.getElem?_eq_getElem hj, List.getElem?_eq_getElem hi, e]
  rfl

def hid (k : Int) (s : Sys) : Sys := (s.1, hideL k s.2)

theorem hid_valid {s : Sys} {k : Int} (h : validB s = true) : validB (hid k s) = true := by
  have hv := okS_valid h
  refine validB_of hv.lo hv.hi (Nat.le_trans (hideL_len k s.2) hv.len) (fun z hz => ?_) (hideL_nd k s.2)
  obtain ⟨y, hy, rfl⟩ := hideL_mem.1 hz
  have := hv.st y hy
  refine ⟨this.1, ?_, this.2.2⟩
  unfold hideZ
  simp only
  split
  · omega
  · exact this.2.1

section
variable {s : Sys} (h : validB s = true) {k : Int} (hk : k ≠ 0)
include h hk

end

end Go.Proofs.Ytifleoceebaooaa
