/-
  Layer 5, pure: the pairs of the greatest proof that are needed, by the program's walk and by the reference's rounds.
-/
import Derived.Test.YtifleoceebaooaaS18
namespace Go.Proofs.Ytifleoceebaooaa

set_option linter.unusedVariables false
set_option linter.unusedSimpArgs false
set_option linter.unusedSectionVars false
set_option maxRecDepth 100000
set_option maxHeartbeats 1000000

/-- The least state of a set. -/
def lst (m : Nat) : Nat := (bitsL m).getD 0 0

section
variable (c a : Sys) (P : Nat → Nat)
/-- The state with which a step is followed. -/
def nxt (y : Nat) (z : Stp) : Nat := lst (coM a (2 ^ y) z.2.1 &&& P z.2.2.toNat)
/-- With a pair all that it needs is there. -/
def Clo (C : Nat → Nat) : Prop := ∀ i j, (C i).testBit j = true → ∀ z ∈ c.2, z.1 = (i : Int) → (C z.2.2.toNat).testBit (nxt a P j z) = true
end

section
variable {c a : Sys} {P : Nat → Nat} (hc : OkS c) (ha : OkS a) (hP : Sim c a P) (h64 : ∀ x, P x < 64)
include hc ha hP h64

omit hc ha hP h64 in
/-- What the walk makes of what it has found. -/
structure Need (c a : Sys) (P A : Nat → Nat) (x y : Nat) (R : Nat → Nat) : Prop where
  inP : ∀ i, sub (R i) (P i)
  su : ∀ i, sub (A i) (R i)
  me : (R x).testBit y = true
  cl : ∀ i j, (R i).testBit j = true → (A i).testBit j = false → ∀ z ∈ c.2, z.1 = (i : Int) → (R z.2.2.toNat).testBit (nxt a P j z) = true
  le : ∀ C, Clo c a P C → (∀ i, sub (A i) (C i)) → (C x).testBit y = true → ∀ i, sub (R i) (C i)

variable {Tc Ta : El T69} (hT : Frm a Ta) {Tb : El T94} (hB : Rep Tb P)
include hT hB

end

/-- The pairs that are needed. -/
noncomputable def nP (c a : Sys) (x : Nat) : Nat := setM fun y => @decide (∀ C, Clo c a (gP c a) C → (C 0).testBit 0 = true → (C x).testBit y = true) (Classical.propDecidable _)

section
variable {c a : Sys} {Tc Ta : El T69} (hc : OkS c) (ha : OkS a) (hT : Frm a Ta)
include hc ha hT

end

/-! ### The reference's rounds -/

/-- What a round of the reference keeps. -/
structure Own (c a : Sys) (O0 O : Nat → Nat) : Prop where
  inP : ∀ i, sub (O i) (gP c a i)
  su : ∀ i, sub (O0 i) (O i)
  le : ∀ C, Clo c a (gP c a) C → (C 0).testBit 0 = true → ∀ i, sub (O i) (C i)

section
variable {c a : Sys} (hc : OkS c) (ha : OkS a) {all : List Int} (hA : RepL c.1.toNat all (gP c a))
include hc ha hA

end

theorem Refines_is {c a : Sys} (kc : okZ c) (ka : okZ a) (hc : validB c = true) (ha : validB a = true) : refine_Refines c a = some ((gP c a 0).testBit 0, 0) := by
  obtain ⟨b, e, hb⟩ := Refines_eq kc ka hc ha
  rw [e]
  have : b = (gP c a 0).testBit 0 := by
    rw [Bool.eq_iff_iff, hb, refD_gP (okS_valid ha)]
  rw [this]

theorem relK_few (R : Nat → Nat) : few (relK R 6) := few_of (relK_len R 6)
theorem relK_six {R : Nat → Nat} : ∀ p ∈ relK R 6, p.1 < 6 ∧ p.2 < 6 := fun p hp => ⟨(relK_mem.1 hp).1, (relK_mem.1 hp).2.1⟩
end Go.Proofs.Ytifleoceebaooaa
