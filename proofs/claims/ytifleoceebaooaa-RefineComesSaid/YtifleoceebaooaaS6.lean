/-
  Layer 5, pure: relations that prove that one system follows another one; a label hidden; a system without a step.
-/
import Derived.Test.YtifleoceebaooaaS2
namespace Go.Proofs.Ytifleoceebaooaa
open Go.RowKit

set_option linter.unusedVariables false
set_option linter.unusedSectionVars false
set_option linter.unusedSimpArgs false

/-- The set of the numbers below six that are so. -/
def setM (p : Nat → Bool) : Nat := (List.range 6).foldl (fun m y => if p y = true then m ||| 2 ^ y else m) 0

/-- Whether y follows each step of x to a pair. -/
def folB (c a : Sys) (R : Nat → Nat) (x y : Nat) : Bool := c.2.all fun z => !decide (z.1 = (x : Int)) || !decide (coM a (2 ^ y) z.2.1 &&& R z.2.2.toNat = 0)

def heldR (c a : Sys) (R : Nat → Nat) (x : Nat) : Nat := setM fun y => (R x).testBit y && folB c a R x y

/-- A relation that proves. -/
def Sim (c a : Sys) (Q : Nat → Nat) : Prop := ∀ x y, (Q x).testBit y = true → x < c.1.toNat ∧ y < a.1.toNat ∧ folB c a Q x y = true

def refD (c a : Sys) : Prop := ∃ Q : Nat → Nat, Sim c a Q ∧ (Q 0).testBit 0 = true

/-! ### A label hidden -/

def hideZ (k : Int) (z : Stp) : Stp := (z.1, if z.2.1 = k then 0 else z.2.1, z.2.2)
def hideF (k : Int) (L : List Stp) (z : Stp) : List Stp := if hideZ k z ∈ L then L else L ++ [hideZ k z]
def hideL (k : Int) (l : List Stp) : List Stp := l.foldl (hideF k) []

def hid (k : Int) (s : Sys) : Sys := (s.1, hideL k s.2)

section
variable {s : Sys} (h : validB s = true) {k : Int} (hk : k ≠ 0)
include h hk

end

end Go.Proofs.Ytifleoceebaooaa
