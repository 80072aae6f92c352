/-
  Layer 5, pure: the relation that the program keeps, what it holds, and that what rests of it is the greatest one that proves.
-/
import Derived.Test.YtifleoceebaooaaS5
import Derived.Test.YtifleoceebaooaaS6
namespace Go.Proofs.Ytifleoceebaooaa
open Go.RowKit

set_option linter.unusedVariables false
set_option linter.unusedSectionVars false
set_option linter.unusedSimpArgs false

/-- What the array holds. -/
structure Rep (T : El T94) (R : Nat → Nat) : Prop where
  has : ∀ i, i < 6 → intAt T94 T i = ((R i : Nat) : Int)
  lt : ∀ i, R i < 64
  out : ∀ i, 6 ≤ i → R i = 0

/-! ### Its pairs -/

def relK (R : Nat → Nat) (k : Nat) : List (Nat × Nat) := (List.range k).flatMap fun i => (bitsL (R i)).map fun j => (i, j)
def pin (p : Nat × Nat) : Int × Int := ((p.1 : Int), (p.2 : Int))

/-! ### What follows, what is held -/

section
variable {c a : Sys} {Tc Ta : El T69} (hc : OkS c) (ha : OkS a) (hT : Frm a Ta)
include hc ha hT

def full (c a : Sys) (x : Nat) : Nat := if x < c.1.toNat then 2 ^ a.1.toNat - 1 else 0

/-- How much there is in it. -/
def mu (P : Nat → Nat) : Nat := cnt (P 0) + cnt (P 1) + cnt (P 2) + cnt (P 3) + cnt (P 4) + cnt (P 5)

end

end Go.Proofs.Ytifleoceebaooaa
