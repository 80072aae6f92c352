/-
  Layer 5, pure: where one comes, what is reached, and what has no step.
-/
import Derived.Test.YtifleoceebaooaaS17
import Derived.Test.YtifleoceebaooaaS5
namespace Go.Proofs.Ytifleoceebaooaa

set_option linter.unusedVariables false
set_option linter.unusedSimpArgs false
set_option linter.unusedSectionVars false
set_option maxRecDepth 100000
set_option maxHeartbeats 1000000

/-! ### Any steps -/

/-- A set with all states to which one step leads. -/
def clA (s : Sys) (q : Nat) : Prop := ∀ z ∈ s.2, q.testBit z.1.toNat = true → q.testBit z.2.2.toNat = true

/-- What the walk by any steps makes of what it has found. -/
structure Led2 (s : Sys) (a i r : Nat) : Prop where
  lt : r < 2 ^ s.1.toNat
  su : sub a r
  me : r.testBit i = true
  cl : ∀ x, r.testBit x = true → a.testBit x = false → ∀ z ∈ s.2, z.1.toNat = x → r.testBit z.2.2.toNat = true
  le : ∀ q, clA s q → sub a q → q.testBit i = true → sub r q

section
variable {s : Sys} (hv : OkS s)
include hv

/-- The states that are reached. -/
def rcS (s : Sys) (m l : Nat) : Nat := m ||| stM s m ((l : Nat) : Int)
def rcF (s : Sys) (a : Nat) : Nat := (List.range 4).foldl (rcS s) a
def rcM (s : Sys) : Nat := itr (rcF s) s.1.toNat 1

end

/-! ### What a library function deletes -/

/-! ### States that have no step -/

/-- A state has a step. -/
def goB (s : Sys) (x : Int) : Bool := s.2.any fun z => decide (z.1 = x)


/-! ### The law -/

def stuckL (s : Sys) : List Int := ((bitsL (rcM s)).map fun (i : Nat) => (i : Int)).filter fun x => !goB s x

section
variable {s : Sys} (ks : okZ s) (h : validB s = true)
include ks h

end

end Go.Proofs.Ytifleoceebaooaa
