/-
  Layer 7, pure: the places that are reached, and those from which no move leads.
-/
import Derived.Test.YteclokkdgmacpaaU3
namespace Go.Proofs.Yteclokkdgmacpaa
open Go.RowKit

set_option linter.unusedVariables false
set_option linter.unusedSimpArgs false
set_option linter.unusedSectionVars false
set_option maxRecDepth 10000

/-- The first k numbers ascend. -/
def ascK (k : Nat) (l : List Int) : Prop := ∀ p q, p < q → q < k → l.getD p 0 ≤ l.getD q 0

/-! ### Reached places -/

/-- A place is reached from 0. -/
abbrev R0 (g : Gr) (p : Int) : Prop := rch any g 0 p
def reachL (g : Gr) : List Int := srt (srch any g 0).1

/-! ### The reference's places -/

def rStep (g : Gr) (b : List Bool) (k : Nat) : List Bool := b.set (g.2.getD k (0, 0, 0, false)).2.2.1.toNat (b.getD (g.2.getD k (0, 0, 0, false)).2.2.1.toNat false || b.getD (g.2.getD k (0, 0, 0, false)).1.toNat false)
def rRnd (g : Gr) (b : List Bool) : List Bool := (List.range g.2.length).foldl (rStep g) b

section
variable {g : Gr} (hg : GOK g)
include hg

/-- After n rounds. -/
def rRnds (g : Gr) : Nat → List Bool
  | 0 => (List.replicate g.1.toNat false).set 0 true
  | n + 1 => rRnd g (rRnds g n)

/-- Whether each place is reached. -/
def thereL (g : Gr) : List Bool := rRnds g g.1.toNat
end

end Go.Proofs.Yteclokkdgmacpaa
