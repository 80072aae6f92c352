/-
  Layer 7, pure: ways; ends; ProgressPaths answers true.
-/
import Derived.Test.YteclokkdgmacpaaU4
import Derived.Test.YteclokkdgmacpaaUtw
namespace Go.Proofs.Yteclokkdgmacpaa
open Go.RowKit

set_option linter.unusedVariables false
set_option linter.unusedSimpArgs false
set_option linter.unusedSectionVars false
set_option maxRecDepth 10000

/-- The first path that is found to a place. -/
def wayL (are : Mv → Bool) (g : Gr) (from0 to0 : Int) : Option (List Int) := ((found are g from0).find? fun y => decide (y.1 = to0)).map (·.2)

/-- What a search for a way answers. -/
def wayA (o : Option (List Int)) : List Int × Bool := match o with | some w => (w, true) | none => ([], false)

def wayR (g : Gr) (place : Int) : List Int × Int := if okG g = true then (if isB place g.1 = true then (match wayL any g 0 place with | some w => (w, 0) | none => ([], 5)) else ([], 2)) else ([], 70)

/-! ### The reference's search, layer by layer -/

structure RW (g : Gr) (s : PW) (there : List Bool) (ways : List (List Int)) : Prop where
  l1 : there.length = g.1.toNat
  l2 : ways.length = g.1.toNat
  t : ∀ q : Nat, q < g.1.toNat → there.getD q false = decide ((q : Int) ∈ s.1)
  w : ∀ (j : Nat) (p : Int) (u : List Int), s.1[j]? = some p → s.2[j]? = some u → ways.getD p.toNat [] = u

section
variable {g : Gr} (hg : GOK g)
include hg

end

end Go.Proofs.Yteclokkdgmacpaa
