/-
  Layer 7, pure: the program's iterator over paths yields what the search finds.
-/
import Derived.Test.YteclokkdgmacpaaU2
namespace Go.Proofs.Yteclokkdgmacpaa
open Go.RowKit

set_option linter.unusedVariables false
set_option linter.unusedSimpArgs false
set_option linter.unusedSectionVars false
set_option maxRecDepth 10000

/-! ### The kinds of moves -/

def any (_ : Mv) : Bool := true
def k0 (m : Mv) : Bool := !m.2.2.2
def own (t : Int) (m : Mv) : Bool := decide (m.2.1 = t) && !m.2.2.2
def notOwn (t : Int) (m : Mv) : Bool := !decide (m.2.1 = t) || !m.2.2.2

section
variable {are : Mv → Bool} {g : Gr} (hg : GOK g) {from0 : Int}
include hg

end

/-- The places, each with its path. -/
def found (are : Mv → Bool) (g : Gr) (from0 : Int) : List (Int × List Int) := (srch are g from0).1.zip (srch are g from0).2

end Go.Proofs.Yteclokkdgmacpaa
