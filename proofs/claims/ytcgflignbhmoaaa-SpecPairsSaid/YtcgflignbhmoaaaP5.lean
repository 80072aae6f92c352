/-
  Layer 1, pure: states that are the same, classes; the word of two states.
-/
import Derived.Test.YtcgflignbhmoaaaP4
import Derived.Test.YtcgflignbhmoaaaMb
namespace Go.Proofs.Ytcgflignbhmoaaa
open Go.RowKit

set_option linter.unusedVariables false
set_option linter.unusedSimpArgs false

/-- Two states are the same. -/
def sameB (s : Tup) (a b : Int) : Bool := (apartP (toSp s) (toSp s) (a, b)).isNone

/-! ### Classes -/

/-- The least state that is the same. -/
def leastF (s : Tup) (i : Nat) : Nat := ((List.range i).find? fun (j : Nat) => sameB s j i).getD i

/-- The classes. -/
def clsL (s : Tup) : List Int := (List.range s.1.toNat).map fun i => (leastF s i : Int)

end Go.Proofs.Ytcgflignbhmoaaa
