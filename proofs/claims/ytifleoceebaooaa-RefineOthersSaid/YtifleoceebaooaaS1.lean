/-
  Layer 5, pure: sets of states as numbers, and what the bits say.
-/
import Derived.Test.YtifleoceebaooaaGk
import Derived.Test.YtifleoceebaooaaTyr
namespace Go.Proofs.Ytifleoceebaooaa
open Go.RowKit

set_option linter.unusedVariables false
set_option linter.unusedSimpArgs false
set_option maxRecDepth 100000

/-! ### Bits -/

/-! ### Sets -/

/-- All of the one are in the other one. -/
def sub (a b : Nat) : Prop := ∀ i, a.testBit i = true → b.testBit i = true
/-- How many are in a set of six. -/
def cnt (a : Nat) : Nat := (List.range 6).countP a.testBit

/-! ### What grows comes to rest -/

def itr (f : Nat → Nat) : Nat → Nat → Nat
  | 0, a => a
  | k + 1, a => f (itr f k a)

end Go.Proofs.Ytifleoceebaooaa
