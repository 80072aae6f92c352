/-
  Layer 3, pure: exchanges and paths.
-/
import Derived.Test.YtabchabbdnhjpaaV13
namespace Go.Proofs.Ytabchabbdnhjpaa
open Go.RowKit

set_option linter.unusedVariables false
set_option linter.unusedSimpArgs false
set_option maxRecDepth 10000

variable {l : Ltr}

/-- A path, gone from a word. -/
def runP (l : Ltr) : List Int → List Int → Option (List Int)
  | [], w => some w
  | z :: ps, w => if canX l w z = true then runP l ps (swp w z) else none

/-- The places from p + k - 1 down to p. -/
def bub (p : Nat) : Nat → List Int
  | 0 => []
  | k + 1 => ((p + k : Nat) : Int) :: bub p k
def tri : Nat → Nat
  | 0 => 0
  | n + 1 => tri n + n

/-! ### Parity -/

def below (a : Int) (w : List Int) : Int := (w.filter fun b => decide (b < a)).length
/-- How many pairs of a word are not in order. -/
def invs : List Int → Int
  | [] => 0
  | a :: r => below a r + invs r

end Go.Proofs.Ytabchabbdnhjpaa
