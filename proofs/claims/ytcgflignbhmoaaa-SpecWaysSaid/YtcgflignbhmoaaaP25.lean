/-
  Layer 1, pure: the reference's word, which goes down the table, is the first of all words that tell.
-/
import Derived.Test.YtcgflignbhmoaaaP16
import Derived.Test.YtcgflignbhmoaaaP20
import Derived.Test.YtcgflignbhmoaaaP24
namespace Go.Proofs.Ytcgflignbhmoaaa
open Go.RowKit

set_option linter.unusedVariables false
set_option linter.unusedSectionVars false
set_option linter.unusedSimpArgs false

/-- A call that goes down the table, or tells at once. -/
def dnB (s t : Tup) (N a b k o : Nat) : Bool := if k = 1 then decide (at2 s.2.2.2 a o ≠ at2 t.2.2.2 b o) else decide (dF s t N (nxN s a o) (nxN t b o) = (k : Int) - 1)
def gop (s t : Tup) (N a b k : Nat) : Nat := ((List.range s.2.1.toNat).find? (dnB s t N a b k)).getD 0
def tolW (s t : Tup) (N : Nat) : Nat → Nat → Nat → List Int
  | 0, _, _ => []
  | k + 1, a, b => (gop s t N a b (k + 1) : Int) :: tolW s t N k (nxN s a (gop s t N a b (k + 1))) (nxN t b (gop s t N a b (k + 1)))

section
variable {s t : Tup} (hv : (toSp s).ok = true) (hw : (toSp t).ok = true) (hop : s.2.1 = t.2.1)
include hv hw hop

end
end Go.Proofs.Ytcgflignbhmoaaa
