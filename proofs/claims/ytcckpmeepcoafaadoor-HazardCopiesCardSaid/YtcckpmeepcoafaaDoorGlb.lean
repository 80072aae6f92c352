/-
  What the package's variables hold that nobody writes: the table of how many fields each deed has.
-/
import Derived.CallsIn
namespace Go.Proofs.YtcckpmeepcoafaaDoor

def fieldsL : List Int := [0, 1, 3, 2, 2, 1, 2]
/-- Variables, by their blocks, and what their cells hold. -/
def globs : List (Nat × List Int) := [(0, fieldsL)]

end Go.Proofs.YtcckpmeepcoafaaDoor
