/-
  Layer 2, pure: the reference's list of states.
-/
import Derived.Test.YtlfpagicagmjgaaH5a
namespace Go.Proofs.Ytlfpagicagmjgaa
open Go.RowKit

set_option linter.unusedVariables false
set_option linter.unusedSimpArgs false
set_option maxRecDepth 10000

/-- What holds of the states' list. -/
def tabI (specs : List Tup) (tb : List Int) (s : Int × Int) : Prop := tb.length = specs.length ∧ ∀ i : Int, 0 ≤ i → i < (specs.length : Int) → tb.getD i.toNat 0 = stOf s i

end Go.Proofs.Ytlfpagicagmjgaa
