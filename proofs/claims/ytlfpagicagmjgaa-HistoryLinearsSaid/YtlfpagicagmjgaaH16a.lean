/-
  Layer 2, pure: IsOrder of both sides.
-/
import Derived.Test.YtlfpagicagmjgaaH15
namespace Go.Proofs.Ytlfpagicagmjgaa
open Go.RowKit

set_option linter.unusedVariables false
set_option linter.unusedSimpArgs false
set_option maxRecDepth 10000

def isOrd (specs : List Tup) (h : List HC6) (l : List Int) : Bool := ordB h l && (keepB bef h l && alwL specs h (0, 0) l)

end Go.Proofs.Ytlfpagicagmjgaa
