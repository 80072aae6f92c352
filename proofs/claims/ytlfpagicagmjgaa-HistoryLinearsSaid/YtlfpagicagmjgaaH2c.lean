/-
  Layer 2, pure: check.
-/
import Derived.Test.YtlfpagicagmjgaaH2a
namespace Go.Proofs.Ytlfpagicagmjgaa
open Go.RowKit

set_option linter.unusedVariables false
set_option linter.unusedSimpArgs false
set_option maxRecDepth 10000

end Go.Proofs.Ytlfpagicagmjgaa
