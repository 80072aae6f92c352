/-
  Layer 1, pure: the law about ways.
-/
import Derived.Test.YtcgflignbhmoaaaP7
namespace Go.Proofs.Ytcgflignbhmoaaa
open Go.RowKit

set_option linter.unusedVariables false
set_option linter.unusedSimpArgs false

end Go.Proofs.Ytcgflignbhmoaaa
