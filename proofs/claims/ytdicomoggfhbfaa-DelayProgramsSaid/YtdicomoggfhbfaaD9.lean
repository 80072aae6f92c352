/-
  The pairs that are needed, as the reference finds them; a circle that has a pair; DelayCircles.
-/
import Derived.Test.YtdicomoggfhbfaaD8
namespace Go.Proofs.Ytdicomoggfhbfaa
open Go.RowKit Go.Maps

set_option linter.unusedVariables false
set_option linter.unusedSimpArgs false

end Go.Proofs.Ytdicomoggfhbfaa
