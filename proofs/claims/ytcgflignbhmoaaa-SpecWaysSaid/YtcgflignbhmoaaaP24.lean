/-
  Layer 1, pure: the word that tells two states apart is the first of all that do.
-/
import Derived.Test.YtcgflignbhmoaaaP13
namespace Go.Proofs.Ytcgflignbhmoaaa
open Go.RowKit

set_option linter.unusedVariables false
set_option linter.unusedSectionVars false
set_option linter.unusedSimpArgs false

/-! ### Words as numbers: call by call from the front -/

section
variable {M N : Sp} (hM : M.ok = true) (hN : N.ok = true) (hop : M.op = N.op) {f : Int × Int} (hf : okP M N f)
include hM hN hop hf

end
end Go.Proofs.Ytcgflignbhmoaaa
