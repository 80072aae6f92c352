/-
  Layer 5, pure: the law of what is seen holds.
-/
import Derived.Test.YtifleoceebaooaaS11
import Derived.Test.YtifleoceebaooaaS12
namespace Go.Proofs.Ytifleoceebaooaa
open Go.RowKit

set_option linter.unusedVariables false
set_option linter.unusedSectionVars false
set_option linter.unusedSimpArgs false

/-! ### What is seen -/

section
variable {s : Sys} (hs : validB s = true) {E : List Nat} {S : List Stp} (hw : seenW s = some (E, S))
include hs hw

def sysOf (E : List Nat) (S : List Stp) : Sys := ((E.length : Int), S)

def phi (E : List Nat) (m : Nat) : Nat := 2 ^ idx E m

end

end Go.Proofs.Ytifleoceebaooaa
