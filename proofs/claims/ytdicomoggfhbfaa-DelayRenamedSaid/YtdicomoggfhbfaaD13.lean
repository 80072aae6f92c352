/-
  DelayTurns: what is needed of threads that are turned round.
-/
import Derived.Test.YtdicomoggfhbfaaD12
import Derived.Test.YtdicomoggfhbfaaD11
import Derived.Test.YtdicomoggfhbfaaD9
namespace Go.Proofs.Ytdicomoggfhbfaa
open Go.RowKit

set_option linter.unusedVariables false
set_option linter.unusedSimpArgs false

/-- Where an access stands from behind. -/
def bkA (x : Acs) (t a : Int) : Int := ((x.getD t.toNat []).length : Int) - 1 - a
def bkS (x : Acs) (s : Sta) : Sta := (s.1, bkA x s.1 s.2.2, bkA x s.1 s.2.1)

end Go.Proofs.Ytdicomoggfhbfaa
