/-
  Lists held against each other; the reference's pairs; DelayConflicts.
-/
import Derived.Test.YtdicomoggfhbfaaD4
import Derived.Test.YtdicomoggfhbfaaRdr
namespace Go.Proofs.Ytdicomoggfhbfaa
open Go.RowKit

set_option linter.unusedVariables false
set_option linter.unusedSimpArgs false

/-- Numbers that fit. -/
def fitS (s : Sta) : Prop := InK .i64 s.1 ∧ InK .i64 s.2.1 ∧ InK .i64 s.2.2
end Go.Proofs.Ytdicomoggfhbfaa
