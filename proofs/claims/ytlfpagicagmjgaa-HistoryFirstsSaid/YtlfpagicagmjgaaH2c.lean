/-
  Layer 2, pure: check.
-/
import Derived.Test.YtlfpagicagmjgaaH2a
namespace Go.Proofs.Ytlfpagicagmjgaa
open Go.RowKit

set_option linter.unusedVariables false
set_option linter.unusedSimpArgs false
set_option maxRecDepth 10000

theorem check_eq (h : List HC6) (b : Bool) : history_check h b = some (if okH h = true then (if b = true then 0 else 2) else 20) := by
  unfold history_check
  rw [HValid_eq, Option.bind_some]
  cases okH h <;> cases b <;> rfl

end Go.Proofs.Ytlfpagicagmjgaa
