/-
  The pairs that are needed, as the reference finds them; a circle that has a pair; DelayCircles.
-/
import Derived.Test.YtdicomoggfhbfaaD8
namespace Go.Proofs.Ytdicomoggfhbfaa
open Go.RowKit Go.Maps

set_option linter.unusedVariables false
set_option linter.unusedSimpArgs false

theorem need_few {x : Acs} (hv : vld x = true) : few (need x) := few_of (Nat.le_trans (List.length_filter_le _ _) (Nat.le_trans (List.length_filter_le _ _) (stas_len hv)))

end Go.Proofs.Ytdicomoggfhbfaa
