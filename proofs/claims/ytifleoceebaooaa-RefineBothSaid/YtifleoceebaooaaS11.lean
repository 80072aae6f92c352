/-
  Layer 5, pure: the law of what is told holds.
-/
import Derived.Test.YtifleoceebaooaaS8
import Derived.Test.YtifleoceebaooaaS10
namespace Go.Proofs.Ytifleoceebaooaa
open Go.RowKit

set_option linter.unusedVariables false
set_option linter.unusedSectionVars false
set_option linter.unusedSimpArgs false

/-! ### Plain -/

def likeB (z y : Stp) : Bool := decide (y.1 = z.1) && decide (y.2.1 = z.2.1)

def plainK (l : List Stp) (k : Nat) : Bool := !(l.take k).any (likeB (l.getD k (0, 0, 0))) && !decide ((l.getD k (0, 0, 0)).2.1 = 0)

/-! ### Shows -/

theorem isTrOf_eq {s : Sys} (h : validB s = true) {tr : List Int} (hl : tr.length ≤ 1000) : isTrOf s tr = if tr.all seenB = true then (!decide (behM s tr = 0), 0) else (false, 2) := by
  unfold isTrOf
  rw [if_pos h, if_neg (by omega)]

section
variable {c a : Sys} (hc : validB c = true) (ha : validB a = true)
include hc ha

end

end Go.Proofs.Ytifleoceebaooaa
