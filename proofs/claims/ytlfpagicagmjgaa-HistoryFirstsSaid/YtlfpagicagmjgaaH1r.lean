/-
  Layer 2, pure: within, for the reference.
-/
import Derived.Test.YtlfpagicagmjgaaH1
namespace Go.Proofs.Ytlfpagicagmjgaa
open Go.RowKit

set_option linter.unusedVariables false
set_option linter.unusedSimpArgs false
set_option maxRecDepth 10000

theorem rwithin_eq (a n b : Int) : linealref02_within a n b = some (decide (a ≤ n) && decide (n ≤ b)) := by
  unfold linealref02_within
  by_cases h : a ≤ n <;> simp [h]

end Go.Proofs.Ytlfpagicagmjgaa
