/-
  Layer 2, pure: For, the program side.
-/
import Derived.Test.YtdkdkpenmgkdcaaH4s
namespace Go.Proofs.Ytdkdkpenmgkdcaa
open Go.RowKit

set_option linter.unusedVariables false
set_option linter.unusedSimpArgs false
set_option maxRecDepth 10000

theorem For_eq (specs : List Tup) (hs : ∀ s ∈ specs, okS s) (hl : specs.length ≤ 1000) (h : List HC6) : history_For specs h = some (if okSs specs = true then (okH h && fitsB specs h, 0) else (false, 10)) := by
  unfold history_For
  rw [checkSpecs_eq specs hs hl, Option.bind_some]
  cases okSs specs with
  | false => rfl
  | true =>
    simp only [if_true, decide_true]
    unfold history_told_4 history_For_1
    rw [HValid_eq, Option.bind_some]
    cases hok : okH h with
    | false => rfl
    | true => simp only [if_true]; rw [fits_eq specs h hok]; rfl

end Go.Proofs.Ytdkdkpenmgkdcaa
