/-
  Layer 2, pure: Orders.
-/
import Derived.Test.YtlfpagicagmjgaaH10a
namespace Go.Proofs.Ytlfpagicagmjgaa
open Go.RowKit

set_option linter.unusedVariables false
set_option linter.unusedSimpArgs false
set_option maxRecDepth 10000

theorem Orders_eq {specs : List Tup} (hs : ∀ s ∈ specs, okS s) (hl : specs.length ≤ 1000) (hk : okSs specs = true) {h : List HC6} (h1 : okH h = true) (h2 : fitsB specs h = true) : history_Orders specs h = some ((cntA specs h : Int), 0) := by
  obtain ⟨M, e⟩ := cnt_eq hk (okH_len h1) (fun i hi => can_of h1 h2 hi)
  unfold history_Orders
  rw [checkFor_fit hs hl hk h1 h2, Option.bind_some, if_pos (by rfl)]
  unfold history_told_19 history_Orders_1
  rw [show history_newSearch specs h = some () from rfl, Option.bind_some, e]; rfl

end Go.Proofs.Ytlfpagicagmjgaa
