/-
  Layer 2, pure: the law HistoryOrders.
-/
import Derived.Test.YtlfpagicagmjgaaH20
import Derived.Test.YtlfpagicagmjgaaH16a
namespace Go.Proofs.Ytlfpagicagmjgaa
open Go.RowKit

set_option linter.unusedVariables false
set_option linter.unusedSimpArgs false
set_option maxRecDepth 10000

/-- The error of specifications and a history. -/
def errA (specs : List Tup) (h : List HC6) : Int := if okSs specs = true then (if (okH h && fitsB specs h) = true then 0 else 20) else 10

section
variable {specs : List Tup} {h : List HC6}

theorem checkFor_all (hs : ∀ s ∈ specs, okS s) (hl : specs.length ≤ 1000) : history_checkFor specs h = some (errA specs h) := by
  unfold history_checkFor errA
  rw [checkSpecs_eq specs hs hl, Option.bind_some]
  cases hk : okSs specs with
  | false => rfl
  | true =>
    rw [if_pos rfl, if_neg (by simp), HValid_eq, Option.bind_some]
    cases h1 : okH h with
    | false => rfl
    | true =>
      rw [if_neg (by simp), fits_eq specs _ h1, Option.bind_some]
      cases fitsB specs h <;> rfl

theorem bef_to (c d : HC6) (hb : bef c d = true) : c.2.2.2.2.2 ≠ 0 := by
  unfold bef at hb
  simp only [Bool.and_eq_true, Bool.not_eq_true', decide_eq_false_iff_not] at hb
  exact hb.1

theorem bef_self {c : HC6} (hc : okC c = true) : bef c c = false := by
  have := okC_from hc
  unfold bef
  by_cases h0 : c.2.2.2.2.2 = 0
  · rw [decide_eq_true h0]; rfl
  · rw [decide_eq_false (by omega : ¬ c.2.2.2.2.2 < c.2.2.2.2.1), Bool.and_false]

end

end Go.Proofs.Ytlfpagicagmjgaa
