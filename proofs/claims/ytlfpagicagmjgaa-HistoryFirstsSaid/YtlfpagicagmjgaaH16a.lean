/-
  Layer 2, pure: IsOrder of both sides.
-/
import Derived.Test.YtlfpagicagmjgaaH15
namespace Go.Proofs.Ytlfpagicagmjgaa
open Go.RowKit

set_option linter.unusedVariables false
set_option linter.unusedSimpArgs false
set_option maxRecDepth 10000

theorem ordB_mem {h : List HC6} {l : List Int} (ho : ordB h l = true) : ∀ x ∈ l, 0 ≤ x ∧ x < (h.length : Int) := fun x hx => by
  obtain ⟨k, hk, e⟩ := List.getElem_of_mem hx
  have := ordB_in ho hk
  have e2 : l.getD k 0 = x := by rw [List.getD_eq_getElem?_getD, List.getElem?_eq_getElem hk, e]; rfl
  rwa [e2] at this

def isOrd (specs : List Tup) (h : List HC6) (l : List Int) : Bool := ordB h l && (keepB bef h l && alwL specs h (0, 0) l)

theorem IsOrder_eq {specs : List Tup} (hs : ∀ s ∈ specs, okS s) (hl : specs.length ≤ 1000) (hk : okSs specs = true) {h : List HC6} (h1 : okH h = true) (h2 : fitsB specs h = true) {l : List Int} (hl1 : l.length ≤ 1000) : history_IsOrder specs h l = some (isOrd specs h l, 0) := by
  unfold history_IsOrder
  rw [checkFor_fit hs hl hk h1 h2, Option.bind_some, if_pos (by rfl)]
  unfold history_told_23 history_IsOrder_1 isOrd
  have h8 := okH_len h1
  rw [isOrder_eq h (by omega) l hl1, Option.bind_some]
  cases ho : ordB h l with
  | false => rfl
  | true =>
    rw [if_pos rfl, keeps_eq h l hl1 ho, Option.bind_some]
    cases keepB bef h l with
    | false => rfl
    | true => rw [if_pos rfl, allows_eq hk (fun i hi => can_of h1 h2 hi) hl1 (ordB_mem ho)]; rfl

end Go.Proofs.Ytlfpagicagmjgaa
