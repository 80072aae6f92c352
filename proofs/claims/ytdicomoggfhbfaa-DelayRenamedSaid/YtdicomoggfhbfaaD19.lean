/-
  The cheapest fences that are enough: the reference's side; what they cost.
-/
import Derived.Test.YtdicomoggfhbfaaD18
namespace Go.Proofs.Ytdicomoggfhbfaa
open Go.RowKit

set_option linter.unusedVariables false
set_option linter.unusedSimpArgs false

def bitL : List Fen → Nat → List Fen
  | [], _ => []
  | a :: r, s => if s.testBit 0 = true then a :: bitL r (s / 2) else bitL r (s / 2)
/-! ### What is chosen, and what it costs -/
def errO (x : Acs) (cs : Cos) : Int := if vld x = true then (if areC x cs = true then 0 else 2) else 90
theorem errO_zero {x : Acs} {cs : Cos} : errO x cs = 0 ↔ vld x = true ∧ areC x cs = true := by
  unfold errO
  cases vld x <;> cases areC x cs <;> simp

/-- The best fences; none where there are none. -/
theorem best_ex (x : Acs) (cs : Cos) : ∃ m, (errO x cs = 0 → isBest x cs m) ∧ delay_Cheapest x cs = some (if errO x cs = 0 then m else [], errO x cs) ∧ delay_Least x cs = some (if errO x cs = 0 then cstF cs m else 0, errO x cs) := by
  unfold delay_Cheapest delay_Least
  rw [offerOf_eq]
  simp only [Option.bind_some]
  unfold errO
  cases hv : vld x with
  | false => exact ⟨[], by simp, rfl, rfl⟩
  | true =>
    cases hc : areC x cs with
    | false => exact ⟨[], by simp, rfl, rfl⟩
    | true =>
      obtain ⟨m, e, hm⟩ := cheapest_eq hv hc
      have hml := hm.1.1.length_le
      have h9 := fens_len hv
      refine ⟨m, fun _ => hm, ?_, ?_⟩
      · simp only [if_true]
        rw [if_neg (by simp), e]; rfl
      · simp only [if_true]
        rw [if_neg (by simp), e, Option.bind_some]
        unfold delay_offer_cost
        dsimp only
        rw [costOf_eq hc (by omega) (sub_fens hm.1.1)]; rfl

end Go.Proofs.Ytdicomoggfhbfaa
