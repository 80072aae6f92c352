/-
  Threads turned round, on both sides; accesses held against each other.
-/
import Derived.Test.YtdicomoggfhbfaaD2
namespace Go.Proofs.Ytdicomoggfhbfaa
open Go.RowKit

set_option linter.unusedVariables false
set_option linter.unusedSimpArgs false

def fitA (a : Int × Bool) : Prop := InK .i64 a.1
/-! ### Turned round -/
def turnX (x : Acs) : Acs := x.map List.reverse

theorem flat_map1 {α β : Type} (f : α → β) : ∀ l : List α, (l.flatMap fun k => [f k]) = l.map f
  | [] => rfl
  | a :: l => by rw [List.flatMap_cons, flat_map1 f l]; rfl
theorem Clone_eq (s : List (Int × Bool)) (hs : s.length ≤ 1000) : slices_Clone s = some s := by
  unfold slices_Clone; rw [ck_pos (by omega)]

end Go.Proofs.Ytdicomoggfhbfaa
