/-
  Layer 1, pure: the states that are reached, the ways to them.
-/
import Derived.Test.YtcgflignbhmoaaaP5
namespace Go.Proofs.Ytcgflignbhmoaaa
open Go.RowKit

set_option linter.unusedVariables false
set_option linter.unusedSectionVars false
set_option linter.unusedSimpArgs false

/-! ### Sorting few numbers -/

/-! ### Ways -/

/-- The states that are reached, with their words. -/
def waysL (s : Tup) : List (Int × List Int) := (bfs (toSp s) (toSp s) (0, 0)).map fun e => (e.1.1, e.2)

theorem zero_ok {s : Tup} (hv : (toSp s).ok = true) : okP (toSp s) (toSp s) (0, 0) := by
  have := (Sp.okE hv).1
  exact ⟨by simp only [inR, decide_eq_true_eq]; omega, by simp only [inR, decide_eq_true_eq]; omega⟩

section
variable {s : Tup} (hv : (toSp s).ok = true)
include hv

end

/-! ### The answers -/

/-- The answer of Way. -/
def wayOf (s : Tup) (to : Int) : List Int × Int := match (waysL s).find? (fun x => decide (x.1 = to)) with | some x => (x.2, 0) | none => ([], 5)

end Go.Proofs.Ytcgflignbhmoaaa
