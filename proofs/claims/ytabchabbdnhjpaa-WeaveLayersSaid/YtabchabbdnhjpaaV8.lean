/-
  Layer 3, pure: WeaveClasses.
-/
import Derived.Test.YtabchabbdnhjpaaV7
namespace Go.Proofs.Ytabchabbdnhjpaa
open Go.RowKit

set_option linter.unusedVariables false
set_option linter.unusedSimpArgs false
set_option maxRecDepth 10000

/-- What Class answers. -/
def classA (l : Ltr) (w : List Int) (most : Int) : List (List Int) × Int :=
  if errW l [w] = 0 then (if 0 ≤ most ∧ most ≤ 1000 then ((cls l (w.length + 1) w).take most.toNat, 0) else ([], 2)) else ([], errW l [w])

theorem checked1 (l : Ltr) (w : List Int) (hl : few l.2) (hw : w.length ≤ 60) : ∃ t : El T53, weave_checked l [w] = some (t, errW l [w]) ∧ (errW l [w] = 0 → Ties l t) :=
  checked_eq3 l [w] hl (by unfold few; simp) (fun x hx => by simp at hx; subst hx; exact few_of hw)

end Go.Proofs.Ytabchabbdnhjpaa
