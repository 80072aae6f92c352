/-
  Layer 3, pure: WeavePaths.
-/
import Derived.Test.YtabchabbdnhjpaaV14
namespace Go.Proofs.Ytabchabbdnhjpaa
open Go.RowKit

set_option linter.unusedVariables false
set_option linter.unusedSimpArgs false
set_option maxRecDepth 10000

variable {l : Ltr}

instance (l : Ltr) (w v : List Int) : Decidable (eqv l w v) := inferInstanceAs (Decidable (rs l w v = some []))

/-! ### Whether a path leads -/

def pathA (l : Ltr) (w v path : List Int) : Bool × Int := if errW l [w, v] = 0 then (if 1000 < path.length then (false, 0) else (decide (runP l path w = some v), 0)) else (false, errW l [w, v])

/-! ### Equal, Path -/

def equalA (l : Ltr) (w v : List Int) : Bool × Int := if errW l [w, v] = 0 then (decide (eqv l v w), 0) else (false, errW l [w, v])

end Go.Proofs.Ytabchabbdnhjpaa
