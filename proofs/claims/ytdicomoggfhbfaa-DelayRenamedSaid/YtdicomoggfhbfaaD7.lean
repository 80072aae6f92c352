/-
  The reference's circles; the pairs that are needed, on both sides.
-/
import Derived.Test.YtdicomoggfhbfaaD6
namespace Go.Proofs.Ytdicomoggfhbfaa
open Go.RowKit Go.Maps

set_option linter.unusedVariables false
set_option linter.unusedSimpArgs false

/-! ### All circles, as the reference finds them -/
def ref2 (x : Acs) (r s : Sta) : List (List Sta) := if (!decide (r.1 = s.1) && mts x r s) = true then (if isC x [r, s] = true then [[r, s]] else []) ++ (stas x).flatMap fun q => if isC x [r, s, q] = true then [[r, s, q]] else [] else []
def refCircs (x : Acs) : List (List Sta) := (stas x).flatMap fun r => (stas x).flatMap fun s => ref2 x r s

end Go.Proofs.Ytdicomoggfhbfaa
