import Derived.Test.YtcckpmeepcoafaaDoorHy5
import Derived.Test.YtcckpmeepcoafaaDoorHy9
namespace Go.Proofs.YtcckpmeepcoafaaDoor
open Go.RowKit
set_option linter.unusedVariables false
set_option linter.unusedSimpArgs false
set_option linter.constructorNameAsVariable false
set_option maxRecDepth 10000
section
variable {n m:Nat} {N:El T63} {S:El T65} {L:El T69} {X:El T66} {Y:List (Int×Int)} {Z:List (List Int)} {A:Mo}
/-! ### What the reference tells -/
/-! ### A yard is that of the reference -/
/-! ### The law -/
end
end Go.Proofs.YtcckpmeepcoafaaDoor
