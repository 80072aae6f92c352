import Derived.Test.YtcckpmeepcoafaaDoorHy4
import Derived.Test.YtcckpmeepcoafaaDoorHztw
namespace Go.Proofs.YtcckpmeepcoafaaDoor
open Go.RowKit
set_option linter.unusedVariables false
set_option linter.unusedSimpArgs false
set_option linter.constructorNameAsVariable false
set_option maxRecDepth 10000
section
variable {n m:Nat} {N:El T63} {S:El T65} {L:El T69} {A:Mo}
end
end Go.Proofs.YtcckpmeepcoafaaDoor
