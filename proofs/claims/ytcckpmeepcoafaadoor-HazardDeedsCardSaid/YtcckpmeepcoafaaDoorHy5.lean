import Derived.Test.YtcckpmeepcoafaaDoorHy4
import Derived.Test.YtcckpmeepcoafaaDoorHztw
namespace Go.Proofs.YtcckpmeepcoafaaDoor
open Go.RowKit
set_option linter.unusedVariables false
set_option linter.unusedSimpArgs false
set_option linter.constructorNameAsVariable false
set_option maxRecDepth 10000
section
variable {n m:Nat} {N:El T63} {S:El T65} {L:El T69} {A:Mo}
theorem heldL_len (A:Mo):(heldL A).length≤8:=by
  unfold heldL
  have:=List.length_filter_le (hld A) ((List.range 8).map fun j:Nat=>(j:Int))
  simpa using this
end
end Go.Proofs.YtcckpmeepcoafaaDoor
