import Derived.Test.YtcckpmeepcoafaaDoorHzp
import Derived.Test.YtcckpmeepcoafaaDoorHy1
namespace Go.Proofs.YtcckpmeepcoafaaDoor
open Go.RowKit
set_option linter.unusedVariables false
set_option linter.unusedSimpArgs false
set_option linter.constructorNameAsVariable false
set_option maxRecDepth 10000
section
variable {n m:Nat} {N:El T63} {S:El T65} {L:El T69} {A:Mo}
theorem inK_small {k:Nat} (h:k≤1000000000):InK .i64 ((k:Int)+1):=by rw [inK_i64]; omega
/-! ### What is asked -/
/-! ### Slots that point -/
/-! ### Lists of nodes,and how many -/
def cntM (A:Mo) (w:Int):Nat:=((List.range 8).filter fun j=>decide (A.N j=w)).length
def heldL (A:Mo):List Int:=((List.range 8).map fun j:Nat=>(j:Int)).filter (hld A)
end
end Go.Proofs.YtcckpmeepcoafaaDoor
