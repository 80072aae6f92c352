import Derived.Test.YtcckpmeepcoafaaDoorHy8
import Derived.Test.YtcckpmeepcoafaaDoorHztw
namespace Go.Proofs.YtcckpmeepcoafaaDoor
open Go.RowKit
set_option linter.unusedVariables false
set_option linter.unusedSimpArgs false
set_option linter.constructorNameAsVariable false
set_option maxRecDepth 10000
section
variable {n m:Nat} {A:Mo}
def numA (r:Int×Int×Mo):Int:=if r.2.1=0 then r.1 else -r.2.1
def numL (n m:Nat) (ds:List (Int×Int×Int×Int)) (k:Nat):List Int:=(List.range k).map fun j=>numA (doA n m (behind n m newM (ds.take j)) (ds.getD j (0,0,0,0)))
end
end Go.Proofs.YtcckpmeepcoafaaDoor
