import Derived.Test.YtcckpmeepcoafaaDoorHy11
namespace Go.Proofs.YtcckpmeepcoafaaDoor
open Go.RowKit
set_option linter.unusedVariables false
set_option linter.unusedSimpArgs false
set_option linter.constructorNameAsVariable false
set_option maxRecDepth 10000
section
variable {n m:Nat} {N:El T63} {S:El T65} {L:El T69} {X:El T66} {Y:List (Int×Int)} {Z:List (List Int)} {A:Mo}
/-! ### What an error leaves as it was -/
/-! ### Deeds -/
/-! ### Copies -/
noncomputable def arrs (n m:Nat) (q:El T63×El T65×El T69) (ds:List (Int×Int×Int×Int)):El T63×El T65×El T69 :=
  ds.foldl (fun q d=>match hazard_Yard_Do d ((n:Int),(m:Int),q) with|some v=>v.2.2|none=>q) q
end
end Go.Proofs.YtcckpmeepcoafaaDoor
