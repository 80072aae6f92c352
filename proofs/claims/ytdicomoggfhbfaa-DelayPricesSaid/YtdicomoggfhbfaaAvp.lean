import Derived.Test.YtdicomoggfhbfaaAvo
namespace Go.Proofs.Ytdicomoggfhbfaa
open Go.RowKit
set_option linter.constructorNameAsVariable false
set_option linter.unusedVariables false
set_option linter.unusedSimpArgs false
attribute [go_sem] Nat.add_zero
theorem app_assocA (l m k:List AVal):l++m++k=l++(m++k):=List.append_assoc l m k
attribute [go_sem] app_assocA List.nil_append List.cons_append List.length_set
def kAt:Ty→Nat→Option (Option IntKind)
 | .int k,j=>if j=0 then some (some k) else none
 | .bool,j=>if j=0 then some none else none
 | .unit,_=>none
 | .pair a b,j=>if j<a.size then kAt a j else kAt b (j - a.size)
 | .sl _,_=>none
def partOK (t u:Ty) (j:Nat):Bool:=(List.range u.size).all fun q=>kAt t (j+q)==kAt u q&&(kAt u q).isSome
def dropE (t:Ty) (x:El t) (j:Nat):List AVal:=(cellsOf t x).drop j
def toElE (H:AHeap) (t:Ty) (x:El t) (j:Nat) (us:List AVal):Option (El t×List AVal):=toEl H t (splice (cellsOf t x) j us)
/-! ### What is read behind a write -/
end Go.Proofs.Ytdicomoggfhbfaa
