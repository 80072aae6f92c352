import Derived.Test.YtkocijiclklbfaaAvq
namespace Go.Proofs.Ytkocijiclklbfaa
open Go.RowKit Go.Maps
set_option linter.constructorNameAsVariable false
set_option linter.unusedVariables false
set_option linter.unusedSimpArgs false
section
variable {P:Program} {T:Tab} {n:Nat} {ro:Option Nat} {Q:Exit→ASt→Prop} {σ:Nat→AVal} {H:AHeap} {g:Gh} {ops rs:List Oper} {t k e:TypeId} {ak ae:Bool} {kt vt:Ty}
end
theorem slOps011 (x y z:Operand):(#[x]++(none:Option Operand).toArray++(some y).toArray++(some z).toArray).toList=[x,y,z]:=rfl
attribute [go_sem high] slOps011
end Go.Proofs.Ytkocijiclklbfaa
