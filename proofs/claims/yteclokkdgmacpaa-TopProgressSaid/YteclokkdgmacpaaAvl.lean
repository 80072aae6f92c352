import Derived.Test.YteclokkdgmacpaaAvk
namespace Go.Proofs.Yteclokkdgmacpaa
open Go.RowKit
set_option linter.constructorNameAsVariable false
set_option linter.unusedVariables false
section
variable {P:Program} {T:Tab} {n:Nat} {ds:List Deferred} {A0 L0:Nat→Prop} {w0:Old} {η:Nat→Value} {s:ASt} {a:Act} {w:World}
end
section
variable {P:Program} {T:Tab} {n:Nat} {ro:Option Nat} {Q:Exit→ASt→Prop} {σ:Nat→AVal} {H:AHeap} {g:Gh} {o:Oper} {ops rs:List Oper} {t e:TypeId} {i ie:TInfo} {τ:Ty}
end
end Go.Proofs.Yteclokkdgmacpaa
