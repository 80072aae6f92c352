import Derived.Test.YtanaeefeggokkaaGreatAvj
namespace Go.Proofs.YtanaeefeggokkaaGreat
open Go.RowKit
set_option linter.constructorNameAsVariable false
set_option linter.unusedVariables false
def b9x (b:Option UInt8) (k:Nat):Bool:=match b with
 | some b=>b.toNat==k
 | none=>false
def b9W (L:List Nat):Value→Bool
 | .string s=>(List.range L.length).all fun i=>b9x s[i]? (L.getD i 0)
 | _=>false
def b9X (l:List Nat) (i:Nat):Int:=((l.getD i 0:Nat):Int)
section
variable {P:Program} {T:Tab} {n:Nat} {ro:Option Nat} {Q:Exit→ASt→Prop} {σ:Nat→AVal} {H:l3} {g:Gh} {o:Oper} {ops rs:List Oper}
end
end Go.Proofs.YtanaeefeggokkaaGreat
