import Derived.Test.YtdicomoggfhbfaaAvn
import Derived.Laws.Pointers
import Derived.Great.FillDense
namespace Go.Proofs.Ytdicomoggfhbfaa
open Go.RowKit
set_option linter.constructorNameAsVariable false
set_option linter.unusedVariables false
set_option linter.unusedSimpArgs false
/-! ### Parts of arrays -/
def subX (t:Ty) (x:El t):(u:Ty)→Nat→El u
 | .int _,j=>intAt t x j
 | .bool,j=>boolAt t x j
 | .unit,_=>()
 | .pair a b,j=>(subX t x a j,subX t x b (j+a.size))
 | .sl t,_=>([]:List (El t))
def putX (t:Ty):(u:Ty)→El t→Nat→El u→El t
 | .int _,x,j,v=>setInt t x j v
 | .bool,x,j,v=>setBool t x j v
 | .unit,x,_,_=>x
 | .pair a b,x,j,v=>putX t b (putX t a x j v.1) (j+a.size) v.2
 | .sl _,x,_,_=>x
def rowX (t:Ty) (x:El t):List Int:=(List.range t.size).map fun j=>intAt t x j
/-! ### Loops gone round a known number of times -/
section
variable {P:Program} {ro:Option Nat} {n:Nat} {c:Code} {Q:Exit→ASt→Prop} {s:ASt}
def LoopU (P:Program) (ro:Option Nat) (n:Nat) (c:Code) (Q:Exit→ASt→Prop):Nat→ASt→Prop
 | 0,s=>AW P ro n c (athen (fun _=>False) Q) s
 | k+1,s=>AW P ro n c (athen (fun s'=>LoopU P ro n c Q k s') Q) s
end
/-! ### Operations -/
section
variable {P:Program} {T:Tab} {n:Nat} {ro:Option Nat} {Q:Exit→ASt→Prop} {σ:Nat→AVal} {H:AHeap} {g:Gh} {o:Oper} {ops rs:List Oper} {t e:TypeId} {i ie:TInfo}
def nilP:AVal→Option Bool
 | .bp _ _=>some false
 | .cv (.pointer none)=>some true
 | _=>none
end
end Go.Proofs.Ytdicomoggfhbfaa
