import Derived.Test.YtanaeefeggokkaaGreatAvd
namespace Go.Proofs.YtanaeefeggokkaaGreat
open Go.RowKit
set_option linter.constructorNameAsVariable false
set_option linter.unusedSimpArgs false
set_option linter.unusedVariables false
/-! ### Names of the rows of a row -/
theorem b9n:∃ f:Nat→Nat→Nat,∀ b i,f b i=(i+1)*1000000+b:=⟨fun b i=>(i+1)*1000000+b,fun _ _=>rfl⟩
noncomputable def inm:Nat→Nat→Nat:=Classical.choose b9n
noncomputable def b9Z (b n:Nat):List AVal:=(List.range n).map fun i=>.own (inm b i)
noncomputable def b9Y (b:Nat) (e:TypeId) (t:Ty) (xss:List (List (El t))):List (Nat×ABlk):=(List.range xss.length).map fun i=>(inm b i,.arr e t (xss.getD i []))
def b9T (h:List (Nat×ABlk)):Bool:=h.all (fun p=>decide (p.1<1000000))
def b9S (l:List Nat):Bool:=l.all (fun b=>decide (b<1000000))
noncomputable def b91 (b n:Nat):List Nat:=(List.range n).map (inm b)
section
variable {P:Program} {T:Tab} {n:Nat} {ds:List Deferred} {A0 L0:Nat→Prop} {w0:Old} {η:Nat→Value} {s:ASt} {a:Act} {w:World}
variable {ro:Option Nat} {Q:Exit→ASt→Prop} {g:Gh} {o:Oper} {ops rs:List Oper} {l:List (Nat×AVal)} {h:List (Nat×ABlk)}
end
end Go.Proofs.YtanaeefeggokkaaGreat
/-! ### Rows behind a memory that is written out -/
namespace Go.Proofs.YtanaeefeggokkaaGreat
open Go.RowKit
set_option linter.constructorNameAsVariable false
set_option linter.unusedSimpArgs false
set_option linter.unusedVariables false
def two (h r:List (Nat×ABlk)):List (Nat×ABlk):=h++r
section
variable {b:Nat} {e:TypeId} {t:Ty} {xss:List (List (El t))} {h:List (Nat×ABlk)}
def b9R (rn:List (Nat×Nat)):Bool:=rn.all fun p=>decide (p.1<1000000)&&decide (p.2<1000000)
end
end Go.Proofs.YtanaeefeggokkaaGreat
