import Derived.Test.YtenchhmcjmjlbaaAvd
namespace Go.Proofs.Ytenchhmcjmjlbaa
open Go.RowKit
set_option linter.constructorNameAsVariable false
set_option linter.unusedSimpArgs false
set_option linter.unusedVariables false
/-! ### Names of the rows of a row -/
theorem b79:∃ f:Nat→Nat→Nat,∀ b i,f b i=(i+1)*1000000+b:=⟨fun b i=>(i+1)*1000000+b,fun _ _=>rfl⟩
noncomputable def inm:Nat→Nat→Nat:=Classical.choose b79
noncomputable def b8R (b n:Nat):List AVal:=(List.range n).map fun i=>.own (inm b i)
noncomputable def b8Q (b:Nat) (e:TypeId) (t:Ty) (xss:List (List (El t))):List (Nat×ABlk):=(List.range xss.length).map fun i=>(inm b i,.arr e t (xss.getD i []))
def b4a (h:List (Nat×ABlk)):Bool:=h.all (fun p=>decide (p.1<1000000))
def b8G (l:List Nat):Bool:=l.all (fun b=>decide (b<1000000))
theorem b7i {x:AVal} {K L:List Nat} (h:∀ b∈x.ids,b ∉ L):x.clean (K++L)=x.clean K:=by
 unfold AVal.clean
 have:(K++L).any (fun b=>x.has b)=K.any fun b=>x.has b:=by
  rw [List.any_append]
  have:L.any (fun b=>x.has b)=false:=by
   rw [List.any_eq_false]
   intro b hb hx
   exact h b (a3P x b hx) hb
  rw [this,Bool.or_false]
 rw [this]
noncomputable def b8V (b n:Nat):List Nat:=(List.range n).map (inm b)
section
variable {P:Program} {T:Tab} {n:Nat} {ds:List Deferred} {A0 L0:Nat→Prop} {w0:Old} {η:Nat→Value} {s:ASt} {a:Act} {w:World}
variable {ro:Option Nat} {Q:Exit→ASt→Prop} {g:Gh} {o:Oper} {ops rs:List Oper} {l:List (Nat×AVal)} {h:List (Nat×ABlk)}
end
end Go.Proofs.Ytenchhmcjmjlbaa
/-! ### Rows behind a memory that is written out -/
namespace Go.Proofs.Ytenchhmcjmjlbaa
open Go.RowKit
set_option linter.constructorNameAsVariable false
set_option linter.unusedSimpArgs false
set_option linter.unusedVariables false
def two (h r:List (Nat×ABlk)):List (Nat×ABlk):=h++r
section
variable {b:Nat} {e:TypeId} {t:Ty} {xss:List (List (El t))} {h:List (Nat×ABlk)}
theorem b7f (c:Nat) (B:ABlk) (r:List (Nat×ABlk)):b4a ((c,B)::r)=(decide (c<1000000)&&b4a r):=rfl
def b39 (rn:List (Nat×Nat)):Bool:=rn.all fun p=>decide (p.1<1000000)&&decide (p.2<1000000)
theorem b7e (x y:Nat) (r:List (Nat×Nat)):b39 ((x,y)::r)=((decide (x<1000000)&&decide (y<1000000))&&b39 r):=rfl
end
end Go.Proofs.Ytenchhmcjmjlbaa
