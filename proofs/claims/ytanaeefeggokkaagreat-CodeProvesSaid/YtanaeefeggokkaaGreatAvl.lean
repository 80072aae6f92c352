import Derived.Test.YtanaeefeggokkaaGreatAvk
namespace Go.Proofs.YtanaeefeggokkaaGreat
open Go.RowKit
set_option linter.constructorNameAsVariable false
set_option linter.unusedVariables false
section
variable {P:Program} {T:Tab} {n:Nat} {ds:List Deferred} {A0 L0:Nat→Prop} {w0:Old} {η:Nat→Value} {s:ASt} {a:Act} {w:World}
end
section
variable {P:Program} {T:Tab} {n:Nat} {ro:Option Nat} {Q:Exit→ASt→Prop} {σ:Nat→AVal} {H:l3} {g:Gh} {o:Oper} {ops rs:List Oper} {t e:TypeId} {i ie:TInfo} {τ:Ty}
theorem AO.aggEqG (E:EqTy P t τ) [DecidableEq (El τ)] (hd:J7 n [o]=true) (hgd:o.guard=none∨∃ j tt want,o.guard=some (j,want)∧(ops[j]?).bind (·.dst)=some tt∧(ASt.mk σ H g).σ tt=.bool want) {x y:Operand} {z:Nat} {neg:Bool} (ho:o.op=.binOp (if neg then .neq else .eql) t x y z) {lx ly:List AVal} (hx:(ASt.mk σ H g).ev x=.agg lx) (hy:(ASt.mk σ H g).ev y=.agg ly)
  {u v:El τ} (hu:C6 H τ lx=some (u,[])) (hv:C6 H τ ly=some (v,[])) (ku:okD τ u) (kv:okD τ v)
  (h2:AO P ro n ops rs Q ((ASt.mk σ H g).app o.dst { v:=.bool (if neg then !decide (u=v) else decide (u=v)) })):AO P ro n ops (o::rs) Q ⟨σ,H,g⟩:=by
 intro m ds A0 L0 w0 η a w hq0 hr;unfold wpListIn
 rw [if_pos (by
  rcases hgd with hg|⟨j,tt,want,h1,h3,h4⟩
  ·exact X9 hg _
  ·exact b3F h1 h3 h4 hr)]
 have hxv:=hr.ev x;have hyv:=hr.ev y;rw [hx] at hxv;rw [hy] at hyv;have e1:=a0G (ag:=true) E.dry (.inl rfl) (show Z3 true (.agg lx) lx from ⟨rfl,rfl⟩) hu hxv;have e2:=a0G (ag:=true) E.dry (.inl rfl) (show Z3 true (.agg ly) ly from ⟨rfl,rfl⟩) hv hyv;have heq:=a64 E ku kv w;simp only [pv,if_true] at e1 e2
 cases neg with
 | false =>
  refine n7 (u:=.bool (decide (u=v))) (w':=w) (by simp [ho]) ?_ (h2 m ds A0 L0 w0 η _ w hq0 (hr.pure (a0k hd) (by unfold d9; rfl)));simp [execOp,ho,e1,e2,eqGuard,E.guard,binOp,heq]
 | true =>
  refine n7 (u:=.bool (!decide (u=v))) (w':=w) (by simp [ho]) ?_ (h2 m ds A0 L0 w0 η _ w hq0 (hr.pure (a0k hd) (by unfold d9; rfl)));simp [execOp,ho,e1,e2,eqGuard,E.guard,binOp,heq]
end
end Go.Proofs.YtanaeefeggokkaaGreat
