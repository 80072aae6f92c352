import Derived.Test.YtdicomoggfhbfaaAvq
namespace Go.Proofs.Ytdicomoggfhbfaa
open Go.RowKit Go.Maps
set_option linter.constructorNameAsVariable false
set_option linter.unusedVariables false
set_option linter.unusedSimpArgs false
section
variable {P:Program} {T:Tab} {n:Nat} {ro:Option Nat} {Q:Exit→ASt→Prop} {σ:Nat→AVal} {H:AHeap} {g:Gh} {ops rs:List Oper} {t k e:TypeId} {ak ae:Bool} {kt vt:Ty}
theorem AO.lookupNil (hT:TabOK P T) {τ:Ty} (M:MapTy P t k e ak false kt (.sl τ)) [DecidableEq (El kt)] {o1 o2:Oper} {t1:Nat} (hd1:dstOK n [o1]=true) (hd2:dstOK n [o2]=true) (hg1:o1.guard=none) (hg2:o2.guard=none) (e1:o1.dst=some t1)
  {x y zo:Operand} (ho1:o1.op=.lookup t x y false) {ts te:TypeId} {i:TInfo} {zz:Nat} {neg:Bool} (ho2:o2.op=.binOp (if neg then .neq else .eql) ts (.tmp t1) zo zz) (hts:T ts=some i) (hi:i.desc=.sl te)
  {b:Nat} (hx:(ASt.mk σ H g).ev x=.own b) {xs:List (El kt×El (.sl τ))} (hb:H b=some (.map ak false kt (.sl τ) xs))
  {l:List AVal} (hu:unpackA ak ((ASt.mk σ H g).ev y) l) {z:El kt} (hz:toEl H kt l=some (z,[])) (hok:okD kt z)
  (hzo:((ASt.mk σ H g).app (some t1) { v:=.sl τ (mget ([]:List (El τ)) xs z) }).ev zo=.cv (.slice none 0 0)) (hc:mhas xs z=false∨0<List.length (mget ([]:List (El τ)) xs z))
  (h2:AO P ro n ops rs Q (((ASt.mk σ H g).app (some t1) { v:=.sl τ (mget ([]:List (El τ)) xs z) }).app o2.dst { v:=.bool (if neg then mhas xs z else !mhas xs z) })):AO P ro n ops (o1::o2::rs) Q ⟨σ,H,g⟩:=by
 intro m ds A0 L0 w0 η a w hq0 hr
 have hxv:=hr.ev x
 rw [hx] at hxv
 unfold RepV at hxv
 obtain ⟨q,es,c,e1',e2,e3,e4,e5⟩:=hr.hp.blk b _ (show (ASt.mk σ H g).H b=_ from hb)
 rw [e1'] at hxv
 have hyv:=unpack_pv M.kdry M.ksz hu hz (hr.ev y)
 obtain ⟨u,hu2,hu3,hrun⟩:=run_lookup M e2 e3 e4 e5 hok false
 simp only [Bool.false_eq_true,if_false] at hrun
 unfold wpListIn
 rw [if_pos (op_guard hg1 _)]
 refine wpIn_value (u:=u) (w':=w) (by simp [ho1]) (by simp [execOp,ho1,hxv,hyv,hrun]) ?_
 have hr1:=hr.pure (v:=.sl τ (mget ([]:List (El τ)) xs z)) (dst_lt hd1) (u:=u) (by unfold RepV; exact hu2)
 rw [e1] at hr1 ⊢
 have hd1':=dst_lt hd1 t1 e1
 have hzv:=hr1.ev zo
 rw [hzo] at hzv
 unfold RepV at hzv
 have hv:(a.put (some t1) u).tmps.getD t1 undef=u:=by rw [put_getD,hr.size,if_pos ⟨rfl,hd1'⟩]
 have hv':(a.put (some t1) u).eval (.tmp t1)=u:=hv
 have hus:=(hT ts i hts).slice hi
 obtain ⟨ad,cap,hue,hbody⟩:=(show ∃ ad cap,u=.slice ad (List.length (mget ([]:List (El τ)) xs z)) cap∧SlBody w.heap.size (Av A0 η H) τ.size (fun x b o=>RepAt w (Av A0 η H) τ x b o) (mget ([]:List (El τ)) xs z) ad cap from hu2)
 subst hue
 have hnone:ad.isNone=!mhas xs z:=by
  cases hm:mhas xs z with
  | false =>
   have:=hu3 hm
   unfold zval at this
   injection this with this _ _
   rw [this]; rfl
  | true =>
   rcases hc with hc|hc
   ·rw [hm] at hc; cases hc
   ·obtain ⟨b',o',e9,_⟩:=hbody.2.2 hc
    rw [e9]; rfl
 unfold wpListIn
 rw [if_pos (op_guard hg2 _)]
 cases neg with
 | false =>
  refine wpIn_value (u:=.bool ad.isNone) (w':=w) (by simp [ho2]) ?_ ?_
  ·have:=Lib.run_eql_slice_nil (P:=P) w ts te ad (List.length (mget ([]:List (El τ)) xs z)) cap 0 0 hus
   simp [execOp,ho2,hv',hzv,eqGuard,this]
  ·refine h2 m ds A0 L0 w0 η _ w hq0 (hr1.pure (dst_lt hd2) ?_)
   unfold RepV; rw [hnone]; rfl
 | true =>
  refine wpIn_value (u:=.bool (!ad.isNone)) (w':=w) (by simp [ho2]) ?_ ?_
  ·have:=run_neq_slice_nil_any (P:=P) w ts te ad (List.length (mget ([]:List (El τ)) xs z)) cap 0 0 hus
   simp [execOp,ho2,hv',hzv,eqGuard,this]
  ·refine h2 m ds A0 L0 w0 η _ w hq0 (hr1.pure (dst_lt hd2) ?_)
   unfold RepV; rw [hnone]; simp
end
theorem slOps011 (x y z:Operand):(#[x]++(none:Option Operand).toArray++(some y).toArray++(some z).toArray).toList=[x,y,z]:=rfl
attribute [go_sem high] slOps011
end Go.Proofs.Ytdicomoggfhbfaa
