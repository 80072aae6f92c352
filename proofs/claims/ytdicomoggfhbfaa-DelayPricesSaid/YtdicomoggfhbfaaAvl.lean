import Derived.Test.YtdicomoggfhbfaaAvk
namespace Go.Proofs.Ytdicomoggfhbfaa
open Go.RowKit
set_option linter.constructorNameAsVariable false
set_option linter.unusedVariables false
section
variable {P:Program} {T:Tab} {n:Nat} {ds:List Deferred} {A0 L0:Nat→Prop} {w0:Old} {η:Nat→Value} {s:ASt} {a:Act} {w:World}
theorem Rel.clear (hT:TabOK P T) (h:Rel n ds A0 L0 w0 η s a w) {d:Option Nat} (hd:∀ i,d=some i→i<n) {t e ty:TypeId} {i ie:TInfo} (ht:T t=some i) (hdd:i.desc=.sl e) (he:T e=some ie) {τ:Ty} (hτ:ie.dt=some τ)
  {b lo m:Nat} {xv:Value} (hx:RepV η w (Av A0 η s.H) (.vw b τ.size lo m) xv) {e':TypeId} {xs:List (El τ)} (hb:s.H b=some (.arr e' τ xs)) (hm:0<m) (hfit:lo+m≤xs.length) :
  ∃ w',(Builtin.clear_ #[t] ty #[xv]).run P w=.ok (.tuple #[]) w'∧Rel n ds A0 L0 w0 η (s.app d { v:=.un,hp:=[(b,.arr e' τ (xs.take lo++List.replicate m τ.dflt++xs.drop (lo+m)))] }) (a.put d (.tuple #[])) w':=by
 unfold RepV at hx
 obtain ⟨a',c0,rfl,_,_,hx⟩:=hx
 obtain ⟨g,hη,rfl⟩:=hx hm
 have hH:∀ b B,s.H b=some B→RelBlk η w (Av A0 η s.H) B (η b):=fun b B hb=>h.hp.blk b B hb
 rcases hH b _ hb with ⟨e1,_⟩|⟨g',cap,cur,e1,e2,e3,e4,e5,e6⟩
 ·subst e1; simp at hfit; omega
 rcases hη with ⟨n',c',hη⟩|hη
 case inr=>rw [e1] at hη; cases hη
 have hgg:g'=g:=by rw [e1] at hη; injection hη with q1; injection q1 with q1; injection q1 with q1
 subst hgg
 have hte:=hT e ie he
 obtain ⟨info,z,dd,hi,hsz,hby,hz,hzz,_⟩:=hte.ex
 obtain ⟨d1,d2,d3⟩:=hte.dt τ hτ
 have hzs:z.cells.size=τ.size:=by
  have:=hte.zsize
  rw [← hzz] at this
  rw [d1]; simpa using this
 obtain ⟨Z,hZ⟩:∃ Z,Z=(Builtin.zeroCells z.cells m).toList:=⟨_,rfl⟩
 have hZl:Z.length=m*τ.size:=by rw [hZ]; simp [Builtin.zeroCells,hzs]
 have hzr:RepVs η w (Av A0 η s.H) (cellsOf τ τ.dflt) z.cells.toList:=by rw [hzz,d2]; exact zcells_rep τ
 have hzo:=data_oneCell τ τ.dflt _ hzr
 have hZq:∀ q,q<m*τ.size→∃ u,Z[q]?=some u∧z.cells.toList[q % τ.size]?=some u:=by
  intro q hq
  have h1:q % τ.size<z.cells.size:=by rw [hzs]; exact Nat.mod_lt _ d3
  refine ⟨z.cells[q % τ.size],?_,by rw [Array.getElem?_toList]; exact Array.getElem?_eq_getElem h1⟩
  rw [hZ]
  simp only [Builtin.zeroCells,Array.toList_map,Array.toList_range,List.getElem?_map,hzs]
  rw [List.getElem?_range hq,Option.map_some,getElem!_pos z.cells (q % τ.size) h1]
 have hone:∀ v∈Z,v.oneCell'=true:=by
  intro v hv
  obtain ⟨q,hq,hqv⟩:=List.mem_iff_getElem.1 hv
  obtain ⟨u,h1,h2⟩:=hZq q (by omega)
  rw [List.getElem?_eq_getElem hq] at h1
  injection h1 with h1
  rw [← hqv,h1]
  exact hzo u (List.mem_of_getElem? h2)
 have hmul:(lo+m)*τ.size≤cap*τ.size:=Nat.mul_le_mul_right _ (by omega)
 rw [Nat.add_mul] at hmul
 have hst:=run_storeCells_at P g' (lo*τ.size) e' Z 0 cur w e2 (by rw [hZl]; omega) hone
 simp only [Nat.add_zero] at hst
 obtain ⟨m',rfl⟩:∃ m',m=m'+1:=⟨m - 1,by omega⟩
 refine ⟨w.setRow g' (cur.toList.take (lo*τ.size)++Z++cur.toList.drop (lo*τ.size+Z.length)).toArray,by simp [Builtin.clear_,run_underlying ((hT t i ht).slice hdd),zeroValue,typeInfo,hi,hz,← hZ,hst],?_⟩
 generalize hM:m'+1=m at *
 have hrow:(w.setRow g' (cur.toList.take (lo*τ.size)++Z++cur.toList.drop (lo*τ.size+Z.length)).toArray).heap[g']?=_:=setRow_heap w g' _ _ _ _ e2
 have hcell:∀ q,(w.setRow g' (cur.toList.take (lo*τ.size)++Z++cur.toList.drop (lo*τ.size+Z.length)).toArray).cell? ⟨g',q,none⟩=if lo*τ.size≤q∧q<lo*τ.size+m*τ.size then Z[q - lo*τ.size]? else cur[q]?:=by
  intro q
  rw [cell_of_row _ g' q _ _ _ hrow,List.getElem?_toArray,splice_get cur.toList Z (lo*τ.size) q (by rw [hZl]; simp; omega),hZl,← Array.getElem?_toList (xs:=cur)]
 have hlen:(xs.take lo++List.replicate m τ.dflt++xs.drop (lo+m)).length=xs.length:=by simp; omega
 refine h.eff (nid:=0) hd (fun _ _=>rfl) ⟨rfl,rfl,rfl⟩ (by simp [World.setRow]) (fun k hk=>?_) (fun b' B gg hb' hm' hg'=>?_) ?_ (fun _=>by unfold RepV; trivial) (hhn:=fun b' _ hs=>by
  simp only [hpGet] at hs
  split at hs
  ·rename_i e; subst e; rw [hb]; rfl
  ·cases hs)
 ·by_cases hkg:k=g'
  ·subst hkg
   exact .inr ⟨b,_,hb,rfl,by rw [e1]; rfl,.inl (by simp [hpGet])⟩
  ·exact .inl (setRow_same w g' k _ hkg)
 ·simp only [hpGet] at hb'
  split at hb'
  ·rename_i e; subst e
   exact .inl ⟨_,_,hb,rfl,hg',.inl rfl⟩
  ·cases hb'
 ·intro k b' B' hb'
  simp only [hpGet] at hb'
  split at hb'
  ·rename_i e
   subst e
   injection hb' with hb'
   subst hb'
   refine .inr ⟨g',cap,_,by rw [e1,hlen],hrow,by rw [hlen]; exact e3,e4,?_,fun q x hq=>?_⟩
   ·simp only [List.size_toArray,List.length_append,List.length_take,List.length_drop,Array.length_toList,hZl]
    omega
   ·by_cases hin:lo≤q∧q<lo+m
    ·have hxq:x=τ.dflt:=by
      rw [List.append_assoc,List.getElem?_append_right (by simp; omega),List.getElem?_append_left (by simp; omega)] at hq
      have:=List.mem_of_getElem? hq
      exact List.eq_of_mem_replicate this
     subst hxq
     refine RepAt.of_cells (η:=η) τ τ.dflt g' _ z.cells.toList (fun p u hp=>?_) (RepVs.data (η':=η) k hzr)
     have hpl:p<τ.size:=by have:=(List.getElem?_eq_some_iff.1 hp).1; simpa [hzs] using this
     have h1:=Nat.mul_le_mul_right τ.size hin.1
     have h2:=Nat.mul_le_mul_right τ.size (show q+1≤lo+m by omega)
     rw [Nat.add_mul,Nat.one_mul,Nat.add_mul] at h2
     rw [hcell,if_pos (by omega)]
     obtain ⟨u',h3,h4⟩:=hZq (q*τ.size+p - lo*τ.size) (by omega)
     rw [h3]
     have h5:(q*τ.size+p - lo*τ.size) % τ.size=p:=by
      rw [show q*τ.size+p - lo*τ.size=τ.size*(q - lo)+p by rw [Nat.mul_comm τ.size,Nat.sub_mul]; omega,Nat.mul_add_mod,Nat.mod_eq_of_lt hpl]
     rw [h5,hp] at h4
     exact h4.symm
    ·have hq':xs[q]?=some x:=by
      have hql:q<xs.length:=by rw [← hlen]; exact (List.getElem?_eq_some_iff.1 hq).1
      rcases Nat.lt_or_ge q lo with hlt|hge
      ·rw [List.append_assoc,List.getElem?_append_left (by simp; omega),List.getElem?_take,if_pos hlt] at hq
       exact hq
      ·rw [List.getElem?_append_right (by simp; omega),List.getElem?_drop] at hq
       rw [← hq]
       congr 1
       simp
       omega
     obtain ⟨vs,hvc,hvr⟩:=RepAt.cells η τ x g' _ (e6 q _ hq')
     have hvl:vs.length=τ.size:=by rw [← hvr.length,cellsOf_len]
     refine RepAt.of_cells τ x g' _ vs (fun p u hp=>?_) (RepVs.data (η':=η) k hvr)
     have hpl:p<τ.size:=by rw [← hvl]; exact (List.getElem?_eq_some_iff.1 hp).1
     rw [hcell,if_neg ?_]
     ·have:=hvc p u hp
      rwa [cell_of_row w g' _ cur e' _ e2] at this
     ·rcases Nat.lt_or_ge q lo with hlt|hgt
      ·have:=Nat.mul_le_mul_right τ.size (show q+1≤lo by omega)
       rw [Nat.add_mul,Nat.one_mul] at this
       omega
      ·have:=Nat.mul_le_mul_right τ.size (show lo+m≤q by omega)
       rw [Nat.add_mul] at this
       omega
  ·cases hb'
end
section
variable {P:Program} {T:Tab} {n:Nat} {ro:Option Nat} {Q:Exit→ASt→Prop} {σ:Nat→AVal} {H:AHeap} {g:Gh} {o:Oper} {ops rs:List Oper} {t e:TypeId} {i ie:TInfo} {τ:Ty}
theorem AO.clearView (hT:TabOK P T) (hd:dstOK n [o]=true) (hg:o.guard=none) {c:Call} (ho:o.op=.call c) (hc:c.callee=.builtin .clear) {x:Operand} (ha:c.args=#[x]) (hty:c.argTypes=#[t]) (ht:T t=some i) (hi:i.desc=.sl e)
  (he:T e=some ie) (hτ:ie.dt=some τ) {b lo m:Nat} (hx:(ASt.mk σ H g).ev x=.vw b τ.size lo m) {e':TypeId} {xs:List (El τ)} (hb:H b=some (.arr e' τ xs)) (hm:0<m) (hfit:lo+m≤xs.length)
  (h2:AO P ro n ops rs Q ((ASt.mk σ H g).app o.dst { v:=.un,hp:=[(b,.arr e' τ (xs.take lo++List.replicate m τ.dflt++xs.drop (lo+m)))] })):AO P ro n ops (o::rs) Q ⟨σ,H,g⟩:=by
 intro mm ds A0 L0 w0 η a w hq0 hr
 unfold wpListIn
 rw [if_pos (op_guard hg _)]
 have hxv:=hr.ev x
 rw [hx] at hxv
 obtain ⟨w',hrun,hrel⟩:=Rel.clear (ty:=o.type) hT hr (d:=o.dst) (dst_lt hd) ht hi he hτ hxv (show (ASt.mk σ H g).H b=_ from hb) hm hfit
 refine wpIn_value (w':=w') (by simp [ho]) ?_ (h2 mm ds A0 L0 w0 η _ w' hq0 hrel)
 simp [execOp,ho,resolve,hc,ha,hty,invoke,builtin,hrun]
theorem AO.aggEqG (E:EqTy P t τ) [DecidableEq (El τ)] (hd:dstOK n [o]=true) (hgd:o.guard=none∨∃ j tt want,o.guard=some (j,want)∧(ops[j]?).bind (·.dst)=some tt∧(ASt.mk σ H g).σ tt=.bool want) {x y:Operand} {z:Nat} {neg:Bool} (ho:o.op=.binOp (if neg then .neq else .eql) t x y z) {lx ly:List AVal} (hx:(ASt.mk σ H g).ev x=.agg lx) (hy:(ASt.mk σ H g).ev y=.agg ly)
  {u v:El τ} (hu:toEl H τ lx=some (u,[])) (hv:toEl H τ ly=some (v,[])) (ku:okD τ u) (kv:okD τ v)
  (h2:AO P ro n ops rs Q ((ASt.mk σ H g).app o.dst { v:=.bool (if neg then !decide (u=v) else decide (u=v)) })):AO P ro n ops (o::rs) Q ⟨σ,H,g⟩:=by
 intro m ds A0 L0 w0 η a w hq0 hr
 unfold wpListIn
 rw [if_pos (by
  rcases hgd with hg|⟨j,tt,want,h1,h3,h4⟩
  ·exact op_guard hg _
  ·exact wanted_of h1 h3 h4 hr)]
 have hxv:=hr.ev x
 have hyv:=hr.ev y
 rw [hx] at hxv
 rw [hy] at hyv
 have e1:=unpack_pv (ag:=true) E.dry (.inl rfl) (show unpackA true (.agg lx) lx from ⟨rfl,rfl⟩) hu hxv
 have e2:=unpack_pv (ag:=true) E.dry (.inl rfl) (show unpackA true (.agg ly) ly from ⟨rfl,rfl⟩) hv hyv
 have heq:=run_eq_data E ku kv w
 simp only [pv,if_true] at e1 e2
 cases neg with
 | false =>
  refine wpIn_value (u:=.bool (decide (u=v))) (w':=w) (by simp [ho]) ?_ (h2 m ds A0 L0 w0 η _ w hq0 (hr.pure (dst_lt hd) (by unfold RepV; rfl)))
  simp [execOp,ho,e1,e2,eqGuard,E.guard,binOp,heq]
 | true =>
  refine wpIn_value (u:=.bool (!decide (u=v))) (w':=w) (by simp [ho]) ?_ (h2 m ds A0 L0 w0 η _ w hq0 (hr.pure (dst_lt hd) (by unfold RepV; rfl)))
  simp [execOp,ho,e1,e2,eqGuard,E.guard,binOp,heq]
end
end Go.Proofs.Ytdicomoggfhbfaa
