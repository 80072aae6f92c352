import Derived.Test.YtcckpmeepcoafaaDoorAvn
import Derived.Laws.Pointers
import Derived.Great.FillDense
namespace Go.Proofs.YtcckpmeepcoafaaDoor
open Go.RowKit
set_option linter.constructorNameAsVariable false
set_option linter.unusedVariables false
set_option linter.unusedSimpArgs false
/-! ### Parts of arrays -/
def subX (t:Ty) (x:El t):(u:Ty)→Nat→El u
  | .int _,j=>intAt t x j
  | .bool,j=>boolAt t x j
  | .unit,_=>()
  | .pair a b,j=>(subX t x a j,subX t x b (j+a.size))
  | .sl t,_=>([]:List (El t))
def putX (t:Ty):(u:Ty)→El t→Nat→El u→El t
  | .int _,x,j,v=>setInt t x j v
  | .bool,x,j,v=>setBool t x j v
  | .unit,x,_,_=>x
  | .pair a b,x,j,v=>putX t b (putX t a x j v.1) (j+a.size) v.2
  | .sl _,x,_,_=>x
theorem cx_sub {k:IntKind} {t:Ty} (x:El t) (hk:allInt k t=true):∀ (u:Ty) {j:Nat},allInt k u=true→j+u.size≤t.size→((cellsX t x).drop j).take u.size=cellsX u (subX t x u j)
  | .int q,j,hu,h=>by
    have e:q=k:=by simpa [allInt] using hu
    subst e
    exact cx_int x hk (by simp only [Ty.size] at h; omega)
  | .unit,j,hu,h=>rfl
  | .pair a b,j,hu,h=>by
    simp only [allInt,Bool.and_eq_true] at hu
    simp only [Ty.size] at h ⊢
    have h1:=cx_sub x hk a (j:=j) hu.1 (by omega)
    have h2:=cx_sub x hk b (j:=j+a.size) hu.2 (by omega)
    rw [List.take_add,h1,List.drop_drop,h2]
    rfl
theorem splice_two (l us vs:List AVal) (j:Nat) (h:j+us.length+vs.length≤l.length):splice l j (us++vs)=splice (splice l j us) (j+us.length) vs:=by
  unfold splice
  have h1:(l.take j++us).length=j+us.length:=by simp; omega
  have h2:(l.take j++us++l.drop (j+us.length)).drop (j+us.length+vs.length)=l.drop (j+us.length+vs.length):=by
    rw [← List.drop_drop,List.drop_left' h1,List.drop_drop]
  rw [List.take_left' h1,h2,List.length_append,show j+(us.length+vs.length)=j+us.length+vs.length by omega]
  simp only [List.append_assoc]
theorem splice_cons1 (a:AVal) (l us:List AVal) (x:Nat):splice (a::l) (x+1) us=a::splice l x us:=by
  unfold splice
  rw [show x+1+us.length=(x+us.length)+1 by omega,List.drop_succ_cons,List.take_succ_cons]; rfl
theorem splice_cxA {t:Ty} {n:Nat} (hn:t.size=n) (p:El t) (l us:List AVal) (x:Nat):splice (cellsX t p++l) (x+n) us=cellsX t p++splice l x us:=by
  rw [splice_app' _ _ _ _ (by rw [cellsX_len]; omega),cellsX_len,hn,Nat.add_sub_cancel]
theorem cx_put {k:IntKind} {t:Ty} (hk:allInt k t=true):∀ (u:Ty) (x:El t) {j:Nat} (v:El u),allInt k u=true→j+u.size≤t.size→splice (cellsX t x) j (cellsX u v)=cellsX t (putX t u x j v)
  | .int q,x,j,v,hu,h=>by
    have e:q=k:=by simpa [allInt] using hu
    subst e
    exact cx_setInt x v hk (by simp only [Ty.size] at h; omega)
  | .unit,x,j,v,hu,h=>by
    show splice (cellsX t x) j []=cellsX t x
    unfold splice; simp
  | .pair a b,x,j,v,hu,h=>by
    simp only [allInt,Bool.and_eq_true] at hu
    simp only [Ty.size] at h
    show splice (cellsX t x) j (cellsX a v.1++cellsX b v.2)=cellsX t (putX t b (putX t a x j v.1) (j+a.size) v.2)
    rw [splice_two _ _ _ _ (by rw [cellsX_len,cellsX_len,cellsX_len]; omega),cx_put hk a x v.1 hu.1 (by omega),cellsX_len,cx_put hk b _ v.2 hu.2 (by omega)]
def rowX (t:Ty) (x:El t):List Int:=(List.range t.size).map fun j=>intAt t x j
theorem rowX_len (t:Ty) (x:El t):(rowX t x).length=t.size:=by simp [rowX]
theorem takeEls_int {k:IntKind}:∀ (l:List Int) (r:List AVal),takeEls (.int k) l.length ((l.map fun z=>AVal.int k z)++r)=some l
  | [],r=>rfl
  | z::l,r=>by
    simp only [List.map_cons,List.length_cons,List.cons_append,takeEls,toEl,toInt,if_true,takeEls_int l r]
theorem cx_row {k:IntKind} {t:Ty} (x:El t) (hk:allInt k t=true):cellsX t x=(rowX t x).map fun z=>AVal.int k z:=by
  apply List.ext_getElem?
  intro j
  by_cases hj:j<t.size
  · have h1:=cx_int x hk hj
    have h2:(cellsX t x)[j]?=some (.int k (intAt t x j)):=by
      have:(((cellsX t x).drop j).take 1)[0]?=some (.int k (intAt t x j)):=by rw [h1]; rfl
      rw [List.getElem?_take_of_lt (by omega),List.getElem?_drop] at this
      exact this
    rw [h2]
    simp [rowX,hj]
  · rw [List.getElem?_eq_none (by rw [cellsX_len]; omega),List.getElem?_eq_none (by simp [rowX_len]; omega)]
theorem cx_els {k:IntKind} {t:Ty} (x:El t) (hk:allInt k t=true):takeEls (.int k) t.size (cellsX t x)=some (rowX t x):=by
  have h:=takeEls_int (k:=k) (rowX t x) []
  rw [rowX_len,List.append_nil] at h
  rw [cx_row x hk]
  exact h
/-! ### Variables that nobody writes -/
theorem gPtr_at (g o:Nat):gPtr (.pointer (some ⟨g,o,none⟩))=some (g,o):=rfl
theorem fieldsL_len:List.length fieldsL=7:=rfl
attribute [go_sem] gPtr_at globGet globs fieldsL_len Nat.add_zero
/-! ### Loops gone round a known number of times -/
section
variable {P:Program} {ro:Option Nat} {n:Nat} {c:Code} {Q:Exit→ASt→Prop} {s:ASt}
def LoopU (P:Program) (ro:Option Nat) (n:Nat) (c:Code) (Q:Exit→ASt→Prop):Nat→ASt→Prop
  | 0,s=>AW P ro n c (athen (fun _=>False) Q) s
  | k+1,s=>AW P ro n c (athen (fun s'=>LoopU P ro n c Q k s') Q) s
theorem LoopU.nx {k:Nat} (h:AW P ro n c (athen (fun s'=>LoopU P ro n c Q k s') Q) s):LoopU P ro n c Q (k+1) s:=h
theorem LoopU.at_ {k:Nat} (h:LoopU P ro n c Q k s):athen (fun s'=>LoopU P ro n c Q k s') Q .normal s:=h
theorem AW.unroll (k:Nat) (h:LoopU P ro n c Q k s):AW P ro n (.loop c) Q s:=by
  refine AW.loop (ι:={ p:Nat×ASt // LoopU P ro n c Q p.1 p.2 }) (fun x=>x.1.2) (fun _=>True) (fun x=>x.1.1) ⟨(k,s),h⟩ (Wk.refl n s) trivial ?_
  rintro ⟨⟨j,s1⟩,hj⟩ _
  cases j with
  | zero =>
    refine AW.mono hj fun e s2 hq=>?_
    cases e<;>first|exact hq.elim|exact hq
  | succ j =>
    refine AW.mono hj fun e s2 hq=>?_
    cases e
    case normal=>exact ⟨⟨(j,s2),hq⟩,trivial,Nat.lt_succ_self j,Wk.refl n s2⟩
    all_goals exact hq
end
/-! ### Operations -/
section
variable {P:Program} {T:Tab} {n:Nat} {ro:Option Nat} {Q:Exit→ASt→Prop} {σ:Nat→AVal} {H:AHeap} {g:Gh} {o:Oper} {ops rs:List Oper} {t e:TypeId} {i ie:TInfo}
def nilP:AVal→Option Bool
  | .bp _ _=>some false
  | .cv (.pointer none)=>some true
  | _=>none
theorem nilP_rep {η:Nat→Value} {w:World} {A:Nat→Prop} {x:AVal} {v:Value} {p:Bool} (h:nilP x=some p) (hv:RepV η w A x v):∃ q,v=.pointer q∧q.isNone=p:=by
  unfold nilP at h
  split at h
  · injection h with h; subst h
    unfold RepV at hv
    obtain ⟨g,_,rfl⟩:=hv
    exact ⟨_,rfl,rfl⟩
  · injection h with h; subst h
    unfold RepV at hv
    exact ⟨none,hv,rfl⟩
  · cases h
theorem AO.ptrNil (hd:dstOK n [o]=true) (hgd:o.guard=none∨∃ j tt want,o.guard=some (j,want)∧(ops[j]?).bind (·.dst)=some tt∧(ASt.mk σ H g).σ tt=.bool want) (hu:P.underlying t=some (.pointer (P.pointee t)))
    {x y:Operand} {z:Nat} {neg p:Bool} (ho:o.op=.binOp (if neg then .neq else .eql) t x y z) (hx:nilP ((ASt.mk σ H g).ev x)=some p) (hy:(ASt.mk σ H g).ev y=.cv (.pointer none))
    (h2:AO P ro n ops rs Q ((ASt.mk σ H g).app o.dst { v:=.bool (p != neg) })):AO P ro n ops (o::rs) Q ⟨σ,H,g⟩:=by
  intro m ds A0 L0 w0 η a w hq0 hr
  unfold wpListIn
  rw [if_pos (by
    rcases hgd with hg|⟨j,tt,want,h1,h3,h4⟩
    · exact op_guard hg _
    · exact wanted_of h1 h3 h4 hr)]
  obtain ⟨q,hxv,hq⟩:=nilP_rep hx (hr.ev x)
  have hyv:=hr.ev y
  rw [hy] at hyv
  unfold RepV at hyv
  cases neg with
  | false =>
    refine wpIn_value (u:=.bool (p != false)) (w':=w) (by simp [ho]) ?_ (h2 m ds A0 L0 w0 η _ w hq0 (hr.pure (dst_lt hd) (by unfold RepV; rfl)))
    have:=run_eql_pointer_nil (P:=P) w t q hu
    rw [hq] at this
    simp [execOp,ho,hxv,hyv,eqGuard,this]
  | true =>
    refine wpIn_value (u:=.bool (p != true)) (w':=w) (by simp [ho]) ?_ (h2 m ds A0 L0 w0 η _ w hq0 (hr.pure (dst_lt hd) (by unfold RepV; rfl)))
    have:=run_neq_pointer_nil (P:=P) w t q hu
    rw [hq] at this
    simp [execOp,ho,hxv,hyv,eqGuard,this]
theorem parts_rep {η:Nat→Value} {w:World} {A:Nat→Prop} {H:AHeap} (hH:∀ b B,H b=some B→RelBlk η w A B (η b)) {sz:Nat}:∀ (l:List AVal) (vs:List Value),(l.all fun v=>(cellsV v).all (AVal.cell H)&&decide ((cellsV v).length=sz))=true→RepVs η w A l vs →
    (∀ v∈vs,v.cells.size=sz)∧RepVs η w A (l.flatMap cellsV) (vs.flatMap fun v=>v.cells.toList)
  | [],vs,_,h=>by
    unfold RepVs at h; subst h
    exact ⟨fun v hv=>by simp at hv,RepVs.nil⟩
  | x::l,vs,hc,h=>by
    unfold RepVs at h
    obtain ⟨u,us,rfl,hx,hl⟩:=h
    simp only [List.all_cons,Bool.and_eq_true,decide_eq_true_eq] at hc
    obtain ⟨k1,k2⟩:=parts_rep hH l us hc.2 hl
    have hr:=cellsV_rep hH hc.1.1 hx
    refine ⟨fun v hv=>?_,?_⟩
    · rcases List.mem_cons.1 hv with rfl|hv
      · have:=hr.length; rw [hc.1.2] at this; simpa using this.symm
      · exact k1 v hv
    · rw [List.flatMap_cons,List.flatMap_cons]
      exact hr.append k2
theorem AO.buildBox (hT:TabOK P T) {d:Nat} (hdst:o.dst=some d) (hfew:d<1000) (hd:dstOK n [o]=true) (hg:o.guard=none) {len:Nat} {parts:Array (Nat×Operand)} (ho:o.op=.buildSlice t len parts) (ht:T t=some i) (hi:i.desc=.sl e) (he:T e=some ie)
    (hz:0<ie.size) (hlen:0<len) (hix:parts.toList.map (·.1)=List.range len) (hsm:len*ie.size≤16777216) {cs:List AVal} (hcs:(parts.toList.map fun p=>(ASt.mk σ H g).ev p.2).flatMap cellsV=cs)
    (hall:((parts.toList.map fun p=>(ASt.mk σ H g).ev p.2).all fun v=>(cellsV v).all (AVal.cell H)&&decide ((cellsV v).length=ie.size))=true) (hno:AVal.hasL cs d=false)
    (h2:AO P ro n ops rs Q ((ASt.mk σ H g).app (some d) { v:=.vw d ie.size 0 len,kill:=[d],hp:=[(d,.box e cs)] })):AO P ro n ops (o::rs) Q ⟨σ,H,g⟩:=by
  intro m ds A0 L0 w0 η a w hq0 hr
  unfold wpListIn
  rw [if_pos (op_guard hg _)]
  have hep:=evparts hr parts.toList
  generalize hvs:parts.toList.map (fun p=>a.eval p.2)=vs at hep
  obtain ⟨k1,k2⟩:=parts_rep (H:=H) (fun b B hb=>hr.hp.blk b B hb) _ vs hall hep
  rw [hcs] at k2
  have hvl:vs.length=len:=by rw [← hvs]; have:=congrArg List.length hix; simpa using this
  obtain ⟨info,zz,dd,hinf,hsz,hby,hzr,hzz,_⟩:=(hT e ie he).ex
  have hrun:(Instr.buildSlice t len (parts.map fun p=>(p.1,a.eval p.2))).run P w=.ok (.slice (some ⟨w.heap.size,0,none⟩) len len) (w.alloc (.cells (vs.flatMap fun v=>v.cells.toList).toArray e)):=by
    refine run_buildSlice w t e len _ _ info zz ((hT t i ht).slice hi) hinf hzr (by rw [hsz]; omega) (by rw [hsz]; exact fun h0=>(Nat.mul_eq_zero.1 h0).elim (by omega) (by omega)) ?_
    have hvp:(parts.map fun p=>(p.1,a.eval p.2)).toList=(vs.zipIdx 0).map fun x=>(x.2,x.1):=by
      have:=zip_parts (parts.toList.map fun p=>(p.1,a.eval p.2)) 0 (by
        rw [List.map_map,List.length_map,show ((fun x:Nat×Value=>x.1) ∘ fun p:Nat×Operand=>(p.1,a.eval p.2))=(fun p=>p.1) from rfl,hix,← List.range_eq_range']
        congr 1
        have:=congrArg List.length hix
        simpa using this.symm)
      rw [Array.toList_map,this,List.map_map,← hvs]
      rfl
    rw [hvp,hsz]
    exact Great.fill_whole hz vs _ k1 (by simp [hvl])
  have hη:∀ b,[d].contains b=false→setη η d (.pointer (some ⟨w.heap.size,0,none⟩)) b=η b:=fun b hb=>setη_other _ _ (by simpa using hb)
  have hrel:=hr.eff (e:={ v:=.vw d ie.size 0 len,kill:=[d],hp:=[(d,.box e cs)] }) (d:=some d) (nid:=d) (u:=.slice (some ⟨w.heap.size,0,none⟩) len len) (w':=w.alloc (.cells (vs.flatMap fun v=>v.cells.toList).toArray e)) (fun i hi=>dst_lt hd i (by rw [hdst]; exact hi)) hη ⟨rfl,rfl,rfl⟩ (by simp) (fun g hg=>.inl (heap_alloc_old _ _ _ hg)) (by
      intro b B g hb hm hg
      simp only [hpGet] at hb
      split at hb
      · rename_i e0
        subst e0
        rw [setη_same] at hg
        injection hg with hg
        exact .inr ⟨Nat.le_of_eq hg,rfl⟩
      · cases hb) (by
      intro k b B hb
      simp only [hpGet] at hb
      split at hb
      · rename_i e0
        subst e0
        injection hb with hb
        subst hb
        rw [setη_same]
        refine ⟨_,_,rfl,heap_alloc_new _ _,?_⟩
        rw [show (vs.flatMap fun v=>v.cells.toList).toArray.toList=(vs.flatMap fun v=>v.cells.toList) from rfl]
        exact RepVs.step k _ _ (fun c hc'=>setη_other _ _ fun e0=>by subst e0; rw [hno] at hc'; cases hc') k2
      · cases hb) (by
      intro k
      unfold RepV
      refine ⟨some ⟨w.heap.size,0,none⟩,len,rfl,Nat.le_refl _,?_,fun _=>⟨w.heap.size,.inr (setη_same _ _ _),by rw [Nat.zero_mul]⟩⟩
      have:=Nat.mul_le_mul_left len hz
      unfold maxLen; omega) hfew (fun b hb _=>by simpa using hb) (fun b hb hs=>by simp only [hpGet,hb,if_false] at hs; cases hs)
  refine wpIn_value (u:=.slice (some ⟨w.heap.size,0,none⟩) len len) (by simp [ho]) ?_ (h2 m ds A0 L0 w0 _ _ _ hq0 (by rw [hdst]; exact hrel))
  simp [execOp,ho,hrun]
theorem AO.idxBox (hT:TabOK P T) (hd:dstOK n [o]=true) (hg:o.guard=none) {x y:Operand} (ho:o.op=.indexAddr t x y) (ht:T t=some i) (hi:i.desc=.sl e) (he:T e=some ie) {b lo m:Nat} (hx:(ASt.mk σ H g).ev x=.vw b ie.size lo m) {ty:TypeId} {cs:List AVal} (hb:H b=some (.box ty cs))
    {k:IntKind} {q:Int} (hy:(ASt.mk σ H g).ev y=.int k q) (h0:0≤q) (h1:q<(m:Int)) {at_:Nat} (ha:(lo+q.toNat)*ie.size=at_)
    (h2:AO P ro n ops rs Q ((ASt.mk σ H g).app o.dst { v:=.bp b at_ })):AO P ro n ops (o::rs) Q ⟨σ,H,g⟩:=by
  intro m0 ds A0 L0 w0 η a w hq0 hr
  unfold wpListIn
  rw [if_pos (op_guard hg _)]
  have hxv:=hr.ev x
  have hyv:=hr.ev y
  rw [hx] at hxv
  rw [hy] at hyv
  unfold RepV at hxv hyv
  obtain ⟨a',c,hxv,_,_,hxx⟩:=hxv
  obtain ⟨g0,hg0,rfl⟩:=hxx (by omega)
  obtain ⟨g',vs,e1,_⟩:=hr.hp.blk b _ hb
  rcases hg0 with ⟨_,_,hg0⟩|hg0
  · rw [e1] at hg0; cases hg0
  have hrun:=run_indexAt_sl hT ht hi he g0 (lo*ie.size) m c k q h0 h1 w
  refine wpIn_value (w':=w) (by simp [ho]) ?_ (h2 m0 ds A0 L0 w0 η _ w hq0 (hr.pure (u:=.pointer (some ⟨g0,lo*ie.size+q.toNat*ie.size,none⟩)) (dst_lt hd) (by unfold RepV; exact ⟨g0,hg0,by rw [← ha,Nat.add_mul]⟩)))
  simp [execOp,ho,hxv,hyv,hrun]
end
end Go.Proofs.YtcckpmeepcoafaaDoor
