import Derived.Test.YtdicomoggfhbfaaAvc
import Derived.Lib.AppendZeros
import Derived.WideKeyArr2
import Derived.Laws.StructEq
import Derived.DeepKeys3
/-! The check of a region that draws its order,with a table of what waits for what. No program is named here. -/
namespace Go.Proofs.Ytdicomoggfhbfaa
open Go.RowKit
set_option linter.unusedVariables false
def ancOf (tb:List Nat) (oi:Oper):Nat :=
 oi.after.toList.foldl (fun m e=>if Region.binds .any e&&decide (e.on<tb.length) then (m ||| 2 ^ e.on) ||| tb.getD e.on 0 else m) 0
def ancs (ops:List Oper):List Nat:=ops.foldl (fun tb oi=>tb++[ancOf tb oi]) []
def freeT (ops:Array Oper) (X F:List (Nat×List Nat)) (tb:List Nat) (listed:Array Bool) (i:Nat):Bool :=
 match ops[i]? with
 | none=>false
 | some oi=>(List.range ops.size).all fun j=>j==i || listed.getD j true || (tb.getD j 0).testBit i || match ops[j]? with
   | some oj=>oi.apart ops oj&&compat X F (blindB oi) (blindB oj) i j
   | none=>true
def lexFromT (ops:Array Oper) (X F:List (Nat×List Nat)) (tb:List Nat):Nat→Nat→Array Bool→Bool
 | 0,_,listed=>(Region.ready .any ops listed).isEmpty
 | fuel+1,k,listed=>(Region.ready .any ops listed).contains k&&freeT ops X F tb listed k&&lexFromT ops X F tb fuel (k+1) (listed.setIfInBounds k true)
def lexT (ops:List Oper) (X F:List (Nat×List Nat)):Bool:=lexFromT ops.toArray X F (ancs ops) ops.length 0 (Array.replicate ops.length false)
theorem waitsB_mono {ops:Array Oper}:∀ {n m j i:Nat},n≤m→waitsB ops n j i=true→waitsB ops m j i=true
 | 0,m,j,i,_,h=>by cases h
 | n+1,0,j,i,hm,_=>by omega
 | n+1,m+1,j,i,hm,h=>by
  unfold waitsB at h ⊢
  cases hj:ops[j]? with
  | none=>rw [hj] at h; cases h
  | some oj =>
   rw [hj] at h
   simp only [Bool.or_eq_true,Array.any_eq_true,Bool.and_eq_true] at h ⊢
   rcases h with h|⟨k,hk,h1,h2⟩
   ·exact .inl h
   ·exact .inr ⟨k,hk,h1,waitsB_mono (by omega) h2⟩
theorem anc_bit (tb:List Nat) (i:Nat):∀ (l:List Edge) (m:Nat),(l.foldl (fun m e=>if Region.binds .any e&&decide (e.on<tb.length) then (m ||| 2 ^ e.on) ||| tb.getD e.on 0 else m) m).testBit i=true →
  m.testBit i=true∨∃ e∈l,Region.binds .any e=true∧e.on<tb.length∧(e.on=i∨(tb.getD e.on 0).testBit i=true)
 | [],m,h=>.inl h
 | e::l,m,h=>by
  rw [List.foldl_cons] at h
  rcases anc_bit tb i l _ h with h|⟨e',h1,h2⟩
  ·split at h
   ·rename_i hc
    simp only [Bool.and_eq_true,decide_eq_true_eq] at hc
    rw [Nat.testBit_or,Nat.testBit_or,Bool.or_eq_true,Bool.or_eq_true,Nat.testBit_two_pow,decide_eq_true_eq] at h
    rcases h with (h|h)|h
    ·exact .inl h
    ·exact .inr ⟨e,by simp,hc.1,hc.2,.inl h⟩
    ·exact .inr ⟨e,by simp,hc.1,hc.2,.inr h⟩
   ·exact .inl h
  ·exact .inr ⟨e',by simp [h1],h2⟩
theorem ancs_snoc (l:List Oper) (o:Oper):ancs (l++[o])=ancs l++[ancOf (ancs l) o]:=by simp [ancs]
theorem ancs_len (l:List Oper):(ancs l).length=l.length:=by
 have:∀ (l:List Oper) (tb:List Nat),(l.foldl (fun tb oi=>tb++[ancOf tb oi]) tb).length=tb.length+l.length:=by
  intro l
  induction l with
  | nil=>intro tb; rfl
  | cons o l ih=>intro tb; rw [List.foldl_cons,ih]; simp; omega
 simpa [ancs] using this l []
theorem ancs_ok (ops:List Oper):∀ (k:Nat),k≤ops.length→∀ (j i:Nat),j<k→((ancs (ops.take k)).getD j 0).testBit i=true→waitsB ops.toArray (j+1) j i=true:=by
 intro k
 induction k with
 | zero=>intro _ j i hj; omega
 | succ k ih =>
  intro hk j i hj h
  have hlt:k<ops.length:=by omega
  have ih:=ih (by omega)
  have e1:ops.take (k+1)=ops.take k++[ops[k]]:=by rw [List.take_add_one]; simp [hlt]
  have hl:(ancs (ops.take k)).length=k:=by rw [ancs_len,List.length_take]; omega
  rw [e1,ancs_snoc] at h
  rcases Nat.lt_or_ge j k with hjk|hjk
  ·rw [List.getD,List.getElem?_append_left (by omega)] at h
   exact ih j i hjk h
  ·obtain rfl:j=k:=by omega
   rw [List.getD,List.getElem?_append_right (by omega),hl] at h
   simp only [Nat.sub_self,List.getElem?_cons_zero,Option.getD_some] at h
   unfold ancOf at h
   rcases anc_bit _ i _ 0 h with h|⟨e,he,hb,hon,h⟩
   ·simp at h
   ·rw [hl] at hon
    unfold waitsB
    have hj':ops.toArray[j]?=some ops[j]:=by simp [hlt]
    rw [hj']
    simp only [Bool.or_eq_true,Array.any_eq_true]
    obtain ⟨q,hq,rfl⟩:=List.getElem_of_mem he
    have hq':q<ops[j].after.size:=by simpa using hq
    rcases h with h|h
    ·exact .inl ⟨q,hq',by simp only [Array.getElem_toList] at hb h ⊢; simp [hb,h]⟩
    ·refine .inr ⟨q,hq',?_⟩
     simp only [Array.getElem_toList] at hb h hon ⊢
     simp only [hb,Bool.true_and]
     exact waitsB_mono (by omega) (ih _ i hon h)
theorem freeT_free {ops:List Oper} {X F:List (Nat×List Nat)} {listed:Array Bool} {i:Nat} (h:freeT ops.toArray X F (ancs ops) listed i=true):freeE ops.toArray X F listed i=true:=by
 unfold freeT at h
 unfold freeE
 cases hi:ops.toArray[i]? with
 | none=>rw [hi] at h; exact h
 | some oi =>
  rw [hi] at h
  simp only [List.all_eq_true] at h ⊢
  intro j hj
  have:=h j hj
  have hjl:j<ops.length:=by simpa using List.mem_range.1 hj
  cases hoj:ops.toArray[j]? with
  | none=>simp
  | some oj =>
   rw [hoj] at this
   simp only [Bool.or_eq_true] at this ⊢
   rcases this with (h1|h1)|h1
   ·exact .inl h1
   ·refine .inr (.inl ?_)
    have:=ancs_ok ops ops.length (Nat.le_refl _) j i hjl (by rw [List.take_length]; exact h1)
    exact waitsB_mono (by rw [List.size_toArray]; omega) this
   ·exact .inr (.inr h1)
theorem lexFromT_lex {ops:List Oper} {X F:List (Nat×List Nat)}:∀ {fuel k:Nat} {listed:Array Bool},lexFromT ops.toArray X F (ancs ops) fuel k listed=true→lexFromE ops.toArray X F fuel k listed=true
 | 0,k,listed,h=>h
 | fuel+1,k,listed,h=>by
  unfold lexFromT at h
  unfold lexFromE
  simp only [Bool.and_eq_true] at h ⊢
  exact ⟨⟨h.1.1,freeT_free h.1.2⟩,lexFromT_lex h.2⟩
theorem lex_fast {ops:List Oper} {X F:List (Nat×List Nat)} (h:lexT ops X F=true):lexE ops X F=true:=lexFromT_lex h
end Go.Proofs.Ytdicomoggfhbfaa
/-! The abstract machine,26: arrays as data; fuel of functions that call themselves. No program is named here. -/
namespace Go.Proofs.Ytdicomoggfhbfaa
open Go.RowKit
set_option linter.constructorNameAsVariable false
set_option linter.unusedVariables false
set_option linter.unusedSimpArgs false
def fuel:Nat:=100
def prodT:Nat→Ty→Ty
 | 0,_=>.unit
 | 1,t=>t
 | n+2,t=>.pair t (prodT (n+1) t)
def cellsX (t:Ty) (x:El t):List AVal:=cellsOf t x
theorem cellsX_len (t:Ty) (x:El t):(cellsX t x).length=t.size:=cellsOf_len t x
def intAt:(t:Ty)→El t→Nat→Int
 | .int _,n,_=>n
 | .bool,_,_=>0
 | .unit,_,_=>0
 | .pair a b,x,j=>if j<a.size then intAt a x.1 j else intAt b x.2 (j - a.size)
 | .sl _,_,_=>0
def boolAt:(t:Ty)→El t→Nat→Bool
 | .int _,_,_=>false
 | .bool,p,_=>p
 | .unit,_,_=>false
 | .pair a b,x,j=>if j<a.size then boolAt a x.1 j else boolAt b x.2 (j - a.size)
 | .sl _,_,_=>false
def setInt:(t:Ty)→El t→Nat→Int→El t
 | .int _,_,_,v=>v
 | .bool,p,_,_=>p
 | .unit,_,_,_=>()
 | .pair a b,x,j,v=>if j<a.size then (setInt a x.1 j v,x.2) else (x.1,setInt b x.2 (j - a.size) v)
 | .sl _,x,_,_=>x
def setBool:(t:Ty)→El t→Nat→Bool→El t
 | .int _,n,_,_=>n
 | .bool,_,_,v=>v
 | .unit,_,_,_=>()
 | .pair a b,x,j,v=>if j<a.size then (setBool a x.1 j v,x.2) else (x.1,setBool b x.2 (j - a.size) v)
 | .sl _,x,_,_=>x
def allInt (k:IntKind):Ty→Bool
 | .int q=>q==k
 | .bool=>false
 | .unit=>true
 | .pair a b=>allInt k a&&allInt k b
 | .sl _=>false
def allBool:Ty→Bool
 | .int _=>false
 | .bool=>true
 | .unit=>true
 | .pair a b=>allBool a&&allBool b
 | .sl _=>false
/-! ### What is asked of cells -/
theorem idsL_cx (t:Ty) (x:El t):AVal.idsL (cellsX t x)=[]:=cellsOf_ids t x
theorem hasL_cx (t:Ty) (x:El t) (c:Nat):AVal.hasL (cellsX t x) c=false:=no_ids (cellsOf_ids t x) c
theorem renL_append (f:Nat→Nat):∀ (l m:List AVal),AVal.renL f (l++m)=AVal.renL f l++AVal.renL f m
 | [],m=>rfl
 | x::l,m=>by simp [AVal.renL,renL_append f l m]
theorem renL_cx (f:Nat→Nat):∀ (t:Ty) (x:El t),AVal.renL f (cellsX t x)=cellsX t x
 | .int _,_=>rfl
 | .bool,_=>rfl
 | .unit,_=>rfl
 | .pair a b,x=>by
  have h1:=renL_cx f a x.1
  have h2:=renL_cx f b x.2
  unfold cellsX at *
  simp only [cellsOf,renL_append,h1,h2]
 | .sl _,_=>rfl
theorem dryL_append:∀ (l m:List AVal),AVal.dryL (l++m)=(AVal.dryL l&&AVal.dryL m)
 | [],m=>rfl
 | x::l,m=>by simp [AVal.dryL,dryL_append l m,Bool.and_assoc]
theorem dryL_cx:∀ (t:Ty) (x:El t),AVal.dryL (cellsX t x)=t.dry
 | .int _,_=>rfl
 | .bool,_=>rfl
 | .unit,_=>rfl
 | .pair a b,x=>by
  have h1:=dryL_cx a x.1
  have h2:=dryL_cx b x.2
  unfold cellsX at *
  simp only [cellsOf,dryL_append,h1,h2,Ty.dry]
 | .sl _,_=>rfl
theorem cell_cx (H:AHeap):∀ (t:Ty) (x:El t),(cellsX t x).all (AVal.cell H)=true
 | .int _,_=>rfl
 | .bool,_=>rfl
 | .unit,_=>rfl
 | .pair a b,x=>by
  have h1:=cell_cx H a x.1
  have h2:=cell_cx H b x.2
  unfold cellsX at *
  simp only [cellsOf,List.all_append,h1,h2,Bool.and_self]
 | .sl _,_=>rfl
theorem toEl_app (H:AHeap):∀ (t:Ty) (x:El t) (r:List AVal),toEl H t (cellsX t x++r)=some (x,r)
 | .int k,_,_=>by simp [toEl,toInt,cellsX,cellsOf]
 | .bool,_,_=>by simp [toEl,toBool,cellsX,cellsOf]
 | .unit,_,_=>rfl
 | .pair a b,x,r=>by
  have h1:=toEl_app H a x.1 (cellsX b x.2++r)
  have h2:=toEl_app H b x.2 r
  unfold cellsX at *
  simp only [cellsOf,List.append_assoc,toEl,h1,h2]
 | .sl t,_,_=>by simp [toEl,toSl,cellsX,cellsOf]
theorem toEl_cx (H:AHeap) (t:Ty) (x:El t):toEl H t (cellsX t x)=some (x,[]):=by
 have:=toEl_app H t x []
 rwa [List.append_nil] at this
theorem clean_cx (K:List Nat) (t:Ty) (x:El t):(cellsX t x).map (AVal.clean K)=cellsX t x:=by
 have:∀ (l:List AVal),AVal.idsL l=[]→l.map (AVal.clean K)=l:=by
  intro l
  induction l with
  | nil=>intro _; rfl
  | cons y r ih =>
   intro h
   simp only [AVal.idsL,List.append_eq_nil_iff] at h
   rw [List.map_cons,ih h.2]
   have hy:y.clean K=y:=by
    unfold AVal.clean
    rw [if_neg]
    intro hc
    obtain ⟨b,_,hb⟩:=List.any_eq_true.1 hc
    have:=mem_ids y b hb
    rw [h.1] at this; cases this
   rw [hy]
 exact this _ (cellsOf_ids t x)
theorem LeL_append (H:AHeap) (D N:List Nat) (ρ:Nat→Nat):∀ (l l' m m':List AVal),l.length=l'.length→(LeL H D N ρ (l++m) (l'++m')↔LeL H D N ρ l l'∧LeL H D N ρ m m')
 | [],[],m,m',_=>by simp [LeL]
 | x::l,y::l',m,m',h=>by
  have:=LeL_append H D N ρ l l' m m' (by simpa using h)
  simp only [List.cons_append,LeL,this,and_assoc]
 | [],_::_,_,_,h=>by simp at h
 | _::_,[],_,_,h=>by simp at h
theorem LeL_cx (H:AHeap) (D N:List Nat) (ρ:Nat→Nat):∀ (t:Ty) (x y:El t),LeL H D N ρ (cellsX t x) (cellsX t y)↔x=y
 | .int k,x,y=>by simp [cellsX,cellsOf,LeL,LeV]
 | .bool,x,y=>by simp [cellsX,cellsOf,LeL,LeV]
 | .unit,x,y=>by simp [cellsX,cellsOf,LeL]
 | .pair a b,x,y=>by
  have h1:=LeL_cx H D N ρ a x.1 y.1
  have h2:=LeL_cx H D N ρ b x.2 y.2
  unfold cellsX at *
  simp only [cellsOf]
  rw [LeL_append _ _ _ _ _ _ _ _ (by rw [cellsOf_len,cellsOf_len]),h1,h2]
  exact ⟨fun h=>Prod.ext h.1 h.2,fun h=>by subst h; exact ⟨rfl,rfl⟩⟩
 | .sl t,x,y=>by simp [cellsX,cellsOf,LeL,LeV,castL_rfl]
end Go.Proofs.Ytdicomoggfhbfaa
/-! The abstract machine,27: what a slice that is nil does,rows made longer by zeros,a row's beginning; yields under a guard; maps whose keys are arrays. No program is named here. -/
namespace Go.Proofs.Ytdicomoggfhbfaa
open Go.RowKit Go.Maps
set_option linter.constructorNameAsVariable false
set_option linter.unusedVariables false
set_option linter.unusedSimpArgs false
theorem noUnL_append:∀ (l m:List AVal),noUnL (l++m)=(noUnL l&&noUnL m)
 | [],m=>rfl
 | x::l,m=>by simp [noUnL,noUnL_append l m,Bool.and_assoc]
theorem noUnL_cx:∀ (t:Ty) (x:El t),noUnL (cellsX t x)=true
 | .int _,_=>rfl
 | .bool,_=>rfl
 | .unit,_=>rfl
 | .pair a b,x=>by
  have h1:=noUnL_cx a x.1
  have h2:=noUnL_cx b x.2
  unfold cellsX at *
  simp only [cellsOf,noUnL_append,h1,h2,Bool.and_self]
 | .sl _,_=>rfl
def decEl:(t:Ty)→DecidableEq (El t)
 | .int _=>inferInstanceAs (DecidableEq Int)
 | .bool=>inferInstanceAs (DecidableEq Bool)
 | .unit=>inferInstanceAs (DecidableEq Unit)
 | .pair a b=>have:=decEl a; have:=decEl b; inferInstanceAs (DecidableEq (El a×El b))
 | .sl t=>have:=decEl t; inferInstanceAs (DecidableEq (List (El t)))
def decOk:(t:Ty)→(x:El t)→Decidable (okD t x)
 | .int k,n=>inferInstanceAs (Decidable (k.min≤n∧n≤k.max))
 | .bool,_=>.isTrue trivial
 | .unit,_=>.isTrue trivial
 | .pair a b,x=>have:=decOk a x.1; have:=decOk b x.2; inferInstanceAs (Decidable (okD a x.1∧okD b x.2))
 | .sl t,_=>.isFalse (fun h=>h)
instance (t:Ty) (x:El t):Decidable (okD t x):=decOk t x
section
variable {P:Program} {T:Tab} {n:Nat} {ds:List Deferred} {A0 L0:Nat→Prop} {w0:Old} {η:Nat→Value} {s:ASt} {a:Act} {w:World}
variable {ro:Option Nat} {Q:Exit→ASt→Prop} {σ:Nat→AVal} {H:AHeap} {g:Gh} {o:Oper} {ops rs:List Oper} {t e:TypeId} {i ie:TInfo}
theorem AO.capNil (hT:TabOK P T) (hd:dstOK n [o]=true) (hg:o.guard=none) {c:Call} (ho:o.op=.call c) (hc:c.callee=.builtin .cap) {x:Operand} (ha:c.args=#[x]) (hty:c.argTypes=#[t]) (ht:T t=some i) (hi:i.desc=.sl e)
  (hx:(ASt.mk σ H g).ev x=.cv (.slice none 0 0)) (h2:AO P ro n ops rs Q ((ASt.mk σ H g).app o.dst { v:=.int .i64 0 })):AO P ro n ops (o::rs) Q ⟨σ,H,g⟩:=by
 intro m ds A0 L0 w0 η a w hq0 hr
 unfold wpListIn
 rw [if_pos (op_guard hg _)]
 have hxv:=hr.ev x
 rw [hx] at hxv
 unfold RepV at hxv
 have hu:=(hT t i ht).slice hi
 refine wpIn_value (u:=.int .i64 0) (w':=w) (by simp [ho]) ?_ (h2 m ds A0 L0 w0 η _ w hq0 (hr.pure (dst_lt hd) (by unfold RepV; rfl)))
 simp [execOp,ho,resolve,hc,ha,hty,invoke,builtin,Builtin.cap_,run_underlying hu,hxv]; rfl
theorem AO.sliceNil (hT:TabOK P T) (hd:dstOK n [o]=true) (hg:o.guard=none) {x y:Operand} (ho:o.op=.slice t x none (some y) none) (ht:T t=some i) (hi:i.desc=.sl e) (he:T e=some ie)
  (hx:(ASt.mk σ H g).ev x=.cv (.slice none 0 0)) (hy:(ASt.mk σ H g).ev y=.int .i64 0) (h2:AO P ro n ops rs Q ((ASt.mk σ H g).app o.dst { v:=.cv (.slice none 0 0) })):AO P ro n ops (o::rs) Q ⟨σ,H,g⟩:=by
 intro m ds A0 L0 w0 η a w hq0 hr
 unfold wpListIn
 rw [if_pos (op_guard hg _)]
 have hxv:=hr.ev x
 have hyv:=hr.ev y
 rw [hx] at hxv
 rw [hy] at hyv
 unfold RepV at hxv hyv
 have hrun:=run_slice_of (P:=P) (w:=w) hT ht hi he none 0 0 none (some (.int .i64 (0:Nat))) 0 0 (by omega) (by omega) (.inl ⟨rfl,rfl⟩) (.inr ⟨.i64,rfl⟩)
 refine wpIn_value (u:=.slice none 0 0) (w':=w) (by simp [ho]) ?_ (h2 m ds A0 L0 w0 η _ w hq0 (hr.pure (dst_lt hd) (by unfold RepV; rfl)))
 have:sliced none 0 0 0 ie.size=.slice none 0 0:=by simp [sliced]
 rw [this] at hrun
 have hrun':(Instr.sliceAt t (.slice none 0 0) none (some (.int .i64 0)) none).run P w=.ok (.slice none 0 0) w:=by simpa using hrun
 simp [execOp,ho,hxv,hyv,hrun']
theorem zeros_at {z:Array Value} {sz:Nat} (hz:z.size=sz) (hp:0<sz) (k q:Nat) (hq:q<k*sz):(Builtin.zeroCells z k).toList[q]?=z.toList[q % sz]?:=by
 have hm:q % sz<sz:=Nat.mod_lt _ hp
 have:(Builtin.zeroCells z k)[q]?=some z[q % sz]!:=by
  unfold Builtin.zeroCells
  rw [Array.getElem?_map,Array.getElem?_range]
  simp [hz,hq]
 have h2:z[q % sz]?=some z[q % sz]!:=by simp [hz,hm]
 rw [Array.getElem?_toList,Array.getElem?_toList,this,h2]
theorem flat_rep {α β:Type} (x:α) (f:α→List β) (l:List β) (hf:f x=l):∀ (k q:Nat),q<k*l.length→((List.replicate k x).flatMap f)[q]?=l[q % l.length]?
 | 0,q,h=>by simp at h
 | k+1,q,h=>by
  rw [List.replicate_succ,List.flatMap_cons,hf]
  by_cases hq:q<l.length
  ·rw [List.getElem?_append_left hq,Nat.mod_eq_of_lt hq]
  ·have h':q<k*l.length+l.length:=by rw [Nat.add_mul] at h; omega
   rw [List.getElem?_append_right (by omega),flat_rep x f l hf k (q - l.length) (by omega)]
   rw [Nat.mod_eq_sub_mod (a:=q) (by omega)]
theorem repl_rep {A:Nat→Prop} (τ:Ty):∀ (k:Nat),RepVs η w A ((List.replicate k τ.dflt).flatMap (cellsOf τ)) ((List.replicate k ()).flatMap fun _=>zcells τ)
 | 0=>RepVs.nil
 | k+1=>by
  rw [List.replicate_succ,List.flatMap_cons,List.replicate_succ,List.flatMap_cons]
  exact (zcells_rep τ).append (repl_rep τ k)
theorem AO.appendZeros (hT:TabOK P T) (hd:dstOK n [o]=true) (hfew:o.dst.getD 0<1000) (hg:o.guard=none) {c:Call} (ho:o.op=.call c) (hc:c.callee=.builtin .append) {x y:Operand} (ha:c.args=#[x,y]) {tn:TypeId} {iN:TInfo} {kn:IntKind} (hty:c.argTypes=#[t,tn])
  (ht:T t=some i) (hi:i.desc=.sl e) (he:T e=some ie) {τ:Ty} (hdt:ie.dt=some τ) (htn:T tn=some iN) (hin:iN.desc=.int kn)
  (hx:(ASt.mk σ H g).ev x=.cv (.slice none 0 0)) {k:IntKind} {z:Int} (hy:(ASt.mk σ H g).ev y=.int k z) (hz0:0<z) (hz1:z≤9223372036854775807) (hz2:(ie.bytes:Int)*z≤281474976710656)
  (h2:AO P ro n ops rs Q ((ASt.mk σ H g).app o.dst { v:=.own (o.dst.getD 0),kill:=[o.dst.getD 0],hp:=[(o.dst.getD 0,.arr e τ (List.replicate z.toNat τ.dflt))] })):AO P ro n ops (o::rs) Q ⟨σ,H,g⟩:=by
 intro m ds A0 L0 w0 η a w hq0 hr
 unfold wpListIn
 rw [if_pos (op_guard hg _)]
 have hxv:=hr.ev x
 have hyv:=hr.ev y
 rw [hx] at hxv
 rw [hy] at hyv
 unfold RepV at hxv hyv
 have hu:=(hT t i ht).slice hi
 have hun:=(hT tn iN htn).int hin
 have hte:=hT e ie he
 obtain ⟨info,zv,dd,hinf,hsz,hby,hz,hzz,_⟩:=hte.ex
 obtain ⟨d1,d2,d3⟩:=hte.dt τ hdt
 obtain ⟨N,rfl⟩:∃ N:Nat,z=N:=⟨z.toNat,by omega⟩
 have hzs:zv.cells.size=τ.size:=by
  have:=hte.zsize
  rw [← hzz] at this
  rw [d1]; simpa using this
 have hb1:((N*ie.bytes:Nat):Int)≤281474976710656:=by rw [Int.natCast_mul,Int.mul_comm]; exact hz2
 have hbb:N*info.bytes≤281474976710656:=by rw [hby]; omega
 have hrun:=Lib.run_append_nil_zeros (P:=P) w t tn o.type e info zv k kn hu hun hinf hz N (by omega) (by rw [hsz,← d1]; exact d3) hz1 hbb
 have hge:=grownCap_ge w N 0 e
 have hle:=grownCap_le_maxLen w N 0 e (by simp [maxLen]; omega)
 have hzc:zv.cells.toList=zcells τ:=by rw [hzz,d2]
 have hrel:=hr.newArr (dst_lt hd) (nid:=o.dst.getD 0) hfew (e:=e) (τ:=τ) (xs:=List.replicate N τ.dflt) (ids:=[]) (cur:=Builtin.zeroCells zv.cells N++Builtin.zeroCells zv.cells (grownCap w N 0 e - N)) (cap:=grownCap w N 0 e)
  (w':=w.drew.alloc (.cells (Builtin.zeroCells zv.cells N++Builtin.zeroCells zv.cells (grownCap w N 0 e - N)) e)) (kl:=[o.dst.getD 0]) (by simp) (by simp) ⟨rfl,rfl,rfl⟩ rfl (by simpa using hge) hle
  (by simp only [Array.size_append,zeroCells_size hzs,← Nat.add_mul]; congr 1; omega)
  (fun A' k' _=>by
   intro j u hj
   have:=arr_of_cells (w:=w.drew.alloc (.cells (Builtin.zeroCells zv.cells N++Builtin.zeroCells zv.cells (grownCap w N 0 e - N)) e)) (A:=A') (η:=η) (g:=w.heap.size) (List.replicate N τ.dflt) 0 _ (fun q v hq=>by
    rw [Nat.zero_add]
    refine cells_alloc (wr:=w.drew) ?_
    have hlen:(zcells τ).length=τ.size:=by rw [← hzc]; simpa using hzs
    have hq':q<N*τ.size:=by
     have hl:=(List.getElem?_eq_some_iff.1 hq).1
     have:((List.replicate N ()).flatMap fun _=>zcells τ).length=N*τ.size:=by simp [hlen]
     omega
    rw [zeros_at hzs d3 N q hq',hzc,← hlen]
    rw [flat_rep () (fun _=>zcells τ) (zcells τ) rfl N q (by rw [hlen]; exact hq')] at hq
    exact hq) (repl_rep τ N) j u hj
   rwa [Nat.zero_add] at this)
 rw [List.length_replicate] at hrel
 refine wpIn_value (by simp [ho]) ?_ (h2 m ds A0 L0 w0 _ _ _ hq0 hrel)
 simp [execOp,ho,resolve,hc,ha,hty,invoke,builtin,hxv,hyv,hrun]
theorem AO.sliceOwn (hT:TabOK P T) (hd:dstOK n [o]=true) (hfew:o.dst.getD 0<1000) (hg:o.guard=none) {x y:Operand} (ho:o.op=.slice t x none (some y) none) (ht:T t=some i) (hi:i.desc=.sl e) (he:T e=some ie)
  {b:Nat} (hx:(ASt.mk σ H g).ev x=.own b) {e':TypeId} {τ:Ty} {xs:List (El τ)} (hb:H b=some (.arr e' τ xs)) (hsz:τ.size=ie.size) {k:IntKind} {z:Int} (hy:(ASt.mk σ H g).ev y=.int k z) (hz0:0≤z) (hz1:z≤(xs.length:Int))
  (h2:AO P ro n ops rs Q ((ASt.mk σ H g).app o.dst { v:=.own (o.dst.getD 0),kill:=[b,o.dst.getD 0],hp:=[(o.dst.getD 0,.arr e' τ (xs.take z.toNat))] })):AO P ro n ops (o::rs) Q ⟨σ,H,g⟩:=by
 intro m ds A0 L0 w0 η a w hq0 hr
 unfold wpListIn
 rw [if_pos (op_guard hg _)]
 have hxv:=hr.ev x
 have hyv:=hr.ev y
 rw [hx] at hxv
 rw [hy] at hyv
 unfold RepV at hxv hyv
 obtain ⟨N,rfl⟩:∃ N:Nat,z=N:=⟨z.toNat,by omega⟩
 have hN:N≤xs.length:=by omega
 have hblk0:=hr.hp.blk b _ (show (ASt.mk σ H g).H b=_ from hb)
 obtain ⟨nid,hnid⟩:∃ nid,nid=o.dst.getD 0:=⟨_,rfl⟩
 rw [← hnid] at h2 hfew
 -- what the slice is
 have key:∃ u,(Instr.sliceAt t (η b) none (some (.int k (N:Int))) none).run P w=.ok u w∧Go.Proofs.Ytdicomoggfhbfaa.hblk u=Go.Proofs.Ytdicomoggfhbfaa.hblk (η b)∧∀ A',Keeps (Av A0 η H) A' w w→∀ η',RelBlk η' w A' (.arr e' τ (xs.take N)) u:=by
  rcases hblk0 with ⟨e1,e2⟩|⟨gg,cap,cur,e1,e2,e3,e4,e5,e6⟩
  ·subst e1
   have:N=0:=by simpa using hN
   subst this
   have hrun:=run_slice_of (P:=P) (w:=w) hT ht hi he none 0 0 none (some (.int k (0:Nat))) 0 0 (by omega) (by omega) (.inl ⟨rfl,rfl⟩) (.inr ⟨k,rfl⟩)
   refine ⟨.slice none 0 0,?_,by rw [e2],fun A' _ η'=>.inl ⟨by simp,rfl⟩⟩
   rw [e2,hrun]; simp [sliced]
  ·have hrun:=run_slice_of (P:=P) (w:=w) hT ht hi he (some ⟨gg,0,none⟩) xs.length cap none (some (.int k (N:Nat))) 0 N (by omega) (by omega) (.inl ⟨rfl,rfl⟩) (.inr ⟨k,rfl⟩)
   refine ⟨.slice (some ⟨gg,0,none⟩) N cap,?_,by rw [e1]; simp [hblk],fun A' hk η'=>.inr ⟨gg,cap,cur,by simp [Nat.min_eq_left hN],e2,by simp; omega,e4,e5,fun q v hq=>?_⟩⟩
   ·rw [e1,hrun]; simp [sliced,add_off]
   ·rw [List.getElem?_take] at hq
    split at hq
    ·exact RepAt.step hk τ v gg _ rfl (e6 q v hq)
    ·cases hq
 obtain ⟨u,hrun,hbu,hrel⟩:=key
 refine wpIn_value (u:=u) (w':=w) (by simp [ho]) (by simp [execOp,ho,hxv,hyv,hrun]) ?_
 refine h2 m ds A0 L0 w0 (setη η nid u) _ w hq0 ?_
 have hη:∀ b',[b,nid].contains b'=false→setη η nid u b'=η b':=fun b' hb'=>setη_other _ _ (fun e=>by subst e; simp at hb')
 refine hr.eff (nid:=nid) (dst_lt hd) hη ⟨rfl,rfl,rfl⟩ (Nat.le_refl _) (fun g _=>.inl rfl) ?_ ?_ ?_ hfew (fun b' _ hs=>by
  by_cases e:b'=nid
  ·exact e
  ·simp only [hpGet,e,if_false] at hs; cases hs) (fun b' hb' hs=>by simp only [hpGet,hb',if_false] at hs; cases hs)
 ·intro b' B g' hb' hm hg'
  simp only [hpGet] at hb'
  split at hb'
  ·rename_i e9
   subst e9
   rw [setη_same] at hg'
   refine .inl ⟨b,_,hb,rfl,?_,.inr ⟨rfl,by simp⟩⟩
   rw [← hbu]; exact hg'
  ·cases hb'
 ·intro k' b' B hb'
  simp only [hpGet] at hb'
  split at hb'
  ·rename_i e9
   subst e9
   injection hb' with hb'
   subst hb'
   rw [setη_same]
   exact hrel _ k' _
  ·cases hb'
 ·intro k'; unfold RepV; exact (setη_same _ _ _).symm
theorem wanted_of {j tt:Nat} {want:Bool} (hg:o.guard=some (j,want)) (hj:(ops[j]?).bind (·.dst)=some tt) (hσ:s.σ tt=.bool want) (hr:Rel n ds A0 L0 w0 η s a w):Region.wanted o (yielded ops.toArray a.tmps)=true:=by
 have ht:=hr.tmp tt
 rw [hσ] at ht
 unfold RepV at ht
 have hj':(ops.toArray[j]?).bind (·.dst)=some tt:=by simpa using hj
 have hy:yielded ops.toArray a.tmps j=some want:=by
  have hget:a.tmps[tt]?=some (.bool want):=by
   rw [Array.getD_eq_getD_getElem?] at ht
   cases hc:a.tmps[tt]? with
   | none=>rw [hc] at ht; simp [undef] at ht
   | some v=>rw [hc] at ht; simp at ht; rw [ht]
  unfold yielded
  rw [hj',Option.bind_some,hget]
 simp [Region.wanted,hg,hy]
end
/-! ### Yields under a guard -/
section
variable {S R Y:Type} {P:Program} {n:Nat} {ro:Option Nat} {Q:Exit→ASt→Prop} {σ:Nat→AVal} {H:AHeap} {o:Oper} {ops rs:List Oper} {c:Call} {f:Operand} {enc:Y→List AVal} {body:Y→S→Option (Step S R)} {Γ:S→Gh} {Γx:R→Gh} {lp:Nat}
theorem yield_opG {j tt:Nat} {want:Bool} (hg:o.guard=some (j,want)) (hj:(ops[j]?).bind (·.dst)=some tt) (st:S) (hσ:(ASt.mk σ H (Γ st)).σ tt=.bool want) (ho:o.op=.call c) (hc:c.callee=.value f) (hd:dstOK n [o]=true) (hf:(ASt.mk σ H (Γ st)).ev f=.fn (.yield lp) [] []) (hY:YieldOK P lp enc body Γ Γx) (hΓ:∀ st,(Γ st).yl=true) (hΓx:∀ r,(Γx r).yl=true)
  (y:Y) (D:List Nat) (hle:LeL H D [] (look []) (c.args.toList.map (ASt.mk σ H (Γ st)).ev) (enc y)) {x:Step S R} (hx:body y st=some x)
  (h2:match (generalizing:=false) x with
   | .next st'=>AO P ro n ops rs Q (((ASt.mk σ H (Γ st')).app none { v:=.un,hp:=rest H D }).app o.dst { v:=.bool true })
   | .done r=>AO P ro n ops rs Q (((ASt.mk σ H (Γx r)).app none { v:=.un,hp:=rest H D }).app o.dst { v:=.bool false })) (hDf:(D.all fun b=>decide (b<1000000000))=true:=by decide):AO P ro n ops (o::rs) Q ⟨σ,H,Γ st⟩:=by
 intro m ds A0 L0 w0 η a w hq0 hr
 have h0:AO P ro n ops ({ o with guard:=none }::rs) Q ⟨σ,H,Γ st⟩:=yield_op (o:={ o with guard:=none }) ho hc rfl (by unfold dstOK at hd ⊢; simpa using hd) st hf hY hΓ hΓx y D hle hx h2 hDf
 have:=h0 m ds A0 L0 w0 η a w hq0 hr
 unfold wpListIn at this ⊢
 rw [if_pos (wanted_of hg hj hσ hr)]
 rw [if_pos (op_guard rfl _)] at this
 exact this
end
/-! ### Maps whose keys are arrays of numbers -/
theorem vals_prodT (q:IntKind):∀ (n:Nat) (x:El (prodT n (.int q))),((prodT n (.int q)).vals x).length=n∧∀ (i:Nat) (v:Value),((prodT n (.int q)).vals x)[i]?=some v→∃ z:Int,v=Value.int q z∧(okD (prodT n (.int q)) x→InK q z)
 | 0,x=>⟨rfl,fun i v h=>by simp [prodT,Ty.vals] at h⟩
 | 1,x=>⟨rfl,fun i v h=>by
  have:[Value.int q x][i]?=some v:=h
  cases i with
  | zero=>simp at this; exact ⟨_,this.symm,fun h=>h⟩
  | succ i=>simp at this⟩
 | n+2,x=>by
  have ih:=vals_prodT q (n+1) x.2
  refine ⟨?_,fun i v h=>?_⟩
  ·show ([Value.int q x.1]++(prodT (n+1) (.int q)).vals x.2).length=n+2
   simp [ih.1]
  ·have h':([Value.int q x.1]++(prodT (n+1) (.int q)).vals x.2)[i]?=some v:=h
   cases i with
   | zero=>simp at h'; exact ⟨_,h'.symm,fun hk=>hk.1⟩
   | succ i =>
    rw [List.getElem?_append_right (by simp)] at h'
    obtain ⟨z,e,hz⟩:=ih.2 _ v h'
    exact ⟨z,e,fun hk=>hz hk.2⟩
theorem mapM_lits {P:Program} {e:TypeId} {q:IntKind} (he:P.underlying e=some (.int q)) {D:Nat} {cs:List Value}:∀ (L:List Nat),(∀ i∈L,∃ z,cs[i]?=some (.int q z)∧(Lit.int q z).wf=true) →
  ∃ ls:List (List Lit),L.mapM (fun i=>P.keyLits (D+1) e ((cs.drop (i*1)).take 1))=some ls
 | [],_=>⟨[],rfl⟩
 | i::L,h=>by
  obtain ⟨ls,hl⟩:=mapM_lits he L fun j hj=>h j (by simp [hj])
  obtain ⟨z,hz,wz⟩:=h i (by simp)
  have:(cs.drop (i*1)).take 1=[.int q z]:=by
   rw [Nat.mul_one]
   apply List.ext_getElem?
   intro j
   cases j with
   | zero=>simp [hz]
   | succ j=>rw [List.getElem?_take,if_neg (by omega)]; simp
  refine ⟨[.int q z]::ls,?_⟩
  rw [List.mapM_cons,hl,this]
  simp [Program.keyLits,he,wz]
attribute [go_sem high] idsL_cx hasL_cx renL_cx cell_cx toEl_cx clean_cx LeL_cx noUnL_cx dryL_cx
attribute [go_sem] cellsX_len
end Go.Proofs.Ytdicomoggfhbfaa
/-! The abstract machine,28: arrays and structs of numbers held against each other. No program is named here. -/
namespace Go.Proofs.Ytdicomoggfhbfaa
open Go.RowKit Go.WideShapes
set_option linter.constructorNameAsVariable false
set_option linter.unusedVariables false
set_option linter.unusedSimpArgs false
structure EqTy (P:Program) (t:TypeId) (τ:Ty):Prop where
 key:∀ x:El τ,okD τ x→∃ l,keyOf P t (.agg (τ.vals x).toArray)=some l
 at':∃ m,m≤10000∧P.keyTypeAt m t=true
 tiled:∃ m,P.tiled m t=true
 wide:(match P.underlying t with|some (.array _ _)|some (.struct _)=>true|_=>false)=true
 guard:P.eqGuardType P.depth t=false
 dry:τ.dry=true
section
variable {P:Program} {T:Tab} {n:Nat} {ro:Option Nat} {Q:Exit→ASt→Prop} {σ:Nat→AVal} {H:AHeap} {g:Gh} {o:Oper} {ops rs:List Oper} {t:TypeId} {τ:Ty}
theorem run_eq_data (E:EqTy P t τ) [DecidableEq (El τ)] {x y:El τ} (hx:okD τ x) (hy:okD τ y) (w:World):(Op.equal t (.agg (τ.vals x).toArray) (.agg (τ.vals y).toArray)).run P w=.ok (decide (x=y)) w:=by
 obtain ⟨lx,h1⟩:=E.key x hx
 obtain ⟨ly,h2⟩:=E.key y hy
 obtain ⟨m,hm,hk⟩:=E.at'
 obtain ⟨m',ht⟩:=E.tiled
 obtain ⟨r,hr,hiff⟩:=run_equal_deep w hm hk E.wide h1 h2
 rw [hr]
 congr 1
 have:r=true↔x=y:=by
  rw [hiff]
  constructor
  ·intro e
   subst e
   have:=keyOf_inj_deep ht E.wide h1 h2
   injection this with this
   have:=congrArg Array.toList this
   exact vals_inj τ x y E.dry (by simpa using this)
  ·intro e
   subst e
   rw [h1] at h2
   injection h2
 rw [Bool.eq_iff_iff,this]; simp
theorem eqty_arr {el:TypeId} {q:IntKind} {N:Nat} (hkt:τ=prodT N (.int q)) (A:WideMaps.ArrKey P t el N) (he:P.underlying el=some (.int q)) (hsz:∃ m,P.types.size=m+1) (hg:P.eqGuardType P.depth t=false) (hd:τ.dry=true):EqTy P t τ:=by
 refine ⟨fun x hx=>?_,⟨2,by omega,A.at 0⟩,⟨2,A.tiled⟩,A.wide,hg,hd⟩
 have M:MapTy P t t el true false τ (.int q)→∃ l,keyOf P t (.agg (τ.vals x).toArray)=some l:=fun M=>by
  have:=M.key x hx
  simpa [pv] using this
 subst hkt
 obtain ⟨hl,hv⟩:=vals_prodT q N x
 have hkt:=A.keyType hsz
 obtain ⟨m,hm⟩:=hsz
 unfold keyOf
 simp only [A.hu]
 have hcell:(Value.agg ((prodT N (.int q)).vals x).toArray).cells.toList=(prodT N (.int q)).vals x:=by simp [Value.cells]
 rw [if_pos (by simp [hkt,Value.formed,A.hu,A.size,hl]),hm,hcell]
 unfold Program.keyLits
 simp only [A.hu]
 rw [if_pos (by rw [A.size,hl]),A.one]
 obtain ⟨ls,hls⟩:=mapM_lits (P:=P) he (D:=m) (cs:=(prodT N (.int q)).vals x) (List.range N) (fun i hi=>by
  have hlt:i<((prodT N (.int q)).vals x).length:=by rw [hl]; exact List.mem_range.1 hi
  obtain ⟨z,e1,e2⟩:=hv i _ (List.getElem?_eq_getElem hlt)
  exact ⟨z,by rw [List.getElem?_eq_getElem hlt,e1],inK_wf (e2 hx)⟩)
 rw [hls]
 exact ⟨_,rfl⟩
theorem AO.aggEq (E:EqTy P t τ) [DecidableEq (El τ)] (hd:dstOK n [o]=true) (hg:o.guard=none) {x y:Operand} {z:Nat} {neg:Bool} (ho:o.op=.binOp (if neg then .neq else .eql) t x y z) {lx ly:List AVal} (hx:(ASt.mk σ H g).ev x=.agg lx) (hy:(ASt.mk σ H g).ev y=.agg ly)
  {u v:El τ} (hu:toEl H τ lx=some (u,[])) (hv:toEl H τ ly=some (v,[])) (ku:okD τ u) (kv:okD τ v)
  (h2:AO P ro n ops rs Q ((ASt.mk σ H g).app o.dst { v:=.bool (if neg then !decide (u=v) else decide (u=v)) })):AO P ro n ops (o::rs) Q ⟨σ,H,g⟩:=by
 intro m ds A0 L0 w0 η a w hq0 hr
 unfold wpListIn
 rw [if_pos (op_guard hg _)]
 have hxv:=hr.ev x
 have hyv:=hr.ev y
 rw [hx] at hxv
 rw [hy] at hyv
 have e1:=unpack_pv (ag:=true) E.dry (.inl rfl) (show unpackA true (.agg lx) lx from ⟨rfl,rfl⟩) hu hxv
 have e2:=unpack_pv (ag:=true) E.dry (.inl rfl) (show unpackA true (.agg ly) ly from ⟨rfl,rfl⟩) hv hyv
 have heq:=run_eq_data E ku kv w
 simp only [pv,if_true] at e1 e2
 cases neg with
 | false =>
  refine wpIn_value (u:=.bool (decide (u=v))) (w':=w) (by simp [ho]) ?_ (h2 m ds A0 L0 w0 η _ w hq0 (hr.pure (dst_lt hd) (by unfold RepV; rfl)))
  simp [execOp,ho,e1,e2,eqGuard,E.guard,binOp,heq]
 | true =>
  refine wpIn_value (u:=.bool (!decide (u=v))) (w':=w) (by simp [ho]) ?_ (h2 m ds A0 L0 w0 η _ w hq0 (hr.pure (dst_lt hd) (by unfold RepV; rfl)))
  simp [execOp,ho,e1,e2,eqGuard,E.guard,binOp,heq]
end
end Go.Proofs.Ytdicomoggfhbfaa
/-! The abstract machine,29: a region that draws its order and ends in operations that wait for all before them. No program is named here. -/
namespace Go.Proofs.Ytdicomoggfhbfaa
open Go.RowKit
set_option linter.constructorNameAsVariable false
set_option linter.unusedVariables false
set_option linter.unusedSimpArgs false
set_option linter.unnecessarySimpa false
def tailOK (ops:List Oper) (k:Nat):Bool :=
 ((List.range k).all fun j=>match ops[j]? with
  | some o=>o.after.toList.all fun e=>!Region.binds .any e || decide (e.on<j)
  | none=>false) &&
 ((List.range ops.length).all fun j=>decide (j<k) || (List.range j).all fun i=>waitsB ops.toArray ops.length j i) &&
 ((List.range ops.length).all fun j=>decide (j<k) || match ops[j]? with
  | some o=>o.after.toList.all fun e=>!Region.binds .any e || decide (e.on<j)
  | none=>false)
theorem slOps00 (x:Operand):(#[x]++(none:Option Operand).toArray++(none:Option Operand).toArray++(none:Option Operand).toArray).toList=[x]:=rfl
theorem slOps01 (x y:Operand):(#[x]++(none:Option Operand).toArray++(some y).toArray++(none:Option Operand).toArray).toList=[x,y]:=rfl
theorem slOps10 (x y:Operand):(#[x]++(some y).toArray++(none:Option Operand).toArray++(none:Option Operand).toArray).toList=[x,y]:=rfl
theorem slOps11 (x y z:Operand):(#[x]++(some y).toArray++(some z).toArray++(none:Option Operand).toArray).toList=[x,y,z]:=rfl
attribute [go_sem high] slOps00 slOps01 slOps10 slOps11
structure Ext (k n:Nat) (l l':Array Bool):Prop where
 sl:l.size=n
 sl':l'.size=k
 lo:∀ i,i<k→l[i]?=l'[i]?
 hi:∀ i,k≤i→i<n→l[i]?=some false
section
variable {P:Program} {T:Tab} {X F:List (Nat×List Nat)} {E:Nat→Eff} {n:Nat} {ds:List Deferred} {A0 L0:Nat→Prop} {w0:Old}
theorem gstep_pre {pre tail:List Oper} {s:ASt} {o:Oper} {K:Eff→Prop} (h:gstep P T pre s o K):gstep P T (pre++tail) s o K:=by
 unfold gstep at h ⊢
 cases hg:o.guard with
 | none=>simp only [hg] at h ⊢; exact h
 | some q =>
  obtain ⟨j,want⟩:=q
  simp only [hg] at h ⊢
  by_cases hj:j<pre.length
  ·rw [List.getElem?_append_left hj]; exact h
  ·rw [List.getElem?_eq_none (by omega)] at h
   simp at h
theorem tail_sound {ops:List Oper} {ro:Option Nat} {m:Nat} {Q':Exit→Act→World→Prop} (hch:∀ j,j<ops.length→∀ i,i<j→(ops.length - 1<j∨True)) :
  ∀ (t:List Oper) (k x:Nat) (l:Array Bool) (a:Act) (w:World),k+t.length=ops.length→(∀ j,t[j]?=ops[k+j]?)→l.size=ops.length→(∀ i,i<k→l[i]?=some true)→(∀ i,k≤i→i<ops.length→l[i]?=some false) →
   (∀ j,k≤j→j<ops.length→∀ i,i<j→waitsB ops.toArray ops.length j i=true)→(∀ j o,k≤j→ops[j]?=some o→∀ e∈o.after,Region.binds .any e=true→e.on<j)→Closed ops.toArray l →
   wpListIn (fen ro) m P ops.toArray Q' t a w→wpAnyIn (fen ro) m P .any ops.toArray Q' (x+t.length) l a w
 | [],k,x,l,a,w,hk,_,hs,ht,hf,_,_,_,h=>by
  have hr:Region.ready .any ops.toArray l=[]:=by
   rw [List.eq_nil_iff_forall_not_mem]
   intro j hj
   obtain ⟨h0,o,ho,_⟩:=mem_ready.1 hj
   have hlt:j<ops.length:=by simpa using (Array.getElem?_eq_some_iff.1 ho).1
   have:=ht j (by simp at hk; omega)
   rw [Array.getD_eq_getD_getElem?,this] at h0
   simp at h0
  cases x with
  | zero=>exact ⟨hr,h⟩
  | succ x=>exact ⟨fun _=>h,fun i hi=>by rw [hr] at hi; cases hi⟩
 | o::t,k,x,l,a,w,hk,ht0,hs,ht,hf,hwt,haf,hcl,h=>by
  have hk':k<ops.length:=by simp at hk; omega
  have ho:ops[k]?=some o:=by have:=ht0 0; simpa using this.symm
  have hoa:ops.toArray[k]?=some o:=by simpa using ho
  have hall:∀ e∈o.after,Region.binds .any e=true→l.getD e.on false=true:=fun e he hb=>by
   have:=ht e.on (haf k o (Nat.le_refl _) ho e he hb)
   rw [Array.getD_eq_getD_getElem?,this]; rfl
  have hrk:k∈Region.ready .any ops.toArray l:=mem_ready.2 ⟨by rw [Array.getD_eq_getD_getElem?,hf k (Nat.le_refl _) hk']; rfl,o,hoa,hall⟩
  show wpAnyIn (fen ro) m P .any ops.toArray Q' (x+t.length+1) l a w
  refine ⟨(fun h0=>by rw [h0] at hrk; cases hrk),fun i hi=>?_⟩
  obtain ⟨h0,oi,hoi,halli⟩:=mem_ready.1 hi
  have hil:i<ops.length:=by simpa using (Array.getElem?_eq_some_iff.1 hoi).1
  have hik:i=k:=by
   rcases Nat.lt_trichotomy i k with h1|h1|h1
   ·rw [Array.getD_eq_getD_getElem?,ht i h1] at h0; simp at h0
   ·exact h1
   ·have:=waits_listed hcl ops.length i k oi hoi halli (hwt i (by omega) hil k h1)
    rw [Array.getD_eq_getD_getElem?,hf k (Nat.le_refl _) hk'] at this
    simp at this
  subst hik
  unfold wpOpIn
  rw [hoa]
  simp only
  unfold wpListIn at h
  have next:∀ a w,wpListIn (fen ro) m P ops.toArray Q' t a w→wpAnyIn (fen ro) m P .any ops.toArray Q' (x+t.length) (l.setIfInBounds i true) a w:=fun a w hw=>by
   refine tail_sound hch t (i+1) x _ a w (by simp at hk; omega) (fun j=>by have:=ht0 (j+1); simpa [Nat.add_assoc,Nat.add_comm 1 j] using this) (by simpa using hs) (fun j hj=>?_) (fun j hj hj'=>?_) (fun j hj hj'=>hwt j (by omega) hj') (fun j o hj=>haf j o (by omega)) (closed_set hcl hoa hall) hw
   ·by_cases e:j=i
    ·subst e; rw [Array.getElem?_setIfInBounds_self_of_lt (by omega)]
    ·rw [Array.getElem?_setIfInBounds_ne (Ne.symm e)]; exact ht j (by omega)
   ·rw [Array.getElem?_setIfInBounds_ne (by omega)]; exact hf j (by omega) hj'
  split
  ·rename_i hw
   rw [if_pos hw] at h
   exact Oper.wpIn_mono next h
  ·rename_i hw
   rw [if_neg hw] at h
   exact ⟨h.1,next _ _ h.2⟩
theorem pre_sound (hT:TabOK P T) {pre tail:List Oper} {ro:Option Nat} {m:Nat} {Q':Exit→Act→World→Prop} {K:ASt→Prop} (hd:dstOK n pre=true)
  (hB:∀ j o,(pre++tail)[j]?=some o→∀ e∈o.after,Region.binds .any e=true→e.on<j)
  (hwt:∀ j,pre.length≤j→j<(pre++tail).length→∀ i,i<j→waitsB (pre++tail).toArray (pre++tail).length j i=true)
  (hQ:∀ s η a w,K s→Rel n ds A0 L0 w0 η s a w→wpListIn (fen ro) m P (pre++tail).toArray Q' tail a w) :
  ∀ (fuel:Nat) (l l':Array Bool) (s:ASt) (η:Nat→Value) (a:Act) (w:World),Ext pre.length (pre++tail).length l l'→Closed (pre++tail).toArray l→Rel n ds A0 L0 w0 η s a w→anyF P T pre X F E K fuel l' s→wpAnyIn (fen ro) m P .any (pre++tail).toArray Q' (fuel+tail.length) l a w:=by
 intro fuel
 induction fuel with
 | zero =>
  intro l l' s η a w hE hcl hr h
  -- all are listed
  have hall:∀ i,i<pre.length→l[i]?=some true:=by
   intro i
   induction i using Nat.strongRecOn with
   | ind i ih =>
    intro hi
    have hlt:i<l'.size:=by rw [hE.sl']; exact hi
    have hi2:l'[i]?=some l'[i]:=by simp [hlt]
    cases hb:l'[i] with
    | true=>rw [hE.lo i hi,hi2,hb]
    | false =>
     exfalso
     have ho:pre[i]?=some pre[i]:=by simp [hi]
     have:i∈Region.ready .any pre.toArray l':=mem_ready.2 ⟨by rw [Array.getD_eq_getD_getElem?,hi2,hb]; rfl,pre[i],by simpa using ho,fun e he hbe=>by
      have h1:=hB i pre[i] (by rw [List.getElem?_append_left hi,ho]) e he hbe
      have h2:=ih e.on h1 (by omega)
      rw [hE.lo e.on (by omega)] at h2
      rw [Array.getD_eq_getD_getElem?,h2]; rfl⟩
     rw [h.1] at this; cases this
  exact tail_sound (fun _ _ _ _=>.inr trivial) tail pre.length 0 l a w (by simp) (fun j=>by rw [List.getElem?_append_right (by omega)]; congr 1; omega) hE.sl hall hE.hi hwt (fun j o _ ho=>hB j o ho) hcl (hQ s η a w h.2 hr)
 | succ fuel ih =>
  intro l l' s η a w hE hcl hr h
  by_cases hc:Region.ready .any pre.toArray l'=[]
  ·have hall:∀ i,i<pre.length→l[i]?=some true:=by
    intro i
    induction i using Nat.strongRecOn with
    | ind i ih =>
     intro hi
     have hlt:i<l'.size:=by rw [hE.sl']; exact hi
     have hi2:l'[i]?=some l'[i]:=by simp [hlt]
     cases hb:l'[i] with
     | true=>rw [hE.lo i hi,hi2,hb]
     | false =>
      exfalso
      have ho:pre[i]?=some pre[i]:=by simp [hi]
      have:i∈Region.ready .any pre.toArray l':=mem_ready.2 ⟨by rw [Array.getD_eq_getD_getElem?,hi2,hb]; rfl,pre[i],by simpa using ho,fun e he hbe=>by
       have h1:=hB i pre[i] (by rw [List.getElem?_append_left hi,ho]) e he hbe
       have h2:=ih e.on h1 (by omega)
       rw [hE.lo e.on (by omega)] at h2
       rw [Array.getD_eq_getD_getElem?,h2]; rfl⟩
      rw [hc] at this; cases this
   exact tail_sound (fun _ _ _ _=>.inr trivial) tail pre.length (fuel+1) l a w (by simp) (fun j=>by rw [List.getElem?_append_right (by omega)]; congr 1; omega) hE.sl hall hE.hi hwt (fun j o _ ho=>hB j o ho) hcl (hQ s η a w (h.1 hc) hr)
  ·-- what may be next is one of the first ones
   have hsub:∀ i,i∈Region.ready .any pre.toArray l'→i∈Region.ready .any (pre++tail).toArray l:=by
    intro i hi
    obtain ⟨h0,o,ho,hal⟩:=mem_ready.1 hi
    have hlt:i<pre.length:=by simpa using (Array.getElem?_eq_some_iff.1 ho).1
    have ho':pre[i]?=some o:=by simpa using ho
    refine mem_ready.2 ⟨?_,o,by simpa [List.getElem?_append_left hlt] using ho',fun e he hbe=>?_⟩
    ·rw [Array.getD_eq_getD_getElem?,hE.lo i hlt]; rw [Array.getD_eq_getD_getElem?] at h0; exact h0
    ·have h1:=hB i o (by rw [List.getElem?_append_left hlt,ho']) e he hbe
     have:=hal e he hbe
     rw [Array.getD_eq_getD_getElem?] at this ⊢
     rw [hE.lo e.on (by omega)]; exact this
   obtain ⟨i0,hi0⟩:=List.exists_mem_of_ne_nil _ hc
   rw [show fuel+1+tail.length=fuel+tail.length+1 by omega]
   refine ⟨(fun h0=>by have:=hsub i0 hi0; rw [h0] at this; cases this),fun i hi=>?_⟩
   obtain ⟨h0,o,ho,hal⟩:=mem_ready.1 hi
   have hil:i<(pre++tail).length:=by simpa using (Array.getElem?_eq_some_iff.1 ho).1
   have hik:i<pre.length:=by
    by_cases hik:i<pre.length
    ·exact hik
    ·exfalso
     obtain ⟨g0,o1,g1,g2⟩:=mem_ready.1 hi0
     have g3:i0<pre.length:=by simpa using (Array.getElem?_eq_some_iff.1 g1).1
     have:=waits_listed hcl (pre++tail).length i i0 o ho hal (hwt i (by omega) hil i0 (by omega))
     rw [Array.getD_eq_getD_getElem?,hE.lo i0 g3] at this
     rw [Array.getD_eq_getD_getElem?] at g0
     cases hx:l'[i0]? with
     | none=>rw [hx] at g0; simp at g0
     | some b=>rw [hx] at g0 this; simp at g0 this; rw [g0] at this; cases this
   have hop:pre[i]?=some o:=by
    have:(pre++tail)[i]?=some o:=by simpa using ho
    rwa [List.getElem?_append_left hik] at this
   have hir:i∈Region.ready .any pre.toArray l':=mem_ready.2 ⟨by rw [Array.getD_eq_getD_getElem?,← hE.lo i hik]; rw [Array.getD_eq_getD_getElem?] at h0; exact h0,o,by simpa using hop,fun e he hbe=>by
    have h1:=hB i o (by rw [List.getElem?_append_left hik,hop]) e he hbe
    have:=hal e he hbe
    rw [Array.getD_eq_getD_getElem?] at this ⊢
    rw [← hE.lo e.on (by omega)]; exact this⟩
   obtain ⟨o',ho',hst,hrest⟩:=h.2 i hir
   have e:o'=o:=by rw [hop] at ho'; injection ho' with e; exact e.symm
   subst e
   unfold wpOpIn
   rw [ho]
   simp only
   have hdo:∀ t,o'.dst=some t→t<n:=fun t ht=>by
    have:=List.all_eq_true.1 hd o' (List.mem_of_getElem? hop)
    rw [ht] at this; simpa using this
   exact gstep_sound hT hdo hr (gstep_pre hst.step) fun e η' a' w' he hr'=>by
    subst he
    refine ih _ _ _ η' a' w' ⟨by simpa using hE.sl,by simpa using hE.sl',fun j hj=>?_,fun j hj hj'=>?_⟩ (closed_set hcl ho hal) hr' hrest
    ·by_cases e:j=i
     ·subst e; rw [Array.getElem?_setIfInBounds_self_of_lt (by rw [hE.sl]; omega),Array.getElem?_setIfInBounds_self_of_lt (by rw [hE.sl']; omega)]
     ·rw [Array.getElem?_setIfInBounds_ne (Ne.symm e),Array.getElem?_setIfInBounds_ne (Ne.symm e)]; exact hE.lo j hj
    ·rw [Array.getElem?_setIfInBounds_ne (by omega)]; exact hE.hi j hj hj'
theorem AW.drawTail (hT:TabOK P T) (hm:P.follows .mixedOrders=true) {ro:Option Nat} {id:Nat} {Q:Exit→ASt→Prop} {s:ASt} (k:Nat) {ops:List Oper} (X F:List (Nat×List Nat)) (hd:dstOK n (ops.take k)=true) (hB:lexE (ops.take k) X F=true) (hO:tailOK ops k=true) (hk:k≤ops.length)
  (h:adops P T (ops.take k) X F 0 (ops.take k) s (fun s'=>AO P ro n ops (ops.drop k) Q s')):AW P ro n (.region id ops.toArray true) Q s:=by
 intro m ds A0 L0 w0 η a w hq0 hr
 refine wpIn_region_any hm ?_
 obtain ⟨E,hE⟩:=trF_of (ops.take k) 0 s h
 obtain ⟨pre,hpre⟩:∃ pre,pre=ops.take k:=⟨_,rfl⟩
 obtain ⟨tail,htail⟩:∃ tail,tail=ops.drop k:=⟨_,rfl⟩
 have happ:ops=pre++tail:=by rw [hpre,htail,List.take_append_drop]
 have hplen:pre.length=k:=by rw [hpre]; simp; omega
 rw [← hpre] at hd hB hE
 rw [← htail] at hE
 have hcl':Closed pre.toArray (Array.replicate pre.length false):=fun j oj hj hl=>by
  have hlt:j<pre.length:=by simpa using (Array.getElem?_eq_some_iff.1 hj).1
  rw [Array.getD_eq_getD_getElem?] at hl
  simp [hlt] at hl
 have hany:=anyF_lex pre 0 (Array.replicate pre.length false) s hcl' (fun j=>by rw [Nat.zero_add]) hB hE
 unfold tailOK at hO
 simp only [Bool.and_eq_true] at hO
 obtain ⟨⟨o1,o2⟩,o3⟩:=hO
 have hBB:∀ j o,ops[j]?=some o→∀ e∈o.after,Region.binds .any e=true→e.on<j:=by
  intro j o ho e he hb
  have hlt:=(List.getElem?_eq_some_iff.1 ho).1
  by_cases hj:j<k
  ·have:=List.all_eq_true.1 o1 j (List.mem_range.2 hj)
   simp only [ho] at this
   have:=List.all_eq_true.1 this e (by simpa using he)
   simpa [hb] using this
  ·have:=List.all_eq_true.1 o3 j (List.mem_range.2 hlt)
   simp only [ho,hj,decide_false,Bool.false_or] at this
   have:=List.all_eq_true.1 this e (by simpa using he)
   simpa [hb] using this
 have hww:∀ j,k≤j→j<ops.length→∀ i,i<j→waitsB ops.toArray ops.length j i=true:=by
  intro j hj hlt i hi
  have:=List.all_eq_true.1 o2 j (List.mem_range.2 hlt)
  simp only [show ¬ j<k by omega,decide_false,Bool.false_or] at this
  exact List.all_eq_true.1 this i (List.mem_range.2 hi)
 subst happ
 have hsz:(pre++tail).toArray.size=pre.length+tail.length:=by simp
 have hclf:Closed (pre++tail).toArray (Array.replicate (pre++tail).length false):=fun j oj hj hl=>by
  have hlt:j<(pre++tail).length:=by simpa using (Array.getElem?_eq_some_iff.1 hj).1
  rw [Array.getD_eq_getD_getElem?] at hl
  rw [Array.getElem?_replicate,if_pos hlt] at hl
  simp at hl
 have:=pre_sound (ro:=ro) (m:=m) (Q':=RelQ n ds L0 w0 Q) hT hd hBB (fun j hj=>hww j (by omega)) (fun s η a w hQ hR=>hQ m ds A0 L0 w0 η a w hq0 hR) pre.length (Array.replicate (pre++tail).length false) (Array.replicate pre.length false) s η a _
  ⟨by simp,by simp,fun i hi=>by rw [Array.getElem?_replicate,Array.getElem?_replicate,if_pos hi,if_pos (by simp; omega)],fun i _ hi=>by rw [Array.getElem?_replicate,if_pos hi]⟩ hclf hr.drew hany
 rw [hsz]
 simpa using this
end
end Go.Proofs.Ytdicomoggfhbfaa
/-! The abstract machine,30: a part of a row of one's own that is only looked at. No program is named here. -/
namespace Go.Proofs.Ytdicomoggfhbfaa
open Go.RowKit
set_option linter.constructorNameAsVariable false
set_option linter.unusedVariables false
section
variable {P:Program} {T:Tab} {n:Nat} {ro:Option Nat} {Q:Exit→ASt→Prop} {σ:Nat→AVal} {H:AHeap} {g:Gh} {o:Oper} {ops rs:List Oper} {t e:TypeId} {i ie:TInfo}
theorem AO.sliceView (hT:TabOK P T) (hd:dstOK n [o]=true) (hg:o.guard=none) {x:Operand} {lo hi:Option Operand} (ho:o.op=.slice t x lo hi none) (ht:T t=some i) (hdi:i.desc=.sl e) (he:T e=some ie)
  {b:Nat} (hx:(ASt.mk σ H g).ev x=.own b) {e':TypeId} {τ:Ty} {xs:List (El τ)} (hb:H b=some (.arr e' τ xs)) (hsz:τ.size=ie.size) (lz kz:Int) (h0:0≤lz) (hlk0:lz≤kz) (hk0:kz≤(xs.length:Int))
  (hlo0:lo=none∧lz=0∨∃ y kk,lo=some y∧(ASt.mk σ H g).ev y=.int kk lz) (hhi0:hi=none∧kz=(xs.length:Int)∨∃ y kk,hi=some y∧(ASt.mk σ H g).ev y=.int kk kz)
  (h2:AO P ro n ops rs Q ((ASt.mk σ H g).app o.dst { v:=.vw b τ.size lz.toNat (kz - lz).toNat })):AO P ro n ops (o::rs) Q ⟨σ,H,g⟩:=by
 obtain ⟨l,rfl⟩:∃ l:Nat,lz=l:=⟨lz.toNat,by omega⟩
 obtain ⟨k,rfl⟩:∃ k:Nat,kz=k:=⟨kz.toNat,by omega⟩
 have hlk:l≤k:=by omega
 have hk:k≤xs.length:=by omega
 have hlo:lo=none∧l=0∨∃ y kk,lo=some y∧(ASt.mk σ H g).ev y=.int kk (l:Int):=hlo0.imp (fun h=>⟨h.1,by omega⟩) id
 have hhi:hi=none∧k=xs.length∨∃ y kk,hi=some y∧(ASt.mk σ H g).ev y=.int kk (k:Int):=hhi0.imp (fun h=>⟨h.1,by omega⟩) id
 rw [show (l:Int).toNat=l from rfl,show ((k:Int) - (l:Int)).toNat=k - l by omega] at h2
 intro m ds A0 L0 w0 η a w hq0 hr
 unfold wpListIn
 rw [if_pos (op_guard hg _)]
 have hxv:=hr.ev x
 rw [hx] at hxv
 unfold RepV at hxv
 have hev:∀ (y:Operand) (kk:IntKind) (z:Int),(ASt.mk σ H g).ev y=.int kk z→a.eval y=.int kk z:=fun y kk z hy=>by
  have:=hr.ev y
  rw [hy] at this
  unfold RepV at this
  exact this
 have hblk0:=hr.hp.blk b _ (show (ASt.mk σ H g).H b=_ from hb)
 have hlo':lo.map a.eval=none∧l=0∨∃ kk,lo.map a.eval=some (.int kk (l:Int)):=by
  rcases hlo with ⟨rfl,h⟩|⟨y,kk,rfl,h⟩
  ·exact .inl ⟨rfl,h⟩
  ·exact .inr ⟨kk,by rw [Option.map_some,hev y kk _ h]⟩
 have hhi':hi.map a.eval=none∧k=xs.length∨∃ kk,hi.map a.eval=some (.int kk (k:Int)):=by
  rcases hhi with ⟨rfl,h⟩|⟨y,kk,rfl,h⟩
  ·exact .inl ⟨rfl,h⟩
  ·exact .inr ⟨kk,by rw [Option.map_some,hev y kk _ h]⟩
 have key:∃ u,(Instr.sliceAt t (η b) (lo.map a.eval) (hi.map a.eval) none).run P w=.ok u w∧RepV η w (Av A0 η H) (.vw b τ.size l (k - l)) u:=by
  rcases hblk0 with ⟨e1,e2⟩|⟨gg,cap,cur,e1,e2,e3,e4,e5,e6⟩
  ·subst e1
   obtain rfl:k=0:=by simpa using hk
   obtain rfl:l=0:=by omega
   have hrun:=run_slice_of (P:=P) (w:=w) hT ht hdi he none 0 0 (lo.map a.eval) (hi.map a.eval) 0 0 (by omega) (by omega) hlo' (by simpa using hhi')
   refine ⟨.slice none 0 0,?_,?_⟩
   ·rw [e2,hrun]; simp [sliced]
   ·unfold RepV; exact ⟨none,0,by simp,by simp,by simp [maxLen],fun h=>absurd h (by simp)⟩
  ·have hrun:=run_slice_of (P:=P) (w:=w) hT ht hdi he (some ⟨gg,0,none⟩) xs.length cap (lo.map a.eval) (hi.map a.eval) l k hlk (by omega) hlo' hhi'
   refine ⟨_,by rw [e1]; exact hrun,?_⟩
   unfold RepV
   refine ⟨_,cap - l,rfl,by omega,by omega,fun h=>⟨gg,.inl ⟨xs.length,cap,e1⟩,?_⟩⟩
   rw [if_neg (by omega),hsz]
   simp [add_off]
 obtain ⟨u,hrun,hrep⟩:=key
 refine wpIn_value (u:=u) (w':=w) (by simp [ho]) (by simp only [execOp,ho,hxv]; simp [hrun]) ?_
 exact h2 m ds A0 L0 w0 η _ w hq0 (hr.pure (dst_lt hd) hrep)
end
end Go.Proofs.Ytdicomoggfhbfaa
/-! Maps whose keys are structs or arrays of data. -/
namespace Go.Proofs.Ytdicomoggfhbfaa
open Go.RowKit Go.Maps
set_option linter.constructorNameAsVariable false
set_option linter.unusedVariables false
def fitL (P:Program) (g:TypeId→Ty→Bool):List (Nat×TypeId)→Nat→Ty→Bool
 | [],_,_=>false
 | (o,t)::r,off,τ=>match r with
  | []=>o==off&&P.cellsOf t==τ.size&&g t τ
  | _::_=>match τ with
   | .pair a b=>o==off&&P.cellsOf t==a.size&&g t a&&fitL P g r (off+a.size) b
   | _=>false
def keyFit (P:Program):Nat→TypeId→Ty→Bool
 | 0,_,_=>false
 | d+1,t,τ=>match P.underlying t with
  | some .bool=>decide (τ=.bool)
  | some (.int q)=>decide (τ=.int q)
  | some (.array n e)=>τ.size==P.cellsOf t&&fitL P (keyFit P d) ((List.range n).map fun i=>(i*P.cellsOf e,e)) 0 τ
  | some (.struct fs)=>τ.size==P.cellsOf t&&fs.all (fun f=>f.name != "_")&&fitL P (keyFit P d) (fs.toList.map fun f=>(f.offset,f.type)) 0 τ
  | _=>false
theorem okD_dry:∀ (t:Ty) (x:El t),okD t x→t.dry=true
 | .int _,_,_=>rfl
 | .bool,_,_=>rfl
 | .unit,_,_=>rfl
 | .pair a b,x,h=>by simp only [Ty.dry,okD_dry a x.1 h.1,okD_dry b x.2 h.2,Bool.and_self]
 | .sl _,_,h=>h.elim
theorem fitL_lits {P:Program} {d:Nat} (ih:∀ (t:TypeId) (τ:Ty) (x:El τ),keyFit P d t τ=true→okD τ x→∃ ls,P.keyLits d t (τ.vals x)=some ls) :
  ∀ (L:List (Nat×TypeId)) (off:Nat) (τ:Ty) (x:El τ) (cs:List Value),fitL P (keyFit P d) L off τ=true→okD τ x→cs.drop off=τ.vals x→∃ ls:List (List Lit),L.mapM (fun p=>P.keyLits d p.2 ((cs.drop p.1).take (P.cellsOf p.2)))=some ls
 | [],off,τ,x,cs,h,_,_=>by simp [fitL] at h
 | (o,t)::r,off,τ,x,cs,h,hx,hc=>by
  unfold fitL at h
  cases r with
  | nil =>
   simp only [Bool.and_eq_true,beq_iff_eq] at h
   obtain ⟨⟨rfl,h2⟩,h3⟩:=h
   obtain ⟨ls,hl⟩:=ih t τ x h3 hx
   refine ⟨[ls],?_⟩
   have hlen:=vals_len τ x (okD_dry τ x hx)
   have e1:(cs.drop o).take (P.cellsOf t)=τ.vals x:=by rw [hc,h2]; exact List.take_of_length_le (by omega)
   rw [List.mapM_cons]
   simp only [e1,hl]
   rfl
  | cons q r =>
   cases τ with
   | pair a b =>
    simp only [Bool.and_eq_true,beq_iff_eq] at h
    obtain ⟨⟨⟨rfl,h2⟩,h3⟩,h4⟩:=h
    have hla:=vals_len a x.1 (okD_dry a x.1 hx.1)
    obtain ⟨ls,hl⟩:=ih t a x.1 h3 hx.1
    have hc':cs.drop o=a.vals x.1++b.vals x.2:=hc
    obtain ⟨lr,hr⟩:=fitL_lits ih (q::r) (o+a.size) b x.2 cs h4 hx.2 (by rw [← List.drop_drop,hc',List.drop_append_of_le_length (by omega),List.drop_of_length_le (by omega),List.nil_append])
    refine ⟨ls::lr,?_⟩
    have e1:(cs.drop o).take (P.cellsOf t)=a.vals x.1:=by rw [hc',h2,List.take_append_of_le_length (by omega)]; exact List.take_of_length_le (by omega)
    rw [List.mapM_cons,hr]
    simp only [e1,hl]
    rfl
   | _=>simp at h
theorem mapM_map {α β γ:Type} (f:β→Option γ) (g:α→β):∀ l:List α,(l.map g).mapM f=l.mapM fun x=>f (g x)
 | []=>rfl
 | x::l=>by rw [List.map_cons,List.mapM_cons,List.mapM_cons,mapM_map f g l]
theorem keyFit_lits {P:Program}:∀ (d:Nat) (t:TypeId) (τ:Ty) (x:El τ),keyFit P d t τ=true→okD τ x→∃ ls,P.keyLits d t (τ.vals x)=some ls
 | 0,t,τ,x,h,_=>by simp [keyFit] at h
 | d+1,t,τ,x,h,hx=>by
  unfold keyFit at h
  unfold Program.keyLits
  split at h
  ·rename_i hu
   have:τ=.bool:=by simpa using h
   subst this
   rw [hu]
   exact ⟨_,rfl⟩
  ·rename_i q hu
   have:τ=.int q:=by simpa using h
   subst this
   rw [hu]
   have hw:(Lit.int q x).wf=true:=inK_wf hx
   exact ⟨[.int q x],by simp [Ty.vals,hw]⟩
  ·rename_i n e hu
   simp only [Bool.and_eq_true,beq_iff_eq] at h
   obtain ⟨h1,h2⟩:=h
   obtain ⟨ls,hl⟩:=fitL_lits (keyFit_lits d) _ 0 τ x (τ.vals x) h2 hx rfl
   rw [mapM_map] at hl
   simp only [hu]
   rw [if_pos (by rw [vals_len τ x (okD_dry τ x hx),h1]),hl]
   exact ⟨_,rfl⟩
  ·rename_i fs hu
   simp only [Bool.and_eq_true,beq_iff_eq] at h
   obtain ⟨⟨h1,h3⟩,h2⟩:=h
   obtain ⟨ls,hl⟩:=fitL_lits (keyFit_lits d) _ 0 τ x (τ.vals x) h2 hx rfl
   rw [mapM_map] at hl
   simp only [hu]
   rw [if_pos ⟨by rw [vals_len τ x (okD_dry τ x hx),h1],h3⟩,hl]
   exact ⟨_,rfl⟩
  ·cases h
theorem mapty_deepS {P:Program} {t k e:TypeId} {kt vt:Ty} (ht:P.underlying t=some (.map k e)) {m:Nat} (hm:m+1≤10000) (hk:P.keyTypeAt m k=true) (htl:P.tiled m k=true) (hw:(match P.underlying k with|some (.array _ _)|some (.struct _)=>true|_=>false)=true)
  (hkt:P.keyType k=true) (hsz:P.cellsOf k=kt.size) (hfit:keyFit P (P.types.size+1) k kt=true) (zero:∀ w,(zeroValue e).run P w=.ok (.slice none 0 0) w) (kdry:kt.dry=true):MapTy P t k e true false kt (.sl vt):=by
 refine ⟨ht,Keyed.of_law (deep_law hm hk htl hw),fun x hx=>?_,zero,kdry,.inr ⟨rfl,_,rfl⟩,.inl rfl,.inr rfl⟩
 obtain ⟨ls,hls⟩:=keyFit_lits _ k kt x hfit hx
 have hcell:(pv true (kt.vals x)).cells.toList=kt.vals x:=by simp [pv,Value.cells]
 have hlen:=vals_len kt x kdry
 unfold keyOf
 split
 ·rename_i n e' hu
  rw [if_pos (by simp [hkt,Value.formed,hu,pv,hlen,hsz]),hcell,hls]
  exact ⟨_,rfl⟩
 ·rename_i fs hu
  rw [if_pos (by simp [hkt,Value.formed,hu,pv,hlen,hsz]),hcell,hls]
  exact ⟨_,rfl⟩
 ·rename_i h1 h2
  split at hw
  ·rename_i n e' hu; exact absurd hu (h1 _ _)
  ·rename_i fs hu; exact absurd hu (h2 _)
  ·cases hw
end Go.Proofs.Ytdicomoggfhbfaa
