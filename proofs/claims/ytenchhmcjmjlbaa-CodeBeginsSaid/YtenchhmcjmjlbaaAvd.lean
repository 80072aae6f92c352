import Derived.Test.YtenchhmcjmjlbaaAvc
import Derived.Lib.AppendZeros
import Derived.WideKeyArr2
import Derived.Laws.StructEq
import Derived.DeepKeys3
/-! The check of a region that draws its order,with a table of what waits for what. No program is named here. -/
namespace Go.Proofs.Ytenchhmcjmjlbaa
open Go.RowKit
set_option linter.unusedVariables false
def ancOf (tb:List Nat) (oi:Oper):Nat :=
 oi.after.toList.foldl (fun m e=>if Region.binds .any e&&decide (e.on<tb.length) then (m ||| 2 ^ e.on) ||| tb.getD e.on 0 else m) 0
def ancs (ops:List Oper):List Nat:=ops.foldl (fun tb oi=>tb++[ancOf tb oi]) []
def freeT (ops:Array Oper) (X F:List (Nat×List Nat)) (tb:List Nat) (listed:Array Bool) (i:Nat):Bool :=
 match ops[i]? with
 | none=>false
 | some oi=>(List.range ops.size).all fun j=>j==i || listed.getD j true || (tb.getD j 0).testBit i || match ops[j]? with
   | some oj=>oi.apart ops oj&&compat X F (blindB oi) (blindB oj) i j
   | none=>true
def lexFromT (ops:Array Oper) (X F:List (Nat×List Nat)) (tb:List Nat):Nat→Nat→Array Bool→Bool
 | 0,_,listed=>(Region.ready .any ops listed).isEmpty
 | fuel+1,k,listed=>(Region.ready .any ops listed).contains k&&freeT ops X F tb listed k&&lexFromT ops X F tb fuel (k+1) (listed.setIfInBounds k true)
def lexT (ops:List Oper) (X F:List (Nat×List Nat)):Bool:=lexFromT ops.toArray X F (ancs ops) ops.length 0 (Array.replicate ops.length false)
theorem waitsB_mono {ops:Array Oper}:∀ {n m j i:Nat},n≤m→waitsB ops n j i=true→waitsB ops m j i=true
 | 0,m,j,i,_,h=>by cases h
 | n+1,0,j,i,hm,_=>by omega
 | n+1,m+1,j,i,hm,h=>by
  unfold waitsB at h ⊢
  cases hj:ops[j]? with
  | none=>rw [hj] at h; cases h
  | some oj =>
   rw [hj] at h
   simp only [Bool.or_eq_true,Array.any_eq_true,Bool.and_eq_true] at h ⊢
   rcases h with h|⟨k,hk,h1,h2⟩
   ·exact .inl h
   ·exact .inr ⟨k,hk,h1,waitsB_mono (by omega) h2⟩
theorem anc_bit (tb:List Nat) (i:Nat):∀ (l:List Edge) (m:Nat),(l.foldl (fun m e=>if Region.binds .any e&&decide (e.on<tb.length) then (m ||| 2 ^ e.on) ||| tb.getD e.on 0 else m) m).testBit i=true →
  m.testBit i=true∨∃ e∈l,Region.binds .any e=true∧e.on<tb.length∧(e.on=i∨(tb.getD e.on 0).testBit i=true)
 | [],m,h=>.inl h
 | e::l,m,h=>by
  rw [List.foldl_cons] at h
  rcases anc_bit tb i l _ h with h|⟨e',h1,h2⟩
  ·split at h
   ·rename_i hc
    simp only [Bool.and_eq_true,decide_eq_true_eq] at hc
    rw [Nat.testBit_or,Nat.testBit_or,Bool.or_eq_true,Bool.or_eq_true,Nat.testBit_two_pow,decide_eq_true_eq] at h
    rcases h with (h|h)|h
    ·exact .inl h
    ·exact .inr ⟨e,by simp,hc.1,hc.2,.inl h⟩
    ·exact .inr ⟨e,by simp,hc.1,hc.2,.inr h⟩
   ·exact .inl h
  ·exact .inr ⟨e',by simp [h1],h2⟩
theorem ancs_snoc (l:List Oper) (o:Oper):ancs (l++[o])=ancs l++[ancOf (ancs l) o]:=by simp [ancs]
theorem ancs_len (l:List Oper):(ancs l).length=l.length:=by
 have:∀ (l:List Oper) (tb:List Nat),(l.foldl (fun tb oi=>tb++[ancOf tb oi]) tb).length=tb.length+l.length:=by
  intro l
  induction l with
  | nil=>intro tb; rfl
  | cons o l ih=>intro tb; rw [List.foldl_cons,ih]; simp; omega
 simpa [ancs] using this l []
theorem ancs_ok (ops:List Oper):∀ (k:Nat),k≤ops.length→∀ (j i:Nat),j<k→((ancs (ops.take k)).getD j 0).testBit i=true→waitsB ops.toArray (j+1) j i=true:=by
 intro k
 induction k with
 | zero=>intro _ j i hj; omega
 | succ k ih =>
  intro hk j i hj h
  have hlt:k<ops.length:=by omega
  have ih:=ih (by omega)
  have e1:ops.take (k+1)=ops.take k++[ops[k]]:=by rw [List.take_add_one]; simp [hlt]
  have hl:(ancs (ops.take k)).length=k:=by rw [ancs_len,List.length_take]; omega
  rw [e1,ancs_snoc] at h
  rcases Nat.lt_or_ge j k with hjk|hjk
  ·rw [List.getD,List.getElem?_append_left (by omega)] at h
   exact ih j i hjk h
  ·obtain rfl:j=k:=by omega
   rw [List.getD,List.getElem?_append_right (by omega),hl] at h
   simp only [Nat.sub_self,List.getElem?_cons_zero,Option.getD_some] at h
   unfold ancOf at h
   rcases anc_bit _ i _ 0 h with h|⟨e,he,hb,hon,h⟩
   ·simp at h
   ·rw [hl] at hon
    unfold waitsB
    have hj':ops.toArray[j]?=some ops[j]:=by simp [hlt]
    rw [hj']
    simp only [Bool.or_eq_true,Array.any_eq_true]
    obtain ⟨q,hq,rfl⟩:=List.getElem_of_mem he
    have hq':q<ops[j].after.size:=by simpa using hq
    rcases h with h|h
    ·exact .inl ⟨q,hq',by simp only [Array.getElem_toList] at hb h ⊢; simp [hb,h]⟩
    ·refine .inr ⟨q,hq',?_⟩
     simp only [Array.getElem_toList] at hb h hon ⊢
     simp only [hb,Bool.true_and]
     exact waitsB_mono (by omega) (ih _ i hon h)
theorem freeT_free {ops:List Oper} {X F:List (Nat×List Nat)} {listed:Array Bool} {i:Nat} (h:freeT ops.toArray X F (ancs ops) listed i=true):freeE ops.toArray X F listed i=true:=by
 unfold freeT at h
 unfold freeE
 cases hi:ops.toArray[i]? with
 | none=>rw [hi] at h; exact h
 | some oi =>
  rw [hi] at h
  simp only [List.all_eq_true] at h ⊢
  intro j hj
  have:=h j hj
  have hjl:j<ops.length:=by simpa using List.mem_range.1 hj
  cases hoj:ops.toArray[j]? with
  | none=>simp
  | some oj =>
   rw [hoj] at this
   simp only [Bool.or_eq_true] at this ⊢
   rcases this with (h1|h1)|h1
   ·exact .inl h1
   ·refine .inr (.inl ?_)
    have:=ancs_ok ops ops.length (Nat.le_refl _) j i hjl (by rw [List.take_length]; exact h1)
    exact waitsB_mono (by rw [List.size_toArray]; omega) this
   ·exact .inr (.inr h1)
theorem lexFromT_lex {ops:List Oper} {X F:List (Nat×List Nat)}:∀ {fuel k:Nat} {listed:Array Bool},lexFromT ops.toArray X F (ancs ops) fuel k listed=true→lexFromE ops.toArray X F fuel k listed=true
 | 0,k,listed,h=>h
 | fuel+1,k,listed,h=>by
  unfold lexFromT at h
  unfold lexFromE
  simp only [Bool.and_eq_true] at h ⊢
  exact ⟨⟨h.1.1,freeT_free h.1.2⟩,lexFromT_lex h.2⟩
theorem lex_fast {ops:List Oper} {X F:List (Nat×List Nat)} (h:lexT ops X F=true):lexE ops X F=true:=lexFromT_lex h
end Go.Proofs.Ytenchhmcjmjlbaa
/-! The abstract machine,26: arrays as data; fuel of functions that call themselves. No program is named here. -/
namespace Go.Proofs.Ytenchhmcjmjlbaa
open Go.RowKit
set_option linter.constructorNameAsVariable false
set_option linter.unusedVariables false
set_option linter.unusedSimpArgs false
def fuel:Nat:=100
def prodT:Nat→Ty→Ty
 | 0,_=>.unit
 | 1,t=>t
 | n+2,t=>.pair t (prodT (n+1) t)
def cellsX (t:Ty) (x:El t):List AVal:=cellsOf t x
theorem cellsX_len (t:Ty) (x:El t):(cellsX t x).length=t.size:=cellsOf_len t x
def intAt:(t:Ty)→El t→Nat→Int
 | .int _,n,_=>n
 | .bool,_,_=>0
 | .unit,_,_=>0
 | .pair a b,x,j=>if j<a.size then intAt a x.1 j else intAt b x.2 (j - a.size)
 | .sl _,_,_=>0
def boolAt:(t:Ty)→El t→Nat→Bool
 | .int _,_,_=>false
 | .bool,p,_=>p
 | .unit,_,_=>false
 | .pair a b,x,j=>if j<a.size then boolAt a x.1 j else boolAt b x.2 (j - a.size)
 | .sl _,_,_=>false
def setInt:(t:Ty)→El t→Nat→Int→El t
 | .int _,_,_,v=>v
 | .bool,p,_,_=>p
 | .unit,_,_,_=>()
 | .pair a b,x,j,v=>if j<a.size then (setInt a x.1 j v,x.2) else (x.1,setInt b x.2 (j - a.size) v)
 | .sl _,x,_,_=>x
def setBool:(t:Ty)→El t→Nat→Bool→El t
 | .int _,n,_,_=>n
 | .bool,_,_,v=>v
 | .unit,_,_,_=>()
 | .pair a b,x,j,v=>if j<a.size then (setBool a x.1 j v,x.2) else (x.1,setBool b x.2 (j - a.size) v)
 | .sl _,x,_,_=>x
def allInt (k:IntKind):Ty→Bool
 | .int q=>q==k
 | .bool=>false
 | .unit=>true
 | .pair a b=>allInt k a&&allInt k b
 | .sl _=>false
def allBool:Ty→Bool
 | .int _=>false
 | .bool=>true
 | .unit=>true
 | .pair a b=>allBool a&&allBool b
 | .sl _=>false
theorem take_drop_app {α:Type} (l m:List α) (j:Nat) (h:j<l.length):((l++m).drop j).take 1=(l.drop j).take 1:=by
 rw [List.drop_append_of_le_length (by omega),List.take_append_of_le_length (by simp; omega)]
theorem take_drop_app' {α:Type} (l m:List α) (j:Nat) (h:¬ j<l.length):((l++m).drop j).take 1=(m.drop (j - l.length)).take 1:=by
 rw [List.drop_append,List.drop_eq_nil_of_le (by omega),List.nil_append]
theorem cx_int {k:IntKind}:∀ {t:Ty} (x:El t) {j:Nat},allInt k t=true→j<t.size→((cellsX t x).drop j).take 1=[.int k (intAt t x j)]
 | .int q,x,j,hk,hj=>by
  have e:q=k:=by simpa [allInt] using hk
  subst e
  have:j=0:=by simp only [Ty.size] at hj; omega
  subst this; rfl
 | .unit,x,j,hk,hj=>by simp [Ty.size] at hj
 | .pair a b,x,j,hk,hj=>by
  simp only [allInt,Bool.and_eq_true] at hk
  show ((cellsOf a x.1++cellsOf b x.2).drop j).take 1=[.int k (if j<a.size then _ else _)]
  have hl:=cellsOf_len a x.1
  by_cases h:j<a.size
  ·rw [if_pos h,take_drop_app _ _ _ (by omega)]
   exact cx_int x.1 hk.1 h
  ·rw [if_neg h,take_drop_app' _ _ _ (by omega),hl]
   simp only [Ty.size] at hj
   exact cx_int x.2 hk.2 (by omega)
theorem splice_app (l m us:List AVal) (j:Nat) (h:j+us.length≤l.length):splice (l++m) j us=splice l j us++m:=by
 unfold splice
 rw [List.take_append_of_le_length (by omega),List.drop_append_of_le_length (by omega)]; simp
theorem splice_app' (l m us:List AVal) (j:Nat) (h:l.length≤j):splice (l++m) j us=l++splice m (j - l.length) us:=by
 unfold splice
 rw [List.take_append,List.drop_append,List.take_of_length_le (by omega),List.drop_eq_nil_of_le (by omega),List.nil_append,show j+us.length - l.length=j - l.length+us.length by omega]; simp
theorem cx_setInt {k:IntKind}:∀ {t:Ty} (x:El t) {j:Nat} (v:Int),allInt k t=true→j<t.size→splice (cellsX t x) j [.int k v]=cellsX t (setInt t x j v)
 | .int q,x,j,v,hk,hj=>by
  have e:q=k:=by simpa [allInt] using hk
  subst e
  have:j=0:=by simp only [Ty.size] at hj; omega
  subst this; rfl
 | .unit,x,j,v,hk,hj=>by simp [Ty.size] at hj
 | .pair a b,x,j,v,hk,hj=>by
  simp only [allInt,Bool.and_eq_true] at hk
  have hl:=cellsOf_len a x.1
  show splice (cellsOf a x.1++cellsOf b x.2) j _=cellsOf (.pair a b) (if j<a.size then _ else _)
  by_cases h:j<a.size
  ·rw [if_pos h,splice_app _ _ _ _ (by simp; omega)]
   have:=cx_setInt x.1 v hk.1 h
   unfold cellsX at this
   rw [this]; rfl
  ·rw [if_neg h,splice_app' _ _ _ _ (by omega),hl]
   simp only [Ty.size] at hj
   have:=cx_setInt x.2 (j:=j - a.size) v hk.2 (by omega)
   unfold cellsX at this
   rw [this]; rfl
/-! ### What is asked of cells -/
theorem idsL_cx (t:Ty) (x:El t):AVal.idsL (cellsX t x)=[]:=cellsOf_ids t x
theorem hasL_cx (t:Ty) (x:El t) (c:Nat):AVal.hasL (cellsX t x) c=false:=no_ids (cellsOf_ids t x) c
theorem renL_append (f:Nat→Nat):∀ (l m:List AVal),AVal.renL f (l++m)=AVal.renL f l++AVal.renL f m
 | [],m=>rfl
 | x::l,m=>by simp [AVal.renL,renL_append f l m]
theorem renL_cx (f:Nat→Nat):∀ (t:Ty) (x:El t),AVal.renL f (cellsX t x)=cellsX t x
 | .int _,_=>rfl
 | .bool,_=>rfl
 | .unit,_=>rfl
 | .pair a b,x=>by
  have h1:=renL_cx f a x.1
  have h2:=renL_cx f b x.2
  unfold cellsX at *
  simp only [cellsOf,renL_append,h1,h2]
 | .sl _,_=>rfl
theorem dryL_append:∀ (l m:List AVal),AVal.dryL (l++m)=(AVal.dryL l&&AVal.dryL m)
 | [],m=>rfl
 | x::l,m=>by simp [AVal.dryL,dryL_append l m,Bool.and_assoc]
theorem dryL_cx:∀ (t:Ty) (x:El t),AVal.dryL (cellsX t x)=t.dry
 | .int _,_=>rfl
 | .bool,_=>rfl
 | .unit,_=>rfl
 | .pair a b,x=>by
  have h1:=dryL_cx a x.1
  have h2:=dryL_cx b x.2
  unfold cellsX at *
  simp only [cellsOf,dryL_append,h1,h2,Ty.dry]
 | .sl _,_=>rfl
theorem cell_cx (H:AHeap):∀ (t:Ty) (x:El t),(cellsX t x).all (AVal.cell H)=true
 | .int _,_=>rfl
 | .bool,_=>rfl
 | .unit,_=>rfl
 | .pair a b,x=>by
  have h1:=cell_cx H a x.1
  have h2:=cell_cx H b x.2
  unfold cellsX at *
  simp only [cellsOf,List.all_append,h1,h2,Bool.and_self]
 | .sl _,_=>rfl
theorem toEl_app (H:AHeap):∀ (t:Ty) (x:El t) (r:List AVal),toEl H t (cellsX t x++r)=some (x,r)
 | .int k,_,_=>by simp [toEl,toInt,cellsX,cellsOf]
 | .bool,_,_=>by simp [toEl,toBool,cellsX,cellsOf]
 | .unit,_,_=>rfl
 | .pair a b,x,r=>by
  have h1:=toEl_app H a x.1 (cellsX b x.2++r)
  have h2:=toEl_app H b x.2 r
  unfold cellsX at *
  simp only [cellsOf,List.append_assoc,toEl,h1,h2]
 | .sl t,_,_=>by simp [toEl,toSl,cellsX,cellsOf]
theorem toEl_cx (H:AHeap) (t:Ty) (x:El t):toEl H t (cellsX t x)=some (x,[]):=by
 have:=toEl_app H t x []
 rwa [List.append_nil] at this
theorem clean_cx (K:List Nat) (t:Ty) (x:El t):(cellsX t x).map (AVal.clean K)=cellsX t x:=by
 have:∀ (l:List AVal),AVal.idsL l=[]→l.map (AVal.clean K)=l:=by
  intro l
  induction l with
  | nil=>intro _; rfl
  | cons y r ih =>
   intro h
   simp only [AVal.idsL,List.append_eq_nil_iff] at h
   rw [List.map_cons,ih h.2]
   have hy:y.clean K=y:=by
    unfold AVal.clean
    rw [if_neg]
    intro hc
    obtain ⟨b,_,hb⟩:=List.any_eq_true.1 hc
    have:=mem_ids y b hb
    rw [h.1] at this; cases this
   rw [hy]
 exact this _ (cellsOf_ids t x)
theorem LeL_append (H:AHeap) (D N:List Nat) (ρ:Nat→Nat):∀ (l l' m m':List AVal),l.length=l'.length→(LeL H D N ρ (l++m) (l'++m')↔LeL H D N ρ l l'∧LeL H D N ρ m m')
 | [],[],m,m',_=>by simp [LeL]
 | x::l,y::l',m,m',h=>by
  have:=LeL_append H D N ρ l l' m m' (by simpa using h)
  simp only [List.cons_append,LeL,this,and_assoc]
 | [],_::_,_,_,h=>by simp at h
 | _::_,[],_,_,h=>by simp at h
theorem LeL_cx (H:AHeap) (D N:List Nat) (ρ:Nat→Nat):∀ (t:Ty) (x y:El t),LeL H D N ρ (cellsX t x) (cellsX t y)↔x=y
 | .int k,x,y=>by simp [cellsX,cellsOf,LeL,LeV]
 | .bool,x,y=>by simp [cellsX,cellsOf,LeL,LeV]
 | .unit,x,y=>by simp [cellsX,cellsOf,LeL]
 | .pair a b,x,y=>by
  have h1:=LeL_cx H D N ρ a x.1 y.1
  have h2:=LeL_cx H D N ρ b x.2 y.2
  unfold cellsX at *
  simp only [cellsOf]
  rw [LeL_append _ _ _ _ _ _ _ _ (by rw [cellsOf_len,cellsOf_len]),h1,h2]
  exact ⟨fun h=>Prod.ext h.1 h.2,fun h=>by subst h; exact ⟨rfl,rfl⟩⟩
 | .sl t,x,y=>by simp [cellsX,cellsOf,LeL,LeV,castL_rfl]
end Go.Proofs.Ytenchhmcjmjlbaa
/-! The abstract machine,27: what a slice that is nil does,rows made longer by zeros,a row's beginning; yields under a guard; maps whose keys are arrays. No program is named here. -/
namespace Go.Proofs.Ytenchhmcjmjlbaa
open Go.RowKit Go.Maps
set_option linter.constructorNameAsVariable false
set_option linter.unusedVariables false
set_option linter.unusedSimpArgs false
theorem noUnL_append:∀ (l m:List AVal),noUnL (l++m)=(noUnL l&&noUnL m)
 | [],m=>rfl
 | x::l,m=>by simp [noUnL,noUnL_append l m,Bool.and_assoc]
theorem noUnL_cx:∀ (t:Ty) (x:El t),noUnL (cellsX t x)=true
 | .int _,_=>rfl
 | .bool,_=>rfl
 | .unit,_=>rfl
 | .pair a b,x=>by
  have h1:=noUnL_cx a x.1
  have h2:=noUnL_cx b x.2
  unfold cellsX at *
  simp only [cellsOf,noUnL_append,h1,h2,Bool.and_self]
 | .sl _,_=>rfl
def decEl:(t:Ty)→DecidableEq (El t)
 | .int _=>inferInstanceAs (DecidableEq Int)
 | .bool=>inferInstanceAs (DecidableEq Bool)
 | .unit=>inferInstanceAs (DecidableEq Unit)
 | .pair a b=>have:=decEl a; have:=decEl b; inferInstanceAs (DecidableEq (El a×El b))
 | .sl t=>have:=decEl t; inferInstanceAs (DecidableEq (List (El t)))
def decOk:(t:Ty)→(x:El t)→Decidable (okD t x)
 | .int k,n=>inferInstanceAs (Decidable (k.min≤n∧n≤k.max))
 | .bool,_=>.isTrue trivial
 | .unit,_=>.isTrue trivial
 | .pair a b,x=>have:=decOk a x.1; have:=decOk b x.2; inferInstanceAs (Decidable (okD a x.1∧okD b x.2))
 | .sl t,_=>.isFalse (fun h=>h)
instance (t:Ty) (x:El t):Decidable (okD t x):=decOk t x
section
variable {P:Program} {T:Tab} {n:Nat} {ds:List Deferred} {A0 L0:Nat→Prop} {w0:Old} {η:Nat→Value} {s:ASt} {a:Act} {w:World}
variable {ro:Option Nat} {Q:Exit→ASt→Prop} {σ:Nat→AVal} {H:AHeap} {g:Gh} {o:Oper} {ops rs:List Oper} {t e:TypeId} {i ie:TInfo}
theorem wanted_of {j tt:Nat} {want:Bool} (hg:o.guard=some (j,want)) (hj:(ops[j]?).bind (·.dst)=some tt) (hσ:s.σ tt=.bool want) (hr:Rel n ds A0 L0 w0 η s a w):Region.wanted o (yielded ops.toArray a.tmps)=true:=by
 have ht:=hr.tmp tt
 rw [hσ] at ht
 unfold RepV at ht
 have hj':(ops.toArray[j]?).bind (·.dst)=some tt:=by simpa using hj
 have hy:yielded ops.toArray a.tmps j=some want:=by
  have hget:a.tmps[tt]?=some (.bool want):=by
   rw [Array.getD_eq_getD_getElem?] at ht
   cases hc:a.tmps[tt]? with
   | none=>rw [hc] at ht; simp [undef] at ht
   | some v=>rw [hc] at ht; simp at ht; rw [ht]
  unfold yielded
  rw [hj',Option.bind_some,hget]
 simp [Region.wanted,hg,hy]
end
/-! ### Yields under a guard -/
section
variable {S R Y:Type} {P:Program} {n:Nat} {ro:Option Nat} {Q:Exit→ASt→Prop} {σ:Nat→AVal} {H:AHeap} {o:Oper} {ops rs:List Oper} {c:Call} {f:Operand} {enc:Y→List AVal} {body:Y→S→Option (Step S R)} {Γ:S→Gh} {Γx:R→Gh} {lp:Nat}
end
/-! ### Maps whose keys are arrays of numbers -/
attribute [go_sem high] idsL_cx hasL_cx renL_cx cell_cx toEl_cx clean_cx LeL_cx noUnL_cx dryL_cx
attribute [go_sem] cellsX_len
end Go.Proofs.Ytenchhmcjmjlbaa
/-! The abstract machine,28: arrays and structs of numbers held against each other. No program is named here. -/
namespace Go.Proofs.Ytenchhmcjmjlbaa
open Go.RowKit Go.WideShapes
set_option linter.constructorNameAsVariable false
set_option linter.unusedVariables false
set_option linter.unusedSimpArgs false
structure EqTy (P:Program) (t:TypeId) (τ:Ty):Prop where
 key:∀ x:El τ,okD τ x→∃ l,keyOf P t (.agg (τ.vals x).toArray)=some l
 at':∃ m,m≤10000∧P.keyTypeAt m t=true
 tiled:∃ m,P.tiled m t=true
 wide:(match P.underlying t with|some (.array _ _)|some (.struct _)=>true|_=>false)=true
 guard:P.eqGuardType P.depth t=false
 dry:τ.dry=true
section
variable {P:Program} {T:Tab} {n:Nat} {ro:Option Nat} {Q:Exit→ASt→Prop} {σ:Nat→AVal} {H:AHeap} {g:Gh} {o:Oper} {ops rs:List Oper} {t:TypeId} {τ:Ty}
theorem run_eq_data (E:EqTy P t τ) [DecidableEq (El τ)] {x y:El τ} (hx:okD τ x) (hy:okD τ y) (w:World):(Op.equal t (.agg (τ.vals x).toArray) (.agg (τ.vals y).toArray)).run P w=.ok (decide (x=y)) w:=by
 obtain ⟨lx,h1⟩:=E.key x hx
 obtain ⟨ly,h2⟩:=E.key y hy
 obtain ⟨m,hm,hk⟩:=E.at'
 obtain ⟨m',ht⟩:=E.tiled
 obtain ⟨r,hr,hiff⟩:=run_equal_deep w hm hk E.wide h1 h2
 rw [hr]
 congr 1
 have:r=true↔x=y:=by
  rw [hiff]
  constructor
  ·intro e
   subst e
   have:=keyOf_inj_deep ht E.wide h1 h2
   injection this with this
   have:=congrArg Array.toList this
   exact vals_inj τ x y E.dry (by simpa using this)
  ·intro e
   subst e
   rw [h1] at h2
   injection h2
 rw [Bool.eq_iff_iff,this]; simp
theorem AO.aggEq (E:EqTy P t τ) [DecidableEq (El τ)] (hd:dstOK n [o]=true) (hg:o.guard=none) {x y:Operand} {z:Nat} {neg:Bool} (ho:o.op=.binOp (if neg then .neq else .eql) t x y z) {lx ly:List AVal} (hx:(ASt.mk σ H g).ev x=.agg lx) (hy:(ASt.mk σ H g).ev y=.agg ly)
  {u v:El τ} (hu:toEl H τ lx=some (u,[])) (hv:toEl H τ ly=some (v,[])) (ku:okD τ u) (kv:okD τ v)
  (h2:AO P ro n ops rs Q ((ASt.mk σ H g).app o.dst { v:=.bool (if neg then !decide (u=v) else decide (u=v)) })):AO P ro n ops (o::rs) Q ⟨σ,H,g⟩:=by
 intro m ds A0 L0 w0 η a w hq0 hr
 unfold wpListIn
 rw [if_pos (op_guard hg _)]
 have hxv:=hr.ev x
 have hyv:=hr.ev y
 rw [hx] at hxv
 rw [hy] at hyv
 have e1:=unpack_pv (ag:=true) E.dry (.inl rfl) (show unpackA true (.agg lx) lx from ⟨rfl,rfl⟩) hu hxv
 have e2:=unpack_pv (ag:=true) E.dry (.inl rfl) (show unpackA true (.agg ly) ly from ⟨rfl,rfl⟩) hv hyv
 have heq:=run_eq_data E ku kv w
 simp only [pv,if_true] at e1 e2
 cases neg with
 | false =>
  refine wpIn_value (u:=.bool (decide (u=v))) (w':=w) (by simp [ho]) ?_ (h2 m ds A0 L0 w0 η _ w hq0 (hr.pure (dst_lt hd) (by unfold RepV; rfl)))
  simp [execOp,ho,e1,e2,eqGuard,E.guard,binOp,heq]
 | true =>
  refine wpIn_value (u:=.bool (!decide (u=v))) (w':=w) (by simp [ho]) ?_ (h2 m ds A0 L0 w0 η _ w hq0 (hr.pure (dst_lt hd) (by unfold RepV; rfl)))
  simp [execOp,ho,e1,e2,eqGuard,E.guard,binOp,heq]
end
end Go.Proofs.Ytenchhmcjmjlbaa
/-! The abstract machine,29: a region that draws its order and ends in operations that wait for all before them. No program is named here. -/
namespace Go.Proofs.Ytenchhmcjmjlbaa
open Go.RowKit
set_option linter.constructorNameAsVariable false
set_option linter.unusedVariables false
set_option linter.unusedSimpArgs false
set_option linter.unnecessarySimpa false
def tailOK (ops:List Oper) (k:Nat):Bool :=
 ((List.range k).all fun j=>match ops[j]? with
  | some o=>o.after.toList.all fun e=>!Region.binds .any e || decide (e.on<j)
  | none=>false) &&
 ((List.range ops.length).all fun j=>decide (j<k) || (List.range j).all fun i=>waitsB ops.toArray ops.length j i) &&
 ((List.range ops.length).all fun j=>decide (j<k) || match ops[j]? with
  | some o=>o.after.toList.all fun e=>!Region.binds .any e || decide (e.on<j)
  | none=>false)
theorem slOps00 (x:Operand):(#[x]++(none:Option Operand).toArray++(none:Option Operand).toArray++(none:Option Operand).toArray).toList=[x]:=rfl
theorem slOps01 (x y:Operand):(#[x]++(none:Option Operand).toArray++(some y).toArray++(none:Option Operand).toArray).toList=[x,y]:=rfl
theorem slOps10 (x y:Operand):(#[x]++(some y).toArray++(none:Option Operand).toArray++(none:Option Operand).toArray).toList=[x,y]:=rfl
theorem slOps11 (x y z:Operand):(#[x]++(some y).toArray++(some z).toArray++(none:Option Operand).toArray).toList=[x,y,z]:=rfl
attribute [go_sem high] slOps00 slOps01 slOps10 slOps11
structure Ext (k n:Nat) (l l':Array Bool):Prop where
 sl:l.size=n
 sl':l'.size=k
 lo:∀ i,i<k→l[i]?=l'[i]?
 hi:∀ i,k≤i→i<n→l[i]?=some false
section
variable {P:Program} {T:Tab} {X F:List (Nat×List Nat)} {E:Nat→Eff} {n:Nat} {ds:List Deferred} {A0 L0:Nat→Prop} {w0:Old}
theorem gstep_pre {pre tail:List Oper} {s:ASt} {o:Oper} {K:Eff→Prop} (h:gstep P T pre s o K):gstep P T (pre++tail) s o K:=by
 unfold gstep at h ⊢
 cases hg:o.guard with
 | none=>simp only [hg] at h ⊢; exact h
 | some q =>
  obtain ⟨j,want⟩:=q
  simp only [hg] at h ⊢
  by_cases hj:j<pre.length
  ·rw [List.getElem?_append_left hj]; exact h
  ·rw [List.getElem?_eq_none (by omega)] at h
   simp at h
theorem tail_sound {ops:List Oper} {ro:Option Nat} {m:Nat} {Q':Exit→Act→World→Prop} (hch:∀ j,j<ops.length→∀ i,i<j→(ops.length - 1<j∨True)) :
  ∀ (t:List Oper) (k x:Nat) (l:Array Bool) (a:Act) (w:World),k+t.length=ops.length→(∀ j,t[j]?=ops[k+j]?)→l.size=ops.length→(∀ i,i<k→l[i]?=some true)→(∀ i,k≤i→i<ops.length→l[i]?=some false) →
   (∀ j,k≤j→j<ops.length→∀ i,i<j→waitsB ops.toArray ops.length j i=true)→(∀ j o,k≤j→ops[j]?=some o→∀ e∈o.after,Region.binds .any e=true→e.on<j)→Closed ops.toArray l →
   wpListIn (fen ro) m P ops.toArray Q' t a w→wpAnyIn (fen ro) m P .any ops.toArray Q' (x+t.length) l a w
 | [],k,x,l,a,w,hk,_,hs,ht,hf,_,_,_,h=>by
  have hr:Region.ready .any ops.toArray l=[]:=by
   rw [List.eq_nil_iff_forall_not_mem]
   intro j hj
   obtain ⟨h0,o,ho,_⟩:=mem_ready.1 hj
   have hlt:j<ops.length:=by simpa using (Array.getElem?_eq_some_iff.1 ho).1
   have:=ht j (by simp at hk; omega)
   rw [Array.getD_eq_getD_getElem?,this] at h0
   simp at h0
  cases x with
  | zero=>exact ⟨hr,h⟩
  | succ x=>exact ⟨fun _=>h,fun i hi=>by rw [hr] at hi; cases hi⟩
 | o::t,k,x,l,a,w,hk,ht0,hs,ht,hf,hwt,haf,hcl,h=>by
  have hk':k<ops.length:=by simp at hk; omega
  have ho:ops[k]?=some o:=by have:=ht0 0; simpa using this.symm
  have hoa:ops.toArray[k]?=some o:=by simpa using ho
  have hall:∀ e∈o.after,Region.binds .any e=true→l.getD e.on false=true:=fun e he hb=>by
   have:=ht e.on (haf k o (Nat.le_refl _) ho e he hb)
   rw [Array.getD_eq_getD_getElem?,this]; rfl
  have hrk:k∈Region.ready .any ops.toArray l:=mem_ready.2 ⟨by rw [Array.getD_eq_getD_getElem?,hf k (Nat.le_refl _) hk']; rfl,o,hoa,hall⟩
  show wpAnyIn (fen ro) m P .any ops.toArray Q' (x+t.length+1) l a w
  refine ⟨(fun h0=>by rw [h0] at hrk; cases hrk),fun i hi=>?_⟩
  obtain ⟨h0,oi,hoi,halli⟩:=mem_ready.1 hi
  have hil:i<ops.length:=by simpa using (Array.getElem?_eq_some_iff.1 hoi).1
  have hik:i=k:=by
   rcases Nat.lt_trichotomy i k with h1|h1|h1
   ·rw [Array.getD_eq_getD_getElem?,ht i h1] at h0; simp at h0
   ·exact h1
   ·have:=waits_listed hcl ops.length i k oi hoi halli (hwt i (by omega) hil k h1)
    rw [Array.getD_eq_getD_getElem?,hf k (Nat.le_refl _) hk'] at this
    simp at this
  subst hik
  unfold wpOpIn
  rw [hoa]
  simp only
  unfold wpListIn at h
  have next:∀ a w,wpListIn (fen ro) m P ops.toArray Q' t a w→wpAnyIn (fen ro) m P .any ops.toArray Q' (x+t.length) (l.setIfInBounds i true) a w:=fun a w hw=>by
   refine tail_sound hch t (i+1) x _ a w (by simp at hk; omega) (fun j=>by have:=ht0 (j+1); simpa [Nat.add_assoc,Nat.add_comm 1 j] using this) (by simpa using hs) (fun j hj=>?_) (fun j hj hj'=>?_) (fun j hj hj'=>hwt j (by omega) hj') (fun j o hj=>haf j o (by omega)) (closed_set hcl hoa hall) hw
   ·by_cases e:j=i
    ·subst e; rw [Array.getElem?_setIfInBounds_self_of_lt (by omega)]
    ·rw [Array.getElem?_setIfInBounds_ne (Ne.symm e)]; exact ht j (by omega)
   ·rw [Array.getElem?_setIfInBounds_ne (by omega)]; exact hf j (by omega) hj'
  split
  ·rename_i hw
   rw [if_pos hw] at h
   exact Oper.wpIn_mono next h
  ·rename_i hw
   rw [if_neg hw] at h
   exact ⟨h.1,next _ _ h.2⟩
theorem pre_sound (hT:TabOK P T) {pre tail:List Oper} {ro:Option Nat} {m:Nat} {Q':Exit→Act→World→Prop} {K:ASt→Prop} (hd:dstOK n pre=true)
  (hB:∀ j o,(pre++tail)[j]?=some o→∀ e∈o.after,Region.binds .any e=true→e.on<j)
  (hwt:∀ j,pre.length≤j→j<(pre++tail).length→∀ i,i<j→waitsB (pre++tail).toArray (pre++tail).length j i=true)
  (hQ:∀ s η a w,K s→Rel n ds A0 L0 w0 η s a w→wpListIn (fen ro) m P (pre++tail).toArray Q' tail a w) :
  ∀ (fuel:Nat) (l l':Array Bool) (s:ASt) (η:Nat→Value) (a:Act) (w:World),Ext pre.length (pre++tail).length l l'→Closed (pre++tail).toArray l→Rel n ds A0 L0 w0 η s a w→anyF P T pre X F E K fuel l' s→wpAnyIn (fen ro) m P .any (pre++tail).toArray Q' (fuel+tail.length) l a w:=by
 intro fuel
 induction fuel with
 | zero =>
  intro l l' s η a w hE hcl hr h
  -- all are listed
  have hall:∀ i,i<pre.length→l[i]?=some true:=by
   intro i
   induction i using Nat.strongRecOn with
   | ind i ih =>
    intro hi
    have hlt:i<l'.size:=by rw [hE.sl']; exact hi
    have hi2:l'[i]?=some l'[i]:=by simp [hlt]
    cases hb:l'[i] with
    | true=>rw [hE.lo i hi,hi2,hb]
    | false =>
     exfalso
     have ho:pre[i]?=some pre[i]:=by simp [hi]
     have:i∈Region.ready .any pre.toArray l':=mem_ready.2 ⟨by rw [Array.getD_eq_getD_getElem?,hi2,hb]; rfl,pre[i],by simpa using ho,fun e he hbe=>by
      have h1:=hB i pre[i] (by rw [List.getElem?_append_left hi,ho]) e he hbe
      have h2:=ih e.on h1 (by omega)
      rw [hE.lo e.on (by omega)] at h2
      rw [Array.getD_eq_getD_getElem?,h2]; rfl⟩
     rw [h.1] at this; cases this
  exact tail_sound (fun _ _ _ _=>.inr trivial) tail pre.length 0 l a w (by simp) (fun j=>by rw [List.getElem?_append_right (by omega)]; congr 1; omega) hE.sl hall hE.hi hwt (fun j o _ ho=>hB j o ho) hcl (hQ s η a w h.2 hr)
 | succ fuel ih =>
  intro l l' s η a w hE hcl hr h
  by_cases hc:Region.ready .any pre.toArray l'=[]
  ·have hall:∀ i,i<pre.length→l[i]?=some true:=by
    intro i
    induction i using Nat.strongRecOn with
    | ind i ih =>
     intro hi
     have hlt:i<l'.size:=by rw [hE.sl']; exact hi
     have hi2:l'[i]?=some l'[i]:=by simp [hlt]
     cases hb:l'[i] with
     | true=>rw [hE.lo i hi,hi2,hb]
     | false =>
      exfalso
      have ho:pre[i]?=some pre[i]:=by simp [hi]
      have:i∈Region.ready .any pre.toArray l':=mem_ready.2 ⟨by rw [Array.getD_eq_getD_getElem?,hi2,hb]; rfl,pre[i],by simpa using ho,fun e he hbe=>by
       have h1:=hB i pre[i] (by rw [List.getElem?_append_left hi,ho]) e he hbe
       have h2:=ih e.on h1 (by omega)
       rw [hE.lo e.on (by omega)] at h2
       rw [Array.getD_eq_getD_getElem?,h2]; rfl⟩
      rw [hc] at this; cases this
   exact tail_sound (fun _ _ _ _=>.inr trivial) tail pre.length (fuel+1) l a w (by simp) (fun j=>by rw [List.getElem?_append_right (by omega)]; congr 1; omega) hE.sl hall hE.hi hwt (fun j o _ ho=>hB j o ho) hcl (hQ s η a w (h.1 hc) hr)
  ·-- what may be next is one of the first ones
   have hsub:∀ i,i∈Region.ready .any pre.toArray l'→i∈Region.ready .any (pre++tail).toArray l:=by
    intro i hi
    obtain ⟨h0,o,ho,hal⟩:=mem_ready.1 hi
    have hlt:i<pre.length:=by simpa using (Array.getElem?_eq_some_iff.1 ho).1
    have ho':pre[i]?=some o:=by simpa using ho
    refine mem_ready.2 ⟨?_,o,by simpa [List.getElem?_append_left hlt] using ho',fun e he hbe=>?_⟩
    ·rw [Array.getD_eq_getD_getElem?,hE.lo i hlt]; rw [Array.getD_eq_getD_getElem?] at h0; exact h0
    ·have h1:=hB i o (by rw [List.getElem?_append_left hlt,ho']) e he hbe
     have:=hal e he hbe
     rw [Array.getD_eq_getD_getElem?] at this ⊢
     rw [hE.lo e.on (by omega)]; exact this
   obtain ⟨i0,hi0⟩:=List.exists_mem_of_ne_nil _ hc
   rw [show fuel+1+tail.length=fuel+tail.length+1 by omega]
   refine ⟨(fun h0=>by have:=hsub i0 hi0; rw [h0] at this; cases this),fun i hi=>?_⟩
   obtain ⟨h0,o,ho,hal⟩:=mem_ready.1 hi
   have hil:i<(pre++tail).length:=by simpa using (Array.getElem?_eq_some_iff.1 ho).1
   have hik:i<pre.length:=by
    by_cases hik:i<pre.length
    ·exact hik
    ·exfalso
     obtain ⟨g0,o1,g1,g2⟩:=mem_ready.1 hi0
     have g3:i0<pre.length:=by simpa using (Array.getElem?_eq_some_iff.1 g1).1
     have:=waits_listed hcl (pre++tail).length i i0 o ho hal (hwt i (by omega) hil i0 (by omega))
     rw [Array.getD_eq_getD_getElem?,hE.lo i0 g3] at this
     rw [Array.getD_eq_getD_getElem?] at g0
     cases hx:l'[i0]? with
     | none=>rw [hx] at g0; simp at g0
     | some b=>rw [hx] at g0 this; simp at g0 this; rw [g0] at this; cases this
   have hop:pre[i]?=some o:=by
    have:(pre++tail)[i]?=some o:=by simpa using ho
    rwa [List.getElem?_append_left hik] at this
   have hir:i∈Region.ready .any pre.toArray l':=mem_ready.2 ⟨by rw [Array.getD_eq_getD_getElem?,← hE.lo i hik]; rw [Array.getD_eq_getD_getElem?] at h0; exact h0,o,by simpa using hop,fun e he hbe=>by
    have h1:=hB i o (by rw [List.getElem?_append_left hik,hop]) e he hbe
    have:=hal e he hbe
    rw [Array.getD_eq_getD_getElem?] at this ⊢
    rw [← hE.lo e.on (by omega)]; exact this⟩
   obtain ⟨o',ho',hst,hrest⟩:=h.2 i hir
   have e:o'=o:=by rw [hop] at ho'; injection ho' with e; exact e.symm
   subst e
   unfold wpOpIn
   rw [ho]
   simp only
   have hdo:∀ t,o'.dst=some t→t<n:=fun t ht=>by
    have:=List.all_eq_true.1 hd o' (List.mem_of_getElem? hop)
    rw [ht] at this; simpa using this
   exact gstep_sound hT hdo hr (gstep_pre hst.step) fun e η' a' w' he hr'=>by
    subst he
    refine ih _ _ _ η' a' w' ⟨by simpa using hE.sl,by simpa using hE.sl',fun j hj=>?_,fun j hj hj'=>?_⟩ (closed_set hcl ho hal) hr' hrest
    ·by_cases e:j=i
     ·subst e; rw [Array.getElem?_setIfInBounds_self_of_lt (by rw [hE.sl]; omega),Array.getElem?_setIfInBounds_self_of_lt (by rw [hE.sl']; omega)]
     ·rw [Array.getElem?_setIfInBounds_ne (Ne.symm e),Array.getElem?_setIfInBounds_ne (Ne.symm e)]; exact hE.lo j hj
    ·rw [Array.getElem?_setIfInBounds_ne (by omega)]; exact hE.hi j hj hj'
theorem AW.drawTail (hT:TabOK P T) (hm:P.follows .mixedOrders=true) {ro:Option Nat} {id:Nat} {Q:Exit→ASt→Prop} {s:ASt} (k:Nat) {ops:List Oper} (X F:List (Nat×List Nat)) (hd:dstOK n (ops.take k)=true) (hB:lexE (ops.take k) X F=true) (hO:tailOK ops k=true) (hk:k≤ops.length)
  (h:adops P T (ops.take k) X F 0 (ops.take k) s (fun s'=>AO P ro n ops (ops.drop k) Q s')):AW P ro n (.region id ops.toArray true) Q s:=by
 intro m ds A0 L0 w0 η a w hq0 hr
 refine wpIn_region_any hm ?_
 obtain ⟨E,hE⟩:=trF_of (ops.take k) 0 s h
 obtain ⟨pre,hpre⟩:∃ pre,pre=ops.take k:=⟨_,rfl⟩
 obtain ⟨tail,htail⟩:∃ tail,tail=ops.drop k:=⟨_,rfl⟩
 have happ:ops=pre++tail:=by rw [hpre,htail,List.take_append_drop]
 have hplen:pre.length=k:=by rw [hpre]; simp; omega
 rw [← hpre] at hd hB hE
 rw [← htail] at hE
 have hcl':Closed pre.toArray (Array.replicate pre.length false):=fun j oj hj hl=>by
  have hlt:j<pre.length:=by simpa using (Array.getElem?_eq_some_iff.1 hj).1
  rw [Array.getD_eq_getD_getElem?] at hl
  simp [hlt] at hl
 have hany:=anyF_lex pre 0 (Array.replicate pre.length false) s hcl' (fun j=>by rw [Nat.zero_add]) hB hE
 unfold tailOK at hO
 simp only [Bool.and_eq_true] at hO
 obtain ⟨⟨o1,o2⟩,o3⟩:=hO
 have hBB:∀ j o,ops[j]?=some o→∀ e∈o.after,Region.binds .any e=true→e.on<j:=by
  intro j o ho e he hb
  have hlt:=(List.getElem?_eq_some_iff.1 ho).1
  by_cases hj:j<k
  ·have:=List.all_eq_true.1 o1 j (List.mem_range.2 hj)
   simp only [ho] at this
   have:=List.all_eq_true.1 this e (by simpa using he)
   simpa [hb] using this
  ·have:=List.all_eq_true.1 o3 j (List.mem_range.2 hlt)
   simp only [ho,hj,decide_false,Bool.false_or] at this
   have:=List.all_eq_true.1 this e (by simpa using he)
   simpa [hb] using this
 have hww:∀ j,k≤j→j<ops.length→∀ i,i<j→waitsB ops.toArray ops.length j i=true:=by
  intro j hj hlt i hi
  have:=List.all_eq_true.1 o2 j (List.mem_range.2 hlt)
  simp only [show ¬ j<k by omega,decide_false,Bool.false_or] at this
  exact List.all_eq_true.1 this i (List.mem_range.2 hi)
 subst happ
 have hsz:(pre++tail).toArray.size=pre.length+tail.length:=by simp
 have hclf:Closed (pre++tail).toArray (Array.replicate (pre++tail).length false):=fun j oj hj hl=>by
  have hlt:j<(pre++tail).length:=by simpa using (Array.getElem?_eq_some_iff.1 hj).1
  rw [Array.getD_eq_getD_getElem?] at hl
  rw [Array.getElem?_replicate,if_pos hlt] at hl
  simp at hl
 have:=pre_sound (ro:=ro) (m:=m) (Q':=RelQ n ds L0 w0 Q) hT hd hBB (fun j hj=>hww j (by omega)) (fun s η a w hQ hR=>hQ m ds A0 L0 w0 η a w hq0 hR) pre.length (Array.replicate (pre++tail).length false) (Array.replicate pre.length false) s η a _
  ⟨by simp,by simp,fun i hi=>by rw [Array.getElem?_replicate,Array.getElem?_replicate,if_pos hi,if_pos (by simp; omega)],fun i _ hi=>by rw [Array.getElem?_replicate,if_pos hi]⟩ hclf hr.drew hany
 rw [hsz]
 simpa using this
end
end Go.Proofs.Ytenchhmcjmjlbaa
/-! The abstract machine,30: a part of a row of one's own that is only looked at. No program is named here. -/
namespace Go.Proofs.Ytenchhmcjmjlbaa
open Go.RowKit
set_option linter.constructorNameAsVariable false
set_option linter.unusedVariables false
section
variable {P:Program} {T:Tab} {n:Nat} {ro:Option Nat} {Q:Exit→ASt→Prop} {σ:Nat→AVal} {H:AHeap} {g:Gh} {o:Oper} {ops rs:List Oper} {t e:TypeId} {i ie:TInfo}
end
end Go.Proofs.Ytenchhmcjmjlbaa
/-! Maps whose keys are structs or arrays of data. -/
namespace Go.Proofs.Ytenchhmcjmjlbaa
open Go.RowKit Go.Maps
set_option linter.constructorNameAsVariable false
set_option linter.unusedVariables false
def fitL (P:Program) (g:TypeId→Ty→Bool):List (Nat×TypeId)→Nat→Ty→Bool
 | [],_,_=>false
 | (o,t)::r,off,τ=>match r with
  | []=>o==off&&P.cellsOf t==τ.size&&g t τ
  | _::_=>match τ with
   | .pair a b=>o==off&&P.cellsOf t==a.size&&g t a&&fitL P g r (off+a.size) b
   | _=>false
def keyFit (P:Program):Nat→TypeId→Ty→Bool
 | 0,_,_=>false
 | d+1,t,τ=>match P.underlying t with
  | some .bool=>decide (τ=.bool)
  | some (.int q)=>decide (τ=.int q)
  | some (.array n e)=>τ.size==P.cellsOf t&&fitL P (keyFit P d) ((List.range n).map fun i=>(i*P.cellsOf e,e)) 0 τ
  | some (.struct fs)=>τ.size==P.cellsOf t&&fs.all (fun f=>f.name != "_")&&fitL P (keyFit P d) (fs.toList.map fun f=>(f.offset,f.type)) 0 τ
  | _=>false
theorem okD_dry:∀ (t:Ty) (x:El t),okD t x→t.dry=true
 | .int _,_,_=>rfl
 | .bool,_,_=>rfl
 | .unit,_,_=>rfl
 | .pair a b,x,h=>by simp only [Ty.dry,okD_dry a x.1 h.1,okD_dry b x.2 h.2,Bool.and_self]
 | .sl _,_,h=>h.elim
theorem fitL_lits {P:Program} {d:Nat} (ih:∀ (t:TypeId) (τ:Ty) (x:El τ),keyFit P d t τ=true→okD τ x→∃ ls,P.keyLits d t (τ.vals x)=some ls) :
  ∀ (L:List (Nat×TypeId)) (off:Nat) (τ:Ty) (x:El τ) (cs:List Value),fitL P (keyFit P d) L off τ=true→okD τ x→cs.drop off=τ.vals x→∃ ls:List (List Lit),L.mapM (fun p=>P.keyLits d p.2 ((cs.drop p.1).take (P.cellsOf p.2)))=some ls
 | [],off,τ,x,cs,h,_,_=>by simp [fitL] at h
 | (o,t)::r,off,τ,x,cs,h,hx,hc=>by
  unfold fitL at h
  cases r with
  | nil =>
   simp only [Bool.and_eq_true,beq_iff_eq] at h
   obtain ⟨⟨rfl,h2⟩,h3⟩:=h
   obtain ⟨ls,hl⟩:=ih t τ x h3 hx
   refine ⟨[ls],?_⟩
   have hlen:=vals_len τ x (okD_dry τ x hx)
   have e1:(cs.drop o).take (P.cellsOf t)=τ.vals x:=by rw [hc,h2]; exact List.take_of_length_le (by omega)
   rw [List.mapM_cons]
   simp only [e1,hl]
   rfl
  | cons q r =>
   cases τ with
   | pair a b =>
    simp only [Bool.and_eq_true,beq_iff_eq] at h
    obtain ⟨⟨⟨rfl,h2⟩,h3⟩,h4⟩:=h
    have hla:=vals_len a x.1 (okD_dry a x.1 hx.1)
    obtain ⟨ls,hl⟩:=ih t a x.1 h3 hx.1
    have hc':cs.drop o=a.vals x.1++b.vals x.2:=hc
    obtain ⟨lr,hr⟩:=fitL_lits ih (q::r) (o+a.size) b x.2 cs h4 hx.2 (by rw [← List.drop_drop,hc',List.drop_append_of_le_length (by omega),List.drop_of_length_le (by omega),List.nil_append])
    refine ⟨ls::lr,?_⟩
    have e1:(cs.drop o).take (P.cellsOf t)=a.vals x.1:=by rw [hc',h2,List.take_append_of_le_length (by omega)]; exact List.take_of_length_le (by omega)
    rw [List.mapM_cons,hr]
    simp only [e1,hl]
    rfl
   | _=>simp at h
theorem mapM_map {α β γ:Type} (f:β→Option γ) (g:α→β):∀ l:List α,(l.map g).mapM f=l.mapM fun x=>f (g x)
 | []=>rfl
 | x::l=>by rw [List.map_cons,List.mapM_cons,List.mapM_cons,mapM_map f g l]
theorem keyFit_lits {P:Program}:∀ (d:Nat) (t:TypeId) (τ:Ty) (x:El τ),keyFit P d t τ=true→okD τ x→∃ ls,P.keyLits d t (τ.vals x)=some ls
 | 0,t,τ,x,h,_=>by simp [keyFit] at h
 | d+1,t,τ,x,h,hx=>by
  unfold keyFit at h
  unfold Program.keyLits
  split at h
  ·rename_i hu
   have:τ=.bool:=by simpa using h
   subst this
   rw [hu]
   exact ⟨_,rfl⟩
  ·rename_i q hu
   have:τ=.int q:=by simpa using h
   subst this
   rw [hu]
   have hw:(Lit.int q x).wf=true:=inK_wf hx
   exact ⟨[.int q x],by simp [Ty.vals,hw]⟩
  ·rename_i n e hu
   simp only [Bool.and_eq_true,beq_iff_eq] at h
   obtain ⟨h1,h2⟩:=h
   obtain ⟨ls,hl⟩:=fitL_lits (keyFit_lits d) _ 0 τ x (τ.vals x) h2 hx rfl
   rw [mapM_map] at hl
   simp only [hu]
   rw [if_pos (by rw [vals_len τ x (okD_dry τ x hx),h1]),hl]
   exact ⟨_,rfl⟩
  ·rename_i fs hu
   simp only [Bool.and_eq_true,beq_iff_eq] at h
   obtain ⟨⟨h1,h3⟩,h2⟩:=h
   obtain ⟨ls,hl⟩:=fitL_lits (keyFit_lits d) _ 0 τ x (τ.vals x) h2 hx rfl
   rw [mapM_map] at hl
   simp only [hu]
   rw [if_pos ⟨by rw [vals_len τ x (okD_dry τ x hx),h1],h3⟩,hl]
   exact ⟨_,rfl⟩
  ·cases h
theorem key_deep {P:Program} {k:TypeId} {kt:Ty} (hw:(match P.underlying k with|some (.array _ _)|some (.struct _)=>true|_=>false)=true) (hkt:P.keyType k=true) (hsz:P.cellsOf k=kt.size) (hfit:keyFit P (P.types.size+1) k kt=true) (kdry:kt.dry=true) (x:El kt) (hx:okD kt x):∃ l,keyOf P k (.agg (kt.vals x).toArray)=some l:=by
 obtain ⟨ls,hls⟩:=keyFit_lits _ k kt x hfit hx
 have hcell:(Value.agg (kt.vals x).toArray).cells.toList=kt.vals x:=by simp [Value.cells]
 have hlen:=vals_len kt x kdry
 unfold keyOf
 split
 ·rename_i n e' hu
  rw [if_pos (by simp [hkt,Value.formed,hu,hlen,hsz]),hcell,hls]
  exact ⟨_,rfl⟩
 ·rename_i fs hu
  rw [if_pos (by simp [hkt,Value.formed,hu,hlen,hsz]),hcell,hls]
  exact ⟨_,rfl⟩
 ·rename_i h1 h2
  split at hw
  ·rename_i n e' hu; exact absurd hu (h1 _ _)
  ·rename_i fs hu; exact absurd hu (h2 _)
  ·cases hw
theorem eqty_deep {P:Program} {t:TypeId} {τ:Ty} (m:Nat) (hm:m≤10000) (hk:P.keyTypeAt m t=true) (htl:P.tiled m t=true) (hw:(match P.underlying t with|some (.array _ _)|some (.struct _)=>true|_=>false)=true)
  (hkt:P.keyType t=true) (hsz:P.cellsOf t=τ.size) (hfit:keyFit P (P.types.size+1) t τ=true) (hg:P.eqGuardType P.depth t=false) (hd:τ.dry=true):EqTy P t τ :=
 ⟨fun x hx=>key_deep hw hkt hsz hfit hd x hx,⟨m,hm,hk⟩,⟨m,htl⟩,hw,hg,hd⟩
end Go.Proofs.Ytenchhmcjmjlbaa
