import Derived.Test.YtanaeefeggokkaaGreatAvc
import Derived.Lib.AppendZeros
import Derived.WideKeyArr2
import Derived.Laws.StructEq
import Derived.DeepKeys3
/-! The check of a region that draws its order,with a table of what waits for what. No program is named here. -/
namespace Go.Proofs.YtanaeefeggokkaaGreat
open Go.RowKit
set_option linter.unusedVariables false
def b3y (tb:List Nat) (oi:Oper):Nat :=
 oi.after.toList.foldl (fun m e=>if Region.binds .any e&&decide (e.on<tb.length) then (m ||| 2 ^ e.on) ||| tb.getD e.on 0 else m) 0
def a8B (ops:List Oper):List Nat:=ops.foldl (fun tb oi=>tb++[b3y tb oi]) []
def b50 (ops:Array Oper) (X F:List (Nat×List Nat)) (tb:List Nat) (listed:Array Bool) (i:Nat):Bool :=
 match ops[i]? with
 | none=>false
 | some oi=>(List.range ops.size).all fun j=>j==i || listed.getD j true || (tb.getD j 0).testBit i || match ops[j]? with
   | some oj=>oi.apart ops oj&&a8t X F (X6 oi) (X6 oj) i j
   | none=>true
def a5R (ops:Array Oper) (X F:List (Nat×List Nat)) (tb:List Nat):Nat→Nat→Array Bool→Bool
 | 0,_,listed=>(Region.ready .any ops listed).isEmpty
 | I3+1,k,listed=>(Region.ready .any ops listed).contains k&&b50 ops X F tb listed k&&a5R ops X F tb I3 (k+1) (listed.setIfInBounds k true)
def b9V (ops:List Oper) (X F:List (Nat×List Nat)):Bool:=a5R ops.toArray X F (a8B ops) ops.length 0 (Array.replicate ops.length false)
theorem a31 {ops:Array Oper}:∀ {n m j i:Nat},n≤m→T1 ops n j i=true→T1 ops m j i=true
 | 0,m,j,i,_,h=>by cases h
 | n+1,0,j,i,hm,_=>by omega
 | n+1,m+1,j,i,hm,h=>by
  unfold T1 at h ⊢
  cases hj:ops[j]? with
  | none=>rw [hj] at h; cases h
  | some oj =>
   rw [hj] at h;simp only [Bool.or_eq_true,Array.any_eq_true,Bool.and_eq_true] at h ⊢;rcases h with h|⟨k,hk,h1,h2⟩
   ·exact .inl h
   ·exact .inr ⟨k,hk,h1,a31 (by omega) h2⟩
theorem b3x (tb:List Nat) (i:Nat):∀ (l:List Edge) (m:Nat),(l.foldl (fun m e=>if Region.binds .any e&&decide (e.on<tb.length) then (m ||| 2 ^ e.on) ||| tb.getD e.on 0 else m) m).testBit i=true →
  m.testBit i=true∨∃ e∈l,Region.binds .any e=true∧e.on<tb.length∧(e.on=i∨(tb.getD e.on 0).testBit i=true)
 | [],m,h=>.inl h
 | e::l,m,h=>by
  rw [List.foldl_cons] at h;rcases b3x tb i l _ h with h|⟨e',h1,h2⟩
  ·split at h
   ·rename_i hc;simp only [Bool.and_eq_true,decide_eq_true_eq] at hc;rw [Nat.testBit_or,Nat.testBit_or,Bool.or_eq_true,Bool.or_eq_true,Nat.testBit_two_pow,decide_eq_true_eq] at h;rcases h with (h|h)|h
    ·exact .inl h
    ·exact .inr ⟨e,by simp,hc.1,hc.2,.inl h⟩
    ·exact .inr ⟨e,by simp,hc.1,hc.2,.inr h⟩
   ·exact .inl h
  ·exact .inr ⟨e',by simp [h1],h2⟩
theorem b4z (l:List Oper) (o:Oper):a8B (l++[o])=a8B l++[b3y (a8B l) o]:=by simp [a8B]
theorem b6p (l:List Oper):(a8B l).length=l.length:=by
 have:∀ (l:List Oper) (tb:List Nat),(l.foldl (fun tb oi=>tb++[b3y tb oi]) tb).length=tb.length+l.length:=by
  intro l
  induction l with
  | nil=>intro tb; rfl
  | cons o l ih=>intro tb; rw [List.foldl_cons,ih]; simp; omega
 simpa [a8B] using this l []
theorem b8c (ops:List Oper):∀ (k:Nat),k≤ops.length→∀ (j i:Nat),j<k→((a8B (ops.take k)).getD j 0).testBit i=true→T1 ops.toArray (j+1) j i=true:=by
 intro k
 induction k with
 | zero=>intro _ j i hj; omega
 | succ k ih =>
  intro hk j i hj h;have hlt:k<ops.length:=by omega
  have ih:=ih (by omega);have e1:ops.take (k+1)=ops.take k++[ops[k]]:=by rw [List.take_add_one]; simp [hlt]
  have hl:(a8B (ops.take k)).length=k:=by rw [b6p,List.length_take]; omega
  rw [e1,b4z] at h;rcases Nat.lt_or_ge j k with hjk|hjk
  ·rw [List.getD,List.getElem?_append_left (by omega)] at h;exact ih j i hjk h
  ·obtain rfl:j=k:=by omega
   rw [List.getD,List.getElem?_append_right (by omega),hl] at h;simp only [Nat.sub_self,List.getElem?_cons_zero,Option.getD_some] at h;unfold b3y at h;rcases b3x _ i _ 0 h with h|⟨e,he,hb,hon,h⟩
   ·simp at h
   ·rw [hl] at hon;unfold T1;have hj':ops.toArray[j]?=some ops[j]:=by simp [hlt]
    rw [hj'];simp only [Bool.or_eq_true,Array.any_eq_true];obtain ⟨q,hq,rfl⟩:=List.getElem_of_mem he;have hq':q<ops[j].after.size:=by simpa using hq
    rcases h with h|h
    ·exact .inl ⟨q,hq',by simp only [Array.getElem_toList] at hb h ⊢; simp [hb,h]⟩
    ·refine .inr ⟨q,hq',?_⟩;simp only [Array.getElem_toList] at hb h hon ⊢;simp only [hb,Bool.true_and];exact a31 (by omega) (ih _ i hon h)
theorem b2B {ops:List Oper} {X F:List (Nat×List Nat)} {listed:Array Bool} {i:Nat} (h:b50 ops.toArray X F (a8B ops) listed i=true):b1s ops.toArray X F listed i=true:=by
 unfold b50 at h;unfold b1s
 cases hi:ops.toArray[i]? with
 | none=>rw [hi] at h; exact h
 | some oi =>
  rw [hi] at h;simp only [List.all_eq_true] at h ⊢;intro j hj;have:=h j hj;have hjl:j<ops.length:=by simpa using List.mem_range.1 hj
  cases hoj:ops.toArray[j]? with
  | none=>simp
  | some oj =>
   rw [hoj] at this;simp only [Bool.or_eq_true] at this ⊢;rcases this with (h1|h1)|h1
   ·exact .inl h1
   ·refine .inr (.inl ?_);have:=b8c ops ops.length (Nat.le_refl _) j i hjl (by rw [List.take_length]; exact h1);exact a31 (by rw [List.size_toArray]; omega) this
   ·exact .inr (.inr h1)
theorem a5Q {ops:List Oper} {X F:List (Nat×List Nat)}:∀ {I3 k:Nat} {listed:Array Bool},a5R ops.toArray X F (a8B ops) I3 k listed=true→a1M ops.toArray X F I3 k listed=true
 | 0,k,listed,h=>h
 | I3+1,k,listed,h=>by
  unfold a5R at h;unfold a1M;simp only [Bool.and_eq_true] at h ⊢;exact ⟨⟨h.1.1,b2B h.1.2⟩,a5Q h.2⟩
theorem o8 {ops:List Oper} {X F:List (Nat×List Nat)} (h:b9V ops X F=true):b9g ops X F=true:=a5Q h
end Go.Proofs.YtanaeefeggokkaaGreat
/-! The abstract machine,26: arrays as data; I3 of functions that call themselves. No program is named here. -/
namespace Go.Proofs.YtanaeefeggokkaaGreat
open Go.RowKit
set_option linter.constructorNameAsVariable false
set_option linter.unusedVariables false
set_option linter.unusedSimpArgs false
def I3:Nat:=100
def a3L:Nat→Ty→Ty
 | 0,_=>.unit
 | 1,t=>t
 | n+2,t=>.pair t (a3L (n+1) t)
def b3 (t:Ty) (x:El t):List AVal:=cellsOf t x
theorem f9 (t:Ty) (x:El t):(b3 t x).length=t.size:=m4 t x
def b7:(t:Ty)→El t→Nat→Int
 | .int _,n,_=>n
 | .bool,_,_=>0
 | .unit,_,_=>0
 | .pair a b,x,j=>if j<a.size then b7 a x.1 j else b7 b x.2 (j - a.size)
 | .sl _,_,_=>0
def m6:(t:Ty)→El t→Nat→Bool
 | .int _,_,_=>false
 | .bool,p,_=>p
 | .unit,_,_=>false
 | .pair a b,x,j=>if j<a.size then m6 a x.1 j else m6 b x.2 (j - a.size)
 | .sl _,_,_=>false
def f8:(t:Ty)→El t→Nat→Int→El t
 | .int _,_,_,v=>v
 | .bool,p,_,_=>p
 | .unit,_,_,_=>()
 | .pair a b,x,j,v=>if j<a.size then (f8 a x.1 j v,x.2) else (x.1,f8 b x.2 (j - a.size) v)
 | .sl _,x,_,_=>x
def p5:(t:Ty)→El t→Nat→Bool→El t
 | .int _,n,_,_=>n
 | .bool,_,_,v=>v
 | .unit,_,_,_=>()
 | .pair a b,x,j,v=>if j<a.size then (p5 a x.1 j v,x.2) else (x.1,p5 b x.2 (j - a.size) v)
 | .sl _,x,_,_=>x
def T7 (k:IntKind):Ty→Bool
 | .int q=>q==k
 | .bool=>false
 | .unit=>true
 | .pair a b=>T7 k a&&T7 k b
 | .sl _=>false
def b3z:Ty→Bool
 | .int _=>false
 | .bool=>true
 | .unit=>true
 | .pair a b=>b3z a&&b3z b
 | .sl _=>false
theorem P6 {α:Type} (l m:List α) (j:Nat) (h:j<l.length):((l++m).drop j).take 1=(l.drop j).take 1:=by
 rw [List.drop_append_of_le_length (by omega),List.take_append_of_le_length (by simp; omega)]
theorem a1G {α:Type} (l m:List α) (j:Nat) (h:¬ j<l.length):((l++m).drop j).take 1=(m.drop (j - l.length)).take 1:=by
 rw [List.drop_append,List.drop_eq_nil_of_le (by omega),List.nil_append]
theorem a6O {k:IntKind}:∀ {t:Ty} (x:El t) {j:Nat},T7 k t=true→j<t.size→((b3 t x).drop j).take 1=[.int k (b7 t x j)]
 | .int q,x,j,hk,hj=>by
  have e:q=k:=by simpa [T7] using hk
  subst e;have:j=0:=by simp only [Ty.size] at hj; omega
  subst this; rfl
 | .unit,x,j,hk,hj=>by simp [Ty.size] at hj
 | .pair a b,x,j,hk,hj=>by
  simp only [T7,Bool.and_eq_true] at hk;show ((cellsOf a x.1++cellsOf b x.2).drop j).take 1=[.int k (if j<a.size then _ else _)];have hl:=m4 a x.1
  by_cases h:j<a.size
  ·rw [if_pos h,P6 _ _ _ (by omega)];exact a6O x.1 hk.1 h
  ·rw [if_neg h,a1G _ _ _ (by omega),hl];simp only [Ty.size] at hj;exact a6O x.2 hk.2 (by omega)
theorem P7 (l m us:List AVal) (j:Nat) (h:j+us.length≤l.length):g5 (l++m) j us=g5 l j us++m:=by
 unfold g5;rw [List.take_append_of_le_length (by omega),List.drop_append_of_le_length (by omega)]; simp
theorem a2g (l m us:List AVal) (j:Nat) (h:l.length≤j):g5 (l++m) j us=l++g5 m (j - l.length) us:=by
 unfold g5;rw [List.take_append,List.drop_append,List.take_of_length_le (by omega),List.drop_eq_nil_of_le (by omega),List.nil_append,show j+us.length - l.length=j - l.length+us.length by omega]; simp
theorem a3b {k:IntKind}:∀ {t:Ty} (x:El t) {j:Nat} (v:Int),T7 k t=true→j<t.size→g5 (b3 t x) j [.int k v]=b3 t (f8 t x j v)
 | .int q,x,j,v,hk,hj=>by
  have e:q=k:=by simpa [T7] using hk
  subst e;have:j=0:=by simp only [Ty.size] at hj; omega
  subst this; rfl
 | .unit,x,j,v,hk,hj=>by simp [Ty.size] at hj
 | .pair a b,x,j,v,hk,hj=>by
  simp only [T7,Bool.and_eq_true] at hk;have hl:=m4 a x.1;show g5 (cellsOf a x.1++cellsOf b x.2) j _=cellsOf (.pair a b) (if j<a.size then _ else _)
  by_cases h:j<a.size
  ·rw [if_pos h,P7 _ _ _ _ (by simp; omega)];have:=a3b x.1 v hk.1 h;unfold b3 at this;rw [this]; rfl
  ·rw [if_neg h,a2g _ _ _ _ (by omega),hl];simp only [Ty.size] at hj;have:=a3b x.2 (j:=j - a.size) v hk.2 (by omega);unfold b3 at this;rw [this]; rfl
/-! ### What is asked of cells -/
theorem b3e (t:Ty) (x:El t):AVal.idsL (b3 t x)=[]:=G7 t x
theorem b3f (t:Ty) (x:El t) (c:Nat):AVal.hasL (b3 t x) c=false:=a93 (G7 t x) c
theorem a66 (f:Nat→Nat):∀ (l m:List AVal),AVal.renL f (l++m)=AVal.renL f l++AVal.renL f m
 | [],m=>rfl
 | x::l,m=>by simp [AVal.renL,a66 f l m]
theorem a7y (f:Nat→Nat):∀ (t:Ty) (x:El t),AVal.renL f (b3 t x)=b3 t x
 | .int _,_=>rfl
 | .bool,_=>rfl
 | .unit,_=>rfl
 | .pair a b,x=>by
  have h1:=a7y f a x.1;have h2:=a7y f b x.2;unfold b3 at *;simp only [cellsOf,a66,h1,h2]
 | .sl _,_=>rfl
theorem a7c:∀ (l m:List AVal),AVal.dryL (l++m)=(AVal.dryL l&&AVal.dryL m)
 | [],m=>rfl
 | x::l,m=>by simp [AVal.dryL,a7c l m,Bool.and_assoc]
theorem a7I:∀ (t:Ty) (x:El t),AVal.dryL (b3 t x)=t.dry
 | .int _,_=>rfl
 | .bool,_=>rfl
 | .unit,_=>rfl
 | .pair a b,x=>by
  have h1:=a7I a x.1;have h2:=a7I b x.2;unfold b3 at *;simp only [cellsOf,a7c,h1,h2,Ty.dry]
 | .sl _,_=>rfl
theorem a7J (H:l3):∀ (t:Ty) (x:El t),(b3 t x).all (AVal.cell H)=true
 | .int _,_=>rfl
 | .bool,_=>rfl
 | .unit,_=>rfl
 | .pair a b,x=>by
  have h1:=a7J H a x.1;have h2:=a7J H b x.2;unfold b3 at *;simp only [cellsOf,List.all_append,h1,h2,Bool.and_self]
 | .sl _,_=>rfl
theorem a2O (H:l3):∀ (t:Ty) (x:El t) (r:List AVal),C6 H t (b3 t x++r)=some (x,r)
 | .int k,_,_=>by simp [C6,a6Y,b3,cellsOf]
 | .bool,_,_=>by simp [C6,a6g,b3,cellsOf]
 | .unit,_,_=>rfl
 | .pair a b,x,r=>by
  have h1:=a2O H a x.1 (b3 b x.2++r);have h2:=a2O H b x.2 r;unfold b3 at *;simp only [cellsOf,List.append_assoc,C6,h1,h2]
 | .sl t,_,_=>by simp [C6,a9H,b3,cellsOf]
theorem a3k (H:l3) (t:Ty) (x:El t):C6 H t (b3 t x)=some (x,[]):=by
 have:=a2O H t x []
 rwa [List.append_nil] at this
theorem b1C (K:List Nat) (t:Ty) (x:El t):(b3 t x).map (AVal.clean K)=b3 t x:=by
 have:∀ (l:List AVal),AVal.idsL l=[]→l.map (AVal.clean K)=l:=by
  intro l
  induction l with
  | nil=>intro _; rfl
  | cons y r ih =>
   intro h;simp only [AVal.idsL,List.append_eq_nil_iff] at h;rw [List.map_cons,ih h.2];have hy:y.clean K=y:=by
    unfold AVal.clean;rw [if_neg];intro hc;obtain ⟨b,_,hb⟩:=List.any_eq_true.1 hc;have:=a5O y b hb;rw [h.1] at this; cases this
   rw [hy]
 exact this _ (G7 t x)
theorem a8F (H:l3) (D N:List Nat) (ρ:Nat→Nat):∀ (l l' m m':List AVal),l.length=l'.length→(LeL H D N ρ (l++m) (l'++m')↔LeL H D N ρ l l'∧LeL H D N ρ m m')
 | [],[],m,m',_=>by simp [LeL]
 | x::l,y::l',m,m',h=>by
  have:=a8F H D N ρ l l' m m' (by simpa using h);simp only [List.cons_append,LeL,this,and_assoc]
 | [],_::_,_,_,h=>by simp at h
 | _::_,[],_,_,h=>by simp at h
theorem b0r (H:l3) (D N:List Nat) (ρ:Nat→Nat):∀ (t:Ty) (x y:El t),LeL H D N ρ (b3 t x) (b3 t y)↔x=y
 | .int k,x,y=>by simp [b3,cellsOf,LeL,LeV]
 | .bool,x,y=>by simp [b3,cellsOf,LeL,LeV]
 | .unit,x,y=>by simp [b3,cellsOf,LeL]
 | .pair a b,x,y=>by
  have h1:=b0r H D N ρ a x.1 y.1;have h2:=b0r H D N ρ b x.2 y.2;unfold b3 at *;simp only [cellsOf];rw [a8F _ _ _ _ _ _ _ _ (by rw [m4,m4]),h1,h2];exact ⟨fun h=>Prod.ext h.1 h.2,fun h=>by subst h; exact ⟨rfl,rfl⟩⟩
 | .sl t,x,y=>by simp [b3,cellsOf,LeL,LeV,a0q]
end Go.Proofs.YtanaeefeggokkaaGreat
/-! The abstract machine,27: what a slice that is nil does,rows made longer by zeros,a row's beginning; yields under a guard; maps whose keys are arrays. No program is named here. -/
namespace Go.Proofs.YtanaeefeggokkaaGreat
open Go.RowKit Go.Maps
set_option linter.constructorNameAsVariable false
set_option linter.unusedVariables false
set_option linter.unusedSimpArgs false
theorem a5N:∀ (l m:List AVal),S5 (l++m)=(S5 l&&S5 m)
 | [],m=>rfl
 | x::l,m=>by simp [S5,a5N l m,Bool.and_assoc]
theorem a5M:∀ (t:Ty) (x:El t),S5 (b3 t x)=true
 | .int _,_=>rfl
 | .bool,_=>rfl
 | .unit,_=>rfl
 | .pair a b,x=>by
  have h1:=a5M a x.1;have h2:=a5M b x.2;unfold b3 at *;simp only [cellsOf,a5N,h1,h2,Bool.and_self]
 | .sl _,_=>rfl
def a9v:(t:Ty)→DecidableEq (El t)
 | .int _=>inferInstanceAs (DecidableEq Int)
 | .bool=>inferInstanceAs (DecidableEq Bool)
 | .unit=>inferInstanceAs (DecidableEq Unit)
 | .pair a b=>have:=a9v a; have:=a9v b; inferInstanceAs (DecidableEq (El a×El b))
 | .sl t=>have:=a9v t; inferInstanceAs (DecidableEq (List (El t)))
def b54:(t:Ty)→(x:El t)→Decidable (okD t x)
 | .int k,n=>inferInstanceAs (Decidable (k.min≤n∧n≤k.max))
 | .bool,_=>.isTrue trivial
 | .unit,_=>.isTrue trivial
 | .pair a b,x=>have:=b54 a x.1; have:=b54 b x.2; inferInstanceAs (Decidable (okD a x.1∧okD b x.2))
 | .sl t,_=>.isFalse (fun h=>h)
instance (t:Ty) (x:El t):Decidable (okD t x):=b54 t x
section
variable {P:Program} {T:Tab} {n:Nat} {ds:List Deferred} {A0 L0:Nat→Prop} {w0:Old} {η:Nat→Value} {s:ASt} {a:Act} {w:World}
variable {ro:Option Nat} {Q:Exit→ASt→Prop} {σ:Nat→AVal} {H:l3} {g:Gh} {o:Oper} {ops rs:List Oper} {t e:TypeId} {i ie:TInfo}
theorem AO.sliceOwn (hT:z5 P T) (hd:J7 n [o]=true) (hfew:o.dst.getD 0<1000) (hg:o.guard=none) {x y:Operand} (ho:o.op=.slice t x none (some y) none) (ht:T t=some i) (hi:i.desc=.sl e) (he:T e=some ie)
  {b:Nat} (hx:(ASt.mk σ H g).ev x=.own b) {e':TypeId} {τ:Ty} {xs:List (El τ)} (hb:H b=some (.arr e' τ xs)) (hsz:τ.size=ie.size) {k:IntKind} {z:Int} (hy:(ASt.mk σ H g).ev y=.int k z) (hz0:0≤z) (hz1:z≤(xs.length:Int))
  (h2:AO P ro n ops rs Q ((ASt.mk σ H g).app o.dst { v:=.own (o.dst.getD 0),kill:=[b,o.dst.getD 0],hp:=[(o.dst.getD 0,.arr e' τ (xs.take z.toNat))] })):AO P ro n ops (o::rs) Q ⟨σ,H,g⟩:=by
 intro m ds A0 L0 w0 η a w hq0 hr;unfold wpListIn;rw [if_pos (X9 hg _)];have hxv:=hr.ev x;have hyv:=hr.ev y;rw [hx] at hxv;rw [hy] at hyv;unfold d9 at hxv hyv;obtain ⟨N,rfl⟩:∃ N:Nat,z=N:=⟨z.toNat,by omega⟩;have hN:N≤xs.length:=by omega
 have hblk0:=hr.hp.blk b _ (show (ASt.mk σ H g).H b=_ from hb);obtain ⟨nid,hnid⟩:∃ nid,nid=o.dst.getD 0:=⟨_,rfl⟩;rw [← hnid] at h2 hfew
 -- what the slice is
 have key:∃ u,(Instr.sliceAt t (η b) none (some (.int k (N:Int))) none).run P w=.ok u w∧Go.Proofs.YtanaeefeggokkaaGreat.hblk u=Go.Proofs.YtanaeefeggokkaaGreat.hblk (η b)∧∀ A',Keeps (Av A0 η H) A' w w→∀ η',r6 η' w A' (.arr e' τ (xs.take N)) u:=by
  rcases hblk0 with ⟨e1,e2⟩|⟨gg,cap,cur,e1,e2,e3,e4,e5,e6⟩
  ·subst e1;have:N=0:=by simpa using hN
   subst this;have hrun:=a3m (P:=P) (w:=w) hT ht hi he none 0 0 none (some (.int k (0:Nat))) 0 0 (by omega) (by omega) (.inl ⟨rfl,rfl⟩) (.inr ⟨k,rfl⟩);refine ⟨.slice none 0 0,?_,by rw [e2],fun A' _ η'=>.inl ⟨by simp,rfl⟩⟩;rw [e2,hrun]; simp [sliced]
  ·have hrun:=a3m (P:=P) (w:=w) hT ht hi he (some ⟨gg,0,none⟩) xs.length cap none (some (.int k (N:Nat))) 0 N (by omega) (by omega) (.inl ⟨rfl,rfl⟩) (.inr ⟨k,rfl⟩);refine ⟨.slice (some ⟨gg,0,none⟩) N cap,?_,by rw [e1]; simp [hblk],fun A' hk η'=>.inr ⟨gg,cap,cur,by simp [Nat.min_eq_left hN],e2,by simp; omega,e4,e5,fun q v hq=>?_⟩⟩
   ·rw [e1,hrun]; simp [sliced,U1]
   ·rw [List.getElem?_take] at hq
    split at hq
    ·exact i9.step hk τ v gg _ rfl (e6 q v hq)
    ·cases hq
 obtain ⟨u,hrun,hbu,hrel⟩:=key;refine n7 (u:=u) (w':=w) (by simp [ho]) (by simp [execOp,ho,hxv,hyv,hrun]) ?_;refine h2 m ds A0 L0 w0 (a2Q η nid u) _ w hq0 ?_;have hη:∀ b',[b,nid].contains b'=false→a2Q η nid u b'=η b':=fun b' hb'=>S1 _ _ (fun e=>by subst e; simp at hb')
 refine hr.eff (nid:=nid) (a0k hd) hη ⟨rfl,rfl,rfl⟩ (Nat.le_refl _) (fun g _=>.inl rfl) ?_ ?_ ?_ hfew (fun b' _ hs=>by
  by_cases e:b'=nid
  ·exact e
  ·simp only [b6,e,if_false] at hs; cases hs) (fun b' hb' hs=>by simp only [b6,hb',if_false] at hs; cases hs)
 ·intro b' B g' hb' hm hg';simp only [b6] at hb'
  split at hb'
  ·rename_i e9;subst e9;rw [s7] at hg';refine .inl ⟨b,_,hb,rfl,?_,.inr ⟨rfl,by simp⟩⟩;rw [← hbu]; exact hg'
  ·cases hb'
 ·intro k' b' B hb';simp only [b6] at hb'
  split at hb'
  ·rename_i e9;subst e9;injection hb' with hb';subst hb';rw [s7];exact hrel _ k' _
  ·cases hb'
 ·intro k'; unfold d9; exact (s7 _ _ _).symm
theorem b3F {j tt:Nat} {want:Bool} (hg:o.guard=some (j,want)) (hj:(ops[j]?).bind (·.dst)=some tt) (hσ:s.σ tt=.bool want) (hr:Rel n ds A0 L0 w0 η s a w):Region.wanted o (yielded ops.toArray a.tmps)=true:=by
 have ht:=hr.tmp tt;rw [hσ] at ht;unfold d9 at ht;have hj':(ops.toArray[j]?).bind (·.dst)=some tt:=by simpa using hj
 have hy:yielded ops.toArray a.tmps j=some want:=by
  have hget:a.tmps[tt]?=some (.bool want):=by
   rw [Array.getD_eq_getD_getElem?] at ht
   cases hc:a.tmps[tt]? with
   | none=>rw [hc] at ht; simp [undef] at ht
   | some v=>rw [hc] at ht; simp at ht; rw [ht]
  unfold yielded;rw [hj',Option.bind_some,hget]
 simp [Region.wanted,hg,hy]
end
/-! ### Yields under a guard -/
section
variable {S R Y:Type} {P:Program} {n:Nat} {ro:Option Nat} {Q:Exit→ASt→Prop} {σ:Nat→AVal} {H:l3} {o:Oper} {ops rs:List Oper} {c:Call} {f:Operand} {enc:Y→List AVal} {body:Y→S→Option (Step S R)} {Γ:S→Gh} {Γx:R→Gh} {lp:Nat}
end
/-! ### Maps whose keys are arrays of numbers -/
attribute [go_sem high] b3e b3f a7y a7J a3k b1C b0r a5M a7I
attribute [go_sem] f9
end Go.Proofs.YtanaeefeggokkaaGreat
/-! The abstract machine,28: arrays and structs of numbers held against each other. No program is named here. -/
namespace Go.Proofs.YtanaeefeggokkaaGreat
open Go.RowKit Go.WideShapes
set_option linter.constructorNameAsVariable false
set_option linter.unusedVariables false
set_option linter.unusedSimpArgs false
structure EqTy (P:Program) (t:TypeId) (τ:Ty):Prop where
 key:∀ x:El τ,okD τ x→∃ l,keyOf P t (.agg (τ.vals x).toArray)=some l
 at':∃ m,m≤10000∧P.keyTypeAt m t=true
 tiled:∃ m,P.tiled m t=true
 wide:(match P.underlying t with|some (.array _ _)|some (.struct _)=>true|_=>false)=true
 guard:P.eqGuardType P.depth t=false
 dry:τ.dry=true
section
variable {P:Program} {T:Tab} {n:Nat} {ro:Option Nat} {Q:Exit→ASt→Prop} {σ:Nat→AVal} {H:l3} {g:Gh} {o:Oper} {ops rs:List Oper} {t:TypeId} {τ:Ty}
theorem a64 (E:EqTy P t τ) [DecidableEq (El τ)] {x y:El τ} (hx:okD τ x) (hy:okD τ y) (w:World):(Op.equal t (.agg (τ.vals x).toArray) (.agg (τ.vals y).toArray)).run P w=.ok (decide (x=y)) w:=by
 obtain ⟨lx,h1⟩:=E.key x hx;obtain ⟨ly,h2⟩:=E.key y hy;obtain ⟨m,hm,hk⟩:=E.at';obtain ⟨m',ht⟩:=E.tiled;obtain ⟨r,hr,hiff⟩:=run_equal_deep w hm hk E.wide h1 h2;rw [hr];congr 1;have:r=true↔x=y:=by
  rw [hiff]
  constructor
  ·intro e;subst e;have:=keyOf_inj_deep ht E.wide h1 h2;injection this with this;have:=congrArg Array.toList this;exact a5z τ x y E.dry (by simpa using this)
  ·intro e;subst e;rw [h1] at h2;injection h2
 rw [Bool.eq_iff_iff,this]; simp
theorem AO.aggEq (E:EqTy P t τ) [DecidableEq (El τ)] (hd:J7 n [o]=true) (hg:o.guard=none) {x y:Operand} {z:Nat} {neg:Bool} (ho:o.op=.binOp (if neg then .neq else .eql) t x y z) {lx ly:List AVal} (hx:(ASt.mk σ H g).ev x=.agg lx) (hy:(ASt.mk σ H g).ev y=.agg ly)
  {u v:El τ} (hu:C6 H τ lx=some (u,[])) (hv:C6 H τ ly=some (v,[])) (ku:okD τ u) (kv:okD τ v)
  (h2:AO P ro n ops rs Q ((ASt.mk σ H g).app o.dst { v:=.bool (if neg then !decide (u=v) else decide (u=v)) })):AO P ro n ops (o::rs) Q ⟨σ,H,g⟩:=by
 intro m ds A0 L0 w0 η a w hq0 hr;unfold wpListIn;rw [if_pos (X9 hg _)];have hxv:=hr.ev x;have hyv:=hr.ev y;rw [hx] at hxv;rw [hy] at hyv;have e1:=a0G (ag:=true) E.dry (.inl rfl) (show Z3 true (.agg lx) lx from ⟨rfl,rfl⟩) hu hxv;have e2:=a0G (ag:=true) E.dry (.inl rfl) (show Z3 true (.agg ly) ly from ⟨rfl,rfl⟩) hv hyv;have heq:=a64 E ku kv w;simp only [pv,if_true] at e1 e2
 cases neg with
 | false =>
  refine n7 (u:=.bool (decide (u=v))) (w':=w) (by simp [ho]) ?_ (h2 m ds A0 L0 w0 η _ w hq0 (hr.pure (a0k hd) (by unfold d9; rfl)));simp [execOp,ho,e1,e2,eqGuard,E.guard,binOp,heq]
 | true =>
  refine n7 (u:=.bool (!decide (u=v))) (w':=w) (by simp [ho]) ?_ (h2 m ds A0 L0 w0 η _ w hq0 (hr.pure (a0k hd) (by unfold d9; rfl)));simp [execOp,ho,e1,e2,eqGuard,E.guard,binOp,heq]
end
end Go.Proofs.YtanaeefeggokkaaGreat
/-! The abstract machine,29: a region that draws its order and ends in operations that wait for all before them. No program is named here. -/
namespace Go.Proofs.YtanaeefeggokkaaGreat
open Go.RowKit
set_option linter.constructorNameAsVariable false
set_option linter.unusedVariables false
set_option linter.unusedSimpArgs false
set_option linter.unnecessarySimpa false
def b5i (ops:List Oper) (k:Nat):Bool :=
 ((List.range k).all fun j=>match ops[j]? with
  | some o=>o.after.toList.all fun e=>!Region.binds .any e || decide (e.on<j)
  | none=>false) &&
 ((List.range ops.length).all fun j=>decide (j<k) || (List.range j).all fun i=>T1 ops.toArray ops.length j i) &&
 ((List.range ops.length).all fun j=>decide (j<k) || match ops[j]? with
  | some o=>o.after.toList.all fun e=>!Region.binds .any e || decide (e.on<j)
  | none=>false)
theorem b7C (x:Operand):(#[x]++(none:Option Operand).toArray++(none:Option Operand).toArray++(none:Option Operand).toArray).toList=[x]:=rfl
theorem b7B (x y:Operand):(#[x]++(none:Option Operand).toArray++(some y).toArray++(none:Option Operand).toArray).toList=[x,y]:=rfl
theorem b7A (x y:Operand):(#[x]++(some y).toArray++(none:Option Operand).toArray++(none:Option Operand).toArray).toList=[x,y]:=rfl
theorem b7z (x y z:Operand):(#[x]++(some y).toArray++(some z).toArray++(none:Option Operand).toArray).toList=[x,y,z]:=rfl
attribute [go_sem high] b7C b7B b7A b7z
structure Ext (k n:Nat) (l l':Array Bool):Prop where
 sl:l.size=n
 sl':l'.size=k
 lo:∀ i,i<k→l[i]?=l'[i]?
 hi:∀ i,k≤i→i<n→l[i]?=some false
section
variable {P:Program} {T:Tab} {X F:List (Nat×List Nat)} {E:Nat→Eff} {n:Nat} {ds:List Deferred} {A0 L0:Nat→Prop} {w0:Old}
theorem b4i {pre tail:List Oper} {s:ASt} {o:Oper} {K:Eff→Prop} (h:R6 P T pre s o K):R6 P T (pre++tail) s o K:=by
 unfold R6 at h ⊢
 cases hg:o.guard with
 | none=>simp only [hg] at h ⊢; exact h
 | some q =>
  obtain ⟨j,want⟩:=q;simp only [hg] at h ⊢
  by_cases hj:j<pre.length
  ·rw [List.getElem?_append_left hj]; exact h
  ·rw [List.getElem?_eq_none (by omega)] at h;simp at h
theorem a46 {ops:List Oper} {ro:Option Nat} {m:Nat} {Q':Exit→Act→World→Prop} (hch:∀ j,j<ops.length→∀ i,i<j→(ops.length - 1<j∨True)) :
  ∀ (t:List Oper) (k x:Nat) (l:Array Bool) (a:Act) (w:World),k+t.length=ops.length→(∀ j,t[j]?=ops[k+j]?)→l.size=ops.length→(∀ i,i<k→l[i]?=some true)→(∀ i,k≤i→i<ops.length→l[i]?=some false) →
   (∀ j,k≤j→j<ops.length→∀ i,i<j→T1 ops.toArray ops.length j i=true)→(∀ j o,k≤j→ops[j]?=some o→∀ e∈o.after,Region.binds .any e=true→e.on<j)→a2K ops.toArray l →
   wpListIn (fen ro) m P ops.toArray Q' t a w→wpAnyIn (fen ro) m P .any ops.toArray Q' (x+t.length) l a w
 | [],k,x,l,a,w,hk,_,hs,ht,hf,_,_,_,h=>by
  have hr:Region.ready .any ops.toArray l=[]:=by
   rw [List.eq_nil_iff_forall_not_mem];intro j hj;obtain ⟨h0,o,ho,_⟩:=mem_ready.1 hj;have hlt:j<ops.length:=by simpa using (Array.getElem?_eq_some_iff.1 ho).1
   have:=ht j (by simp at hk; omega);rw [Array.getD_eq_getD_getElem?,this] at h0;simp at h0
  cases x with
  | zero=>exact ⟨hr,h⟩
  | succ x=>exact ⟨fun _=>h,fun i hi=>by rw [hr] at hi; cases hi⟩
 | o::t,k,x,l,a,w,hk,ht0,hs,ht,hf,hwt,haf,hcl,h=>by
  have hk':k<ops.length:=by simp at hk; omega
  have ho:ops[k]?=some o:=by have:=ht0 0; simpa using this.symm
  have hoa:ops.toArray[k]?=some o:=by simpa using ho
  have hall:∀ e∈o.after,Region.binds .any e=true→l.getD e.on false=true:=fun e he hb=>by
   have:=ht e.on (haf k o (Nat.le_refl _) ho e he hb);rw [Array.getD_eq_getD_getElem?,this]; rfl
  have hrk:k∈Region.ready .any ops.toArray l:=mem_ready.2 ⟨by rw [Array.getD_eq_getD_getElem?,hf k (Nat.le_refl _) hk']; rfl,o,hoa,hall⟩;show wpAnyIn (fen ro) m P .any ops.toArray Q' (x+t.length+1) l a w;refine ⟨(fun h0=>by rw [h0] at hrk; cases hrk),fun i hi=>?_⟩;obtain ⟨h0,oi,hoi,halli⟩:=mem_ready.1 hi;have hil:i<ops.length:=by simpa using (Array.getElem?_eq_some_iff.1 hoi).1
  have hik:i=k:=by
   rcases Nat.lt_trichotomy i k with h1|h1|h1
   ·rw [Array.getD_eq_getD_getElem?,ht i h1] at h0; simp at h0
   ·exact h1
   ·have:=a1u hcl ops.length i k oi hoi halli (hwt i (by omega) hil k h1);rw [Array.getD_eq_getD_getElem?,hf k (Nat.le_refl _) hk'] at this;simp at this
  subst hik;unfold wpOpIn;rw [hoa];simp only;unfold wpListIn at h;have next:∀ a w,wpListIn (fen ro) m P ops.toArray Q' t a w→wpAnyIn (fen ro) m P .any ops.toArray Q' (x+t.length) (l.setIfInBounds i true) a w:=fun a w hw=>by
   refine a46 hch t (i+1) x _ a w (by simp at hk; omega) (fun j=>by have:=ht0 (j+1); simpa [Nat.add_assoc,Nat.add_comm 1 j] using this) (by simpa using hs) (fun j hj=>?_) (fun j hj hj'=>?_) (fun j hj hj'=>hwt j (by omega) hj') (fun j o hj=>haf j o (by omega)) (a3B hcl hoa hall) hw
   ·by_cases e:j=i
    ·subst e; rw [Array.getElem?_setIfInBounds_self_of_lt (by omega)]
    ·rw [Array.getElem?_setIfInBounds_ne (Ne.symm e)]; exact ht j (by omega)
   ·rw [Array.getElem?_setIfInBounds_ne (by omega)]; exact hf j (by omega) hj'
  split
  ·rename_i hw;rw [if_pos hw] at h;exact Oper.wpIn_mono next h
  ·rename_i hw;rw [if_neg hw] at h;exact ⟨h.1,next _ _ h.2⟩
theorem b33 (hT:z5 P T) {pre tail:List Oper} {ro:Option Nat} {m:Nat} {Q':Exit→Act→World→Prop} {K:ASt→Prop} (hd:J7 n pre=true)
  (hB:∀ j o,(pre++tail)[j]?=some o→∀ e∈o.after,Region.binds .any e=true→e.on<j)
  (hwt:∀ j,pre.length≤j→j<(pre++tail).length→∀ i,i<j→T1 (pre++tail).toArray (pre++tail).length j i=true)
  (hQ:∀ s η a w,K s→Rel n ds A0 L0 w0 η s a w→wpListIn (fen ro) m P (pre++tail).toArray Q' tail a w) :
  ∀ (I3:Nat) (l l':Array Bool) (s:ASt) (η:Nat→Value) (a:Act) (w:World),Ext pre.length (pre++tail).length l l'→a2K (pre++tail).toArray l→Rel n ds A0 L0 w0 η s a w→b4y P T pre X F E K I3 l' s→wpAnyIn (fen ro) m P .any (pre++tail).toArray Q' (I3+tail.length) l a w:=by
 intro I3
 induction I3 with
 | zero =>
  intro l l' s η a w hE hcl hr h
  -- all are listed
  have hall:∀ i,i<pre.length→l[i]?=some true:=by
   intro i
   induction i using Nat.strongRecOn with
   | ind i ih =>
    intro hi;have hlt:i<l'.size:=by rw [hE.sl']; exact hi
    have hi2:l'[i]?=some l'[i]:=by simp [hlt]
    cases hb:l'[i] with
    | true=>rw [hE.lo i hi,hi2,hb]
    | false =>
     exfalso;have ho:pre[i]?=some pre[i]:=by simp [hi]
     have:i∈Region.ready .any pre.toArray l':=mem_ready.2 ⟨by rw [Array.getD_eq_getD_getElem?,hi2,hb]; rfl,pre[i],by simpa using ho,fun e he hbe=>by
      have h1:=hB i pre[i] (by rw [List.getElem?_append_left hi,ho]) e he hbe;have h2:=ih e.on h1 (by omega);rw [hE.lo e.on (by omega)] at h2
      rw [Array.getD_eq_getD_getElem?,h2]; rfl⟩
     rw [h.1] at this; cases this
  exact a46 (fun _ _ _ _=>.inr trivial) tail pre.length 0 l a w (by simp) (fun j=>by rw [List.getElem?_append_right (by omega)]; congr 1; omega) hE.sl hall hE.hi hwt (fun j o _ ho=>hB j o ho) hcl (hQ s η a w h.2 hr)
 | succ I3 ih =>
  intro l l' s η a w hE hcl hr h
  by_cases hc:Region.ready .any pre.toArray l'=[]
  ·have hall:∀ i,i<pre.length→l[i]?=some true:=by
    intro i
    induction i using Nat.strongRecOn with
    | ind i ih =>
     intro hi;have hlt:i<l'.size:=by rw [hE.sl']; exact hi
     have hi2:l'[i]?=some l'[i]:=by simp [hlt]
     cases hb:l'[i] with
     | true=>rw [hE.lo i hi,hi2,hb]
     | false =>
      exfalso;have ho:pre[i]?=some pre[i]:=by simp [hi]
      have:i∈Region.ready .any pre.toArray l':=mem_ready.2 ⟨by rw [Array.getD_eq_getD_getElem?,hi2,hb]; rfl,pre[i],by simpa using ho,fun e he hbe=>by
       have h1:=hB i pre[i] (by rw [List.getElem?_append_left hi,ho]) e he hbe;have h2:=ih e.on h1 (by omega);rw [hE.lo e.on (by omega)] at h2
       rw [Array.getD_eq_getD_getElem?,h2]; rfl⟩
      rw [hc] at this; cases this
   exact a46 (fun _ _ _ _=>.inr trivial) tail pre.length (I3+1) l a w (by simp) (fun j=>by rw [List.getElem?_append_right (by omega)]; congr 1; omega) hE.sl hall hE.hi hwt (fun j o _ ho=>hB j o ho) hcl (hQ s η a w (h.1 hc) hr)
  ·-- what may be next is one of the first ones
   have hsub:∀ i,i∈Region.ready .any pre.toArray l'→i∈Region.ready .any (pre++tail).toArray l:=by
    intro i hi;obtain ⟨h0,o,ho,hal⟩:=mem_ready.1 hi;have hlt:i<pre.length:=by simpa using (Array.getElem?_eq_some_iff.1 ho).1
    have ho':pre[i]?=some o:=by simpa using ho
    refine mem_ready.2 ⟨?_,o,by simpa [List.getElem?_append_left hlt] using ho',fun e he hbe=>?_⟩
    ·rw [Array.getD_eq_getD_getElem?,hE.lo i hlt]; rw [Array.getD_eq_getD_getElem?] at h0; exact h0
    ·have h1:=hB i o (by rw [List.getElem?_append_left hlt,ho']) e he hbe;have:=hal e he hbe;rw [Array.getD_eq_getD_getElem?] at this ⊢;rw [hE.lo e.on (by omega)]; exact this
   obtain ⟨i0,hi0⟩:=List.exists_mem_of_ne_nil _ hc;rw [show I3+1+tail.length=I3+tail.length+1 by omega];refine ⟨(fun h0=>by have:=hsub i0 hi0; rw [h0] at this; cases this),fun i hi=>?_⟩;obtain ⟨h0,o,ho,hal⟩:=mem_ready.1 hi;have hil:i<(pre++tail).length:=by simpa using (Array.getElem?_eq_some_iff.1 ho).1
   have hik:i<pre.length:=by
    by_cases hik:i<pre.length
    ·exact hik
    ·exfalso;obtain ⟨g0,o1,g1,g2⟩:=mem_ready.1 hi0;have g3:i0<pre.length:=by simpa using (Array.getElem?_eq_some_iff.1 g1).1
     have:=a1u hcl (pre++tail).length i i0 o ho hal (hwt i (by omega) hil i0 (by omega));rw [Array.getD_eq_getD_getElem?,hE.lo i0 g3] at this;rw [Array.getD_eq_getD_getElem?] at g0
     cases hx:l'[i0]? with
     | none=>rw [hx] at g0; simp at g0
     | some b=>rw [hx] at g0 this; simp at g0 this; rw [g0] at this; cases this
   have hop:pre[i]?=some o:=by
    have:(pre++tail)[i]?=some o:=by simpa using ho
    rwa [List.getElem?_append_left hik] at this
   have hir:i∈Region.ready .any pre.toArray l':=mem_ready.2 ⟨by rw [Array.getD_eq_getD_getElem?,← hE.lo i hik]; rw [Array.getD_eq_getD_getElem?] at h0; exact h0,o,by simpa using hop,fun e he hbe=>by
    have h1:=hB i o (by rw [List.getElem?_append_left hik,hop]) e he hbe;have:=hal e he hbe;rw [Array.getD_eq_getD_getElem?] at this ⊢
    rw [← hE.lo e.on (by omega)]; exact this⟩
   obtain ⟨o',ho',hst,hrest⟩:=h.2 i hir;have e:o'=o:=by rw [hop] at ho'; injection ho' with e; exact e.symm
   subst e;unfold wpOpIn;rw [ho];simp only;have hdo:∀ t,o'.dst=some t→t<n:=fun t ht=>by
    have:=List.all_eq_true.1 hd o' (List.mem_of_getElem? hop);rw [ht] at this; simpa using this
   exact a4o hT hdo hr (b4i hst.step) fun e η' a' w' he hr'=>by
    subst he;refine ih _ _ _ η' a' w' ⟨by simpa using hE.sl,by simpa using hE.sl',fun j hj=>?_,fun j hj hj'=>?_⟩ (a3B hcl ho hal) hr' hrest
    ·by_cases e:j=i
     ·subst e; rw [Array.getElem?_setIfInBounds_self_of_lt (by rw [hE.sl]; omega),Array.getElem?_setIfInBounds_self_of_lt (by rw [hE.sl']; omega)]
     ·rw [Array.getElem?_setIfInBounds_ne (Ne.symm e),Array.getElem?_setIfInBounds_ne (Ne.symm e)]; exact hE.lo j hj
    ·rw [Array.getElem?_setIfInBounds_ne (by omega)]; exact hE.hi j hj hj'
theorem AW.drawTail (hT:z5 P T) (hm:P.follows .mixedOrders=true) {ro:Option Nat} {id:Nat} {Q:Exit→ASt→Prop} {s:ASt} (k:Nat) {ops:List Oper} (X F:List (Nat×List Nat)) (hd:J7 n (ops.take k)=true) (hB:b9g (ops.take k) X F=true) (hO:b5i ops k=true) (hk:k≤ops.length)
  (h:I6 P T (ops.take k) X F 0 (ops.take k) s (fun s'=>AO P ro n ops (ops.drop k) Q s')):AW P ro n (.region id ops.toArray true) Q s:=by
 intro m ds A0 L0 w0 η a w hq0 hr;refine wpIn_region_any hm ?_;obtain ⟨E,hE⟩:=b1V (ops.take k) 0 s h;obtain ⟨pre,hpre⟩:∃ pre,pre=ops.take k:=⟨_,rfl⟩;obtain ⟨tail,htail⟩:∃ tail,tail=ops.drop k:=⟨_,rfl⟩;have happ:ops=pre++tail:=by rw [hpre,htail,List.take_append_drop]
 have hplen:pre.length=k:=by rw [hpre]; simp; omega
 rw [← hpre] at hd hB hE;rw [← htail] at hE;have hcl':a2K pre.toArray (Array.replicate pre.length false):=fun j oj hj hl=>by
  have hlt:j<pre.length:=by simpa using (Array.getElem?_eq_some_iff.1 hj).1
  rw [Array.getD_eq_getD_getElem?] at hl;simp [hlt] at hl
 have hany:=a8A pre 0 (Array.replicate pre.length false) s hcl' (fun j=>by rw [Nat.zero_add]) hB hE;unfold b5i at hO;simp only [Bool.and_eq_true] at hO;obtain ⟨⟨o1,o2⟩,o3⟩:=hO;have hBB:∀ j o,ops[j]?=some o→∀ e∈o.after,Region.binds .any e=true→e.on<j:=by
  intro j o ho e he hb;have hlt:=(List.getElem?_eq_some_iff.1 ho).1
  by_cases hj:j<k
  ·have:=List.all_eq_true.1 o1 j (List.mem_range.2 hj);simp only [ho] at this;have:=List.all_eq_true.1 this e (by simpa using he);simpa [hb] using this
  ·have:=List.all_eq_true.1 o3 j (List.mem_range.2 hlt);simp only [ho,hj,decide_false,Bool.false_or] at this;have:=List.all_eq_true.1 this e (by simpa using he);simpa [hb] using this
 have hww:∀ j,k≤j→j<ops.length→∀ i,i<j→T1 ops.toArray ops.length j i=true:=by
  intro j hj hlt i hi;have:=List.all_eq_true.1 o2 j (List.mem_range.2 hlt);simp only [show ¬ j<k by omega,decide_false,Bool.false_or] at this;exact List.all_eq_true.1 this i (List.mem_range.2 hi)
 subst happ;have hsz:(pre++tail).toArray.size=pre.length+tail.length:=by simp
 have hclf:a2K (pre++tail).toArray (Array.replicate (pre++tail).length false):=fun j oj hj hl=>by
  have hlt:j<(pre++tail).length:=by simpa using (Array.getElem?_eq_some_iff.1 hj).1
  rw [Array.getD_eq_getD_getElem?] at hl;rw [Array.getElem?_replicate,if_pos hlt] at hl;simp at hl
 have:=b33 (ro:=ro) (m:=m) (Q':=b2V n ds L0 w0 Q) hT hd hBB (fun j hj=>hww j (by omega)) (fun s η a w hQ hR=>hQ m ds A0 L0 w0 η a w hq0 hR) pre.length (Array.replicate (pre++tail).length false) (Array.replicate pre.length false) s η a _
  ⟨by simp,by simp,fun i hi=>by rw [Array.getElem?_replicate,Array.getElem?_replicate,if_pos hi,if_pos (by simp; omega)],fun i _ hi=>by rw [Array.getElem?_replicate,if_pos hi]⟩ hclf hr.drew hany
 rw [hsz];simpa using this
end
end Go.Proofs.YtanaeefeggokkaaGreat
/-! The abstract machine,30: a part of a row of one's own that is only looked at. No program is named here. -/
namespace Go.Proofs.YtanaeefeggokkaaGreat
open Go.RowKit
set_option linter.constructorNameAsVariable false
set_option linter.unusedVariables false
section
variable {P:Program} {T:Tab} {n:Nat} {ro:Option Nat} {Q:Exit→ASt→Prop} {σ:Nat→AVal} {H:l3} {g:Gh} {o:Oper} {ops rs:List Oper} {t e:TypeId} {i ie:TInfo}
end
end Go.Proofs.YtanaeefeggokkaaGreat
/-! Maps whose keys are structs or arrays of data. -/
namespace Go.Proofs.YtanaeefeggokkaaGreat
open Go.RowKit Go.Maps
set_option linter.constructorNameAsVariable false
set_option linter.unusedVariables false
def b4o (P:Program) (g:TypeId→Ty→Bool):List (Nat×TypeId)→Nat→Ty→Bool
 | [],_,_=>false
 | (o,t)::r,off,τ=>match r with
  | []=>o==off&&P.cellsOf t==τ.size&&g t τ
  | _::_=>match τ with
   | .pair a b=>o==off&&P.cellsOf t==a.size&&g t a&&b4o P g r (off+a.size) b
   | _=>false
def a2B (P:Program):Nat→TypeId→Ty→Bool
 | 0,_,_=>false
 | d+1,t,τ=>match P.underlying t with
  | some .bool=>decide (τ=.bool)
  | some (.int q)=>decide (τ=.int q)
  | some (.array n e)=>τ.size==P.cellsOf t&&b4o P (a2B P d) ((List.range n).map fun i=>(i*P.cellsOf e,e)) 0 τ
  | some (.struct fs)=>τ.size==P.cellsOf t&&fs.all (fun f=>f.name != "_")&&b4o P (a2B P d) (fs.toList.map fun f=>(f.offset,f.type)) 0 τ
  | _=>false
theorem a4D:∀ (t:Ty) (x:El t),okD t x→t.dry=true
 | .int _,_,_=>rfl
 | .bool,_,_=>rfl
 | .unit,_,_=>rfl
 | .pair a b,x,h=>by simp only [Ty.dry,a4D a x.1 h.1,a4D b x.2 h.2,Bool.and_self]
 | .sl _,_,h=>h.elim
theorem a6L {P:Program} {d:Nat} (ih:∀ (t:TypeId) (τ:Ty) (x:El τ),a2B P d t τ=true→okD τ x→∃ ls,P.keyLits d t (τ.vals x)=some ls) :
  ∀ (L:List (Nat×TypeId)) (off:Nat) (τ:Ty) (x:El τ) (cs:List Value),b4o P (a2B P d) L off τ=true→okD τ x→cs.drop off=τ.vals x→∃ ls:List (List Lit),L.mapM (fun p=>P.keyLits d p.2 ((cs.drop p.1).take (P.cellsOf p.2)))=some ls
 | [],off,τ,x,cs,h,_,_=>by simp [b4o] at h
 | (o,t)::r,off,τ,x,cs,h,hx,hc=>by
  unfold b4o at h
  cases r with
  | nil =>
   simp only [Bool.and_eq_true,beq_iff_eq] at h;obtain ⟨⟨rfl,h2⟩,h3⟩:=h;obtain ⟨ls,hl⟩:=ih t τ x h3 hx;refine ⟨[ls],?_⟩;have hlen:=Q3 τ x (a4D τ x hx);have e1:(cs.drop o).take (P.cellsOf t)=τ.vals x:=by rw [hc,h2]; exact List.take_of_length_le (by omega)
   rw [List.mapM_cons];simp only [e1,hl];rfl
  | cons q r =>
   cases τ with
   | pair a b =>
    simp only [Bool.and_eq_true,beq_iff_eq] at h;obtain ⟨⟨⟨rfl,h2⟩,h3⟩,h4⟩:=h;have hla:=Q3 a x.1 (a4D a x.1 hx.1);obtain ⟨ls,hl⟩:=ih t a x.1 h3 hx.1;have hc':cs.drop o=a.vals x.1++b.vals x.2:=hc;obtain ⟨lr,hr⟩:=a6L ih (q::r) (o+a.size) b x.2 cs h4 hx.2 (by rw [← List.drop_drop,hc',List.drop_append_of_le_length (by omega),List.drop_of_length_le (by omega),List.nil_append]);refine ⟨ls::lr,?_⟩;have e1:(cs.drop o).take (P.cellsOf t)=a.vals x.1:=by rw [hc',h2,List.take_append_of_le_length (by omega)]; exact List.take_of_length_le (by omega)
    rw [List.mapM_cons,hr];simp only [e1,hl];rfl
   | _=>simp at h
theorem a8e {α β γ:Type} (f:β→Option γ) (g:α→β):∀ l:List α,(l.map g).mapM f=l.mapM fun x=>f (g x)
 | []=>rfl
 | x::l=>by rw [List.map_cons,List.mapM_cons,List.mapM_cons,a8e f g l]
theorem a2o {P:Program}:∀ (d:Nat) (t:TypeId) (τ:Ty) (x:El τ),a2B P d t τ=true→okD τ x→∃ ls,P.keyLits d t (τ.vals x)=some ls
 | 0,t,τ,x,h,_=>by simp [a2B] at h
 | d+1,t,τ,x,h,hx=>by
  unfold a2B at h;unfold Program.keyLits
  split at h
  ·rename_i hu;have:τ=.bool:=by simpa using h
   subst this;rw [hu];exact ⟨_,rfl⟩
  ·rename_i q hu;have:τ=.int q:=by simpa using h
   subst this;rw [hu];have hw:(Lit.int q x).wf=true:=b9o hx;exact ⟨[.int q x],by simp [Ty.vals,hw]⟩
  ·rename_i n e hu;simp only [Bool.and_eq_true,beq_iff_eq] at h;obtain ⟨h1,h2⟩:=h;obtain ⟨ls,hl⟩:=a6L (a2o d) _ 0 τ x (τ.vals x) h2 hx rfl;rw [a8e] at hl;simp only [hu];rw [if_pos (by rw [Q3 τ x (a4D τ x hx),h1]),hl];exact ⟨_,rfl⟩
  ·rename_i fs hu;simp only [Bool.and_eq_true,beq_iff_eq] at h;obtain ⟨⟨h1,h3⟩,h2⟩:=h;obtain ⟨ls,hl⟩:=a6L (a2o d) _ 0 τ x (τ.vals x) h2 hx rfl;rw [a8e] at hl;simp only [hu];rw [if_pos ⟨by rw [Q3 τ x (a4D τ x hx),h1],h3⟩,hl];exact ⟨_,rfl⟩
  ·cases h
theorem b2q {P:Program} {t k e:TypeId} {ae:Bool} {kt vt:Ty} (ht:P.underlying t=some (.map k e)) {m:Nat} (hm:m+1≤10000) (hk:P.keyTypeAt m k=true) (htl:P.tiled m k=true) (hw:(match P.underlying k with|some (.array _ _)|some (.struct _)=>true|_=>false)=true)
  (hkt:P.keyType k=true) (hsz:P.cellsOf k=kt.size) (hfit:a2B P (P.types.size+1) k kt=true) (zero:∀ w,(zeroValue e).run P w=.ok (pv ae (vt.vals vt.dflt)) w) (kdry:kt.dry=true) (vdry:vt.dry=true) (vsz:ae=true∨vt.size=1):MapTy P t k e true ae kt vt:=by
 refine ⟨ht,Keyed.of_law (deep_law hm hk htl hw),fun x hx=>?_,fun w=>by rw [b5e vdry]; exact zero w,kdry,.inl vdry,.inl rfl,vsz⟩;obtain ⟨ls,hls⟩:=a2o _ k kt x hfit hx;have hcell:(pv true (kt.vals x)).cells.toList=kt.vals x:=by simp [pv,Value.cells]
 have hlen:=Q3 kt x kdry;unfold keyOf
 split
 ·rename_i n e' hu;rw [if_pos (by simp [hkt,Value.formed,hu,pv,hlen,hsz]),hcell,hls];exact ⟨_,rfl⟩
 ·rename_i fs hu;rw [if_pos (by simp [hkt,Value.formed,hu,pv,hlen,hsz]),hcell,hls];exact ⟨_,rfl⟩
 ·rename_i h1 h2
  split at hw
  ·rename_i n e' hu; exact absurd hu (h1 _ _)
  ·rename_i fs hu; exact absurd hu (h2 _)
  ·cases hw
theorem b5O {P:Program} {k:TypeId} {kt:Ty} (hw:(match P.underlying k with|some (.array _ _)|some (.struct _)=>true|_=>false)=true) (hkt:P.keyType k=true) (hsz:P.cellsOf k=kt.size) (hfit:a2B P (P.types.size+1) k kt=true) (kdry:kt.dry=true) (x:El kt) (hx:okD kt x):∃ l,keyOf P k (.agg (kt.vals x).toArray)=some l:=by
 obtain ⟨ls,hls⟩:=a2o _ k kt x hfit hx;have hcell:(Value.agg (kt.vals x).toArray).cells.toList=kt.vals x:=by simp [Value.cells]
 have hlen:=Q3 kt x kdry;unfold keyOf
 split
 ·rename_i n e' hu;rw [if_pos (by simp [hkt,Value.formed,hu,hlen,hsz]),hcell,hls];exact ⟨_,rfl⟩
 ·rename_i fs hu;rw [if_pos (by simp [hkt,Value.formed,hu,hlen,hsz]),hcell,hls];exact ⟨_,rfl⟩
 ·rename_i h1 h2
  split at hw
  ·rename_i n e' hu; exact absurd hu (h1 _ _)
  ·rename_i fs hu; exact absurd hu (h2 _)
  ·cases hw
theorem a9u {P:Program} {t:TypeId} {τ:Ty} (m:Nat) (hm:m≤10000) (hk:P.keyTypeAt m t=true) (htl:P.tiled m t=true) (hw:(match P.underlying t with|some (.array _ _)|some (.struct _)=>true|_=>false)=true)
  (hkt:P.keyType t=true) (hsz:P.cellsOf t=τ.size) (hfit:a2B P (P.types.size+1) t τ=true) (hg:P.eqGuardType P.depth t=false) (hd:τ.dry=true):EqTy P t τ :=
 ⟨fun x hx=>b5O hw hkt hsz hfit hd x hx,⟨m,hm,hk⟩,⟨m,htl⟩,hw,hg,hd⟩
end Go.Proofs.YtanaeefeggokkaaGreat
