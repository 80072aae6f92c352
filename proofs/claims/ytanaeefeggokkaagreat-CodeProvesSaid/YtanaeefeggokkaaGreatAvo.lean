import Derived.Test.YtanaeefeggokkaaGreatAvn
import Derived.Laws.Pointers
import Derived.Great.FillDense
namespace Go.Proofs.YtanaeefeggokkaaGreat
open Go.RowKit
set_option linter.constructorNameAsVariable false
set_option linter.unusedVariables false
set_option linter.unusedSimpArgs false
/-! ### Parts of arrays -/
def b7y (t:Ty) (x:El t):(u:Ty)→Nat→El u
 | .int _,j=>b7 t x j
 | .bool,j=>m6 t x j
 | .unit,_=>()
 | .pair a b,j=>(b7y t x a j,b7y t x b (j+a.size))
 | .sl t,_=>([]:List (El t))
def F5 (t:Ty):(u:Ty)→El t→Nat→El u→El t
 | .int _,x,j,v=>f8 t x j v
 | .bool,x,j,v=>p5 t x j v
 | .unit,x,_,_=>x
 | .pair a b,x,j,v=>F5 t b (F5 t a x j v.1) (j+a.size) v.2
 | .sl _,x,_,_=>x
theorem b0k {k:IntKind} {t:Ty} (x:El t) (hk:T7 k t=true):∀ (u:Ty) {j:Nat},T7 k u=true→j+u.size≤t.size→((b3 t x).drop j).take u.size=b3 u (b7y t x u j)
 | .int q,j,hu,h=>by
  have e:q=k:=by simpa [T7] using hu
  subst e;exact a6O x hk (by simp only [Ty.size] at h; omega)
 | .unit,j,hu,h=>rfl
 | .pair a b,j,hu,h=>by
  simp only [T7,Bool.and_eq_true] at hu;simp only [Ty.size] at h ⊢;have h1:=b0k x hk a (j:=j) hu.1 (by omega);have h2:=b0k x hk b (j:=j+a.size) hu.2 (by omega);rw [List.take_add,h1,List.drop_drop,h2];rfl
theorem a7X (l us vs:List AVal) (j:Nat) (h:j+us.length+vs.length≤l.length):g5 l j (us++vs)=g5 (g5 l j us) (j+us.length) vs:=by
 unfold g5;have h1:(l.take j++us).length=j+us.length:=by simp; omega
 have h2:(l.take j++us++l.drop (j+us.length)).drop (j+us.length+vs.length)=l.drop (j+us.length+vs.length):=by
  rw [← List.drop_drop,List.drop_left' h1,List.drop_drop]
 rw [List.take_left' h1,h2,List.length_append,show j+(us.length+vs.length)=j+us.length+vs.length by omega];simp only [List.append_assoc]
theorem s5 (a:AVal) (l us:List AVal) (x:Nat):g5 (a::l) (x+1) us=a::g5 l x us:=by
 unfold g5;rw [show x+1+us.length=(x+us.length)+1 by omega,List.drop_succ_cons,List.take_succ_cons]; rfl
theorem a5b {t:Ty} {n:Nat} (hn:t.size=n) (p:El t) (l us:List AVal) (x:Nat):g5 (b3 t p++l) (x+n) us=b3 t p++g5 l x us:=by
 rw [a2g _ _ _ _ (by rw [f9]; omega),f9,hn,Nat.add_sub_cancel]
theorem b0l {k:IntKind} {t:Ty} (hk:T7 k t=true):∀ (u:Ty) (x:El t) {j:Nat} (v:El u),T7 k u=true→j+u.size≤t.size→g5 (b3 t x) j (b3 u v)=b3 t (F5 t u x j v)
 | .int q,x,j,v,hu,h=>by
  have e:q=k:=by simpa [T7] using hu
  subst e;exact a3b x v hk (by simp only [Ty.size] at h; omega)
 | .unit,x,j,v,hu,h=>by
  show g5 (b3 t x) j []=b3 t x;unfold g5; simp
 | .pair a b,x,j,v,hu,h=>by
  simp only [T7,Bool.and_eq_true] at hu;simp only [Ty.size] at h;show g5 (b3 t x) j (b3 a v.1++b3 b v.2)=b3 t (F5 t b (F5 t a x j v.1) (j+a.size) v.2);rw [a7X _ _ _ _ (by rw [f9,f9,f9]; omega),b0l hk a x v.1 hu.1 (by omega),f9,b0l hk b _ v.2 hu.2 (by omega)]
def b0P (t:Ty) (x:El t):List Int:=(List.range t.size).map fun j=>b7 t x j
theorem b0O (t:Ty) (x:El t):(b0P t x).length=t.size:=by simp [b0P]
theorem a60 {k:IntKind}:∀ (l:List Int) (r:List AVal),E0 (.int k) l.length ((l.map fun z=>AVal.int k z)++r)=some l
 | [],r=>rfl
 | z::l,r=>by
  simp only [List.map_cons,List.length_cons,List.cons_append,E0,C6,a6Y,if_true,a60 l r]
theorem b9u {k:IntKind} {t:Ty} (x:El t) (hk:T7 k t=true):b3 t x=(b0P t x).map fun z=>AVal.int k z:=by
 apply List.ext_getElem?;intro j
 by_cases hj:j<t.size
 ·have h1:=a6O x hk hj;have h2:(b3 t x)[j]?=some (.int k (b7 t x j)):=by
   have:(((b3 t x).drop j).take 1)[0]?=some (.int k (b7 t x j)):=by rw [h1]; rfl
   rw [List.getElem?_take_of_lt (by omega),List.getElem?_drop] at this;exact this
  rw [h2];simp [b0P,hj]
 ·rw [List.getElem?_eq_none (by rw [f9]; omega),List.getElem?_eq_none (by simp [b0O]; omega)]
theorem b55 {k:IntKind} {t:Ty} (x:El t) (hk:T7 k t=true):E0 (.int k) t.size (b3 t x)=some (b0P t x):=by
 have h:=a60 (k:=k) (b0P t x) [];rw [b0O,List.append_nil] at h;rw [b9u x hk];exact h
/-! ### Loops gone round a known number of times -/
section
variable {P:Program} {ro:Option Nat} {n:Nat} {c:Code} {Q:Exit→ASt→Prop} {s:ASt}
def b9O (P:Program) (ro:Option Nat) (n:Nat) (c:Code) (Q:Exit→ASt→Prop):Nat→ASt→Prop
 | 0,s=>AW P ro n c (a3i (fun _=>False) Q) s
 | k+1,s=>AW P ro n c (a3i (fun s'=>b9O P ro n c Q k s') Q) s
end
/-! ### Operations -/
section
variable {P:Program} {T:Tab} {n:Nat} {ro:Option Nat} {Q:Exit→ASt→Prop} {σ:Nat→AVal} {H:l3} {g:Gh} {o:Oper} {ops rs:List Oper} {t e:TypeId} {i ie:TInfo}
def b90:AVal→Option Bool
 | .bp _ _=>some false
 | .cv (.pointer none)=>some true
 | _=>none
end
end Go.Proofs.YtanaeefeggokkaaGreat
