import Derived.Test.YtenchhmcjmjlbaaAvn
import Derived.Laws.Pointers
import Derived.Great.FillDense
namespace Go.Proofs.Ytenchhmcjmjlbaa
open Go.RowKit
set_option linter.constructorNameAsVariable false
set_option linter.unusedVariables false
set_option linter.unusedSimpArgs false
/-! ### Parts of arrays -/
def b37 (t:Ty) (x:El t):(u:Ty)→Nat→El u
 | .int _,j=>b7 t x j
 | .bool,j=>n7 t x j
 | .unit,_=>()
 | .pair a b,j=>(b37 t x a j,b37 t x b (j+a.size))
 | .sl t,_=>([]:List (El t))
def D3 (t:Ty):(u:Ty)→El t→Nat→El u→El t
 | .int _,x,j,v=>f9 t x j v
 | .bool,x,j,v=>p8 t x j v
 | .unit,x,_,_=>x
 | .pair a b,x,j,v=>D3 t b (D3 t a x j v.1) (j+a.size) v.2
 | .sl _,x,_,_=>x
theorem a70 {k:IntKind} {t:Ty} (x:El t) (hk:P0 k t=true):∀ (u:Ty) {j:Nat},P0 k u=true→j+u.size≤t.size→((b4 t x).drop j).take u.size=b4 u (b37 t x u j)
 | .int q,j,hu,h=>by
  have e:q=k:=by simpa [P0] using hu
  subst e
  exact a4Q x hk (by simp only [Ty.size] at h; omega)
 | .unit,j,hu,h=>rfl
 | .pair a b,j,hu,h=>by
  simp only [P0,Bool.and_eq_true] at hu
  simp only [Ty.size] at h ⊢
  have h1:=a70 x hk a (j:=j) hu.1 (by omega)
  have h2:=a70 x hk b (j:=j+a.size) hu.2 (by omega)
  rw [List.take_add,h1,List.drop_drop,h2]
  rfl
theorem a5Y (l us vs:List AVal) (j:Nat) (h:j+us.length+vs.length≤l.length):g5 l j (us++vs)=g5 (g5 l j us) (j+us.length) vs:=by
 unfold g5
 have h1:(l.take j++us).length=j+us.length:=by simp; omega
 have h2:(l.take j++us++l.drop (j+us.length)).drop (j+us.length+vs.length)=l.drop (j+us.length+vs.length):=by
  rw [← List.drop_drop,List.drop_left' h1,List.drop_drop]
 rw [List.take_left' h1,h2,List.length_append,show j+(us.length+vs.length)=j+us.length+vs.length by omega]
 simp only [List.append_assoc]
theorem q7 (a:AVal) (l us:List AVal) (x:Nat):g5 (a::l) (x+1) us=a::g5 l x us:=by
 unfold g5
 rw [show x+1+us.length=(x+us.length)+1 by omega,List.drop_succ_cons,List.take_succ_cons]; rfl
theorem a3y {t:Ty} {n:Nat} (hn:t.size=n) (p:El t) (l us:List AVal) (x:Nat):g5 (b4 t p++l) (x+n) us=b4 t p++g5 l x us:=by
 rw [a0V _ _ _ _ (by rw [g4]; omega),g4,hn,Nat.add_sub_cancel]
theorem a71 {k:IntKind} {t:Ty} (hk:P0 k t=true):∀ (u:Ty) (x:El t) {j:Nat} (v:El u),P0 k u=true→j+u.size≤t.size→g5 (b4 t x) j (b4 u v)=b4 t (D3 t u x j v)
 | .int q,x,j,v,hu,h=>by
  have e:q=k:=by simpa [P0] using hu
  subst e
  exact a1A x v hk (by simp only [Ty.size] at h; omega)
 | .unit,x,j,v,hu,h=>by
  show g5 (b4 t x) j []=b4 t x
  unfold g5; simp
 | .pair a b,x,j,v,hu,h=>by
  simp only [P0,Bool.and_eq_true] at hu
  simp only [Ty.size] at h
  show g5 (b4 t x) j (b4 a v.1++b4 b v.2)=b4 t (D3 t b (D3 t a x j v.1) (j+a.size) v.2)
  rw [a5Y _ _ _ _ (by rw [g4,g4,g4]; omega),a71 hk a x v.1 hu.1 (by omega),g4,a71 hk b _ v.2 hu.2 (by omega)]
def a8v (t:Ty) (x:El t):List Int:=(List.range t.size).map fun j=>b7 t x j
theorem a8u (t:Ty) (x:El t):(a8v t x).length=t.size:=by simp [a8v]
theorem a41 {k:IntKind}:∀ (l:List Int) (r:List AVal),B7 (.int k) l.length ((l.map fun z=>AVal.int k z)++r)=some l
 | [],r=>rfl
 | z::l,r=>by
  simp only [List.map_cons,List.length_cons,List.cons_append,B7,C7,a4Z,if_true,a41 l r]
theorem b5U {k:IntKind} {t:Ty} (x:El t) (hk:P0 k t=true):b4 t x=(a8v t x).map fun z=>AVal.int k z:=by
 apply List.ext_getElem?
 intro j
 by_cases hj:j<t.size
 ·have h1:=a4Q x hk hj
  have h2:(b4 t x)[j]?=some (.int k (b7 t x j)):=by
   have:(((b4 t x).drop j).take 1)[0]?=some (.int k (b7 t x j)):=by rw [h1]; rfl
   rw [List.getElem?_take_of_lt (by omega),List.getElem?_drop] at this
   exact this
  rw [h2]
  simp [a8v,hj]
 ·rw [List.getElem?_eq_none (by rw [g4]; omega),List.getElem?_eq_none (by simp [a8u]; omega)]
theorem b2H {k:IntKind} {t:Ty} (x:El t) (hk:P0 k t=true):B7 (.int k) t.size (b4 t x)=some (a8v t x):=by
 have h:=a41 (k:=k) (a8v t x) []
 rw [a8u,List.append_nil] at h
 rw [b5U x hk]
 exact h
/-! ### Loops gone round a known number of times -/
section
variable {P:Program} {ro:Option Nat} {n:Nat} {c:Code} {Q:Exit→ASt→Prop} {s:ASt}
def b6f (P:Program) (ro:Option Nat) (n:Nat) (c:Code) (Q:Exit→ASt→Prop):Nat→ASt→Prop
 | 0,s=>AW P ro n c (a1F (fun _=>False) Q) s
 | k+1,s=>AW P ro n c (a1F (fun s'=>b6f P ro n c Q k s') Q) s
end
/-! ### Operations -/
section
variable {P:Program} {T:Tab} {n:Nat} {ro:Option Nat} {Q:Exit→ASt→Prop} {σ:Nat→AVal} {H:m0} {g:Gh} {o:Oper} {ops rs:List Oper} {t e:TypeId} {i ie:TInfo}
def b6w:AVal→Option Bool
 | .bp _ _=>some false
 | .cv (.pointer none)=>some true
 | _=>none
end
end Go.Proofs.Ytenchhmcjmjlbaa
