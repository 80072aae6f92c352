import Derived.Test.YtenchhmcjmjlbaaAvn
import Derived.Laws.Pointers
import Derived.Great.FillDense
namespace Go.Proofs.Ytenchhmcjmjlbaa
open Go.RowKit
set_option linter.constructorNameAsVariable false
set_option linter.unusedVariables false
set_option linter.unusedSimpArgs false
/-! ### Parts of arrays -/
def b6e (t:Ty) (x:El t):(u:Ty)→Nat→El u
 | .int _,j=>b7 t x j
 | .bool,j=>n6 t x j
 | .unit,_=>()
 | .pair a b,j=>(b6e t x a j,b6e t x b (j+a.size))
 | .sl t,_=>([]:List (El t))
def E5 (t:Ty):(u:Ty)→El t→Nat→El u→El t
 | .int _,x,j,v=>g4 t x j v
 | .bool,x,j,v=>q7 t x j v
 | .unit,x,_,_=>x
 | .pair a b,x,j,v=>E5 t b (E5 t a x j v.1) (j+a.size) v.2
 | .sl _,x,_,_=>x
theorem a9k {k:IntKind} {t:Ty} (x:El t) (hk:R7 k t=true):∀ (u:Ty) {j:Nat},R7 k u=true→j+u.size≤t.size→((b3 t x).drop j).take u.size=b3 u (b6e t x u j)
 | .int q,j,hu,h=>by
  have e:q=k:=by simpa [R7] using hu
  subst e
  exact a5Y x hk (by simp only [Ty.size] at h; omega)
 | .unit,j,hu,h=>rfl
 | .pair a b,j,hu,h=>by
  simp only [R7,Bool.and_eq_true] at hu
  simp only [Ty.size] at h ⊢
  have h1:=a9k x hk a (j:=j) hu.1 (by omega)
  have h2:=a9k x hk b (j:=j+a.size) hu.2 (by omega)
  rw [List.take_add,h1,List.drop_drop,h2]
  rfl
theorem a68 (l us vs:List AVal) (j:Nat) (h:j+us.length+vs.length≤l.length):g7 l j (us++vs)=g7 (g7 l j us) (j+us.length) vs:=by
 unfold g7
 have h1:(l.take j++us).length=j+us.length:=by simp; omega
 have h2:(l.take j++us++l.drop (j+us.length)).drop (j+us.length+vs.length)=l.drop (j+us.length+vs.length):=by
  rw [← List.drop_drop,List.drop_left' h1,List.drop_drop]
 rw [List.take_left' h1,h2,List.length_append,show j+(us.length+vs.length)=j+us.length+vs.length by omega]
 simp only [List.append_assoc]
theorem s7 (a:AVal) (l us:List AVal) (x:Nat):g7 (a::l) (x+1) us=a::g7 l x us:=by
 unfold g7
 rw [show x+1+us.length=(x+us.length)+1 by omega,List.drop_succ_cons,List.take_succ_cons]; rfl
theorem a4q {t:Ty} {n:Nat} (hn:t.size=n) (p:El t) (l us:List AVal) (x:Nat):g7 (b3 t p++l) (x+n) us=b3 t p++g7 l x us:=by
 rw [a1u _ _ _ _ (by rw [g6]; omega),g6,hn,Nat.add_sub_cancel]
theorem a9l {k:IntKind} {t:Ty} (hk:R7 k t=true):∀ (u:Ty) (x:El t) {j:Nat} (v:El u),R7 k u=true→j+u.size≤t.size→g7 (b3 t x) j (b3 u v)=b3 t (E5 t u x j v)
 | .int q,x,j,v,hu,h=>by
  have e:q=k:=by simpa [R7] using hu
  subst e
  exact a2s x v hk (by simp only [Ty.size] at h; omega)
 | .unit,x,j,v,hu,h=>by
  show g7 (b3 t x) j []=b3 t x
  unfold g7; simp
 | .pair a b,x,j,v,hu,h=>by
  simp only [R7,Bool.and_eq_true] at hu
  simp only [Ty.size] at h
  show g7 (b3 t x) j (b3 a v.1++b3 b v.2)=b3 t (E5 t b (E5 t a x j v.1) (j+a.size) v.2)
  rw [a68 _ _ _ _ (by rw [g6,g6,g6]; omega),a9l hk a x v.1 hu.1 (by omega),g6,a9l hk b _ v.2 hu.2 (by omega)]
def a9Q (t:Ty) (x:El t):List Int:=(List.range t.size).map fun j=>b7 t x j
theorem a9P (t:Ty) (x:El t):(a9Q t x).length=t.size:=by simp [a9Q]
theorem a6c {k:IntKind}:∀ (l:List Int) (r:List AVal),D4 (.int k) l.length ((l.map fun z=>AVal.int k z)++r)=some l
 | [],r=>rfl
 | z::l,r=>by
  simp only [List.map_cons,List.length_cons,List.cons_append,D4,B7,a6a,if_true,a6c l r]
theorem b8h {k:IntKind} {t:Ty} (x:El t) (hk:R7 k t=true):b3 t x=(a9Q t x).map fun z=>AVal.int k z:=by
 apply List.ext_getElem?
 intro j
 by_cases hj:j<t.size
 ·have h1:=a5Y x hk hj
  have h2:(b3 t x)[j]?=some (.int k (b7 t x j)):=by
   have:(((b3 t x).drop j).take 1)[0]?=some (.int k (b7 t x j)):=by rw [h1]; rfl
   rw [List.getElem?_take_of_lt (by omega),List.getElem?_drop] at this
   exact this
  rw [h2]
  simp [a9Q,hj]
 ·rw [List.getElem?_eq_none (by rw [g6]; omega),List.getElem?_eq_none (by simp [a9P]; omega)]
theorem b4H {k:IntKind} {t:Ty} (x:El t) (hk:R7 k t=true):D4 (.int k) t.size (b3 t x)=some (a9Q t x):=by
 have h:=a6c (k:=k) (a9Q t x) []
 rw [a9P,List.append_nil] at h
 rw [b8h x hk]
 exact h
/-! ### Loops gone round a known number of times -/
section
variable {P:Program} {ro:Option Nat} {n:Nat} {c:Code} {Q:Exit→ASt→Prop} {s:ASt}
def b8D (P:Program) (ro:Option Nat) (n:Nat) (c:Code) (Q:Exit→ASt→Prop):Nat→ASt→Prop
 | 0,s=>AW P ro n c (a2x (fun _=>False) Q) s
 | k+1,s=>AW P ro n c (a2x (fun s'=>b8D P ro n c Q k s') Q) s
end
/-! ### Operations -/
section
variable {P:Program} {T:Tab} {n:Nat} {ro:Option Nat} {Q:Exit→ASt→Prop} {σ:Nat→AVal} {H:l6} {g:Gh} {o:Oper} {ops rs:List Oper} {t e:TypeId} {i ie:TInfo}
def b8U:AVal→Option Bool
 | .bp _ _=>some false
 | .cv (.pointer none)=>some true
 | _=>none
end
end Go.Proofs.Ytenchhmcjmjlbaa
