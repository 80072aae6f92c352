import Derived.Test.YtenchhmcjmjlbaaAvn
import Derived.Laws.Pointers
import Derived.Great.FillDense
namespace Go.Proofs.Ytenchhmcjmjlbaa
open Go.RowKit
set_option linter.constructorNameAsVariable false
set_option linter.unusedVariables false
set_option linter.unusedSimpArgs false
/-! ### Parts of arrays -/
def subX (t:Ty) (x:El t):(u:Ty)→Nat→El u
 | .int _,j=>intAt t x j
 | .bool,j=>boolAt t x j
 | .unit,_=>()
 | .pair a b,j=>(subX t x a j,subX t x b (j+a.size))
 | .sl t,_=>([]:List (El t))
def putX (t:Ty):(u:Ty)→El t→Nat→El u→El t
 | .int _,x,j,v=>setInt t x j v
 | .bool,x,j,v=>setBool t x j v
 | .unit,x,_,_=>x
 | .pair a b,x,j,v=>putX t b (putX t a x j v.1) (j+a.size) v.2
 | .sl _,x,_,_=>x
theorem cx_sub {k:IntKind} {t:Ty} (x:El t) (hk:allInt k t=true):∀ (u:Ty) {j:Nat},allInt k u=true→j+u.size≤t.size→((cellsX t x).drop j).take u.size=cellsX u (subX t x u j)
 | .int q,j,hu,h=>by
  have e:q=k:=by simpa [allInt] using hu
  subst e
  exact cx_int x hk (by simp only [Ty.size] at h; omega)
 | .unit,j,hu,h=>rfl
 | .pair a b,j,hu,h=>by
  simp only [allInt,Bool.and_eq_true] at hu
  simp only [Ty.size] at h ⊢
  have h1:=cx_sub x hk a (j:=j) hu.1 (by omega)
  have h2:=cx_sub x hk b (j:=j+a.size) hu.2 (by omega)
  rw [List.take_add,h1,List.drop_drop,h2]
  rfl
theorem splice_two (l us vs:List AVal) (j:Nat) (h:j+us.length+vs.length≤l.length):splice l j (us++vs)=splice (splice l j us) (j+us.length) vs:=by
 unfold splice
 have h1:(l.take j++us).length=j+us.length:=by simp; omega
 have h2:(l.take j++us++l.drop (j+us.length)).drop (j+us.length+vs.length)=l.drop (j+us.length+vs.length):=by
  rw [← List.drop_drop,List.drop_left' h1,List.drop_drop]
 rw [List.take_left' h1,h2,List.length_append,show j+(us.length+vs.length)=j+us.length+vs.length by omega]
 simp only [List.append_assoc]
theorem splice_cons1 (a:AVal) (l us:List AVal) (x:Nat):splice (a::l) (x+1) us=a::splice l x us:=by
 unfold splice
 rw [show x+1+us.length=(x+us.length)+1 by omega,List.drop_succ_cons,List.take_succ_cons]; rfl
theorem splice_cxA {t:Ty} {n:Nat} (hn:t.size=n) (p:El t) (l us:List AVal) (x:Nat):splice (cellsX t p++l) (x+n) us=cellsX t p++splice l x us:=by
 rw [splice_app' _ _ _ _ (by rw [cellsX_len]; omega),cellsX_len,hn,Nat.add_sub_cancel]
theorem cx_put {k:IntKind} {t:Ty} (hk:allInt k t=true):∀ (u:Ty) (x:El t) {j:Nat} (v:El u),allInt k u=true→j+u.size≤t.size→splice (cellsX t x) j (cellsX u v)=cellsX t (putX t u x j v)
 | .int q,x,j,v,hu,h=>by
  have e:q=k:=by simpa [allInt] using hu
  subst e
  exact cx_setInt x v hk (by simp only [Ty.size] at h; omega)
 | .unit,x,j,v,hu,h=>by
  show splice (cellsX t x) j []=cellsX t x
  unfold splice; simp
 | .pair a b,x,j,v,hu,h=>by
  simp only [allInt,Bool.and_eq_true] at hu
  simp only [Ty.size] at h
  show splice (cellsX t x) j (cellsX a v.1++cellsX b v.2)=cellsX t (putX t b (putX t a x j v.1) (j+a.size) v.2)
  rw [splice_two _ _ _ _ (by rw [cellsX_len,cellsX_len,cellsX_len]; omega),cx_put hk a x v.1 hu.1 (by omega),cellsX_len,cx_put hk b _ v.2 hu.2 (by omega)]
def rowX (t:Ty) (x:El t):List Int:=(List.range t.size).map fun j=>intAt t x j
theorem rowX_len (t:Ty) (x:El t):(rowX t x).length=t.size:=by simp [rowX]
theorem takeEls_int {k:IntKind}:∀ (l:List Int) (r:List AVal),takeEls (.int k) l.length ((l.map fun z=>AVal.int k z)++r)=some l
 | [],r=>rfl
 | z::l,r=>by
  simp only [List.map_cons,List.length_cons,List.cons_append,takeEls,toEl,toInt,if_true,takeEls_int l r]
theorem cx_row {k:IntKind} {t:Ty} (x:El t) (hk:allInt k t=true):cellsX t x=(rowX t x).map fun z=>AVal.int k z:=by
 apply List.ext_getElem?
 intro j
 by_cases hj:j<t.size
 ·have h1:=cx_int x hk hj
  have h2:(cellsX t x)[j]?=some (.int k (intAt t x j)):=by
   have:(((cellsX t x).drop j).take 1)[0]?=some (.int k (intAt t x j)):=by rw [h1]; rfl
   rw [List.getElem?_take_of_lt (by omega),List.getElem?_drop] at this
   exact this
  rw [h2]
  simp [rowX,hj]
 ·rw [List.getElem?_eq_none (by rw [cellsX_len]; omega),List.getElem?_eq_none (by simp [rowX_len]; omega)]
theorem cx_els {k:IntKind} {t:Ty} (x:El t) (hk:allInt k t=true):takeEls (.int k) t.size (cellsX t x)=some (rowX t x):=by
 have h:=takeEls_int (k:=k) (rowX t x) []
 rw [rowX_len,List.append_nil] at h
 rw [cx_row x hk]
 exact h
/-! ### Loops gone round a known number of times -/
section
variable {P:Program} {ro:Option Nat} {n:Nat} {c:Code} {Q:Exit→ASt→Prop} {s:ASt}
def LoopU (P:Program) (ro:Option Nat) (n:Nat) (c:Code) (Q:Exit→ASt→Prop):Nat→ASt→Prop
 | 0,s=>AW P ro n c (athen (fun _=>False) Q) s
 | k+1,s=>AW P ro n c (athen (fun s'=>LoopU P ro n c Q k s') Q) s
end
/-! ### Operations -/
section
variable {P:Program} {T:Tab} {n:Nat} {ro:Option Nat} {Q:Exit→ASt→Prop} {σ:Nat→AVal} {H:AHeap} {g:Gh} {o:Oper} {ops rs:List Oper} {t e:TypeId} {i ie:TInfo}
def nilP:AVal→Option Bool
 | .bp _ _=>some false
 | .cv (.pointer none)=>some true
 | _=>none
end
end Go.Proofs.Ytenchhmcjmjlbaa
