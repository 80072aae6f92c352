import Derived.Test.YtcckpmeepcoafaaDoorHy4
namespace Go.Proofs.YtcckpmeepcoafaaDoor
open Go.RowKit
set_option linter.unusedVariables false
set_option linter.unusedSimpArgs false
set_option linter.constructorNameAsVariable false
set_option maxRecDepth 10000
structure Rr (n:Nat) (X:El T66) (Y:List (Int×Int)) (Z:List (List Int)) (A:Mo):Prop where
  nd:∀ j,j<8→intAt T66 X j=A.N j
  yl:Y.length=n
  sl:∀ t,t<n→Y.getD t (0,0)=(A.S (t*2),A.S (t*2+1))
  zl:Z.length=n
  ls:∀ t,t<n→Z.getD t []=A.L t
section
variable {n m:Nat} {X:El T66} {Y:List (Int×Int)} {Z:List (List Int)} {A:Mo}
theorem Rr.setN (hR:Rr n X Y Z A) {j:Nat} (hj:j<8) (v:Int):Rr n (setInt T66 X (j*1) v) Y Z { A with N:=upd A.N j v } :=
  ⟨fun q hq=>by
    rw [Nat.mul_one,kn_set X v hj hq]
    show _=upd A.N j v q
    unfold upd
    split
    · rfl
    · exact hR.nd q hq,hR.yl,hR.sl,hR.zl,hR.ls⟩
theorem Rr.setS (hR:Rr n X Y Z A) {t s:Nat} (ht:t<n) (hs:s<2) (v:Int):Rr n X (Y.set t (if s=0 then (v,(Y.getD t (0,0)).2) else ((Y.getD t (0,0)).1,v))) Z { A with S:=upd A.S (t*2+s) v }:=by
  refine ⟨hR.nd,by rw [List.length_set,hR.yl],fun u hu=>?_,hR.zl,hR.ls⟩
  rw [getD_setL (by rw [hR.yl]; exact ht)]
  show _=(upd A.S (t*2+s) v (u*2),upd A.S (t*2+s) v (u*2+1))
  have h0:=hR.sl t ht
  by_cases e:u=t
  · subst e
    rw [if_pos rfl,h0]
    by_cases e2:s=0
    · subst e2
      simp [upd]
    · have:s=1:=by omega
      subst this
      simp [upd]
  · rw [if_neg e,hR.sl u hu,upd_other (by omega),upd_other (by omega)]
/-! ### Sweeps -/
theorem Rr.new_ {X:El T66} (hX:∀ j,j<8→intAt T66 X j=0):Rr n X (List.replicate n (-1,-1)) (List.replicate n []) newM :=
  ⟨hX,by simp,fun t ht=>by simp [List.getD,ht,newM],by simp,fun t ht=>by simp [List.getD,ht,newM]⟩
end
end Go.Proofs.YtcckpmeepcoafaaDoor
