import Derived.Test.YtenchhmcjmjlbaaAvo
namespace Go.Proofs.Ytenchhmcjmjlbaa
open Go.RowKit
set_option linter.constructorNameAsVariable false
set_option linter.unusedVariables false
set_option linter.unusedSimpArgs false
attribute [go_sem] Nat.add_zero
theorem app_assocA (l m k:List AVal):l++m++k=l++(m++k):=List.append_assoc l m k
attribute [go_sem] app_assocA List.nil_append List.cons_append List.length_set
def kAt:Ty→Nat→Option (Option IntKind)
 | .int k,j=>if j=0 then some (some k) else none
 | .bool,j=>if j=0 then some none else none
 | .unit,_=>none
 | .pair a b,j=>if j<a.size then kAt a j else kAt b (j - a.size)
 | .sl _,_=>none
theorem kAt_lt {q:Option IntKind}:∀ {t:Ty} {j:Nat},kAt t j=some q→j<t.size
 | .int k,j,h=>by
  unfold kAt at h
  split at h
  ·simp only [Ty.size]; omega
  ·cases h
 | .bool,j,h=>by
  unfold kAt at h
  split at h
  ·simp only [Ty.size]; omega
  ·cases h
 | .unit,j,h=>by cases h
 | .pair a b,j,h=>by
  unfold kAt at h
  simp only [Ty.size]
  split at h
  ·omega
  ·have:=kAt_lt h
   omega
 | .sl _,j,h=>by cases h
theorem cx_intM {k:IntKind}:∀ {t:Ty} (x:El t) {j:Nat},kAt t j=some (some k)→((cellsX t x).drop j).take 1=[.int k (intAt t x j)]
 | .int q,x,j,h=>by
  unfold kAt at h
  split at h
  ·rename_i e
   subst e
   obtain rfl:q=k:=by simpa using h
   rfl
  ·cases h
 | .bool,x,j,h=>by
  unfold kAt at h
  split at h
  ·simp at h
  ·cases h
 | .unit,x,j,h=>by cases h
 | .pair a b,x,j,h=>by
  have hlt:=kAt_lt h
  unfold kAt at h
  show ((cellsOf a x.1++cellsOf b x.2).drop j).take 1=[.int k (if j<a.size then _ else _)]
  have hl:=cellsOf_len a x.1
  by_cases e:j<a.size
  ·rw [if_pos e] at h
   rw [if_pos e,take_drop_app _ _ _ (by omega)]
   exact cx_intM x.1 h
  ·rw [if_neg e] at h
   rw [if_neg e,take_drop_app' _ _ _ (by omega),hl]
   exact cx_intM x.2 h
 | .sl _,x,j,h=>by cases h
theorem cx_boolM:∀ {t:Ty} (x:El t) {j:Nat},kAt t j=some none→((cellsX t x).drop j).take 1=[.bool (boolAt t x j)]
 | .int q,x,j,h=>by
  unfold kAt at h
  split at h
  ·simp at h
  ·cases h
 | .bool,x,j,h=>by
  unfold kAt at h
  split at h
  ·rename_i e
   subst e
   rfl
  ·cases h
 | .unit,x,j,h=>by cases h
 | .pair a b,x,j,h=>by
  unfold kAt at h
  show ((cellsOf a x.1++cellsOf b x.2).drop j).take 1=[.bool (if j<a.size then _ else _)]
  have hl:=cellsOf_len a x.1
  by_cases e:j<a.size
  ·rw [if_pos e] at h
   rw [if_pos e,take_drop_app _ _ _ (by omega)]
   exact cx_boolM x.1 h
  ·rw [if_neg e] at h
   rw [if_neg e,take_drop_app' _ _ _ (by omega),hl]
   exact cx_boolM x.2 h
 | .sl _,x,j,h=>by cases h
theorem cx_setIntM {k:IntKind}:∀ {t:Ty} (x:El t) {j:Nat} (v:Int),kAt t j=some (some k)→splice (cellsX t x) j [.int k v]=cellsX t (setInt t x j v)
 | .int q,x,j,v,h=>by
  unfold kAt at h
  split at h
  ·rename_i e
   subst e
   obtain rfl:q=k:=by simpa using h
   rfl
  ·cases h
 | .bool,x,j,v,h=>by
  unfold kAt at h
  split at h
  ·simp at h
  ·cases h
 | .unit,x,j,v,h=>by cases h
 | .pair a b,x,j,v,h=>by
  have hlt:=kAt_lt h
  simp only [Ty.size] at hlt
  unfold kAt at h
  have hl:=cellsOf_len a x.1
  show splice (cellsOf a x.1++cellsOf b x.2) j _=cellsOf (.pair a b) (if j<a.size then _ else _)
  by_cases e:j<a.size
  ·rw [if_pos e] at h
   rw [if_pos e,splice_app _ _ _ _ (by simp; omega)]
   have:=cx_setIntM x.1 v h
   unfold cellsX at this
   rw [this]; rfl
  ·rw [if_neg e] at h
   rw [if_neg e,splice_app' _ _ _ _ (by omega),hl]
   have:=cx_setIntM x.2 (j:=j - a.size) v h
   unfold cellsX at this
   rw [this]; rfl
 | .sl _,x,j,v,h=>by cases h
theorem cx_setBoolM:∀ {t:Ty} (x:El t) {j:Nat} (v:Bool),kAt t j=some none→splice (cellsX t x) j [.bool v]=cellsX t (setBool t x j v)
 | .int q,x,j,v,h=>by
  unfold kAt at h
  split at h
  ·simp at h
  ·cases h
 | .bool,x,j,v,h=>by
  unfold kAt at h
  split at h
  ·rename_i e
   subst e
   rfl
  ·cases h
 | .unit,x,j,v,h=>by cases h
 | .pair a b,x,j,v,h=>by
  have hlt:=kAt_lt h
  simp only [Ty.size] at hlt
  unfold kAt at h
  have hl:=cellsOf_len a x.1
  show splice (cellsOf a x.1++cellsOf b x.2) j _=cellsOf (.pair a b) (if j<a.size then _ else _)
  by_cases e:j<a.size
  ·rw [if_pos e] at h
   rw [if_pos e,splice_app _ _ _ _ (by simp; omega)]
   have:=cx_setBoolM x.1 v h
   unfold cellsX at this
   rw [this]; rfl
  ·rw [if_neg e] at h
   rw [if_neg e,splice_app' _ _ _ _ (by omega),hl]
   have:=cx_setBoolM x.2 (j:=j - a.size) v h
   unfold cellsX at this
   rw [this]; rfl
 | .sl _,x,j,v,h=>by cases h
def partOK (t u:Ty) (j:Nat):Bool:=(List.range u.size).all fun q=>kAt t (j+q)==kAt u q&&(kAt u q).isSome
theorem partOK_iff {t u:Ty} {j:Nat}:partOK t u j=true↔∀ q,q<u.size→kAt t (j+q)=kAt u q∧(kAt u q).isSome=true:=by
 unfold partOK
 simp only [List.all_eq_true,List.mem_range,Bool.and_eq_true,beq_iff_eq]
theorem partOK_pair {t a b:Ty} {j:Nat} (h:partOK t (.pair a b) j=true):partOK t a j=true∧partOK t b (j+a.size)=true:=by
 rw [partOK_iff] at h
 constructor
 ·rw [partOK_iff]
  intro q hq
  have:=h q (by simp only [Ty.size]; omega)
  have e:kAt (.pair a b) q=kAt a q:=if_pos hq
  rw [e] at this
  exact this
 ·rw [partOK_iff]
  intro q hq
  have:=h (a.size+q) (by simp only [Ty.size]; omega)
  have e:kAt (.pair a b) (a.size+q)=kAt b q:=by
   show (if a.size+q<a.size then kAt a (a.size+q) else kAt b (a.size+q - a.size))=kAt b q
   rw [if_neg (by omega),Nat.add_sub_cancel_left]
  rw [e,← Nat.add_assoc] at this
  exact this
theorem partOK_int {t:Ty} {k:IntKind} {j:Nat} (h:partOK t (.int k) j=true):kAt t j=some (some k):=by
 have:=(partOK_iff.1 h 0 (by simp [Ty.size])).1
 rw [Nat.add_zero] at this
 exact this
theorem partOK_bool {t:Ty} {j:Nat} (h:partOK t .bool j=true):kAt t j=some none:=by
 have:=(partOK_iff.1 h 0 (by simp [Ty.size])).1
 rw [Nat.add_zero] at this
 exact this
theorem partOK_sl {t u:Ty} {j:Nat} (h:partOK t (.sl u) j=true):False:=by
 have:=(partOK_iff.1 h 0 (by simp [Ty.size])).2
 cases this
theorem cx_subM {t:Ty} (x:El t):∀ (u:Ty) {j:Nat},partOK t u j=true→((cellsX t x).drop j).take u.size=cellsX u (subX t x u j)
 | .int k,j,h=>cx_intM x (partOK_int h)
 | .bool,j,h=>cx_boolM x (partOK_bool h)
 | .unit,j,h=>rfl
 | .pair a b,j,h=>by
  obtain ⟨ha,hb⟩:=partOK_pair h
  have h1:=cx_subM x a (j:=j) ha
  have h2:=cx_subM x b (j:=j+a.size) hb
  simp only [Ty.size]
  rw [List.take_add,h1,List.drop_drop,h2]
  rfl
 | .sl _,j,h=>(partOK_sl h).elim
theorem partOK_fit {t:Ty} (u:Ty) {j:Nat} (h0:0<u.size) (h:partOK t u j=true):j+u.size≤t.size:=by
 obtain ⟨h1,h2⟩:=partOK_iff.1 h (u.size - 1) (by omega)
 obtain ⟨q,hq⟩:=Option.isSome_iff_exists.1 h2
 have:=kAt_lt (h1.trans hq)
 omega
theorem cx_putM {t:Ty}:∀ (u:Ty) (x:El t) {j:Nat} (v:El u),partOK t u j=true→splice (cellsX t x) j (cellsX u v)=cellsX t (putX t u x j v)
 | .int k,x,j,v,h=>cx_setIntM x v (partOK_int h)
 | .bool,x,j,v,h=>cx_setBoolM x v (partOK_bool h)
 | .unit,x,j,v,h=>by
  show splice (cellsX t x) j []=cellsX t x
  unfold splice; simp
 | .pair a b,x,j,v,h=>by
  obtain ⟨ha,hb⟩:=partOK_pair h
  show splice (cellsX t x) j (cellsX a v.1++cellsX b v.2)=cellsX t (putX t b (putX t a x j v.1) (j+a.size) v.2)
  by_cases h0:0<a.size+b.size
  ·have hf:=partOK_fit (.pair a b) (by simp only [Ty.size]; exact h0) h
   simp only [Ty.size] at hf
   rw [splice_two _ _ _ _ (by rw [cellsX_len,cellsX_len,cellsX_len]; omega),cx_putM a x v.1 ha,cellsX_len,cx_putM b _ v.2 hb]
  ·have e1:cellsX a v.1=[]:=List.eq_nil_of_length_eq_zero (by rw [cellsX_len]; omega)
   have e2:cellsX b v.2=[]:=List.eq_nil_of_length_eq_zero (by rw [cellsX_len]; omega)
   have h1:=cx_putM a x v.1 ha
   have h2:=cx_putM b (putX t a x j v.1) v.2 hb
   rw [e1] at h1
   rw [e2] at h2
   have n1:∀ (l:List AVal) (j:Nat),splice l j []=l:=fun l j=>by unfold splice; simp
   rw [n1] at h1 h2
   rw [e1,e2,List.append_nil,n1,h1,h2]
 | .sl _,x,j,v,h=>(partOK_sl h).elim
def dropE (t:Ty) (x:El t) (j:Nat):List AVal:=(cellsOf t x).drop j
def toElE (H:AHeap) (t:Ty) (x:El t) (j:Nat) (us:List AVal):Option (El t×List AVal):=toEl H t (splice (cellsOf t x) j us)
/-! ### What is read behind a write -/
theorem intAt_setIntM {k:IntKind} {v:Int}:∀ {t:Ty} (x:El t) {j q:Nat},kAt t j=some (some k)→q<t.size→intAt t (setInt t x j v) q=if q=j then v else intAt t x q
 | .int z,x,j,q,h,hq=>by
  have e:q=0:=by simp only [Ty.size] at hq; omega
  unfold kAt at h
  split at h
  ·rename_i e2
   subst e e2; rfl
  ·cases h
 | .bool,x,j,q,h,hq=>by unfold kAt at h; split at h<;>simp at h
 | .unit,x,j,q,h,hq=>by cases h
 | .pair a b,x,j,q,h,hq=>by
  unfold kAt at h
  simp only [Ty.size] at hq
  by_cases e:j<a.size
  ·rw [if_pos e] at h
   simp only [setInt,e,if_true,intAt]
   by_cases e2:q<a.size
   ·rw [if_pos e2,if_pos e2]; exact intAt_setIntM x.1 h e2
   ·rw [if_neg e2,if_neg e2,if_neg (by omega)]
  ·rw [if_neg e] at h
   simp only [setInt,e,if_false,intAt]
   by_cases e2:q<a.size
   ·rw [if_pos e2,if_pos e2,if_neg (by omega)]
   ·rw [if_neg e2,if_neg e2,intAt_setIntM x.2 h (by omega)]
    by_cases e3:q=j
    ·subst e3; rw [if_pos rfl,if_pos rfl]
    ·rw [if_neg (by omega),if_neg e3]
 | .sl _,x,j,q,h,hq=>by cases h
theorem boolAt_setBoolM {v:Bool}:∀ {t:Ty} (x:El t) {j q:Nat},kAt t j=some none→q<t.size→boolAt t (setBool t x j v) q=if q=j then v else boolAt t x q
 | .int z,x,j,q,h,hq=>by unfold kAt at h; split at h<;>simp at h
 | .bool,x,j,q,h,hq=>by
  have e:q=0:=by simp only [Ty.size] at hq; omega
  unfold kAt at h
  split at h
  ·rename_i e2
   subst e e2; rfl
  ·cases h
 | .unit,x,j,q,h,hq=>by cases h
 | .pair a b,x,j,q,h,hq=>by
  unfold kAt at h
  simp only [Ty.size] at hq
  by_cases e:j<a.size
  ·rw [if_pos e] at h
   simp only [setBool,e,if_true,boolAt]
   by_cases e2:q<a.size
   ·rw [if_pos e2,if_pos e2]; exact boolAt_setBoolM x.1 h e2
   ·rw [if_neg e2,if_neg e2,if_neg (by omega)]
  ·rw [if_neg e] at h
   simp only [setBool,e,if_false,boolAt]
   by_cases e2:q<a.size
   ·rw [if_pos e2,if_pos e2,if_neg (by omega)]
   ·rw [if_neg e2,if_neg e2,boolAt_setBoolM x.2 h (by omega)]
    by_cases e3:q=j
    ·subst e3; rw [if_pos rfl,if_pos rfl]
    ·rw [if_neg (by omega),if_neg e3]
 | .sl _,x,j,q,h,hq=>by cases h
theorem boolAt_setIntM {k:IntKind} {v:Int}:∀ {t:Ty} (x:El t) {j q:Nat},kAt t j=some (some k)→boolAt t (setInt t x j v) q=boolAt t x q
 | .int z,x,j,q,h=>rfl
 | .bool,x,j,q,h=>rfl
 | .unit,x,j,q,h=>rfl
 | .pair a b,x,j,q,h=>by
  unfold kAt at h
  by_cases e:j<a.size
  ·rw [if_pos e] at h
   simp only [setInt,e,if_true,boolAt]
   rw [boolAt_setIntM x.1 h]
  ·rw [if_neg e] at h
   simp only [setInt,e,if_false,boolAt]
   rw [boolAt_setIntM x.2 h]
 | .sl _,x,j,q,h=>rfl
theorem intAt_setBoolM {v:Bool}:∀ {t:Ty} (x:El t) {j q:Nat},kAt t j=some none→intAt t (setBool t x j v) q=intAt t x q
 | .int z,x,j,q,h=>rfl
 | .bool,x,j,q,h=>rfl
 | .unit,x,j,q,h=>rfl
 | .pair a b,x,j,q,h=>by
  unfold kAt at h
  by_cases e:j<a.size
  ·rw [if_pos e] at h
   simp only [setBool,e,if_true,intAt]
   rw [intAt_setBoolM x.1 h]
  ·rw [if_neg e] at h
   simp only [setBool,e,if_false,intAt]
   rw [intAt_setBoolM x.2 h]
 | .sl _,x,j,q,h=>rfl
end Go.Proofs.Ytenchhmcjmjlbaa
