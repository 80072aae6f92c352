import Derived.Test.YtenchhmcjmjlbaaAvo
namespace Go.Proofs.Ytenchhmcjmjlbaa
open Go.RowKit
set_option linter.constructorNameAsVariable false
set_option linter.unusedVariables false
set_option linter.unusedSimpArgs false
attribute [go_sem] Nat.add_zero
theorem b1D (l m k:List AVal):l++m++k=l++(m++k):=List.append_assoc l m k
attribute [go_sem] b1D List.nil_append List.cons_append List.length_set
def kAt:Ty→Nat→Option (Option IntKind)
 | .int k,j=>if j=0 then some (some k) else none
 | .bool,j=>if j=0 then some none else none
 | .unit,_=>none
 | .pair a b,j=>if j<a.size then kAt a j else kAt b (j - a.size)
 | .sl _,_=>none
theorem o8 {q:Option IntKind}:∀ {t:Ty} {j:Nat},kAt t j=some q→j<t.size
 | .int k,j,h=>by
  unfold kAt at h
  split at h
  ·simp only [Ty.size]; omega
  ·cases h
 | .bool,j,h=>by
  unfold kAt at h
  split at h
  ·simp only [Ty.size]; omega
  ·cases h
 | .unit,j,h=>by cases h
 | .pair a b,j,h=>by
  unfold kAt at h
  simp only [Ty.size]
  split at h
  ·omega
  ·have:=o8 h
   omega
 | .sl _,j,h=>by cases h
theorem a1H {k:IntKind}:∀ {t:Ty} (x:El t) {j:Nat},kAt t j=some (some k)→((b3 t x).drop j).take 1=[.int k (b7 t x j)]
 | .int q,x,j,h=>by
  unfold kAt at h
  split at h
  ·rename_i e
   subst e
   obtain rfl:q=k:=by simpa using h
   rfl
  ·cases h
 | .bool,x,j,h=>by
  unfold kAt at h
  split at h
  ·simp at h
  ·cases h
 | .unit,x,j,h=>by cases h
 | .pair a b,x,j,h=>by
  have hlt:=o8 h
  unfold kAt at h
  show ((cellsOf a x.1++cellsOf b x.2).drop j).take 1=[.int k (if j<a.size then _ else _)]
  have hl:=m6 a x.1
  by_cases e:j<a.size
  ·rw [if_pos e] at h
   rw [if_pos e,N8 _ _ _ (by omega)]
   exact a1H x.1 h
  ·rw [if_neg e] at h
   rw [if_neg e,a02 _ _ _ (by omega),hl]
   exact a1H x.2 h
 | .sl _,x,j,h=>by cases h
theorem a2t:∀ {t:Ty} (x:El t) {j:Nat},kAt t j=some none→((b3 t x).drop j).take 1=[.bool (n6 t x j)]
 | .int q,x,j,h=>by
  unfold kAt at h
  split at h
  ·simp at h
  ·cases h
 | .bool,x,j,h=>by
  unfold kAt at h
  split at h
  ·rename_i e
   subst e
   rfl
  ·cases h
 | .unit,x,j,h=>by cases h
 | .pair a b,x,j,h=>by
  unfold kAt at h
  show ((cellsOf a x.1++cellsOf b x.2).drop j).take 1=[.bool (if j<a.size then _ else _)]
  have hl:=m6 a x.1
  by_cases e:j<a.size
  ·rw [if_pos e] at h
   rw [if_pos e,N8 _ _ _ (by omega)]
   exact a2t x.1 h
  ·rw [if_neg e] at h
   rw [if_neg e,a02 _ _ _ (by omega),hl]
   exact a2t x.2 h
 | .sl _,x,j,h=>by cases h
theorem S9 {k:IntKind}:∀ {t:Ty} (x:El t) {j:Nat} (v:Int),kAt t j=some (some k)→g7 (b3 t x) j [.int k v]=b3 t (g4 t x j v)
 | .int q,x,j,v,h=>by
  unfold kAt at h
  split at h
  ·rename_i e
   subst e
   obtain rfl:q=k:=by simpa using h
   rfl
  ·cases h
 | .bool,x,j,v,h=>by
  unfold kAt at h
  split at h
  ·simp at h
  ·cases h
 | .unit,x,j,v,h=>by cases h
 | .pair a b,x,j,v,h=>by
  have hlt:=o8 h
  simp only [Ty.size] at hlt
  unfold kAt at h
  have hl:=m6 a x.1
  show g7 (cellsOf a x.1++cellsOf b x.2) j _=cellsOf (.pair a b) (if j<a.size then _ else _)
  by_cases e:j<a.size
  ·rw [if_pos e] at h
   rw [if_pos e,N9 _ _ _ _ (by simp; omega)]
   have:=S9 x.1 v h
   unfold b3 at this
   rw [this]; rfl
  ·rw [if_neg e] at h
   rw [if_neg e,a1u _ _ _ _ (by omega),hl]
   have:=S9 x.2 (j:=j - a.size) v h
   unfold b3 at this
   rw [this]; rfl
 | .sl _,x,j,v,h=>by cases h
theorem X2:∀ {t:Ty} (x:El t) {j:Nat} (v:Bool),kAt t j=some none→g7 (b3 t x) j [.bool v]=b3 t (q7 t x j v)
 | .int q,x,j,v,h=>by
  unfold kAt at h
  split at h
  ·simp at h
  ·cases h
 | .bool,x,j,v,h=>by
  unfold kAt at h
  split at h
  ·rename_i e
   subst e
   rfl
  ·cases h
 | .unit,x,j,v,h=>by cases h
 | .pair a b,x,j,v,h=>by
  have hlt:=o8 h
  simp only [Ty.size] at hlt
  unfold kAt at h
  have hl:=m6 a x.1
  show g7 (cellsOf a x.1++cellsOf b x.2) j _=cellsOf (.pair a b) (if j<a.size then _ else _)
  by_cases e:j<a.size
  ·rw [if_pos e] at h
   rw [if_pos e,N9 _ _ _ _ (by simp; omega)]
   have:=X2 x.1 v h
   unfold b3 at this
   rw [this]; rfl
  ·rw [if_neg e] at h
   rw [if_neg e,a1u _ _ _ _ (by omega),hl]
   have:=X2 x.2 (j:=j - a.size) v h
   unfold b3 at this
   rw [this]; rfl
 | .sl _,x,j,v,h=>by cases h
def P2 (t u:Ty) (j:Nat):Bool:=(List.range u.size).all fun q=>kAt t (j+q)==kAt u q&&(kAt u q).isSome
theorem W8 {t u:Ty} {j:Nat}:P2 t u j=true↔∀ q,q<u.size→kAt t (j+q)=kAt u q∧(kAt u q).isSome=true:=by
 unfold P2
 simp only [List.all_eq_true,List.mem_range,Bool.and_eq_true,beq_iff_eq]
theorem a1y {t a b:Ty} {j:Nat} (h:P2 t (.pair a b) j=true):P2 t a j=true∧P2 t b (j+a.size)=true:=by
 rw [W8] at h
 constructor
 ·rw [W8]
  intro q hq
  have:=h q (by simp only [Ty.size]; omega)
  have e:kAt (.pair a b) q=kAt a q:=if_pos hq
  rw [e] at this
  exact this
 ·rw [W8]
  intro q hq
  have:=h (a.size+q) (by simp only [Ty.size]; omega)
  have e:kAt (.pair a b) (a.size+q)=kAt b q:=by
   show (if a.size+q<a.size then kAt a (a.size+q) else kAt b (a.size+q - a.size))=kAt b q
   rw [if_neg (by omega),Nat.add_sub_cancel_left]
  rw [e,← Nat.add_assoc] at this
  exact this
theorem a2F {t:Ty} {k:IntKind} {j:Nat} (h:P2 t (.int k) j=true):kAt t j=some (some k):=by
 have:=(W8.1 h 0 (by simp [Ty.size])).1
 rw [Nat.add_zero] at this
 exact this
theorem a1z {t:Ty} {j:Nat} (h:P2 t .bool j=true):kAt t j=some none:=by
 have:=(W8.1 h 0 (by simp [Ty.size])).1
 rw [Nat.add_zero] at this
 exact this
theorem a3N {t u:Ty} {j:Nat} (h:P2 t (.sl u) j=true):False:=by
 have:=(W8.1 h 0 (by simp [Ty.size])).2
 cases this
theorem a9j {t:Ty} (x:El t):∀ (u:Ty) {j:Nat},P2 t u j=true→((b3 t x).drop j).take u.size=b3 u (b6e t x u j)
 | .int k,j,h=>a1H x (a2F h)
 | .bool,j,h=>a2t x (a1z h)
 | .unit,j,h=>rfl
 | .pair a b,j,h=>by
  obtain ⟨ha,hb⟩:=a1y h
  have h1:=a9j x a (j:=j) ha
  have h2:=a9j x b (j:=j+a.size) hb
  simp only [Ty.size]
  rw [List.take_add,h1,List.drop_drop,h2]
  rfl
 | .sl _,j,h=>(a3N h).elim
theorem a4t {t:Ty} (u:Ty) {j:Nat} (h0:0<u.size) (h:P2 t u j=true):j+u.size≤t.size:=by
 obtain ⟨h1,h2⟩:=W8.1 h (u.size - 1) (by omega)
 obtain ⟨q,hq⟩:=Option.isSome_iff_exists.1 h2
 have:=o8 (h1.trans hq)
 omega
theorem a5j {t:Ty}:∀ (u:Ty) (x:El t) {j:Nat} (v:El u),P2 t u j=true→g7 (b3 t x) j (b3 u v)=b3 t (E5 t u x j v)
 | .int k,x,j,v,h=>S9 x v (a2F h)
 | .bool,x,j,v,h=>X2 x v (a1z h)
 | .unit,x,j,v,h=>by
  show g7 (b3 t x) j []=b3 t x
  unfold g7; simp
 | .pair a b,x,j,v,h=>by
  obtain ⟨ha,hb⟩:=a1y h
  show g7 (b3 t x) j (b3 a v.1++b3 b v.2)=b3 t (E5 t b (E5 t a x j v.1) (j+a.size) v.2)
  by_cases h0:0<a.size+b.size
  ·have hf:=a4t (.pair a b) (by simp only [Ty.size]; exact h0) h
   simp only [Ty.size] at hf
   rw [a68 _ _ _ _ (by rw [g6,g6,g6]; omega),a5j a x v.1 ha,g6,a5j b _ v.2 hb]
  ·have e1:b3 a v.1=[]:=List.eq_nil_of_length_eq_zero (by rw [g6]; omega)
   have e2:b3 b v.2=[]:=List.eq_nil_of_length_eq_zero (by rw [g6]; omega)
   have h1:=a5j a x v.1 ha
   have h2:=a5j b (E5 t a x j v.1) v.2 hb
   rw [e1] at h1
   rw [e2] at h2
   have n1:∀ (l:List AVal) (j:Nat),g7 l j []=l:=fun l j=>by unfold g7; simp
   rw [n1] at h1 h2
   rw [e1,e2,List.append_nil,n1,h1,h2]
 | .sl _,x,j,v,h=>(a3N h).elim
def a20 (t:Ty) (x:El t) (j:Nat):List AVal:=(cellsOf t x).drop j
def Z7 (H:l6) (t:Ty) (x:El t) (j:Nat) (us:List AVal):Option (El t×List AVal):=B7 H t (g7 (cellsOf t x) j us)
/-! ### What is read behind a write -/
theorem m4 {k:IntKind} {v:Int}:∀ {t:Ty} (x:El t) {j q:Nat},kAt t j=some (some k)→q<t.size→b7 t (g4 t x j v) q=if q=j then v else b7 t x q
 | .int z,x,j,q,h,hq=>by
  have e:q=0:=by simp only [Ty.size] at hq; omega
  unfold kAt at h
  split at h
  ·rename_i e2
   subst e e2; rfl
  ·cases h
 | .bool,x,j,q,h,hq=>by unfold kAt at h; split at h<;>simp at h
 | .unit,x,j,q,h,hq=>by cases h
 | .pair a b,x,j,q,h,hq=>by
  unfold kAt at h
  simp only [Ty.size] at hq
  by_cases e:j<a.size
  ·rw [if_pos e] at h
   simp only [g4,e,if_true,b7]
   by_cases e2:q<a.size
   ·rw [if_pos e2,if_pos e2]; exact m4 x.1 h e2
   ·rw [if_neg e2,if_neg e2,if_neg (by omega)]
  ·rw [if_neg e] at h
   simp only [g4,e,if_false,b7]
   by_cases e2:q<a.size
   ·rw [if_pos e2,if_pos e2,if_neg (by omega)]
   ·rw [if_neg e2,if_neg e2,m4 x.2 h (by omega)]
    by_cases e3:q=j
    ·subst e3; rw [if_pos rfl,if_pos rfl]
    ·rw [if_neg (by omega),if_neg e3]
 | .sl _,x,j,q,h,hq=>by cases h
theorem V9 {v:Bool}:∀ {t:Ty} (x:El t) {j q:Nat},kAt t j=some none→q<t.size→n6 t (q7 t x j v) q=if q=j then v else n6 t x q
 | .int z,x,j,q,h,hq=>by unfold kAt at h; split at h<;>simp at h
 | .bool,x,j,q,h,hq=>by
  have e:q=0:=by simp only [Ty.size] at hq; omega
  unfold kAt at h
  split at h
  ·rename_i e2
   subst e e2; rfl
  ·cases h
 | .unit,x,j,q,h,hq=>by cases h
 | .pair a b,x,j,q,h,hq=>by
  unfold kAt at h
  simp only [Ty.size] at hq
  by_cases e:j<a.size
  ·rw [if_pos e] at h
   simp only [q7,e,if_true,n6]
   by_cases e2:q<a.size
   ·rw [if_pos e2,if_pos e2]; exact V9 x.1 h e2
   ·rw [if_neg e2,if_neg e2,if_neg (by omega)]
  ·rw [if_neg e] at h
   simp only [q7,e,if_false,n6]
   by_cases e2:q<a.size
   ·rw [if_pos e2,if_pos e2,if_neg (by omega)]
   ·rw [if_neg e2,if_neg e2,V9 x.2 h (by omega)]
    by_cases e3:q=j
    ·subst e3; rw [if_pos rfl,if_pos rfl]
    ·rw [if_neg (by omega),if_neg e3]
 | .sl _,x,j,q,h,hq=>by cases h
theorem L1 {k:IntKind} {v:Int}:∀ {t:Ty} (x:El t) {j q:Nat},kAt t j=some (some k)→n6 t (g4 t x j v) q=n6 t x q
 | .int z,x,j,q,h=>rfl
 | .bool,x,j,q,h=>rfl
 | .unit,x,j,q,h=>rfl
 | .pair a b,x,j,q,h=>by
  unfold kAt at h
  by_cases e:j<a.size
  ·rw [if_pos e] at h
   simp only [g4,e,if_true,n6]
   rw [L1 x.1 h]
  ·rw [if_neg e] at h
   simp only [g4,e,if_false,n6]
   rw [L1 x.2 h]
 | .sl _,x,j,q,h=>rfl
theorem S5 {v:Bool}:∀ {t:Ty} (x:El t) {j q:Nat},kAt t j=some none→b7 t (q7 t x j v) q=b7 t x q
 | .int z,x,j,q,h=>rfl
 | .bool,x,j,q,h=>rfl
 | .unit,x,j,q,h=>rfl
 | .pair a b,x,j,q,h=>by
  unfold kAt at h
  by_cases e:j<a.size
  ·rw [if_pos e] at h
   simp only [q7,e,if_true,b7]
   rw [S5 x.1 h]
  ·rw [if_neg e] at h
   simp only [q7,e,if_false,b7]
   rw [S5 x.2 h]
 | .sl _,x,j,q,h=>rfl
end Go.Proofs.Ytenchhmcjmjlbaa
