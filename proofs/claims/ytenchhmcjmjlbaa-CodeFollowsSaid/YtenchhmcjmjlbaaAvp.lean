import Derived.Test.YtenchhmcjmjlbaaAvo
namespace Go.Proofs.Ytenchhmcjmjlbaa
open Go.RowKit
set_option linter.constructorNameAsVariable false
set_option linter.unusedVariables false
set_option linter.unusedSimpArgs false
attribute [go_sem] Nat.add_zero
theorem a94 (l m k:List AVal):l++m++k=l++(m++k):=List.append_assoc l m k
attribute [go_sem] a94 List.nil_append List.cons_append List.length_set
def kAt:Ty→Nat→Option (Option IntKind)
 | .int k,j=>if j=0 then some (some k) else none
 | .bool,j=>if j=0 then some none else none
 | .unit,_=>none
 | .pair a b,j=>if j<a.size then kAt a j else kAt b (j - a.size)
 | .sl _,_=>none
theorem j9 {q:Option IntKind}:∀ {t:Ty} {j:Nat},kAt t j=some q→j<t.size
 | .int k,j,h=>by
  unfold kAt at h
  split at h
  ·simp only [Ty.size]; omega
  ·cases h
 | .bool,j,h=>by
  unfold kAt at h
  split at h
  ·simp only [Ty.size]; omega
  ·cases h
 | .unit,j,h=>by cases h
 | .pair a b,j,h=>by
  unfold kAt at h
  simp only [Ty.size]
  split at h
  ·omega
  ·have:=j9 h
   omega
 | .sl _,j,h=>by cases h
theorem a05 {k:IntKind}:∀ {t:Ty} (x:El t) {j:Nat},kAt t j=some (some k)→((b4 t x).drop j).take 1=[.int k (b7 t x j)]
 | .int q,x,j,h=>by
  unfold kAt at h
  split at h
  ·rename_i e
   subst e
   obtain rfl:q=k:=by simpa using h
   rfl
  ·cases h
 | .bool,x,j,h=>by
  unfold kAt at h
  split at h
  ·simp at h
  ·cases h
 | .unit,x,j,h=>by cases h
 | .pair a b,x,j,h=>by
  have hlt:=j9 h
  unfold kAt at h
  show ((cellsOf a x.1++cellsOf b x.2).drop j).take 1=[.int k (if j<a.size then _ else _)]
  have hl:=n3 a x.1
  by_cases e:j<a.size
  ·rw [if_pos e] at h
   rw [if_pos e,L6 _ _ _ (by omega)]
   exact a05 x.1 h
  ·rw [if_neg e] at h
   rw [if_neg e,a0v _ _ _ (by omega),hl]
   exact a05 x.2 h
 | .sl _,x,j,h=>by cases h
theorem a1B:∀ {t:Ty} (x:El t) {j:Nat},kAt t j=some none→((b4 t x).drop j).take 1=[.bool (n7 t x j)]
 | .int q,x,j,h=>by
  unfold kAt at h
  split at h
  ·simp at h
  ·cases h
 | .bool,x,j,h=>by
  unfold kAt at h
  split at h
  ·rename_i e
   subst e
   rfl
  ·cases h
 | .unit,x,j,h=>by cases h
 | .pair a b,x,j,h=>by
  unfold kAt at h
  show ((cellsOf a x.1++cellsOf b x.2).drop j).take 1=[.bool (if j<a.size then _ else _)]
  have hl:=n3 a x.1
  by_cases e:j<a.size
  ·rw [if_pos e] at h
   rw [if_pos e,L6 _ _ _ (by omega)]
   exact a1B x.1 h
  ·rw [if_neg e] at h
   rw [if_neg e,a0v _ _ _ (by omega),hl]
   exact a1B x.2 h
 | .sl _,x,j,h=>by cases h
theorem Q4 {k:IntKind}:∀ {t:Ty} (x:El t) {j:Nat} (v:Int),kAt t j=some (some k)→g5 (b4 t x) j [.int k v]=b4 t (f9 t x j v)
 | .int q,x,j,v,h=>by
  unfold kAt at h
  split at h
  ·rename_i e
   subst e
   obtain rfl:q=k:=by simpa using h
   rfl
  ·cases h
 | .bool,x,j,v,h=>by
  unfold kAt at h
  split at h
  ·simp at h
  ·cases h
 | .unit,x,j,v,h=>by cases h
 | .pair a b,x,j,v,h=>by
  have hlt:=j9 h
  simp only [Ty.size] at hlt
  unfold kAt at h
  have hl:=n3 a x.1
  show g5 (cellsOf a x.1++cellsOf b x.2) j _=cellsOf (.pair a b) (if j<a.size then _ else _)
  by_cases e:j<a.size
  ·rw [if_pos e] at h
   rw [if_pos e,L7 _ _ _ _ (by simp; omega)]
   have:=Q4 x.1 v h
   unfold b4 at this
   rw [this]; rfl
  ·rw [if_neg e] at h
   rw [if_neg e,a0V _ _ _ _ (by omega),hl]
   have:=Q4 x.2 (j:=j - a.size) v h
   unfold b4 at this
   rw [this]; rfl
 | .sl _,x,j,v,h=>by cases h
theorem U9:∀ {t:Ty} (x:El t) {j:Nat} (v:Bool),kAt t j=some none→g5 (b4 t x) j [.bool v]=b4 t (p8 t x j v)
 | .int q,x,j,v,h=>by
  unfold kAt at h
  split at h
  ·simp at h
  ·cases h
 | .bool,x,j,v,h=>by
  unfold kAt at h
  split at h
  ·rename_i e
   subst e
   rfl
  ·cases h
 | .unit,x,j,v,h=>by cases h
 | .pair a b,x,j,v,h=>by
  have hlt:=j9 h
  simp only [Ty.size] at hlt
  unfold kAt at h
  have hl:=n3 a x.1
  show g5 (cellsOf a x.1++cellsOf b x.2) j _=cellsOf (.pair a b) (if j<a.size then _ else _)
  by_cases e:j<a.size
  ·rw [if_pos e] at h
   rw [if_pos e,L7 _ _ _ _ (by simp; omega)]
   have:=U9 x.1 v h
   unfold b4 at this
   rw [this]; rfl
  ·rw [if_neg e] at h
   rw [if_neg e,a0V _ _ _ _ (by omega),hl]
   have:=U9 x.2 (j:=j - a.size) v h
   unfold b4 at this
   rw [this]; rfl
 | .sl _,x,j,v,h=>by cases h
def M9 (t u:Ty) (j:Nat):Bool:=(List.range u.size).all fun q=>kAt t (j+q)==kAt u q&&(kAt u q).isSome
theorem U4 {t u:Ty} {j:Nat}:M9 t u j=true↔∀ q,q<u.size→kAt t (j+q)=kAt u q∧(kAt u q).isSome=true:=by
 unfold M9
 simp only [List.all_eq_true,List.mem_range,Bool.and_eq_true,beq_iff_eq]
theorem a00 {t a b:Ty} {j:Nat} (h:M9 t (.pair a b) j=true):M9 t a j=true∧M9 t b (j+a.size)=true:=by
 rw [U4] at h
 constructor
 ·rw [U4]
  intro q hq
  have:=h q (by simp only [Ty.size]; omega)
  have e:kAt (.pair a b) q=kAt a q:=if_pos hq
  rw [e] at this
  exact this
 ·rw [U4]
  intro q hq
  have:=h (a.size+q) (by simp only [Ty.size]; omega)
  have e:kAt (.pair a b) (a.size+q)=kAt b q:=by
   show (if a.size+q<a.size then kAt a (a.size+q) else kAt b (a.size+q - a.size))=kAt b q
   rw [if_neg (by omega),Nat.add_sub_cancel_left]
  rw [e,← Nat.add_assoc] at this
  exact this
theorem a1O {t:Ty} {k:IntKind} {j:Nat} (h:M9 t (.int k) j=true):kAt t j=some (some k):=by
 have:=(U4.1 h 0 (by simp [Ty.size])).1
 rw [Nat.add_zero] at this
 exact this
theorem a01 {t:Ty} {j:Nat} (h:M9 t .bool j=true):kAt t j=some none:=by
 have:=(U4.1 h 0 (by simp [Ty.size])).1
 rw [Nat.add_zero] at this
 exact this
theorem a21 {t u:Ty} {j:Nat} (h:M9 t (.sl u) j=true):False:=by
 have:=(U4.1 h 0 (by simp [Ty.size])).2
 cases this
theorem a7Z {t:Ty} (x:El t):∀ (u:Ty) {j:Nat},M9 t u j=true→((b4 t x).drop j).take u.size=b4 u (b37 t x u j)
 | .int k,j,h=>a05 x (a1O h)
 | .bool,j,h=>a1B x (a01 h)
 | .unit,j,h=>rfl
 | .pair a b,j,h=>by
  obtain ⟨ha,hb⟩:=a00 h
  have h1:=a7Z x a (j:=j) ha
  have h2:=a7Z x b (j:=j+a.size) hb
  simp only [Ty.size]
  rw [List.take_add,h1,List.drop_drop,h2]
  rfl
 | .sl _,j,h=>(a21 h).elim
theorem a3A {t:Ty} (u:Ty) {j:Nat} (h0:0<u.size) (h:M9 t u j=true):j+u.size≤t.size:=by
 obtain ⟨h1,h2⟩:=U4.1 h (u.size - 1) (by omega)
 obtain ⟨q,hq⟩:=Option.isSome_iff_exists.1 h2
 have:=j9 (h1.trans hq)
 omega
theorem a4f {t:Ty}:∀ (u:Ty) (x:El t) {j:Nat} (v:El u),M9 t u j=true→g5 (b4 t x) j (b4 u v)=b4 t (D3 t u x j v)
 | .int k,x,j,v,h=>Q4 x v (a1O h)
 | .bool,x,j,v,h=>U9 x v (a01 h)
 | .unit,x,j,v,h=>by
  show g5 (b4 t x) j []=b4 t x
  unfold g5; simp
 | .pair a b,x,j,v,h=>by
  obtain ⟨ha,hb⟩:=a00 h
  show g5 (b4 t x) j (b4 a v.1++b4 b v.2)=b4 t (D3 t b (D3 t a x j v.1) (j+a.size) v.2)
  by_cases h0:0<a.size+b.size
  ·have hf:=a3A (.pair a b) (by simp only [Ty.size]; exact h0) h
   simp only [Ty.size] at hf
   rw [a5Y _ _ _ _ (by rw [g4,g4,g4]; omega),a4f a x v.1 ha,g4,a4f b _ v.2 hb]
  ·have e1:b4 a v.1=[]:=List.eq_nil_of_length_eq_zero (by rw [g4]; omega)
   have e2:b4 b v.2=[]:=List.eq_nil_of_length_eq_zero (by rw [g4]; omega)
   have h1:=a4f a x v.1 ha
   have h2:=a4f b (D3 t a x j v.1) v.2 hb
   rw [e1] at h1
   rw [e2] at h2
   have n1:∀ (l:List AVal) (j:Nat),g5 l j []=l:=fun l j=>by unfold g5; simp
   rw [n1] at h1 h2
   rw [e1,e2,List.append_nil,n1,h1,h2]
 | .sl _,x,j,v,h=>(a21 h).elim
def a2i (t:Ty) (x:El t) (j:Nat):List AVal:=(cellsOf t x).drop j
def W7 (H:m0) (t:Ty) (x:El t) (j:Nat) (us:List AVal):Option (El t×List AVal):=C7 H t (g5 (cellsOf t x) j us)
/-! ### What is read behind a write -/
theorem m7 {k:IntKind} {v:Int}:∀ {t:Ty} (x:El t) {j q:Nat},kAt t j=some (some k)→q<t.size→b7 t (f9 t x j v) q=if q=j then v else b7 t x q
 | .int z,x,j,q,h,hq=>by
  have e:q=0:=by simp only [Ty.size] at hq; omega
  unfold kAt at h
  split at h
  ·rename_i e2
   subst e e2; rfl
  ·cases h
 | .bool,x,j,q,h,hq=>by unfold kAt at h; split at h<;>simp at h
 | .unit,x,j,q,h,hq=>by cases h
 | .pair a b,x,j,q,h,hq=>by
  unfold kAt at h
  simp only [Ty.size] at hq
  by_cases e:j<a.size
  ·rw [if_pos e] at h
   simp only [f9,e,if_true,b7]
   by_cases e2:q<a.size
   ·rw [if_pos e2,if_pos e2]; exact m7 x.1 h e2
   ·rw [if_neg e2,if_neg e2,if_neg (by omega)]
  ·rw [if_neg e] at h
   simp only [f9,e,if_false,b7]
   by_cases e2:q<a.size
   ·rw [if_pos e2,if_pos e2,if_neg (by omega)]
   ·rw [if_neg e2,if_neg e2,m7 x.2 h (by omega)]
    by_cases e3:q=j
    ·subst e3; rw [if_pos rfl,if_pos rfl]
    ·rw [if_neg (by omega),if_neg e3]
 | .sl _,x,j,q,h,hq=>by cases h
theorem T8 {v:Bool}:∀ {t:Ty} (x:El t) {j q:Nat},kAt t j=some none→q<t.size→n7 t (p8 t x j v) q=if q=j then v else n7 t x q
 | .int z,x,j,q,h,hq=>by unfold kAt at h; split at h<;>simp at h
 | .bool,x,j,q,h,hq=>by
  have e:q=0:=by simp only [Ty.size] at hq; omega
  unfold kAt at h
  split at h
  ·rename_i e2
   subst e e2; rfl
  ·cases h
 | .unit,x,j,q,h,hq=>by cases h
 | .pair a b,x,j,q,h,hq=>by
  unfold kAt at h
  simp only [Ty.size] at hq
  by_cases e:j<a.size
  ·rw [if_pos e] at h
   simp only [p8,e,if_true,n7]
   by_cases e2:q<a.size
   ·rw [if_pos e2,if_pos e2]; exact T8 x.1 h e2
   ·rw [if_neg e2,if_neg e2,if_neg (by omega)]
  ·rw [if_neg e] at h
   simp only [p8,e,if_false,n7]
   by_cases e2:q<a.size
   ·rw [if_pos e2,if_pos e2,if_neg (by omega)]
   ·rw [if_neg e2,if_neg e2,T8 x.2 h (by omega)]
    by_cases e3:q=j
    ·subst e3; rw [if_pos rfl,if_pos rfl]
    ·rw [if_neg (by omega),if_neg e3]
 | .sl _,x,j,q,h,hq=>by cases h
theorem I4 {k:IntKind} {v:Int}:∀ {t:Ty} (x:El t) {j q:Nat},kAt t j=some (some k)→n7 t (f9 t x j v) q=n7 t x q
 | .int z,x,j,q,h=>rfl
 | .bool,x,j,q,h=>rfl
 | .unit,x,j,q,h=>rfl
 | .pair a b,x,j,q,h=>by
  unfold kAt at h
  by_cases e:j<a.size
  ·rw [if_pos e] at h
   simp only [f9,e,if_true,n7]
   rw [I4 x.1 h]
  ·rw [if_neg e] at h
   simp only [f9,e,if_false,n7]
   rw [I4 x.2 h]
 | .sl _,x,j,q,h=>rfl
theorem Q0 {v:Bool}:∀ {t:Ty} (x:El t) {j q:Nat},kAt t j=some none→b7 t (p8 t x j v) q=b7 t x q
 | .int z,x,j,q,h=>rfl
 | .bool,x,j,q,h=>rfl
 | .unit,x,j,q,h=>rfl
 | .pair a b,x,j,q,h=>by
  unfold kAt at h
  by_cases e:j<a.size
  ·rw [if_pos e] at h
   simp only [p8,e,if_true,b7]
   rw [Q0 x.1 h]
  ·rw [if_neg e] at h
   simp only [p8,e,if_false,b7]
   rw [Q0 x.2 h]
 | .sl _,x,j,q,h=>rfl
end Go.Proofs.Ytenchhmcjmjlbaa
