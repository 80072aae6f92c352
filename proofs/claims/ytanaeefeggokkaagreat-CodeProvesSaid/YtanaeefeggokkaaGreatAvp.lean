import Derived.Test.YtanaeefeggokkaaGreatAvo
namespace Go.Proofs.YtanaeefeggokkaaGreat
open Go.RowKit
set_option linter.constructorNameAsVariable false
set_option linter.unusedVariables false
set_option linter.unusedSimpArgs false
attribute [go_sem] Nat.add_zero
theorem b2P (l m k:List AVal):l++m++k=l++(m++k):=List.append_assoc l m k
attribute [go_sem] b2P List.nil_append List.cons_append List.length_set
def kAt:Ty→Nat→Option (Option IntKind)
 | .int k,j=>if j=0 then some (some k) else none
 | .bool,j=>if j=0 then some none else none
 | .unit,_=>none
 | .pair a b,j=>if j<a.size then kAt a j else kAt b (j - a.size)
 | .sl _,_=>none
theorem n8 {q:Option IntKind}:∀ {t:Ty} {j:Nat},kAt t j=some q→j<t.size
 | .int k,j,h=>by
  unfold kAt at h
  split at h
  ·simp only [Ty.size]; omega
  ·cases h
 | .bool,j,h=>by
  unfold kAt at h
  split at h
  ·simp only [Ty.size]; omega
  ·cases h
 | .unit,j,h=>by cases h
 | .pair a b,j,h=>by
  unfold kAt at h;simp only [Ty.size]
  split at h
  ·omega
  ·have:=n8 h;omega
 | .sl _,j,h=>by cases h
theorem a2u {k:IntKind}:∀ {t:Ty} (x:El t) {j:Nat},kAt t j=some (some k)→((b3 t x).drop j).take 1=[.int k (b7 t x j)]
 | .int q,x,j,h=>by
  unfold kAt at h
  split at h
  ·rename_i e;subst e;obtain rfl:q=k:=by simpa using h
   rfl
  ·cases h
 | .bool,x,j,h=>by
  unfold kAt at h
  split at h
  ·simp at h
  ·cases h
 | .unit,x,j,h=>by cases h
 | .pair a b,x,j,h=>by
  have hlt:=n8 h;unfold kAt at h;show ((cellsOf a x.1++cellsOf b x.2).drop j).take 1=[.int k (if j<a.size then _ else _)];have hl:=m4 a x.1
  by_cases e:j<a.size
  ·rw [if_pos e] at h;rw [if_pos e,P6 _ _ _ (by omega)];exact a2u x.1 h
  ·rw [if_neg e] at h;rw [if_neg e,a1G _ _ _ (by omega),hl];exact a2u x.2 h
 | .sl _,x,j,h=>by cases h
theorem a3c:∀ {t:Ty} (x:El t) {j:Nat},kAt t j=some none→((b3 t x).drop j).take 1=[.bool (m6 t x j)]
 | .int q,x,j,h=>by
  unfold kAt at h
  split at h
  ·simp at h
  ·cases h
 | .bool,x,j,h=>by
  unfold kAt at h
  split at h
  ·rename_i e;subst e;rfl
  ·cases h
 | .unit,x,j,h=>by cases h
 | .pair a b,x,j,h=>by
  unfold kAt at h;show ((cellsOf a x.1++cellsOf b x.2).drop j).take 1=[.bool (if j<a.size then _ else _)];have hl:=m4 a x.1
  by_cases e:j<a.size
  ·rw [if_pos e] at h;rw [if_pos e,P6 _ _ _ (by omega)];exact a3c x.1 h
  ·rw [if_neg e] at h;rw [if_neg e,a1G _ _ _ (by omega),hl];exact a3c x.2 h
 | .sl _,x,j,h=>by cases h
theorem V4 {k:IntKind}:∀ {t:Ty} (x:El t) {j:Nat} (v:Int),kAt t j=some (some k)→g5 (b3 t x) j [.int k v]=b3 t (f8 t x j v)
 | .int q,x,j,v,h=>by
  unfold kAt at h
  split at h
  ·rename_i e;subst e;obtain rfl:q=k:=by simpa using h
   rfl
  ·cases h
 | .bool,x,j,v,h=>by
  unfold kAt at h
  split at h
  ·simp at h
  ·cases h
 | .unit,x,j,v,h=>by cases h
 | .pair a b,x,j,v,h=>by
  have hlt:=n8 h;simp only [Ty.size] at hlt;unfold kAt at h;have hl:=m4 a x.1;show g5 (cellsOf a x.1++cellsOf b x.2) j _=cellsOf (.pair a b) (if j<a.size then _ else _)
  by_cases e:j<a.size
  ·rw [if_pos e] at h;rw [if_pos e,P7 _ _ _ _ (by simp; omega)];have:=V4 x.1 v h;unfold b3 at this;rw [this]; rfl
  ·rw [if_neg e] at h;rw [if_neg e,a2g _ _ _ _ (by omega),hl];have:=V4 x.2 (j:=j - a.size) v h;unfold b3 at this;rw [this]; rfl
 | .sl _,x,j,v,h=>by cases h
theorem a0m:∀ {t:Ty} (x:El t) {j:Nat} (v:Bool),kAt t j=some none→g5 (b3 t x) j [.bool v]=b3 t (p5 t x j v)
 | .int q,x,j,v,h=>by
  unfold kAt at h
  split at h
  ·simp at h
  ·cases h
 | .bool,x,j,v,h=>by
  unfold kAt at h
  split at h
  ·rename_i e;subst e;rfl
  ·cases h
 | .unit,x,j,v,h=>by cases h
 | .pair a b,x,j,v,h=>by
  have hlt:=n8 h;simp only [Ty.size] at hlt;unfold kAt at h;have hl:=m4 a x.1;show g5 (cellsOf a x.1++cellsOf b x.2) j _=cellsOf (.pair a b) (if j<a.size then _ else _)
  by_cases e:j<a.size
  ·rw [if_pos e] at h;rw [if_pos e,P7 _ _ _ _ (by simp; omega)];have:=a0m x.1 v h;unfold b3 at this;rw [this]; rfl
  ·rw [if_neg e] at h;rw [if_neg e,a2g _ _ _ _ (by omega),hl];have:=a0m x.2 (j:=j - a.size) v h;unfold b3 at this;rw [this]; rfl
 | .sl _,x,j,v,h=>by cases h
def Q8 (t u:Ty) (j:Nat):Bool:=(List.range u.size).all fun q=>kAt t (j+q)==kAt u q&&(kAt u q).isSome
theorem a0h {t u:Ty} {j:Nat}:Q8 t u j=true↔∀ q,q<u.size→kAt t (j+q)=kAt u q∧(kAt u q).isSome=true:=by
 unfold Q8;simp only [List.all_eq_true,List.mem_range,Bool.and_eq_true,beq_iff_eq]
theorem a2k {t a b:Ty} {j:Nat} (h:Q8 t (.pair a b) j=true):Q8 t a j=true∧Q8 t b (j+a.size)=true:=by
 rw [a0h] at h
 constructor
 ·rw [a0h];intro q hq;have:=h q (by simp only [Ty.size]; omega);have e:kAt (.pair a b) q=kAt a q:=if_pos hq;rw [e] at this;exact this
 ·rw [a0h];intro q hq;have:=h (a.size+q) (by simp only [Ty.size]; omega);have e:kAt (.pair a b) (a.size+q)=kAt b q:=by
   show (if a.size+q<a.size then kAt a (a.size+q) else kAt b (a.size+q - a.size))=kAt b q;rw [if_neg (by omega),Nat.add_sub_cancel_left]
  rw [e,← Nat.add_assoc] at this;exact this
theorem a3p {t:Ty} {k:IntKind} {j:Nat} (h:Q8 t (.int k) j=true):kAt t j=some (some k):=by
 have:=(a0h.1 h 0 (by simp [Ty.size])).1;rw [Nat.add_zero] at this;exact this
theorem a2l {t:Ty} {j:Nat} (h:Q8 t .bool j=true):kAt t j=some none:=by
 have:=(a0h.1 h 0 (by simp [Ty.size])).1;rw [Nat.add_zero] at this;exact this
theorem a4B {t u:Ty} {j:Nat} (h:Q8 t (.sl u) j=true):False:=by
 have:=(a0h.1 h 0 (by simp [Ty.size])).2
 cases this
theorem b0j {t:Ty} (x:El t):∀ (u:Ty) {j:Nat},Q8 t u j=true→((b3 t x).drop j).take u.size=b3 u (b7y t x u j)
 | .int k,j,h=>a2u x (a3p h)
 | .bool,j,h=>a3c x (a2l h)
 | .unit,j,h=>rfl
 | .pair a b,j,h=>by
  obtain ⟨ha,hb⟩:=a2k h;have h1:=b0j x a (j:=j) ha;have h2:=b0j x b (j:=j+a.size) hb;simp only [Ty.size];rw [List.take_add,h1,List.drop_drop,h2];rfl
 | .sl _,j,h=>(a4B h).elim
theorem a5e {t:Ty} (u:Ty) {j:Nat} (h0:0<u.size) (h:Q8 t u j=true):j+u.size≤t.size:=by
 obtain ⟨h1,h2⟩:=a0h.1 h (u.size - 1) (by omega);obtain ⟨q,hq⟩:=Option.isSome_iff_exists.1 h2;have:=n8 (h1.trans hq);omega
theorem a58 {t:Ty}:∀ (u:Ty) (x:El t) {j:Nat} (v:El u),Q8 t u j=true→g5 (b3 t x) j (b3 u v)=b3 t (F5 t u x j v)
 | .int k,x,j,v,h=>V4 x v (a3p h)
 | .bool,x,j,v,h=>a0m x v (a2l h)
 | .unit,x,j,v,h=>by
  show g5 (b3 t x) j []=b3 t x;unfold g5; simp
 | .pair a b,x,j,v,h=>by
  obtain ⟨ha,hb⟩:=a2k h;show g5 (b3 t x) j (b3 a v.1++b3 b v.2)=b3 t (F5 t b (F5 t a x j v.1) (j+a.size) v.2)
  by_cases h0:0<a.size+b.size
  ·have hf:=a5e (.pair a b) (by simp only [Ty.size]; exact h0) h;simp only [Ty.size] at hf;rw [a7X _ _ _ _ (by rw [f9,f9,f9]; omega),a58 a x v.1 ha,f9,a58 b _ v.2 hb]
  ·have e1:b3 a v.1=[]:=List.eq_nil_of_length_eq_zero (by rw [f9]; omega);have e2:b3 b v.2=[]:=List.eq_nil_of_length_eq_zero (by rw [f9]; omega);have h1:=a58 a x v.1 ha;have h2:=a58 b (F5 t a x j v.1) v.2 hb;rw [e1] at h1;rw [e2] at h2;have n1:∀ (l:List AVal) (j:Nat),g5 l j []=l:=fun l j=>by unfold g5; simp
   rw [n1] at h1 h2;rw [e1,e2,List.append_nil,n1,h1,h2]
 | .sl _,x,j,v,h=>(a4B h).elim
def a3O (t:Ty) (x:El t) (j:Nat):List AVal:=(cellsOf t x).drop j
def a0F (H:l3) (t:Ty) (x:El t) (j:Nat) (us:List AVal):Option (El t×List AVal):=C6 H t (g5 (cellsOf t x) j us)
/-! ### What is read behind a write -/
theorem l9 {k:IntKind} {v:Int}:∀ {t:Ty} (x:El t) {j q:Nat},kAt t j=some (some k)→q<t.size→b7 t (f8 t x j v) q=if q=j then v else b7 t x q
 | .int z,x,j,q,h,hq=>by
  have e:q=0:=by simp only [Ty.size] at hq; omega
  unfold kAt at h
  split at h
  ·rename_i e2;subst e e2; rfl
  ·cases h
 | .bool,x,j,q,h,hq=>by unfold kAt at h; split at h<;>simp at h
 | .unit,x,j,q,h,hq=>by cases h
 | .pair a b,x,j,q,h,hq=>by
  unfold kAt at h;simp only [Ty.size] at hq
  by_cases e:j<a.size
  ·rw [if_pos e] at h;simp only [f8,e,if_true,b7]
   by_cases e2:q<a.size
   ·rw [if_pos e2,if_pos e2]; exact l9 x.1 h e2
   ·rw [if_neg e2,if_neg e2,if_neg (by omega)]
  ·rw [if_neg e] at h;simp only [f8,e,if_false,b7]
   by_cases e2:q<a.size
   ·rw [if_pos e2,if_pos e2,if_neg (by omega)]
   ·rw [if_neg e2,if_neg e2,l9 x.2 h (by omega)]
    by_cases e3:q=j
    ·subst e3; rw [if_pos rfl,if_pos rfl]
    ·rw [if_neg (by omega),if_neg e3]
 | .sl _,x,j,q,h,hq=>by cases h
theorem a0a {v:Bool}:∀ {t:Ty} (x:El t) {j q:Nat},kAt t j=some none→q<t.size→m6 t (p5 t x j v) q=if q=j then v else m6 t x q
 | .int z,x,j,q,h,hq=>by unfold kAt at h; split at h<;>simp at h
 | .bool,x,j,q,h,hq=>by
  have e:q=0:=by simp only [Ty.size] at hq; omega
  unfold kAt at h
  split at h
  ·rename_i e2;subst e e2; rfl
  ·cases h
 | .unit,x,j,q,h,hq=>by cases h
 | .pair a b,x,j,q,h,hq=>by
  unfold kAt at h;simp only [Ty.size] at hq
  by_cases e:j<a.size
  ·rw [if_pos e] at h;simp only [p5,e,if_true,m6]
   by_cases e2:q<a.size
   ·rw [if_pos e2,if_pos e2]; exact a0a x.1 h e2
   ·rw [if_neg e2,if_neg e2,if_neg (by omega)]
  ·rw [if_neg e] at h;simp only [p5,e,if_false,m6]
   by_cases e2:q<a.size
   ·rw [if_pos e2,if_pos e2,if_neg (by omega)]
   ·rw [if_neg e2,if_neg e2,a0a x.2 h (by omega)]
    by_cases e3:q=j
    ·subst e3; rw [if_pos rfl,if_pos rfl]
    ·rw [if_neg (by omega),if_neg e3]
 | .sl _,x,j,q,h,hq=>by cases h
theorem M2 {k:IntKind} {v:Int}:∀ {t:Ty} (x:El t) {j q:Nat},kAt t j=some (some k)→m6 t (f8 t x j v) q=m6 t x q
 | .int z,x,j,q,h=>rfl
 | .bool,x,j,q,h=>rfl
 | .unit,x,j,q,h=>rfl
 | .pair a b,x,j,q,h=>by
  unfold kAt at h
  by_cases e:j<a.size
  ·rw [if_pos e] at h;simp only [f8,e,if_true,m6];rw [M2 x.1 h]
  ·rw [if_neg e] at h;simp only [f8,e,if_false,m6];rw [M2 x.2 h]
 | .sl _,x,j,q,h=>rfl
theorem U9 {v:Bool}:∀ {t:Ty} (x:El t) {j q:Nat},kAt t j=some none→b7 t (p5 t x j v) q=b7 t x q
 | .int z,x,j,q,h=>rfl
 | .bool,x,j,q,h=>rfl
 | .unit,x,j,q,h=>rfl
 | .pair a b,x,j,q,h=>by
  unfold kAt at h
  by_cases e:j<a.size
  ·rw [if_pos e] at h;simp only [p5,e,if_true,b7];rw [U9 x.1 h]
  ·rw [if_neg e] at h;simp only [p5,e,if_false,b7];rw [U9 x.2 h]
 | .sl _,x,j,q,h=>rfl
end Go.Proofs.YtanaeefeggokkaaGreat
