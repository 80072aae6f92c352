import Derived.Test.YtcckpmeepcoafaaDoorTyz
import Derived.Test.YtcckpmeepcoafaaDoorGn
namespace Go.Proofs.YtcckpmeepcoafaaDoor
open Go.RowKit
set_option linter.unusedVariables false
set_option linter.unusedSimpArgs false
set_option linter.constructorNameAsVariable false
theorem intAt_setInt {k:IntKind}:∀ {t:Ty} (x:El t) {j q:Nat} (v:Int),allInt k t=true→j<t.size→q<t.size→intAt t (setInt t x j v) q=if q=j then v else intAt t x q
  | .int _,x,j,q,v,hk,hj,hq=>by
    simp only [Ty.size] at hj hq
    have h1:j=0:=by omega
    have h2:q=0:=by omega
    subst h1; subst h2; rfl
  | .unit,x,j,q,v,hk,hj,hq=>by simp [Ty.size] at hj
  | .pair a b,x,j,q,v,hk,hj,hq=>by
    simp only [allInt,Bool.and_eq_true] at hk
    simp only [Ty.size] at hj hq
    by_cases h1:j<a.size<;>by_cases h2:q<a.size
    · have:=intAt_setInt x.1 (j:=j) (q:=q) v hk.1 h1 h2
      simp only [intAt,setInt,h1,h2,if_true]
      exact this
    · simp only [intAt,setInt,h1,h2,if_true,if_false]
      rw [if_neg (by omega)]
    · simp only [intAt,setInt,h1,h2,if_true,if_false]
      rw [if_neg (by omega)]
    · have:=intAt_setInt x.2 (j:=j - a.size) (q:=q - a.size) v hk.2 (by omega) (by omega)
      simp only [intAt,setInt,h1,h2,if_false]
      rw [this]
      by_cases e:q=j
      · subst e; simp
      · rw [if_neg (by omega),if_neg e]
theorem intAt_subX {k:IntKind} {t:Ty} (x:El t):∀ (u:Ty) {j q:Nat},allInt k u=true→q<u.size→intAt u (subX t x u j) q=intAt t x (j+q)
  | .int _,j,q,hu,hq=>by
    simp only [Ty.size] at hq
    have:q=0:=by omega
    subst this; rfl
  | .unit,j,q,hu,hq=>by simp [Ty.size] at hq
  | .pair a b,j,q,hu,hq=>by
    simp only [allInt,Bool.and_eq_true] at hu
    simp only [Ty.size] at hq
    by_cases h:q<a.size
    · have:=intAt_subX x a (j:=j) (q:=q) hu.1 h
      simp only [intAt,subX,h,if_true]; exact this
    · have:=intAt_subX x b (j:=j+a.size) (q:=q - a.size) hu.2 (by omega)
      simp only [intAt,subX,h,if_false]
      rw [this]
      congr 1; omega
theorem intAt_putX {k:IntKind} {t:Ty} (hk:allInt k t=true):∀ (u:Ty) (x:El t) {j q:Nat} (v:El u),allInt k u=true→j+u.size≤t.size→q<t.size→intAt t (putX t u x j v) q=if j≤q∧q<j+u.size then intAt u v (q - j) else intAt t x q
  | .int _,x,j,q,v,hu,hj,hq=>by
    have hs:∀ q:IntKind,(Ty.int q).size=1:=fun _=>rfl
    rw [hs] at hj ⊢
    show intAt t (setInt t x j v) q=_
    rw [intAt_setInt x v hk (by omega) hq]
    by_cases e:q=j
    · subst e; rw [if_pos rfl,if_pos (by omega)]; rfl
    · rw [if_neg e,if_neg (by omega)]
  | .unit,x,j,q,v,hu,hj,hq=>by
    have hs:Ty.unit.size=0:=rfl
    rw [hs,if_neg (by omega)]; rfl
  | .pair a b,x,j,q,v,hu,hj,hq=>by
    simp only [allInt,Bool.and_eq_true] at hu
    have hs:(Ty.pair a b).size=a.size+b.size:=rfl
    rw [hs] at hj ⊢
    show intAt t (putX t b (putX t a x j v.1) (j+a.size) v.2) q=_
    rw [intAt_putX hk b _ v.2 hu.2 (by omega) hq,intAt_putX hk a x v.1 hu.1 (by omega) hq]
    by_cases h1:j+a.size≤q∧q<j+a.size+b.size
    · rw [if_pos h1,if_pos (by omega)]
      simp only [intAt,show ¬ q - j<a.size by omega,if_false]
      congr 1; omega
    · rw [if_neg h1]
      by_cases h2:j≤q∧q<j+a.size
      · rw [if_pos h2,if_pos (by omega)]
        simp only [intAt,show q - j<a.size by omega,if_true]
      · rw [if_neg h2,if_neg (by omega)]
theorem dflt_at {k:IntKind}:∀ {t:Ty} {q:Nat},allInt k t=true→q<t.size→intAt t t.dflt q=0
  | .int _,q,hk,hq=>rfl
  | .unit,q,hk,hq=>by simp [Ty.size] at hq
  | .pair a b,q,hk,hq=>by
    simp only [allInt,Bool.and_eq_true] at hk
    simp only [Ty.size] at hq
    by_cases h:q<a.size
    · simp only [intAt,Ty.dflt,h,if_true]; exact dflt_at hk.1 h
    · simp only [intAt,Ty.dflt,h,if_false]; exact dflt_at hk.2 (by omega)
theorem nd_set (N:El T63) {j q:Nat} (v:Int) (hj:j<8) (hq:q<8):intAt T63 (setInt T63 N j v) q=if q=j then v else intAt T63 N q:=intAt_setInt (k:=.i64) N v rfl (by rw [T63_size]; exact hj) (by rw [T63_size]; exact hq)
theorem sl_set (N:El T65) {j q:Nat} (v:Int) (hj:j<8) (hq:q<8):intAt T65 (setInt T65 N j v) q=if q=j then v else intAt T65 N q:=intAt_setInt (k:=.i64) N v rfl (by rw [T65_size]; exact hj) (by rw [T65_size]; exact hq)
theorem kn_set (N:El T66) {j q:Nat} (v:Int) (hj:j<8) (hq:q<8):intAt T66 (setInt T66 N j v) q=if q=j then v else intAt T66 N q:=intAt_setInt (k:=.i64) N v rfl (by rw [T66_size]; exact hj) (by rw [T66_size]; exact hq)
theorem ls_set (N:El T69) {j q:Nat} (v:Int) (hj:j<36) (hq:q<36):intAt T69 (setInt T69 N j v) q=if q=j then v else intAt T69 N q:=intAt_setInt (k:=.i64) N v rfl (by rw [T69_size]; exact hj) (by rw [T69_size]; exact hq)
theorem ls_put (N:El T69) {j q:Nat} (c:Int) (v:El T66) (hj:j+9≤36) (hq:q<36):intAt T69 (putX T69 (.pair (.int .i64) T66) N j (c,v)) q=if q=j then c else if j<q∧q<j+9 then intAt T66 v (q - j - 1) else intAt T69 N q:=by
  have h9:(Ty.pair (.int .i64) T66).size=9:=rfl
  refine (intAt_putX (k:=.i64) (t:=T69) rfl (.pair (.int .i64) T66) N (c,v) rfl (by rw [T69_size,h9]; exact hj) (by rw [T69_size]; exact hq)).trans ?_
  rw [h9]
  by_cases e:q=j
  · subst e
    rw [if_pos (by omega),if_pos rfl,Nat.sub_self]; rfl
  · rw [if_neg e]
    by_cases h:j<q∧q<j+9
    · rw [if_pos (by omega),if_pos h]
      have:¬ q - j<(Ty.int .i64).size:=by simp only [Ty.size]; omega
      simp only [intAt,this,if_false]
      rfl
    · rw [if_neg (by omega),if_neg h]
theorem ls_sub (L:El T69) {j q:Nat} (hq:q<8):intAt T66 (subX T69 L T66 j) q=intAt T69 L (j+q):=intAt_subX (k:=.i64) L T66 rfl (by rw [T66_size]; exact hq)
/-! ### Yards -/
structure Mo where
  N:Nat→Int
  S:Nat→Int
  L:Nat→List Int
def upd {α:Type} (f:Nat→α) (i:Nat) (v:α) (j:Nat):α:=if j=i then v else f j
theorem upd_same {α:Type} (f:Nat→α) (i:Nat) (v:α):upd f i v i=v:=if_pos rfl
theorem upd_other {α:Type} {f:Nat→α} {i j:Nat} {v:α} (h:j≠i):upd f i v j=f j:=if_neg h
structure Rp (N:El T63) (S:El T65) (L:El T69) (A:Mo):Prop where
  nd:∀ j,j<8→intAt T63 N j=A.N j
  sl:∀ j,j<8→intAt T65 S j=A.S j
  cn:∀ t,t<4→intAt T69 L (t*9)=((A.L t).length:Int)
  le:∀ t,t<4→(A.L t).length≤8
  el:∀ t,t<4→∀ (k:Nat) (x:Int),(A.L t)[k]?=some x→intAt T69 L (t*9+1+k)=x
  ok:∀ j,j<36→0≤intAt T69 L j∧intAt T69 L j≤8
structure Iv (n m:Nat) (A:Mo):Prop where
  n1:1≤n
  n4:n≤4
  m1:1≤m
  m4:m≤4
  nd:∀ j,j<8→A.N j=0∨A.N j=1∨A.N j=2
  sl:∀ j,j<8→A.S j=-1∨∃ i:Nat,i<8∧A.S j=i∧A.N i≠0
  so:∀ j,2*n≤j→j<8→A.S j=-1
  ls:∀ t,t<n→∀ x∈A.L t,∃ i:Nat,i<8∧x=i∧A.N i=2
  lo:∀ t,n≤t→A.L t=[]
  dd:∀ t,t<n→(A.L t).Nodup
  dj:∀ t u,t<n→u<n→t≠u→∀ x∈A.L t,x ∉ A.L u
  bb:∀ j,j<8→A.N j=2→∃ t,t<n∧(j:Int)∈A.L t
def hld (A:Mo) (x:Int):Bool:=(List.range 8).any fun j=>decide (A.S j=x)
theorem hld_iff {A:Mo} {x:Int}:hld A x=true↔∃ j,j<8∧A.S j=x:=by
  unfold hld; simp [List.any_eq_true]
def fst0 (A:Mo):Option Nat:=(List.range 8).find? fun j=>decide (A.N j=0)
def takeA (n:Nat) (A:Mo) (t:Int):Int×Int×Mo :=
  if 0≤t∧t<n then (match fst0 A with|some k=>((k:Int),0,{ A with N:=upd A.N k 1 })|none=>(0,5,A)) else (0,2,A)
def pointA (n:Nat) (A:Mo) (t s k:Int):Int×Mo :=
  if (0≤t∧t<n)∧(0≤s∧s<2)∧0≤k∧k<8 then (if A.N k.toNat=1 then (0,{ A with S:=upd A.S (t.toNat*2+s.toNat) k }) else (5,A)) else (2,A)
def clearA (n:Nat) (A:Mo) (t s:Int):Int×Mo :=
  if (0≤t∧t<n)∧0≤s∧s<2 then (0,{ A with S:=upd A.S (t.toNat*2+s.toNat) (-1) }) else (2,A)
def useA (n:Nat) (A:Mo) (t s:Int):Int×Int :=
  if (0≤t∧t<n)∧0≤s∧s<2 then (if A.S (t.toNat*2+s.toNat)=-1 then (0,5) else (A.S (t.toNat*2+s.toNat),0)) else (0,2)
def slotA (n:Nat) (A:Mo) (t s:Int):Int×Int :=
  if (0≤t∧t<n)∧0≤s∧s<2 then (A.S (t.toNat*2+s.toNat),0) else (0,2)
def stateA (A:Mo) (k:Int):Int×Int:=if 0≤k∧k<8 then (A.N k.toNat,0) else (0,2)
def listA (n:Nat) (A:Mo) (t:Int):List Int×Int:=if 0≤t∧t<n then (A.L t.toNat,0) else ([],2)
def swM (A:Mo) (t:Nat):Mo:={ A with N:=fun j=>if (j:Int)∈A.L t∧hld A j=false then 0 else A.N j,L:=upd A.L t ((A.L t).filter (hld A)) }
def swN (A:Mo) (t:Nat):Int:=((A.L t).length:Int) - (((A.L t).filter (hld A)).length:Int)
def sweepA (n:Nat) (A:Mo) (t:Int):Int×Int×Mo:=if 0≤t∧t<n then (swN A t.toNat,0,swM A t.toNat) else (0,2,A)
def putM (A:Mo) (t:Nat) (k:Int):Mo:={ A with N:=upd A.N k.toNat 2,L:=upd A.L t (A.L t++[k]) }
def putA (n m:Nat) (A:Mo) (t k:Int):Int×Int×Mo :=
  if (0≤t∧t<n)∧0≤k∧k<8 then
    (if A.N k.toNat=1 then (if ((A.L t.toNat).length:Int)+1<m then (0,0,putM A t.toNat k) else (swN (putM A t.toNat k) t.toNat,0,swM (putM A t.toNat k) t.toNat)) else (0,5,A))
  else (0,2,A)
def okd (d:Int×Int×Int×Int):Bool:=decide (1≤d.1∧d.1≤6)&&(!decide (d.1=1∨d.1=5) || decide (d.2.2.1=0))&&(decide (d.1=2) || decide (d.2.2.2=0))
def doA (n m:Nat) (A:Mo) (d:Int×Int×Int×Int):Int×Int×Mo :=
  if okd d=true then
    (if d.1=1 then takeA n A d.2.1 else if d.1=2 then (0,pointA n A d.2.1 d.2.2.1 d.2.2.2) else if d.1=3 then (0,clearA n A d.2.1 d.2.2.1) else if d.1=4 then putA n m A d.2.1 d.2.2.1 else if d.1=5 then sweepA n A d.2.1
      else ((useA n A d.2.1 d.2.2.1).1,(useA n A d.2.1 d.2.2.1).2,A))
  else (0,2,A)
/-! ### What is always so stays so -/
section
variable {n m:Nat} {A:Mo}
theorem fst0_some {k:Nat} (h:fst0 A=some k):k<8∧A.N k=0:=by
  unfold fst0 at h
  have h1:=List.mem_of_find?_eq_some h
  have h2:=List.find?_some h
  exact ⟨List.mem_range.1 h1,by simpa using h2⟩
theorem Iv.few (h:Iv n m A) {t:Nat}:(A.L t).length≤8:=by
  by_cases ht:t<n
  · have h2:=nodup_le (h.dd t ht) (ys:=(List.range 8).map fun i:Nat=>(i:Int)) (fun x hx=>by
      obtain ⟨i,hi,rfl,_⟩:=h.ls t ht x hx
      exact List.mem_map.2 ⟨i,List.mem_range.2 hi,rfl⟩)
    simpa using h2
  · rw [h.lo t (by omega)]; simp
theorem Iv.take (h:Iv n m A) (t:Int):Iv n m (takeA n A t).2.2:=by
  unfold takeA
  split
  · split
    · rename_i k hk
      obtain ⟨h1,h2⟩:=fst0_some hk
      refine ⟨h.n1,h.n4,h.m1,h.m4,fun j hj=>?_,fun j hj=>?_,h.so,fun u hu x hx=>?_,h.lo,h.dd,h.dj,fun j hj he=>?_⟩
      · show upd A.N k 1 j=0∨_
        by_cases e:j=k
        · subst e; simp [upd_same]
        · simp only [upd_other e]; exact h.nd j hj
      · rcases h.sl j hj with h3|⟨i,hi,h3,h4⟩
        · exact .inl h3
        · refine .inr ⟨i,hi,h3,?_⟩
          show upd A.N k 1 i≠0
          by_cases e:i=k
          · subst e; rw [upd_same]; simp
          · rw [upd_other e]; exact h4
      · obtain ⟨i,hi,h3,h4⟩:=h.ls u hu x hx
        refine ⟨i,hi,h3,?_⟩
        show upd A.N k 1 i=2
        rw [upd_other (by rintro rfl; omega)]; exact h4
      · have he':upd A.N k 1 j=2:=he
        by_cases e:j=k
        · subst e; rw [upd_same] at he'; omega
        · rw [upd_other e] at he'; exact h.bb j hj he'
    · exact h
  · exact h
theorem Iv.setS (h:Iv n m A) {j0:Nat} (hj0:j0<2*n) {v:Int} (hv:v=-1∨∃ i:Nat,i<8∧v=i∧A.N i≠0):Iv n m { A with S:=upd A.S j0 v }:=by
  refine ⟨h.n1,h.n4,h.m1,h.m4,h.nd,fun j hj=>?_,fun j h1 h2=>?_,h.ls,h.lo,h.dd,h.dj,h.bb⟩
  · show upd A.S j0 v j=-1∨∃ i:Nat,i<8∧upd A.S j0 v j=i∧_
    by_cases e:j=j0
    · subst e; rw [upd_same]; exact hv
    · rw [upd_other e]; exact h.sl j hj
  · show upd A.S j0 v j=-1
    rw [upd_other (by omega)]; exact h.so j h1 h2
theorem Iv.point (h:Iv n m A) (t s k:Int):Iv n m (pointA n A t s k).2:=by
  unfold pointA
  split
  · split
    · exact h.setS (by omega) (.inr ⟨k.toNat,by omega,by omega,by omega⟩)
    · exact h
  · exact h
theorem Iv.clear (h:Iv n m A) (t s:Int):Iv n m (clearA n A t s).2:=by
  unfold clearA
  split
  · exact h.setS (by omega) (.inl rfl)
  · exact h
theorem Iv.sw (h:Iv n m A) {t:Nat} (ht:t<n):Iv n m (swM A t):=by
  have hn:∀ j,(swM A t).N j=if (j:Int)∈A.L t∧hld A j=false then 0 else A.N j:=fun _=>rfl
  have hL:∀ u,(swM A t).L u=upd A.L t ((A.L t).filter (hld A)) u:=fun _=>rfl
  have sub:∀ u x,x∈(swM A t).L u→x∈A.L u∧(u=t→hld A x=true):=fun u x hx=>by
    rw [hL] at hx
    by_cases e:u=t
    · subst e; rw [upd_same] at hx
      exact ⟨(List.mem_filter.1 hx).1,fun _=>(List.mem_filter.1 hx).2⟩
    · rw [upd_other e] at hx; exact ⟨hx,fun h=>absurd h e⟩
  refine ⟨h.n1,h.n4,h.m1,h.m4,fun j hj=>?_,fun j hj=>?_,h.so,fun u hu x hx=>?_,fun u hu=>?_,fun u hu=>?_,fun u v hu hv huv x hx hx2=>?_,fun j hj he=>?_⟩
  · rw [hn]
    split
    · exact .inl rfl
    · exact h.nd j hj
  · rcases h.sl j hj with h3|⟨i,hi,h3,h4⟩
    · exact .inl h3
    · refine .inr ⟨i,hi,h3,?_⟩
      rw [hn,if_neg]
      · exact h4
      · rintro ⟨_,h5⟩
        have:hld A i=true:=hld_iff.2 ⟨j,hj,h3⟩
        rw [this] at h5; cases h5
  · obtain ⟨h1,h2⟩:=sub u x hx
    obtain ⟨i,hi,h3,h4⟩:=h.ls u hu x h1
    refine ⟨i,hi,h3,?_⟩
    rw [hn,if_neg]
    · exact h4
    · rintro ⟨h5,h6⟩
      rw [← h3] at h5 h6
      by_cases e:u=t
      · rw [h2 e] at h6; cases h6
      · exact h.dj u t hu ht e x h1 h5
  · rw [hL,upd_other (by omega)]; exact h.lo u hu
  · rw [hL]
    by_cases e:u=t
    · subst e; rw [upd_same]; exact (h.dd u hu).filter _
    · rw [upd_other e]; exact h.dd u hu
  · exact h.dj u v hu hv huv x (sub u x hx).1 (sub v x hx2).1
  · rw [hn] at he
    split at he
    · omega
    · rename_i hc
      obtain ⟨u,hu,hm⟩:=h.bb j hj he
      refine ⟨u,hu,?_⟩
      rw [hL]
      by_cases e:u=t
      · subst e; rw [upd_same]
        refine List.mem_filter.2 ⟨hm,?_⟩
        cases hh:hld A (j:Int) with
        | true=>rfl
        | false=>exact absurd ⟨hm,hh⟩ hc
      · rw [upd_other e]; exact hm
theorem Iv.sweep (h:Iv n m A) (t:Int):Iv n m (sweepA n A t).2.2:=by
  unfold sweepA
  split
  · exact h.sw (by omega)
  · exact h
theorem Iv.putm (h:Iv n m A) {t:Nat} (ht:t<n) {i:Nat} (hi:i<8) (h1:A.N i=1):Iv n m (putM A t i):=by
  have hn:∀ j,(putM A t i).N j=upd A.N i 2 j:=fun _=>rfl
  have hL:∀ u,(putM A t i).L u=upd A.L t (A.L t++[(i:Int)]) u:=fun _=>rfl
  have hno:∀ u,u<n→(i:Int) ∉ A.L u:=fun u hu hm=>by
    obtain ⟨q,_,h3,h4⟩:=h.ls u hu _ hm
    have:q=i:=by omega
    subst this; omega
  have sub:∀ u,u<n→∀ x,x∈(putM A t i).L u→x∈A.L u∨(u=t∧x=i):=fun u hu x hx=>by
    rw [hL] at hx
    by_cases e:u=t
    · subst e; rw [upd_same] at hx
      rcases List.mem_append.1 hx with h5|h5
      · exact .inl h5
      · exact .inr ⟨rfl,by simpa using h5⟩
    · rw [upd_other e] at hx; exact .inl hx
  refine ⟨h.n1,h.n4,h.m1,h.m4,fun j hj=>?_,fun j hj=>?_,h.so,fun u hu x hx=>?_,fun u hu=>?_,fun u hu=>?_,fun u v hu hv huv x hx hx2=>?_,fun j hj he=>?_⟩
  · rw [hn]
    by_cases e:j=i
    · subst e; simp [upd_same]
    · rw [upd_other e]; exact h.nd j hj
  · rcases h.sl j hj with h3|⟨q,hq,h3,h4⟩
    · exact .inl h3
    · refine .inr ⟨q,hq,h3,?_⟩
      rw [hn]
      by_cases e:q=i
      · subst e; rw [upd_same]; simp
      · rw [upd_other e]; exact h4
  · rcases sub u hu x hx with h3|⟨_,rfl⟩
    · obtain ⟨q,hq,h4,h5⟩:=h.ls u hu x h3
      refine ⟨q,hq,h4,?_⟩
      rw [hn,upd_other (by rintro rfl; omega)]; exact h5
    · exact ⟨i,hi,rfl,by rw [hn,upd_same]⟩
  · rw [hL,upd_other (by omega)]; exact h.lo u hu
  · rw [hL]
    by_cases e:u=t
    · subst e; rw [upd_same]
      refine List.nodup_append.2 ⟨h.dd u hu,by simp,fun a ha b hb=>?_⟩
      have:b=i:=by simpa using hb
      subst this
      rintro rfl
      exact hno u hu ha
    · rw [upd_other e]; exact h.dd u hu
  · rcases sub u hu x hx with h3|⟨e1,rfl⟩
    · rcases sub v hv x hx2 with h4|⟨_,rfl⟩
      · exact h.dj u v hu hv huv x h3 h4
      · exact hno u hu h3
    · rcases sub v hv _ hx2 with h4|⟨e2,_⟩
      · exact hno v hv h4
      · omega
  · rw [hn] at he
    by_cases e:j=i
    · subst e
      exact ⟨t,ht,by rw [hL,upd_same]; simp⟩
    · rw [upd_other e] at he
      obtain ⟨u,hu,hm⟩:=h.bb j hj he
      refine ⟨u,hu,?_⟩
      rw [hL]
      by_cases e2:u=t
      · subst e2; rw [upd_same]; exact List.mem_append_left _ hm
      · rw [upd_other e2]; exact hm
theorem Iv.put (h:Iv n m A) (t k:Int):Iv n m (putA n m A t k).2.2:=by
  unfold putA
  split
  · split
    · have hk:k=((k.toNat:Nat):Int):=by omega
      have hp:Iv n m (putM A t.toNat k):=by rw [hk]; exact h.putm (by omega) (by omega) (by simpa using by assumption)
      split
      · exact hp
      · exact hp.sw (by omega)
    · exact h
  · exact h
theorem Iv.do (h:Iv n m A) (d:Int×Int×Int×Int):Iv n m (doA n m A d).2.2:=by
  unfold doA
  split
  · split
    · exact h.take _
    · split
      · exact h.point _ _ _
      · split
        · exact h.clear _ _
        · split
          · exact h.put _ _
          · split
            · exact h.sweep _
            · exact h
  · exact h
def newM:Mo:=⟨fun _=>0,fun _=>-1,fun _=>[]⟩
theorem Iv.new (h1:1≤n) (h2:n≤4) (h3:1≤m) (h4:m≤4):Iv n m newM :=
  ⟨h1,h2,h3,h4,fun _ _=>.inl rfl,fun _ _=>.inl rfl,fun _ _ _=>rfl,fun _ _ x hx=>(by cases hx),fun _ _=>rfl,fun _ _=>List.nodup_nil,fun _ _ _ _ _ x hx=>(by cases hx),fun j _ he=>(by cases he)⟩
end
end Go.Proofs.YtcckpmeepcoafaaDoor
