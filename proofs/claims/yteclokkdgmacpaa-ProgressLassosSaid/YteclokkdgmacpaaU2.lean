/-
 Layer 7,pure: the search for places,the nearest first. What it finds: all places to which moves of a kind lead,each with a shortest path.
-/
import Derived.Test.YteclokkdgmacpaaU1
namespace Go.Proofs.Yteclokkdgmacpaa
open Go.RowKit
set_option linter.unusedVariables false
set_option linter.unusedSimpArgs false
set_option linter.unusedSectionVars false
set_option maxRecDepth 10000
theorem leadL_cons (g:Gr) (p i:Int) (r:List Int):leadL g p (i :: r)=if isB i (g.2.length:Int)=true∧(g.2.getD i.toNat (0,0,0,false)).1=p then leadL g (g.2.getD i.toNat (0,0,0,false)).2.2.1 r else none:=rfl
theorem leadL_append (g:Gr):∀ (l r:List Int) (p:Int),leadL g p (l ++ r)=(leadL g p l).bind fun q=>leadL g q r
 | [],r,p=>rfl
 | i :: l,r,p=>by
  rw [List.cons_append,leadL_cons,leadL_cons]
  split
  ·exact leadL_append g l r _
  ·rfl
abbrev PW:=List Int×List (List Int)
def bStep (are:Mv→Bool) (g:Gr) (p:Int) (w:List Int) (s:PW) (k:Nat):PW :=
 if (g.2.getD k (0,0,0,false)).1=p∧are (g.2.getD k (0,0,0,false))=true∧(g.2.getD k (0,0,0,false)).2.2.1 ∉ s.1 then (s.1 ++ [(g.2.getD k (0,0,0,false)).2.2.1],s.2 ++ [w ++ [(k:Int)]]) else s
def bRow (are:Mv→Bool) (g:Gr) (s:PW) (i:Nat):PW:=(List.range g.2.length).foldl (bStep are g (s.1.getD i 0) (s.2.getD i [])) s
def bfs (are:Mv→Bool) (g:Gr):Nat→Nat→PW→PW
 | 0,_,s=>s
 | n + 1,i,s=>if i < s.1.length then bfs are g n (i + 1) (bRow are g s i) else s
structure BI (are:Mv→Bool) (g:Gr) (from0:Int) (i:Nat) (s:PW):Prop where
 len:s.2.length=s.1.length
 hd:s.1[0]?=some from0∧s.2[0]?=some []
 nd:s.1.Nodup
 inN:∀ p∈s.1,0≤p∧p < g.1
 way:∀ (j:Nat) (p:Int) (w:List Int),s.1[j]?=some p→s.2[j]?=some w→leadL g from0 w=some p∧(∀ k∈w,are (g.2.getD k.toNat (0,0,0,false))=true)∧w.length≤j
 ind:∀ S:Int→Prop,S from0→(∀ m∈g.2,S m.1→are m=true→S m.2.2.1)→∀ p∈s.1,S p
 mono:∀ (a b:Nat) (u v:List Int),a≤b→s.2[a]?=some u→s.2[b]?=some v→u.length≤v.length
 top:∀ u,s.2[i]?=some u→∀ v∈s.2,v.length≤u.length + 1
 cl:∀ (a:Nat) (p:Int) (u:List Int),a < i→s.1[a]?=some p→s.2[a]?=some u→∀ m∈g.2,m.1=p→are m=true→∃ (b:Nat) (v:List Int),s.1[b]?=some m.2.2.1∧s.2[b]?=some v∧v.length≤u.length + 1
theorem BI.start {are:Mv→Bool} {g:Gr} {from0:Int} (hf:0≤from0∧from0 < g.1):BI are g from0 0 ([from0],[[]]) where
 len:=rfl
 hd:=⟨rfl,rfl⟩
 nd:=by simp
 inN:=by intro p hp; simp at hp; subst hp; exact hf
 way:=by
  intro j p w h1 h2
  cases j with
  | zero=>simp at h1 h2; subst h1; subst h2; exact ⟨rfl,by simp,by simp⟩
  | succ j=>simp at h1
 ind:=by intro S h0 _ p hp; simp at hp; subst hp; exact h0
 mono:=by
  intro a b u v hab h1 h2
  cases b with
  | zero =>
   have:a=0:=by omega
   subst this
   rw [h1] at h2; injection h2 with h2; subst h2; exact Nat.le_refl _
  | succ b=>simp at h2
 top:=by intro u h1 v hv; simp at hv; subst hv; simp
 cl:=by intro a p u ha; omega
theorem app_at {α:Type} {xs:List α} {x y:α} {j:Nat} (h:(xs ++ [x])[j]?=some y):xs[j]?=some y ∨ (j=xs.length∧y=x):=by
 by_cases hj:j < xs.length
 ·rw [List.getElem?_append_left hj] at h; exact .inl h
 ·rw [List.getElem?_append_right (by omega)] at h
  have:j - xs.length=0:=by
   by_cases e:j - xs.length=0
   ·exact e
   ·rw [List.getElem?_eq_none (by simp; omega)] at h; cases h
  rw [this] at h
  simp at h
  exact .inr ⟨by omega,h.symm⟩
theorem app_old {α:Type} {xs:List α} {x y:α} {j:Nat} (h:xs[j]?=some y):(xs ++ [x])[j]?=some y:=by
 have:=(List.getElem?_eq_some_iff.1 h).1
 rw [List.getElem?_append_left this]; exact h
theorem app_new {α:Type} (xs:List α) (x:α):(xs ++ [x])[xs.length]?=some x:=by simp
section
variable {are:Mv→Bool} {g:Gr} {from0:Int} (hg:GOK g)
include hg
structure BJ (are:Mv→Bool) (g:Gr) (from0:Int) (i:Nat) (p:Int) (w:List Int) (k:Nat) (s:PW):Prop extends BI are g from0 i s where
 at1:s.1[i]?=some p
 at2:s.2[i]?=some w
 row:∀ j,j < k→(g.2.getD j (0,0,0,false)).1=p→are (g.2.getD j (0,0,0,false))=true→∃ (b:Nat) (v:List Int),s.1[b]?=some (g.2.getD j (0,0,0,false)).2.2.1∧s.2[b]?=some v∧v.length≤w.length + 1
theorem BJ.step {i:Nat} {p:Int} {w:List Int} {k:Nat} {s:PW} (h:BJ are g from0 i p w k s) (hk:k < g.2.length):BJ are g from0 i p w (k + 1) (bStep are g p w s k):=by
 have hm:g.2.getD k (0,0,0,false)∈g.2:=getD_in hk
 unfold bStep
 by_cases hc:(g.2.getD k (0,0,0,false)).1=p∧are (g.2.getD k (0,0,0,false))=true∧(g.2.getD k (0,0,0,false)).2.2.1 ∉ s.1
 ·rw [if_pos hc]
  obtain ⟨c1,c2,c3⟩:=hc
  have hil:i < s.1.length:=(List.getElem?_eq_some_iff.1 h.at1).1
  have hw:=h.way i p w h.at1 h.at2
  have hnew:leadL g from0 (w ++ [(k:Int)])=some (g.2.getD k (0,0,0,false)).2.2.1:=by
   rw [leadL_append,hw.1,Option.bind_some,leadL_cons,if_pos ⟨isB_iff.2 ⟨by omega,by omega⟩,by rw [Int.toNat_natCast]; exact c1⟩,Int.toNat_natCast]
   rfl
  refine ⟨⟨?_,⟨app_old h.hd.1,app_old h.hd.2⟩,?_,?_,?_,?_,?_,?_,?_⟩,app_old h.at1,app_old h.at2,?_⟩
  ·simp [h.len]
  ·exact List.nodup_append.2 ⟨h.nd,by simp,fun a ha b hb=>by rw [List.mem_singleton] at hb; subst hb; rintro rfl; exact c3 ha⟩
  ·intro q hq
   rcases List.mem_append.1 hq with h1 | h1
   ·exact h.inN q h1
   ·rw [List.mem_singleton] at h1; subst h1; exact (hg.mv _ hm).2.1
  ·intro j q u h1 h2
   rcases app_at h1 with h1 | ⟨h1,rfl⟩
   ·rcases app_at h2 with h2 | ⟨h2,_⟩
    ·exact h.way j q u h1 h2
    ·have:=(List.getElem?_eq_some_iff.1 h1).1
     have:=h.len; omega
   ·rcases app_at h2 with h2 | ⟨h2,rfl⟩
    ·have:=(List.getElem?_eq_some_iff.1 h2).1
     have:=h.len; omega
    ·refine ⟨hnew,fun x hx=>?_,?_⟩
     ·rcases List.mem_append.1 hx with hx | hx
      ·exact hw.2.1 x hx
      ·rw [List.mem_singleton] at hx; subst hx; rw [Int.toNat_natCast]; exact c2
     ·have:=hw.2.2
      rw [List.length_append,List.length_singleton]; omega
  ·intro S s0 sc q hq
   rcases List.mem_append.1 hq with h1 | h1
   ·exact h.ind S s0 sc q h1
   ·rw [List.mem_singleton] at h1; subst h1
    exact sc _ hm (by rw [c1]; exact h.ind S s0 sc p (List.mem_of_getElem? h.at1)) c2
  ·intro a b u v hab h1 h2
   rcases app_at h2 with h2 | ⟨h2,rfl⟩
   ·rcases app_at h1 with h1 | ⟨h1,_⟩
    ·exact h.mono a b u v hab h1 h2
    ·have:=(List.getElem?_eq_some_iff.1 h2).1
     omega
   ·rcases app_at h1 with h1 | ⟨h1,rfl⟩
    ·have:=h.top w h.at2 u (List.mem_of_getElem? h1)
     rw [List.length_append,List.length_singleton]; exact this
    ·exact Nat.le_refl _
  ·intro u h1 v hv
   have e:u=w:=by
    have:=app_old (x:=w ++ [(k:Int)]) h.at2
    have h1':(s.2 ++ [w ++ [(k:Int)]])[i]?=some u:=h1
    rw [this] at h1'; injection h1' with h1'; exact h1'.symm
   subst e
   rcases List.mem_append.1 hv with hv | hv
   ·exact h.top u h.at2 v hv
   ·rw [List.mem_singleton] at hv; subst hv; simp
  ·intro a q u ha h1 h2 m hm' e1 e2
   have h1':s.1[a]?=some q:=by
    rcases app_at h1 with h1 | ⟨h1,_⟩
    ·exact h1
    ·omega
   have h2':s.2[a]?=some u:=by
    rcases app_at h2 with h2 | ⟨h2,_⟩
    ·exact h2
    ·have:=h.len; omega
   obtain ⟨b,v,b1,b2,b3⟩:=h.cl a q u ha h1' h2' m hm' e1 e2
   exact ⟨b,v,app_old b1,app_old b2,b3⟩
  ·intro j hj e1 e2
   by_cases ej:j=k
   ·subst ej
    refine ⟨s.1.length,w ++ [(j:Int)],app_new _ _,?_,by simp⟩
    rw [← h.len]; exact app_new _ _
   ·obtain ⟨b,v,b1,b2,b3⟩:=h.row j (by omega) e1 e2
    exact ⟨b,v,app_old b1,app_old b2,b3⟩
 ·rw [if_neg hc]
  refine ⟨h.toBI,h.at1,h.at2,fun j hj e1 e2=>?_⟩
  by_cases ej:j=k
  ·subst ej
   have hin:(g.2.getD j (0,0,0,false)).2.2.1∈s.1:=by
    by_cases hh:(g.2.getD j (0,0,0,false)).2.2.1∈s.1
    ·exact hh
    ·exact absurd ⟨e1,e2,hh⟩ hc
   obtain ⟨b,hb,hbe⟩:=List.mem_iff_getElem.1 hin
   refine ⟨b,s.2[b]'(by rw [h.len]; exact hb),by rw [← hbe]; exact List.getElem?_eq_getElem hb,List.getElem?_eq_getElem _,h.top w h.at2 _ (List.getElem_mem _)⟩
  ·exact h.row j (by omega) e1 e2
theorem BJ.all {i:Nat} {p:Int} {w:List Int} {s:PW} (h:BJ are g from0 i p w 0 s):BJ are g from0 i p w g.2.length ((List.range g.2.length).foldl (bStep are g p w) s):=by
 have:∀ k,k≤g.2.length→BJ are g from0 i p w k ((List.range k).foldl (bStep are g p w) s):=by
  intro k
  induction k with
  | zero=>intro _; exact h
  | succ k ih =>
   intro hk
   rw [List.range_succ,List.foldl_append]
   exact (ih (by omega)).step hg (by omega)
 exact this _ (Nat.le_refl _)
theorem BI.row {i:Nat} {s:PW} (h:BI are g from0 i s) (hi:i < s.1.length):BI are g from0 (i + 1) (bRow are g s i)∧(∀ (j:Nat) (q:Int),s.1[j]?=some q→(bRow are g s i).1[j]?=some q)∧∀ (j:Nat) (u:List Int),s.2[j]?=some u→(bRow are g s i).2[j]?=some u:=by
 have hi2:i < s.2.length:=by rw [h.len]; exact hi
 have a1:s.1[i]?=some (s.1.getD i 0):=by rw [getD_of (List.getElem?_eq_getElem hi)]; exact List.getElem?_eq_getElem hi
 have a2:s.2[i]?=some (s.2.getD i []):=by rw [getD_of (List.getElem?_eq_getElem hi2)]; exact List.getElem?_eq_getElem hi2
 have hJ:BJ are g from0 i (s.1.getD i 0) (s.2.getD i []) 0 s:=⟨h,a1,a2,fun j hj=>absurd hj (Nat.not_lt_zero j)⟩
 have hA:BJ are g from0 i (s.1.getD i 0) (s.2.getD i []) g.2.length (bRow are g s i):=hJ.all hg
 have keep:∀ (L:List Nat) (s:PW) (p:Int) (w:List Int),(∀ (j:Nat) (q:Int),s.1[j]?=some q→(L.foldl (bStep are g p w) s).1[j]?=some q)∧∀ (j:Nat) (u:List Int),s.2[j]?=some u→(L.foldl (bStep are g p w) s).2[j]?=some u:=by
  intro L
  induction L with
  | nil=>intro s p w; exact ⟨fun _ _ h=>h,fun _ _ h=>h⟩
  | cons k L ih =>
   intro s p w
   rw [List.foldl_cons]
   have hs:(∀ (j:Nat) (q:Int),s.1[j]?=some q→(bStep are g p w s k).1[j]?=some q)∧∀ (j:Nat) (u:List Int),s.2[j]?=some u→(bStep are g p w s k).2[j]?=some u:=by
    unfold bStep
    split
    ·exact ⟨fun _ _ h=>app_old h,fun _ _ h=>app_old h⟩
    ·exact ⟨fun _ _ h=>h,fun _ _ h=>h⟩
   obtain ⟨i1,i2⟩:=ih (bStep are g p w s k) p w
   exact ⟨fun j q h=>i1 j q (hs.1 j q h),fun j u h=>i2 j u (hs.2 j u h)⟩
 refine ⟨⟨hA.len,hA.hd,hA.nd,hA.inN,hA.way,hA.ind,hA.mono,fun u hu v hv=>?_,fun a q u ha h1 h2 m hm e1 e2=>?_⟩,(keep _ _ _ _).1,(keep _ _ _ _).2⟩
 ·have:=hA.mono i (i + 1) _ u (by omega) hA.at2 hu
  have:=hA.top _ hA.at2 v hv
  omega
 ·by_cases e:a=i
  ·subst e
   rw [hA.at1] at h1; injection h1 with h1
   rw [hA.at2] at h2; injection h2 with h2
   subst h1; subst h2
   obtain ⟨j,hj,rfl⟩:=List.mem_iff_getElem.1 hm
   have ej:g.2.getD j (0,0,0,false)=g.2[j]:=getD_of (List.getElem?_eq_getElem hj)
   have:=hA.row j hj (by rw [ej]; exact e1) (by rw [ej]; exact e2)
   rw [ej] at this
   exact this
  ·exact hA.cl a q u (by omega) h1 h2 m hm e1 e2
theorem BI.len_le {i:Nat} {s:PW} (h:BI are g from0 i s):s.1.length≤g.1.toNat:=by
 have:s.1.length≤((List.range g.1.toNat).map fun n:Nat=>(n:Int)).length:=nodup_le h.nd fun a ha=>by
  have:=h.inN a ha
  exact List.mem_map.2 ⟨a.toNat,List.mem_range.2 (by omega),by omega⟩
 simpa using this
theorem BI.run:∀ (n i:Nat) (s:PW),BI are g from0 i s→g.1.toNat < i + n→∃ j,BI are g from0 j (bfs are g n i s)∧(bfs are g n i s).1.length≤j∧(∀ (j:Nat) (q:Int),s.1[j]?=some q→(bfs are g n i s).1[j]?=some q)∧∀ (j:Nat) (u:List Int),s.2[j]?=some u→(bfs are g n i s).2[j]?=some u
 | 0,i,s,h,hn=>⟨i,h,by have:=h.len_le hg; unfold bfs; omega,fun _ _ h=>h,fun _ _ h=>h⟩
 | n + 1,i,s,h,hn=>by
  unfold bfs
  by_cases hi:i < s.1.length
  ·rw [if_pos hi]
   obtain ⟨r1,r2,r3⟩:=h.row hg hi
   obtain ⟨j,j1,j2,j3,j4⟩:=BI.run n (i + 1) _ r1 (by omega)
   exact ⟨j,j1,j2,fun k q hq=>j3 k q (r2 k q hq),fun k u hu=>j4 k u (r3 k u hu)⟩
  ·rw [if_neg hi]
   exact ⟨i,h,by omega,fun _ _ h=>h,fun _ _ h=>h⟩
end
def srch (are:Mv→Bool) (g:Gr) (from0:Int):PW:=bfs are g 9 0 ([from0],[[]])
theorem srch_ok {are:Mv→Bool} {g:Gr} (hg:GOK g) {from0:Int} (hf:0≤from0∧from0 < g.1):∃ j,BI are g from0 j (srch are g from0)∧(srch are g from0).1.length≤j:=by
 obtain ⟨j,j1,j2,_⟩:=BI.run hg (are:=are) 9 0 _ (BI.start hf) (by have:=hg.hi; omega)
 exact ⟨j,j1,j2⟩
def rch (are:Mv→Bool) (g:Gr) (p q:Int):Prop:=q∈(srch are g p).1
instance (are:Mv→Bool) (g:Gr) (p q:Int):Decidable (rch are g p q):=inferInstanceAs (Decidable (q∈(srch are g p).1))
section
variable {are:Mv→Bool} {g:Gr} (hg:GOK g) {p:Int} (hp:0≤p∧p < g.1)
include hg hp
theorem rch_refl:rch are g p p:=by
 obtain ⟨j,h,_⟩:=srch_ok (are:=are) hg hp
 exact List.mem_of_getElem? h.hd.1
theorem rch_in {q:Int} (h:rch are g p q):0≤q∧q < g.1:=by
 obtain ⟨j,hB,_⟩:=srch_ok (are:=are) hg hp
 exact hB.inN q h
theorem rch_step {m:Mv} (hm:m∈g.2) (h:rch are g p m.1) (ha:are m=true):rch are g p m.2.2.1:=by
 obtain ⟨j,hB,hj⟩:=srch_ok (are:=are) hg hp
 obtain ⟨a,ha1,ha2⟩:=List.mem_iff_getElem.1 h
 have ha3:a < (srch are g p).2.length:=by rw [hB.len]; exact ha1
 obtain ⟨b,v,b1,_,_⟩:=hB.cl a m.1 _ (by omega) (by rw [← ha2]; exact List.getElem?_eq_getElem ha1) (List.getElem?_eq_getElem ha3) m hm rfl ha
 exact List.mem_of_getElem? b1
theorem rch_ind {S:Int→Prop} (h0:S p) (hs:∀ m∈g.2,S m.1→are m=true→S m.2.2.1) {q:Int} (h:rch are g p q):S q:=by
 obtain ⟨j,hB,_⟩:=srch_ok (are:=are) hg hp
 exact hB.ind S h0 hs q h
theorem rch_trans {q r:Int} (h1:rch are g p q) (h2:rch are g q r):rch are g p r :=
 rch_ind hg (rch_in hg hp h1) (S:=fun x=>rch are g p x) h1 (fun m hm hr ha=>rch_step hg hp hm hr ha) h2
end
theorem rch_mono {are are':Mv→Bool} {g:Gr} (hg:GOK g) {p:Int} (hp:0≤p∧p < g.1) (h:∀ m∈g.2,are m=true→are' m=true) {q:Int} (hq:rch are g p q):rch are' g p q :=
 rch_ind hg hp (S:=fun x=>rch are' g p x) (rch_refl hg hp) (fun m hm hr ha=>rch_step hg hp hm hr (h m hm ha)) hq
end Go.Proofs.Yteclokkdgmacpaa
