/-
 Layer 7,pure: the reference's ranks,round by round,are the least ones; ProgressRanks answers true.
-/
import Derived.Test.YteclokkdgmacpaaU10
import Derived.Test.YteclokkdgmacpaaU6
namespace Go.Proofs.Yteclokkdgmacpaa
open Go.RowKit
set_option linter.unusedVariables false
set_option linter.unusedSimpArgs false
set_option linter.unusedSectionVars false
set_option maxRecDepth 10000
/-! ### The program is awake -/
theorem Awake8:lineallaw07_Awake=some true:=by
 have ho:okG (2,[(0,0,1,false),(1,1,0,true)])=true:=by decide
 have hg:=okG_iff.1 ho
 have hz:okZ (2,[(0,0,1,false),(1,1,0,true)]):=by
  refine ⟨few_of (n:=2) (by simp),fun m hm=>?_⟩
  have:=hg.mv m hm
  have:=hg.hi
  rw [inK_i64,inK_i64,inK_i64]
  omega
 have hL:Least (clm 0 0) (2,[(0,0,1,false),(1,1,0,true)]) [1,0]:=by
  refine ⟨rfl,fun m hm _=>?_,fun p p1 p2=>?_,fun p p1 p2 hn=>?_,fun r' hr' hn p p1 p2=>?_⟩
  ·rcases List.mem_cons.1 hm with rfl | hm
   ·decide
   ·rw [List.mem_singleton] at hm; subst hm; decide
  ·simp only at p2
   have:p=0 ∨ p=1:=by omega
   rcases this with rfl | rfl <;> decide
  ·simp only at p2
   have:p=0 ∨ p=1:=by omega
   rcases this with rfl | rfl
   ·exact absurd (rch_refl hg (zero_in hg)) hn
   ·rfl
  ·simp only at p2
   have:p=0 ∨ p=1:=by omega
   rcases this with rfl | rfl
   ·have h1:=hr' (0,0,1,false) (by simp) (rch_refl hg (zero_in hg))
    have h2:=hn 1 (by decide) (by decide)
    have e:lst (clm 0 0) r' (0,0,1,false)=rAt r' 1 + 1:=rfl
    rw [e] at h1
    have e2:rAt [1,0] 0=1:=rfl
    rw [e2]
    simp only at h1
    omega
   ·exact hn 1 (by decide) (by decide)
 have ha:ask (2,[(0,0,1,false),(1,1,0,true)]) 0 0=0:=ask_zero.2 ⟨hg,by decide,by decide,fun _=>rfl⟩
 have e:rksR (2,[(0,0,1,false),(1,1,0,true)]) 0 0=([1,0],0):=by
  unfold rksR
  rw [if_pos ha,rkA_some hL]
 unfold lineallaw07_Awake
 rw [Ranks_eq _ hz,e,Option.bind_some,if_pos (by simp),SameInts_eq7 _ _ (few_of (n:=2) (by simp)) (few_of (n:=2) (by simp))]
 rfl
theorem asked_eq (g:Gr) (hz:okZ g) (c t:Int):linealref07_asked g c t=some (ask g c t):=by
 unfold linealref07_asked
 rw [rValid_eq g hz,Option.bind_some]
 by_cases ho:okG g=true
 ·rw [if_neg (by simp [ho])]
  by_cases h1:isB c 3=true
  ·have h1':=isB_iff.1 h1
   rw [if_neg (by simp; omega),if_neg (by simp; omega),rIsThread_eq,Option.bind_some]
   by_cases h2:isB t 3=true
   ·rw [if_neg (by simp [h2])]
    by_cases h3:c=0
    ·rw [if_pos (decide_eq_true h3)]
     by_cases h4:t=0
     ·rw [if_neg (by simp [h4]),ask_ok ho h1 h2 fun _=>h4]
     ·rw [if_pos (by simp [h4]),ask_two ho fun hh=>h4 (hh.2.2 h3)]
    ·rw [if_neg (by rw [decide_eq_true_eq]; exact h3),ask_ok ho h1 h2 fun h=>absurd h h3]
   ·rw [if_pos (by simp [h2]),ask_two ho fun hh=>h2 hh.2.1]
  ·rw [ask_two ho fun hh=>h1 hh.1]
   have h1':¬ (0≤c∧c < 3):=fun h=>h1 (isB_iff.2 h)
   by_cases h0:c < 0
   ·rw [if_pos (decide_eq_true h0)]
   ·rw [if_neg (by rw [decide_eq_true_eq]; exact h0),if_pos (by rw [decide_eq_true_eq]; omega)]
 ·rw [if_pos (by simp [ho]),ask_bad ho]
theorem fal_of {g:Gr} {c t:Int} (h:ask g c t=0) (m:Mv):∃ by0,linealref07_falls m c t=some (by0,(clm c t).goes m)∧((clm c t).goes m=true→by0=wt (clm c t) m):=by
 obtain ⟨_,⟨rfl,rfl⟩ | rfl | rfl⟩:=ask_cases h
 ·refine ⟨1,?_,fun hm=>?_⟩
  ·rfl
  ·exact (if_pos hm).symm
 ·unfold linealref07_falls
  rw [if_neg (by decide),if_neg (by decide)]
  by_cases e:m.2.1=t
  ·rw [if_pos (decide_eq_true e)]
   have e1:(clm 1 t).goes m=!m.2.2.2:=by
    show notOwn t m=_
    unfold notOwn; rw [decide_eq_true e]; rfl
   refine ⟨1,by rw [e1],fun hm=>?_⟩
   have e2:(clm 1 t).cnt m=true:=by
    show own t m=true
    unfold own
    rw [decide_eq_true e,Bool.true_and,← e1]; exact hm
   exact (if_pos e2).symm
  ·rw [if_neg (by rw [decide_eq_true_eq]; exact e)]
   have e1:(clm 1 t).goes m=true:=by
    show notOwn t m=_
    unfold notOwn; rw [decide_eq_false e]; rfl
   refine ⟨0,by rw [e1],fun hm=>?_⟩
   have e2:¬ (clm 1 t).cnt m=true:=by
    show ¬ own t m=true
    unfold own
    rw [decide_eq_false e]; simp
   exact (if_neg e2).symm
 ·unfold linealref07_falls
  rw [if_neg (by decide),if_pos (by decide)]
  by_cases e:m.2.1=t
  ·rw [if_pos (decide_eq_true e)]
   have e1:(clm 2 t).goes m=!m.2.2.2:=by
    show own t m=_
    unfold own; rw [decide_eq_true e]; rfl
   refine ⟨1,by rw [e1],fun hm=>?_⟩
   exact (if_pos (show (clm 2 t).cnt m=true from hm)).symm
  ·rw [if_neg (by rw [decide_eq_true_eq]; exact e)]
   have e1:(clm 2 t).goes m=false:=by
    show own t m=_
    unfold own; rw [decide_eq_false e]; rfl
   exact ⟨1,by rw [e1],fun hm=>by rw [e1] at hm; cases hm⟩
def rlx (C:Clm) (g:Gr) (s:List Int×Bool) (k:Nat):List Int×Bool :=
 if bk C g s.1 (g.2.getD k (0,0,0,false))=true then (s.1.set (g.2.getD k (0,0,0,false)).1.toNat (lst C s.1 (g.2.getD k (0,0,0,false))),false) else s
def rlxs (C:Clm) (g:Gr) (r:List Int) (n:Nat):List Int×Bool:=(List.range n).foldl (rlx C g) (r,true)
theorem rlxs_succ (C:Clm) (g:Gr) (r:List Int) (n:Nat):rlxs C g r (n + 1)=rlx C g (rlxs C g r n) n:=by
 unfold rlxs
 rw [List.range_succ,List.foldl_append]; rfl
theorem not_goes {C:Clm} {g:Gr} (hg:GOK g) {r:List Int} (hL:Low C g r) {m:Mv} (hm:m∈g.2) (h:¬ C.goes m=true):bk C g r m=false:=by
 rw [← Bool.not_eq_true,bk_iff]
 rintro ⟨_,h2⟩
 rw [lst_not h] at h2
 have hf:=mv_from hg hm
 have:=hL.nn m.1 hf.1 hf.2
 omega
section
variable {C:Clm} {g:Gr} (hg:GOK g) {r:List Int} (hL:Low C g r)
include hg hL
theorem rlxs_ok {B:Int} (hB:∀ x∈r,x≤B) (hB0:0≤B):∀ n,n≤g.2.length→Low C g (rlxs C g r n).1∧(∀ x∈(rlxs C g r n).1,x≤B + n)∧(∀ p,0≤p→p < g.1→rAt r p≤rAt (rlxs C g r n).1 p) ∧
  ((rlxs C g r n).2=true→(rlxs C g r n).1=r∧∀ j,j < n→bk C g r (g.2.getD j (0,0,0,false))=false) ∧
  (∀ j,j < n→R0 g (g.2.getD j (0,0,0,false)).1→lst C r (g.2.getD j (0,0,0,false))≤rAt (rlxs C g r n).1 (g.2.getD j (0,0,0,false)).1)
 | 0,_=>⟨hL,fun x hx=>by have:=hB x hx; omega,fun _ _ _=>Int.le_refl _,fun _=>⟨rfl,fun j hj=>absurd hj (Nat.not_lt_zero j)⟩,fun j hj=>absurd hj (Nat.not_lt_zero j)⟩
 | n + 1,hn=>by
  obtain ⟨i1,i2,i3,i4,i5⟩:=rlxs_ok hB hB0 n (by omega)
  rw [rlxs_succ]
  generalize rlxs C g r n=s at *
  have hm:g.2.getD n (0,0,0,false)∈g.2:=getD_in (by omega)
  have hf:=mv_from hg hm
  have ht:=mv_to hg hm
  have hl:=i1.len
  unfold rlx
  by_cases hb:bk C g s.1 (g.2.getD n (0,0,0,false))=true
  ·rw [if_pos hb]
   obtain ⟨b1,b2⟩:=bk_iff.1 hb
   have hp:0≤(g.2.getD n (0,0,0,false)).1∧(g.2.getD n (0,0,0,false)).1.toNat < s.1.length:=⟨hf.1,by omega⟩
   have up:∀ p,0≤p→rAt s.1 p≤rAt (s.1.set (g.2.getD n (0,0,0,false)).1.toNat (lst C s.1 (g.2.getD n (0,0,0,false)))) p:=fun p p1=>by
    rw [rAt_set hp p1]
    split
    ·rename_i e; rw [e]; omega
    ·exact Int.le_refl _
   refine ⟨i1.raise hg hm b1 b2,fun x hx=>?_,fun p p1 p2=>Int.le_trans (i3 p p1 p2) (up p p1),fun h=>(by cases h),fun j hj hr=>?_⟩
   ·rcases List.mem_or_eq_of_mem_set hx with h1 | h1
    ·have:=i2 x h1; omega
    ·have:=i2 _ (rAt_mem ht.1 (by omega))
     rw [h1]
     unfold lst
     split
     ·omega
     ·split <;> omega
   ·by_cases e:j=n
    ·subst e
     rw [rAt_set hp hf.1,if_pos rfl]
     exact lst_mono (i3 _ ht.1 ht.2)
    ·have hmj:g.2.getD j (0,0,0,false)∈g.2:=getD_in (by omega)
     exact Int.le_trans (i5 j (by omega) hr) (up _ (mv_from hg hmj).1)
  ·rw [if_neg hb]
   refine ⟨i1,fun x hx=>by have:=i2 x hx; omega,i3,fun h=>?_,fun j hj hr=>?_⟩
   ·obtain ⟨k1,k2⟩:=i4 h
    refine ⟨k1,fun j hj=>?_⟩
    by_cases e:j=n
    ·subst e; rw [k1] at hb; simpa using hb
    ·exact k2 j (by omega)
   ·by_cases e:j=n
    ·subst e
     have h1:¬ rAt s.1 (g.2.getD j (0,0,0,false)).1 < lst C s.1 (g.2.getD j (0,0,0,false)):=fun h=>hb (bk_iff.2 ⟨hr,h⟩)
     have:=lst_mono (C:=C) (m:=g.2.getD j (0,0,0,false)) (i3 _ ht.1 ht.2)
     omega
    ·exact i5 j (by omega) hr
theorem rlxs_prv:Prv C g r→(rlxs C g r g.2.length).2=true:=by
 intro hp
 have:∀ n,n≤g.2.length→rlxs C g r n=(r,true):=by
  intro n
  induction n with
  | zero=>intro _; rfl
  | succ n ih =>
   intro hn
   rw [rlxs_succ,ih (by omega)]
   unfold rlx
   rw [if_neg]
   intro hb
   obtain ⟨b1,b2⟩:=bk_iff.1 hb
   have b3:=hp _ (getD_in (show n < g.2.length by omega)) b1
   have b2':rAt r (g.2.getD n (0,0,0,false)).1 < lst C r (g.2.getD n (0,0,0,false)):=b2
   omega
 rw [this _ (Nat.le_refl _)]
theorem prv_rlxs:(rlxs C g r g.2.length).2=true→(rlxs C g r g.2.length).1=r∧Prv C g r:=by
 intro h
 have hB:∃ B:Int,(∀ x∈r,x≤B)∧0≤B:=by
  clear hL h
  induction r with
  | nil=>exact ⟨0,by simp,Int.le_refl _⟩
  | cons a r ih =>
   obtain ⟨B,b1,b2⟩:=ih
   exact ⟨if a≤B then B else a,fun x hx=>by
    rcases List.mem_cons.1 hx with e | hx
    ·rw [e]; split <;> omega
    ·have:=b1 x hx; split <;> omega,by split <;> omega⟩
 obtain ⟨B,b1,b2⟩:=hB
 obtain ⟨_,_,_,h4,_⟩:=rlxs_ok hg hL b1 b2 g.2.length (Nat.le_refl _)
 obtain ⟨k1,k2⟩:=h4 h
 refine ⟨k1,bk_none.1 ?_⟩
 rw [List.findIdx?_eq_none_iff]
 intro m hm
 obtain ⟨j,hj,rfl⟩:=List.mem_iff_getElem.1 hm
 have:=k2 j hj
 rwa [getD_of (List.getElem?_eq_getElem hj)] at this
end
theorem rAt_map {n:Int} (f:Int→Int) {q:Int} (q1:0≤q) (q2:q < n):rAt ((List.range n.toNat).map fun p:Nat=>f (p:Int)) q=f q:=by
 have hlt:q.toNat < n.toNat:=by omega
 have e:((q.toNat:Nat):Int)=q:=by omega
 unfold rAt
 rw [List.getD,List.getElem?_map,List.getElem?_range hlt]
 simp only [Option.map_some,Option.getD_some,e]
def uns (L r:List Int) (n:Nat):List Nat:=(List.range n).filter fun p=>decide (rAt r (p:Int) < rAt L (p:Int))
theorem uns_nil {C:Clm} {g:Gr} (hg:GOK g) {r L:List Int} (hr:Low C g r) (hL:Least C g L) (h:uns L r g.1.toNat=[]):r=L:=by
 refine List.ext_getElem (by rw [hr.len,hL.len]) fun i h1 h2=>?_
 have hl:=hr.len
 have a:=hr.le L hL.prv (fun p p1 p2=>(hL.rng p p1 p2).1) (i:Int) (by omega) (by omega)
 unfold uns at h
 rw [List.filter_eq_nil_iff] at h
 have b:=h i (List.mem_range.2 (by omega))
 rw [decide_eq_true_eq] at b
 unfold rAt at a b
 rw [Int.toNat_natCast,getD_of (List.getElem?_eq_getElem h1),getD_of (List.getElem?_eq_getElem h2)] at a b
 omega
theorem uns_lt {C:Clm} {g:Gr} (hg:GOK g) {r r' L:List Int} (hr:Low C g r) (hr':Low C g r') (hL:Least C g L) (hne:uns L r g.1.toNat ≠ [])
  (hup:∀ p,0≤p→p < g.1→rAt r p≤rAt r' p) (hd:∀ m∈g.2,R0 g m.1→lst C r m≤rAt r' m.1):(uns L r' g.1.toNat).length < (uns L r g.1.toNat).length:=by
 have hLn:∀ p,0≤p→p < g.1→0≤rAt L p:=fun p p1 p2=>(hL.rng p p1 p2).1
 -- the ranks of L,less 1 where they are not settled
 have hex:∃ m∈g.2,R0 g m.1∧rAt r m.1 < rAt L m.1∧lst C L m=rAt L m.1∧rAt r m.2.2.1=rAt L m.2.2.1:=by
  by_cases hp:Prv C g ((List.range g.1.toNat).map fun p:Nat=>if rAt r (p:Int) < rAt L (p:Int) then rAt L (p:Int) - 1 else rAt L (p:Int))
  ·exfalso
   obtain ⟨p,hpm⟩:=List.exists_mem_of_ne_nil _ hne
   unfold uns at hpm
   rw [List.mem_filter,List.mem_range,decide_eq_true_eq] at hpm
   have hat:∀ q:Int,0≤q→q < g.1→rAt ((List.range g.1.toNat).map fun p:Nat=>if rAt r (p:Int) < rAt L (p:Int) then rAt L (p:Int) - 1 else rAt L (p:Int)) q=if rAt r q < rAt L q then rAt L q - 1 else rAt L q:=fun q q1 q2=>rAt_map (fun q=>if rAt r q < rAt L q then rAt L q - 1 else rAt L q) q1 q2
   have:=hL.le _ hp (fun q q1 q2=>by
    rw [hat q q1 q2]
    have:=hr.nn q q1 q2
    have:=hLn q q1 q2
    split <;> omega) (p:Int) (by omega) (by omega)
   rw [hat _ (by omega) (by omega),if_pos hpm.2] at this
   omega
  ·have hat:∀ q:Int,0≤q→q < g.1→rAt ((List.range g.1.toNat).map fun p:Nat=>if rAt r (p:Int) < rAt L (p:Int) then rAt L (p:Int) - 1 else rAt L (p:Int)) q=if rAt r q < rAt L q then rAt L q - 1 else rAt L q:=fun q q1 q2=>rAt_map (fun q=>if rAt r q < rAt L q then rAt L q - 1 else rAt L q) q1 q2
   generalize ((List.range g.1.toNat).map fun p:Nat=>if rAt r (p:Int) < rAt L (p:Int) then rAt L (p:Int) - 1 else rAt L (p:Int))=s at *
   have hp':∃ m,m∈g.2∧R0 g m.1∧¬ lst C s m≤rAt s m.1:=Classical.byContradiction fun hn=>hp fun m hm hm0=>Classical.byContradiction fun hlt=>hn ⟨m,hm,hm0,hlt⟩
   obtain ⟨m,hm,hm0,hlt⟩:=hp'
   have hf:=mv_from hg hm
   have ht:=mv_to hg hm
   have s1:=hat m.1 hf.1 hf.2
   have s2:=hat m.2.2.1 ht.1 ht.2
   have hle:=hr.le L hL.prv hLn m.2.2.1 ht.1 ht.2
   have hpr:=hL.prv m hm hm0
   have hn:=hr.nn m.1 hf.1 hf.2
   refine ⟨m,hm,hm0,?_⟩
   by_cases hgo:C.goes m=true
   ·rw [lst_goes hgo] at hlt hpr ⊢
    split at s1 <;> split at s2 <;> omega
   ·rw [lst_not hgo] at hlt hpr ⊢
    split at s1 <;> omega
 obtain ⟨m,hm,hm0,h1,h2,h3⟩:=hex
 have hf:=mv_from hg hm
 have ht:=mv_to hg hm
 unfold uns
 refine filter_lt (fun q hq h=>?_) (y:=m.1.toNat) (List.mem_range.2 (by omega)) ?_ ?_
 ·rw [decide_eq_true_eq] at h ⊢
  rw [List.mem_range] at hq
  have:=hup (q:Int) (by omega) (by omega)
  omega
 ·rw [Int.toNat_of_nonneg hf.1,decide_eq_false_iff_not]
  have:=hd m hm hm0
  have e:lst C r m=lst C L m:=by
   unfold lst
   rw [h3]
  omega
 ·rw [Int.toNat_of_nonneg hf.1,decide_eq_true_eq]
  exact h1
section
variable {g:Gr} (hg:GOK g) {c t:Int} (ha:ask g c t=0)
include hg ha
theorem rrnd_eq {r:List Int} (hL:Low (clm c t) g r) {B:Int} (hB:∀ x∈r,x≤B) (hB0:0≤B) (hBm:B≤1000):whileO (linealref07_ranks_b2 g c t (thereL g)) (r,true,0)=some (rlxs (clm c t) g r g.2.length):=by
 have hgl:=hg.len
 have key:=whileO_iter (body:=linealref07_ranks_b2 g c t (thereL g)) (fun (s:List Int×Bool) (k:Int)=>(s.1,s.2,k)) g.2.length (fun k s=>rlx (clm c t) g s k) id (fun k s=>s=rlxs (clm c t) g r k) (s0:=(r,true)) rfl
  (fun k s hk hs=>by
   refine ⟨?_,by rw [rlxs_succ,← hs]⟩
   obtain ⟨i1,i2,_⟩:=rlxs_ok hg hL hB hB0 k (by omega)
   rw [← hs] at i1 i2
   have hm:g.2.getD k (0,0,0,false)∈g.2:=getD_in hk
   have hf:=mv_from hg hm
   have ht:=mv_to hg hm
   have hl:=i1.len
   have htl:=thereL_len hg
   have hta:=thereL_at hg (g.2.getD k (0,0,0,false)).1.toNat
   rw [Int.toNat_of_nonneg hf.1] at hta
   obtain ⟨by0,f1,f2⟩:=fal_of ha (g.2.getD k (0,0,0,false))
   have kin:InK .i64 ((k:Int) + 1):=by rw [inK_i64]; omega
   have hx:=i2 _ (rAt_mem ht.1 (by omega))
   have hx0:=i1.nn _ ht.1 ht.2
   unfold linealref07_ranks_b2 rlx
   simp only [Int.toNat_natCast]
   rw [if_pos (by rw [decide_eq_true_eq]; omega),ck_pos (by omega),ck_pos (by omega),f1,Option.bind_some]
   by_cases hgo:(clm c t).goes (g.2.getD k (0,0,0,false))=true
   ·have hw:=wt_in (clm c t) (g.2.getD k (0,0,0,false))
    have hlst:=lst_goes (C:=clm c t) (r:=s.1) hgo
    have hb0:=f2 hgo
    unfold rAt at hx hx0 hlst
    rw [if_pos hgo,ck_pos hf.1,ck_pos (by omega),hta]
    by_cases hr:R0 g (g.2.getD k (0,0,0,false)).1
    ·rw [if_pos (decide_eq_true hr),ck_pos hf.1,ck_pos (by omega),ck_pos ht.1,ck_pos (by omega),ck_pos (by rw [inK_i64]; omega)]
     by_cases hlt:s.1.getD (g.2.getD k (0,0,0,false)).1.toNat 0 < s.1.getD (g.2.getD k (0,0,0,false)).2.2.1.toNat 0 + by0
     ·rw [if_pos (decide_eq_true hlt),ck_pos ht.1,ck_pos (by omega),ck_pos (by rw [inK_i64]; omega),ck_pos hf.1,ck_pos (by omega),ck_pos kin,if_pos (bk_iff.2 ⟨hr,by rw [hlst]; unfold rAt; omega⟩),hlst,hb0]
     ·rw [if_neg (by rw [decide_eq_true_eq]; exact hlt),ck_pos kin,if_neg fun hb=>by
       have h2:=(bk_iff.1 hb).2
       rw [hlst] at h2
       unfold rAt at h2
       omega]
    ·rw [if_neg (by rw [decide_eq_true_eq]; exact hr),ck_pos kin,if_neg fun hb=>hr (bk_iff.1 hb).1]
   ·rw [if_neg hgo,ck_pos kin,not_goes hg i1 hm hgo,if_neg (by simp)])
  (fun s _=>by
   unfold linealref07_ranks_b2
   simp only
   rw [if_neg (by simp)]
   rfl)
 obtain ⟨k1,k2⟩:=key
 rw [id,k2] at k1
 exact k1
theorem rrnds_eq:∀ (d n:Nat) (r:List Int),n + d=g.1.toNat + 1→Low (clm c t) g r→(∀ x∈r,x≤20 * (n:Int))→(∀ L,Least (clm c t) g L→(uns L r g.1.toNat).length + n≤g.1.toNat) →
  whileO (linealref07_ranks_b1 g c t (thereL g)) (r,(n:Int))=some (match rkA (clm c t) g with | some L=>.inl L | none=>.inr ())
 | 0,n,r,hn,hL,hB,hU=>by
  have hlo:=hg.lo
  refine whileO_end ?_
  unfold linealref07_ranks_b1
  simp only
  rw [if_neg (by rw [decide_eq_true_eq]; omega)]
  cases hk:rkA (clm c t) g with
  | none=>rfl
  | some L =>
   have:=hU L (rkA_least hk)
   omega
 | d + 1,n,r,hn,hL,hB,hU=>by
  have hlo:=hg.lo
  have hhi:=hg.hi
  have hgl:=hg.len
  have hrd:=rrnd_eq hg ha hL hB (by omega) (by omega)
  obtain ⟨i1,i2,i3,i4,i5⟩:=rlxs_ok hg hL hB (by omega) g.2.length (Nat.le_refl _)
  have hpr:=prv_rlxs hg hL
  by_cases hst:(rlxs (clm c t) g r g.2.length).2=true
  ·refine whileO_end ?_
   unfold linealref07_ranks_b1
   simp only
   rw [if_pos (by rw [decide_eq_true_eq]; omega),hrd,Option.bind_some]
   obtain ⟨k1,k2⟩:=hpr hst
   unfold linealref07_ranks_k3
   rw [hst,if_pos rfl,k1,rkA_some (hL.least hg k2)]
  ·refine whileO_on (s':=((rlxs (clm c t) g r g.2.length).1,((n + 1:Nat):Int))) ?_ (rrnds_eq d (n + 1) _ (by omega) i1 (fun x hx=>by have:=i2 x hx; omega) fun L hLe=>?_)
   ·unfold linealref07_ranks_b1
    simp only
    rw [if_pos (by rw [decide_eq_true_eq]; omega),hrd,Option.bind_some]
    unfold linealref07_ranks_k3 linealref07_ranks_k2
    rw [if_neg hst,ck_pos (by rw [inK_i64]; omega)]
    rfl
   ·have h1:=hU L hLe
    have hne:uns L r g.1.toNat ≠ []:=fun he=>by
     have e:=uns_nil hg hL hLe he
     exact hst (rlxs_prv hg hL (by rw [e]; exact hLe.prv))
    have h2:=uns_lt hg hL i1 hLe hne i3 fun m hm hm0=>by
     obtain ⟨j,hj,rfl⟩:=List.mem_iff_getElem.1 hm
     have ej:g.2.getD j (0,0,0,false)=g.2[j]:=getD_of (List.getElem?_eq_getElem hj)
     have:=i5 j hj (by rw [ej]; exact hm0)
     rwa [ej] at this
    omega
theorem rranks_eq:linealref07_ranks g c t=some (rkR (rkA (clm c t) g)):=by
 have hlo:=hg.lo
 have hhi:=hg.hi
 have key:=rrnds_eq hg ha (g.1.toNat + 1) 0 (List.replicate g.1.toNat (0:Int)) (by omega) Low.zero (fun x hx=>by rw [List.mem_replicate] at hx; omega) fun L _=>by
  have:=List.length_filter_le (fun p:Nat=>decide (rAt (List.replicate g.1.toNat (0:Int)) (p:Int) < rAt L (p:Int))) (List.range g.1.toNat)
  rw [List.length_range] at this
  exact this
 unfold linealref07_ranks
 have e0:((0:Nat):Int)=0:=rfl
 rw [e0] at key
 rw [rreached_eq hg,Option.bind_some,ck_pos (by omega),ck_pos (by omega),ck_pos (by rw [inK_i64]; omega)]
 show (whileO (linealref07_ranks_b1 g c t (thereL g)) _).bind _=_
 rw [key,Option.bind_some]
 cases rkA (clm c t) g <;> rfl
end
theorem rHolds_eq (g:Gr) (hz:okZ g) (c t:Int):linealref07_Holds g c t=some (holR g c t):=by
 unfold linealref07_Holds holR
 rw [asked_eq g hz,Option.bind_some]
 by_cases h:ask g c t=0
 ·rw [if_neg (by simp [h]),if_pos h,rranks_eq (ask_cases h).1 h]; rfl
 ·rw [if_pos (by simp [h]),if_neg h]
end Go.Proofs.Yteclokkdgmacpaa
