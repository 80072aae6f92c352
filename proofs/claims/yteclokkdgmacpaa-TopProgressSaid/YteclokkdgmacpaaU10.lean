import Derived.Test.YteclokkdgmacpaaU4
namespace Go.Proofs.Yteclokkdgmacpaa
open Go.RowKit
set_option linter.unusedVariables false
set_option linter.unusedSimpArgs false
set_option linter.unusedSectionVars false
set_option maxRecDepth 10000
structure Clm where
 goes:Mv→Bool
 cnt:Mv→Bool
 sub:∀ m,cnt m=true→goes m=true
def clm (c t:Int):Clm :=
 if c=0 then ⟨k0,k0,fun _ h=>h⟩
 else if c=1 then ⟨notOwn t,own t,fun m h=>by
  unfold own at h; unfold notOwn
  rw [Bool.and_eq_true] at h
  rw [h.2]; simp⟩
 else ⟨own t,own t,fun _ h=>h⟩
def rAt (r:List Int) (p:Int):Int:=r.getD p.toNat 0
def wt (C:Clm) (m:Mv):Int:=if C.cnt m=true then 1 else 0
def lst (C:Clm) (r:List Int) (m:Mv):Int:=if C.cnt m=true then rAt r m.2.2.1+1 else if C.goes m=true then rAt r m.2.2.1 else 0
theorem lst_goes {C:Clm} {r:List Int} {m:Mv} (h:C.goes m=true):lst C r m=rAt r m.2.2.1+wt C m:=by
 unfold lst wt
 by_cases hc:C.cnt m=true
 ·rw [if_pos hc,if_pos hc]
 ·rw [if_neg hc,if_neg hc,if_pos h]; omega
theorem lst_not {C:Clm} {r:List Int} {m:Mv} (h:¬ C.goes m=true):lst C r m=0:=by
 unfold lst
 rw [if_neg fun hc=>h (C.sub m hc),if_neg h]
theorem wt_in (C:Clm) (m:Mv):0≤wt C m∧wt C m≤1:=by unfold wt; split<;>omega
def Prv (C:Clm) (g:Gr) (r:List Int):Prop:=∀ m∈g.2,R0 g m.1→lst C r m≤rAt r m.1
def Bad (C:Clm) (g:Gr):Prop:=∃ m∈g.2,R0 g m.1∧C.cnt m=true∧rch C.goes g m.2.2.1 m.1
section
variable {C:Clm} {g:Gr} (hg:GOK g)
include hg
theorem R0_step {m:Mv} (hm:m∈g.2) (h:R0 g m.1):R0 g m.2.2.1:=rch_step hg (zero_in hg) hm h rfl
theorem mv_to {m:Mv} (hm:m∈g.2):0≤m.2.2.1∧m.2.2.1<g.1:=(hg.mv m hm).2.1
theorem mv_from {m:Mv} (hm:m∈g.2):0≤m.1∧m.1<g.1:=(hg.mv m hm).1
theorem prv_good {r:List Int} (h:Prv C g r):¬ Bad C g:=by
 rintro ⟨m,hm,h1,h2,h3⟩
 have hl:=h m hm h1
 rw [lst_goes (C.sub m h2)] at hl
 have hw:wt C m=1:=by unfold wt; rw [if_pos h2]
 have key:=rch_ind hg (mv_to hg hm) (S:=fun q=>R0 g q∧rAt r q≤rAt r m.2.2.1) ⟨R0_step hg hm h1,Int.le_refl _⟩ (fun m' hm' hS ha=>by
  refine ⟨R0_step hg hm' hS.1,?_⟩
  have:=h m' hm' hS.1
  rw [lst_goes ha] at this
  have:=(wt_in C m').1
  have:=hS.2
  omega) h3
 have:=key.2
 omega
end
theorem filter_le {α:Type} {p q:α→Bool}:∀ {L:List α},(∀ x∈L,p x=true→q x=true)→(L.filter p).length≤(L.filter q).length
 | [],_=>Nat.le_refl _
 | x::L,h=>by
  have ih:=filter_le (L:=L) fun y hy=>h y (by simp [hy])
  rw [List.filter_cons,List.filter_cons]
  by_cases hp:p x=true
  ·rw [if_pos hp,if_pos (h x (by simp) hp)]; simp; exact ih
  ·rw [if_neg hp]
   split
   ·simp; omega
   ·exact ih
theorem filter_lt {α:Type} {p q:α→Bool}:∀ {L:List α},(∀ x∈L,p x=true→q x=true)→∀ {y:α},y∈L→p y=false→q y=true→(L.filter p).length<(L.filter q).length
 | x::L,h,y,hy,hp,hq=>by
  have hle:=filter_le (L:=L) fun z hz=>h z (by simp [hz])
  rw [List.filter_cons,List.filter_cons]
  rcases List.mem_cons.1 hy with e|hy
  ·subst e
   rw [if_neg (by simp [hp]),if_pos hq]; simp; omega
  ·have ih:=filter_lt (L:=L) (fun z hz=>h z (by simp [hz])) hy hp hq
   by_cases hpx:p x=true
   ·rw [if_pos hpx,if_pos (h x (by simp) hpx)]; simp; exact ih
   ·rw [if_neg hpx]
    split
    ·simp; omega
    ·exact ih
def src (C:Clm) (g:Gr) (q:Int):Bool:=g.2.any fun m=>decide (m.1=q)&&C.cnt m
def inD (C:Clm) (g:Gr) (p:Int) (q:Nat):Bool:=decide (rch C.goes g p (q:Int))&&src C g (q:Int)
def dRank (C:Clm) (g:Gr) (p:Int):Nat:=((List.range g.1.toNat).filter (inD C g p)).length
def dRanks (C:Clm) (g:Gr):List Int:=(List.range g.1.toNat).map fun p:Nat=>if R0 g (p:Int) then (dRank C g (p:Int):Int) else 0
section
variable {C:Clm} {g:Gr} (hg:GOK g) (hb:¬ Bad C g)
include hg hb
theorem dRank_goes {m:Mv} (hm:m∈g.2) (hr:R0 g m.1) (ha:C.goes m=true):(dRank C g m.2.2.1:Int)+wt C m≤dRank C g m.1:=by
 have hsub:∀ q∈List.range g.1.toNat,inD C g m.2.2.1 q=true→inD C g m.1 q=true:=fun q _ h=>by
  unfold inD at *
  rw [Bool.and_eq_true,decide_eq_true_iff] at *
  exact ⟨rch_trans hg (mv_from hg hm) (rch_step hg (mv_from hg hm) hm (rch_refl hg (mv_from hg hm)) ha) h.1,h.2⟩
 unfold wt
 split
 ·rename_i hc
  have hf:=mv_from hg hm
  have:=filter_lt hsub (y:=m.1.toNat) (List.mem_range.2 (by omega)) (by
   unfold inD
   rw [Int.toNat_of_nonneg hf.1]
   rw [Bool.and_eq_false_iff]
   left
   rw [decide_eq_false_iff_not]
   intro h
   exact hb ⟨m,hm,hr,hc,h⟩) (by
   unfold inD src
   rw [Int.toNat_of_nonneg hf.1,Bool.and_eq_true,decide_eq_true_iff,List.any_eq_true]
   exact ⟨rch_refl hg hf,m,hm,by rw [hc]; simp⟩)
  unfold dRank
  omega
 ·have:=filter_le hsub
  unfold dRank
  omega
theorem dRanks_at {p:Int} (hp:0≤p∧p<g.1):rAt (dRanks C g) p=if R0 g p then (dRank C g p:Int) else 0:=by
 unfold rAt dRanks
 have hlt:p.toNat<g.1.toNat:=by omega
 have e:((p.toNat:Nat):Int)=p:=by omega
 rw [List.getD,List.getElem?_map,List.getElem?_range hlt]
 simp only [Option.map_some,Option.getD_some,e]
theorem dRanks_prv:Prv C g (dRanks C g):=by
 intro m hm hr
 have hto:=R0_step hg hm hr
 rw [dRanks_at hg hb (mv_from hg hm),if_pos hr]
 by_cases ha:C.goes m=true
 ·rw [lst_goes ha,dRanks_at hg hb (mv_to hg hm),if_pos hto]
  exact dRank_goes hg hb hm hr ha
 ·rw [lst_not ha]; omega
theorem dRank_lt {p:Int} (hp:R0 g p):dRank C g p<g.1.toNat:=by
 have hle:dRank C g p≤g.1.toNat:=by
  have:=List.length_filter_le (inD C g p) (List.range g.1.toNat)
  rw [List.length_range] at this
  exact this
 by_cases h:dRank C g p<g.1.toNat
 ·exact h
 exfalso
 have hall:∀ q∈List.range g.1.toNat,inD C g p q=true:=by
  have:((List.range g.1.toNat).filter (inD C g p)).length=(List.range g.1.toNat).length:=by
   rw [List.length_range]; unfold dRank at h hle; omega
  exact List.length_filter_eq_length_iff.1 this
 have no:∀ (n:Nat) (q:Int),0≤q∧q<g.1→dRank C g q=n→False:=by
  intro n
  induction n using Nat.strongRecOn with
  | ind n ih =>
   intro q hq hn
   have:=hall q.toNat (List.mem_range.2 (by omega))
   unfold inD src at this
   rw [Int.toNat_of_nonneg hq.1,Bool.and_eq_true,decide_eq_true_iff,List.any_eq_true] at this
   obtain ⟨hr,m,hm,hmc⟩:=this
   rw [Bool.and_eq_true,decide_eq_true_iff] at hmc
   have hpq:R0 g q:=rch_trans hg (zero_in hg) hp (rch_mono hg (rch_in hg (zero_in hg) hp) (fun _ _ _=>rfl) hr)
   have h1:=dRank_goes hg hb hm (by rw [hmc.1]; exact hpq) (C.sub m hmc.2)
   have hw:wt C m=1:=by unfold wt; rw [if_pos hmc.2]
   rw [hmc.1] at h1
   exact ih (dRank C g m.2.2.1) (by omega) m.2.2.1 (mv_to hg hm) rfl
 exact no _ p (rch_in hg (zero_in hg) hp) rfl
end
structure Least (C:Clm) (g:Gr) (r:List Int):Prop where
 len:r.length=g.1.toNat
 prv:Prv C g r
 rng:∀ p:Int,0≤p→p<g.1→0≤rAt r p∧rAt r p<g.1
 zer:∀ p:Int,0≤p→p<g.1→¬ R0 g p→rAt r p=0
 le:∀ r':List Int,Prv C g r'→(∀ p:Int,0≤p→p<g.1→0≤rAt r' p)→∀ p:Int,0≤p→p<g.1→rAt r p≤rAt r' p
theorem Least.one {C:Clm} {g:Gr} {r s:List Int} (h:Least C g r) (k:Least C g s):r=s:=by
 refine List.ext_getElem (by rw [h.len,k.len]) fun i h1 h2=>?_
 have hl:=h.len
 have a:=h.le s k.prv (fun p p1 p2=>(k.rng p p1 p2).1) (i:Int) (by omega) (by omega)
 have b:=k.le r h.prv (fun p p1 p2=>(h.rng p p1 p2).1) (i:Int) (by omega) (by omega)
 unfold rAt at a b
 rw [Int.toNat_natCast,getD_of (List.getElem?_eq_getElem h1),getD_of (List.getElem?_eq_getElem h2)] at a b
 omega
theorem lst_mono {C:Clm} {r s:List Int} {m:Mv} (h:rAt r m.2.2.1≤rAt s m.2.2.1):lst C r m≤lst C s m:=by
 unfold lst
 split
 ·omega
 ·split
  ·exact h
  ·exact Int.le_refl _
theorem rAt_set {r:List Int} {p q x:Int} (hp:0≤p∧p.toNat<r.length) (hq:0≤q):rAt (r.set p.toNat x) q=if q=p then x else rAt r q:=by
 unfold rAt
 rw [getD_setL hp.2]
 by_cases e:q=p
 ·subst e; rw [if_pos rfl,if_pos rfl]
 ·rw [if_neg e,if_neg (by omega)]
theorem sum_set:∀ (r:List Int) (i:Nat) (x:Int),i<r.length→(r.set i x).sum=r.sum - r.getD i 0+x
 | a::r,0,x,_=>by simp; omega
 | a::r,i+1,x,h=>by
  rw [List.set_cons_succ,List.sum_cons,sum_set r i x (by simpa using h),List.sum_cons]
  have:(a::r).getD (i+1) 0=r.getD i 0:=rfl
  rw [this]; omega
theorem sum_bound:∀ (r:List Int) (n:Int),(∀ x∈r,x≤n)→r.sum≤r.length*n
 | [],n,_=>by simp
 | a::r,n,h=>by
  have ih:=sum_bound r n fun x hx=>h x (by simp [hx])
  have:=h a (by simp)
  rw [List.sum_cons,List.length_cons,Int.natCast_add,Int.add_mul]
  have:((1:Nat):Int)*n=n:=by simp
  omega
structure Low (C:Clm) (g:Gr) (r:List Int):Prop where
 len:r.length=g.1.toNat
 nn:∀ p:Int,0≤p→p<g.1→0≤rAt r p
 zer:∀ p:Int,0≤p→p<g.1→¬ R0 g p→rAt r p=0
 le:∀ r':List Int,Prv C g r'→(∀ p:Int,0≤p→p<g.1→0≤rAt r' p)→∀ p:Int,0≤p→p<g.1→rAt r p≤rAt r' p
theorem rep_at (n:Nat) (p:Int):rAt (List.replicate n (0:Int)) p=0:=by
 unfold rAt
 simp only [List.getD,List.getElem?_replicate]
 split<;>rfl
theorem Low.zero {C:Clm} {g:Gr}:Low C g (List.replicate g.1.toNat (0:Int)) where
 len:=by simp
 nn:=fun p _ _=>by rw [rep_at]; exact Int.le_refl _
 zer:=fun p _ _ _=>rep_at _ _
 le:=fun r' _ hn p p1 p2=>by rw [rep_at]; exact hn p p1 p2
theorem Low.raise {C:Clm} {g:Gr} (hg:GOK g) {r:List Int} (h:Low C g r) {m:Mv} (hm:m∈g.2) (hr:R0 g m.1) (hlt:rAt r m.1<lst C r m):Low C g (r.set m.1.toNat (lst C r m)):=by
 have hf:=mv_from hg hm
 have hl:=h.len
 have hp:0≤m.1∧m.1.toNat<r.length:=⟨hf.1,by omega⟩
 refine ⟨by simpa using hl,fun p p1 p2=>?_,fun p p1 p2 hn=>?_,fun r' hr' hn p p1 p2=>?_⟩
 ·rw [rAt_set hp p1]
  split
  ·have:=h.nn m.1 hf.1 hf.2; omega
  ·exact h.nn p p1 p2
 ·rw [rAt_set hp p1,if_neg fun e=>hn (by rw [e]; exact hr)]
  exact h.zer p p1 p2 hn
 ·rw [rAt_set hp p1]
  split
  ·rename_i e
   have:=hr' m hm hr
   have ht:=mv_to hg hm
   have:=lst_mono (C:=C) (m:=m) (h.le r' hr' hn m.2.2.1 ht.1 ht.2)
   rw [e]; omega
  ·exact h.le r' hr' hn p p1 p2
theorem Low.least {C:Clm} {g:Gr} (hg:GOK g) {r:List Int} (h:Low C g r) (hp:Prv C g r):Least C g r:=by
 refine ⟨h.len,hp,fun p p1 p2=>⟨h.nn p p1 p2,?_⟩,h.zer,h.le⟩
 have hb:=prv_good hg hp
 have hd:=h.le (dRanks C g) (dRanks_prv hg hb) (fun q q1 q2=>by rw [dRanks_at hg hb ⟨q1,q2⟩]; split<;>omega) p p1 p2
 rw [dRanks_at hg hb ⟨p1,p2⟩] at hd
 have:=hg.lo
 split at hd
 ·rename_i hr
  have:=dRank_lt hg hb hr
  omega
 ·omega
theorem Low.bad {C:Clm} {g:Gr} (hg:GOK g) {r:List Int} (h:Low C g r) {p:Int} (p1:0≤p) (p2:p<g.1) (hge:g.1≤rAt r p):Bad C g:=by
 by_cases hb:Bad C g
 ·exact hb
 exfalso
 have hd:=h.le (dRanks C g) (dRanks_prv hg hb) (fun q q1 q2=>by rw [dRanks_at hg hb ⟨q1,q2⟩]; split<;>omega) p p1 p2
 rw [dRanks_at hg hb ⟨p1,p2⟩] at hd
 have:=hg.lo
 split at hd
 ·rename_i hr
  have:=dRank_lt hg hb hr
  omega
 ·omega
noncomputable def rkA (C:Clm) (g:Gr):Option (List Int):=by
 classical exact if h:∃ r,Least C g r then some (Classical.choose h) else none
theorem rkA_some {C:Clm} {g:Gr} {r:List Int} (h:Least C g r):rkA C g=some r:=by
 unfold rkA
 have he:∃ r,Least C g r:=⟨r,h⟩
 rw [dif_pos he,(Classical.choose_spec he).one h]
theorem rkA_none {C:Clm} {g:Gr} (hg:GOK g) (h:Bad C g):rkA C g=none:=by
 unfold rkA
 rw [dif_neg]
 rintro ⟨r,hr⟩
 exact prv_good hg hr.prv h
def rkR (o:Option (List Int)):List Int×Bool:=match o with|some r=>(r,true)|none=>([],false)
def bk (C:Clm) (g:Gr) (r:List Int) (m:Mv):Bool:=decide (R0 g m.1)&&decide (rAt r m.1<lst C r m)
theorem bk_iff {C:Clm} {g:Gr} {r:List Int} {m:Mv}:bk C g r m=true↔R0 g m.1∧rAt r m.1<lst C r m:=by unfold bk; simp
theorem bk_none {C:Clm} {g:Gr} {r:List Int}:g.2.findIdx? (bk C g r)=none↔Prv C g r:=by
 rw [List.findIdx?_eq_none_iff]
 constructor
 ·intro h m hm hr
  have:=h m hm
  unfold bk at this
  rw [decide_eq_true hr,Bool.true_and,decide_eq_false_iff_not] at this
  omega
 ·intro h m hm
  unfold bk
  by_cases hr:R0 g m.1
  ·have:=h m hm hr
   rw [decide_eq_true hr,Bool.true_and,decide_eq_false_iff_not]; omega
  ·rw [decide_eq_false hr]; rfl
def Rk (g:Gr) (r:List Int):Prop:=r.length=g.1.toNat∧∀ x∈r,0≤x∧x≤1000
theorem rAt_mem {r:List Int} {p:Int} (h0:0≤p) (h:p.toNat<r.length):rAt r p∈r:=getD_in h
theorem Rk.at {g:Gr} {r:List Int} (h:Rk g r) {p:Int} (p1:0≤p) (p2:p<g.1):0≤rAt r p∧rAt r p≤1000:=h.2 _ (rAt_mem p1 (by have:=h.1; omega))
theorem lst_c0 (t:Int) (r:List Int) (m:Mv):lst (clm 0 t) r m=if k0 m=true then rAt r m.2.2.1+1 else if k0 m=true then rAt r m.2.2.1 else 0:=rfl
theorem lst_c1 (t:Int) (r:List Int) (m:Mv):lst (clm 1 t) r m=if own t m=true then rAt r m.2.2.1+1 else if notOwn t m=true then rAt r m.2.2.1 else 0:=rfl
theorem lst_c2 (t:Int) (r:List Int) (m:Mv):lst (clm 2 t) r m=if own t m=true then rAt r m.2.2.1+1 else if own t m=true then rAt r m.2.2.1 else 0:=rfl
def brkR (g:Gr) (o:Option Nat):Int×Int×Int×Bool×Bool:=match o with
 | none=>(0,0,0,false,false)
 | some k=>((g.2.getD k (0,0,0,false)).1,(g.2.getD k (0,0,0,false)).2.1,(g.2.getD k (0,0,0,false)).2.2.1,(g.2.getD k (0,0,0,false)).2.2.2,true)
def brkT (m:Mv):Int×Int×Int×Bool×Bool:=(m.1,m.2.1,m.2.2.1,m.2.2.2,true)
theorem lst_in {C:Clm} {g:Gr} (hg:GOK g) {r:List Int} (hr:Rk g r) {m:Mv} (hm:m∈g.2):0≤lst C r m∧lst C r m≤1001:=by
 have ht:=mv_to hg hm
 have:=hr.at ht.1 ht.2
 unfold lst
 split
 ·omega
 ·split<;>omega
theorem ranks_gen {C:Clm} {g:Gr} (hg:GOK g) {body:List Int→Option (Step (List Int) (List Int×Bool))} (h:∀ r,Rk g r→body r=some (match g.2.findIdx? (bk C g r) with
  | none=>.done (r,true)
  | some k=>if g.1≤lst C r (g.2.getD k (0,0,0,false)) then .done ([],false) else .next (r.set (g.2.getD k (0,0,0,false)).1.toNat (lst C r (g.2.getD k (0,0,0,false)))))) :
  whileO body (List.replicate g.1.toNat (0:Int))=some (rkR (rkA C g))∧(Bad C g∨∃ r,Least C g r):=by
 have hlo:=hg.lo
 have hhi:=hg.hi
 obtain ⟨r,e,hr⟩:=whileO_inv (body:=body) (fun r:List Int=>Low C g r∧∀ x∈r,0≤x∧x<g.1) (fun r=>(g.1*g.1 - r.sum).toNat) (fun r=>r=rkR (rkA C g)∧(Bad C g∨∃ r,Least C g r)) (by
  rintro r ⟨hL,hx⟩
  have hRk:Rk g r:=⟨hL.len,fun x hxm=>by have:=hx x hxm; omega⟩
  have hb:=h r hRk
  cases hf:g.2.findIdx? (bk C g r) with
  | none =>
   rw [hf] at hb
   have hle:=hL.least hg (bk_none.1 hf)
   exact .inr ⟨_,hb,by rw [rkA_some hle]; rfl,.inr ⟨r,hle⟩⟩
  | some k =>
   rw [hf] at hb
   simp only at hb
   rw [List.findIdx?_eq_some_iff_getElem] at hf
   obtain ⟨hk,hbk,_⟩:=hf
   have em:g.2.getD k (0,0,0,false)=g.2[k]:=getD_of (List.getElem?_eq_getElem hk)
   have hm:g.2[k]∈g.2:=List.getElem_mem hk
   rw [em] at hb
   generalize g.2[k]=m at *
   obtain ⟨b1,b2⟩:=bk_iff.1 hbk
   have hraise:=hL.raise hg hm b1 b2
   have hf:=mv_from hg hm
   have hlen:=hL.len
   have hli:=lst_in (C:=C) hg hRk hm
   by_cases hge:g.1≤lst C r m
   ·rw [if_pos hge] at hb
    have hbad:=hraise.bad hg hf.1 hf.2 (by rw [rAt_set ⟨hf.1,by omega⟩ hf.1,if_pos rfl]; exact hge)
    exact .inr ⟨_,hb,by rw [rkA_none hg hbad]; rfl,.inl hbad⟩
   ·rw [if_neg hge] at hb
    have hx':∀ x∈r.set m.1.toNat (lst C r m),0≤x∧x<g.1:=fun x hxm=>by
     rcases List.mem_or_eq_of_mem_set hxm with h1|h1
     ·exact hx x h1
     ·rw [h1]; omega
    refine .inl ⟨_,hb,⟨hraise,hx'⟩,?_⟩
    have s1:=sum_set r m.1.toNat (lst C r m) (by omega)
    have s2:=sum_bound (r.set m.1.toNat (lst C r m)) g.1 fun x hxm=>by have:=hx' x hxm; omega
    rw [List.length_set,hlen,Int.toNat_of_nonneg (by omega)] at s2
    have b2':r.getD m.1.toNat 0<lst C r m:=b2
    generalize g.1*g.1=q at *
    omega) (List.replicate g.1.toNat (0:Int)) ⟨Low.zero,fun x hx=>by rw [List.mem_replicate] at hx; omega⟩
 rw [e,hr.1]
 exact ⟨rfl,hr.2⟩
section
variable {g:Gr} (hg:GOK g)
include hg
theorem least_eq {r:List Int} (hr:Rk g r) {m:Mv} (hm:m∈g.2):progress_statement_least g.1 g.2 m r=some (lst (clm 0 0) r m):=by
 have ht:=mv_to hg hm
 have hin:=hr.at ht.1 ht.2
 have hl:=hr.1
 unfold rAt at hin
 rw [lst_c0]
 unfold progress_statement_least rAt
 have e1:progress_statementOf_1 m=some ():=rfl
 rw [e1,Option.bind_some]
 unfold k0
 by_cases h:m.2.2.2=true
 ·rw [h,if_neg (by simp),Option.bind_some,if_neg (by simp),if_neg (by simp),if_neg (by simp)]
 ·have h:m.2.2.2=false:=by simpa using h
  rw [h,if_pos (by simp),ck_pos ht.1,ck_pos (by omega),ck_pos (by rw [inK_i64]; omega),if_pos (by simp)]
theorem broken1_eq {r:List Int} (hr:Rk g r) {m:Mv} (hm:m∈g.2):progress_statement_broken_1 m r g.1 g.2 (reachL g)=some (bk (clm 0 0) g r m):=by
 have hf:=mv_from hg hm
 have hl:=hr.1
 unfold progress_statement_broken_1 bk
 rw [Contains2_eq _ _ (few_of (reachL_len hg)),Option.bind_some]
 by_cases h:R0 g m.1
 ·rw [decide_eq_true h,decide_eq_true (reachL_mem.2 h),if_pos rfl,ck_pos hf.1,ck_pos (by omega),least_eq hg hr hm,Option.bind_some]
  rfl
 ·rw [decide_eq_false h,decide_eq_false (fun hc=>h (reachL_mem.1 hc)),if_neg (by simp)]
  rfl
theorem idx_eq {r:List Int} (hr:Rk g r):slices_IndexFunc g.2 r g.1 g.2 (reachL g)=some (match g.2.findIdx? (bk (clm 0 0) g r) with|some k=>(k:Int)|none=>-1):=by
 have hgl:=hg.len
 have key:=whileO_first (body:=slices_IndexFunc_b1 g.2 r g.1 g.2 (reachL g)) g.2 (bk (clm 0 0) g r) (fun k m hk=>by
  have hlt:=(List.getElem?_eq_some_iff.1 hk).1
  unfold slices_IndexFunc_b1
  simp only [Int.toNat_natCast,getD_of hk]
  rw [if_pos (by rw [decide_eq_true_eq]; omega),ck_pos (by omega),ck_pos (by omega),broken1_eq hg hr (List.mem_of_getElem? hk),Option.bind_some,ck_pos (by rw [inK_i64]; omega)]
  cases bk (clm 0 0) g r m<;>rfl) (by
  unfold slices_IndexFunc_b1
  rw [if_neg (by simp)])
 unfold slices_IndexFunc
 rw [key,Option.bind_some]
 cases g.2.findIdx? (bk (clm 0 0) g r)<;>rfl
theorem broken_eq {r:List Int} (hr:Rk g r):progress_statement_broken g.1 g.2 r=some (brkR g (g.2.findIdx? (bk (clm 0 0) g r))):=by
 have hre:progress_graph_reached (g.1,g.2)=some (reachL g):=reached_eq hg
 unfold progress_statement_broken
 rw [hre,Option.bind_some,idx_eq hg hr,Option.bind_some]
 cases h:g.2.findIdx? (bk (clm 0 0) g r) with
 | none=>rfl
 | some k =>
  have hk:=(List.findIdx?_eq_some_iff_getElem.1 h).1
  simp only [Int.toNat_natCast]
  rw [if_neg (by rw [decide_eq_true_eq]; omega),ck_pos (by omega),ck_pos (by omega)]
  rfl
theorem ranksL:whileO (progress_statement_ranks_b1 g.1 g.2) (List.replicate g.1.toNat (0:Int))=some (rkR (rkA (clm 0 0) g))∧(Bad (clm 0 0) g∨∃ r,Least (clm 0 0) g r):=by
 refine ranks_gen hg fun r hr=>?_
 unfold progress_statement_ranks_b1
 rw [broken_eq hg hr,Option.bind_some]
 cases h:g.2.findIdx? (bk (clm 0 0) g r) with
 | none=>rfl
 | some k =>
  have hk:=(List.findIdx?_eq_some_iff_getElem.1 h).1
  have hm:g.2.getD k (0,0,0,false)∈g.2:=getD_in hk
  have hf:=mv_from hg hm
  have hl:=hr.1
  have hle:=least_eq hg hr hm
  have e:brkR g (some k)=brkT (g.2.getD k (0,0,0,false)):=rfl
  rw [e]
  simp only []
  generalize g.2.getD k (0,0,0,false)=m at *
  refine (if_neg (show ¬ (!(brkT m).2.2.2.2)=true by simp [brkT])).trans ?_
  have e2:((brkT m).1,(brkT m).2.1,(brkT m).2.2.1,(brkT m).2.2.2.1)=m:=rfl
  have e3:(r.set (brkT m).1.toNat (lst (clm 0 0) r m)).getD (brkT m).1.toNat 0=lst (clm 0 0) r m:=(getD_setL (show m.1.toNat<r.length by omega)).trans (if_pos rfl)
  rw [e2,hle,Option.bind_some,ck_pos (c:=0≤(brkT m).1) hf.1,ck_pos (c:=(brkT m).1<(r.length:Int)) (show m.1<_ by omega),ck_pos (c:=0≤(brkT m).1) hf.1,ck_pos (c:=(brkT m).1<((r.set (brkT m).1.toNat (lst (clm 0 0) r m)).length:Int)) (show m.1<_ by rw [List.length_set]; omega),e3]
  by_cases hge:g.1≤lst (clm 0 0) r m
  ·rw [if_pos (decide_eq_true hge),if_pos hge]
  ·rw [if_neg (by rw [decide_eq_true_eq]; exact hge),if_neg hge]
   rfl
theorem ranks_eq:progress_statement_ranks g.1 g.2=some (rkR (rkA (clm 0 0) g)):=by
 have hlo:=hg.lo
 have hhi:=hg.hi
 unfold progress_statement_ranks
 rw [ck_pos (by omega),ck_pos (by omega),(ranksL hg).1]
 rfl
theorem least_2_eq (t:Int) {r:List Int} (hr:Rk g r) {m:Mv} (hm:m∈g.2):progress_statement_least_2 g.1 g.2 t t m r=some (lst (clm 1 t) r m):=by
 have ht:=mv_to hg hm
 have hin:=hr.at ht.1 ht.2
 have hl:=hr.1
 unfold rAt at hin
 rw [lst_c1]
 unfold progress_statement_least_2 rAt
 rw [stOf2_eq,Option.bind_some]
 by_cases h:own t m=true
 ·rw [if_pos h,if_pos h,ck_pos ht.1,ck_pos (by omega),ck_pos (by rw [inK_i64]; omega)]
 ·rw [if_neg h,if_neg h,stOf3_eq,Option.bind_some]
  by_cases h2:notOwn t m=true
  ·rw [if_pos h2,if_pos h2,ck_pos ht.1,ck_pos (by omega)]
  ·rw [if_neg h2,if_neg h2]
theorem broken1_2_eq (t:Int) {r:List Int} (hr:Rk g r) {m:Mv} (hm:m∈g.2):progress_statement_broken_1_2 m r g.1 g.2 t t (reachL g)=some (bk (clm 1 t) g r m):=by
 have hf:=mv_from hg hm
 have hl:=hr.1
 unfold progress_statement_broken_1_2 bk
 rw [Contains2_eq _ _ (few_of (reachL_len hg)),Option.bind_some]
 by_cases h:R0 g m.1
 ·rw [decide_eq_true h,decide_eq_true (reachL_mem.2 h),if_pos rfl,ck_pos hf.1,ck_pos (by omega),least_2_eq hg t hr hm,Option.bind_some]
  rfl
 ·rw [decide_eq_false h,decide_eq_false (fun hc=>h (reachL_mem.1 hc)),if_neg (by simp)]
  rfl
theorem idx_2_eq (t:Int) {r:List Int} (hr:Rk g r):slices_IndexFunc_2 g.2 r g.1 g.2 t t (reachL g)=some (match g.2.findIdx? (bk (clm 1 t) g r) with|some k=>(k:Int)|none=>-1):=by
 have hgl:=hg.len
 have key:=whileO_first (body:=slices_IndexFunc_2_b1 g.2 r g.1 g.2 t t (reachL g)) g.2 (bk (clm 1 t) g r) (fun k m hk=>by
  have hlt:=(List.getElem?_eq_some_iff.1 hk).1
  unfold slices_IndexFunc_2_b1
  simp only [Int.toNat_natCast,getD_of hk]
  rw [if_pos (by rw [decide_eq_true_eq]; omega),ck_pos (by omega),ck_pos (by omega),broken1_2_eq hg t hr (List.mem_of_getElem? hk),Option.bind_some,ck_pos (by rw [inK_i64]; omega)]
  cases bk (clm 1 t) g r m<;>rfl) (by
  unfold slices_IndexFunc_2_b1
  rw [if_neg (by simp)])
 unfold slices_IndexFunc_2
 rw [key,Option.bind_some]
 cases g.2.findIdx? (bk (clm 1 t) g r)<;>rfl
theorem broken_2_eq (t:Int) {r:List Int} (hr:Rk g r):progress_statement_broken_2 g.1 g.2 t t r=some (brkR g (g.2.findIdx? (bk (clm 1 t) g r))):=by
 have hre:progress_graph_reached (g.1,g.2)=some (reachL g):=reached_eq hg
 unfold progress_statement_broken_2
 rw [hre,Option.bind_some,idx_2_eq hg t hr,Option.bind_some]
 cases h:g.2.findIdx? (bk (clm 1 t) g r) with
 | none=>rfl
 | some k =>
  have hk:=(List.findIdx?_eq_some_iff_getElem.1 h).1
  simp only [Int.toNat_natCast]
  rw [if_neg (by rw [decide_eq_true_eq]; omega),ck_pos (by omega),ck_pos (by omega)]
  rfl
theorem ranksL_2 (t:Int):whileO (progress_statement_ranks_2_b1 g.1 g.2 t t) (List.replicate g.1.toNat (0:Int))=some (rkR (rkA (clm 1 t) g))∧(Bad (clm 1 t) g∨∃ r,Least (clm 1 t) g r):=by
 refine ranks_gen hg fun r hr=>?_
 unfold progress_statement_ranks_2_b1
 rw [broken_2_eq hg t hr,Option.bind_some]
 cases h:g.2.findIdx? (bk (clm 1 t) g r) with
 | none=>rfl
 | some k =>
  have hk:=(List.findIdx?_eq_some_iff_getElem.1 h).1
  have hm:g.2.getD k (0,0,0,false)∈g.2:=getD_in hk
  have hf:=mv_from hg hm
  have hl:=hr.1
  have hle:=least_2_eq hg t hr hm
  have e:brkR g (some k)=brkT (g.2.getD k (0,0,0,false)):=rfl
  rw [e]
  simp only []
  generalize g.2.getD k (0,0,0,false)=m at *
  refine (if_neg (show ¬ (!(brkT m).2.2.2.2)=true by simp [brkT])).trans ?_
  have e2:((brkT m).1,(brkT m).2.1,(brkT m).2.2.1,(brkT m).2.2.2.1)=m:=rfl
  have e3:(r.set (brkT m).1.toNat (lst (clm 1 t) r m)).getD (brkT m).1.toNat 0=lst (clm 1 t) r m:=(getD_setL (show m.1.toNat<r.length by omega)).trans (if_pos rfl)
  rw [e2,hle,Option.bind_some,ck_pos (c:=0≤(brkT m).1) hf.1,ck_pos (c:=(brkT m).1<(r.length:Int)) (show m.1<_ by omega),ck_pos (c:=0≤(brkT m).1) hf.1,ck_pos (c:=(brkT m).1<((r.set (brkT m).1.toNat (lst (clm 1 t) r m)).length:Int)) (show m.1<_ by rw [List.length_set]; omega),e3]
  by_cases hge:g.1≤lst (clm 1 t) r m
  ·rw [if_pos (decide_eq_true hge),if_pos hge]
  ·rw [if_neg (by rw [decide_eq_true_eq]; exact hge),if_neg hge]
   rfl
theorem ranks_2_eq (t:Int):progress_statement_ranks_2 g.1 g.2 t t=some (rkR (rkA (clm 1 t) g)):=by
 have hlo:=hg.lo
 have hhi:=hg.hi
 unfold progress_statement_ranks_2
 rw [ck_pos (by omega),ck_pos (by omega),(ranksL_2 hg t).1]
 rfl
theorem least_3_eq (t:Int) {r:List Int} (hr:Rk g r) {m:Mv} (hm:m∈g.2):progress_statement_least_3 g.1 g.2 t t m r=some (lst (clm 2 t) r m):=by
 have ht:=mv_to hg hm
 have hin:=hr.at ht.1 ht.2
 have hl:=hr.1
 unfold rAt at hin
 rw [lst_c2]
 unfold progress_statement_least_3 rAt
 rw [stOf2_eq,Option.bind_some]
 by_cases h:own t m=true
 ·rw [if_pos h,if_pos h,ck_pos ht.1,ck_pos (by omega),ck_pos (by rw [inK_i64]; omega)]
 ·rw [if_neg h,if_neg h,Option.bind_some]
  by_cases h2:own t m=true
  ·rw [if_pos h2,if_pos h2,ck_pos ht.1,ck_pos (by omega)]
  ·rw [if_neg h2,if_neg h2]
theorem broken1_3_eq (t:Int) {r:List Int} (hr:Rk g r) {m:Mv} (hm:m∈g.2):progress_statement_broken_1_3 m r g.1 g.2 t t (reachL g)=some (bk (clm 2 t) g r m):=by
 have hf:=mv_from hg hm
 have hl:=hr.1
 unfold progress_statement_broken_1_3 bk
 rw [Contains2_eq _ _ (few_of (reachL_len hg)),Option.bind_some]
 by_cases h:R0 g m.1
 ·rw [decide_eq_true h,decide_eq_true (reachL_mem.2 h),if_pos rfl,ck_pos hf.1,ck_pos (by omega),least_3_eq hg t hr hm,Option.bind_some]
  rfl
 ·rw [decide_eq_false h,decide_eq_false (fun hc=>h (reachL_mem.1 hc)),if_neg (by simp)]
  rfl
theorem idx_3_eq (t:Int) {r:List Int} (hr:Rk g r):slices_IndexFunc_3 g.2 r g.1 g.2 t t (reachL g)=some (match g.2.findIdx? (bk (clm 2 t) g r) with|some k=>(k:Int)|none=>-1):=by
 have hgl:=hg.len
 have key:=whileO_first (body:=slices_IndexFunc_3_b1 g.2 r g.1 g.2 t t (reachL g)) g.2 (bk (clm 2 t) g r) (fun k m hk=>by
  have hlt:=(List.getElem?_eq_some_iff.1 hk).1
  unfold slices_IndexFunc_3_b1
  simp only [Int.toNat_natCast,getD_of hk]
  rw [if_pos (by rw [decide_eq_true_eq]; omega),ck_pos (by omega),ck_pos (by omega),broken1_3_eq hg t hr (List.mem_of_getElem? hk),Option.bind_some,ck_pos (by rw [inK_i64]; omega)]
  cases bk (clm 2 t) g r m<;>rfl) (by
  unfold slices_IndexFunc_3_b1
  rw [if_neg (by simp)])
 unfold slices_IndexFunc_3
 rw [key,Option.bind_some]
 cases g.2.findIdx? (bk (clm 2 t) g r)<;>rfl
theorem broken_3_eq (t:Int) {r:List Int} (hr:Rk g r):progress_statement_broken_3 g.1 g.2 t t r=some (brkR g (g.2.findIdx? (bk (clm 2 t) g r))):=by
 have hre:progress_graph_reached (g.1,g.2)=some (reachL g):=reached_eq hg
 unfold progress_statement_broken_3
 rw [hre,Option.bind_some,idx_3_eq hg t hr,Option.bind_some]
 cases h:g.2.findIdx? (bk (clm 2 t) g r) with
 | none=>rfl
 | some k =>
  have hk:=(List.findIdx?_eq_some_iff_getElem.1 h).1
  simp only [Int.toNat_natCast]
  rw [if_neg (by rw [decide_eq_true_eq]; omega),ck_pos (by omega),ck_pos (by omega)]
  rfl
theorem ranksL_3 (t:Int):whileO (progress_statement_ranks_3_b1 g.1 g.2 t t) (List.replicate g.1.toNat (0:Int))=some (rkR (rkA (clm 2 t) g))∧(Bad (clm 2 t) g∨∃ r,Least (clm 2 t) g r):=by
 refine ranks_gen hg fun r hr=>?_
 unfold progress_statement_ranks_3_b1
 rw [broken_3_eq hg t hr,Option.bind_some]
 cases h:g.2.findIdx? (bk (clm 2 t) g r) with
 | none=>rfl
 | some k =>
  have hk:=(List.findIdx?_eq_some_iff_getElem.1 h).1
  have hm:g.2.getD k (0,0,0,false)∈g.2:=getD_in hk
  have hf:=mv_from hg hm
  have hl:=hr.1
  have hle:=least_3_eq hg t hr hm
  have e:brkR g (some k)=brkT (g.2.getD k (0,0,0,false)):=rfl
  rw [e]
  simp only []
  generalize g.2.getD k (0,0,0,false)=m at *
  refine (if_neg (show ¬ (!(brkT m).2.2.2.2)=true by simp [brkT])).trans ?_
  have e2:((brkT m).1,(brkT m).2.1,(brkT m).2.2.1,(brkT m).2.2.2.1)=m:=rfl
  have e3:(r.set (brkT m).1.toNat (lst (clm 2 t) r m)).getD (brkT m).1.toNat 0=lst (clm 2 t) r m:=(getD_setL (show m.1.toNat<r.length by omega)).trans (if_pos rfl)
  rw [e2,hle,Option.bind_some,ck_pos (c:=0≤(brkT m).1) hf.1,ck_pos (c:=(brkT m).1<(r.length:Int)) (show m.1<_ by omega),ck_pos (c:=0≤(brkT m).1) hf.1,ck_pos (c:=(brkT m).1<((r.set (brkT m).1.toNat (lst (clm 2 t) r m)).length:Int)) (show m.1<_ by rw [List.length_set]; omega),e3]
  by_cases hge:g.1≤lst (clm 2 t) r m
  ·rw [if_pos (decide_eq_true hge),if_pos hge]
  ·rw [if_neg (by rw [decide_eq_true_eq]; exact hge),if_neg hge]
   rfl
theorem ranks_3_eq (t:Int):progress_statement_ranks_3 g.1 g.2 t t=some (rkR (rkA (clm 2 t) g)):=by
 have hlo:=hg.lo
 have hhi:=hg.hi
 unfold progress_statement_ranks_3
 rw [ck_pos (by omega),ck_pos (by omega),(ranksL_3 hg t).1]
 rfl
end
/-! ### The program's answers -/
def ask (g:Gr) (c t:Int):Int:=if okG g=true then (if isB c 3=true∧isB t 3=true∧(c=0→t=0) then 0 else 2) else 70
theorem ask_ok {g:Gr} {c t:Int} (ho:okG g=true) (h1:isB c 3=true) (h2:isB t 3=true) (h3:c=0→t=0):ask g c t=0:=by
 unfold ask
 rw [if_pos ho,if_pos ⟨h1,h2,h3⟩]
theorem ask_two {g:Gr} {c t:Int} (ho:okG g=true) (h:¬ (isB c 3=true∧isB t 3=true∧(c=0→t=0))):ask g c t=2:=by
 unfold ask
 rw [if_pos ho,if_neg h]
theorem ask_bad {g:Gr} {c t:Int} (ho:¬ okG g=true):ask g c t=70:=by
 unfold ask
 rw [if_neg ho]
theorem ask_zero {g:Gr} {c t:Int}:ask g c t=0↔GOK g∧(0≤c∧c<3)∧(0≤t∧t<3)∧(c=0→t=0):=by
 by_cases ho:okG g=true
 ·by_cases h:isB c 3=true∧isB t 3=true∧(c=0→t=0)
  ·rw [ask_ok ho h.1 h.2.1 h.2.2]
   exact ⟨fun _=>⟨okG_iff.1 ho,isB_iff.1 h.1,isB_iff.1 h.2.1,h.2.2⟩,fun _=>rfl⟩
  ·rw [ask_two ho h]
   exact ⟨fun hh=>absurd hh (by decide),fun hh=>absurd ⟨isB_iff.2 hh.2.1,isB_iff.2 hh.2.2.1,hh.2.2.2⟩ h⟩
 ·rw [ask_bad ho]
  exact ⟨fun hh=>absurd hh (by decide),fun hh=>absurd (okG_iff.2 hh.1) ho⟩
theorem ask_cases {g:Gr} {c t:Int} (h:ask g c t=0):GOK g∧(c=0∧t=0∨c=1∨c=2):=by
 obtain ⟨hg,hc,_,ht⟩:=ask_zero.1 h
 refine ⟨hg,?_⟩
 have:c=0∨c=1∨c=2:=by omega
 rcases this with rfl|rfl|rfl
 ·exact .inl ⟨rfl,ht rfl⟩
 ·exact .inr (.inl rfl)
 ·exact .inr (.inr rfl)
def stm (g:Gr) (c:Int):Sum Gr (Sum Gr Gr):=if c=0 then .inl g else if c=1 then .inr (.inl g) else .inr (.inr g)
def stmR (g:Gr) (c t:Int):Sum Int (Sum Gr (Sum Gr Gr)):=if ask g c t=0 then .inr (stm g c) else .inl (ask g c t)
theorem stOf_k1 (g:Gr) (c:Int):progress_statementOf_k1 c (g.1,g.2,0)=some (.inr (stm g c)):=by
 unfold progress_statementOf_k1 stm
 by_cases h0:c=0
 ·rw [if_pos (decide_eq_true h0),if_pos h0]
 ·rw [if_neg (by rw [decide_eq_true_eq]; exact h0),if_neg h0]
  by_cases h1:c=1
  ·rw [if_pos (decide_eq_true h1),if_pos h1]
  ·rw [if_neg (by rw [decide_eq_true_eq]; exact h1),if_neg h1]
theorem stmR_bad {g:Gr} {c t:Int} (h:ask g c t≠0):stmR g c t=.inl (ask g c t):=if_neg h
theorem stmR_ok {g:Gr} {c t:Int} (h:ask g c t=0):stmR g c t=.inr (stm g c):=if_pos h
theorem statementOf_eq (g:Gr) (hz:okZ g) (c t:Int):progress_statementOf g c t=some (stmR g c t):=by
 unfold progress_statementOf
 rw [graphOf_eq g hz,Option.bind_some]
 by_cases ho:okG g=true
 ·have two:¬ (isB c 3=true∧isB t 3=true∧(c=0→t=0))→(some (.inl 2):Option (Sum Int (Sum Gr (Sum Gr Gr))))=some (stmR g c t):=fun h=>by
   have:=ask_two ho h
   rw [stmR_bad (by omega),this]
  rw [if_pos ho,if_neg (by simp),isBelow_eq,Option.bind_some]
  by_cases h1:isB c 3=true
  ·rw [if_neg (by simp [h1]),isThread_eq,Option.bind_some]
   by_cases h2:isB t 3=true
   ·rw [if_neg (by simp [h2])]
    by_cases h3:c=0
    ·rw [if_pos (decide_eq_true h3)]
     by_cases h4:t=0
     ·rw [if_neg (by simp [h4]),stOf_k1,stmR_ok (ask_ok ho h1 h2 fun _=>h4)]
     ·rw [if_pos (by simp [h4])]
      exact two fun hh=>h4 (hh.2.2 h3)
    ·rw [if_neg (by rw [decide_eq_true_eq]; exact h3),stOf_k1,stmR_ok (ask_ok ho h1 h2 fun h=>absurd h h3)]
   ·rw [if_pos (by simp [h2])]
    exact two fun hh=>h2 hh.2.1
  ·rw [if_pos (by simp [h1])]
   exact two fun hh=>h1 hh.1
 ·rw [if_neg ho,if_pos (by simp),stmR_bad (by rw [ask_bad ho]; decide),ask_bad ho]
noncomputable def holR (g:Gr) (c t:Int):Bool×Int:=if ask g c t=0 then ((rkR (rkA (clm c t) g)).2,0) else (false,ask g c t)
noncomputable def rksR (g:Gr) (c t:Int):List Int×Int:=if ask g c t=0 then (match rkA (clm c t) g with|some r=>(r,0)|none=>([],5)) else ([],ask g c t)
def rk100 (g:Gr) (r:List Int):Bool:=decide ((r.length:Int)=g.1)&&r.all fun x=>isB x 101
instance (C:Clm) (g:Gr) (r:List Int):Decidable (Prv C g r):=inferInstanceAs (Decidable (∀ m∈g.2,R0 g m.1→lst C r m≤rAt r m.1))
def prvR (g:Gr) (c t:Int) (r:List Int):Bool×Int:=if ask g c t=0 then (if rk100 g r=true then (decide (Prv (clm c t) g r),0) else (false,2)) else (false,ask g c t)
theorem Holds_eq (g:Gr) (hz:okZ g) (c t:Int):progress_Holds g c t=some (holR g c t):=by
 unfold progress_Holds holR
 rw [statementOf_eq g hz,Option.bind_some]
 by_cases h:ask g c t=0
 ·rw [stmR_ok h,if_pos h]
  obtain ⟨hg,⟨rfl,rfl⟩|rfl|rfl⟩:=ask_cases h
  ·have e:=ranks_eq hg
   show (progress_statement_ranks g.1 g.2).bind _=_
   rw [e]; rfl
  ·have e:=ranks_2_eq hg t
   show (progress_statement_ranks_2 g.1 g.2 t t).bind _=_
   rw [e]; rfl
  ·have e:=ranks_3_eq hg t
   show (progress_statement_ranks_3 g.1 g.2 t t).bind _=_
   rw [e]; rfl
 ·rw [stmR_bad h,if_neg h]
  simp only
  rw [if_pos (by simp [h])]
theorem Ranks_eq (g:Gr) (hz:okZ g) (c t:Int):progress_Ranks g c t=some (rksR g c t):=by
 unfold progress_Ranks rksR
 rw [statementOf_eq g hz,Option.bind_some]
 by_cases h:ask g c t=0
 ·rw [stmR_ok h,if_pos h]
  obtain ⟨hg,⟨rfl,rfl⟩|rfl|rfl⟩:=ask_cases h
  ·have e:=ranks_eq hg
   show (progress_statement_ranks g.1 g.2).bind _=_
   rw [e]; cases rkA (clm 0 0) g<;>rfl
  ·have e:=ranks_2_eq hg t
   show (progress_statement_ranks_2 g.1 g.2 t t).bind _=_
   rw [e]; cases rkA (clm 1 t) g<;>rfl
  ·have e:=ranks_3_eq hg t
   show (progress_statement_ranks_3 g.1 g.2 t t).bind _=_
   rw [e]; cases rkA (clm 2 t) g<;>rfl
 ·rw [stmR_bad h,if_neg h]
  simp only
  rw [if_pos (by simp [h])]
theorem isRanks1_eq (x:Int):progress_statement_isRanks_1 x=some (!isB x 101):=by
 unfold progress_statement_isRanks_1
 rw [isBelow_eq]; rfl
theorem Cont7_eq (l:List Int) (hf:few l):slices_ContainsFunc_2 l=some (!l.all fun x=>isB x 101):=by
 unfold slices_ContainsFunc_2 slices_IndexFunc_7
 have key:=whileO_first (body:=slices_IndexFunc_7_b1 l) l (fun x=>!isB x 101) (fun k x hk=>by
  obtain ⟨hlt,kin⟩:=few_in hf hk
  unfold slices_IndexFunc_7_b1
  simp only [Int.toNat_natCast,getD_of hk]
  rw [if_pos (by rw [decide_eq_true_eq]; omega),ck_pos (by omega),ck_pos (by omega),isRanks1_eq,Option.bind_some,ck_pos kin]
  cases isB x 101<;>rfl) (by
  unfold slices_IndexFunc_7_b1
  rw [if_neg (by simp)])
 rw [key,Option.bind_some]
 cases hf:l.findIdx? (fun x=>!isB x 101) with
 | none =>
  have:l.all (fun x=>isB x 101)=true:=by
   rw [List.all_eq_true]
   intro x hx
   have:=List.findIdx?_eq_none_iff.1 hf x hx
   simpa using this
  rw [this]; rfl
 | some k =>
  obtain ⟨hk1,hk2,_⟩:=List.findIdx?_eq_some_iff_getElem.1 hf
  have:l.all (fun x=>isB x 101)=false:=by
   rw [List.all_eq_false]
   exact ⟨l[k]'hk1,List.getElem_mem hk1,by simpa using hk2⟩
  rw [this]
  simp only [Option.bind_some]
  rw [decide_eq_true (by omega)]; rfl
theorem isRanks_eq (g:Gr) (r:List Int) (hf:few r):progress_statement_isRanks g.1 g.2 r=some (rk100 g r):=by
 unfold progress_statement_isRanks rk100
 by_cases h:(r.length:Int)=g.1
 ·rw [if_pos (decide_eq_true h),Cont7_eq r hf,decide_eq_true h]
  simp
 ·rw [if_neg (by rw [decide_eq_true_eq]; exact h),decide_eq_false h]; rfl
theorem rk100_Rk {g:Gr} {r:List Int} (h:rk100 g r=true):Rk g r:=by
 unfold rk100 at h
 rw [Bool.and_eq_true,decide_eq_true_iff,List.all_eq_true] at h
 exact ⟨by omega,fun x hx=>by have:=isB_iff.1 (h.2 x hx); omega⟩
theorem brk_dec (C:Clm) (g:Gr) (r:List Int):(!(brkR g (g.2.findIdx? (bk C g r))).2.2.2.2)=decide (Prv C g r):=by
 cases h:g.2.findIdx? (bk C g r) with
 | none=>rw [decide_eq_true (bk_none.1 h)]; rfl
 | some k =>
  rw [decide_eq_false fun hp=>by rw [bk_none.2 hp] at h; cases h]
  rfl
theorem Prove_eq (g:Gr) (hz:okZ g) (c t:Int) (r:List Int) (hf:few r):progress_Prove g c t r=some (prvR g c t r):=by
 unfold progress_Prove prvR
 rw [statementOf_eq g hz,Option.bind_some]
 by_cases h:ask g c t=0
 ·rw [stmR_ok h,if_pos h]
  have h2:=isRanks_eq g r hf
  obtain ⟨hg,⟨rfl,rfl⟩|rfl|rfl⟩:=ask_cases h
  ·show (progress_statement_isRanks g.1 g.2 r).bind _=_
   rw [h2,Option.bind_some]
   by_cases h3:rk100 g r=true
   ·rw [if_neg (by simp [h3]),if_pos h3,broken_eq hg (rk100_Rk h3),Option.bind_some,brk_dec]
   ·rw [if_pos (by simp [h3]),if_neg h3]
  ·show (progress_statement_isRanks g.1 g.2 r).bind _=_
   rw [h2,Option.bind_some]
   by_cases h3:rk100 g r=true
   ·rw [if_neg (by simp [h3]),if_pos h3,broken_2_eq hg t (rk100_Rk h3),Option.bind_some,brk_dec]
   ·rw [if_pos (by simp [h3]),if_neg h3]
  ·show (progress_statement_isRanks g.1 g.2 r).bind _=_
   rw [h2,Option.bind_some]
   by_cases h3:rk100 g r=true
   ·rw [if_neg (by simp [h3]),if_pos h3,broken_3_eq hg t (rk100_Rk h3),Option.bind_some,brk_dec]
   ·rw [if_pos (by simp [h3]),if_neg h3]
 ·rw [stmR_bad h,if_neg h]
  simp only
  rw [if_pos (by simp [h])]
theorem least_or {g:Gr} {c t:Int} (h:ask g c t=0):Bad (clm c t) g∨∃ r,Least (clm c t) g r:=by
 obtain ⟨hg,⟨rfl,rfl⟩|rfl|rfl⟩:=ask_cases h
 ·exact (ranksL hg).2
 ·exact (ranksL_2 hg t).2
 ·exact (ranksL_3 hg t).2
end Go.Proofs.Yteclokkdgmacpaa
