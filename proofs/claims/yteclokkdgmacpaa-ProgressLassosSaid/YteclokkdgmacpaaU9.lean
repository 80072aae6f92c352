/-
 Layer 7,pure: ranks that prove a claim; there are some exactly if there is no circle that refutes it; the least ones.
-/
import Derived.Test.YteclokkdgmacpaaU4
namespace Go.Proofs.Yteclokkdgmacpaa
open Go.RowKit
set_option linter.unusedVariables false
set_option linter.unusedSimpArgs false
set_option linter.unusedSectionVars false
set_option maxRecDepth 10000
structure Clm where
 goes:Mv→Bool
 cnt:Mv→Bool
 sub:∀ m,cnt m=true→goes m=true
def clm (c t:Int):Clm :=
 if c=0 then ⟨k0,k0,fun _ h=>h⟩
 else if c=1 then ⟨notOwn t,own t,fun m h=>by
  unfold own at h; unfold notOwn
  rw [Bool.and_eq_true] at h
  rw [h.2]; simp⟩
 else ⟨own t,own t,fun _ h=>h⟩
def rAt (r:List Int) (p:Int):Int:=r.getD p.toNat 0
def wt (C:Clm) (m:Mv):Int:=if C.cnt m=true then 1 else 0
def lst (C:Clm) (r:List Int) (m:Mv):Int:=if C.cnt m=true then rAt r m.2.2.1 + 1 else if C.goes m=true then rAt r m.2.2.1 else 0
theorem lst_goes {C:Clm} {r:List Int} {m:Mv} (h:C.goes m=true):lst C r m=rAt r m.2.2.1 + wt C m:=by
 unfold lst wt
 by_cases hc:C.cnt m=true
 ·rw [if_pos hc,if_pos hc]
 ·rw [if_neg hc,if_neg hc,if_pos h]; omega
theorem lst_not {C:Clm} {r:List Int} {m:Mv} (h:¬ C.goes m=true):lst C r m=0:=by
 unfold lst
 rw [if_neg fun hc=>h (C.sub m hc),if_neg h]
theorem wt_in (C:Clm) (m:Mv):0≤wt C m∧wt C m≤1:=by unfold wt; split <;> omega
def Prv (C:Clm) (g:Gr) (r:List Int):Prop:=∀ m∈g.2,R0 g m.1→lst C r m≤rAt r m.1
def Bad (C:Clm) (g:Gr):Prop:=∃ m∈g.2,R0 g m.1∧C.cnt m=true∧rch C.goes g m.2.2.1 m.1
section
variable {C:Clm} {g:Gr} (hg:GOK g)
include hg
theorem R0_step {m:Mv} (hm:m∈g.2) (h:R0 g m.1):R0 g m.2.2.1:=rch_step hg (zero_in hg) hm h rfl
theorem mv_to {m:Mv} (hm:m∈g.2):0≤m.2.2.1∧m.2.2.1 < g.1:=(hg.mv m hm).2.1
theorem mv_from {m:Mv} (hm:m∈g.2):0≤m.1∧m.1 < g.1:=(hg.mv m hm).1
theorem prv_good {r:List Int} (h:Prv C g r):¬ Bad C g:=by
 rintro ⟨m,hm,h1,h2,h3⟩
 have hl:=h m hm h1
 rw [lst_goes (C.sub m h2)] at hl
 have hw:wt C m=1:=by unfold wt; rw [if_pos h2]
 have key:=rch_ind hg (mv_to hg hm) (S:=fun q=>R0 g q∧rAt r q≤rAt r m.2.2.1) ⟨R0_step hg hm h1,Int.le_refl _⟩ (fun m' hm' hS ha=>by
  refine ⟨R0_step hg hm' hS.1,?_⟩
  have:=h m' hm' hS.1
  rw [lst_goes ha] at this
  have:=(wt_in C m').1
  have:=hS.2
  omega) h3
 have:=key.2
 omega
end
theorem filter_le {α:Type} {p q:α→Bool}:∀ {L:List α},(∀ x∈L,p x=true→q x=true)→(L.filter p).length≤(L.filter q).length
 | [],_=>Nat.le_refl _
 | x :: L,h=>by
  have ih:=filter_le (L:=L) fun y hy=>h y (by simp [hy])
  rw [List.filter_cons,List.filter_cons]
  by_cases hp:p x=true
  ·rw [if_pos hp,if_pos (h x (by simp) hp)]; simp; exact ih
  ·rw [if_neg hp]
   split
   ·simp; omega
   ·exact ih
theorem filter_lt {α:Type} {p q:α→Bool}:∀ {L:List α},(∀ x∈L,p x=true→q x=true)→∀ {y:α},y∈L→p y=false→q y=true→(L.filter p).length < (L.filter q).length
 | x :: L,h,y,hy,hp,hq=>by
  have hle:=filter_le (L:=L) fun z hz=>h z (by simp [hz])
  rw [List.filter_cons,List.filter_cons]
  rcases List.mem_cons.1 hy with e | hy
  ·subst e
   rw [if_neg (by simp [hp]),if_pos hq]; simp; omega
  ·have ih:=filter_lt (L:=L) (fun z hz=>h z (by simp [hz])) hy hp hq
   by_cases hpx:p x=true
   ·rw [if_pos hpx,if_pos (h x (by simp) hpx)]; simp; exact ih
   ·rw [if_neg hpx]
    split
    ·simp; omega
    ·exact ih
def src (C:Clm) (g:Gr) (q:Int):Bool:=g.2.any fun m=>decide (m.1=q) && C.cnt m
def inD (C:Clm) (g:Gr) (p:Int) (q:Nat):Bool:=decide (rch C.goes g p (q:Int)) && src C g (q:Int)
def dRank (C:Clm) (g:Gr) (p:Int):Nat:=((List.range g.1.toNat).filter (inD C g p)).length
def dRanks (C:Clm) (g:Gr):List Int:=(List.range g.1.toNat).map fun p:Nat=>if R0 g (p:Int) then (dRank C g (p:Int):Int) else 0
section
variable {C:Clm} {g:Gr} (hg:GOK g) (hb:¬ Bad C g)
include hg hb
theorem dRank_goes {m:Mv} (hm:m∈g.2) (hr:R0 g m.1) (ha:C.goes m=true):(dRank C g m.2.2.1:Int) + wt C m≤dRank C g m.1:=by
 have hsub:∀ q∈List.range g.1.toNat,inD C g m.2.2.1 q=true→inD C g m.1 q=true:=fun q _ h=>by
  unfold inD at *
  rw [Bool.and_eq_true,decide_eq_true_iff] at *
  exact ⟨rch_trans hg (mv_from hg hm) (rch_step hg (mv_from hg hm) hm (rch_refl hg (mv_from hg hm)) ha) h.1,h.2⟩
 unfold wt
 split
 ·rename_i hc
  have hf:=mv_from hg hm
  have:=filter_lt hsub (y:=m.1.toNat) (List.mem_range.2 (by omega)) (by
   unfold inD
   rw [Int.toNat_of_nonneg hf.1]
   rw [Bool.and_eq_false_iff]
   left
   rw [decide_eq_false_iff_not]
   intro h
   exact hb ⟨m,hm,hr,hc,h⟩) (by
   unfold inD src
   rw [Int.toNat_of_nonneg hf.1,Bool.and_eq_true,decide_eq_true_iff,List.any_eq_true]
   exact ⟨rch_refl hg hf,m,hm,by rw [hc]; simp⟩)
  unfold dRank
  omega
 ·have:=filter_le hsub
  unfold dRank
  omega
theorem dRanks_at {p:Int} (hp:0≤p∧p < g.1):rAt (dRanks C g) p=if R0 g p then (dRank C g p:Int) else 0:=by
 unfold rAt dRanks
 have hlt:p.toNat < g.1.toNat:=by omega
 have e:((p.toNat:Nat):Int)=p:=by omega
 rw [List.getD,List.getElem?_map,List.getElem?_range hlt]
 simp only [Option.map_some,Option.getD_some,e]
theorem dRanks_prv:Prv C g (dRanks C g):=by
 intro m hm hr
 have hto:=R0_step hg hm hr
 rw [dRanks_at hg hb (mv_from hg hm),if_pos hr]
 by_cases ha:C.goes m=true
 ·rw [lst_goes ha,dRanks_at hg hb (mv_to hg hm),if_pos hto]
  exact dRank_goes hg hb hm hr ha
 ·rw [lst_not ha]; omega
theorem dRank_lt {p:Int} (hp:R0 g p):dRank C g p < g.1.toNat:=by
 have hle:dRank C g p≤g.1.toNat:=by
  have:=List.length_filter_le (inD C g p) (List.range g.1.toNat)
  rw [List.length_range] at this
  exact this
 by_cases h:dRank C g p < g.1.toNat
 ·exact h
 exfalso
 have hall:∀ q∈List.range g.1.toNat,inD C g p q=true:=by
  have:((List.range g.1.toNat).filter (inD C g p)).length=(List.range g.1.toNat).length:=by
   rw [List.length_range]; unfold dRank at h hle; omega
  exact List.length_filter_eq_length_iff.1 this
 have no:∀ (n:Nat) (q:Int),0≤q∧q < g.1→dRank C g q=n→False:=by
  intro n
  induction n using Nat.strongRecOn with
  | ind n ih =>
   intro q hq hn
   have:=hall q.toNat (List.mem_range.2 (by omega))
   unfold inD src at this
   rw [Int.toNat_of_nonneg hq.1,Bool.and_eq_true,decide_eq_true_iff,List.any_eq_true] at this
   obtain ⟨hr,m,hm,hmc⟩:=this
   rw [Bool.and_eq_true,decide_eq_true_iff] at hmc
   have hpq:R0 g q:=rch_trans hg (zero_in hg) hp (rch_mono hg (rch_in hg (zero_in hg) hp) (fun _ _ _=>rfl) hr)
   have h1:=dRank_goes hg hb hm (by rw [hmc.1]; exact hpq) (C.sub m hmc.2)
   have hw:wt C m=1:=by unfold wt; rw [if_pos hmc.2]
   rw [hmc.1] at h1
   exact ih (dRank C g m.2.2.1) (by omega) m.2.2.1 (mv_to hg hm) rfl
 exact no _ p (rch_in hg (zero_in hg) hp) rfl
end
structure Least (C:Clm) (g:Gr) (r:List Int):Prop where
 len:r.length=g.1.toNat
 prv:Prv C g r
 rng:∀ p:Int,0≤p→p < g.1→0≤rAt r p∧rAt r p < g.1
 zer:∀ p:Int,0≤p→p < g.1→¬ R0 g p→rAt r p=0
 le:∀ r':List Int,Prv C g r'→(∀ p:Int,0≤p→p < g.1→0≤rAt r' p)→∀ p:Int,0≤p→p < g.1→rAt r p≤rAt r' p
theorem Least.one {C:Clm} {g:Gr} {r s:List Int} (h:Least C g r) (k:Least C g s):r=s:=by
 refine List.ext_getElem (by rw [h.len,k.len]) fun i h1 h2=>?_
 have hl:=h.len
 have a:=h.le s k.prv (fun p p1 p2=>(k.rng p p1 p2).1) (i:Int) (by omega) (by omega)
 have b:=k.le r h.prv (fun p p1 p2=>(h.rng p p1 p2).1) (i:Int) (by omega) (by omega)
 unfold rAt at a b
 rw [Int.toNat_natCast,getD_of (List.getElem?_eq_getElem h1),getD_of (List.getElem?_eq_getElem h2)] at a b
 omega
theorem lst_mono {C:Clm} {r s:List Int} {m:Mv} (h:rAt r m.2.2.1≤rAt s m.2.2.1):lst C r m≤lst C s m:=by
 unfold lst
 split
 ·omega
 ·split
  ·exact h
  ·exact Int.le_refl _
theorem rAt_set {r:List Int} {p q x:Int} (hp:0≤p∧p.toNat < r.length) (hq:0≤q):rAt (r.set p.toNat x) q=if q=p then x else rAt r q:=by
 unfold rAt
 rw [getD_setL hp.2]
 by_cases e:q=p
 ·subst e; rw [if_pos rfl,if_pos rfl]
 ·rw [if_neg e,if_neg (by omega)]
theorem sum_set:∀ (r:List Int) (i:Nat) (x:Int),i < r.length→(r.set i x).sum=r.sum - r.getD i 0 + x
 | a :: r,0,x,_=>by simp; omega
 | a :: r,i + 1,x,h=>by
  rw [List.set_cons_succ,List.sum_cons,sum_set r i x (by simpa using h),List.sum_cons]
  have:(a :: r).getD (i + 1) 0=r.getD i 0:=rfl
  rw [this]; omega
theorem sum_bound:∀ (r:List Int) (n:Int),(∀ x∈r,x≤n)→r.sum≤r.length * n
 | [],n,_=>by simp
 | a :: r,n,h=>by
  have ih:=sum_bound r n fun x hx=>h x (by simp [hx])
  have:=h a (by simp)
  rw [List.sum_cons,List.length_cons,Int.natCast_add,Int.add_mul]
  have:((1:Nat):Int) * n=n:=by simp
  omega
structure Low (C:Clm) (g:Gr) (r:List Int):Prop where
 len:r.length=g.1.toNat
 nn:∀ p:Int,0≤p→p < g.1→0≤rAt r p
 zer:∀ p:Int,0≤p→p < g.1→¬ R0 g p→rAt r p=0
 le:∀ r':List Int,Prv C g r'→(∀ p:Int,0≤p→p < g.1→0≤rAt r' p)→∀ p:Int,0≤p→p < g.1→rAt r p≤rAt r' p
theorem rep_at (n:Nat) (p:Int):rAt (List.replicate n (0:Int)) p=0:=by
 unfold rAt
 simp only [List.getD,List.getElem?_replicate]
 split <;> rfl
theorem Low.zero {C:Clm} {g:Gr}:Low C g (List.replicate g.1.toNat (0:Int)) where
 len:=by simp
 nn:=fun p _ _=>by rw [rep_at]; exact Int.le_refl _
 zer:=fun p _ _ _=>rep_at _ _
 le:=fun r' _ hn p p1 p2=>by rw [rep_at]; exact hn p p1 p2
theorem Low.raise {C:Clm} {g:Gr} (hg:GOK g) {r:List Int} (h:Low C g r) {m:Mv} (hm:m∈g.2) (hr:R0 g m.1) (hlt:rAt r m.1 < lst C r m):Low C g (r.set m.1.toNat (lst C r m)):=by
 have hf:=mv_from hg hm
 have hl:=h.len
 have hp:0≤m.1∧m.1.toNat < r.length:=⟨hf.1,by omega⟩
 refine ⟨by simpa using hl,fun p p1 p2=>?_,fun p p1 p2 hn=>?_,fun r' hr' hn p p1 p2=>?_⟩
 ·rw [rAt_set hp p1]
  split
  ·have:=h.nn m.1 hf.1 hf.2; omega
  ·exact h.nn p p1 p2
 ·rw [rAt_set hp p1,if_neg fun e=>hn (by rw [e]; exact hr)]
  exact h.zer p p1 p2 hn
 ·rw [rAt_set hp p1]
  split
  ·rename_i e
   have:=hr' m hm hr
   have ht:=mv_to hg hm
   have:=lst_mono (C:=C) (m:=m) (h.le r' hr' hn m.2.2.1 ht.1 ht.2)
   rw [e]; omega
  ·exact h.le r' hr' hn p p1 p2
theorem Low.least {C:Clm} {g:Gr} (hg:GOK g) {r:List Int} (h:Low C g r) (hp:Prv C g r):Least C g r:=by
 refine ⟨h.len,hp,fun p p1 p2=>⟨h.nn p p1 p2,?_⟩,h.zer,h.le⟩
 have hb:=prv_good hg hp
 have hd:=h.le (dRanks C g) (dRanks_prv hg hb) (fun q q1 q2=>by rw [dRanks_at hg hb ⟨q1,q2⟩]; split <;> omega) p p1 p2
 rw [dRanks_at hg hb ⟨p1,p2⟩] at hd
 have:=hg.lo
 split at hd
 ·rename_i hr
  have:=dRank_lt hg hb hr
  omega
 ·omega
theorem Low.bad {C:Clm} {g:Gr} (hg:GOK g) {r:List Int} (h:Low C g r) {p:Int} (p1:0≤p) (p2:p < g.1) (hge:g.1≤rAt r p):Bad C g:=by
 by_cases hb:Bad C g
 ·exact hb
 exfalso
 have hd:=h.le (dRanks C g) (dRanks_prv hg hb) (fun q q1 q2=>by rw [dRanks_at hg hb ⟨q1,q2⟩]; split <;> omega) p p1 p2
 rw [dRanks_at hg hb ⟨p1,p2⟩] at hd
 have:=hg.lo
 split at hd
 ·rename_i hr
  have:=dRank_lt hg hb hr
  omega
 ·omega
noncomputable def rkA (C:Clm) (g:Gr):Option (List Int):=by
 classical exact if h:∃ r,Least C g r then some (Classical.choose h) else none
theorem rkA_some {C:Clm} {g:Gr} {r:List Int} (h:Least C g r):rkA C g=some r:=by
 unfold rkA
 have he:∃ r,Least C g r:=⟨r,h⟩
 rw [dif_pos he,(Classical.choose_spec he).one h]
theorem rkA_none {C:Clm} {g:Gr} (hg:GOK g) (h:Bad C g):rkA C g=none:=by
 unfold rkA
 rw [dif_neg]
 rintro ⟨r,hr⟩
 exact prv_good hg hr.prv h
theorem rkA_least {C:Clm} {g:Gr} {r:List Int} (h:rkA C g=some r):Least C g r:=by
 unfold rkA at h
 split at h
 ·rename_i he
  injection h with h
  rw [← h]; exact Classical.choose_spec he
 ·cases h
def rkR (o:Option (List Int)):List Int×Bool:=match o with | some r=>(r,true) | none=>([],false)
end Go.Proofs.Yteclokkdgmacpaa
