import Derived.Test.YteclokkdgmacpaaU10
import Derived.Test.YteclokkdgmacpaaU6
import Derived.Test.YteclokkdgmacpaaU7
namespace Go.Proofs.Yteclokkdgmacpaa
open Go.RowKit
set_option linter.unusedVariables false
set_option linter.unusedSimpArgs false
set_option linter.unusedSectionVars false
set_option maxRecDepth 10000
/-! ### The program is awake -/
theorem Awake8:lineallaw07_Awake=some true:=by
 have ho:okG (2,[(0,0,1,false),(1,1,0,true)])=true:=by decide
 have hg:=okG_iff.1 ho
 have hz:okZ (2,[(0,0,1,false),(1,1,0,true)]):=by
  refine ⟨few_of (n:=2) (by simp),fun m hm=>?_⟩
  have:=hg.mv m hm
  have:=hg.hi
  rw [inK_i64,inK_i64,inK_i64]
  omega
 have hL:Least (clm 0 0) (2,[(0,0,1,false),(1,1,0,true)]) [1,0]:=by
  refine ⟨rfl,fun m hm _=>?_,fun p p1 p2=>?_,fun p p1 p2 hn=>?_,fun r' hr' hn p p1 p2=>?_⟩
  ·rcases List.mem_cons.1 hm with rfl|hm
   ·decide
   ·rw [List.mem_singleton] at hm; subst hm; decide
  ·simp only at p2
   have:p=0∨p=1:=by omega
   rcases this with rfl|rfl<;>decide
  ·simp only at p2
   have:p=0∨p=1:=by omega
   rcases this with rfl|rfl
   ·exact absurd (rch_refl hg (zero_in hg)) hn
   ·rfl
  ·simp only at p2
   have:p=0∨p=1:=by omega
   rcases this with rfl|rfl
   ·have h1:=hr' (0,0,1,false) (by simp) (rch_refl hg (zero_in hg))
    have h2:=hn 1 (by decide) (by decide)
    have e:lst (clm 0 0) r' (0,0,1,false)=rAt r' 1+1:=rfl
    rw [e] at h1
    have e2:rAt [1,0] 0=1:=rfl
    rw [e2]
    simp only at h1
    omega
   ·exact hn 1 (by decide) (by decide)
 have ha:ask (2,[(0,0,1,false),(1,1,0,true)]) 0 0=0:=ask_zero.2 ⟨hg,by decide,by decide,fun _=>rfl⟩
 have e:rksR (2,[(0,0,1,false),(1,1,0,true)]) 0 0=([1,0],0):=by
  unfold rksR
  rw [if_pos ha,rkA_some hL]
 unfold lineallaw07_Awake
 rw [Ranks_eq _ hz,e,Option.bind_some,if_pos (by simp),SameInts_eq7 _ _ (few_of (n:=2) (by simp)) (few_of (n:=2) (by simp))]
 rfl
theorem asked_eq (g:Gr) (hz:okZ g) (c t:Int):linealref07_asked g c t=some (ask g c t):=by
 unfold linealref07_asked
 rw [rValid_eq g hz,Option.bind_some]
 by_cases ho:okG g=true
 ·rw [if_neg (by simp [ho])]
  by_cases h1:isB c 3=true
  ·have h1':=isB_iff.1 h1
   rw [if_neg (by simp; omega),if_neg (by simp; omega),rIsThread_eq,Option.bind_some]
   by_cases h2:isB t 3=true
   ·rw [if_neg (by simp [h2])]
    by_cases h3:c=0
    ·rw [if_pos (decide_eq_true h3)]
     by_cases h4:t=0
     ·rw [if_neg (by simp [h4]),ask_ok ho h1 h2 fun _=>h4]
     ·rw [if_pos (by simp [h4]),ask_two ho fun hh=>h4 (hh.2.2 h3)]
    ·rw [if_neg (by rw [decide_eq_true_eq]; exact h3),ask_ok ho h1 h2 fun h=>absurd h h3]
   ·rw [if_pos (by simp [h2]),ask_two ho fun hh=>h2 hh.2.1]
  ·rw [ask_two ho fun hh=>h1 hh.1]
   have h1':¬ (0≤c∧c<3):=fun h=>h1 (isB_iff.2 h)
   by_cases h0:c<0
   ·rw [if_pos (decide_eq_true h0)]
   ·rw [if_neg (by rw [decide_eq_true_eq]; exact h0),if_pos (by rw [decide_eq_true_eq]; omega)]
 ·rw [if_pos (by simp [ho]),ask_bad ho]
theorem fal_of {g:Gr} {c t:Int} (h:ask g c t=0) (m:Mv):∃ by0,linealref07_falls m c t=some (by0,(clm c t).goes m)∧((clm c t).goes m=true→by0=wt (clm c t) m):=by
 obtain ⟨_,⟨rfl,rfl⟩|rfl|rfl⟩:=ask_cases h
 ·refine ⟨1,?_,fun hm=>?_⟩
  ·rfl
  ·exact (if_pos hm).symm
 ·unfold linealref07_falls
  rw [if_neg (by decide),if_neg (by decide)]
  by_cases e:m.2.1=t
  ·rw [if_pos (decide_eq_true e)]
   have e1:(clm 1 t).goes m=!m.2.2.2:=by
    show notOwn t m=_
    unfold notOwn; rw [decide_eq_true e]; rfl
   refine ⟨1,by rw [e1],fun hm=>?_⟩
   have e2:(clm 1 t).cnt m=true:=by
    show own t m=true
    unfold own
    rw [decide_eq_true e,Bool.true_and,← e1]; exact hm
   exact (if_pos e2).symm
  ·rw [if_neg (by rw [decide_eq_true_eq]; exact e)]
   have e1:(clm 1 t).goes m=true:=by
    show notOwn t m=_
    unfold notOwn; rw [decide_eq_false e]; rfl
   refine ⟨0,by rw [e1],fun hm=>?_⟩
   have e2:¬ (clm 1 t).cnt m=true:=by
    show ¬ own t m=true
    unfold own
    rw [decide_eq_false e]; simp
   exact (if_neg e2).symm
 ·unfold linealref07_falls
  rw [if_neg (by decide),if_pos (by decide)]
  by_cases e:m.2.1=t
  ·rw [if_pos (decide_eq_true e)]
   have e1:(clm 2 t).goes m=!m.2.2.2:=by
    show own t m=_
    unfold own; rw [decide_eq_true e]; rfl
   refine ⟨1,by rw [e1],fun hm=>?_⟩
   exact (if_pos (show (clm 2 t).cnt m=true from hm)).symm
  ·rw [if_neg (by rw [decide_eq_true_eq]; exact e)]
   have e1:(clm 2 t).goes m=false:=by
    show own t m=_
    unfold own; rw [decide_eq_false e]; rfl
   exact ⟨1,by rw [e1],fun hm=>by rw [e1] at hm; cases hm⟩
def rlx (C:Clm) (g:Gr) (s:List Int×Bool) (k:Nat):List Int×Bool :=
 if bk C g s.1 (g.2.getD k (0,0,0,false))=true then (s.1.set (g.2.getD k (0,0,0,false)).1.toNat (lst C s.1 (g.2.getD k (0,0,0,false))),false) else s
def rlxs (C:Clm) (g:Gr) (r:List Int) (n:Nat):List Int×Bool:=(List.range n).foldl (rlx C g) (r,true)
section
variable {C:Clm} {g:Gr} (hg:GOK g) {r:List Int} (hL:Low C g r)
include hg hL
end
def uns (L r:List Int) (n:Nat):List Nat:=(List.range n).filter fun p=>decide (rAt r (p:Int)<rAt L (p:Int))
section
variable {g:Gr} (hg:GOK g) {c t:Int} (ha:ask g c t=0)
include hg ha
end
theorem rProve_in {g:Gr} (hg:GOK g) {c t:Int} (ha:ask g c t=0) {r:List Int} (hr:Rk g r):whileO (linealref07_Prove_b2 g c t r (thereL g)) 0=some (if decide (Prv (clm c t) g r)=true then .inr () else .inl ()):=by
 have hgl:=hg.len
 have key:=whileO_all (body:=linealref07_Prove_b2 g c t r (thereL g)) g.2 (fun m=>!bk (clm c t) g r m) (fun k m hk=>by
  have hlt:=(List.getElem?_eq_some_iff.1 hk).1
  have hm:=List.mem_of_getElem? hk
  have hf:=mv_from hg hm
  have ht:=mv_to hg hm
  have hl:=hr.1
  have htl:=thereL_len hg
  have hta:=thereL_at hg m.1.toNat
  rw [Int.toNat_of_nonneg hf.1] at hta
  obtain ⟨by0,f1,f2⟩:=fal_of ha m
  have kin:InK .i64 ((k:Int)+1):=by rw [inK_i64]; omega
  have hx:=hr.at ht.1 ht.2
  have hy:=hr.at hf.1 hf.2
  unfold linealref07_Prove_b2
  simp only [Int.toNat_natCast,getD_of hk]
  rw [if_pos (by rw [decide_eq_true_eq]; omega),ck_pos (by omega),ck_pos (by omega),f1,Option.bind_some]
  by_cases hgo:(clm c t).goes m=true
  ·have hw:=wt_in (clm c t) m
   have hlst:=lst_goes (C:=clm c t) (r:=r) hgo
   have hb0:=f2 hgo
   unfold rAt at hx hlst
   rw [if_pos hgo,ck_pos hf.1,ck_pos (by omega),hta]
   by_cases hr0:R0 g m.1
   ·rw [if_pos (decide_eq_true hr0),ck_pos hf.1,ck_pos (by omega),ck_pos ht.1,ck_pos (by omega),ck_pos (by rw [inK_i64]; omega)]
    by_cases hlt:r.getD m.1.toNat 0<r.getD m.2.2.1.toNat 0+by0
    ·rw [if_pos (decide_eq_true hlt),bk_iff.2 ⟨hr0,by rw [hlst]; unfold rAt; omega⟩]
     rfl
    ·have:bk (clm c t) g r m=false:=by
      rw [← Bool.not_eq_true]
      intro hb
      have h2:=(bk_iff.1 hb).2
      rw [hlst] at h2
      unfold rAt at h2
      omega
     rw [if_neg (by rw [decide_eq_true_eq]; exact hlt),ck_pos kin,this]
     rfl
   ·have:bk (clm c t) g r m=false:=by
     rw [← Bool.not_eq_true]
     exact fun hb=>hr0 (bk_iff.1 hb).1
    rw [if_neg (by rw [decide_eq_true_eq]; exact hr0),ck_pos kin,this]
    rfl
  ·have:bk (clm c t) g r m=false:=by
    rw [← Bool.not_eq_true,bk_iff]
    rintro ⟨_,h2⟩
    rw [lst_not hgo] at h2
    omega
   rw [if_neg hgo,ck_pos kin,this]
   rfl) (by
  unfold linealref07_Prove_b2
  rw [if_neg (by simp)])
 rw [key]
 have e:g.2.all (fun m=>!bk (clm c t) g r m)=decide (Prv (clm c t) g r):=by
  rw [Bool.eq_iff_iff,decide_eq_true_iff,← bk_none,List.findIdx?_eq_none_iff,List.all_eq_true]
  simp only [Bool.not_eq_true']
 rw [e]
theorem rProve_eq (g:Gr) (hz:okZ g) (c t:Int) (r:List Int) (hf:few r):linealref07_Prove g c t r=some (prvR g c t r):=by
 unfold linealref07_Prove prvR
 rw [asked_eq g hz,Option.bind_some]
 by_cases h:ask g c t=0
 ·rw [if_neg (by simp [h]),if_pos h]
  have hg:=(ask_cases h).1
  by_cases hl:(r.length:Int)=g.1
  ·have key:=whileO_all (body:=linealref07_Prove_b1 r) r (fun x=>isB x 101) (fun k x hk=>by
    obtain ⟨hlt,kin⟩:=few_in hf hk
    unfold linealref07_Prove_b1
    simp only [Int.toNat_natCast,getD_of hk]
    rw [if_pos (by rw [decide_eq_true_eq]; omega),ck_pos (by omega),ck_pos (by omega)]
    by_cases h0:x<0
    ·have:¬ isB x 101=true:=fun hb=>by have:=isB_iff.1 hb; omega
     rw [if_pos (decide_eq_true h0),if_neg this]
    ·rw [if_neg (by rw [decide_eq_true_eq]; exact h0)]
     by_cases h1:100<x
     ·have:¬ isB x 101=true:=fun hb=>by have:=isB_iff.1 hb; omega
      rw [if_pos (decide_eq_true h1),if_neg this]
     ·rw [if_neg (by rw [decide_eq_true_eq]; exact h1),ck_pos kin,if_pos (isB_iff.2 ⟨by omega,by omega⟩)]) (by
    unfold linealref07_Prove_b1
    rw [if_neg (by simp)])
   rw [if_neg (by simp [hl]),key,Option.bind_some]
   by_cases ha:r.all (fun x=>isB x 101)=true
   ·have h3:rk100 g r=true:=by
     unfold rk100
     rw [decide_eq_true hl,ha]; rfl
    rw [if_pos ha,if_pos h3]
    simp only
    unfold linealref07_Prove_k1
    rw [rreached_eq hg,Option.bind_some]
    show (whileO (linealref07_Prove_b2 g c t r (thereL g)) 0).bind _=_
    rw [rProve_in hg h (rk100_Rk h3),Option.bind_some]
    cases decide (Prv (clm c t) g r)<;>rfl
   ·have h3:¬ rk100 g r=true:=fun hh=>by
     unfold rk100 at hh
     rw [Bool.and_eq_true] at hh
     exact ha hh.2
    rw [if_neg ha,if_neg h3]
  ·have h3:¬ rk100 g r=true:=fun hh=>by
    unfold rk100 at hh
    rw [Bool.and_eq_true,decide_eq_true_iff] at hh
    exact hl hh.1
   rw [if_pos (by simp [hl]),if_neg h3]
 ·rw [if_pos (by simp [h]),if_neg h]
theorem three {R:Type} {body:Int→Option (Step Int R)} {p:Int→Bool} {bad fin:R} (h:∀ k,0≤k→k<3→body k=some (if p k=true then .next (k+1) else .done bad)) (he:body 3=some (.done fin)) :
  whileO body 0=some (if (p 0&&p 1&&p 2)=true then fin else bad):=by
 have h0:=h 0 (by decide) (by decide)
 have h1:=h 1 (by decide) (by decide)
 have h2:=h 2 (by decide) (by decide)
 cases p0:p 0 with
 | false=>rw [p0] at h0; exact whileO_end h0
 | true =>
  rw [p0] at h0
  refine whileO_on h0 ?_
  cases p1:p 1 with
  | false=>rw [p1] at h1; exact whileO_end h1
  | true =>
   rw [p1] at h1
   refine whileO_on h1 ?_
   cases p2:p 2 with
   | false=>rw [p2] at h2; exact whileO_end h2
   | true =>
    rw [p2] at h2
    refine whileO_on h2 ?_
    exact whileO_end he
noncomputable def holB (g:Gr) (c t:Int):Bool:=(rkR (rkA (clm c t) g)).2
theorem holR_ok {g:Gr} {c t:Int} (h:ask g c t=0):holR g c t=(holB g c t,0):=if_pos h
theorem holB_iff {g:Gr} {c t:Int} (h:ask g c t=0):holB g c t=true↔¬ Bad (clm c t) g:=by
 unfold holB
 rcases least_or h with hb|⟨r,hr⟩
 ·rw [rkA_none (ask_cases h).1 hb]
  exact ⟨fun hh=>(by cases hh),fun hh=>absurd hb hh⟩
 ·rw [rkA_some hr]
  exact ⟨fun _=>prv_good (ask_cases h).1 hr.prv,fun _=>rfl⟩
theorem ask_of {g:Gr} (hg:GOK g) {c t:Int} (hc:0≤c∧c<3) (ht:0≤t∧t<3) (h:c=0→t=0):ask g c t=0:=ask_zero.2 ⟨hg,hc,ht,h⟩
noncomputable def evB (g:Gr):Bool:=holB g 1 0&&holB g 1 1&&holB g 1 2
noncomputable def evR (g:Gr):Bool×Int:=if okG g=true then (evB g,0) else (false,70)
theorem Everybody_eq (g:Gr) (hz:okZ g):progress_Everybody g=some (evR g):=by
 unfold progress_Everybody evR
 by_cases ho:okG g=true
 ·have hg:=okG_iff.1 ho
  have key:=three (body:=progress_Everybody_b1 g) (p:=fun t=>holB g 1 t) (bad:=.inl 0) (fin:=.inr ()) (fun k k1 k2=>by
   unfold progress_Everybody_b1
   rw [if_pos (decide_eq_true k2),Holds_eq g hz,Option.bind_some,holR_ok (ask_of hg (by decide) ⟨k1,k2⟩ (fun h=>absurd h (by decide))),if_neg (by simp),ck_pos (by rw [inK_i64]; omega)]
   cases holB g 1 k<;>rfl) (by
   unfold progress_Everybody_b1
   rw [if_neg (by decide)])
  rw [key,Option.bind_some,if_pos ho]
  unfold evB
  cases holB g 1 0&&holB g 1 1&&holB g 1 2<;>rfl
 ·have ha:ask g 1 0=70:=ask_bad ho
  have e:progress_Everybody_b1 g 0=some (.done (.inl 70)):=by
   unfold progress_Everybody_b1
   rw [if_pos (by decide),Holds_eq g hz,Option.bind_some]
   unfold holR
   rw [ha,if_neg (show ¬ (70:Int)=0 by decide),if_pos (by simp)]
  rw [whileO_end e,if_neg ho]
  rfl
def maxL (r:List Int):Int:=r.foldl max 0
noncomputable def grR (g:Gr) (c t:Int):Int×Int:=if (rksR g c t).2=0 then (maxL (rksR g c t).1,0) else (0,(rksR g c t).2)
theorem rksR_some {g:Gr} {c t:Int} (h:ask g c t=0) {r:List Int} (hr:rkA (clm c t) g=some r):rksR g c t=(r,0):=by unfold rksR; rw [if_pos h,hr]
theorem rksR_none {g:Gr} {c t:Int} (h:ask g c t=0) (hr:rkA (clm c t) g=none):rksR g c t=([],5):=by unfold rksR; rw [if_pos h,hr]
/-! ### Circles of one graph in another -/
section
variable {g g':Gr} (hg:GOK g) (hg':GOK g') (e1:g'.1=g.1)
include hg hg' e1
theorem rch_sub {are are':Mv→Bool} (h:∀ m∈g'.2,are' m=true→∃ m2∈g.2,m2.1=m.1∧m2.2.2.1=m.2.2.1∧are m2=true) {p q:Int} (hp:0≤p∧p<g.1) (hr:rch are' g' p q):rch are g p q :=
 rch_ind hg' (by rw [e1]; exact hp) (S:=fun x=>rch are g p x) (rch_refl hg hp) (fun m hm hs ha=>by
  obtain ⟨m2,h1,h2,h3,h4⟩:=h m hm ha
  rw [← h3]
  exact rch_step hg hp h1 (by rw [h2]; exact hs) h4) hr
theorem Bad_sub {C C':Clm} (h:∀ m∈g'.2,∃ m2∈g.2,m2.1=m.1∧m2.2.2.1=m.2.2.1∧(C'.goes m=true→C.goes m2=true)∧(C'.cnt m=true→C.cnt m2=true)) (hb:Bad C' g'):Bad C g:=by
 obtain ⟨m,hm,h1,h2,h3⟩:=hb
 obtain ⟨m2,k1,k2,k3,k4,k5⟩:=h m hm
 refine ⟨m2,k1,?_,k5 h2,?_⟩
 ·rw [k2]
  exact rch_sub hg hg' e1 (fun m hm _=>by
   obtain ⟨m2,a1,a2,a3,_⟩:=h m hm
   exact ⟨m2,a1,a2,a3,rfl⟩) (zero_in hg) h1
 ·rw [k2,k3]
  exact rch_sub hg hg' e1 (fun m hm ha=>by
   obtain ⟨m2,a1,a2,a3,a4,_⟩:=h m hm
   exact ⟨m2,a1,a2,a3,a4 ha⟩) (by have:=mv_to hg' hm; rw [e1] at this; exact this) h3
end
theorem own_k0 {t:Int} {m:Mv} (h:own t m=true):k0 m=true:=by unfold own at h; unfold k0; rw [Bool.and_eq_true] at h; exact h.2
theorem own_notOwn {t:Int} {m:Mv} (h:own t m=true):notOwn t m=true:=(clm 1 t).sub m h
theorem k0_notOwn {t:Int} {m:Mv} (h:k0 m=true):notOwn t m=true:=by unfold k0 at h; unfold notOwn; rw [h]; simp
section
variable {g:Gr} (hg:GOK g)
include hg
theorem Bad20 {t:Int} (h:Bad (clm 2 t) g):Bad (clm 0 0) g:=Bad_sub (C:=clm 0 0) (C':=clm 2 t) hg hg rfl (fun m hm=>⟨m,hm,rfl,rfl,fun h=>own_k0 (t:=t) h,fun h=>own_k0 (t:=t) h⟩) h
theorem Bad21 {t:Int} (h:Bad (clm 2 t) g):Bad (clm 1 t) g:=Bad_sub (C:=clm 1 t) (C':=clm 2 t) hg hg rfl (fun m hm=>⟨m,hm,rfl,rfl,fun h=>own_notOwn (t:=t) h,fun h=>h⟩) h
theorem Bad01 (h:Bad (clm 0 0) g):∃ t:Int,(0≤t∧t<3)∧Bad (clm 1 t) g:=by
 obtain ⟨m,hm,h1,h2,h3⟩:=h
 have h2':k0 m=true:=h2
 refine ⟨m.2.1,(hg.mv m hm).2.2,m,hm,h1,?_,rch_mono hg (mv_to hg hm) (fun m' _ h=>k0_notOwn (t:=m.2.1) h) h3⟩
 show own m.2.1 m=true
 unfold own
 rw [decide_eq_true rfl]
 exact h2'
end
/-! ### Names -/
/-! ### Fewer moves -/
end Go.Proofs.Yteclokkdgmacpaa
