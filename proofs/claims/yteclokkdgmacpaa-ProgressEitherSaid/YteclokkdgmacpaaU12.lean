/-
 Layer 7,pure: everybody,longest,bound (ProgressNumbers); classes of claims (ProgressClasses); names (ProgressNames); fewer moves (ProgressLess).
-/
import Derived.Test.YteclokkdgmacpaaU10
import Derived.Test.YteclokkdgmacpaaU6
import Derived.Test.YteclokkdgmacpaaU7
namespace Go.Proofs.Yteclokkdgmacpaa
open Go.RowKit
set_option linter.unusedVariables false
set_option linter.unusedSimpArgs false
set_option linter.unusedSectionVars false
set_option maxRecDepth 10000
/-! ### The program is awake -/
theorem Awake8:lineallaw07_Awake=some true:=by
 have ho:okG (2,[(0,0,1,false),(1,1,0,true)])=true:=by decide
 have hg:=okG_iff.1 ho
 have hz:okZ (2,[(0,0,1,false),(1,1,0,true)]):=by
  refine ⟨few_of (n:=2) (by simp),fun m hm=>?_⟩
  have:=hg.mv m hm
  have:=hg.hi
  rw [inK_i64,inK_i64,inK_i64]
  omega
 have hL:Least (clm 0 0) (2,[(0,0,1,false),(1,1,0,true)]) [1,0]:=by
  refine ⟨rfl,fun m hm _=>?_,fun p p1 p2=>?_,fun p p1 p2 hn=>?_,fun r' hr' hn p p1 p2=>?_⟩
  ·rcases List.mem_cons.1 hm with rfl | hm
   ·decide
   ·rw [List.mem_singleton] at hm; subst hm; decide
  ·simp only at p2
   have:p=0 ∨ p=1:=by omega
   rcases this with rfl | rfl <;> decide
  ·simp only at p2
   have:p=0 ∨ p=1:=by omega
   rcases this with rfl | rfl
   ·exact absurd (rch_refl hg (zero_in hg)) hn
   ·rfl
  ·simp only at p2
   have:p=0 ∨ p=1:=by omega
   rcases this with rfl | rfl
   ·have h1:=hr' (0,0,1,false) (by simp) (rch_refl hg (zero_in hg))
    have h2:=hn 1 (by decide) (by decide)
    have e:lst (clm 0 0) r' (0,0,1,false)=rAt r' 1 + 1:=rfl
    rw [e] at h1
    have e2:rAt [1,0] 0=1:=rfl
    rw [e2]
    simp only at h1
    omega
   ·exact hn 1 (by decide) (by decide)
 have ha:ask (2,[(0,0,1,false),(1,1,0,true)]) 0 0=0:=ask_zero.2 ⟨hg,by decide,by decide,fun _=>rfl⟩
 have e:rksR (2,[(0,0,1,false),(1,1,0,true)]) 0 0=([1,0],0):=by
  unfold rksR
  rw [if_pos ha,rkA_some hL]
 unfold lineallaw07_Awake
 rw [Ranks_eq _ hz,e,Option.bind_some,if_pos (by simp),SameInts_eq7 _ _ (few_of (n:=2) (by simp)) (few_of (n:=2) (by simp))]
 rfl
def rlx (C:Clm) (g:Gr) (s:List Int×Bool) (k:Nat):List Int×Bool :=
 if bk C g s.1 (g.2.getD k (0,0,0,false))=true then (s.1.set (g.2.getD k (0,0,0,false)).1.toNat (lst C s.1 (g.2.getD k (0,0,0,false))),false) else s
def rlxs (C:Clm) (g:Gr) (r:List Int) (n:Nat):List Int×Bool:=(List.range n).foldl (rlx C g) (r,true)
section
variable {C:Clm} {g:Gr} (hg:GOK g) {r:List Int} (hL:Low C g r)
include hg hL
end
def uns (L r:List Int) (n:Nat):List Nat:=(List.range n).filter fun p=>decide (rAt r (p:Int) < rAt L (p:Int))
section
variable {g:Gr} (hg:GOK g) {c t:Int} (ha:ask g c t=0)
include hg ha
end
noncomputable def holB (g:Gr) (c t:Int):Bool:=(rkR (rkA (clm c t) g)).2
theorem holR_ok {g:Gr} {c t:Int} (h:ask g c t=0):holR g c t=(holB g c t,0):=if_pos h
theorem holB_iff {g:Gr} {c t:Int} (h:ask g c t=0):holB g c t=true↔¬ Bad (clm c t) g:=by
 unfold holB
 rcases least_or h with hb | ⟨r,hr⟩
 ·rw [rkA_none (ask_cases h).1 hb]
  exact ⟨fun hh=>(by cases hh),fun hh=>absurd hb hh⟩
 ·rw [rkA_some hr]
  exact ⟨fun _=>prv_good (ask_cases h).1 hr.prv,fun _=>rfl⟩
theorem ask_of {g:Gr} (hg:GOK g) {c t:Int} (hc:0≤c∧c < 3) (ht:0≤t∧t < 3) (h:c=0→t=0):ask g c t=0:=ask_zero.2 ⟨hg,hc,ht,h⟩
noncomputable def evB (g:Gr):Bool:=holB g 1 0 && holB g 1 1 && holB g 1 2
noncomputable def evR (g:Gr):Bool×Int:=if okG g=true then (evB g,0) else (false,70)
def maxL (r:List Int):Int:=r.foldl max 0
noncomputable def grR (g:Gr) (c t:Int):Int×Int:=if (rksR g c t).2=0 then (maxL (rksR g c t).1,0) else (0,(rksR g c t).2)
theorem rksR_some {g:Gr} {c t:Int} (h:ask g c t=0) {r:List Int} (hr:rkA (clm c t) g=some r):rksR g c t=(r,0):=by unfold rksR; rw [if_pos h,hr]
theorem rksR_none {g:Gr} {c t:Int} (h:ask g c t=0) (hr:rkA (clm c t) g=none):rksR g c t=([],5):=by unfold rksR; rw [if_pos h,hr]
/-! ### Circles of one graph in another -/
section
variable {g g':Gr} (hg:GOK g) (hg':GOK g') (e1:g'.1=g.1)
include hg hg' e1
end
section
variable {g:Gr} (hg:GOK g)
include hg
end
/-! ### Names -/
theorem asked7_eq {c t:Int} (hc:0≤c∧c≤255) (ht:0≤t∧t≤255):lineallaw07_asked c t=some (if c % 3=0 then (0,0) else (c % 3,t % 3)):=by
 unfold lineallaw07_asked
 rw [ck_pos (by rw [inK_i64]; omega),ck_pos (by omega)]
 by_cases h:c % 3=0
 ·rw [if_pos (decide_eq_true h),if_pos h]
 ·rw [if_neg (by rw [decide_eq_true_eq]; exact h),if_neg h,ck_pos (by rw [inK_i64]; omega),ck_pos (by omega)]
/-! ### Fewer moves -/
end Go.Proofs.Yteclokkdgmacpaa
