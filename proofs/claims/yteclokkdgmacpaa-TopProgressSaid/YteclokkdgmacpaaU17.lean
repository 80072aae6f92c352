import Derived.Test.YteclokkdgmacpaaU14
namespace Go.Proofs.Yteclokkdgmacpaa
open Go.RowKit
set_option linter.unusedVariables false
set_option linter.unusedSimpArgs false
set_option linter.unusedSectionVars false
set_option maxRecDepth 10000
theorem either {g:Gr} {c t:Int} (h:ask g c t=0):(holB g c t=true∧(∃ r,Least (clm c t) g r∧rksR g c t=(r,0))∧lasR g c t=([],[],5))∨(holB g c t=false∧rksR g c t=([],5)∧∃ p q,lasR g c t=(p,q,0)∧refB (clm c t) g p q=true∧p.length≤8∧q.length≤8):=by
 have hg:=(ask_cases h).1
 have hi:=holB_iff h
 rcases lasA_or h with ⟨k1,k2⟩|⟨k1,p,q,k2⟩
 ·left
  refine ⟨k1,?_,by unfold lasR; rw [if_pos h,k2]⟩
  rcases least_or h with hb|⟨r,hr⟩
  ·exact absurd hb (hi.1 k1)
  ·exact ⟨r,hr,rksR_some h (rkA_some hr)⟩
 ·right
  obtain ⟨r1,r2,r3⟩:=lasA_some hg k2
  exact ⟨k1,rksR_none h (rkA_none hg (refB_bad hg r1)),p,q,by unfold lasR; rw [if_pos h,k2],r1,r2,r3⟩
theorem least_rk {C:Clm} {g:Gr} (hg:GOK g) {r:List Int} (h:Least C g r):rk100 g r=true:=by
 have hlo:=hg.lo
 have hhi:=hg.hi
 have hl:=h.len
 unfold rk100
 rw [Bool.and_eq_true,decide_eq_true_iff,List.all_eq_true]
 refine ⟨by omega,fun x hx=>?_⟩
 obtain ⟨i,hi,rfl⟩:=List.mem_iff_getElem.1 hx
 have:=h.rng (i:Int) (by omega) (by omega)
 unfold rAt at this
 rw [Int.toNat_natCast,getD_of (List.getElem?_eq_getElem hi)] at this
 exact isB_iff.2 ⟨this.1,by omega⟩
theorem least_prvR {g:Gr} {c t:Int} (h:ask g c t=0) {r:List Int} (hr:Least (clm c t) g r):prvR g c t r=(true,0):=by
 unfold prvR
 rw [if_pos h,if_pos (least_rk (ask_cases h).1 hr),decide_eq_true hr.prv]
theorem prvR_cases {g:Gr} {c t:Int} (h:ask g c t=0) (r:List Int):(prvR g c t r=(true,0)∧rk100 g r=true∧Prv (clm c t) g r)∨prvR g c t r=(false,0)∨prvR g c t r=(false,2):=by
 unfold prvR
 rw [if_pos h]
 by_cases h1:rk100 g r=true
 ·rw [if_pos h1]
  by_cases h2:Prv (clm c t) g r
  ·rw [decide_eq_true h2]; exact .inl ⟨rfl,h1,h2⟩
  ·rw [decide_eq_false h2]; exact .inr (.inl rfl)
 ·rw [if_neg h1]; exact .inr (.inr rfl)
theorem prv_hol {g:Gr} {c t:Int} (h:ask g c t=0) {r:List Int} (hp:Prv (clm c t) g r):holB g c t=true:=(holB_iff h).2 (prv_good (ask_cases h).1 hp)
theorem ref_hol {g:Gr} {c t:Int} (h:ask g c t=0) {p q:List Int} (hp:refB (clm c t) g p q=true):holB g c t=false:=by
 rw [← Bool.not_eq_true]
 exact fun hh=>(holB_iff h).1 hh (refB_bad (ask_cases h).1 hp)
theorem refR_ok {g:Gr} {c t:Int} (h:ask g c t=0) (p q:List Int):refR g c t p q=(refB (clm c t) g p q,0):=if_pos h
section
variable {g:Gr} (hg:GOK g) (hz:okZ g)
include hg hz
end
section
variable {g:Gr} (hg:GOK g)
include hg
end
def lgS (g:Gr) (t:Int) (s:Bool×Bool×Int) (i:Int):Bool×Bool×Int:=(s.1&&k0 (mvAt g i),s.2.1&&notOwn t (mvAt g i),s.2.2+if (mvAt g i).2.1=t then 1 else 0)
def cntT (g:Gr) (t:Int) (l:List Int):Int:=(l.map fun i=>if (mvAt g i).2.1=t then (1:Int) else 0).sum
theorem boolAt_setBool:∀ {t:Ty} (x:El t) {j q:Nat} (v:Bool),allBool t=true→j<t.size→q<t.size→boolAt t (setBool t x j v) q=if q=j then v else boolAt t x q
 | .bool,x,j,q,v,_,hj,hq=>by
  simp only [Ty.size] at hj hq
  have e:q=j:=by omega
  simp [boolAt,setBool,e]
 | .int _,x,j,q,v,h,_,_=>by simp [allBool] at h
 | .unit,x,j,q,v,_,hj,_=>by simp [Ty.size] at hj
 | .sl t,x,j,q,v,h,_,_=>by simp [allBool] at h
 | .pair a b,x,j,q,v,h,hj,hq=>by
  simp only [allBool,Bool.and_eq_true] at h
  simp only [Ty.size] at hj hq
  by_cases h1:j<a.size
  ·by_cases h2:q<a.size
   ·have:=boolAt_setBool x.1 v h.1 h1 h2
    simp only [boolAt,setBool,h1,h2,if_true,this]
   ·have hne:¬ q=j:=by omega
    simp only [boolAt,setBool,h1,h2,if_true,if_false,hne]
  ·by_cases h2:q<a.size
   ·have hne:¬ q=j:=by omega
    simp only [boolAt,setBool,h1,h2,if_true,if_false,hne]
   ·have:=boolAt_setBool x.2 (j:=j - a.size) (q:=q - a.size) v h.2 (by omega) (by omega)
    simp only [boolAt,setBool,h1,h2,if_false,this]
    by_cases h3:q=j
    ·rw [if_pos (by omega),if_pos h3]
    ·rw [if_neg (by omega),if_neg h3]
theorem at67 (T:El T67) {j q:Nat} (v:Bool) (hj:j<9) (hq:q<9):boolAt T67 (setBool T67 T j v) q=if q=j then v else boolAt T67 T q :=
 boolAt_setBool T v rfl (by rw [T67_size]; exact hj) (by rw [T67_size]; exact hq)
section
variable {g:Gr} (hg:GOK g) (hz:okZ g) (ranks path circle:List Int) (hf:few ranks)
include hg hz hf
theorem Top_k4 {c t:Int} (h:ask g c t=0) (x y:El T67):linealtop_TopProgress_k4 g (x,c) (y,t) (rksR g c t) (lasR g c t) (holB g c t,0)=some (.next (setBool T67 y ((0+c.toNat*3)+t.toNat*1) (holB g c t),t+1)):=by
 have hlo:=hg.lo
 have hhi:=hg.hi
 obtain ⟨_,hc,ht,_⟩:=ask_zero.1 h
 unfold linealtop_TopProgress_k4
 rcases either h with ⟨k1,⟨L,hL,k2⟩,k3⟩|⟨k1,k2,p,q,k3,k4,k5,k6⟩
 ·have hl:=hL.len
  rw [k1,k2,k3,if_pos rfl]
  simp only
  rw [rProve_eq g hz c t L (few_of (n:=8) (by omega)),least_prvR h hL,Option.bind_some,if_neg (by simp),if_neg (by simp),if_neg (by simp),ck_pos hc.1,ck_pos hc.2,ck_pos ht.1,ck_pos ht.2,ck_pos (by rw [inK_i64]; omega)]
 ·rw [k1,k2,k3,if_neg (by simp)]
  simp only
  rw [rRefutes_eq g hz,refR_ok h,k4,Option.bind_some,if_neg (by simp),if_neg (by simp),if_neg (by simp),ck_pos hc.1,ck_pos hc.2,ck_pos ht.1,ck_pos ht.2,ck_pos (by rw [inK_i64]; omega)]
theorem Top_k3 {c t:Int} (h:ask g c t=0) (x y:El T67):linealtop_TopProgress_k3 g ranks path circle (x,c) (y,t)=some (.next (setBool T67 y ((0+c.toNat*3)+t.toNat*1) (holB g c t),t+1)):=by
 have k4:=Top_k4 hg hz ranks hf h x y
 have hr:=fun hp=>ref_hol (p:=path) (q:=circle) h hp
 unfold linealtop_TopProgress_k3
 simp only
 rw [Ranks_eq g hz,Option.bind_some,Lasso_eq g hz,Option.bind_some,Holds_eq g hz,Option.bind_some,Prove_eq g hz c t ranks hf,Option.bind_some,Refutes_eq g hz,Option.bind_some,refR_ok h,holR_ok h,if_neg (by simp)]
 have e1:¬ (((holB g c t,(0:Int)).1==(decide ((rksR g c t).2=0))) != true)=true:=by
  rcases either h with ⟨k1,⟨L,hL,k2⟩,k3⟩|⟨k1,k2,p,q,k3,k4,k5,k6⟩
  ·rw [k1,k2]; simp
  ·rw [k1,k2]; simp
 have e2:¬ (((holB g c t,(0:Int)).1==(decide ((lasR g c t).2.2=0))) != false)=true:=by
  rcases either h with ⟨k1,⟨L,hL,k2⟩,k3⟩|⟨k1,k2,p,q,k3,k4,k5,k6⟩
  ·rw [k1,k3]; simp
  ·rw [k1,k3]; simp
 rw [if_neg e1,if_neg e2]
 rcases prvR_cases h ranks with ⟨e,e1,e2⟩|e|e
 ·have hh:=prv_hol h e2
  have nr:refB (clm c t) g path circle=false:=by
   cases hb:refB (clm c t) g path circle with
   | false=>rfl
   | true=>rw [hr hb] at hh; cases hh
  rw [e,nr,if_neg (by simp),if_neg (by simp),if_pos (by simp),if_neg (by simp [hh]),if_neg (by simp)]
  exact k4
 ·rw [e,if_neg (by simp),if_neg (by simp),if_neg (by simp)]
  cases hb:refB (clm c t) g path circle with
  | false=>rw [if_neg (by simp)]; exact k4
  | true=>rw [if_pos (by simp),if_neg (by simp [hr hb])]; exact k4
 ·rw [e,if_pos (by simp),if_neg (by simp),if_neg (by simp),if_neg (by simp)]
  cases hb:refB (clm c t) g path circle with
  | false=>rw [if_neg (by simp)]; exact k4
  | true=>rw [if_pos (by simp),if_neg (by simp [hr hb])]; exact k4
theorem Top_b2 {c t:Int} (h:ask g c t=0) (x y:El T67):linealtop_TopProgress_b2 g ranks path circle (x,c) (y,t)=some (.next (setBool T67 y ((0+c.toNat*3)+t.toNat*1) (holB g c t),t+1)):=by
 obtain ⟨_,hc,ht,h0⟩:=ask_zero.1 h
 have k3:=Top_k3 hg hz ranks path circle hf h x y
 unfold linealtop_TopProgress_b2
 simp only
 rw [if_pos (decide_eq_true ht.2)]
 by_cases e:c=0
 ·rw [if_pos (decide_eq_true e),if_neg (by rw [decide_eq_true_eq,h0 e]; decide)]
  exact k3
 ·rw [if_neg (by rw [decide_eq_true_eq]; exact e)]
  exact k3
omit hg hz hf in
theorem Top_skip {t:Int} (ht:0<t∧t<3) (x y:El T67):linealtop_TopProgress_b2 g ranks path circle (x,0) (y,t)=some (.next (y,t+1)):=by
 unfold linealtop_TopProgress_b2
 simp only
 rw [if_pos (decide_eq_true ht.2),if_pos (by simp),if_pos (decide_eq_true ht.1),ck_pos (by rw [inK_i64]; omega)]
omit hg hz hf in
theorem Top_end (x y:El T67) (c:Int):linealtop_TopProgress_b2 g ranks path circle (x,c) (y,3)=some (.done (.inr y)):=by
 unfold linealtop_TopProgress_b2
 simp only
 rw [if_neg (by simp)]
noncomputable def F0 (g:Gr):El T67:=setBool T67 (Ty.dflt T67) 0 (holB g 0 0)
noncomputable def F1 (g:Gr):El T67:=setBool T67 (setBool T67 (setBool T67 (F0 g) 3 (holB g 1 0)) 4 (holB g 1 1)) 5 (holB g 1 2)
noncomputable def F2 (g:Gr):El T67:=setBool T67 (setBool T67 (setBool T67 (F1 g) 6 (holB g 2 0)) 7 (holB g 2 1)) 8 (holB g 2 2)
theorem Top_loop:whileO (linealtop_TopProgress_b1 g ranks path circle) (Ty.dflt T67,0)=some (.inr (F2 g)):=by
 have a0:ask g 0 0=0:=ask_of hg (by decide) (by decide) (fun _=>rfl)
 have a1:∀ t,0≤t→t<3→ask g 1 t=0:=fun t t1 t2=>ask_of hg (by decide) ⟨t1,t2⟩ (fun h=>absurd h (by decide))
 have a2:∀ t,0≤t→t<3→ask g 2 t=0:=fun t t1 t2=>ask_of hg (by decide) ⟨t1,t2⟩ (fun h=>absurd h (by decide))
 have l0:whileO (linealtop_TopProgress_b2 g ranks path circle (Ty.dflt T67,0)) (Ty.dflt T67,0)=some (.inr (F0 g)) :=
  whileO_on (Top_b2 hg hz ranks path circle hf a0 _ _) (whileO_on (Top_skip ranks path circle (by decide) _ _) (whileO_on (Top_skip ranks path circle (by decide) _ _) (whileO_end (Top_end ranks path circle _ _ _))))
 have l1:whileO (linealtop_TopProgress_b2 g ranks path circle (F0 g,1)) (F0 g,0)=some (.inr (F1 g)) :=
  whileO_on (Top_b2 hg hz ranks path circle hf (a1 0 (by decide) (by decide)) _ _) (whileO_on (Top_b2 hg hz ranks path circle hf (a1 1 (by decide) (by decide)) _ _) (whileO_on (Top_b2 hg hz ranks path circle hf (a1 2 (by decide) (by decide)) _ _) (whileO_end (Top_end ranks path circle _ _ _))))
 have l2:whileO (linealtop_TopProgress_b2 g ranks path circle (F1 g,2)) (F1 g,0)=some (.inr (F2 g)) :=
  whileO_on (Top_b2 hg hz ranks path circle hf (a2 0 (by decide) (by decide)) _ _) (whileO_on (Top_b2 hg hz ranks path circle hf (a2 1 (by decide) (by decide)) _ _) (whileO_on (Top_b2 hg hz ranks path circle hf (a2 2 (by decide) (by decide)) _ _) (whileO_end (Top_end ranks path circle _ _ _))))
 have step:∀ (x y:El T67) (c:Int),0≤c→c<3→whileO (linealtop_TopProgress_b2 g ranks path circle (x,c)) (x,0)=some (.inr y)→linealtop_TopProgress_b1 g ranks path circle (x,c)=some (.next (y,c+1)):=fun x y c c1 c2 e=>by
  unfold linealtop_TopProgress_b1 linealtop_TopProgress_k2
  simp only
  rw [if_pos (decide_eq_true c2),e,Option.bind_some]
  simp only
  rw [ck_pos (by rw [inK_i64]; omega)]
 refine whileO_on (step _ _ 0 (by decide) (by decide) l0) (whileO_on (step _ _ 1 (by decide) (by decide) l1) (whileO_on (step _ _ 2 (by decide) (by decide) l2) (whileO_end ?_)))
 unfold linealtop_TopProgress_b1
 simp only
 rw [if_neg (by simp)]
end
theorem F2_at (g:Gr):boolAt T67 (F2 g) 0=holB g 0 0∧boolAt T67 (F2 g) 3=holB g 1 0∧boolAt T67 (F2 g) 4=holB g 1 1∧boolAt T67 (F2 g) 5=holB g 1 2∧boolAt T67 (F2 g) 6=holB g 2 0∧boolAt T67 (F2 g) 7=holB g 2 1∧boolAt T67 (F2 g) 8=holB g 2 2:=by
 unfold F2 F1 F0
 refine ⟨?_,?_,?_,?_,?_,?_,?_⟩
 ·rw [at67 _ _ (by decide) (by decide),if_neg (by decide),at67 _ _ (by decide) (by decide),if_neg (by decide),at67 _ _ (by decide) (by decide),if_neg (by decide),at67 _ _ (by decide) (by decide),if_neg (by decide),at67 _ _ (by decide) (by decide),if_neg (by decide),at67 _ _ (by decide) (by decide),if_neg (by decide),at67 _ _ (by decide) (by decide),if_pos rfl]
 ·rw [at67 _ _ (by decide) (by decide),if_neg (by decide),at67 _ _ (by decide) (by decide),if_neg (by decide),at67 _ _ (by decide) (by decide),if_neg (by decide),at67 _ _ (by decide) (by decide),if_neg (by decide),at67 _ _ (by decide) (by decide),if_neg (by decide),at67 _ _ (by decide) (by decide),if_pos rfl]
 ·rw [at67 _ _ (by decide) (by decide),if_neg (by decide),at67 _ _ (by decide) (by decide),if_neg (by decide),at67 _ _ (by decide) (by decide),if_neg (by decide),at67 _ _ (by decide) (by decide),if_neg (by decide),at67 _ _ (by decide) (by decide),if_pos rfl]
 ·rw [at67 _ _ (by decide) (by decide),if_neg (by decide),at67 _ _ (by decide) (by decide),if_neg (by decide),at67 _ _ (by decide) (by decide),if_neg (by decide),at67 _ _ (by decide) (by decide),if_pos rfl]
 ·rw [at67 _ _ (by decide) (by decide),if_neg (by decide),at67 _ _ (by decide) (by decide),if_neg (by decide),at67 _ _ (by decide) (by decide),if_pos rfl]
 ·rw [at67 _ _ (by decide) (by decide),if_neg (by decide),at67 _ _ (by decide) (by decide),if_pos rfl]
 ·rw [at67 _ _ (by decide) (by decide),if_pos rfl]
section
variable {g:Gr} (hg:GOK g)
include hg
theorem hol21 {t:Int} (ht:0≤t∧t<3) (h:holB g 1 t=true):holB g 2 t=true:=by
 have a1:ask g 1 t=0:=ask_of hg (by decide) ht (fun h=>absurd h (by decide))
 have a2:ask g 2 t=0:=ask_of hg (by decide) ht (fun h=>absurd h (by decide))
 exact (holB_iff a2).2 fun hb=>(holB_iff a1).1 h (Bad21 hg hb)
theorem hol20 {t:Int} (ht:0≤t∧t<3) (h:holB g 0 0=true):holB g 2 t=true:=by
 have a0:ask g 0 0=0:=ask_of hg (by decide) (by decide) (fun _=>rfl)
 have a2:ask g 2 t=0:=ask_of hg (by decide) ht (fun h=>absurd h (by decide))
 exact (holB_iff a2).2 fun hb=>(holB_iff a0).1 h (Bad20 hg hb)
theorem hol01 (h:evB g=true):holB g 0 0=true:=by
 have a0:ask g 0 0=0:=ask_of hg (by decide) (by decide) (fun _=>rfl)
 have a1:∀ t,0≤t→t<3→ask g 1 t=0:=fun t t1 t2=>ask_of hg (by decide) ⟨t1,t2⟩ (fun h=>absurd h (by decide))
 refine (holB_iff a0).2 fun hb=>?_
 obtain ⟨t,⟨t1,t2⟩,hb1⟩:=Bad01 hg hb
 unfold evB at h
 rw [Bool.and_eq_true,Bool.and_eq_true] at h
 have:t=0∨t=1∨t=2:=by omega
 rcases this with rfl|rfl|rfl
 ·exact (holB_iff (a1 0 (by decide) (by decide))).1 h.1.1 hb1
 ·exact (holB_iff (a1 1 (by decide) (by decide))).1 h.1.2 hb1
 ·exact (holB_iff (a1 2 (by decide) (by decide))).1 h.2 hb1
theorem Top_k5:linealtop_TopProgress_k5 (F2 g)=some true:=by
 obtain ⟨f0,f3,f4,f5,f6,f7,f8⟩:=F2_at g
 have step:∀ (t:Int) (j k:Nat),0≤t→t<3→3+t.toNat*1=j→6+t.toNat*1=k→boolAt T67 (F2 g) j=holB g 1 t→boolAt T67 (F2 g) k=holB g 2 t→linealtop_TopProgress_b3 (F2 g) t=some (.next (t+1)):=fun t j k t1 t2 hj hk e1 e2=>by
  have d1:=hol21 hg ⟨t1,t2⟩
  have d2:=hol20 hg ⟨t1,t2⟩
  have kin:InK .i64 (t+1):=by rw [inK_i64]; omega
  unfold linealtop_TopProgress_b3
  rw [if_pos (decide_eq_true t2),f0,ck_pos t1,ck_pos t2,ck_pos t1,ck_pos t2,ck_pos kin,hj,hk,e1,e2]
  generalize holB g 0 0=x at *
  generalize holB g 1 t=y at *
  generalize holB g 2 t=z at *
  cases x<;>cases y<;>cases z<;>simp at d1 d2<;>rfl
 have loop:whileO (linealtop_TopProgress_b3 (F2 g)) 0=some (.inr ()):=by
  refine whileO_on (step 0 3 6 (by decide) (by decide) rfl rfl f3 f6) (whileO_on (step 1 4 7 (by decide) (by decide) rfl rfl f4 f7) (whileO_on (step 2 5 8 (by decide) (by decide) rfl rfl f5 f8) (whileO_end ?_)))
  unfold linealtop_TopProgress_b3
  rw [if_neg (by simp)]
 unfold linealtop_TopProgress_k5 linealtop_TopProgress_k6
 rw [loop,Awake8]
 rfl
theorem Top_k1 (hz:okZ g):linealtop_TopProgress_k1 g (F2 g)=some true:=by
 obtain ⟨f0,f3,f4,f5,f6,f7,f8⟩:=F2_at g
 have k5:=Top_k5 hg
 have h01:=hol01 hg
 have e0:evR g=(evB g,0):=if_pos (okG_iff.2 hg)
 unfold linealtop_TopProgress_k1
 rw [Everybody_eq g hz,Option.bind_some,e0,if_neg (by simp),f3,f4,f5,f0,k5]
 have ee:evB g=(holB g 1 0&&holB g 1 1&&holB g 1 2):=rfl
 simp only
 rw [ee] at h01 ⊢
 generalize holB g 0 0=x at *
 generalize holB g 1 0=a at *
 generalize holB g 1 1=b at *
 generalize holB g 1 2=c at *
 cases a<;>cases b<;>cases c<;>cases x<;>simp at h01<;>rfl
end
theorem TopProgress_eq (g:Gr) (hk:okEl (.pair (.int .i64) (.sl (.pair (.int .i64) (.pair (.int .i64) (.pair (.int .i64) .bool))))) g) (ranks path circle:List Int):linealtop_TopProgress g ranks path circle=some true:=by
 have hz:=okZ_of hk
 unfold linealtop_TopProgress
 have e1:lineallaw07_Long g=some ():=rfl
 rw [e1,Option.bind_some]
 by_cases h1:100<(g.2.length:Int)
 ·rw [if_pos (by simpa using h1),Awake8]; rfl
 rw [if_neg (by simpa using h1),rValid_eq g hz,Option.bind_some]
 by_cases ho:okG g=true
 ·have hg:=okG_iff.1 ho
  rw [if_neg (by simp [ho])]
  by_cases h2:100<(ranks.length:Int)
  ·rw [if_pos (by simpa using h2),Awake8]; rfl
  rw [if_neg (by simpa using h2)]
  by_cases h3:1100<(path.length:Int)
  ·rw [if_pos (by simpa using h3),Awake8]; rfl
  rw [if_neg (by simpa using h3)]
  by_cases h4:1100<(circle.length:Int)
  ·rw [if_pos (by simpa using h4),Awake8]; rfl
  rw [if_neg (by simpa using h4),Top_loop hg hz ranks path circle (few_of (n:=100) (by omega)),Option.bind_some]
  exact Top_k1 hg hz
 ·rw [if_pos (by simp [ho]),Awake8]; rfl
end Go.Proofs.Yteclokkdgmacpaa
