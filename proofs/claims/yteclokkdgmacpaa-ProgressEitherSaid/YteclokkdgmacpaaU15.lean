/-
 Layer 7,pure: a claim holds and has ranks,or it does not and has a circle: ProgressEither answers true.
-/
import Derived.Test.YteclokkdgmacpaaU14
namespace Go.Proofs.Yteclokkdgmacpaa
open Go.RowKit
set_option linter.unusedVariables false
set_option linter.unusedSimpArgs false
set_option linter.unusedSectionVars false
set_option maxRecDepth 10000
theorem either {g:Gr} {c t:Int} (h:ask g c t=0):(holB g c t=true∧(∃ r,Least (clm c t) g r∧rksR g c t=(r,0))∧lasR g c t=([],[],5)) ∨ (holB g c t=false∧rksR g c t=([],5)∧∃ p q,lasR g c t=(p,q,0)∧refB (clm c t) g p q=true∧p.length≤8∧q.length≤8):=by
 have hg:=(ask_cases h).1
 have hi:=holB_iff h
 rcases lasA_or h with ⟨k1,k2⟩ | ⟨k1,p,q,k2⟩
 ·left
  refine ⟨k1,?_,by unfold lasR; rw [if_pos h,k2]⟩
  rcases least_or h with hb | ⟨r,hr⟩
  ·exact absurd hb (hi.1 k1)
  ·exact ⟨r,hr,rksR_some h (rkA_some hr)⟩
 ·right
  obtain ⟨r1,r2,r3⟩:=lasA_some hg k2
  exact ⟨k1,rksR_none h (rkA_none hg (refB_bad hg r1)),p,q,by unfold lasR; rw [if_pos h,k2],r1,r2,r3⟩
theorem least_rk {C:Clm} {g:Gr} (hg:GOK g) {r:List Int} (h:Least C g r):rk100 g r=true:=by
 have hlo:=hg.lo
 have hhi:=hg.hi
 have hl:=h.len
 unfold rk100
 rw [Bool.and_eq_true,decide_eq_true_iff,List.all_eq_true]
 refine ⟨by omega,fun x hx=>?_⟩
 obtain ⟨i,hi,rfl⟩:=List.mem_iff_getElem.1 hx
 have:=h.rng (i:Int) (by omega) (by omega)
 unfold rAt at this
 rw [Int.toNat_natCast,getD_of (List.getElem?_eq_getElem hi)] at this
 exact isB_iff.2 ⟨this.1,by omega⟩
theorem least_prvR {g:Gr} {c t:Int} (h:ask g c t=0) {r:List Int} (hr:Least (clm c t) g r):prvR g c t r=(true,0):=by
 unfold prvR
 rw [if_pos h,if_pos (least_rk (ask_cases h).1 hr),decide_eq_true hr.prv]
theorem prvR_cases {g:Gr} {c t:Int} (h:ask g c t=0) (r:List Int):(prvR g c t r=(true,0)∧rk100 g r=true∧Prv (clm c t) g r) ∨ prvR g c t r=(false,0) ∨ prvR g c t r=(false,2):=by
 unfold prvR
 rw [if_pos h]
 by_cases h1:rk100 g r=true
 ·rw [if_pos h1]
  by_cases h2:Prv (clm c t) g r
  ·rw [decide_eq_true h2]; exact .inl ⟨rfl,h1,h2⟩
  ·rw [decide_eq_false h2]; exact .inr (.inl rfl)
 ·rw [if_neg h1]; exact .inr (.inr rfl)
theorem prv_hol {g:Gr} {c t:Int} (h:ask g c t=0) {r:List Int} (hp:Prv (clm c t) g r):holB g c t=true:=(holB_iff h).2 (prv_good (ask_cases h).1 hp)
theorem ref_hol {g:Gr} {c t:Int} (h:ask g c t=0) {p q:List Int} (hp:refB (clm c t) g p q=true):holB g c t=false:=by
 rw [← Bool.not_eq_true]
 exact fun hh=>(holB_iff h).1 hh (refB_bad (ask_cases h).1 hp)
theorem refR_ok {g:Gr} {c t:Int} (h:ask g c t=0) (p q:List Int):refR g c t p q=(refB (clm c t) g p q,0):=if_pos h
section
variable {g:Gr} (hg:GOK g) (hz:okZ g)
include hg hz
theorem Either_loop {c t:Int} (h:ask g c t=0) {L:List Int} (hL:Least (clm c t) g L) (ranks:List Int) (b:Bool) (hb:b=true→rk100 g ranks=true∧Prv (clm c t) g ranks) (e:Int):whileO (lineallaw07_ProgressEither_b1 g ranks (L,0) (reachL g,e)) (b,0)=some (.inr ()):=by
 have hrl:=reachL_len hg
 have hlo:=hg.lo
 have hl:=hL.len
 refine whileO_iter (body:=lineallaw07_ProgressEither_b1 g ranks (L,0) (reachL g,e)) (fun (s:Bool) (k:Int)=>(s,k)) (reachL g).length (fun _ s=>s) (fun _=>Sum.inr ()) (fun _ s=>s=b) (s0:=b) rfl (fun k s hk hs=>?_) (fun s _=>?_) |>.1
 ·subst hs
  refine ⟨?_,rfl⟩
  have hm:(reachL g).getD k 0∈reachL g:=getD_in hk
  have hp:=reachL_in hg hm
  have kin:InK .i64 ((k:Int) + 1):=by rw [inK_i64]; omega
  unfold lineallaw07_ProgressEither_b1
  dsimp only
  rw [Int.toNat_natCast]
  generalize (reachL g).getD k 0=p at *
  rw [if_pos (by rw [decide_eq_true_eq]; omega),ck_pos (by omega),ck_pos (by omega),if_neg (by rw [decide_eq_true_eq]; omega),if_neg (by rw [decide_eq_true_eq]; omega)]
  cases hs:s with
  | false=>rw [if_neg (by simp),ck_pos kin]
  | true =>
   obtain ⟨b1,b2⟩:=hb hs
   have hrk:=rk100_Rk b1
   have hrl:=hrk.1
   have hle:=hL.le ranks b2 (fun q q1 q2=>(hrk.at q1 q2).1) p hp.1 hp.2
   unfold rAt at hle
   rw [if_pos rfl,if_neg (by simp; omega),ck_pos hp.1,ck_pos (by omega),ck_pos hp.1,ck_pos (by omega),if_neg (by rw [decide_eq_true_eq]; omega),ck_pos kin]
 ·unfold lineallaw07_ProgressEither_b1
  simp only
  rw [if_neg (by simp)]
theorem Either_k2 {c t:Int} (h:ask g c t=0) (ranks:List Int) (b:Bool) (hb:b=true→rk100 g ranks=true∧Prv (clm c t) g ranks):lineallaw07_ProgressEither_k2 g ranks (c,t) (holB g c t,0) (rksR g c t) (lasR g c t) b=some true:=by
 have hlo:=hg.lo
 have hhi:=hg.hi
 unfold lineallaw07_ProgressEither_k2
 rcases either h with ⟨k1,⟨L,hL,k2⟩,k3⟩ | ⟨k1,k2,p,q,k3,k4,k5,k6⟩
 ·have hl:=hL.len
  rw [k1,k2,k3,if_neg (by simp)]
  simp only
  rw [Prove_eq g hz c t L (few_of (n:=8) (by omega)),least_prvR h hL,Option.bind_some,Reached_eq g hz,if_pos (okG_iff.2 hg),Option.bind_some,if_neg (by simp),if_neg (by simp),if_neg (by simp),if_neg (by rw [Bool.not_eq_true',decide_eq_false_iff_not]; omega),Either_loop hg hz h hL ranks b hb]
  show lineallaw07_ProgressEither_k3=_
  unfold lineallaw07_ProgressEither_k3
  rw [Awake8]; rfl
 ·rw [k1,k2,k3,if_pos (by simp)]
  simp only
  rw [Refutes_eq g hz,refR_ok h,k4,Option.bind_some,if_pos (by simp),if_pos (by simp),if_pos (by simp),Awake8]
  rfl
theorem Either_k1 {c t:Int} (h:ask g c t=0) (ranks path circle:List Int) (hf:few ranks):lineallaw07_ProgressEither_k1 g ranks path circle (c,t) (holB g c t,0) (rksR g c t) (lasR g c t)=some true:=by
 have k2t:=fun hb=>Either_k2 hg hz h ranks true hb
 have k2f:=Either_k2 hg hz h ranks false (fun hh=>by cases hh)
 unfold lineallaw07_ProgressEither_k1
 simp only
 rw [Prove_eq g hz c t ranks hf,Option.bind_some,Refutes_eq g hz,Option.bind_some,refR_ok h]
 have hr:=fun hp=>ref_hol (p:=path) (q:=circle) h hp
 rcases prvR_cases h ranks with ⟨e,e1,e2⟩ | e | e
 ·have hh:=prv_hol h e2
  have nr:refB (clm c t) g path circle=false:=by
   cases hb:refB (clm c t) g path circle with
   | false=>rfl
   | true=>rw [hr hb] at hh; cases hh
  rw [e,nr,if_neg (by simp),if_neg (by simp),if_pos (by simp),if_neg (by simp [hh]),if_neg (by simp)]
  exact k2t fun _=>⟨e1,e2⟩
 ·rw [e,if_neg (by simp),if_neg (by simp),if_neg (by simp)]
  cases hb:refB (clm c t) g path circle with
  | false=>rw [if_neg (by simp)]; exact k2f
  | true=>rw [if_pos (by simp),if_neg (by simp [hr hb])]; exact k2f
 ·rw [e,if_pos (by simp),if_neg (by simp),if_neg (by simp),if_neg (by simp)]
  cases hb:refB (clm c t) g path circle with
  | false=>rw [if_neg (by simp)]; exact k2f
  | true=>rw [if_pos (by simp),if_neg (by simp [hr hb])]; exact k2f
end
theorem ProgressEither_eq (g:Gr) (hk:okEl (.pair (.int .i64) (.sl (.pair (.int .i64) (.pair (.int .i64) (.pair (.int .i64) .bool))))) g) (c:Int) (hc:okEl (.int .u8) c) (t:Int) (ht:okEl (.int .u8) t) (ranks path circle:List Int):lineallaw07_ProgressEither g c t ranks path circle=some true:=by
 have hz:=okZ_of hk
 have u8:∀ x:Int,okEl (.int .u8) x→0≤x∧x≤255:=fun x h=>by have:InK .u8 x:=h; rw [inK_u8] at this; exact this
 have hc:=u8 c hc
 have ht:=u8 t ht
 unfold lineallaw07_ProgressEither
 have e1:lineallaw07_Long g=some ():=rfl
 have e2:∀ l,lineallaw07_many l=some ():=fun l=>rfl
 rw [e1,Option.bind_some]
 by_cases h1:100 < (g.2.length:Int)
 ·rw [if_pos (by simpa using h1),Awake8]; rfl
 rw [if_neg (by simpa using h1),rValid_eq g hz,Option.bind_some]
 by_cases ho:okG g=true
 ·have hg:=okG_iff.1 ho
  rw [if_neg (by simp [ho]),e2,Option.bind_some]
  by_cases h2:1100 < (ranks.length:Int)
  ·rw [if_pos (by simpa using h2),Awake8]; rfl
  rw [if_neg (by simpa using h2),e2,Option.bind_some]
  by_cases h3:1100 < (path.length:Int)
  ·rw [if_pos (by simpa using h3),Awake8]; rfl
  rw [if_neg (by simpa using h3),e2,Option.bind_some]
  by_cases h4:1100 < (circle.length:Int)
  ·rw [if_pos (by simpa using h4),Awake8]; rfl
  have hf:few ranks:=few_of (n:=1100) (by omega)
  rw [if_neg (by simpa using h4),asked7_eq hc ht,Option.bind_some]
  have hq:∃ c' t',(if c % 3=0 then ((0:Int),(0:Int)) else (c % 3,t % 3))=(c',t')∧(0≤c'∧c' < 3)∧(0≤t'∧t' < 3)∧(c'=0→t'=0):=by
   by_cases h0:c % 3=0
   ·exact ⟨0,0,by rw [if_pos h0],by decide,by decide,fun _=>rfl⟩
   ·exact ⟨c % 3,t % 3,by rw [if_neg h0],by omega,by omega,fun h=>absurd h h0⟩
  obtain ⟨c',t',hq,q1,q2,q3⟩:=hq
  have ha:ask g c' t'=0:=ask_of hg q1 q2 q3
  have key:=Either_k1 hg hz ha ranks path circle hf
  rw [hq,Holds_eq g hz,Option.bind_some,Ranks_eq g hz,Option.bind_some,Lasso_eq g hz,Option.bind_some,holR_ok ha,if_neg (by simp)]
  rcases either ha with ⟨k1,⟨L,hL,k2⟩,k3⟩ | ⟨k1,k2,p,q,k3,k4,k5,k6⟩
  ·rw [if_neg (by rw [k1,k2]; simp),if_neg (by rw [k1,k3]; simp),if_neg (by rw [k1]; simp)]
   exact key
  ·rw [if_neg (by rw [k1,k2]; simp),if_neg (by rw [k1,k3]; simp),if_pos (by rw [k1]; simp),if_neg (by rw [k2]; simp),if_neg (by rw [k3]; simp)]
   exact key
 ·rw [if_pos (by simp [ho]),Awake8]; rfl
end Go.Proofs.Yteclokkdgmacpaa
