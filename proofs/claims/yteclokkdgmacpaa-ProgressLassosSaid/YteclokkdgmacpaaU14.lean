/-
 Layer 7,pure: Refutes of both sides; Lasso; ProgressLassos answers true.
-/
import Derived.Test.YteclokkdgmacpaaU13
namespace Go.Proofs.Yteclokkdgmacpaa
open Go.RowKit
set_option linter.unusedVariables false
set_option linter.unusedSimpArgs false
set_option linter.unusedSectionVars false
set_option maxRecDepth 10000
noncomputable def refR (g:Gr) (c t:Int) (path circle:List Int):Bool×Int:=if ask g c t=0 then (refB (clm c t) g path circle,0) else (false,ask g c t)
theorem Refutes_eq (g:Gr) (hz:okZ g) (c t:Int) (path circle:List Int):progress_Refutes g c t path circle=some (refR g c t path circle):=by
 unfold progress_Refutes refR
 rw [statementOf_eq g hz,Option.bind_some]
 by_cases h:ask g c t=0
 ·rw [stmR_ok h,if_pos h]
  obtain ⟨hg,⟨rfl,rfl⟩ | rfl | rfl⟩:=ask_cases h
  ·have e:=isLasso_eq hg path circle
   show (progress_statement_isLasso g.1 g.2 path circle).bind _=_
   rw [e]; rfl
  ·have e:=isLasso_2_eq hg t path circle
   show (progress_statement_isLasso_v2 g.1 g.2 t t path circle).bind _=_
   rw [e]; rfl
  ·have e:=isLasso_3_eq hg t path circle
   show (progress_statement_isLasso_3 g.1 g.2 t t path circle).bind _=_
   rw [e]; rfl
 ·rw [stmR_bad h,if_neg h]
  simp only
  rw [if_pos (by simp [h])]
noncomputable def lasR (g:Gr) (c t:Int):List Int×List Int×Int:=if ask g c t=0 then (match lasA (clm c t) g with | some (p,q)=>(p,q,0) | none=>([],[],5)) else ([],[],ask g c t)
theorem Lasso_eq (g:Gr) (hz:okZ g) (c t:Int):progress_Lasso g c t=some (lasR g c t):=by
 unfold progress_Lasso lasR
 rw [statementOf_eq g hz,Option.bind_some]
 by_cases h:ask g c t=0
 ·rw [stmR_ok h,if_pos h]
  obtain ⟨hg,⟨rfl,rfl⟩ | rfl | rfl⟩:=ask_cases h
  ·have e:=lasso_eq hg
   show (progress_statement_lasso g.1 g.2).bind _=_
   rw [e]; cases lasA (clm 0 0) g <;> rfl
  ·have e:=lasso_2_eq hg t
   show (progress_statement_lasso_2 g.1 g.2 t t).bind _=_
   rw [e]; cases lasA (clm 1 t) g <;> rfl
  ·have e:=lasso_3_eq hg t
   show (progress_statement_lasso_3 g.1 g.2 t t).bind _=_
   rw [e]; cases lasA (clm 2 t) g <;> rfl
 ·rw [stmR_bad h,if_neg h]
  simp only
  rw [if_pos (by simp [h])]
theorem pth_iff (g:Gr) {l:List Int} (h0:l ≠ []) (p q:Int):leadL g p l=some q↔isPth g l=true∧(mvAt g (l.getD 0 0)).1=p∧(mvAt g (l.getD (l.length - 1) 0)).2.2.1=q:=by
 cases hl:l with
 | nil=>exact absurd hl h0
 | cons i r =>
  obtain ⟨s,j,e,e2⟩:=last_of (l:=i :: r) (by simp)
  have e0:(i :: r).getD 0 0=i:=rfl
  rw [e0,e2,isPth_cons,Bool.and_eq_true]
  constructor
  ·intro h
   have h':=h
   rw [leadL_cons] at h
   split at h
   ·rename_i hc
    refine ⟨⟨hc.1,by rw [hc.2,h']; rfl⟩,hc.2,?_⟩
    rw [e] at h'
    exact (lead_last g s p q j h').1.symm
   ·cases h
  ·rintro ⟨⟨h1,h2⟩,h3,h4⟩
   have h3':(g.2.getD i.toNat (0,0,0,false)).1=p:=h3
   rw [h3'] at h2
   obtain ⟨q',hq⟩:=Option.isSome_iff_exists.1 h2
   have hq2:=hq
   rw [e] at hq2
   have:=(lead_last g s p q' j hq2).1
   rw [hq,this]
   exact congrArg some h4
theorem loop_any {body:Bool×Int→Option (Step (Bool×Int) (Sum Unit Bool))} (xs:List Int) (p q:Int→Bool) (h:∀ (k:Nat) (x:Int) (s:Bool),xs[k]?=some x→body (s,(k:Int))=some (if p x=true then .next ((s || q x),(k:Int) + 1) else .done (.inl ()))) (hd:∀ s,body (s,(xs.length:Int))=some (.done (.inr s))) :
  ∀ (d k:Nat) (s:Bool),xs.length - k=d→k≤xs.length→whileO body (s,(k:Int))=some (if (xs.drop k).all p=true then .inr (s || (xs.drop k).any q) else .inl ()):=by
 intro d
 induction d with
 | zero =>
  intro k s h1 h2
  have:k=xs.length:=by omega
  subst this
  rw [List.drop_length]
  simpa using whileO_end (hd s)
 | succ d ih =>
  intro k s h1 h2
  have hlt:k < xs.length:=by omega
  have hb:=h k _ s (List.getElem?_eq_getElem hlt)
  rw [List.drop_eq_getElem_cons hlt,List.all_cons,List.any_cons]
  cases hp:p xs[k] with
  | false =>
   rw [hp,if_neg (by simp)] at hb
   rw [Bool.false_and,if_neg (by simp)]
   exact whileO_end hb
  | true =>
   rw [hp,if_pos rfl] at hb
   refine whileO_on hb ?_
   have e:((k:Int) + 1)=((k + 1:Nat):Int):=by omega
   rw [e,Bool.true_and,ih (k + 1) _ (by omega) (by omega),Bool.or_assoc]
theorem rRef_k1 {g:Gr} (hg:GOK g) {c t:Int} (ha:ask g c t=0) {circle:List Int} (h0:circle ≠ []) (hp:isPth g circle=true) (hl:circle.length≤1000) (b:Int):linealref07_Refutes_k1 g c t circle b=some (lasB (clm c t) g [] circle (some b),0):=by
 have hpos:0 < circle.length:=List.length_pos_iff.2 h0
 have hall:∀ i∈circle,isB i (g.2.length:Int)=true:=by
  cases hc:circle with
  | nil=>exact absurd hc h0
  | cons i r =>
   have:=(pth_iff g (l:=i :: r) (by simp) (mvAt g i).1 _).2 ⟨by rw [← hc]; exact hp,rfl,rfl⟩
   exact lead_bound g _ _ _ this
 have b0:=isB_iff.1 (hall _ (getD_in (d:=(0:Int)) hpos))
 have b1:=isB_iff.1 (hall _ (getD_in (d:=(0:Int)) (show circle.length - 1 < circle.length by omega)))
 have e1:((circle.length:Int) - 1).toNat=circle.length - 1:=by omega
 have hiff:=pth_iff g h0 b b
 have hgl:=hg.len
 unfold linealref07_Refutes_k1 lasB
 simp only [e1]
 rw [ck_pos (by omega),ck_pos b0.1,ck_pos b0.2]
 by_cases h1:(mvAt g (circle.getD 0 0)).1=b
 ·rw [if_neg (by simpa using h1),ck_pos (by rw [inK_i64]; omega),ck_pos (by omega),ck_pos (by omega),ck_pos b1.1,ck_pos b1.2]
  by_cases h2:(mvAt g (circle.getD (circle.length - 1) 0)).2.2.1=b
  ·rw [if_neg (by simpa using h2),decide_eq_true (hiff.2 ⟨hp,h1,h2⟩),Bool.true_and]
   have key:=loop_any (body:=linealref07_Refutes_b1 g c t circle) circle (fun i=>(clm c t).goes (mvAt g i)) (fun i=>(clm c t).cnt (mvAt g i)) (fun k i s hk=>by
    have hlt:=(List.getElem?_eq_some_iff.1 hk).1
    have hi:=isB_iff.1 (hall i (List.mem_of_getElem? hk))
    have kin:InK .i64 ((k:Int) + 1):=by rw [inK_i64]; omega
    obtain ⟨by0,f1,f2⟩:=fal_of ha (mvAt g i)
    unfold linealref07_Refutes_b1
    simp only [Int.toNat_natCast,getD_of hk]
    rw [if_pos (by rw [decide_eq_true_eq]; omega),ck_pos (by omega),ck_pos (by omega),ck_pos hi.1,ck_pos hi.2,f1,Option.bind_some]
    by_cases hgo:(clm c t).goes (mvAt g i)=true
    ·have hby:=f2 hgo
     rw [if_neg (show ¬ (!(clm c t).goes (mvAt g i))=true by rw [hgo]; decide),if_pos hgo,ck_pos kin,ck_pos kin]
     have e:decide (0 < by0)=(clm c t).cnt (mvAt g i):=by
      rw [hby]; unfold wt
      by_cases hc:(clm c t).cnt (mvAt g i)=true
      ·rw [if_pos hc,hc]; rfl
      ·rw [if_neg hc]; simp only [Bool.not_eq_true] at hc; rw [hc]; rfl
     rw [e]
     cases s <;> rfl
    ·rw [if_pos (show (!(clm c t).goes (mvAt g i))=true by rw [Bool.not_eq_true] at hgo; rw [hgo]; rfl),if_neg hgo]) (fun s=>by
    unfold linealref07_Refutes_b1
    simp only
    rw [if_neg (by simp)]) circle.length 0 false (by simp) (by simp)
   have e0:((0:Nat):Int)=0:=rfl
   rw [e0,List.drop_zero,Bool.false_or] at key
   rw [key,Option.bind_some]
   unfold goesL cntL linealref07_Refutes_k2
   cases circle.all fun i=>(clm c t).goes (mvAt g i) <;> rfl
  ·rw [if_pos (by simpa using h2),decide_eq_false fun hh=>h2 (hiff.1 hh).2.2]
   rfl
 ·rw [if_pos (by simpa using h1),decide_eq_false fun hh=>h1 (hiff.1 hh).2.1]
  rfl
theorem rRefutes_eq (g:Gr) (hz:okZ g) (c t:Int) (path circle:List Int):linealref07_Refutes g c t path circle=some (refR g c t path circle):=by
 unfold linealref07_Refutes refR
 rw [asked_eq g hz,Option.bind_some]
 by_cases h:ask g c t=0
 ·have hg:=(ask_cases h).1
  rw [if_neg (by simp [h]),if_pos h,risPath_eq,Option.bind_some]
  have no:(¬ isPath g path=true ∨ ¬ isPath g circle=true ∨ circle=[])→(some (false,0):Option (Bool×Int))=some (refB (clm c t) g path circle,0):=fun hh=>by
   have:refB (clm c t) g path circle=false:=by
    rw [← Bool.not_eq_true]
    intro hr
    obtain ⟨l1,l2,b,h1,h2,h3,i,hi,h4⟩:=refB_iff.1 hr
    rcases hh with hh | hh | hh
    ·exact hh (lead_path h1 l1).1
    ·have hne:circle ≠ []:=fun e=>by rw [e] at hi; cases hi
     apply hh
     unfold isPath
     rw [decide_eq_true l2,((pth_iff g hne b b).1 h2).1]; rfl
    ·rw [hh] at hi; cases hi
   rw [this]
  by_cases p1:isPath g path=true
  ·rw [if_neg (by simp [p1]),risPath_eq,Option.bind_some]
   by_cases p2:isPath g circle=true
   ·rw [if_neg (by simp [p2])]
    by_cases p3:circle=[]
    ·rw [if_pos (by simp [p3])]
     exact no (.inr (.inr p3))
    ·have hpos:0 < circle.length:=List.length_pos_iff.2 p3
     have q1:=p1
     have q2:=p2
     unfold isPath at q1 q2
     rw [Bool.and_eq_true,decide_eq_true_iff] at q1 q2
     rw [if_neg (by rw [decide_eq_true_eq]; omega)]
     unfold refB
     rw [decide_eq_true q1.1,decide_eq_true q2.1,Bool.true_and,Bool.true_and]
     by_cases p4:path=[]
     ·subst p4
      rw [if_neg (by simp),rRef_k1 hg h p3 q2.2 q2.1]
      rfl
     ·have hpp:0 < path.length:=List.length_pos_iff.2 p4
      have hall:∀ i∈path,isB i (g.2.length:Int)=true:=by
       cases hc:path with
       | nil=>exact absurd hc p4
       | cons i r =>
        have:=(pth_iff g (l:=i :: r) (by simp) (mvAt g i).1 _).2 ⟨by rw [← hc]; exact q1.2,rfl,rfl⟩
        exact lead_bound g _ _ _ this
      have b0:=isB_iff.1 (hall _ (getD_in (d:=(0:Int)) hpp))
      have b1:=isB_iff.1 (hall _ (getD_in (d:=(0:Int)) (show path.length - 1 < path.length by omega)))
      have e1:((path.length:Int) - 1).toNat=path.length - 1:=by omega
      rw [if_pos (by rw [decide_eq_true_eq]; omega),ck_pos (by omega),ck_pos b0.1,ck_pos b0.2,e1]
      by_cases p5:(mvAt g (path.getD 0 0)).1=0
      ·have hl:=(pth_iff g p4 0 _).2 ⟨q1.2,p5,rfl⟩
       rw [if_neg (by simpa using p5),ck_pos (by rw [inK_i64]; omega),ck_pos (by omega),ck_pos (by omega),ck_pos b1.1,ck_pos b1.2,rRef_k1 hg h p3 q2.2 q2.1,hl]
       rfl
      ·rw [if_pos (by simpa using p5)]
       cases hl:leadL g 0 path with
       | none=>rfl
       | some b=>exact absurd ((pth_iff g p4 0 b).1 hl).2.1 p5
   ·rw [if_pos (by simp [p2])]
    exact no (.inr (.inl p2))
  ·rw [if_pos (by simp [p1])]
   exact no (.inl p1)
 ·rw [if_pos (by simp [h]),if_neg h]
theorem lasA_or {g:Gr} {c t:Int} (h:ask g c t=0):(holB g c t=true∧lasA (clm c t) g=none) ∨ (holB g c t=false∧∃ p q,lasA (clm c t) g=some (p,q)):=by
 have hg:=(ask_cases h).1
 have hi:=holB_iff h
 cases hl:lasA (clm c t) g with
 | none=>exact .inl ⟨hi.2 (lasA_none hg hl),rfl⟩
 | some x =>
  refine .inr ⟨?_,x.1,x.2,rfl⟩
  rw [← Bool.not_eq_true]
  intro hh
  exact hi.1 hh (refB_bad hg (lasA_some hg (p:=x.1) (c:=x.2) hl).1)
theorem ProgressLassos_eq (g:Gr) (hk:okEl (.pair (.int .i64) (.sl (.pair (.int .i64) (.pair (.int .i64) (.pair (.int .i64) .bool))))) g) (c t:Int) (path circle:List Int):lineallaw07_ProgressLassos g c t path circle=some true:=by
 have hz:=okZ_of hk
 unfold lineallaw07_ProgressLassos
 have e1:lineallaw07_Long g=some ():=rfl
 have e2:lineallaw07_many path=some ():=rfl
 have e3:lineallaw07_many circle=some ():=rfl
 rw [e1,Option.bind_some]
 by_cases h1:100 < (g.2.length:Int)
 ·rw [if_pos (by simpa using h1),Awake8]; rfl
 rw [if_neg (by simpa using h1),e2,Option.bind_some]
 by_cases h2:1100 < (path.length:Int)
 ·rw [if_pos (by simpa using h2),Awake8]; rfl
 rw [if_neg (by simpa using h2),e3,Option.bind_some]
 by_cases h3:1100 < (circle.length:Int)
 ·rw [if_pos (by simpa using h3),Awake8]; rfl
 rw [if_neg (by simpa using h3),Refutes_eq g hz,Option.bind_some,rRefutes_eq g hz,Option.bind_some,if_neg (by simp),if_neg (by simp),Lasso_eq g hz,Option.bind_some,rHolds_eq g hz,Option.bind_some]
 by_cases ha:ask g c t=0
 ·have hg:=(ask_cases ha).1
  rw [holR_ok ha,if_neg (by simp)]
  rcases lasA_or ha with ⟨k1,k2⟩ | ⟨k1,p,q,k2⟩
  ·have el:lasR g c t=([],[],5):=by unfold lasR; rw [if_pos ha,k2]
   rw [if_pos k1,if_pos k1,el]
   unfold lineallaw07_ProgressLassos_k2
   rw [if_pos (by simp),if_pos (by simp),if_pos (by simp),Awake8]
   rfl
  ·have el:lasR g c t=(p,q,0):=by unfold lasR; rw [if_pos ha,k2]
   obtain ⟨r1,r2,r3⟩:=lasA_some hg k2
   have er:refR g c t p q=(true,0):=by unfold refR; rw [if_pos ha,r1]
   rw [if_neg (by simp [k1]),el,rRefutes_eq g hz,er,Option.bind_some,if_pos (by simp),if_pos (by simp),if_pos (by simp),if_pos (by rw [decide_eq_true_eq]; simp only; omega),if_pos (by rw [decide_eq_true_eq]; simp only; omega),Awake8]
   rfl
 ·have eh:holR g c t=(false,ask g c t):=if_neg ha
  have el:lasR g c t=([],[],ask g c t):=if_neg ha
  rw [eh,if_pos (by simp [ha]),if_neg (by simp),el]
  unfold lineallaw07_ProgressLassos_k1
  rw [if_pos (by simp),if_pos (by simp),if_pos (by simp),Awake8]
  rfl
end Go.Proofs.Yteclokkdgmacpaa
