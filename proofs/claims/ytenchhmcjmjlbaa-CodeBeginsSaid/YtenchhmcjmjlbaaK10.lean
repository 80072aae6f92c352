import Derived.Test.YtenchhmcjmjlbaaK9
namespace Go.Proofs.Ytenchhmcjmjlbaa
open Go.RowKit
set_option linter.unusedVariables false
set_option linter.unusedSimpArgs false
set_option maxRecDepth 10000
theorem leftA_mem {u:Us} {st:St} {x:Int} (h:x∈leftA u st):rB x (u.length:Int)=true∧hasA u st x.toNat=true:=by
  unfold leftA at h
  obtain ⟨t,ht,hx⟩:=List.mem_flatMap.1 h
  split at hx
  · rename_i c
    rw [List.mem_singleton] at hx
    subst hx
    rw [List.mem_range] at ht
    exact ⟨rB_iff.2 (by omega),by rw [Int.toNat_natCast]; exact c⟩
  · cases hx
theorem leftA_nil {u:Us} {st:St} (h:leftA u st=[]) {t:Nat} (ht:t<u.length):hasA u st t=false:=by
  cases hb:hasA u st t with
  | false=>rfl
  | true =>
    exfalso
    have:(t:Int)∈leftA u st:=List.mem_flatMap.2 ⟨t,List.mem_range.2 ht,by rw [if_pos hb]; exact List.mem_singleton.2 rfl⟩
    rw [h] at this; cases this
theorem errU_ok {c:Cd} {u:Us} (hc:vldC c=true) (hu:vldU c u=true):errU c u=0:=by unfold errU; rw [hc,hu]; rfl
theorem outA_ok {c:Cd} {u:Us} (hc:vldC c=true) (hu:vldU c u=true) {l:List Int} {st:St} (h:goA c u (st0 u) l=some st) (h12:l.length≤12):outA c u l=.inr st:=by
  unfold outA
  rw [if_pos (errU_ok hc hu),if_pos h12,h]
theorem sched_loop {x:Sp×Cd×Us} (hf:fitCd x.2.1) (hc:vldC x.2.1=true) (hu:vldU x.2.1 x.2.2=true) (picks:List Int) (hp:∀ q∈picks,0≤q∧q≤255) {n:Nat} (hn:n≤12):∀ (d:Nat) (l:List Int) (st:St),n - l.length=d→l.length≤n→goA x.2.1 x.2.2 (st0 x.2.2) l=some st →
    (∃ l' st',whileO (lineallaw08_schedule_b1 x picks (n:Int)) (l,(l.length:Int))=some (.inl (l',true,true))∧goA x.2.1 x.2.2 (st0 x.2.2) l'=some st'∧leftA x.2.2 st'=[]∧l'.length≤n) ∨
    (∃ l' st',whileO (lineallaw08_schedule_b1 x picks (n:Int)) (l,(l.length:Int))=some (.inr l')∧goA x.2.1 x.2.2 (st0 x.2.2) l'=some st'∧l'.length≤n)
  | 0,l,st,hd,hl,h=>by
    refine .inr ⟨l,st,whileO_end ?_,h,hl⟩
    unfold lineallaw08_schedule_b1
    rw [if_neg (by rw [decide_eq_true_eq]; show ¬ (l.length:Int)<(n:Int); omega)]
  | d+1,l,st,hd,hl,h=>by
    have hul:=vldU_len hu
    have h2:=leftA_len x.2.2 hul.2.1 st
    have eL:code_Left x.2.1 x.2.2 l=some (leftA x.2.2 st,0):=by
      have:=(Left_eq hf x.2.2 l).1
      rw [outA_ok hc hu h (by omega)] at this
      exact this
    by_cases h0:leftA x.2.2 st=[]
    · refine .inl ⟨l,st,whileO_end ?_,h,h0,hl⟩
      unfold lineallaw08_schedule_b1
      dsimp only
      rw [if_pos (decide_eq_true (by omega)),eL,Option.bind_some]
      dsimp only
      rw [if_neg (by simp),h0,if_pos (by simp)]
    · have hpos:0<(leftA x.2.2 st).length:=List.length_pos_iff.2 h0
      obtain ⟨j,hj,eb⟩:∃ j,j<(leftA x.2.2 st).length∧lineallaw08_schedule_b1 x picks (n:Int) (l,(l.length:Int))=lineallaw08_schedule_k2 x (l,(l.length:Int)) ((leftA x.2.2 st).getD j 0):=by
        have e0:lineallaw08_schedule_b1 x picks (n:Int) (l,(l.length:Int))=_:=rfl
        by_cases hq:l.length<picks.length
        · have hg:=getD_in (d:=(0:Int)) hq
          have hb:=hp _ hg
          generalize hy:picks.getD l.length 0=y at hb
          have m1:=Int.emod_lt_of_pos y (show 0<((leftA x.2.2 st).length:Int) by omega)
          have m0:=Int.emod_nonneg y (show ((leftA x.2.2 st).length:Int)≠0 by omega)
          refine ⟨(y % ((leftA x.2.2 st).length:Int)).toNat,by generalize y % ((leftA x.2.2 st).length:Int)=z at m0 m1; omega,?_⟩
          unfold lineallaw08_schedule_b1
          dsimp only
          rw [if_pos (decide_eq_true (by omega)),eL,Option.bind_some]
          dsimp only
          rw [Int.toNat_natCast,hy,if_neg (by simp),if_neg (by rw [decide_eq_true_eq]; omega),ck_pos (by omega),if_pos (decide_eq_true (by omega)),ck_pos (by omega),ck_pos (by omega),ck_pos (by rw [inK_i64]; omega),ck_pos (by omega),ck_pos (by omega),ck_pos m0,ck_pos m1]
        · refine ⟨0,hpos,?_⟩
          unfold lineallaw08_schedule_b1
          dsimp only
          rw [if_pos (decide_eq_true (by omega)),eL,Option.bind_some]
          dsimp only
          rw [if_neg (by simp),if_neg (by rw [decide_eq_true_eq]; omega),ck_pos (by omega),if_neg (by rw [decide_eq_true_eq]; omega)]
      have hm:=leftA_mem (getD_in (d:=(0:Int)) hj)
      generalize (leftA x.2.2 st).getD j 0=y at hm eb
      have hy:=rB_iff.1 hm.1
      have nx:lineallaw08_schedule_b1 x picks (n:Int) (l,(l.length:Int))=some (.next (l++[y],((l++[y]).length:Int))):=by
        rw [eb]
        unfold lineallaw08_schedule_k2
        dsimp only
        rw [if_neg (by rw [decide_eq_true_eq]; omega),if_neg (by rw [decide_eq_true_eq]; omega),ck_pos (by omega),ck_pos (by rw [inK_i64]; omega),List.length_append,List.length_singleton]
        rfl
      have hg:goA x.2.1 x.2.2 (st0 x.2.2) (l++[y])=some (stpA x.2.1 x.2.2 st y.toNat):=by
        rw [goA_app,h,Option.bind_some,goA_cons,if_pos hm]; rfl
      rcases sched_loop hf hc hu picks hp hn d (l++[y]) _ (by rw [List.length_append,List.length_singleton]; omega) (by rw [List.length_append,List.length_singleton]; omega) hg with ⟨l',st',a,b,e,f⟩|⟨l',st',a,b,f⟩
      · exact .inl ⟨l',st',whileO_on nx a,b,e,f⟩
      · exact .inr ⟨l',st',whileO_on nx a,b,f⟩
theorem sched_eq {x:Sp×Cd×Us} (hf:fitCd x.2.1) (hc:vldC x.2.1=true) (hu:vldU x.2.1 x.2.2=true) (picks:List Int) (hp:∀ q∈picks,0≤q∧q≤255) {n:Nat} (hn:n≤12) :
    ∃ l st,lineallaw08_schedule x picks (n:Int)=some (l,decide (leftA x.2.2 st=[]),true)∧goA x.2.1 x.2.2 (st0 x.2.2) l=some st∧l.length≤n:=by
  unfold lineallaw08_schedule
  rcases sched_loop hf hc hu picks hp hn n [] (st0 x.2.2) (by simp) (by simp) rfl with ⟨l',st',a,b,e,f⟩|⟨l',st',a,b,f⟩
  · have a':whileO (lineallaw08_schedule_b1 x picks (n:Int)) ([],0)=some (.inl (l',true,true)):=a
    rw [a']
    exact ⟨l',st',by rw [Option.bind_some,e]; rfl,b,f⟩
  · have a':whileO (lineallaw08_schedule_b1 x picks (n:Int)) ([],0)=some (.inr l'):=a
    rw [a',Option.bind_some]
    refine ⟨l',st',?_,b,f⟩
    simp only
    unfold lineallaw08_schedule_k1
    have eL:code_Left x.2.1 x.2.2 l'=some (leftA x.2.2 st',0):=by
      have:=(Left_eq hf x.2.2 l').1
      rw [outA_ok hc hu b (by omega)] at this
      exact this
    rw [eL,Option.bind_some]
    dsimp only
    cases h:leftA x.2.2 st' with
    | nil=>simp
    | cons a r=>simp; omega
theorem case_eq {x:Sp×Cd×Us} (fc:few x.2.1) (fu:few x.2.2) (hs:okS x.1):∃ b,lineallaw08_IsCase x=some b∧(b=true→vldC x.2.1=true∧vldU x.2.1 x.2.2=true∧(toSp x.1).ok=true∧x.1.2.1=(x.2.1.length:Int)):=by
  unfold lineallaw08_IsCase
  obtain ⟨b,eb⟩:=large_ex x fc fu
  rw [eb,Option.bind_some,rValid_eq]
  cases b with
  | true=>exact ⟨false,by rw [if_neg (by simp)],fun h=>by cases h⟩
  | false =>
    rw [if_pos (by simp),Option.bind_some]
    cases hc:vldC x.2.1 with
    | false=>exact ⟨false,by rw [if_neg (by simp)],fun h=>by cases h⟩
    | true =>
      rw [if_pos rfl,refValid_eq x.1 hs,Option.bind_some]
      cases hv:(toSp x.1).ok with
      | false=>exact ⟨false,by rw [if_neg (by simp)],fun h=>by cases h⟩
      | true =>
        rw [if_pos rfl]
        by_cases ho:x.1.2.1=(x.2.1.length:Int)
        · rw [if_pos (decide_eq_true ho),rIsUse_eq _ (by have:=vldC_len hc; omega)]
          exact ⟨_,rfl,fun h=>⟨rfl,h,rfl,ho⟩⟩
        · rw [if_neg (by rw [decide_eq_true_eq]; exact ho)]
          exact ⟨false,rfl,fun h=>by cases h⟩
end Go.Proofs.Ytenchhmcjmjlbaa
