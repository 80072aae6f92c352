import Derived.Test.YtdicomoggfhbfaaD6
namespace Go.Proofs.Ytdicomoggfhbfaa
open Go.RowKit Go.Maps
set_option linter.unusedVariables false
set_option linter.unusedSimpArgs false
theorem whileO_acc {body:Bool×Int→Option (Step (Bool×Int) (Sum Unit Bool))} {α:Type} (xs:List α) (ok:Nat→α→Bool) (f:α→Bool)
    (h:∀ (k:Nat) (x:α) (p:Bool),xs[k]?=some x→body (p,(k:Int))=some (if ok k x=true then .next (p || f x,(k:Int)+1) else .done (.inl ()))) (hd:∀ p,body (p,(xs.length:Int))=some (.done (.inr p))) :
    (whileO body (false,0)=some (.inr (xs.any f))∧∀ k x,xs[k]?=some x→ok k x=true)∨(whileO body (false,0)=some (.inl ())∧∃ k x,xs[k]?=some x∧ok k x=false):=by
  obtain ⟨r,e,hr⟩:=scan2 (S:=Bool) (R:=Sum Unit Bool) xs (fun k p=>p=(xs.take k).any f∧∀ i y,i<k→xs[i]?=some y→ok i y=true) (fun r=>(r=.inr (xs.any f)∧∀ k x,xs[k]?=some x→ok k x=true)∨(r=.inl ()∧∃ k x,xs[k]?=some x∧ok k x=false)) (body:=body) (s0:=false) ⟨by simp,fun i y hi=>absurd hi (Nat.not_lt_zero i)⟩
    (fun k y p hk hI=>by
      have hb:=h k y p hk
      cases ho:ok k y with
      | true =>
        rw [ho,if_pos rfl] at hb
        refine .inl ⟨_,hb,?_,fun i z hi hz=>?_⟩
        · rw [take_one hk,List.any_append,hI.1]; simp
        · rcases Nat.lt_or_ge i k with h1|h1
          · exact hI.2 i z h1 hz
          · have:i=k:=by omega
            subst this
            rw [hk] at hz; injection hz with hz; rw [← hz]; exact ho
      | false =>
        rw [ho,if_neg (by simp)] at hb
        exact .inr ⟨_,hb,.inr ⟨rfl,k,y,hk,ho⟩⟩)
    (fun p hI=>⟨_,hd p,.inl ⟨by rw [hI.1,List.take_length],fun k z hz=>hI.2 k z (List.getElem?_eq_some_iff.1 hz).1 hz⟩⟩)
  rcases hr with ⟨rfl,h1⟩|⟨rfl,h1⟩
  · exact .inl ⟨e,h1⟩
  · exact .inr ⟨e,h1⟩
theorem refIsCircle1 {x:Acs} {l:List Sta} (hf:few l) :
    (whileO (linealref09_isCircle_b1 x l) (false,0)=some (.inr (l.any fun s=>!oneB s))∧∀ k s,l[k]?=some s→(isSt x s&&!(l.take k).any (fun o=>decide (o.1=s.1)))=true) ∨
    (whileO (linealref09_isCircle_b1 x l) (false,0)=some (.inl ())∧∃ k s,l[k]?=some s∧(isSt x s&&!(l.take k).any (fun o=>decide (o.1=s.1)))=false):=by
  refine whileO_acc l (fun k s=>isSt x s&&!(l.take k).any (fun o=>decide (o.1=s.1))) (fun s=>!oneB s) (fun k s p hk=>?_) (fun p=>by unfold linealref09_isCircle_b1; rw [if_neg (by simp)])
  obtain ⟨hlt,hik⟩:=few_in hf hk
  have hd:l.getD k (0,0,0)=s:=getD_of hk
  have h4:∀ b:Bool,linealref09_isCircle_k4 l (p,(k:Int)) b=some (if (l.take k).any (fun o=>decide (o.1=s.1))=true then .done (.inl ()) else .next (b,(k:Int)+1)):=fun b=>by
    have hft:few (l.take k):=by unfold few at *; rw [List.length_take]; omega
    unfold linealref09_isCircle_k4
    rw [whileO_all (l.take k) (fun o=>!decide (o.1=s.1)) (body:=linealref09_isCircle_b2 l (p,(k:Int))) (fun j o hj=>by
      obtain ⟨hlt2,hik2⟩:=few_in hft hj
      unfold linealref09_isCircle_b2
      dsimp only
      rw [Int.toNat_natCast,Int.toNat_natCast,getD_of hj,hd,if_pos (decide_eq_true (by omega)),ck_pos (by omega),ck_pos (by omega)]
      by_cases e:o.1=s.1<;>simp [e,ck_pos hik2]) (by
        unfold linealref09_isCircle_b2
        dsimp only
        rw [Int.toNat_natCast,if_neg (by rw [decide_eq_true_eq]; omega)]),Option.bind_some]
    have e:(l.take k).all (fun o=>!decide (o.1=s.1))=!(l.take k).any (fun o=>decide (o.1=s.1)):=by rw [List.not_any_eq_all_not]
    rw [e]
    unfold linealref09_isCircle_k2
    cases (l.take k).any (fun o=>decide (o.1=s.1))<;>simp [ck_pos hik]
  have h3:linealref09_isCircle_k3 l (p,(k:Int))=some (if (l.take k).any (fun o=>decide (o.1=s.1))=true then .done (.inl ()) else .next (p || !oneB s,(k:Int)+1)):=by
    unfold linealref09_isCircle_k3
    dsimp only
    cases p with
    | true=>rw [if_pos rfl,ck_pos (by omega),ck_pos (by omega),h4]; rfl
    | false=>rw [if_neg (by simp),ck_pos (by omega),ck_pos (by omega),h4,Int.toNat_natCast,hd]; rfl
  unfold linealref09_isCircle_b1
  dsimp only
  rw [Int.toNat_natCast,hd,if_pos (decide_eq_true (by omega)),ck_pos (by omega),ck_pos (by omega),IsAccess_eq,Option.bind_some,h3,refIsPair_eq,Option.bind_some]
  unfold isSt
  cases ha:hasA x s.1 s.2.1 with
  | false =>
    have:isPr x s=false:=by unfold isPr; rw [ha]; rfl
    simp [this]
  | true =>
    rw [if_neg (by simp)]
    by_cases e:s.2.1=s.2.2
    · rw [if_neg (by simp [e])]
      simp only [e,decide_true,Bool.and_true,Bool.true_or,Bool.true_and]
      cases (l.take k).any (fun o=>decide (o.1=s.1))<;>simp
    · rw [if_pos (by simp [e])]
      simp only [e,decide_false,Bool.false_and,Bool.false_or]
      cases isPr x s with
      | false=>simp
      | true =>
        rw [if_neg (by simp)]
        cases (l.take k).any (fun o=>decide (o.1=s.1))<;>simp
theorem refIsCircle3 {x:Acs} {l:List Sta} (hst:∀ s∈l,isSt x s=true) (hf:few l):whileO (linealref09_isCircle_b3 x l) 0=some (if (List.range l.length).all (fun k=>mts x (l.getD k (0,0,0)) (l.getD ((k+1) % l.length) (0,0,0)))=true then .inr () else .inl ()):=by
  have:=whileO_all (body:=linealref09_isCircle_b3 x l) (List.range l.length) (fun k=>mts x (l.getD k (0,0,0)) (l.getD ((k+1) % l.length) (0,0,0))) (fun k y hk=>by
    have hy:y=k:=by
      have:=(List.getElem?_eq_some_iff.1 hk)
      obtain ⟨h1,h2⟩:=this
      simpa using h2.symm
    have hlt:k<l.length:=by have:=(List.getElem?_eq_some_iff.1 hk).1; simpa using this
    subst hy
    have hmod:((y:Int)+1) % (l.length:Int)=(((y+1) % l.length:Nat):Int):=rfl
    have hm2:(y+1) % l.length<l.length:=Nat.mod_lt _ (by omega)
    unfold few at hf
    unfold linealref09_isCircle_b3
    rw [if_pos (decide_eq_true (by omega)),ck_pos (by omega),ck_pos (by omega),ck_pos (by rw [inK_i64]; omega),ck_pos (by omega),ck_pos (by omega),hmod,ck_pos (by omega),ck_pos (by omega),Int.toNat_natCast,Int.toNat_natCast,refconf_eq (isSt_has (hst _ (getD_in hlt))).2 (isSt_has (hst _ (getD_in hm2))).1,Option.bind_some]
    unfold mts
    cases conf x (l.getD y (0,0,0)).1 (l.getD y (0,0,0)).2.2 (l.getD ((y+1) % l.length) (0,0,0)).1 (l.getD ((y+1) % l.length) (0,0,0)).2.1<;>simp [ck_pos (show InK .i64 ((y:Int)+1) by rw [inK_i64]; omega)]) (by
      unfold linealref09_isCircle_b3
      rw [if_neg (by simp)])
  exact this
theorem refisCircle_eq {x:Acs} (l:List Sta):linealref09_isCircle x l=some (isC x l):=by
  unfold linealref09_isCircle
  match l with
  | []=>rfl
  | [r]=>rfl
  | r::s::q::p::m =>
    rw [if_neg (by simp; omega),if_pos (by simp; omega)]; rfl
  | [r,s] =>
    rw [if_neg (by simp),if_neg (by simp)]
    rcases refIsCircle1 (x:=x) (l:=[r,s]) (few_of (n:=2) (by simp)) with ⟨e,h⟩|⟨e,k,y,hk,h⟩
    · have h0:=h 0 r rfl
      have h1:=h 1 s rfl
      simp only [List.take_zero,List.any_nil,Bool.not_false,Bool.and_true] at h0
      simp only [List.take_succ_cons,List.take_zero,List.any_cons,List.any_nil,Bool.or_false,Bool.and_eq_true] at h1
      rw [e,Option.bind_some]
      simp only
      unfold linealref09_isCircle_k1
      rw [refIsCircle3 (fun o ho=>by simp at ho; rcases ho with rfl|rfl<;>first|exact h0|exact h1.1) (few_of (n:=2) (by simp)),Option.bind_some]
      have e2:(List.range [r,s].length).all (fun k=>mts x ([r,s].getD k (0,0,0)) ([r,s].getD ((k+1) % [r,s].length) (0,0,0)))=(mts x r s&&(mts x s r&&true)):=by
        show (List.range 2).all _=_
        rw [show List.range 2=[0,1] from rfl]
        simp only [List.all_cons,List.all_nil,List.length_cons,List.length_nil,Nat.reduceAdd,Nat.reduceMod,Nat.zero_add]
        rfl
      rw [e2]
      unfold isC c2
      simp only [h0,h1.1,h1.2,Bool.true_and,Bool.and_true,List.any_cons,List.any_nil,Bool.or_false,linealref09_isCircle_k5]
      cases mts x r s<;>cases mts x s r<;>rfl
    · rw [e,Option.bind_some]
      simp only
      unfold isC c2
      simp only
      congr 1
      symm
      match k,hk,h with
      | 0,hk,h =>
        simp at hk; subst hk
        simp only [List.take_zero,List.any_nil,Bool.not_false,Bool.and_true] at h
        rw [h]; rfl
      | 1,hk,h =>
        simp at hk; subst hk
        simp only [List.take_succ_cons,List.take_zero,List.any_cons,List.any_nil,Bool.or_false] at h
        cases h1:isSt x s<;>simp_all
      | k+2,hk,h=>simp at hk
  | [r,s,q] =>
    rw [if_neg (by simp),if_neg (by simp)]
    rcases refIsCircle1 (x:=x) (l:=[r,s,q]) (few_of (n:=3) (by simp)) with ⟨e,h⟩|⟨e,k,y,hk,h⟩
    · have h0:=h 0 r rfl
      have h1:=h 1 s rfl
      have h2:=h 2 q rfl
      simp only [List.take_zero,List.any_nil,Bool.not_false,Bool.and_true] at h0
      simp only [List.take_succ_cons,List.take_zero,List.any_cons,List.any_nil,Bool.or_false,Bool.and_eq_true,Bool.not_or] at h1 h2
      rw [e,Option.bind_some]
      simp only
      unfold linealref09_isCircle_k1
      rw [refIsCircle3 (fun o ho=>by simp at ho; rcases ho with rfl|rfl|rfl<;>first|exact h0|exact h1.1|exact h2.1) (few_of (n:=3) (by simp)),Option.bind_some]
      have e2:(List.range [r,s,q].length).all (fun k=>mts x ([r,s,q].getD k (0,0,0)) ([r,s,q].getD ((k+1) % [r,s,q].length) (0,0,0)))=(mts x r s&&(mts x s q&&(mts x q r&&true))):=by
        show (List.range 3).all _=_
        rw [show List.range 3=[0,1,2] from rfl]
        simp only [List.all_cons,List.all_nil,List.length_cons,List.length_nil,Nat.reduceAdd,Nat.reduceMod,Nat.zero_add]
        rfl
      rw [e2]
      unfold isC c3
      simp only [h0,h1.1,h1.2,h2.1,h2.2.1,h2.2.2,Bool.true_and,Bool.and_true,List.any_cons,List.any_nil,Bool.or_false,linealref09_isCircle_k5]
      cases mts x r s<;>cases mts x s q<;>cases mts x q r<;>rfl
    · rw [e,Option.bind_some]
      simp only
      unfold isC c3
      simp only
      congr 1
      symm
      match k,hk,h with
      | 0,hk,h =>
        simp at hk; subst hk
        simp only [List.take_zero,List.any_nil,Bool.not_false,Bool.and_true] at h
        rw [h]; rfl
      | 1,hk,h =>
        simp at hk; subst hk
        simp only [List.take_succ_cons,List.take_zero,List.any_cons,List.any_nil,Bool.or_false] at h
        cases h1:isSt x s<;>simp_all
      | 2,hk,h =>
        simp at hk; subst hk
        simp only [List.take_succ_cons,List.take_zero,List.any_cons,List.any_nil,Bool.or_false] at h
        cases h1:isSt x q
        · simp
        · rw [h1,Bool.true_and,Bool.not_eq_false',Bool.or_eq_true] at h
          rcases h with h|h<;>simp [h]
      | k+3,hk,h=>simp at hk
/-! ### All circles,as the reference finds them -/
def ref2 (x:Acs) (r s:Sta):List (List Sta):=if (!decide (r.1=s.1)&&mts x r s)=true then (if isC x [r,s]=true then [[r,s]] else [])++(stas x).flatMap fun q=>if isC x [r,s,q]=true then [[r,s,q]] else [] else []
def refCircs (x:Acs):List (List Sta):=(stas x).flatMap fun r=>(stas x).flatMap fun s=>ref2 x r s
theorem ref2_len {x:Acs} (hv:vld x=true) (r s:Sta):(ref2 x r s).length≤49:=by
  unfold ref2
  split
  · have:=len_flat (stas x) 1 (fun q=>if isC x [r,s,q]=true then [[r,s,q]] else []) (fun y _=>by split<;>simp)
    have:=stas_len hv
    rw [List.length_append]
    have:(if isC x [r,s]=true then [[r,s]] else []).length≤1:=by split<;>simp
    omega
  · simp
theorem refcircles_eq {x:Acs} (hv:vld x=true):linealref09_circles x=some (refCircs x):=by
  unfold linealref09_circles
  rw [refstations_eq hv,Option.bind_some]
  have hs:=few_stas hv
  have hsl:=stas_len hv
  generalize hS:stas x=S at hs hsl
  have hst:∀ (k:Nat) (s:Sta),S[k]?=some s→isSt x s=true:=fun k s hk=>mem_stas.1 (by rw [hS]; exact List.mem_of_getElem? hk)
  have w3:∀ (i j:Nat) (r s:Sta) (l1 l2 l:List (List Sta)),S[i]?=some r→S[j]?=some s→l.length≤900000→whileO (linealref09_circles_b3 x S (l1,(i:Int)) (l2,(j:Int))) (l,0)=some (l++S.flatMap fun q=>if isC x [r,s,q]=true then [[r,s,q]] else []):=by
    intro i j r s l1 l2 l hi hj hl
    refine appL S 1 _ (fun y _=>by split<;>simp) l (fun k q l' hk hl'=>?_) (fun l'=>?_)
    · obtain ⟨hlt,hik⟩:=few_in hs hk
      unfold linealref09_circles_b3
      dsimp only
      rw [Int.toNat_natCast,Int.toNat_natCast,Int.toNat_natCast,getD_of hi,getD_of hj,getD_of hk,if_pos (decide_eq_true (by omega)),ck_pos (by omega),ck_pos (by omega),refisCircle_eq,Option.bind_some]
      cases isC x [r,s,q] with
      | true=>rw [if_pos rfl,if_pos rfl,ck_pos (by omega),ck_pos hik]
      | false=>rw [if_neg (by simp),if_neg (by simp),ck_pos hik,List.append_nil]
    · unfold linealref09_circles_b3
      rw [if_neg (by simp)]
  have w2:∀ (i:Nat) (r:Sta) (l:List (List Sta)),S[i]?=some r→l.length≤500000→whileO (linealref09_circles_b2 x S (l,(i:Int))) (l,0)=some (l++S.flatMap fun s=>ref2 x r s):=by
    intro i r l hi hl
    refine appL S 49 _ (fun y _=>ref2_len hv r y) l (fun k s l' hk hl'=>?_) (fun l'=>?_)
    · obtain ⟨hlt,hik⟩:=few_in hs hk
      have hsub:S.length*49≤48*49:=Nat.mul_le_mul_right 49 hsl
      have h4:∀ (b:List (List Sta)),b.length≤900000→linealref09_circles_k4 x S (l,(i:Int)) (l',(k:Int)) b=some (.next (b++(S.flatMap fun q=>if isC x [r,s,q]=true then [[r,s,q]] else []),(k:Int)+1)):=fun b hb=>by
        unfold linealref09_circles_k4 linealref09_circles_k3
        rw [w3 i k r s l l' b hi hk hb,Option.bind_some]
        dsimp only
        rw [ck_pos hik]
      unfold linealref09_circles_b2
      dsimp only
      rw [Int.toNat_natCast,Int.toNat_natCast,getD_of hi,getD_of hk,if_pos (decide_eq_true (by omega)),ck_pos (by omega),ck_pos (by omega)]
      unfold ref2
      rw [hS]
      by_cases e:r.1=s.1
      · rw [if_pos (decide_eq_true e),if_neg (by simp [e])]
        unfold linealref09_circles_k3
        dsimp only
        rw [ck_pos hik,List.append_nil]
      · rw [if_neg (by rw [decide_eq_true_eq]; exact e),refconf_eq (isSt_has (hst i r hi)).2 (isSt_has (hst k s hk)).1,Option.bind_some]
        show (if (!mts x r s)=true then _ else _)=_
        cases hm:mts x r s with
        | false =>
          rw [if_pos (show (!false)=true from rfl),if_neg (by simp)]
          unfold linealref09_circles_k3
          dsimp only
          rw [ck_pos hik,List.append_nil]
        | true =>
          rw [if_neg (by simp),if_pos (by simp [e]),refisCircle_eq,Option.bind_some]
          cases isC x [r,s] with
          | true=>rw [if_pos rfl,if_pos rfl,ck_pos (by omega),h4 _ (by simp; omega),List.append_assoc]
          | false=>rw [if_neg (by simp),if_neg (by simp),h4 _ (by omega),List.nil_append]
    · unfold linealref09_circles_b2
      rw [if_neg (by simp)]
  have c2':∀ r,(S.flatMap fun s=>ref2 x r s).length≤48*49:=fun r=>by
    have:=len_flat S 49 (fun s=>ref2 x r s) (fun y _=>ref2_len hv r y)
    have:=Nat.mul_le_mul_right 49 hsl
    omega
  have w1:=appL S (48*49) (fun r=>S.flatMap fun s=>ref2 x r s) (fun y _=>c2' y) [] (body:=linealref09_circles_b1 x S) (fun k r l' hk hl'=>by
    obtain ⟨hlt,hik⟩:=few_in hs hk
    have hsub:S.length*(48*49)≤48*(48*49):=Nat.mul_le_mul_right _ hsl
    unfold linealref09_circles_b1
    dsimp only
    rw [if_pos (decide_eq_true (by omega)),ck_pos (by omega),ck_pos (by omega),w2 k r l' hk (by simp at hl'; omega),Option.bind_some]
    unfold linealref09_circles_k2
    rw [ck_pos hik]) (fun l=>by unfold linealref09_circles_b1; rw [if_neg (by simp)])
  rw [w1,Option.bind_some]
  unfold linealref09_circles_k1 refCircs
  rw [hS]; rfl
theorem isC_mts {x:Acs} {r s:Sta} (h:isC x [r,s]=true):(!decide (r.1=s.1)&&mts x r s)=true:=by
  unfold isC c2 at h; simp only [Bool.and_eq_true] at h; rw [Bool.and_eq_true]; exact ⟨h.2.2.1,h.2.2.2.1⟩
theorem isC_mts3 {x:Acs} {r s q:Sta} (h:isC x [r,s,q]=true):(!decide (r.1=s.1)&&mts x r s)=true:=by
  unfold isC c3 at h; simp only [Bool.and_eq_true] at h; rw [Bool.and_eq_true]; exact h.2.2.2.1
theorem mem_refCircs {x:Acs} {l:List Sta}:l∈refCircs x↔isC x l=true:=by
  unfold refCircs ref2
  simp only [List.mem_flatMap]
  constructor
  · rintro ⟨r,_,s,_,h⟩
    split at h
    · rcases List.mem_append.1 h with h|h
      · split at h
        · rename_i hc; simp only [List.mem_singleton] at h; rw [h]; exact hc
        · simp at h
      · obtain ⟨q,_,h⟩:=List.mem_flatMap.1 h
        split at h
        · rename_i hc; simp only [List.mem_singleton] at h; rw [h]; exact hc
        · simp at h
    · simp at h
  · intro h
    have h0:=h
    unfold isC at h
    split at h
    · rename_i r s
      simp only [Bool.and_eq_true] at h
      refine ⟨r,mem_stas.2 h.1,s,mem_stas.2 h.2.1,?_⟩
      rw [if_pos (isC_mts h0),if_pos h0]; simp
    · rename_i r s q
      simp only [Bool.and_eq_true] at h
      refine ⟨r,mem_stas.2 h.1,s,mem_stas.2 h.2.1,?_⟩
      rw [if_pos (isC_mts3 h0)]
      refine List.mem_append_right _ (List.mem_flatMap.2 ⟨q,mem_stas.2 h.2.2.1,?_⟩)
      rw [if_pos h0]; simp
    · cases h
open Go.RowKit Go.Maps
def need (x:Acs):List Sta:=(prs x).filter fun p=>(circs x).any fun l=>l.any fun s=>decide (s=p)
theorem mem_need {x:Acs} {p:Sta}:p∈need x↔isPr x p=true∧∃ l,isC x l=true∧p∈l:=by
  unfold need
  rw [List.mem_filter,prs_mem,List.any_eq_true]
  constructor
  · rintro ⟨h1,l,hl,h2⟩
    obtain ⟨s,hs,e⟩:=List.any_eq_true.1 h2
    exact ⟨h1,l,mem_circs.1 hl,by rw [← of_decide_eq_true e]; exact hs⟩
  · rintro ⟨h1,l,hl,h2⟩
    exact ⟨h1,l,mem_circs.2 hl,List.any_eq_true.2 ⟨p,h2,by simp⟩⟩
theorem isC_st {x:Acs} {l:List Sta} (h:isC x l=true):(∀ s∈l,isSt x s=true)∧2≤l.length∧l.length≤3:=by
  unfold isC at h
  split at h
  · simp only [Bool.and_eq_true] at h
    exact ⟨fun s hs=>by simp at hs; rcases hs with rfl|rfl; exact h.1; exact h.2.1,by simp,by simp⟩
  · simp only [Bool.and_eq_true] at h
    exact ⟨fun s hs=>by simp at hs; rcases hs with rfl|rfl|rfl; exact h.1; exact h.2.1; exact h.2.2.1,by simp,by simp⟩
  · cases h
/-! ### The map of what is found -/
abbrev FMp:Type:=List (Sta×List Sta)
structure FP (m:FMp) (L:List (List Sta)):Prop where
  has:∀ k,mhas m k=true↔∃ l∈L,k∈l
  get:∀ k,mhas m k=true→mget [] m k∈L∧k∈mget [] m k
theorem mput_has {m:FMp} {k j:Sta} {v:List Sta} (h:mhas m k=false):mhas (mput m k v) j=(decide (j=k) || mhas m j):=by
  have hk:k ∉ m.map (·.1):=fun hc=>by rw [mhas_mem.2 hc] at h; cases h
  rw [mput_not hk]
  rw [Bool.eq_iff_iff,mhas_mem,Bool.or_eq_true,mhas_mem,List.map_append,List.mem_append]
  simp only [List.map_cons,List.map_nil,List.mem_singleton,decide_eq_true_eq]
  exact Or.comm
theorem mput_get:∀ {m:FMp} {k j:Sta} {v:List Sta},mhas m k=false→mget [] (mput m k v) j=if j=k then v else mget [] m j
  | [],k,j,v,_=>by
    simp only [mput,mget]
    by_cases h:k=j
    · rw [if_pos h,if_pos h.symm]
    · rw [if_neg h,if_neg fun e=>h e.symm]
  | (a,w)::m,k,j,v,h=>by
    unfold mhas at h
    split at h
    · cases h
    · rename_i hak
      unfold mput
      rw [if_neg hak]
      unfold mget
      by_cases haj:a=j
      · rw [if_pos haj,if_pos haj,if_neg fun e=>hak (by rw [haj,e])]
      · rw [if_neg haj,if_neg haj]
        exact mput_get h
theorem found_one {x:Acs} {m:FMp} {L:List (List Sta)} {l:List Sta} (hv:vld x=true) (hl:isC x l=true) (hL:∀ y∈L,isC x y=true) (h:FP m L):∃ m',delay_accesses_found_y1 l m=some (.next m')∧FP m' (L++[l]):=by
  obtain ⟨hst,h2,h3⟩:=isC_st hl
  have hf:few l:=few_of h3
  obtain ⟨r,e,hr⟩:=scan2 (S:=FMp) (R:=FMp) l (fun k m=>(∀ j,mhas m j=true↔(∃ y∈L,j∈y)∨j∈l.take k)∧∀ j,mhas m j=true→(mget [] m j∈L∨mget [] m j=l)∧j∈mget [] m j) (fun m=>FP m (L++[l])) (body:=delay_accesses_found_b2 l) (s0:=m) ⟨fun j=>by rw [h.has j]; simp,fun j hj=>⟨.inl (h.get j hj).1,(h.get j hj).2⟩⟩
    (fun k s m hk hI=>by
      obtain ⟨hlt,hik⟩:=few_in hf hk
      obtain ⟨f1,f2,f3⟩:=st_fit hv (hst s (List.mem_of_getElem? hk))
      obtain ⟨hI1,hI2⟩:=hI
      left
      unfold delay_accesses_found_b2
      dsimp only
      rw [Int.toNat_natCast,getD_of hk,if_pos (decide_eq_true (by omega)),ck_pos (by omega),ck_pos (by omega),ck_pos f1,ck_pos f2,ck_pos f3,ck_pos (by
        cases hm:mhas m s with
        | false=>exact .inl rfl
        | true=>exact .inr (List.length_pos_of_mem (hI2 s hm).2))]
      have hmem:s∈l:=List.mem_of_getElem? hk
      cases hm:mhas m s with
      | true =>
        rw [if_neg (by simp),ck_pos hik]
        refine ⟨m,rfl,fun j=>?_,hI2⟩
        rw [take_one hk,List.mem_append,List.mem_singleton,hI1 j]
        constructor
        · rintro (h|h)
          · exact .inl h
          · exact .inr (.inl h)
        · rintro (h|h|h)
          · exact .inl h
          · exact .inr h
          · subst h; exact (hI1 j).1 hm
      | false =>
        rw [if_pos (show (!false)=true from rfl),ck_pos f1,ck_pos f2,ck_pos f3,ck_pos hik]
        refine ⟨_,rfl,fun j=>?_,fun j hj=>?_⟩
        · rw [mput_has hm,Bool.or_eq_true,decide_eq_true_eq,hI1 j,take_one hk,List.mem_append,List.mem_singleton]
          constructor
          · rintro (h|h|h)
            · exact .inr (.inr h)
            · exact .inl h
            · exact .inr (.inl h)
          · rintro (h|h|h)
            · exact .inr (.inl h)
            · exact .inr (.inr h)
            · exact .inl h
        · rw [mput_has hm,Bool.or_eq_true,decide_eq_true_eq] at hj
          rw [mput_get hm]
          by_cases e:j=s
          · rw [if_pos e,e]; exact ⟨.inr rfl,hmem⟩
          · rw [if_neg e]; exact hI2 j (hj.resolve_left e))
    (fun m hI=>⟨m,by unfold delay_accesses_found_b2; rw [if_neg (by simp)],⟨fun k=>by
      rw [hI.1 k,List.take_length]
      constructor
      · rintro (⟨y,hy,hk⟩|hk)
        · exact ⟨y,by simp [hy],hk⟩
        · exact ⟨l,by simp,hk⟩
      · rintro ⟨y,hy,hk⟩
        rcases List.mem_append.1 hy with hy|hy
        · exact .inl ⟨y,hy,hk⟩
        · rw [List.mem_singleton.1 hy] at hk; exact .inr hk,fun k hk=>⟨by
        rcases (hI.2 k hk).1 with h|h
        · exact List.mem_append_left _ h
        · exact List.mem_append_right _ (by rw [h]; simp),(hI.2 k hk).2⟩⟩⟩)
  refine ⟨r,?_,hr⟩
  unfold delay_accesses_found_y1
  rw [e]; rfl
theorem found_fold {x:Acs} (hv:vld x=true):∀ (M L:List (List Sta)) (m:FMp),(∀ y∈L,isC x y=true)→(∀ y∈M,isC x y=true)→FP m L→∃ m',foldY delay_accesses_found_y1 M m=some (.inl m')∧FP m' (L++M)
  | [],L,m,_,_,h=>⟨m,rfl,by rw [List.append_nil]; exact h⟩
  | l::M,L,m,hL,hM,h=>by
    obtain ⟨m1,e1,h1⟩:=found_one hv (hM l (by simp)) hL h
    obtain ⟨m2,e2,h2⟩:=found_fold hv M (L++[l]) m1 (fun y hy=>by
      rcases List.mem_append.1 hy with hy|hy
      · exact hL y hy
      · rw [List.mem_singleton.1 hy]; exact hM l (by simp)) (fun y hy=>hM y (by simp [hy])) h1
    refine ⟨m2,?_,by rw [List.append_assoc] at h2; exact h2⟩
    simp only [foldY]
    rw [e1,Option.bind_some]
    exact e2
theorem found_eq {x:Acs} (hv:vld x=true):∃ m,delay_accesses_found x=some m∧FP m (circs x):=by
  obtain ⟨m,e,h⟩:=found_fold hv (circs x) [] [] (fun y hy=>by simp at hy) (fun y hy=>mem_circs.1 hy) ⟨fun k=>by simp [mhas],fun k hk=>by simp [mhas] at hk⟩
  refine ⟨m,?_,h⟩
  unfold delay_accesses_found
  have hf2:=circles_eq (R:=Empty) hv _ e
  rw [hf2]; rfl
theorem fp_any {m:FMp} {L:List (List Sta)} (h:FP m L) (p:Sta):mhas m p=L.any fun l=>l.any fun s=>decide (s=p):=by
  rw [Bool.eq_iff_iff,h.has p,List.any_eq_true]
  constructor
  · rintro ⟨l,hl,hp⟩; exact ⟨l,hl,List.any_eq_true.2 ⟨p,hp,by simp⟩⟩
  · rintro ⟨l,hl,hp⟩
    obtain ⟨s,hs,e⟩:=List.any_eq_true.1 hp
    exact ⟨l,hl,by rw [← of_decide_eq_true e]; exact hs⟩
theorem onCircles1_eq {x:Acs} (hv:vld x=true) {m:FMp} {L:List (List Sta)} (h:FP m L) {p:Sta} (hp:fitS p):delay_accesses_onCircles_1 p m=some ():=by
  unfold delay_accesses_onCircles_1
  rw [ck_pos hp.1,ck_pos hp.2.1,ck_pos hp.2.2,ck_pos (by
    cases hm:mhas m p with
    | false=>exact .inl rfl
    | true=>exact .inr (List.length_pos_of_mem (h.get p hm).2))]
theorem onCircles_eq {x:Acs} (hv:vld x=true):delay_accesses_onCircles x=some (need x):=by
  unfold delay_accesses_onCircles
  obtain ⟨m,e,h⟩:=found_eq hv
  rw [e,Option.bind_some,pairs_eq hv,Option.bind_some]
  have hf:=prs_few hv
  have hfit:=prs_fit hv
  generalize hs:prs x=s at hf hfit
  have hidx:slices_IndexFunc_6 s m=some (idxI (fun p=>!mhas m p) s):=by
    unfold slices_IndexFunc_6
    rw [whileO_first s (fun p=>!mhas m p) (fun k a hk=>by
      obtain ⟨hlt,hik⟩:=few_in hf hk
      unfold slices_IndexFunc_6_b1
      rw [if_pos (decide_eq_true (by omega)),ck_pos (by omega),ck_pos (by omega),Int.toNat_natCast,getD_of hk,onCircles1_eq hv h (hfit a (List.mem_of_getElem? hk)),Option.bind_some]
      cases mhas m a<;>simp [ck_pos hik]) (by unfold slices_IndexFunc_6_b1; rw [if_neg (by simp)]),Option.bind_some]
    unfold idxI slices_IndexFunc_6_k1
    cases s.findIdx? (fun p=>!mhas m p)<;>rfl
  have hd2:slices_DeleteFunc_2 s m=some (s.filter fun p=>!!mhas m p):=by
    unfold slices_DeleteFunc_2
    refine delF s (fun p=>!mhas m p) hf hidx (body:=slices_DeleteFunc_2_b1 m) (k1:=slices_DeleteFunc_2_k1) (fun l i j y hl hij hj hy=>?_) (fun l i hl=>?_) (fun l i hi=>?_)
    · have hjl:=(List.getElem?_eq_some_iff.1 hj).1
      have hf':few l:=by unfold few at *; omega
      obtain ⟨_,hik⟩:=few_in hf' hj
      unfold slices_DeleteFunc_2_b1
      dsimp only
      rw [Int.toNat_natCast,getD_of hj,if_pos (decide_eq_true (by omega)),ck_pos (by omega),ck_pos (by omega),onCircles1_eq hv h (hfit y hy),Option.bind_some]
      cases mhas m y with
      | false=>rw [if_neg (by simp),ck_pos hik,if_pos (by simp)]
      | true=>rw [if_pos (by simp),ck_pos (by omega),ck_pos (by omega),ck_pos (by rw [inK_i64] at *; omega),ck_pos hik,if_neg (by simp),Int.toNat_natCast]
    · unfold slices_DeleteFunc_2_b1
      dsimp only
      rw [if_neg (by simp [hl])]
    · unfold slices_DeleteFunc_2_k1
      dsimp only
      rw [Int.toNat_natCast,ck_pos (by omega),ck_pos (by omega),ck_pos (by omega),ck_pos (by omega),ck_pos (by omega),ck_pos (by simp only [List.length_append,List.length_take,List.length_replicate,List.length_drop]; omega),clear_take l _ (by omega)]
  rw [hd2,Option.bind_some]
  unfold need
  rw [hs]
  congr 1
  exact List.filter_congr fun p _=>by rw [Bool.not_not,fp_any h]
end Go.Proofs.Ytdicomoggfhbfaa
