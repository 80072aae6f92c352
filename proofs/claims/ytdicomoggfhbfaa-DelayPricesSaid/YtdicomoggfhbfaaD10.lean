import Derived.Test.YtdicomoggfhbfaaD8
namespace Go.Proofs.Ytdicomoggfhbfaa
open Go.RowKit Go.Maps
set_option linter.unusedVariables false
set_option linter.unusedSimpArgs false
theorem orL {α:Type} (xs:List α) (f:α→Bool) (b0:Bool) {body:Bool×Int→Option (Step (Bool×Int) Bool)} (h:∀ (k:Nat) (y:α) (p:Bool),xs[k]?=some y→body (p,(k:Int))=some (.next (p || f y,(k:Int)+1))) (hd:∀ p,body (p,(xs.length:Int))=some (.done p)):whileO body (b0,0)=some (b0 || xs.any f):=by
  obtain ⟨r,e,hr⟩:=scan2 (S:=Bool) (R:=Bool) xs (fun k p=>p=(b0 || (xs.take k).any f)) (fun r=>r=(b0 || xs.any f)) (body:=body) (s0:=b0) (by simp)
    (fun k y p hk hI=>.inl ⟨_,h k y p hk,by rw [hI,take_one hk,List.any_append]; simp [Bool.or_assoc]⟩)
    (fun p hI=>⟨p,hd p,by rw [hI,List.take_length]⟩)
  rw [e,hr]
theorem refCircs_len {x:Acs} (hv:vld x=true):(refCircs x).length≤200000:=by
  have hsl:=stas_len hv
  have c2':∀ r,((stas x).flatMap fun s=>ref2 x r s).length≤48*49:=fun r=>by
    have:=len_flat (stas x) 49 (fun s=>ref2 x r s) (fun y _=>ref2_len hv r y)
    have:=Nat.mul_le_mul_right 49 hsl
    omega
  have:=len_flat (stas x) (48*49) (fun r=>(stas x).flatMap fun s=>ref2 x r s) (fun y _=>c2' y)
  have:=Nat.mul_le_mul_right (48*49) hsl
  unfold refCircs; omega
theorem refneeded_eq {x:Acs} (hv:vld x=true):linealref09_needed x=some (need x):=by
  unfold linealref09_needed
  rw [refcircles_eq hv,Option.bind_some,refstations_eq hv,Option.bind_some]
  have hs:=few_stas hv
  have hsl:=stas_len hv
  have hC:∀ l∈refCircs x,isC x l=true:=fun l hl=>mem_refCircs.1 hl
  have hCf:few (refCircs x):=few_of (refCircs_len hv)
  have hmem:=fun l=>mem_refCircs (x:=x) (l:=l)
  generalize hcs:refCircs x=C at hC hCf hmem
  generalize hS:stas x=S at hs hsl
  have hst:∀ s∈S,isSt x s=true:=fun s hk=>mem_stas.1 (by rw [hS]; exact hk)
  have w3:∀ (i j:Nat) (p:Sta) (l:List Sta) (a:List Sta) (b:Bool),S[i]?=some p→C[j]?=some l→whileO (linealref09_needed_b3 C S (a,(i:Int)) (b,(j:Int))) (b,0)=some (b || l.any fun s=>decide (s=p)&&decide (p.2.1<p.2.2)):=by
    intro i j p l a b hi hj
    obtain ⟨hls,_,hl3⟩:=isC_st (hC l (List.mem_of_getElem? hj))
    have hf:few l:=few_of hl3
    obtain ⟨p1,p2,p3⟩:=st_fit hv (hst p (List.mem_of_getElem? hi))
    refine orL l _ b (fun k s q hk=>?_) (fun q=>?_)
    · obtain ⟨hlt,hik⟩:=few_in hf hk
      obtain ⟨s1,s2,s3⟩:=st_fit hv (hls s (List.mem_of_getElem? hk))
      unfold linealref09_needed_b3
      dsimp only
      rw [Int.toNat_natCast,Int.toNat_natCast,Int.toNat_natCast,getD_of hi,getD_of hj,getD_of hk,if_pos (decide_eq_true (by omega)),ck_pos (by omega),ck_pos (by omega)]
      cases q with
      | true=>rw [if_pos rfl,ck_pos hik]; rfl
      | false =>
        rw [if_neg (by simp),ck_pos s1,ck_pos s2,ck_pos s3,ck_pos p1,ck_pos p2,ck_pos p3]
        by_cases e:s=p
        · rw [if_pos (decide_eq_true e),ck_pos hik]; simp [e]
        · rw [if_neg (by rw [decide_eq_true_eq]; exact e),ck_pos hik]; simp [e]
    · unfold linealref09_needed_b3
      dsimp only
      rw [Int.toNat_natCast,getD_of hj,if_neg (by simp)]
  have w2:∀ (i:Nat) (p:Sta) (a:List Sta),S[i]?=some p→whileO (linealref09_needed_b2 C S (a,(i:Int))) (false,0)=some (C.any fun l=>l.any fun s=>decide (s=p)&&decide (p.2.1<p.2.2)):=by
    intro i p a hi
    have:=orL C (fun l=>l.any fun s=>decide (s=p)&&decide (p.2.1<p.2.2)) false (body:=linealref09_needed_b2 C S (a,(i:Int))) (fun k l q hk=>by
      obtain ⟨hlt,hik⟩:=few_in hCf hk
      unfold linealref09_needed_b2
      dsimp only
      rw [if_pos (decide_eq_true (by omega)),ck_pos (by omega),ck_pos (by omega),w3 i k p l a q hi hk,Option.bind_some]
      unfold linealref09_needed_k4
      rw [ck_pos hik]) (fun q=>by unfold linealref09_needed_b2; rw [if_neg (by simp)])
    rw [this,Bool.false_or]
  have w1:=appL S 1 (fun p=>if (C.any fun l=>l.any fun s=>decide (s=p)&&decide (p.2.1<p.2.2))=true then [p] else []) (fun y _=>by split<;>simp) [] (body:=linealref09_needed_b1 C S) (fun k p l hk hl=>by
    obtain ⟨hlt,hik⟩:=few_in hs hk
    simp only [List.length_nil] at hl
    unfold linealref09_needed_b1
    dsimp only
    rw [if_pos (decide_eq_true (by omega)),ck_pos (by omega),ck_pos (by omega),w2 k p l hk,Option.bind_some]
    unfold linealref09_needed_k3 linealref09_needed_k2
    dsimp only
    cases C.any fun l=>l.any fun s=>decide (s=p)&&decide (p.2.1<p.2.2) with
    | true=>rw [if_pos rfl,if_pos rfl,ck_pos (by omega),ck_pos hik,Int.toNat_natCast,getD_of hk]
    | false=>rw [if_neg (by simp),if_neg (by simp),ck_pos hik,List.append_nil]) (fun l=>by unfold linealref09_needed_b1; rw [if_neg (by simp)])
  rw [w1,Option.bind_some,List.nil_append,flat_filter]
  unfold linealref09_needed_k1 need prs
  rw [List.filter_filter,hS]
  congr 1
  refine List.filter_congr fun p hp=>?_
  rw [Bool.eq_iff_iff,List.any_eq_true,Bool.and_eq_true,List.any_eq_true]
  have hpp:=hst p hp
  constructor
  · rintro ⟨l,hl,h⟩
    obtain ⟨s,hsl,h⟩:=List.any_eq_true.1 h
    rw [Bool.and_eq_true,decide_eq_true_eq,decide_eq_true_eq] at h
    refine ⟨⟨l,mem_circs.2 (hC l hl),List.any_eq_true.2 ⟨s,hsl,by simp [h.1]⟩⟩,?_⟩
    unfold oneB
    simp; omega
  · rintro ⟨⟨l,hl,h⟩,h1⟩
    obtain ⟨s,hsl,h⟩:=List.any_eq_true.1 h
    have e:=of_decide_eq_true h
    subst e
    refine ⟨l,(hmem l).2 (mem_circs.1 hl),List.any_eq_true.2 ⟨s,hsl,?_⟩⟩
    unfold isSt at hpp
    unfold oneB at h1
    simp only [Bool.or_eq_true,Bool.and_eq_true,decide_eq_true_eq,Bool.not_eq_true',decide_eq_false_iff_not] at hpp h1
    rcases hpp with hpp|hpp
    · exact absurd hpp.1 h1
    · simp [isPr_lt hpp]
theorem need_few {x:Acs} (hv:vld x=true):few (need x):=few_of (Nat.le_trans (List.length_filter_le _ _) (Nat.le_trans (List.length_filter_le _ _) (stas_len hv)))
open Go.RowKit Go.Maps
def ltS (a b:Sta):Prop:=a.1<b.1∨(a.1=b.1∧(a.2.1<b.2.1∨(a.2.1=b.2.1∧a.2.2<b.2.2)))
theorem stas_asc (x:Acs):(stas x).Pairwise ltS:=by
  unfold stas
  rw [List.pairwise_flatMap]
  refine ⟨fun t _=>?_,?_⟩
  · rw [List.pairwise_flatMap]
    refine ⟨fun a _=>?_,?_⟩
    · rw [List.pairwise_flatMap]
      refine ⟨fun b _=>by split<;>simp,?_⟩
      refine List.pairwise_lt_range.imp fun {b b'} h u hu v hv=>?_
      split at hu
      · split at hv
        · simp only [List.mem_singleton] at hu hv
          subst hu hv
          exact .inr ⟨rfl,.inr ⟨rfl,by simp only; omega⟩⟩
        · simp at hv
      · simp at hu
    · refine List.pairwise_lt_range.imp fun {a a'} h u hu v hv=>?_
      obtain ⟨b,_,hu⟩:=List.mem_flatMap.1 hu
      obtain ⟨b',_,hv⟩:=List.mem_flatMap.1 hv
      split at hu
      · split at hv
        · simp only [List.mem_singleton] at hu hv
          subst hu hv
          exact .inr ⟨rfl,.inl (by simp only; omega)⟩
        · simp at hv
      · simp at hu
  · refine List.pairwise_lt_range.imp fun {t t'} h u hu v hv=>?_
    obtain ⟨a,_,hu⟩:=List.mem_flatMap.1 hu
    obtain ⟨b,_,hu⟩:=List.mem_flatMap.1 hu
    obtain ⟨a',_,hv⟩:=List.mem_flatMap.1 hv
    obtain ⟨b',_,hv⟩:=List.mem_flatMap.1 hv
    split at hu
    · split at hv
      · simp only [List.mem_singleton] at hu hv
        subst hu hv
        exact .inl (by simp only; omega)
      · simp at hv
    · simp at hu
theorem need_asc (x:Acs):(need x).Pairwise ltS:=((stas_asc x).filter _).filter _
end Go.Proofs.Ytdicomoggfhbfaa
