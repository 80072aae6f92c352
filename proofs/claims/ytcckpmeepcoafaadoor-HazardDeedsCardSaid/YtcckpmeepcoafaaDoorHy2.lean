import Derived.Test.YtcckpmeepcoafaaDoorHzp
import Derived.Test.YtcckpmeepcoafaaDoorHy1
namespace Go.Proofs.YtcckpmeepcoafaaDoor
open Go.RowKit
set_option linter.unusedVariables false
set_option linter.unusedSimpArgs false
set_option linter.constructorNameAsVariable false
set_option maxRecDepth 10000
section
variable {n m:Nat} {N:El T63} {S:El T65} {L:El T69} {A:Mo}
theorem inK_small {k:Nat} (h:k≤1000000000):InK .i64 ((k:Int)+1):=by rw [inK_i64]; omega
theorem nz {n:Nat} (h:1≤n):decide ((n:Int)=0)=false:=decide_eq_false (by omega)
theorem below_eq (a b:Int):hazard_isBelow a b=some (decide (0≤a∧a<b)):=by
  unfold hazard_isBelow
  by_cases h:0≤a<;>simp [h]
theorem fails2 (hn:1≤n) (M:Int) (t c:Int):hazard_Yard_fails_2 ((n:Int),M,N,S,L) t c=some (if 0≤t∧t<n then 0 else c):=by
  unfold hazard_Yard_fails_2 hazard_Yard_isNone hazard_isThread_1 hazard_Yard_fails_2_k1
  by_cases h:0≤t∧t<n<;>simp [below_eq,nz hn,Nat.ne_of_gt hn,h,ck,inK_i64]
theorem fails4 (hn:1≤n) (M:Int) (t s c:Int):hazard_Yard_fails_4 ((n:Int),M,N,S,L) t c s c=some (if (0≤t∧t<n)∧0≤s∧s<2 then 0 else c):=by
  unfold hazard_Yard_fails_4 hazard_Yard_isNone hazard_isThread_1 hazard_isSlot_1 hazard_Yard_fails_4_k1
  by_cases h:0≤t∧t<n<;>by_cases h2:0≤s∧s<2<;>simp [below_eq,nz hn,Nat.ne_of_gt hn,h,h2,ck,inK_i64]
theorem fails7 (hn:1≤n) (M:Int) (k c:Int):hazard_Yard_fails_7 ((n:Int),M,N,S,L) k c=some (if 0≤k∧k<8 then 0 else c):=by
  unfold hazard_Yard_fails_7 hazard_Yard_isNone hazard_isNode_1 hazard_Yard_fails_7_k1
  by_cases h:0≤k∧k<8<;>simp [below_eq,nz hn,Nat.ne_of_gt hn,h,ck,inK_i64]
theorem fails5 (hn:1≤n) (M:Int) (t k c d:Int):hazard_Yard_fails_5 ((n:Int),M,N,S,L) t c k c k d=some (if (0≤t∧t<n)∧0≤k∧k<8 then (if intAt T63 N k.toNat=1 then 0 else d) else c):=by
  unfold hazard_Yard_fails_5 hazard_Yard_isNone hazard_isThread_1 hazard_isNode_1 hazard_isIn_1 hazard_Yard_fails_5_k1
  by_cases h:0≤t∧t<n<;>by_cases h2:0≤k∧k<8<;>by_cases h3:intAt T63 N k.toNat=1<;>simp [below_eq,nz hn,Nat.ne_of_gt hn,h,h2,h3,ck,inK_i64]
theorem fails3 (hn:1≤n) (M:Int) (t s k c d:Int):hazard_Yard_fails_3 ((n:Int),M,N,S,L) t c s c k c k d=some (if (0≤t∧t<n)∧(0≤s∧s<2)∧0≤k∧k<8 then (if intAt T63 N k.toNat=1 then 0 else d) else c):=by
  unfold hazard_Yard_fails_3 hazard_Yard_isNone hazard_isThread_1 hazard_isSlot_1 hazard_isNode_1 hazard_isIn_1 hazard_Yard_fails_3_k1
  by_cases h:0≤t∧t<n<;>by_cases h1:0≤s∧s<2<;>by_cases h2:0≤k∧k<8<;>by_cases h3:intAt T63 N k.toNat=1<;>simp [below_eq,nz hn,Nat.ne_of_gt hn,h,h1,h2,h3,ck,inK_i64]
theorem fails6 (hn:1≤n) (h4:n≤4) (M:Int) (t s c d:Int):hazard_Yard_fails_6 ((n:Int),M,N,S,L) t c s c t s d=some (if (0≤t∧t<n)∧0≤s∧s<2 then (if intAt T65 S (t.toNat*2+s.toNat)=-1 then d else 0) else c):=by
  unfold hazard_Yard_fails_6 hazard_Yard_isNone hazard_isThread_1 hazard_isSlot_1 hazard_points_1 hazard_Yard_fails_6_k1
  by_cases h:0≤t∧t<n
  · have h':t<4:=by omega
    by_cases h1:0≤s∧s<2<;>by_cases h3:intAt T65 S (t.toNat*2+s.toNat)=-1<;>simp [below_eq,nz hn,Nat.ne_of_gt hn,h,h',h1,h3,ck,inK_i64]
  · simp [below_eq,nz hn,Nat.ne_of_gt hn,h,ck,inK_i64]
/-! ### What is asked -/
theorem state_eq (hn:1≤n) (hR:Rp N S L A) (k:Int):hazard_Yard_State k ((n:Int),(m:Int),N,S,L)=some (stateA A k):=by
  unfold hazard_Yard_State hazard_isNode stateA
  rw [fails7 hn]
  by_cases h:0≤k∧k<8
  · have:=hR.nd k.toNat (by omega)
    simp [h,ck,this]
  · simp [h,ck]
theorem slot_eq (hI:Iv n m A) (hR:Rp N S L A) (t s:Int):hazard_Yard_Slot t s ((n:Int),(m:Int),N,S,L)=some (slotA n A t s):=by
  unfold hazard_Yard_Slot hazard_isThread hazard_isSlot slotA
  rw [fails4 hI.n1]
  by_cases h:(0≤t∧t<n)∧0≤s∧s<2
  · have h4:=hI.n4
    have:=hR.sl (t.toNat*2+s.toNat) (by omega)
    have h':t<4:=by omega
    simp [h,h',ck,this]
  · simp [h,ck]
theorem use_eq (hI:Iv n m A) (hR:Rp N S L A) (t s:Int):hazard_Yard_Use t s ((n:Int),(m:Int),N,S,L)=some (useA n A t s):=by
  unfold hazard_Yard_Use hazard_isThread hazard_isSlot hazard_points useA
  rw [fails6 hI.n1 hI.n4]
  by_cases h:(0≤t∧t<n)∧0≤s∧s<2
  · have h4:=hI.n4
    have h1:=hR.sl (t.toNat*2+s.toNat) (by omega)
    have h':t<4:=by omega
    by_cases h3:A.S (t.toNat*2+s.toNat)=-1<;>simp [h,h',ck,h1,h3]
  · simp [h,ck]
theorem clone_eq (l:List Int) (h:l.length≤1000):slices_Clone l=some l:=by
  unfold slices_Clone
  rw [ck_pos (by omega)]
theorem all_eq (hR:Rp N S L A) {t:Nat} (ht:t<4):hazard_list_all ((intAt T69 L (t*9)),(subX T69 L T66 ((t*9)+1)))=some (A.L t):=by
  unfold hazard_list_all
  have hl:=hR.le t ht
  have h1:(rowX T66 (subX T69 L T66 (t*9+1))).take (A.L t).length=A.L t:=by
    apply List.ext_getElem?
    intro k
    by_cases hk:k<(A.L t).length
    · rw [List.getElem?_take_of_lt hk]
      have hx:=List.getElem?_eq_getElem hk
      have:=hR.el t ht k _ hx
      rw [hx,← this]
      unfold rowX
      rw [List.getElem?_map,List.getElem?_range (by rw [T66_size]; omega),Option.map_some,ls_sub L (by omega)]
    · rw [List.getElem?_eq_none (by simp; omega),List.getElem?_eq_none (by omega)]
  simp only [hR.cn t ht]
  rw [ck_pos (by omega),ck_pos (by omega),Int.toNat_natCast,h1,clone_eq _ (by omega)]
  rfl
theorem list_eq (hI:Iv n m A) (hR:Rp N S L A) (t:Int):hazard_Yard_List t ((n:Int),(m:Int),N,S,L)=some (listA n A t):=by
  unfold hazard_Yard_List hazard_isThread listA
  rw [fails2 hI.n1]
  by_cases h:0≤t∧t<n
  · have h4:=hI.n4
    have h':t<4:=by omega
    have:=all_eq hR (t:=t.toNat) (by omega)
    simp [h,h',ck,this]
  · simp [h,ck]
/-! ### Slots that point -/
theorem idx2_eq (v:Int) (s:Int×Int):slices_Index_2 v s=some (if v=s.1 then 0 else if v=s.2 then 1 else -1):=by
  unfold slices_Index_2
  by_cases h1:v=s.1
  · rw [whileO_end (r:=Sum.inl 0) (by unfold slices_Index_2_b1; simp [ck,h1])]
    simp [h1]
  · by_cases h2:v=s.2
    · rw [whileO_on (s':=(1:Int)) (r:=Sum.inl 1) (by unfold slices_Index_2_b1; simp [ck,h1,inK_i64]) (whileO_end (by unfold slices_Index_2_b1; simp [ck,h2]))]
      have h3:¬ s.2=s.1:=fun e=>h1 (h2.trans e)
      simp [h2,h3]
    · rw [whileO_on (s':=(1:Int)) (r:=Sum.inr ()) (by unfold slices_Index_2_b1; simp [ck,h1,inK_i64]) (whileO_on (s':=(2:Int)) (by unfold slices_Index_2_b1; simp [ck,h2,inK_i64]) (whileO_end (by unfold slices_Index_2_b1; simp)))]
      simp [h1,h2,slices_Index_2_k1]
theorem cont_eq (v:Int) (s:Int×Int):slices_Contains v s=some (decide (s.1=v∨s.2=v)):=by
  unfold slices_Contains
  rw [idx2_eq]
  by_cases h1:v=s.1
  · simp [h1]
  · have h1':¬ s.1=v:=fun e=>h1 e.symm
    by_cases h2:v=s.2
    · simp [h2]
      split<;>decide
    · have h2':¬ s.2=v:=fun e=>h2 e.symm
      simp [h1,h2,h1',h2']
theorem hld_pairs (A:Mo) (x:Int):hld A x=(List.range 4).any fun t=>decide (A.S (t*2)=x∨A.S (t*2+1)=x):=by
  rw [Bool.eq_iff_iff,hld_iff,List.any_eq_true]
  constructor
  · rintro ⟨j,hj,h⟩
    refine ⟨j / 2,List.mem_range.2 (by omega),?_⟩
    simp only [decide_eq_true_eq]
    rcases Nat.mod_two_eq_zero_or_one j with e|e
    · exact .inl (by rw [show j / 2*2=j by omega]; exact h)
    · exact .inr (by rw [show j / 2*2+1=j by omega]; exact h)
  · rintro ⟨t,ht,h⟩
    have:=List.mem_range.1 ht
    simp only [decide_eq_true_eq] at h
    rcases h with h|h
    · exact ⟨t*2,by omega,h⟩
    · exact ⟨t*2+1,by omega,h⟩
theorem held_eq (hS:∀ j,j<8→intAt T65 S j=A.S j) (x a b:Int) (N:El T63) (L:El T69):hazard_Yard_isHeld x (a,b,N,S,L)=some (hld A x):=by
  unfold hazard_Yard_isHeld
  have:=whileO_find (body:=hazard_Yard_isHeld_b1 x (a,b,N,S,L)) 4 (fun t=>if A.S (t*2)=x∨A.S (t*2+1)=x then some (Sum.inl ()) else none) (Sum.inr ()) (fun k hk=>by
    unfold hazard_Yard_isHeld_b1
    rw [if_pos (decide_eq_true (by omega)),ck_pos (by omega),ck_pos (by omega),cont_eq]
    simp only [Int.toNat_natCast,Option.bind_some,hS (k*2) (by omega),hS (k*2+1) (by omega),decide_eq_true_eq]
    by_cases h:A.S (k*2)=x∨A.S (k*2+1)=x
    · rw [if_pos h,if_pos h]
    · rw [if_neg h,if_neg h,ck_pos (inK_small (by omega))]) (by
    unfold hazard_Yard_isHeld_b1
    rw [if_neg (by simp)])
  rw [this,hld_pairs]
  cases hh:((List.range 4).any fun t=>decide (A.S (t*2)=x∨A.S (t*2+1)=x)) with
  | true =>
    obtain ⟨t,ht,h⟩:=List.any_eq_true.1 hh
    have:((List.range 4).findSome? fun t=>if A.S (t*2)=x∨A.S (t*2+1)=x then some (Sum.inl ():Sum Unit Unit) else none)=some (Sum.inl ()):=by
      cases hf:((List.range 4).findSome? fun t=>if A.S (t*2)=x∨A.S (t*2+1)=x then some (Sum.inl ():Sum Unit Unit) else none) with
      | none =>
        have:=List.findSome?_eq_none_iff.1 hf t ht
        rw [if_pos (of_decide_eq_true h)] at this; cases this
      | some r =>
        obtain ⟨q,_,h2⟩:=List.exists_of_findSome?_eq_some hf
        split at h2
        · injection h2 with h2; rw [h2]
        · cases h2
    rw [this]; rfl
  | false =>
    have:((List.range 4).findSome? fun t=>if A.S (t*2)=x∨A.S (t*2+1)=x then some (Sum.inl ():Sum Unit Unit) else none)=none:=by
      refine List.findSome?_eq_none_iff.2 fun t ht=>?_
      have:=List.any_eq_false.1 hh t ht
      rw [if_neg (by simpa using this)]
    rw [this]; rfl
/-! ### Lists of nodes,and how many -/
def cntM (A:Mo) (w:Int):Nat:=((List.range 8).filter fun j=>decide (A.N j=w)).length
theorem count_eq (hn:1≤n) (hR:Rp N S L A) (w:Int):hazard_Yard_count w ((n:Int),(m:Int),N,S,L)=some (cntM A w:Int):=by
  unfold hazard_Yard_count hazard_Yard_isNone
  simp only [Option.bind_some,nz hn]
  obtain ⟨r,hr,hg⟩:=scan2 (List.range 8) (fun k (s:Int)=>s=(((List.range k).filter fun j=>decide (A.N j=w)).length:Int)) (fun r=>r=(cntM A w:Int)) (body:=hazard_Yard_count_b1 w ((n:Int),(m:Int),N,S,L)) (s0:=0) rfl (fun k x s hx hs=>by
    have hk:k<8:=by simpa using (List.getElem?_eq_some_iff.1 hx).1
    left
    unfold hazard_Yard_count_b1
    have hb:((List.range k).filter fun j=>decide (A.N j=w)).length≤k:=by
      have:=List.length_filter_le (fun j=>decide (A.N j=w)) (List.range k)
      simpa using this
    have hat:=hR.nd k hk
    rw [if_pos (decide_eq_true (show ((k:Nat):Int)<8 by omega)),ck_pos (by omega),ck_pos (by simp; omega)]
    simp only [Int.toNat_natCast,Nat.mul_one,hat]
    by_cases h:A.N k=w
    · refine ⟨s+1,?_,?_⟩
      · rw [if_pos (decide_eq_true h),ck_pos (by rw [hs]; exact inK_small (by omega)),ck_pos (inK_small (by omega))]
      · rw [List.range_succ,List.filter_append,List.length_append,hs]
        simp [h]
    · refine ⟨s,?_,?_⟩
      · rw [if_neg (by simpa using h),ck_pos (inK_small (by omega))]
      · rw [List.range_succ,List.filter_append,List.length_append,hs]
        simp [h]) (fun s hs=>⟨s,by unfold hazard_Yard_count_b1; rw [if_neg (by simp)],by rw [hs]; simp [cntM]⟩)
  rw [if_neg (by simp),hr,hg]; rfl
theorem By_eq (hn:1≤n) (hR:Rp N S L A):hazard_Yard_By ((n:Int),(m:Int),N,S,L)=some (cntM A 2:Int):=by
  unfold hazard_Yard_By; rw [count_eq hn hR]; rfl
theorem Free_eq (hn:1≤n) (hR:Rp N S L A):hazard_Yard_Free ((n:Int),(m:Int),N,S,L)=some (cntM A 0:Int):=by
  unfold hazard_Yard_Free; rw [count_eq hn hR]; rfl
def heldL (A:Mo):List Int:=((List.range 8).map fun j:Nat=>(j:Int)).filter (hld A)
theorem Held_eq (hn:1≤n) (hR:Rp N S L A):hazard_Yard_Held ((n:Int),(m:Int),N,S,L)=some (heldL A):=by
  unfold hazard_Yard_Held hazard_Yard_isNone
  simp only [Option.bind_some,nz hn]
  obtain ⟨r,hr,hg⟩:=scan2 (List.range 8) (fun k (s:List Int)=>s=((List.range k).map fun j:Nat=>(j:Int)).filter (hld A)) (fun r=>r=heldL A) (body:=hazard_Yard_Held_b1 ((n:Int),(m:Int),N,S,L)) (s0:=[]) rfl (fun k x s hx hs=>by
    have hk:k<8:=by simpa using (List.getElem?_eq_some_iff.1 hx).1
    left
    unfold hazard_Yard_Held_b1
    have hb:s.length≤k:=by
      have:=List.length_filter_le (hld A) ((List.range k).map fun j:Nat=>(j:Int))
      rw [hs]; simpa using this
    rw [if_pos (decide_eq_true (show ((k:Nat):Int)<8 by omega)),held_eq hR.sl]
    simp only [Option.bind_some]
    cases h:hld A (k:Int) with
    | true =>
      refine ⟨s++[(k:Int)],?_,?_⟩
      · rw [if_pos rfl,ck_pos (by omega),ck_pos (inK_small (by omega))]
      · rw [List.range_succ,List.map_append,List.filter_append,hs]
        simp [h]
    | false =>
      refine ⟨s,?_,?_⟩
      · rw [if_neg (by simp),ck_pos (inK_small (by omega))]
      · rw [List.range_succ,List.map_append,List.filter_append,hs]
        simp [h]) (fun s hs=>⟨s,by unfold hazard_Yard_Held_b1; rw [if_neg (by simp)],by rw [hs]; simp [heldL]⟩)
  rw [if_neg (by simp),hr,hg]; rfl
end
end Go.Proofs.YtcckpmeepcoafaaDoor
