import Derived.Test.YteclokkdgmacpaaGrp
import Derived.Test.YteclokkdgmacpaaGn
namespace Go.Proofs.Yteclokkdgmacpaa
open Go.RowKit
set_option linter.unusedVariables false
set_option linter.unusedSimpArgs false
set_option linter.unusedSectionVars false
set_option maxRecDepth 10000
abbrev Mv:=Int×Int×Int×Bool
abbrev Gr:=Int×List Mv
structure okZ (g:Gr):Prop where
 few:few g.2
 inK:∀ m∈g.2,InK .i64 m.1∧InK .i64 m.2.1∧InK .i64 m.2.2.1
def isB (x n:Int):Bool:=decide (0≤x)&&decide (x<n)
theorem isB_iff {x n:Int}:isB x n=true↔0≤x∧x<n:=by unfold isB; simp
def okM (n:Int) (m:Mv):Bool:=isB m.1 n&&isB m.2.2.1 n&&isB m.2.1 3
def okG (g:Gr):Bool:=decide (1≤g.1)&&decide (g.1≤8)&&decide (g.2.length≤20)&&g.2.all (okM g.1)&&decide g.2.Nodup
structure GOK (g:Gr):Prop where
 lo:1≤g.1
 hi:g.1≤8
 len:g.2.length≤20
 mv:∀ m∈g.2,(0≤m.1∧m.1<g.1)∧(0≤m.2.2.1∧m.2.2.1<g.1)∧(0≤m.2.1∧m.2.1<3)
 nd:g.2.Nodup
theorem okG_iff {g:Gr}:okG g=true↔GOK g:=by
 unfold okG okM
 simp only [Bool.and_eq_true,decide_eq_true_eq,List.all_eq_true,isB_iff]
 constructor
 ·rintro ⟨⟨⟨⟨h1,h2⟩,h3⟩,h4⟩,h5⟩
  exact ⟨h1,h2,h3,fun m hm=>⟨(h4 m hm).1.1,(h4 m hm).1.2,(h4 m hm).2⟩,h5⟩
 ·rintro ⟨h1,h2,h3,h4,h5⟩
  exact ⟨⟨⟨⟨h1,h2⟩,h3⟩,fun m hm=>⟨⟨(h4 m hm).1,(h4 m hm).2.1⟩,(h4 m hm).2.2⟩⟩,h5⟩
theorem isBelow_eq (x n:Int):progress_isBelow x n=some (isB x n):=by
 unfold progress_isBelow isB
 by_cases h:0≤x
 ·rw [if_pos (by simpa using h),decide_eq_true h]; rfl
 ·rw [if_neg (by simpa using h),decide_eq_false h]; rfl
theorem isThread_eq (x:Int):progress_isThread x=some (isB x 3):=by unfold progress_isThread; rw [isBelow_eq]; rfl
theorem rIsPlace_eq (g:Gr) (x:Int):linealref07_IsPlace g x=some (isB x g.1):=isBelow_eq x g.1
theorem rIsThread_eq (x:Int):linealref07_IsThread x=some (isB x 3):=isBelow_eq x 3
theorem rIsMove_eq (g:Gr) (x:Int):linealref07_IsMove g x=some (isB x (g.2.length:Int)):=isBelow_eq x g.2.length
theorem Contains_eq (s:List Mv) (v:Mv) (hf:few s) (hs:∀ m∈s,InK .i64 m.1∧InK .i64 m.2.1∧InK .i64 m.2.2.1) (hv:InK .i64 v.1∧InK .i64 v.2.1∧InK .i64 v.2.2.1):slices_Contains s v=some (decide (v∈s)):=by
 have key:=whileO_first (body:=slices_Index_b1 s v) s (fun m=>decide (v=m)) (fun k x hk=>by
  obtain ⟨hlt,hin⟩:=few_in hf hk
  have hx:=hs x (List.mem_of_getElem? hk)
  unfold slices_Index_b1
  simp only [Int.toNat_natCast,getD_of hk]
  rw [if_pos (by rw [decide_eq_true_eq]; omega),ck_pos (by omega),ck_pos (by omega),ck_pos hv.1,ck_pos hv.2.1,ck_pos hv.2.2,ck_pos hx.1,ck_pos hx.2.1,ck_pos hx.2.2,ck_pos hin]
  split<;>rfl) (by
  unfold slices_Index_b1
  rw [if_neg (by simp)])
 unfold slices_Contains slices_Index
 rw [key]
 cases hc:s.findIdx? (fun m=>decide (v=m)) with
 | none =>
  rw [List.findIdx?_eq_none_iff] at hc
  have:v ∉ s:=fun h=>by have:=hc v h; simp at this
  simp [slices_Index_k1,this]
 | some k =>
  rw [List.findIdx?_eq_some_iff_getElem] at hc
  obtain ⟨h1,h2,_⟩:=hc
  have:v∈s:=by
   have:=of_decide_eq_true h2
   rw [this]; exact List.getElem_mem h1
  simp [this]
theorem Contains2_eq (s:List Int) (v:Int) (hf:few s):slices_Contains_2 s v=some (decide (v∈s)):=by
 have key:=whileO_first (body:=slices_Index_2_b1 s v) s (fun m=>decide (v=m)) (fun k x hk=>by
  obtain ⟨hlt,hin⟩:=few_in hf hk
  unfold slices_Index_2_b1
  simp only [Int.toNat_natCast,getD_of hk]
  rw [if_pos (by rw [decide_eq_true_eq]; omega),ck_pos (by omega),ck_pos (by omega),ck_pos hin]
  split<;>rfl) (by
  unfold slices_Index_2_b1
  rw [if_neg (by simp)])
 unfold slices_Contains_2 slices_Index_2
 rw [key]
 cases hc:s.findIdx? (fun m=>decide (v=m)) with
 | none =>
  rw [List.findIdx?_eq_none_iff] at hc
  have:v ∉ s:=fun h=>by have:=hc v h; simp at this
  simp [slices_Index_2_k1,this]
 | some k =>
  rw [List.findIdx?_eq_some_iff_getElem] at hc
  obtain ⟨h1,h2,_⟩:=hc
  have:v∈s:=by
   have:=of_decide_eq_true h2
   rw [this]; exact List.getElem_mem h1
  simp [this]
theorem all_front {p:Mv→Bool} (ms:List Mv):((List.range ms.length).all fun k=>p (ms.getD k (0,0,0,false))&&!decide (ms.getD k (0,0,0,false)∈ms.take k))=(ms.all p&&decide ms.Nodup):=by
 induction ms using snoc_ind with
 | h0=>rfl
 | h1 ms m ih =>
  rw [List.length_append,List.length_singleton,List.range_succ,List.all_append]
  have e1:((List.range ms.length).all fun k=>p ((ms++[m]).getD k (0,0,0,false))&&!decide ((ms++[m]).getD k (0,0,0,false)∈(ms++[m]).take k))=(List.range ms.length).all fun k=>p (ms.getD k (0,0,0,false))&&!decide (ms.getD k (0,0,0,false)∈ms.take k):=by
   rw [Bool.eq_iff_iff,List.all_eq_true,List.all_eq_true]
   have key:∀ k,k∈List.range ms.length→(ms++[m]).getD k (0,0,0,false)=ms.getD k (0,0,0,false)∧(ms++[m]).take k=ms.take k:=fun k hk=>by
    have hk:=List.mem_range.1 hk
    refine ⟨?_,List.take_append_of_le_length (by omega)⟩
    simp [List.getD,List.getElem?_append_left hk]
   constructor
   ·intro h k hk
    have:=h k hk
    rwa [(key k hk).1,(key k hk).2] at this
   ·intro h k hk
    rw [(key k hk).1,(key k hk).2]
    exact h k hk
  rw [e1,ih]
  have e2:(ms++[m]).getD ms.length (0,0,0,false)=m:=by simp [List.getD]
  have e3:(ms++[m]).take ms.length=ms:=by simp
  have e4:decide (ms++[m]).Nodup=(decide ms.Nodup&&!decide (m∈ms)):=by
   rw [Bool.eq_iff_iff]
   simp only [decide_eq_true_eq,Bool.and_eq_true,Bool.not_eq_true',decide_eq_false_iff_not]
   rw [List.nodup_append]
   constructor
   ·rintro ⟨h1,_,h3⟩
    exact ⟨h1,fun hm=>h3 m hm m (by simp) rfl⟩
   ·rintro ⟨h1,h2⟩
    exact ⟨h1,by simp,fun a ha b hb=>by
     rw [List.mem_singleton] at hb; subst hb
     rintro rfl; exact h2 ha⟩
  rw [e4,List.all_append]
  simp only [List.all_cons,List.all_nil,Bool.and_true,e2,e3]
  cases ms.all p<;>cases p m<;>cases decide ms.Nodup<;>cases decide (m∈ms)<;>rfl
theorem okG_parts (g:Gr):okG g=(decide (1≤g.1)&&decide (g.1≤8)&&decide (g.2.length≤20)&&(List.range g.2.length).all fun k=>okM g.1 (g.2.getD k (0,0,0,false))&&!decide (g.2.getD k (0,0,0,false)∈g.2.take k)):=by
 unfold okG
 rw [all_front,Bool.and_assoc (b:=g.2.all (okM g.1))]
theorem range_at {n k j:Nat} (hk:(List.range n)[k]?=some j):k<n∧j=k:=by
 obtain ⟨h1,h2⟩:=List.getElem?_eq_some_iff.1 hk
 rw [List.length_range] at h1
 rw [List.getElem_range] at h2
 exact ⟨h1,h2.symm⟩
theorem take_few {α:Type} {xs:List α} (h:few xs) (k:Nat):few (xs.take k):=by
 unfold few at *
 rw [List.length_take]; omega
theorem Valid_loop (g:Gr) (hz:okZ g):whileO (progress_Valid_b1 g) 0=some (if ((List.range g.2.length).all fun k=>okM g.1 (g.2.getD k (0,0,0,false))&&!decide (g.2.getD k (0,0,0,false)∈g.2.take k))=true then .inr () else .inl ()):=by
 refine whileO_all (List.range g.2.length) (fun k=>okM g.1 (g.2.getD k (0,0,0,false))&&!decide (g.2.getD k (0,0,0,false)∈g.2.take k)) (fun k j hk=>?_) ?_
 ·obtain ⟨hlt,rfl⟩:=range_at hk
  have hm:g.2.getD j (0,0,0,false)∈g.2:=getD_in hlt
  have hf:=hz.few
  unfold few at hf
  have hc:=Contains_eq (g.2.take j) (g.2.getD j (0,0,0,false)) (take_few hz.few j) (fun m hm=>hz.inK m (List.mem_of_mem_take hm)) (hz.inK _ hm)
  unfold progress_Valid_b1 okM
  simp only [Int.toNat_natCast]
  rw [if_pos (by rw [decide_eq_true_eq]; omega),ck_pos (by omega),ck_pos (by omega),isBelow_eq,Option.bind_some]
  cases h1:isB (g.2.getD j (0,0,0,false)).1 g.1 with
  | false=>simp
  | true =>
   rw [if_neg (by simp),isBelow_eq,Option.bind_some]
   cases h2:isB (g.2.getD j (0,0,0,false)).2.2.1 g.1 with
   | false=>simp
   | true =>
    rw [if_neg (by simp),isThread_eq,Option.bind_some]
    cases h3:isB (g.2.getD j (0,0,0,false)).2.1 3 with
    | false=>simp
    | true =>
     rw [if_neg (by simp),ck_pos (by omega),ck_pos (by omega),hc,Option.bind_some,ck_pos (by rw [inK_i64]; omega)]
     cases decide (g.2.getD j (0,0,0,false)∈g.2.take j)<;>rfl
 ·rw [List.length_range]
  unfold progress_Valid_b1
  rw [if_neg (by simp)]
theorem Valid_eq (g:Gr) (hz:okZ g):progress_Valid g=some (okG g):=by
 unfold progress_Valid
 rw [okG_parts]
 by_cases h1:g.1<1
 ·rw [if_pos (by simpa using h1),decide_eq_false (p:=1≤g.1) (by omega)]; rfl
 rw [if_neg (by simpa using h1)]
 by_cases h2:8<g.1
 ·rw [if_pos (by simpa using h2),decide_eq_false (p:=g.1≤8) (by omega),Bool.and_false]; rfl
 rw [if_neg (by simpa using h2)]
 by_cases h3:20<(g.2.length:Int)
 ·rw [if_pos (by simpa using h3),decide_eq_false (p:=g.2.length≤20) (by omega),Bool.and_false]; rfl
 rw [if_neg (by simpa using h3),decide_eq_true (p:=1≤g.1) (by omega),decide_eq_true (p:=g.1≤8) (by omega),decide_eq_true (p:=g.2.length≤20) (by omega),Valid_loop g hz,Option.bind_some]
 cases (List.range g.2.length).all fun k=>okM g.1 (g.2.getD k (0,0,0,false))&&!decide (g.2.getD k (0,0,0,false)∈g.2.take k)<;>rfl
theorem rValid_loop (g:Gr) (hz:okZ g):whileO (linealref07_Valid_b1 g) 0=some (if ((List.range g.2.length).all fun k=>okM g.1 (g.2.getD k (0,0,0,false))&&!decide (g.2.getD k (0,0,0,false)∈g.2.take k))=true then .inr () else .inl ()):=by
 refine whileO_all (List.range g.2.length) (fun k=>okM g.1 (g.2.getD k (0,0,0,false))&&!decide (g.2.getD k (0,0,0,false)∈g.2.take k)) (fun k j hk=>?_) ?_
 ·obtain ⟨hlt,rfl⟩:=range_at hk
  have hm:g.2.getD j (0,0,0,false)∈g.2:=getD_in hlt
  have hzm:=hz.inK _ hm
  have hf:=hz.few
  unfold few at hf
  have hin:=whileO_all (body:=linealref07_Valid_b2 g (j:Int)) (g.2.take j) (fun y=>!decide (g.2.getD j (0,0,0,false)=y)) (fun i y hy=>by
   have hlt2:=(List.getElem?_eq_some_iff.1 hy).1
   have hy1:=hz.inK y (List.mem_of_mem_take (List.mem_of_getElem? hy))
   rw [List.length_take] at hlt2
   unfold linealref07_Valid_b2
   simp only [Int.toNat_natCast,getD_of hy]
   rw [if_pos (by rw [decide_eq_true_eq,List.length_take]; omega),ck_pos (by omega),ck_pos (by rw [List.length_take]; omega),ck_pos hzm.1,ck_pos hzm.2.1,ck_pos hzm.2.2,ck_pos hy1.1,ck_pos hy1.2.1,ck_pos hy1.2.2,ck_pos (by rw [inK_i64]; omega)]
   cases decide (g.2.getD j (0,0,0,false)=y)<;>rfl) (by
   unfold linealref07_Valid_b2
   simp only [Int.toNat_natCast]
   rw [if_neg (by simp)])
  have e2:(g.2.take j).all (fun y=>!decide (g.2.getD j (0,0,0,false)=y))=!decide (g.2.getD j (0,0,0,false)∈g.2.take j):=by
   rw [Bool.eq_iff_iff,List.all_eq_true]
   simp only [Bool.not_eq_true',decide_eq_false_iff_not]
   constructor
   ·intro h hm; exact h _ hm rfl
   ·intro h y hy e; rw [e] at h; exact h hy
  rw [e2] at hin
  unfold linealref07_Valid_b1 okM
  simp only [Int.toNat_natCast]
  rw [if_pos (by rw [decide_eq_true_eq]; omega),ck_pos (by omega),ck_pos (by omega),rIsPlace_eq,Option.bind_some]
  cases h1:isB (g.2.getD j (0,0,0,false)).1 g.1 with
  | false=>simp
  | true =>
   rw [if_neg (by simp),rIsPlace_eq,Option.bind_some]
   cases h2:isB (g.2.getD j (0,0,0,false)).2.2.1 g.1 with
   | false=>simp
   | true =>
    rw [if_neg (by simp),rIsThread_eq,Option.bind_some]
    cases h3:isB (g.2.getD j (0,0,0,false)).2.1 3 with
    | false=>simp
    | true =>
     rw [if_neg (by simp),ck_pos (by omega),ck_pos (by omega),hin,Option.bind_some]
     unfold linealref07_Valid_k2
     rw [ck_pos (by rw [inK_i64]; omega)]
     cases decide (g.2.getD j (0,0,0,false)∈g.2.take j)<;>rfl
 ·rw [List.length_range]
  unfold linealref07_Valid_b1
  rw [if_neg (by simp)]
theorem rValid_eq (g:Gr) (hz:okZ g):linealref07_Valid g=some (okG g):=by
 unfold linealref07_Valid
 rw [okG_parts]
 by_cases h1:g.1<1
 ·rw [if_pos (by simpa using h1),decide_eq_false (p:=1≤g.1) (by omega)]; rfl
 rw [if_neg (by simpa using h1)]
 by_cases h2:8<g.1
 ·rw [if_pos (by simpa using h2),decide_eq_false (p:=g.1≤8) (by omega),Bool.and_false]; rfl
 rw [if_neg (by simpa using h2)]
 by_cases h3:20<(g.2.length:Int)
 ·rw [if_pos (by simpa using h3),decide_eq_false (p:=g.2.length≤20) (by omega),Bool.and_false]; rfl
 rw [if_neg (by simpa using h3),decide_eq_true (p:=1≤g.1) (by omega),decide_eq_true (p:=g.1≤8) (by omega),decide_eq_true (p:=g.2.length≤20) (by omega),rValid_loop g hz,Option.bind_some]
 cases (List.range g.2.length).all fun k=>okM g.1 (g.2.getD k (0,0,0,false))&&!decide (g.2.getD k (0,0,0,false)∈g.2.take k)<;>rfl
theorem graphOf_eq (g:Gr) (hz:okZ g):progress_graphOf g=some (if okG g=true then (g.1,g.2,0) else (0,[],70)):=by
 unfold progress_graphOf
 rw [Valid_eq g hz,Option.bind_some]
 cases okG g<;>rfl
/-! ### Paths -/
def leadL (g:Gr):Int→List Int→Option Int
 | at0,[]=>some at0
 | at0,i::r=>if isB i (g.2.length:Int)=true∧(g.2.getD i.toNat (0,0,0,false)).1=at0 then leadL g (g.2.getD i.toNat (0,0,0,false)).2.2.1 r else none
theorem leads_eq (g:Gr) (at0:Int) (l:List Int):progress_graph_leads g at0 l=some (if l.length≤1000 then (match leadL g at0 l with|some p=>(p,true)|none=>(0,false)) else (0,false)):=by
 unfold progress_graph_leads
 by_cases hl:l.length≤1000
 ·rw [if_neg (by rw [decide_eq_true_eq]; omega),if_pos hl]
  have:∀ (d k:Nat) (p:Int),l.length - k=d→k≤l.length→whileN (progress_graph_leads_b1 g l) (d+1) (p,(k:Int))=some (match leadL g p (l.drop k) with|some q=>.inr q|none=>.inl ()):=by
   intro d
   induction d with
   | zero =>
    intro k p h1 h2
    have:k=l.length:=by omega
    subst this
    rw [List.drop_length]
    unfold whileN progress_graph_leads_b1
    rw [if_neg (by simp)]
    rfl
   | succ d ih =>
    intro k p h1 h2
    have hlt:k<l.length:=by omega
    have hg:l.getD k 0=l[k]:=getD_of (List.getElem?_eq_getElem hlt)
    unfold whileN progress_graph_leads_b1
    simp only [Int.toNat_natCast,hg]
    rw [if_pos (by rw [decide_eq_true_eq]; omega),ck_pos (by omega),ck_pos (by omega),isBelow_eq,Option.bind_some,List.drop_eq_getElem_cons hlt]
    unfold leadL
    cases hb:isB l[k] (g.2.length:Int) with
    | false=>simp
    | true =>
     have hb':=isB_iff.1 hb
     rw [if_neg (by simp),ck_pos (by omega),ck_pos (by omega)]
     by_cases e:(g.2.getD l[k].toNat (0,0,0,false)).1=p
     ·rw [if_neg (by simpa using e),ck_pos (by omega),ck_pos (by omega),ck_pos (by rw [inK_i64]; omega),if_pos ⟨rfl,e⟩]
      simp only
      have e1:((k:Int)+1)=((k+1:Nat):Int):=by omega
      rw [e1]
      exact ih (k+1) _ (by omega) (by omega)
     ·rw [if_pos (by simpa using e),if_neg (fun h=>e h.2)]
  have h0:=this l.length 0 at0 (by omega) (by omega)
  rw [List.drop_zero] at h0
  have h1:whileO (progress_graph_leads_b1 g l) (at0,0)=_:=whileO_of h0
  rw [h1,Option.bind_some]
  cases leadL g at0 l<;>rfl
 ·rw [if_pos (by rw [decide_eq_true_eq]; omega),if_neg hl]
def isPth (g:Gr):List Int→Bool
 | []=>true
 | i::r=>isB i (g.2.length:Int)&&(leadL g (g.2.getD i.toNat (0,0,0,false)).1 (i::r)).isSome
theorem isPth_cons (g:Gr) (i:Int) (r:List Int):isPth g (i::r)=(isB i (g.2.length:Int)&&(leadL g (g.2.getD i.toNat (0,0,0,false)).1 (i::r)).isSome):=rfl
def isPath (g:Gr) (l:List Int):Bool:=decide (l.length≤1000)&&isPth g l
def stepOK (g:Gr) (l:List Int) (k:Nat):Bool:=isB (l.getD k 0) (g.2.length:Int)&&(decide (k=0) || decide ((g.2.getD (l.getD (k - 1) 0).toNat (0,0,0,false)).2.2.1=(g.2.getD (l.getD k 0).toNat (0,0,0,false)).1))
theorem step_all (g:Gr):∀ (r:List Int) (p:Int),(leadL g p r).isSome=true↔(∀ k,k<r.length→isB (r.getD k 0) (g.2.length:Int)=true)∧(∀ i,r.head?=some i→(g.2.getD i.toNat (0,0,0,false)).1=p)∧∀ k,k+1<r.length→(g.2.getD (r.getD k 0).toNat (0,0,0,false)).2.2.1=(g.2.getD (r.getD (k+1) 0).toNat (0,0,0,false)).1
 | [],p=>by simp [leadL]
 | i::r,p=>by
  unfold leadL
  by_cases h:isB i (g.2.length:Int)=true∧(g.2.getD i.toNat (0,0,0,false)).1=p
  ·rw [if_pos h,step_all g r]
   constructor
   ·rintro ⟨h1,h2,h3⟩
    refine ⟨fun k hk=>?_,fun j hj=>?_,fun k hk=>?_⟩
    ·cases k with
     | zero=>exact h.1
     | succ k=>exact h1 k (by simpa using hk)
    ·simp at hj; subst hj; exact h.2
    ·cases k with
     | zero =>
      cases r with
      | nil=>simp at hk
      | cons j r=>exact (h2 j rfl).symm
     | succ k=>exact h3 k (by simpa using hk)
   ·rintro ⟨h1,h2,h3⟩
    refine ⟨fun k hk=>h1 (k+1) (by simpa using hk),fun j hj=>?_,fun k hk=>h3 (k+1) (by simpa using hk)⟩
    cases r with
    | nil=>simp at hj
    | cons j' r =>
     simp at hj; subst hj
     exact (h3 0 (by simp)).symm
  ·rw [if_neg h]
   constructor
   ·intro hh; cases hh
   ·rintro ⟨h1,h2,_⟩
    exact absurd ⟨h1 0 (by simp),h2 i rfl⟩ h
theorem isPth_iff (g:Gr) (l:List Int):isPth g l=(List.range l.length).all (stepOK g l):=by
 rw [Bool.eq_iff_iff,List.all_eq_true]
 unfold stepOK
 cases l with
 | nil=>simp [isPth]
 | cons i r =>
  rw [isPth_cons,Bool.and_eq_true,step_all]
  simp only [Bool.and_eq_true,Bool.or_eq_true,decide_eq_true_eq,List.mem_range]
  constructor
  ·rintro ⟨h0,h1,h2,h3⟩ k hk
   refine ⟨h1 k hk,?_⟩
   cases k with
   | zero=>exact .inl rfl
   | succ k=>exact .inr (h3 k hk)
  ·intro h
   refine ⟨(h 0 (by simp)).1,fun k hk=>(h k hk).1,fun j hj=>by simp at hj; subst hj; rfl,fun k hk=>?_⟩
   rcases (h (k+1) hk).2 with e|e
   ·omega
   ·exact e
theorem risPath_eq (g:Gr) (l:List Int):linealref07_isPath g l=some (isPath g l):=by
 unfold linealref07_isPath isPath
 by_cases hl:l.length≤1000
 ·rw [if_neg (by rw [decide_eq_true_eq]; omega),decide_eq_true hl,Bool.true_and,isPth_iff]
  have key:=scan1 (List.range l.length) (body:=linealref07_isPath_b1 g l) (fun k=>∀ j,j<k→stepOK g l j=true) (fun r=>r=(if (List.range l.length).all (stepOK g l)=true then Sum.inr () else Sum.inl ())) (fun j hj=>absurd hj (Nat.not_lt_zero j)) (fun k j hk hI=>by
   obtain ⟨hlt,rfl⟩:=range_at hk
   have kin:InK .i64 ((j:Int)+1):=by rw [inK_i64]; omega
   have ext:stepOK g l j=true→∀ i,i<j+1→stepOK g l i=true:=fun h i hi=>by
    by_cases e:i=j
    ·subst e; exact h
    ·exact hI i (by omega)
   have bad:stepOK g l j=false→(Sum.inl ():Sum Unit Unit)=(if (List.range l.length).all (stepOK g l)=true then Sum.inr () else Sum.inl ()):=fun h=>by
    rw [if_neg]
    intro hh
    have:=List.all_eq_true.1 hh j (List.mem_range.2 hlt)
    rw [h] at this; cases this
   unfold linealref07_isPath_b1
   simp only [Int.toNat_natCast]
   rw [if_pos (by rw [decide_eq_true_eq]; omega),ck_pos (by omega),ck_pos (by omega),rIsMove_eq,Option.bind_some]
   cases hb:isB (l.getD j 0) (g.2.length:Int) with
   | false =>
    right
    exact ⟨_,by rw [if_pos (by simp)],bad (by unfold stepOK; rw [hb]; rfl)⟩
   | true =>
    have hb':=isB_iff.1 hb
    rw [if_neg (by simp)]
    by_cases h0:j=0
    ·left
     subst h0
     rw [if_neg (by simp),ck_pos kin]
     exact ⟨rfl,ext (by unfold stepOK; rw [hb]; rfl)⟩
    ·have hp:isB (l.getD (j - 1) 0) (g.2.length:Int)=true:=by
      have:=hI (j - 1) (by omega)
      unfold stepOK at this
      rw [Bool.and_eq_true] at this
      exact this.1
     have hp':=isB_iff.1 hp
     have e1:((j:Int) - 1).toNat=j - 1:=by omega
     rw [if_pos (by rw [decide_eq_true_eq]; omega),ck_pos (by rw [inK_i64]; omega),ck_pos (by omega),ck_pos (by omega),e1,ck_pos (by omega),ck_pos (by omega),ck_pos (by omega),ck_pos (by omega),ck_pos kin]
     by_cases e:(g.2.getD (l.getD (j - 1) 0).toNat (0,0,0,false)).2.2.1=(g.2.getD (l.getD j 0).toNat (0,0,0,false)).1
     ·left
      rw [if_neg (by simpa using e)]
      exact ⟨rfl,ext (by unfold stepOK; rw [hb,decide_eq_false h0,decide_eq_true e]; rfl)⟩
     ·right
      exact ⟨_,by rw [if_pos (by simpa using e)],bad (by unfold stepOK; rw [hb,decide_eq_false h0,decide_eq_false e]; rfl)⟩) (fun hI=>⟨_,by
   rw [List.length_range]
   unfold linealref07_isPath_b1
   rw [if_neg (by simp)],by
   rw [if_pos]
   rw [List.all_eq_true]
   intro j hj
   rw [List.length_range] at hI
   exact hI j (List.mem_range.1 hj)⟩)
  obtain ⟨r,k1,k2⟩:=key
  subst k2
  rw [k1,Option.bind_some]
  cases (List.range l.length).all (stepOK g l)<;>rfl
 ·rw [if_pos (by rw [decide_eq_true_eq]; omega),decide_eq_false hl]; rfl
theorem leadL_cons (g:Gr) (p i:Int) (r:List Int):leadL g p (i::r)=if isB i (g.2.length:Int)=true∧(g.2.getD i.toNat (0,0,0,false)).1=p then leadL g (g.2.getD i.toNat (0,0,0,false)).2.2.1 r else none:=rfl
theorem leadL_append (g:Gr):∀ (l r:List Int) (p:Int),leadL g p (l++r)=(leadL g p l).bind fun q=>leadL g q r
 | [],r,p=>rfl
 | i::l,r,p=>by
  rw [List.cons_append,leadL_cons,leadL_cons]
  split
  ·exact leadL_append g l r _
  ·rfl
abbrev PW:=List Int×List (List Int)
def bStep (are:Mv→Bool) (g:Gr) (p:Int) (w:List Int) (s:PW) (k:Nat):PW :=
 if (g.2.getD k (0,0,0,false)).1=p∧are (g.2.getD k (0,0,0,false))=true∧(g.2.getD k (0,0,0,false)).2.2.1 ∉ s.1 then (s.1++[(g.2.getD k (0,0,0,false)).2.2.1],s.2++[w++[(k:Int)]]) else s
def bRow (are:Mv→Bool) (g:Gr) (s:PW) (i:Nat):PW:=(List.range g.2.length).foldl (bStep are g (s.1.getD i 0) (s.2.getD i [])) s
def bfs (are:Mv→Bool) (g:Gr):Nat→Nat→PW→PW
 | 0,_,s=>s
 | n+1,i,s=>if i<s.1.length then bfs are g n (i+1) (bRow are g s i) else s
structure BI (are:Mv→Bool) (g:Gr) (from0:Int) (i:Nat) (s:PW):Prop where
 len:s.2.length=s.1.length
 hd:s.1[0]?=some from0∧s.2[0]?=some []
 nd:s.1.Nodup
 inN:∀ p∈s.1,0≤p∧p<g.1
 way:∀ (j:Nat) (p:Int) (w:List Int),s.1[j]?=some p→s.2[j]?=some w→leadL g from0 w=some p∧(∀ k∈w,are (g.2.getD k.toNat (0,0,0,false))=true)∧w.length≤j
 ind:∀ S:Int→Prop,S from0→(∀ m∈g.2,S m.1→are m=true→S m.2.2.1)→∀ p∈s.1,S p
 mono:∀ (a b:Nat) (u v:List Int),a≤b→s.2[a]?=some u→s.2[b]?=some v→u.length≤v.length
 top:∀ u,s.2[i]?=some u→∀ v∈s.2,v.length≤u.length+1
 cl:∀ (a:Nat) (p:Int) (u:List Int),a<i→s.1[a]?=some p→s.2[a]?=some u→∀ m∈g.2,m.1=p→are m=true→∃ (b:Nat) (v:List Int),s.1[b]?=some m.2.2.1∧s.2[b]?=some v∧v.length≤u.length+1
theorem BI.start {are:Mv→Bool} {g:Gr} {from0:Int} (hf:0≤from0∧from0<g.1):BI are g from0 0 ([from0],[[]]) where
 len:=rfl
 hd:=⟨rfl,rfl⟩
 nd:=by simp
 inN:=by intro p hp; simp at hp; subst hp; exact hf
 way:=by
  intro j p w h1 h2
  cases j with
  | zero=>simp at h1 h2; subst h1; subst h2; exact ⟨rfl,by simp,by simp⟩
  | succ j=>simp at h1
 ind:=by intro S h0 _ p hp; simp at hp; subst hp; exact h0
 mono:=by
  intro a b u v hab h1 h2
  cases b with
  | zero =>
   have:a=0:=by omega
   subst this
   rw [h1] at h2; injection h2 with h2; subst h2; exact Nat.le_refl _
  | succ b=>simp at h2
 top:=by intro u h1 v hv; simp at hv; subst hv; simp
 cl:=by intro a p u ha; omega
theorem app_at {α:Type} {xs:List α} {x y:α} {j:Nat} (h:(xs++[x])[j]?=some y):xs[j]?=some y∨(j=xs.length∧y=x):=by
 by_cases hj:j<xs.length
 ·rw [List.getElem?_append_left hj] at h; exact .inl h
 ·rw [List.getElem?_append_right (by omega)] at h
  have:j - xs.length=0:=by
   by_cases e:j - xs.length=0
   ·exact e
   ·rw [List.getElem?_eq_none (by simp; omega)] at h; cases h
  rw [this] at h
  simp at h
  exact .inr ⟨by omega,h.symm⟩
theorem app_old {α:Type} {xs:List α} {x y:α} {j:Nat} (h:xs[j]?=some y):(xs++[x])[j]?=some y:=by
 have:=(List.getElem?_eq_some_iff.1 h).1
 rw [List.getElem?_append_left this]; exact h
theorem app_new {α:Type} (xs:List α) (x:α):(xs++[x])[xs.length]?=some x:=by simp
section
variable {are:Mv→Bool} {g:Gr} {from0:Int} (hg:GOK g)
include hg
structure BJ (are:Mv→Bool) (g:Gr) (from0:Int) (i:Nat) (p:Int) (w:List Int) (k:Nat) (s:PW):Prop extends BI are g from0 i s where
 at1:s.1[i]?=some p
 at2:s.2[i]?=some w
 row:∀ j,j<k→(g.2.getD j (0,0,0,false)).1=p→are (g.2.getD j (0,0,0,false))=true→∃ (b:Nat) (v:List Int),s.1[b]?=some (g.2.getD j (0,0,0,false)).2.2.1∧s.2[b]?=some v∧v.length≤w.length+1
theorem BJ.step {i:Nat} {p:Int} {w:List Int} {k:Nat} {s:PW} (h:BJ are g from0 i p w k s) (hk:k<g.2.length):BJ are g from0 i p w (k+1) (bStep are g p w s k):=by
 have hm:g.2.getD k (0,0,0,false)∈g.2:=getD_in hk
 unfold bStep
 by_cases hc:(g.2.getD k (0,0,0,false)).1=p∧are (g.2.getD k (0,0,0,false))=true∧(g.2.getD k (0,0,0,false)).2.2.1 ∉ s.1
 ·rw [if_pos hc]
  obtain ⟨c1,c2,c3⟩:=hc
  have hil:i<s.1.length:=(List.getElem?_eq_some_iff.1 h.at1).1
  have hw:=h.way i p w h.at1 h.at2
  have hnew:leadL g from0 (w++[(k:Int)])=some (g.2.getD k (0,0,0,false)).2.2.1:=by
   rw [leadL_append,hw.1,Option.bind_some,leadL_cons,if_pos ⟨isB_iff.2 ⟨by omega,by omega⟩,by rw [Int.toNat_natCast]; exact c1⟩,Int.toNat_natCast]
   rfl
  refine ⟨⟨?_,⟨app_old h.hd.1,app_old h.hd.2⟩,?_,?_,?_,?_,?_,?_,?_⟩,app_old h.at1,app_old h.at2,?_⟩
  ·simp [h.len]
  ·exact List.nodup_append.2 ⟨h.nd,by simp,fun a ha b hb=>by rw [List.mem_singleton] at hb; subst hb; rintro rfl; exact c3 ha⟩
  ·intro q hq
   rcases List.mem_append.1 hq with h1|h1
   ·exact h.inN q h1
   ·rw [List.mem_singleton] at h1; subst h1; exact (hg.mv _ hm).2.1
  ·intro j q u h1 h2
   rcases app_at h1 with h1|⟨h1,rfl⟩
   ·rcases app_at h2 with h2|⟨h2,_⟩
    ·exact h.way j q u h1 h2
    ·have:=(List.getElem?_eq_some_iff.1 h1).1
     have:=h.len; omega
   ·rcases app_at h2 with h2|⟨h2,rfl⟩
    ·have:=(List.getElem?_eq_some_iff.1 h2).1
     have:=h.len; omega
    ·refine ⟨hnew,fun x hx=>?_,?_⟩
     ·rcases List.mem_append.1 hx with hx|hx
      ·exact hw.2.1 x hx
      ·rw [List.mem_singleton] at hx; subst hx; rw [Int.toNat_natCast]; exact c2
     ·have:=hw.2.2
      rw [List.length_append,List.length_singleton]; omega
  ·intro S s0 sc q hq
   rcases List.mem_append.1 hq with h1|h1
   ·exact h.ind S s0 sc q h1
   ·rw [List.mem_singleton] at h1; subst h1
    exact sc _ hm (by rw [c1]; exact h.ind S s0 sc p (List.mem_of_getElem? h.at1)) c2
  ·intro a b u v hab h1 h2
   rcases app_at h2 with h2|⟨h2,rfl⟩
   ·rcases app_at h1 with h1|⟨h1,_⟩
    ·exact h.mono a b u v hab h1 h2
    ·have:=(List.getElem?_eq_some_iff.1 h2).1
     omega
   ·rcases app_at h1 with h1|⟨h1,rfl⟩
    ·have:=h.top w h.at2 u (List.mem_of_getElem? h1)
     rw [List.length_append,List.length_singleton]; exact this
    ·exact Nat.le_refl _
  ·intro u h1 v hv
   have e:u=w:=by
    have:=app_old (x:=w++[(k:Int)]) h.at2
    have h1':(s.2++[w++[(k:Int)]])[i]?=some u:=h1
    rw [this] at h1'; injection h1' with h1'; exact h1'.symm
   subst e
   rcases List.mem_append.1 hv with hv|hv
   ·exact h.top u h.at2 v hv
   ·rw [List.mem_singleton] at hv; subst hv; simp
  ·intro a q u ha h1 h2 m hm' e1 e2
   have h1':s.1[a]?=some q:=by
    rcases app_at h1 with h1|⟨h1,_⟩
    ·exact h1
    ·omega
   have h2':s.2[a]?=some u:=by
    rcases app_at h2 with h2|⟨h2,_⟩
    ·exact h2
    ·have:=h.len; omega
   obtain ⟨b,v,b1,b2,b3⟩:=h.cl a q u ha h1' h2' m hm' e1 e2
   exact ⟨b,v,app_old b1,app_old b2,b3⟩
  ·intro j hj e1 e2
   by_cases ej:j=k
   ·subst ej
    refine ⟨s.1.length,w++[(j:Int)],app_new _ _,?_,by simp⟩
    rw [← h.len]; exact app_new _ _
   ·obtain ⟨b,v,b1,b2,b3⟩:=h.row j (by omega) e1 e2
    exact ⟨b,v,app_old b1,app_old b2,b3⟩
 ·rw [if_neg hc]
  refine ⟨h.toBI,h.at1,h.at2,fun j hj e1 e2=>?_⟩
  by_cases ej:j=k
  ·subst ej
   have hin:(g.2.getD j (0,0,0,false)).2.2.1∈s.1:=by
    by_cases hh:(g.2.getD j (0,0,0,false)).2.2.1∈s.1
    ·exact hh
    ·exact absurd ⟨e1,e2,hh⟩ hc
   obtain ⟨b,hb,hbe⟩:=List.mem_iff_getElem.1 hin
   refine ⟨b,s.2[b]'(by rw [h.len]; exact hb),by rw [← hbe]; exact List.getElem?_eq_getElem hb,List.getElem?_eq_getElem _,h.top w h.at2 _ (List.getElem_mem _)⟩
  ·exact h.row j (by omega) e1 e2
theorem BJ.all {i:Nat} {p:Int} {w:List Int} {s:PW} (h:BJ are g from0 i p w 0 s):BJ are g from0 i p w g.2.length ((List.range g.2.length).foldl (bStep are g p w) s):=by
 have:∀ k,k≤g.2.length→BJ are g from0 i p w k ((List.range k).foldl (bStep are g p w) s):=by
  intro k
  induction k with
  | zero=>intro _; exact h
  | succ k ih =>
   intro hk
   rw [List.range_succ,List.foldl_append]
   exact (ih (by omega)).step hg (by omega)
 exact this _ (Nat.le_refl _)
theorem BI.row {i:Nat} {s:PW} (h:BI are g from0 i s) (hi:i<s.1.length):BI are g from0 (i+1) (bRow are g s i)∧(∀ (j:Nat) (q:Int),s.1[j]?=some q→(bRow are g s i).1[j]?=some q)∧∀ (j:Nat) (u:List Int),s.2[j]?=some u→(bRow are g s i).2[j]?=some u:=by
 have hi2:i<s.2.length:=by rw [h.len]; exact hi
 have a1:s.1[i]?=some (s.1.getD i 0):=by rw [getD_of (List.getElem?_eq_getElem hi)]; exact List.getElem?_eq_getElem hi
 have a2:s.2[i]?=some (s.2.getD i []):=by rw [getD_of (List.getElem?_eq_getElem hi2)]; exact List.getElem?_eq_getElem hi2
 have hJ:BJ are g from0 i (s.1.getD i 0) (s.2.getD i []) 0 s:=⟨h,a1,a2,fun j hj=>absurd hj (Nat.not_lt_zero j)⟩
 have hA:BJ are g from0 i (s.1.getD i 0) (s.2.getD i []) g.2.length (bRow are g s i):=hJ.all hg
 have keep:∀ (L:List Nat) (s:PW) (p:Int) (w:List Int),(∀ (j:Nat) (q:Int),s.1[j]?=some q→(L.foldl (bStep are g p w) s).1[j]?=some q)∧∀ (j:Nat) (u:List Int),s.2[j]?=some u→(L.foldl (bStep are g p w) s).2[j]?=some u:=by
  intro L
  induction L with
  | nil=>intro s p w; exact ⟨fun _ _ h=>h,fun _ _ h=>h⟩
  | cons k L ih =>
   intro s p w
   rw [List.foldl_cons]
   have hs:(∀ (j:Nat) (q:Int),s.1[j]?=some q→(bStep are g p w s k).1[j]?=some q)∧∀ (j:Nat) (u:List Int),s.2[j]?=some u→(bStep are g p w s k).2[j]?=some u:=by
    unfold bStep
    split
    ·exact ⟨fun _ _ h=>app_old h,fun _ _ h=>app_old h⟩
    ·exact ⟨fun _ _ h=>h,fun _ _ h=>h⟩
   obtain ⟨i1,i2⟩:=ih (bStep are g p w s k) p w
   exact ⟨fun j q h=>i1 j q (hs.1 j q h),fun j u h=>i2 j u (hs.2 j u h)⟩
 refine ⟨⟨hA.len,hA.hd,hA.nd,hA.inN,hA.way,hA.ind,hA.mono,fun u hu v hv=>?_,fun a q u ha h1 h2 m hm e1 e2=>?_⟩,(keep _ _ _ _).1,(keep _ _ _ _).2⟩
 ·have:=hA.mono i (i+1) _ u (by omega) hA.at2 hu
  have:=hA.top _ hA.at2 v hv
  omega
 ·by_cases e:a=i
  ·subst e
   rw [hA.at1] at h1; injection h1 with h1
   rw [hA.at2] at h2; injection h2 with h2
   subst h1; subst h2
   obtain ⟨j,hj,rfl⟩:=List.mem_iff_getElem.1 hm
   have ej:g.2.getD j (0,0,0,false)=g.2[j]:=getD_of (List.getElem?_eq_getElem hj)
   have:=hA.row j hj (by rw [ej]; exact e1) (by rw [ej]; exact e2)
   rw [ej] at this
   exact this
  ·exact hA.cl a q u (by omega) h1 h2 m hm e1 e2
theorem BI.len_le {i:Nat} {s:PW} (h:BI are g from0 i s):s.1.length≤g.1.toNat:=by
 have:s.1.length≤((List.range g.1.toNat).map fun n:Nat=>(n:Int)).length:=nodup_le h.nd fun a ha=>by
  have:=h.inN a ha
  exact List.mem_map.2 ⟨a.toNat,List.mem_range.2 (by omega),by omega⟩
 simpa using this
theorem BI.run:∀ (n i:Nat) (s:PW),BI are g from0 i s→g.1.toNat<i+n→∃ j,BI are g from0 j (bfs are g n i s)∧(bfs are g n i s).1.length≤j∧(∀ (j:Nat) (q:Int),s.1[j]?=some q→(bfs are g n i s).1[j]?=some q)∧∀ (j:Nat) (u:List Int),s.2[j]?=some u→(bfs are g n i s).2[j]?=some u
 | 0,i,s,h,hn=>⟨i,h,by have:=h.len_le hg; unfold bfs; omega,fun _ _ h=>h,fun _ _ h=>h⟩
 | n+1,i,s,h,hn=>by
  unfold bfs
  by_cases hi:i<s.1.length
  ·rw [if_pos hi]
   obtain ⟨r1,r2,r3⟩:=h.row hg hi
   obtain ⟨j,j1,j2,j3,j4⟩:=BI.run n (i+1) _ r1 (by omega)
   exact ⟨j,j1,j2,fun k q hq=>j3 k q (r2 k q hq),fun k u hu=>j4 k u (r3 k u hu)⟩
  ·rw [if_neg hi]
   exact ⟨i,h,by omega,fun _ _ h=>h,fun _ _ h=>h⟩
end
def srch (are:Mv→Bool) (g:Gr) (from0:Int):PW:=bfs are g 9 0 ([from0],[[]])
theorem srch_ok {are:Mv→Bool} {g:Gr} (hg:GOK g) {from0:Int} (hf:0≤from0∧from0<g.1):∃ j,BI are g from0 j (srch are g from0)∧(srch are g from0).1.length≤j:=by
 obtain ⟨j,j1,j2,_⟩:=BI.run hg (are:=are) 9 0 _ (BI.start hf) (by have:=hg.hi; omega)
 exact ⟨j,j1,j2⟩
def rch (are:Mv→Bool) (g:Gr) (p q:Int):Prop:=q∈(srch are g p).1
instance (are:Mv→Bool) (g:Gr) (p q:Int):Decidable (rch are g p q):=inferInstanceAs (Decidable (q∈(srch are g p).1))
section
variable {are:Mv→Bool} {g:Gr} (hg:GOK g) {p:Int} (hp:0≤p∧p<g.1)
include hg hp
theorem rch_refl:rch are g p p:=by
 obtain ⟨j,h,_⟩:=srch_ok (are:=are) hg hp
 exact List.mem_of_getElem? h.hd.1
theorem rch_in {q:Int} (h:rch are g p q):0≤q∧q<g.1:=by
 obtain ⟨j,hB,_⟩:=srch_ok (are:=are) hg hp
 exact hB.inN q h
theorem rch_step {m:Mv} (hm:m∈g.2) (h:rch are g p m.1) (ha:are m=true):rch are g p m.2.2.1:=by
 obtain ⟨j,hB,hj⟩:=srch_ok (are:=are) hg hp
 obtain ⟨a,ha1,ha2⟩:=List.mem_iff_getElem.1 h
 have ha3:a<(srch are g p).2.length:=by rw [hB.len]; exact ha1
 obtain ⟨b,v,b1,_,_⟩:=hB.cl a m.1 _ (by omega) (by rw [← ha2]; exact List.getElem?_eq_getElem ha1) (List.getElem?_eq_getElem ha3) m hm rfl ha
 exact List.mem_of_getElem? b1
theorem rch_ind {S:Int→Prop} (h0:S p) (hs:∀ m∈g.2,S m.1→are m=true→S m.2.2.1) {q:Int} (h:rch are g p q):S q:=by
 obtain ⟨j,hB,_⟩:=srch_ok (are:=are) hg hp
 exact hB.ind S h0 hs q h
theorem rch_trans {q r:Int} (h1:rch are g p q) (h2:rch are g q r):rch are g p r :=
 rch_ind hg (rch_in hg hp h1) (S:=fun x=>rch are g p x) h1 (fun m hm hr ha=>rch_step hg hp hm hr ha) h2
end
theorem rch_mono {are are':Mv→Bool} {g:Gr} (hg:GOK g) {p:Int} (hp:0≤p∧p<g.1) (h:∀ m∈g.2,are m=true→are' m=true) {q:Int} (hq:rch are g p q):rch are' g p q :=
 rch_ind hg hp (S:=fun x=>rch are' g p x) (rch_refl hg hp) (fun m hm hr ha=>rch_step hg hp hm hr (h m hm ha)) hq
end Go.Proofs.Yteclokkdgmacpaa
