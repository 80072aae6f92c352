/-
 Layer 7,pure: graphs that are valid; paths.
-/
import Derived.Test.YteclokkdgmacpaaGrp
import Derived.Test.YteclokkdgmacpaaGn
namespace Go.Proofs.Yteclokkdgmacpaa
open Go.RowKit
set_option linter.unusedVariables false
set_option linter.unusedSimpArgs false
set_option linter.unusedSectionVars false
set_option maxRecDepth 10000
abbrev Mv:=Int×Int×Int×Bool
abbrev Gr:=Int×List Mv
structure okZ (g:Gr):Prop where
 few:few g.2
 inK:∀ m∈g.2,InK .i64 m.1∧InK .i64 m.2.1∧InK .i64 m.2.2.1
def isB (x n:Int):Bool:=decide (0≤x) && decide (x < n)
theorem isB_iff {x n:Int}:isB x n=true↔0≤x∧x < n:=by unfold isB; simp
def okM (n:Int) (m:Mv):Bool:=isB m.1 n && isB m.2.2.1 n && isB m.2.1 3
def okG (g:Gr):Bool:=decide (1≤g.1) && decide (g.1≤8) && decide (g.2.length≤20) && g.2.all (okM g.1) && decide g.2.Nodup
structure GOK (g:Gr):Prop where
 lo:1≤g.1
 hi:g.1≤8
 len:g.2.length≤20
 mv:∀ m∈g.2,(0≤m.1∧m.1 < g.1)∧(0≤m.2.2.1∧m.2.2.1 < g.1)∧(0≤m.2.1∧m.2.1 < 3)
 nd:g.2.Nodup
theorem okG_iff {g:Gr}:okG g=true↔GOK g:=by
 unfold okG okM
 simp only [Bool.and_eq_true,decide_eq_true_eq,List.all_eq_true,isB_iff]
 constructor
 ·rintro ⟨⟨⟨⟨h1,h2⟩,h3⟩,h4⟩,h5⟩
  exact ⟨h1,h2,h3,fun m hm=>⟨(h4 m hm).1.1,(h4 m hm).1.2,(h4 m hm).2⟩,h5⟩
 ·rintro ⟨h1,h2,h3,h4,h5⟩
  exact ⟨⟨⟨⟨h1,h2⟩,h3⟩,fun m hm=>⟨⟨(h4 m hm).1,(h4 m hm).2.1⟩,(h4 m hm).2.2⟩⟩,h5⟩
theorem isBelow_eq (x n:Int):progress_isBelow x n=some (isB x n):=by
 unfold progress_isBelow isB
 by_cases h:0≤x
 ·rw [if_pos (by simpa using h),decide_eq_true h]; rfl
 ·rw [if_neg (by simpa using h),decide_eq_false h]; rfl
theorem isThread_eq (x:Int):progress_isThread x=some (isB x 3):=by unfold progress_isThread; rw [isBelow_eq]; rfl
theorem rIsPlace_eq (g:Gr) (x:Int):linealref07_IsPlace g x=some (isB x g.1):=isBelow_eq x g.1
theorem rIsThread_eq (x:Int):linealref07_IsThread x=some (isB x 3):=isBelow_eq x 3
theorem rIsMove_eq (g:Gr) (x:Int):linealref07_IsMove g x=some (isB x (g.2.length:Int)):=isBelow_eq x g.2.length
theorem Contains_eq (s:List Mv) (v:Mv) (hf:few s) (hs:∀ m∈s,InK .i64 m.1∧InK .i64 m.2.1∧InK .i64 m.2.2.1) (hv:InK .i64 v.1∧InK .i64 v.2.1∧InK .i64 v.2.2.1):slices_Contains s v=some (decide (v∈s)):=by
 have key:=whileO_first (body:=slices_Index_b1 s v) s (fun m=>decide (v=m)) (fun k x hk=>by
  obtain ⟨hlt,hin⟩:=few_in hf hk
  have hx:=hs x (List.mem_of_getElem? hk)
  unfold slices_Index_b1
  simp only [Int.toNat_natCast,getD_of hk]
  rw [if_pos (by rw [decide_eq_true_eq]; omega),ck_pos (by omega),ck_pos (by omega),ck_pos hv.1,ck_pos hv.2.1,ck_pos hv.2.2,ck_pos hx.1,ck_pos hx.2.1,ck_pos hx.2.2,ck_pos hin]
  split <;> rfl) (by
  unfold slices_Index_b1
  rw [if_neg (by simp)])
 unfold slices_Contains slices_Index
 rw [key]
 cases hc:s.findIdx? (fun m=>decide (v=m)) with
 | none =>
  rw [List.findIdx?_eq_none_iff] at hc
  have:v ∉ s:=fun h=>by have:=hc v h; simp at this
  simp [slices_Index_k1,this]
 | some k =>
  rw [List.findIdx?_eq_some_iff_getElem] at hc
  obtain ⟨h1,h2,_⟩:=hc
  have:v∈s:=by
   have:=of_decide_eq_true h2
   rw [this]; exact List.getElem_mem h1
  simp [this]
theorem Contains2_eq (s:List Int) (v:Int) (hf:few s):slices_Contains_2 s v=some (decide (v∈s)):=by
 have key:=whileO_first (body:=slices_Index_2_b1 s v) s (fun m=>decide (v=m)) (fun k x hk=>by
  obtain ⟨hlt,hin⟩:=few_in hf hk
  unfold slices_Index_2_b1
  simp only [Int.toNat_natCast,getD_of hk]
  rw [if_pos (by rw [decide_eq_true_eq]; omega),ck_pos (by omega),ck_pos (by omega),ck_pos hin]
  split <;> rfl) (by
  unfold slices_Index_2_b1
  rw [if_neg (by simp)])
 unfold slices_Contains_2 slices_Index_2
 rw [key]
 cases hc:s.findIdx? (fun m=>decide (v=m)) with
 | none =>
  rw [List.findIdx?_eq_none_iff] at hc
  have:v ∉ s:=fun h=>by have:=hc v h; simp at this
  simp [slices_Index_2_k1,this]
 | some k =>
  rw [List.findIdx?_eq_some_iff_getElem] at hc
  obtain ⟨h1,h2,_⟩:=hc
  have:v∈s:=by
   have:=of_decide_eq_true h2
   rw [this]; exact List.getElem_mem h1
  simp [this]
theorem all_front {p:Mv→Bool} (ms:List Mv):((List.range ms.length).all fun k=>p (ms.getD k (0,0,0,false)) && !decide (ms.getD k (0,0,0,false)∈ms.take k))=(ms.all p && decide ms.Nodup):=by
 induction ms using snoc_ind with
 | h0=>rfl
 | h1 ms m ih =>
  rw [List.length_append,List.length_singleton,List.range_succ,List.all_append]
  have e1:((List.range ms.length).all fun k=>p ((ms ++ [m]).getD k (0,0,0,false)) && !decide ((ms ++ [m]).getD k (0,0,0,false)∈(ms ++ [m]).take k))=(List.range ms.length).all fun k=>p (ms.getD k (0,0,0,false)) && !decide (ms.getD k (0,0,0,false)∈ms.take k):=by
   rw [Bool.eq_iff_iff,List.all_eq_true,List.all_eq_true]
   have key:∀ k,k∈List.range ms.length→(ms ++ [m]).getD k (0,0,0,false)=ms.getD k (0,0,0,false)∧(ms ++ [m]).take k=ms.take k:=fun k hk=>by
    have hk:=List.mem_range.1 hk
    refine ⟨?_,List.take_append_of_le_length (by omega)⟩
    simp [List.getD,List.getElem?_append_left hk]
   constructor
   ·intro h k hk
    have:=h k hk
    rwa [(key k hk).1,(key k hk).2] at this
   ·intro h k hk
    rw [(key k hk).1,(key k hk).2]
    exact h k hk
  rw [e1,ih]
  have e2:(ms ++ [m]).getD ms.length (0,0,0,false)=m:=by simp [List.getD]
  have e3:(ms ++ [m]).take ms.length=ms:=by simp
  have e4:decide (ms ++ [m]).Nodup=(decide ms.Nodup && !decide (m∈ms)):=by
   rw [Bool.eq_iff_iff]
   simp only [decide_eq_true_eq,Bool.and_eq_true,Bool.not_eq_true',decide_eq_false_iff_not]
   rw [List.nodup_append]
   constructor
   ·rintro ⟨h1,_,h3⟩
    exact ⟨h1,fun hm=>h3 m hm m (by simp) rfl⟩
   ·rintro ⟨h1,h2⟩
    exact ⟨h1,by simp,fun a ha b hb=>by
     rw [List.mem_singleton] at hb; subst hb
     rintro rfl; exact h2 ha⟩
  rw [e4,List.all_append]
  simp only [List.all_cons,List.all_nil,Bool.and_true,e2,e3]
  cases ms.all p <;> cases p m <;> cases decide ms.Nodup <;> cases decide (m∈ms) <;> rfl
theorem okG_parts (g:Gr):okG g=(decide (1≤g.1) && decide (g.1≤8) && decide (g.2.length≤20) && (List.range g.2.length).all fun k=>okM g.1 (g.2.getD k (0,0,0,false)) && !decide (g.2.getD k (0,0,0,false)∈g.2.take k)):=by
 unfold okG
 rw [all_front,Bool.and_assoc (b:=g.2.all (okM g.1))]
theorem range_at {n k j:Nat} (hk:(List.range n)[k]?=some j):k < n∧j=k:=by
 obtain ⟨h1,h2⟩:=List.getElem?_eq_some_iff.1 hk
 rw [List.length_range] at h1
 rw [List.getElem_range] at h2
 exact ⟨h1,h2.symm⟩
theorem take_few {α:Type} {xs:List α} (h:few xs) (k:Nat):few (xs.take k):=by
 unfold few at *
 rw [List.length_take]; omega
theorem Valid_loop (g:Gr) (hz:okZ g):whileO (progress_Valid_b1 g) 0=some (if ((List.range g.2.length).all fun k=>okM g.1 (g.2.getD k (0,0,0,false)) && !decide (g.2.getD k (0,0,0,false)∈g.2.take k))=true then .inr () else .inl ()):=by
 refine whileO_all (List.range g.2.length) (fun k=>okM g.1 (g.2.getD k (0,0,0,false)) && !decide (g.2.getD k (0,0,0,false)∈g.2.take k)) (fun k j hk=>?_) ?_
 ·obtain ⟨hlt,rfl⟩:=range_at hk
  have hm:g.2.getD j (0,0,0,false)∈g.2:=getD_in hlt
  have hf:=hz.few
  unfold few at hf
  have hc:=Contains_eq (g.2.take j) (g.2.getD j (0,0,0,false)) (take_few hz.few j) (fun m hm=>hz.inK m (List.mem_of_mem_take hm)) (hz.inK _ hm)
  unfold progress_Valid_b1 okM
  simp only [Int.toNat_natCast]
  rw [if_pos (by rw [decide_eq_true_eq]; omega),ck_pos (by omega),ck_pos (by omega),isBelow_eq,Option.bind_some]
  cases h1:isB (g.2.getD j (0,0,0,false)).1 g.1 with
  | false=>simp
  | true =>
   rw [if_neg (by simp),isBelow_eq,Option.bind_some]
   cases h2:isB (g.2.getD j (0,0,0,false)).2.2.1 g.1 with
   | false=>simp
   | true =>
    rw [if_neg (by simp),isThread_eq,Option.bind_some]
    cases h3:isB (g.2.getD j (0,0,0,false)).2.1 3 with
    | false=>simp
    | true =>
     rw [if_neg (by simp),ck_pos (by omega),ck_pos (by omega),hc,Option.bind_some,ck_pos (by rw [inK_i64]; omega)]
     cases decide (g.2.getD j (0,0,0,false)∈g.2.take j) <;> rfl
 ·rw [List.length_range]
  unfold progress_Valid_b1
  rw [if_neg (by simp)]
theorem Valid_eq (g:Gr) (hz:okZ g):progress_Valid g=some (okG g):=by
 unfold progress_Valid
 rw [okG_parts]
 by_cases h1:g.1 < 1
 ·rw [if_pos (by simpa using h1),decide_eq_false (p:=1≤g.1) (by omega)]; rfl
 rw [if_neg (by simpa using h1)]
 by_cases h2:8 < g.1
 ·rw [if_pos (by simpa using h2),decide_eq_false (p:=g.1≤8) (by omega),Bool.and_false]; rfl
 rw [if_neg (by simpa using h2)]
 by_cases h3:20 < (g.2.length:Int)
 ·rw [if_pos (by simpa using h3),decide_eq_false (p:=g.2.length≤20) (by omega),Bool.and_false]; rfl
 rw [if_neg (by simpa using h3),decide_eq_true (p:=1≤g.1) (by omega),decide_eq_true (p:=g.1≤8) (by omega),decide_eq_true (p:=g.2.length≤20) (by omega),Valid_loop g hz,Option.bind_some]
 cases (List.range g.2.length).all fun k=>okM g.1 (g.2.getD k (0,0,0,false)) && !decide (g.2.getD k (0,0,0,false)∈g.2.take k) <;> rfl
theorem rValid_loop (g:Gr) (hz:okZ g):whileO (linealref07_Valid_b1 g) 0=some (if ((List.range g.2.length).all fun k=>okM g.1 (g.2.getD k (0,0,0,false)) && !decide (g.2.getD k (0,0,0,false)∈g.2.take k))=true then .inr () else .inl ()):=by
 refine whileO_all (List.range g.2.length) (fun k=>okM g.1 (g.2.getD k (0,0,0,false)) && !decide (g.2.getD k (0,0,0,false)∈g.2.take k)) (fun k j hk=>?_) ?_
 ·obtain ⟨hlt,rfl⟩:=range_at hk
  have hm:g.2.getD j (0,0,0,false)∈g.2:=getD_in hlt
  have hzm:=hz.inK _ hm
  have hf:=hz.few
  unfold few at hf
  have hin:=whileO_all (body:=linealref07_Valid_b2 g (j:Int)) (g.2.take j) (fun y=>!decide (g.2.getD j (0,0,0,false)=y)) (fun i y hy=>by
   have hlt2:=(List.getElem?_eq_some_iff.1 hy).1
   have hy1:=hz.inK y (List.mem_of_mem_take (List.mem_of_getElem? hy))
   rw [List.length_take] at hlt2
   unfold linealref07_Valid_b2
   simp only [Int.toNat_natCast,getD_of hy]
   rw [if_pos (by rw [decide_eq_true_eq,List.length_take]; omega),ck_pos (by omega),ck_pos (by rw [List.length_take]; omega),ck_pos hzm.1,ck_pos hzm.2.1,ck_pos hzm.2.2,ck_pos hy1.1,ck_pos hy1.2.1,ck_pos hy1.2.2,ck_pos (by rw [inK_i64]; omega)]
   cases decide (g.2.getD j (0,0,0,false)=y) <;> rfl) (by
   unfold linealref07_Valid_b2
   simp only [Int.toNat_natCast]
   rw [if_neg (by simp)])
  have e2:(g.2.take j).all (fun y=>!decide (g.2.getD j (0,0,0,false)=y))=!decide (g.2.getD j (0,0,0,false)∈g.2.take j):=by
   rw [Bool.eq_iff_iff,List.all_eq_true]
   simp only [Bool.not_eq_true',decide_eq_false_iff_not]
   constructor
   ·intro h hm; exact h _ hm rfl
   ·intro h y hy e; rw [e] at h; exact h hy
  rw [e2] at hin
  unfold linealref07_Valid_b1 okM
  simp only [Int.toNat_natCast]
  rw [if_pos (by rw [decide_eq_true_eq]; omega),ck_pos (by omega),ck_pos (by omega),rIsPlace_eq,Option.bind_some]
  cases h1:isB (g.2.getD j (0,0,0,false)).1 g.1 with
  | false=>simp
  | true =>
   rw [if_neg (by simp),rIsPlace_eq,Option.bind_some]
   cases h2:isB (g.2.getD j (0,0,0,false)).2.2.1 g.1 with
   | false=>simp
   | true =>
    rw [if_neg (by simp),rIsThread_eq,Option.bind_some]
    cases h3:isB (g.2.getD j (0,0,0,false)).2.1 3 with
    | false=>simp
    | true =>
     rw [if_neg (by simp),ck_pos (by omega),ck_pos (by omega),hin,Option.bind_some]
     unfold linealref07_Valid_k2
     rw [ck_pos (by rw [inK_i64]; omega)]
     cases decide (g.2.getD j (0,0,0,false)∈g.2.take j) <;> rfl
 ·rw [List.length_range]
  unfold linealref07_Valid_b1
  rw [if_neg (by simp)]
theorem rValid_eq (g:Gr) (hz:okZ g):linealref07_Valid g=some (okG g):=by
 unfold linealref07_Valid
 rw [okG_parts]
 by_cases h1:g.1 < 1
 ·rw [if_pos (by simpa using h1),decide_eq_false (p:=1≤g.1) (by omega)]; rfl
 rw [if_neg (by simpa using h1)]
 by_cases h2:8 < g.1
 ·rw [if_pos (by simpa using h2),decide_eq_false (p:=g.1≤8) (by omega),Bool.and_false]; rfl
 rw [if_neg (by simpa using h2)]
 by_cases h3:20 < (g.2.length:Int)
 ·rw [if_pos (by simpa using h3),decide_eq_false (p:=g.2.length≤20) (by omega),Bool.and_false]; rfl
 rw [if_neg (by simpa using h3),decide_eq_true (p:=1≤g.1) (by omega),decide_eq_true (p:=g.1≤8) (by omega),decide_eq_true (p:=g.2.length≤20) (by omega),rValid_loop g hz,Option.bind_some]
 cases (List.range g.2.length).all fun k=>okM g.1 (g.2.getD k (0,0,0,false)) && !decide (g.2.getD k (0,0,0,false)∈g.2.take k) <;> rfl
theorem graphOf_eq (g:Gr) (hz:okZ g):progress_graphOf g=some (if okG g=true then (g.1,g.2,0) else (0,[],70)):=by
 unfold progress_graphOf
 rw [Valid_eq g hz,Option.bind_some]
 cases okG g <;> rfl
/-! ### Paths -/
def leadL (g:Gr):Int→List Int→Option Int
 | at0,[]=>some at0
 | at0,i :: r=>if isB i (g.2.length:Int)=true∧(g.2.getD i.toNat (0,0,0,false)).1=at0 then leadL g (g.2.getD i.toNat (0,0,0,false)).2.2.1 r else none
theorem leads_eq (g:Gr) (at0:Int) (l:List Int):progress_graph_leads g at0 l=some (if l.length≤1000 then (match leadL g at0 l with | some p=>(p,true) | none=>(0,false)) else (0,false)):=by
 unfold progress_graph_leads
 by_cases hl:l.length≤1000
 ·rw [if_neg (by rw [decide_eq_true_eq]; omega),if_pos hl]
  have:∀ (d k:Nat) (p:Int),l.length - k=d→k≤l.length→whileN (progress_graph_leads_b1 g l) (d + 1) (p,(k:Int))=some (match leadL g p (l.drop k) with | some q=>.inr q | none=>.inl ()):=by
   intro d
   induction d with
   | zero =>
    intro k p h1 h2
    have:k=l.length:=by omega
    subst this
    rw [List.drop_length]
    unfold whileN progress_graph_leads_b1
    rw [if_neg (by simp)]
    rfl
   | succ d ih =>
    intro k p h1 h2
    have hlt:k < l.length:=by omega
    have hg:l.getD k 0=l[k]:=getD_of (List.getElem?_eq_getElem hlt)
    unfold whileN progress_graph_leads_b1
    simp only [Int.toNat_natCast,hg]
    rw [if_pos (by rw [decide_eq_true_eq]; omega),ck_pos (by omega),ck_pos (by omega),isBelow_eq,Option.bind_some,List.drop_eq_getElem_cons hlt]
    unfold leadL
    cases hb:isB l[k] (g.2.length:Int) with
    | false=>simp
    | true =>
     have hb':=isB_iff.1 hb
     rw [if_neg (by simp),ck_pos (by omega),ck_pos (by omega)]
     by_cases e:(g.2.getD l[k].toNat (0,0,0,false)).1=p
     ·rw [if_neg (by simpa using e),ck_pos (by omega),ck_pos (by omega),ck_pos (by rw [inK_i64]; omega),if_pos ⟨rfl,e⟩]
      simp only
      have e1:((k:Int) + 1)=((k + 1:Nat):Int):=by omega
      rw [e1]
      exact ih (k + 1) _ (by omega) (by omega)
     ·rw [if_pos (by simpa using e),if_neg (fun h=>e h.2)]
  have h0:=this l.length 0 at0 (by omega) (by omega)
  rw [List.drop_zero] at h0
  have h1:whileO (progress_graph_leads_b1 g l) (at0,0)=_:=whileO_of h0
  rw [h1,Option.bind_some]
  cases leadL g at0 l <;> rfl
 ·rw [if_pos (by rw [decide_eq_true_eq]; omega),if_neg hl]
def isPth (g:Gr):List Int→Bool
 | []=>true
 | i :: r=>isB i (g.2.length:Int) && (leadL g (g.2.getD i.toNat (0,0,0,false)).1 (i :: r)).isSome
theorem isPth_cons (g:Gr) (i:Int) (r:List Int):isPth g (i :: r)=(isB i (g.2.length:Int) && (leadL g (g.2.getD i.toNat (0,0,0,false)).1 (i :: r)).isSome):=rfl
def isPath (g:Gr) (l:List Int):Bool:=decide (l.length≤1000) && isPth g l
def stepOK (g:Gr) (l:List Int) (k:Nat):Bool:=isB (l.getD k 0) (g.2.length:Int) && (decide (k=0) || decide ((g.2.getD (l.getD (k - 1) 0).toNat (0,0,0,false)).2.2.1=(g.2.getD (l.getD k 0).toNat (0,0,0,false)).1))
theorem step_all (g:Gr):∀ (r:List Int) (p:Int),(leadL g p r).isSome=true↔(∀ k,k < r.length→isB (r.getD k 0) (g.2.length:Int)=true)∧(∀ i,r.head?=some i→(g.2.getD i.toNat (0,0,0,false)).1=p)∧∀ k,k + 1 < r.length→(g.2.getD (r.getD k 0).toNat (0,0,0,false)).2.2.1=(g.2.getD (r.getD (k + 1) 0).toNat (0,0,0,false)).1
 | [],p=>by simp [leadL]
 | i :: r,p=>by
  unfold leadL
  by_cases h:isB i (g.2.length:Int)=true∧(g.2.getD i.toNat (0,0,0,false)).1=p
  ·rw [if_pos h,step_all g r]
   constructor
   ·rintro ⟨h1,h2,h3⟩
    refine ⟨fun k hk=>?_,fun j hj=>?_,fun k hk=>?_⟩
    ·cases k with
     | zero=>exact h.1
     | succ k=>exact h1 k (by simpa using hk)
    ·simp at hj; subst hj; exact h.2
    ·cases k with
     | zero =>
      cases r with
      | nil=>simp at hk
      | cons j r=>exact (h2 j rfl).symm
     | succ k=>exact h3 k (by simpa using hk)
   ·rintro ⟨h1,h2,h3⟩
    refine ⟨fun k hk=>h1 (k + 1) (by simpa using hk),fun j hj=>?_,fun k hk=>h3 (k + 1) (by simpa using hk)⟩
    cases r with
    | nil=>simp at hj
    | cons j' r =>
     simp at hj; subst hj
     exact (h3 0 (by simp)).symm
  ·rw [if_neg h]
   constructor
   ·intro hh; cases hh
   ·rintro ⟨h1,h2,_⟩
    exact absurd ⟨h1 0 (by simp),h2 i rfl⟩ h
theorem isPth_iff (g:Gr) (l:List Int):isPth g l=(List.range l.length).all (stepOK g l):=by
 rw [Bool.eq_iff_iff,List.all_eq_true]
 unfold stepOK
 cases l with
 | nil=>simp [isPth]
 | cons i r =>
  rw [isPth_cons,Bool.and_eq_true,step_all]
  simp only [Bool.and_eq_true,Bool.or_eq_true,decide_eq_true_eq,List.mem_range]
  constructor
  ·rintro ⟨h0,h1,h2,h3⟩ k hk
   refine ⟨h1 k hk,?_⟩
   cases k with
   | zero=>exact .inl rfl
   | succ k=>exact .inr (h3 k hk)
  ·intro h
   refine ⟨(h 0 (by simp)).1,fun k hk=>(h k hk).1,fun j hj=>by simp at hj; subst hj; rfl,fun k hk=>?_⟩
   rcases (h (k + 1) hk).2 with e | e
   ·omega
   ·exact e
theorem risPath_eq (g:Gr) (l:List Int):linealref07_isPath g l=some (isPath g l):=by
 unfold linealref07_isPath isPath
 by_cases hl:l.length≤1000
 ·rw [if_neg (by rw [decide_eq_true_eq]; omega),decide_eq_true hl,Bool.true_and,isPth_iff]
  have key:=scan1 (List.range l.length) (body:=linealref07_isPath_b1 g l) (fun k=>∀ j,j < k→stepOK g l j=true) (fun r=>r=(if (List.range l.length).all (stepOK g l)=true then Sum.inr () else Sum.inl ())) (fun j hj=>absurd hj (Nat.not_lt_zero j)) (fun k j hk hI=>by
   obtain ⟨hlt,rfl⟩:=range_at hk
   have kin:InK .i64 ((j:Int) + 1):=by rw [inK_i64]; omega
   have ext:stepOK g l j=true→∀ i,i < j + 1→stepOK g l i=true:=fun h i hi=>by
    by_cases e:i=j
    ·subst e; exact h
    ·exact hI i (by omega)
   have bad:stepOK g l j=false→(Sum.inl ():Sum Unit Unit)=(if (List.range l.length).all (stepOK g l)=true then Sum.inr () else Sum.inl ()):=fun h=>by
    rw [if_neg]
    intro hh
    have:=List.all_eq_true.1 hh j (List.mem_range.2 hlt)
    rw [h] at this; cases this
   unfold linealref07_isPath_b1
   simp only [Int.toNat_natCast]
   rw [if_pos (by rw [decide_eq_true_eq]; omega),ck_pos (by omega),ck_pos (by omega),rIsMove_eq,Option.bind_some]
   cases hb:isB (l.getD j 0) (g.2.length:Int) with
   | false =>
    right
    exact ⟨_,by rw [if_pos (by simp)],bad (by unfold stepOK; rw [hb]; rfl)⟩
   | true =>
    have hb':=isB_iff.1 hb
    rw [if_neg (by simp)]
    by_cases h0:j=0
    ·left
     subst h0
     rw [if_neg (by simp),ck_pos kin]
     exact ⟨rfl,ext (by unfold stepOK; rw [hb]; rfl)⟩
    ·have hp:isB (l.getD (j - 1) 0) (g.2.length:Int)=true:=by
      have:=hI (j - 1) (by omega)
      unfold stepOK at this
      rw [Bool.and_eq_true] at this
      exact this.1
     have hp':=isB_iff.1 hp
     have e1:((j:Int) - 1).toNat=j - 1:=by omega
     rw [if_pos (by rw [decide_eq_true_eq]; omega),ck_pos (by rw [inK_i64]; omega),ck_pos (by omega),ck_pos (by omega),e1,ck_pos (by omega),ck_pos (by omega),ck_pos (by omega),ck_pos (by omega),ck_pos kin]
     by_cases e:(g.2.getD (l.getD (j - 1) 0).toNat (0,0,0,false)).2.2.1=(g.2.getD (l.getD j 0).toNat (0,0,0,false)).1
     ·left
      rw [if_neg (by simpa using e)]
      exact ⟨rfl,ext (by unfold stepOK; rw [hb,decide_eq_false h0,decide_eq_true e]; rfl)⟩
     ·right
      exact ⟨_,by rw [if_pos (by simpa using e)],bad (by unfold stepOK; rw [hb,decide_eq_false h0,decide_eq_false e]; rfl)⟩) (fun hI=>⟨_,by
   rw [List.length_range]
   unfold linealref07_isPath_b1
   rw [if_neg (by simp)],by
   rw [if_pos]
   rw [List.all_eq_true]
   intro j hj
   rw [List.length_range] at hI
   exact hI j (List.mem_range.1 hj)⟩)
  obtain ⟨r,k1,k2⟩:=key
  subst k2
  rw [k1,Option.bind_some]
  cases (List.range l.length).all (stepOK g l) <;> rfl
 ·rw [if_pos (by rw [decide_eq_true_eq]; omega),decide_eq_false hl]; rfl
end Go.Proofs.Yteclokkdgmacpaa
