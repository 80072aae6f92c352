import Derived.Test.YteclokkdgmacpaaU12
import Derived.Test.YteclokkdgmacpaaU8
namespace Go.Proofs.Yteclokkdgmacpaa
open Go.RowKit
set_option linter.unusedVariables false
set_option linter.unusedSimpArgs false
set_option linter.unusedSectionVars false
set_option maxRecDepth 10000
abbrev mvAt (g:Gr) (i:Int):Mv:=g.2.getD i.toNat (0,0,0,false)
def goesL (C:Clm) (g:Gr) (l:List Int):Bool:=l.all fun i=>C.goes (mvAt g i)
def cntL (C:Clm) (g:Gr) (l:List Int):Bool:=l.any fun i=>C.cnt (mvAt g i)
def lasB (C:Clm) (g:Gr) (path circle:List Int):Option Int→Bool
 | none=>false
 | some b=>decide (leadL g b circle=some b)&&goesL C g circle&&cntL C g circle
def refB (C:Clm) (g:Gr) (path circle:List Int):Bool:=decide (path.length≤1000)&&decide (circle.length≤1000)&&lasB C g path circle (leadL g 0 path)
theorem refB_iff {C:Clm} {g:Gr} {path circle:List Int}:refB C g path circle=true↔path.length≤1000∧circle.length≤1000∧∃ b,leadL g 0 path=some b∧leadL g b circle=some b∧(∀ i∈circle,C.goes (mvAt g i)=true)∧∃ i∈circle,C.cnt (mvAt g i)=true:=by
 unfold refB
 rw [Bool.and_eq_true,Bool.and_eq_true,decide_eq_true_iff,decide_eq_true_iff,and_assoc]
 refine and_congr_right fun _=>and_congr_right fun _=>?_
 cases h:leadL g 0 path with
 | none=>exact ⟨fun hh=>(by cases hh),fun ⟨b,h1,_⟩=>(by cases h1)⟩
 | some b =>
  unfold lasB goesL cntL
  rw [Bool.and_eq_true,Bool.and_eq_true,decide_eq_true_iff,List.all_eq_true,List.any_eq_true]
  constructor
  ·rintro ⟨⟨h1,h2⟩,h3⟩
   exact ⟨b,rfl,h1,h2,h3⟩
  ·rintro ⟨b',h0,h1,h2,h3⟩
   injection h0 with h0
   subst h0
   exact ⟨⟨h1,h2⟩,h3⟩
theorem mvAt_in {g:Gr} {i:Int} (h:isB i (g.2.length:Int)=true):mvAt g i∈g.2:=getD_in (by have:=isB_iff.1 h; omega)
theorem lead_rch {are:Mv→Bool} {g:Gr} (hg:GOK g):∀ (l:List Int) (p q:Int),0≤p∧p<g.1→leadL g p l=some q→(∀ i∈l,are (mvAt g i)=true)→rch are g p q
 | [],p,q,hp,h,_=>by injection h with h; subst h; exact rch_refl hg hp
 | i::l,p,q,hp,h,ha=>by
  rw [leadL_cons] at h
  split at h
  ·rename_i hc
   have hm:=mvAt_in hc.1
   have ht:=mv_to hg hm
   refine rch_trans hg hp ?_ (lead_rch hg l _ q ht h fun j hj=>ha j (by simp [hj]))
   exact rch_step hg hp hm (by show rch are g p (g.2.getD i.toNat (0,0,0,false)).1; rw [hc.2]; exact rch_refl hg hp) (ha i (by simp))
  ·cases h
theorem refB_bad {C:Clm} {g:Gr} (hg:GOK g) {path circle:List Int} (h:refB C g path circle=true):Bad C g:=by
 obtain ⟨_,_,b,h1,h2,h3,i,hi,h4⟩:=refB_iff.1 h
 obtain ⟨u,v,e⟩:=List.append_of_mem hi
 subst e
 have hb:R0 g b:=lead_rch hg path 0 b (zero_in hg) h1 (fun _ _=>rfl)
 have hbi:=rch_in hg (zero_in hg) (are:=any) hb
 rw [leadL_append,Option.bind_eq_some_iff] at h2
 obtain ⟨p,k1,k2⟩:=h2
 rw [leadL_cons] at k2
 split at k2
 ·rename_i hc
  have hm:=mvAt_in hc.1
  have hp:rch C.goes g b p:=lead_rch hg u b p hbi k1 fun j hj=>h3 j (by simp [hj])
  have hp0:R0 g p:=lead_rch hg (path++u) 0 p (zero_in hg) (by rw [leadL_append,h1]; exact k1) (fun _ _=>rfl)
  refine ⟨mvAt g i,hm,?_,h4,?_⟩
  ·show R0 g (g.2.getD i.toNat (0,0,0,false)).1
   rw [hc.2]; exact hp0
  ·show rch C.goes g _ (g.2.getD i.toNat (0,0,0,false)).1
   rw [hc.2]
   exact rch_trans hg (mv_to hg hm) (lead_rch hg v _ b (mv_to hg hm) k2 fun j hj=>h3 j (by simp [hj])) hp
 ·cases k2
theorem cont_any {α:Type} (xs:List α) (p:α→Bool):decide (0≤(match xs.findIdx? p with|some k=>(k:Int)|none=>-1))=xs.any p:=by
 cases h:xs.findIdx? p with
 | none =>
  have:xs.any p=false:=by
   rw [List.any_eq_false]
   intro x hx
   have:=List.findIdx?_eq_none_iff.1 h x hx
   simp [this]
  rw [this]; rfl
 | some k =>
  obtain ⟨k1,k2,_⟩:=List.findIdx?_eq_some_iff_getElem.1 h
  have:xs.any p=true:=List.any_eq_true.2 ⟨xs[k]'k1,List.getElem_mem k1,k2⟩
  rw [this]
  exact decide_eq_true (by simp only; omega)
theorem any_not {l:List Int} {p:Int→Bool}:(l.any fun i=>!p i)=!l.all p:=by
 rw [Bool.eq_iff_iff,Bool.not_eq_true',List.any_eq_true,List.all_eq_false]
 constructor
 ·rintro ⟨x,hx,h⟩; exact ⟨x,hx,by simpa using h⟩
 ·rintro ⟨x,hx,h⟩; exact ⟨x,hx,by simpa using h⟩
theorem lasso_gen {C:Clm} {g:Gr} (path circle:List Int) {c1 c2:Option Bool} (h:(∀ i∈circle,isB i (g.2.length:Int)=true)→circle.length≤1000→c1=some (!goesL C g circle)∧c2=some (cntL C g circle)) :
  ((progress_graph_leads g 0 path).bind fun v0=>if (!v0.2)=true then some false else
   (progress_graph_leads g v0.1 circle).bind fun v0_2=>if (!v0_2.2)=true then some false else
   if (!(decide (v0_2.1=v0.1)))=true then some false else
   c1.bind fun v0_3=>if (!v0_3)=true then c2.bind fun v0_4=>some v0_4 else some false)=some (refB C g path circle):=by
 unfold refB
 rw [leads_eq,Option.bind_some]
 by_cases l1:path.length≤1000
 ·rw [if_pos l1,decide_eq_true l1,Bool.true_and]
  cases e1:leadL g 0 path with
  | none =>
   simp only
   rw [if_pos (by simp)]
   unfold lasB; simp
  | some b =>
   simp only
   rw [if_neg (by simp),leads_eq,Option.bind_some]
   by_cases l2:circle.length≤1000
   ·rw [if_pos l2,decide_eq_true l2,Bool.true_and]
    unfold lasB
    simp only
    cases e2:leadL g b circle with
    | none =>
     simp only
     rw [if_pos (by simp),decide_eq_false (p:=(none:Option Int)=some b) (by simp)]
     rfl
    | some q =>
     simp only
     rw [if_neg (by simp)]
     by_cases e3:q=b
     ·subst e3
      obtain ⟨h1,h2⟩:=h (lead_bound g circle q q e2) l2
      rw [if_neg (by simp),h1,Option.bind_some,decide_eq_true (p:=some q=some q) rfl,Bool.true_and]
      cases goesL C g circle with
      | false=>rfl
      | true =>
       rw [if_pos (by simp),h2,Option.bind_some,Bool.true_and]
     ·rw [if_pos (by simp [e3]),decide_eq_false (p:=some q=some b) (by simp [e3])]
      rfl
   ·rw [if_neg l2,decide_eq_false l2]
    simp
 ·rw [if_neg l1,decide_eq_false l1]
  simp
def crcM (C:Clm) (g:Gr) (p:Int) (k:Nat) (m:Mv):Option (List Int) :=
 if m.1=p∧C.cnt m=true then (wayL C.goes g m.2.2.1 p).map fun w=>(k:Int)::w else none
def crcF (C:Clm) (g:Gr) (p:Int) (k:Nat):Option (List Int):=crcM C g p k (g.2.getD k (0,0,0,false))
def crc (C:Clm) (g:Gr) (p:Int):Option (List Int):=(List.range g.2.length).findSome? (crcF C g p)
def lasA (C:Clm) (g:Gr):Option (List Int×List Int):=(found any g 0).findSome? fun y=>(crc C g y.1).map fun c=>(y.2,c)
theorem crc_none {C:Clm} {g:Gr} (hg:GOK g) {p:Int} (h:crc C g p=none):∀ m∈g.2,m.1=p→C.cnt m=true→¬ rch C.goes g m.2.2.1 p:=by
 unfold crc at h
 rw [List.findSome?_eq_none_iff] at h
 intro m hm h1 h2 h3
 obtain ⟨k,hk,rfl⟩:=List.mem_iff_getElem.1 hm
 have:=h k (List.mem_range.2 hk)
 have em:g.2.getD k (0,0,0,false)=g.2[k]:=getD_of (List.getElem?_eq_getElem hk)
 unfold crcF crcM at this
 rw [em,if_pos ⟨h1,h2⟩,Option.map_eq_none_iff] at this
 exact (wayL_none hg (mv_to hg hm)).1 this h3
theorem crc_some {C:Clm} {g:Gr} (hg:GOK g) {p:Int} {c:List Int} (h:crc C g p=some c):leadL g p c=some p∧(∀ i∈c,C.goes (mvAt g i)=true)∧(∃ i∈c,C.cnt (mvAt g i)=true)∧c.length≤8:=by
 unfold crc at h
 obtain ⟨k,hk,h⟩:=List.exists_of_findSome?_eq_some h
 rw [List.mem_range] at hk
 have hm:g.2.getD k (0,0,0,false)∈g.2:=getD_in hk
 unfold crcF crcM at h
 split at h
 ·rename_i hc
  rw [Option.map_eq_some_iff] at h
  obtain ⟨w,h1,rfl⟩:=h
  obtain ⟨w1,w2,w3,_⟩:=wayL_some hg (mv_to hg hm) h1
  have hhi:=hg.hi
  have ek:mvAt g (k:Int)=g.2.getD k (0,0,0,false):=by unfold mvAt; rw [Int.toNat_natCast]
  refine ⟨?_,fun i hi=>?_,⟨(k:Int),by simp,by rw [ek]; exact hc.2⟩,by rw [List.length_cons]; omega⟩
  ·rw [leadL_cons,if_pos ⟨isB_iff.2 ⟨by omega,by omega⟩,by rw [Int.toNat_natCast]; exact hc.1⟩,Int.toNat_natCast]
   exact w1
  ·rcases List.mem_cons.1 hi with e|hi
   ·rw [e,ek]; exact C.sub _ hc.2
   ·exact w2 i hi
 ·cases h
theorem found_way {are:Mv→Bool} {g:Gr} (hg:GOK g) {p:Int} (hp:0≤p∧p<g.1) {y:Int×List Int} (h:y∈found are g p):leadL g p y.2=some y.1∧y.2.length<g.1.toNat:=by
 obtain ⟨j,hB,_⟩:=srch_ok (are:=are) hg hp
 obtain ⟨a,ha,hae⟩:=List.mem_iff_getElem.1 h
 have hz:(found are g p)[a]?=some y:=by rw [← hae]; exact List.getElem?_eq_getElem ha
 have hz':((srch are g p).1.zip (srch are g p).2)[a]?=some y:=hz
 rw [List.getElem?_zip_eq_some] at hz'
 have hw:=hB.way a _ _ hz'.1 hz'.2
 have hl:=hB.len_le hg
 have hal:=(List.getElem?_eq_some_iff.1 hz'.1).1
 exact ⟨hw.1,by omega⟩
theorem found_all {are:Mv→Bool} {g:Gr} (hg:GOK g) {p q:Int} (hp:0≤p∧p<g.1) (h:rch are g p q):∃ y∈found are g p,y.1=q:=by
 obtain ⟨j,hB,_⟩:=srch_ok (are:=are) hg hp
 obtain ⟨a,ha,hae⟩:=List.mem_iff_getElem.1 h
 have ha2:a<(srch are g p).2.length:=by rw [hB.len]; exact ha
 refine ⟨(q,(srch are g p).2[a]),?_,rfl⟩
 have hz:(found are g p)[a]?=some (q,(srch are g p).2[a]):=by
  show ((srch are g p).1.zip (srch are g p).2)[a]?=_
  rw [List.getElem?_zip_eq_some]
  exact ⟨by rw [← hae]; exact List.getElem?_eq_getElem ha,List.getElem?_eq_getElem ha2⟩
 exact List.mem_of_getElem? hz
theorem lasA_none {C:Clm} {g:Gr} (hg:GOK g) (h:lasA C g=none):¬ Bad C g:=by
 rintro ⟨m,hm,h1,h2,h3⟩
 unfold lasA at h
 rw [List.findSome?_eq_none_iff] at h
 obtain ⟨y,hy,e⟩:=found_all hg (zero_in hg) h1
 have:=h y hy
 rw [Option.map_eq_none_iff,e] at this
 exact crc_none hg this m hm rfl h2 h3
theorem lasA_some {C:Clm} {g:Gr} (hg:GOK g) {p c:List Int} (h:lasA C g=some (p,c)):refB C g p c=true∧p.length≤8∧c.length≤8:=by
 unfold lasA at h
 obtain ⟨y,hy,h⟩:=List.exists_of_findSome?_eq_some h
 rw [Option.map_eq_some_iff] at h
 obtain ⟨c',h1,h2⟩:=h
 injection h2 with h2 h3
 subst h2; subst h3
 obtain ⟨k1,k2,k3,k4⟩:=crc_some hg h1
 obtain ⟨f1,f2⟩:=found_way hg (zero_in hg) hy
 have hhi:=hg.hi
 exact ⟨refB_iff.2 ⟨by omega,by omega,y.1,f1,k1,k2,k3⟩,by omega,k4⟩
theorem fold_some {α:Type} {f:Int×List Int→Option α} {S:Type} {yl:Int×List Int→S→Option (Step S α)}:∀ (L:List (Int×List Int)),(∀ y∈L,∀ s,∃ s',yl y s=some (match f y with|some r=>.done r|none=>.next s'))→∀ s,∃ s',foldY yl L s=some (match L.findSome? f with|some r=>.inr r|none=>.inl s')
 | [],_,s=>⟨s,rfl⟩
 | y::L,h,s=>by
  obtain ⟨s',e⟩:=h y (by simp) s
  simp only [foldY,e,Option.bind_some,List.findSome?_cons]
  cases hf:f y with
  | some r=>exact ⟨s,rfl⟩
  | none=>exact fold_some L (fun z hz=>h z (by simp [hz])) s'
def lasP (o:Option (List Int×List Int)):List Int×List Int×Bool:=match o with|some (p,c)=>(p,c,true)|none=>([],[],false)
section
variable {g:Gr} (hg:GOK g)
include hg
theorem cont1_eq {l:List Int} (hl:l.length≤1000) (hb:∀ i∈l,isB i (g.2.length:Int)=true):slices_ContainsFunc_3 l g.1 g.2=some (!goesL (clm 0 0) g l)∧slices_ContainsFunc_4 l g.1 g.2=some (cntL (clm 0 0) g l):=by
 constructor
 ·have key:=whileO_first (body:=slices_IndexFunc_8_b1 l g.1 g.2) l (fun i=>!(clm 0 0).goes (mvAt g i)) (fun k i hk=>by
   have hlt:=(List.getElem?_eq_some_iff.1 hk).1
   have hi:=isB_iff.1 (hb i (List.mem_of_getElem? hk))
   unfold slices_IndexFunc_8_b1 progress_statement_isLasso_1
   simp only [Int.toNat_natCast,getD_of hk]
   rw [if_pos (by rw [decide_eq_true_eq]; omega),ck_pos (by omega),ck_pos (by omega),ck_pos hi.1,ck_pos hi.2,ck_pos (by rw [inK_i64]; omega)]
   have e1:progress_statementOf_1 (g.2.getD i.toNat (0,0,0,false))=some ():=rfl
   rw [e1,Option.bind_some,Option.bind_some]
   show _=some (if (!k0 (mvAt g i))=true then _ else _)
   unfold k0
   cases (mvAt g i).2.2.2<;>rfl) (by
   unfold slices_IndexFunc_8_b1
   rw [if_neg (by simp)])
  unfold slices_ContainsFunc_3 slices_IndexFunc_8
  rw [key,Option.bind_some]
  unfold goesL
  rw [← any_not,← cont_any]
  cases l.findIdx? (fun i=>!(clm 0 0).goes (mvAt g i))<;>rfl
 ·have key:=whileO_first (body:=slices_IndexFunc_9_b1 l g.1 g.2) l (fun i=>(clm 0 0).cnt (mvAt g i)) (fun k i hk=>by
   have hlt:=(List.getElem?_eq_some_iff.1 hk).1
   have hi:=isB_iff.1 (hb i (List.mem_of_getElem? hk))
   unfold slices_IndexFunc_9_b1 progress_statement_isLasso_2
   simp only [Int.toNat_natCast,getD_of hk]
   rw [if_pos (by rw [decide_eq_true_eq]; omega),ck_pos (by omega),ck_pos (by omega),ck_pos hi.1,ck_pos hi.2,ck_pos (by rw [inK_i64]; omega)]
   have e1:progress_statementOf_1 (g.2.getD i.toNat (0,0,0,false))=some ():=rfl
   rw [e1,Option.bind_some,Option.bind_some]
   show _=some (if k0 (mvAt g i)=true then _ else _)
   unfold k0
   cases (mvAt g i).2.2.2<;>rfl) (by
   unfold slices_IndexFunc_9_b1
   rw [if_neg (by simp)])
  unfold slices_ContainsFunc_4 slices_IndexFunc_9
  rw [key,Option.bind_some]
  unfold cntL
  rw [← cont_any]
  cases l.findIdx? (fun i=>(clm 0 0).cnt (mvAt g i))<;>rfl
theorem isLasso_eq (path circle:List Int):progress_statement_isLasso g.1 g.2 path circle=some (refB (clm 0 0) g path circle) :=
 lasso_gen (C:=clm 0 0) (g:=g) path circle (fun h1 h2=>cont1_eq hg h2 h1)
theorem circle_eq {p:Int} (hp:0≤p∧p<g.1):progress_statement_circle g.1 g.2 p=some (match crc (clm 0 0) g p with|some c=>(c,true)|none=>([],false)):=by
 have hgl:=hg.len
 have hhi:=hg.hi
 have key:=whileO_find (body:=progress_statement_circle_b1 g.1 g.2 p) g.2.length (fun k=>(crcF (clm 0 0) g p k).map Sum.inl) (.inr ()) (fun k hk=>by
  have hm:g.2.getD k (0,0,0,false)∈g.2:=getD_in hk
  have kin:InK .i64 ((k:Int)+1):=by rw [inK_i64]; omega
  have hway:=way_2_eq hg (mv_to hg hm) p
  have hsome:=fun w=>wayL_some (are:=k0) hg (mv_to hg hm) (q:=p) (w:=w)
  unfold progress_statement_circle_b1 crcF
  rw [Int.toNat_natCast]
  rw [if_pos (by rw [decide_eq_true_eq]; omega),ck_pos (by omega),ck_pos (by omega)]
  revert hm hway hsome
  generalize g.2.getD k (0,0,0,false)=m
  intro hm hway hsome
  unfold crcM
  by_cases e:m.1=p
  ·rw [if_neg (by simp [e])]
   have e1:progress_statementOf_1 m=some ():=rfl
   have hcn:(!m.2.2.2)=true→(clm 0 0).cnt m=true:=fun h=>h
   have hnc:(clm 0 0).cnt m=true→(!m.2.2.2)=true:=fun h=>h
   rw [e1,Option.bind_some]
   by_cases h2:(!m.2.2.2)=true
   ·have hw2:progress_graph_way_2 (g.1,g.2) m.2.2.1 p=some (wayA (wayL (k0) g m.2.2.1 p)):=hway
    rw [if_neg (by simp [h2]),hw2,Option.bind_some,if_pos (show m.1=p∧(clm 0 0).cnt m=true from ⟨e,hcn h2⟩)]
    have eg:(clm 0 0).goes=k0:=rfl
    rw [eg]
    cases hw:wayL (k0) g m.2.2.1 p with
    | none=>exact (if_neg (by simp [wayA])).trans (ck_pos kin _)
    | some w =>
     have:=(hsome w hw).2.2.1
     refine (if_pos (by simp [wayA])).trans ?_
     rw [ck_pos (c:=(1+(wayA (some w)).1.length)*8≤140737488355328) (by show (1+w.length)*8≤_; omega)]
     rfl
   ·rw [if_pos (by simp [h2]),ck_pos kin,if_neg fun hh=>h2 (hnc hh.2)]
    rfl
  ·rw [if_pos (by simp [e]),ck_pos kin,if_neg fun hh=>e hh.1]
   rfl) (by
  unfold progress_statement_circle_b1
  rw [if_neg (by simp)])
 unfold progress_statement_circle
 rw [key,Option.bind_some]
 have e:(List.range g.2.length).findSome? (fun k=>(crcF (clm 0 0) g p k).map (Sum.inl:List Int→Sum (List Int) Unit))=(crc (clm 0 0) g p).map Sum.inl:=by
  unfold crc
  rw [List.map_findSome?]
  rfl
 rw [e]
 cases crc (clm 0 0) g p<;>rfl
theorem lasso_eq:progress_statement_lasso g.1 g.2=some (lasP (lasA (clm 0 0) g)):=by
 obtain ⟨s',hy⟩:=fold_some (f:=fun y=>(crc (clm 0 0) g y.1).map fun c=>(y.2,c)) (yl:=progress_statement_lasso_y1 g.1 g.2) (found any g 0) (fun y hy s=>by
  have hf:=found_way hg (zero_in hg) hy
  have hin:0≤y.1∧y.1<g.1:=by
   have h1:=lead_rch (are:=any) hg y.2 0 y.1 (zero_in hg) hf.1 (fun _ _=>rfl)
   exact rch_in hg (zero_in hg) h1
  unfold progress_statement_lasso_y1
  rw [circle_eq hg hin,Option.bind_some]
  cases crc (clm 0 0) g y.1 with
  | none=>exact ⟨([],false),rfl⟩
  | some c=>exact ⟨s,rfl⟩) (([],false):List Int×Bool)
 have hp:=paths_ok hg (zero_in hg) (progress_statement_lasso_y1 g.1 g.2) ([],false) hy
 unfold progress_statement_lasso
 have e0:progress_graph_paths (g.1,g.2) 0=some ():=rfl
 rw [e0,Option.bind_some]
 show (progress_graph_paths_1 (List Int×Bool) (List Int×List Int) 0 g (progress_statement_lasso_y1 g.1 g.2) ([],false)).bind _=_
 rw [hp,Option.bind_some]
 show _=some (lasP ((found any g 0).findSome? fun y=>(crc (clm 0 0) g y.1).map fun c=>(y.2,c)))
 cases (found any g 0).findSome? fun y=>(crc (clm 0 0) g y.1).map fun c=>(y.2,c)<;>rfl
theorem cont1_2_eq (t:Int) {l:List Int} (hl:l.length≤1000) (hb:∀ i∈l,isB i (g.2.length:Int)=true):slices_ContainsFunc_5 l g.1 g.2 t t=some (!goesL (clm 1 t) g l)∧slices_ContainsFunc_6 l g.1 g.2 t t=some (cntL (clm 1 t) g l):=by
 constructor
 ·have key:=whileO_first (body:=slices_IndexFunc_10_b1 l g.1 g.2 t t) l (fun i=>!(clm 1 t).goes (mvAt g i)) (fun k i hk=>by
   have hlt:=(List.getElem?_eq_some_iff.1 hk).1
   have hi:=isB_iff.1 (hb i (List.mem_of_getElem? hk))
   unfold slices_IndexFunc_10_b1 progress_statement_isLasso_1_2
   simp only [Int.toNat_natCast,getD_of hk]
   rw [if_pos (by rw [decide_eq_true_eq]; omega),ck_pos (by omega),ck_pos (by omega),ck_pos hi.1,ck_pos hi.2,ck_pos (by rw [inK_i64]; omega)]
   rw [stOf3_eq,Option.bind_some,Option.bind_some]
   show _=some (if (!notOwn t (mvAt g i))=true then _ else _)
   cases notOwn t (mvAt g i)<;>rfl) (by
   unfold slices_IndexFunc_10_b1
   rw [if_neg (by simp)])
  unfold slices_ContainsFunc_5 slices_IndexFunc_10
  rw [key,Option.bind_some]
  unfold goesL
  rw [← any_not,← cont_any]
  cases l.findIdx? (fun i=>!(clm 1 t).goes (mvAt g i))<;>rfl
 ·have key:=whileO_first (body:=slices_IndexFunc_11_b1 l g.1 g.2 t t) l (fun i=>(clm 1 t).cnt (mvAt g i)) (fun k i hk=>by
   have hlt:=(List.getElem?_eq_some_iff.1 hk).1
   have hi:=isB_iff.1 (hb i (List.mem_of_getElem? hk))
   unfold slices_IndexFunc_11_b1 progress_statement_isLasso_2_2
   simp only [Int.toNat_natCast,getD_of hk]
   rw [if_pos (by rw [decide_eq_true_eq]; omega),ck_pos (by omega),ck_pos (by omega),ck_pos hi.1,ck_pos hi.2,ck_pos (by rw [inK_i64]; omega)]
   rw [stOf2_eq,Option.bind_some,Option.bind_some]
   show _=some (if own t (mvAt g i)=true then _ else _)
   cases own t (mvAt g i)<;>rfl) (by
   unfold slices_IndexFunc_11_b1
   rw [if_neg (by simp)])
  unfold slices_ContainsFunc_6 slices_IndexFunc_11
  rw [key,Option.bind_some]
  unfold cntL
  rw [← cont_any]
  cases l.findIdx? (fun i=>(clm 1 t).cnt (mvAt g i))<;>rfl
theorem isLasso_2_eq (t:Int) (path circle:List Int):progress_statement_isLasso_v2 g.1 g.2 t t path circle=some (refB (clm 1 t) g path circle) :=
 lasso_gen (C:=clm 1 t) (g:=g) path circle (fun h1 h2=>cont1_2_eq hg t h2 h1)
theorem circle_2_eq (t:Int) {p:Int} (hp:0≤p∧p<g.1):progress_statement_circle_2 g.1 g.2 t t p=some (match crc (clm 1 t) g p with|some c=>(c,true)|none=>([],false)):=by
 have hgl:=hg.len
 have hhi:=hg.hi
 have key:=whileO_find (body:=progress_statement_circle_2_b1 g.1 g.2 t t p) g.2.length (fun k=>(crcF (clm 1 t) g p k).map Sum.inl) (.inr ()) (fun k hk=>by
  have hm:g.2.getD k (0,0,0,false)∈g.2:=getD_in hk
  have kin:InK .i64 ((k:Int)+1):=by rw [inK_i64]; omega
  have hway:=way_3_eq hg (mv_to hg hm) p t
  have hsome:=fun w=>wayL_some (are:=notOwn t) hg (mv_to hg hm) (q:=p) (w:=w)
  unfold progress_statement_circle_2_b1 crcF
  rw [Int.toNat_natCast]
  rw [if_pos (by rw [decide_eq_true_eq]; omega),ck_pos (by omega),ck_pos (by omega)]
  revert hm hway hsome
  generalize g.2.getD k (0,0,0,false)=m
  intro hm hway hsome
  unfold crcM
  by_cases e:m.1=p
  ·rw [if_neg (by simp [e])]
   have hcn:own t m=true→(clm 1 t).cnt m=true:=fun h=>h
   have hnc:(clm 1 t).cnt m=true→own t m=true:=fun h=>h
   rw [stOf2_eq,Option.bind_some]
   by_cases h2:own t m=true
   ·have hw2:progress_graph_way_3 (g.1,g.2) m.2.2.1 p t=some (wayA (wayL (notOwn t) g m.2.2.1 p)):=hway
    rw [if_neg (by simp [h2]),hw2,Option.bind_some,if_pos (show m.1=p∧(clm 1 t).cnt m=true from ⟨e,hcn h2⟩)]
    have eg:(clm 1 t).goes=notOwn t:=rfl
    rw [eg]
    cases hw:wayL (notOwn t) g m.2.2.1 p with
    | none=>exact (if_neg (by simp [wayA])).trans (ck_pos kin _)
    | some w =>
     have:=(hsome w hw).2.2.1
     refine (if_pos (by simp [wayA])).trans ?_
     rw [ck_pos (c:=(1+(wayA (some w)).1.length)*8≤140737488355328) (by show (1+w.length)*8≤_; omega)]
     rfl
   ·rw [if_pos (by simp [h2]),ck_pos kin,if_neg fun hh=>h2 (hnc hh.2)]
    rfl
  ·rw [if_pos (by simp [e]),ck_pos kin,if_neg fun hh=>e hh.1]
   rfl) (by
  unfold progress_statement_circle_2_b1
  rw [if_neg (by simp)])
 unfold progress_statement_circle_2
 rw [key,Option.bind_some]
 have e:(List.range g.2.length).findSome? (fun k=>(crcF (clm 1 t) g p k).map (Sum.inl:List Int→Sum (List Int) Unit))=(crc (clm 1 t) g p).map Sum.inl:=by
  unfold crc
  rw [List.map_findSome?]
  rfl
 rw [e]
 cases crc (clm 1 t) g p<;>rfl
theorem lasso_2_eq (t:Int):progress_statement_lasso_2 g.1 g.2 t t=some (lasP (lasA (clm 1 t) g)):=by
 obtain ⟨s',hy⟩:=fold_some (f:=fun y=>(crc (clm 1 t) g y.1).map fun c=>(y.2,c)) (yl:=progress_statement_lasso_2_y1 g.1 g.2 t t) (found any g 0) (fun y hy s=>by
  have hf:=found_way hg (zero_in hg) hy
  have hin:0≤y.1∧y.1<g.1:=by
   have h1:=lead_rch (are:=any) hg y.2 0 y.1 (zero_in hg) hf.1 (fun _ _=>rfl)
   exact rch_in hg (zero_in hg) h1
  unfold progress_statement_lasso_2_y1
  rw [circle_2_eq hg t hin,Option.bind_some]
  cases crc (clm 1 t) g y.1 with
  | none=>exact ⟨([],false),rfl⟩
  | some c=>exact ⟨s,rfl⟩) (([],false):List Int×Bool)
 have hp:=paths_ok hg (zero_in hg) (progress_statement_lasso_2_y1 g.1 g.2 t t) ([],false) hy
 unfold progress_statement_lasso_2
 have e0:progress_graph_paths (g.1,g.2) 0=some ():=rfl
 rw [e0,Option.bind_some]
 show (progress_graph_paths_1 (List Int×Bool) (List Int×List Int) 0 g (progress_statement_lasso_2_y1 g.1 g.2 t t) ([],false)).bind _=_
 rw [hp,Option.bind_some]
 show _=some (lasP ((found any g 0).findSome? fun y=>(crc (clm 1 t) g y.1).map fun c=>(y.2,c)))
 cases (found any g 0).findSome? fun y=>(crc (clm 1 t) g y.1).map fun c=>(y.2,c)<;>rfl
theorem cont1_3_eq (t:Int) {l:List Int} (hl:l.length≤1000) (hb:∀ i∈l,isB i (g.2.length:Int)=true):slices_ContainsFunc_7 l g.1 g.2 t t=some (!goesL (clm 2 t) g l)∧slices_ContainsFunc_8 l g.1 g.2 t t=some (cntL (clm 2 t) g l):=by
 constructor
 ·have key:=whileO_first (body:=slices_IndexFunc_12_b1 l g.1 g.2 t t) l (fun i=>!(clm 2 t).goes (mvAt g i)) (fun k i hk=>by
   have hlt:=(List.getElem?_eq_some_iff.1 hk).1
   have hi:=isB_iff.1 (hb i (List.mem_of_getElem? hk))
   unfold slices_IndexFunc_12_b1 progress_statement_isLasso_1_3
   simp only [Int.toNat_natCast,getD_of hk]
   rw [if_pos (by rw [decide_eq_true_eq]; omega),ck_pos (by omega),ck_pos (by omega),ck_pos hi.1,ck_pos hi.2,ck_pos (by rw [inK_i64]; omega)]
   rw [stOf2_eq,Option.bind_some,Option.bind_some]
   show _=some (if (!own t (mvAt g i))=true then _ else _)
   cases own t (mvAt g i)<;>rfl) (by
   unfold slices_IndexFunc_12_b1
   rw [if_neg (by simp)])
  unfold slices_ContainsFunc_7 slices_IndexFunc_12
  rw [key,Option.bind_some]
  unfold goesL
  rw [← any_not,← cont_any]
  cases l.findIdx? (fun i=>!(clm 2 t).goes (mvAt g i))<;>rfl
 ·have key:=whileO_first (body:=slices_IndexFunc_13_b1 l g.1 g.2 t t) l (fun i=>(clm 2 t).cnt (mvAt g i)) (fun k i hk=>by
   have hlt:=(List.getElem?_eq_some_iff.1 hk).1
   have hi:=isB_iff.1 (hb i (List.mem_of_getElem? hk))
   unfold slices_IndexFunc_13_b1 progress_statement_isLasso_2_3
   simp only [Int.toNat_natCast,getD_of hk]
   rw [if_pos (by rw [decide_eq_true_eq]; omega),ck_pos (by omega),ck_pos (by omega),ck_pos hi.1,ck_pos hi.2,ck_pos (by rw [inK_i64]; omega)]
   rw [stOf2_eq,Option.bind_some,Option.bind_some]
   show _=some (if own t (mvAt g i)=true then _ else _)
   cases own t (mvAt g i)<;>rfl) (by
   unfold slices_IndexFunc_13_b1
   rw [if_neg (by simp)])
  unfold slices_ContainsFunc_8 slices_IndexFunc_13
  rw [key,Option.bind_some]
  unfold cntL
  rw [← cont_any]
  cases l.findIdx? (fun i=>(clm 2 t).cnt (mvAt g i))<;>rfl
theorem isLasso_3_eq (t:Int) (path circle:List Int):progress_statement_isLasso_3 g.1 g.2 t t path circle=some (refB (clm 2 t) g path circle) :=
 lasso_gen (C:=clm 2 t) (g:=g) path circle (fun h1 h2=>cont1_3_eq hg t h2 h1)
theorem circle_3_eq (t:Int) {p:Int} (hp:0≤p∧p<g.1):progress_statement_circle_3 g.1 g.2 t t p=some (match crc (clm 2 t) g p with|some c=>(c,true)|none=>([],false)):=by
 have hgl:=hg.len
 have hhi:=hg.hi
 have key:=whileO_find (body:=progress_statement_circle_3_b1 g.1 g.2 t t p) g.2.length (fun k=>(crcF (clm 2 t) g p k).map Sum.inl) (.inr ()) (fun k hk=>by
  have hm:g.2.getD k (0,0,0,false)∈g.2:=getD_in hk
  have kin:InK .i64 ((k:Int)+1):=by rw [inK_i64]; omega
  have hway:=way_4_eq hg (mv_to hg hm) p t
  have hsome:=fun w=>wayL_some (are:=own t) hg (mv_to hg hm) (q:=p) (w:=w)
  unfold progress_statement_circle_3_b1 crcF
  rw [Int.toNat_natCast]
  rw [if_pos (by rw [decide_eq_true_eq]; omega),ck_pos (by omega),ck_pos (by omega)]
  revert hm hway hsome
  generalize g.2.getD k (0,0,0,false)=m
  intro hm hway hsome
  unfold crcM
  by_cases e:m.1=p
  ·rw [if_neg (by simp [e])]
   have hcn:own t m=true→(clm 2 t).cnt m=true:=fun h=>h
   have hnc:(clm 2 t).cnt m=true→own t m=true:=fun h=>h
   rw [stOf2_eq,Option.bind_some]
   by_cases h2:own t m=true
   ·have hw2:progress_graph_way_4 (g.1,g.2) m.2.2.1 p t=some (wayA (wayL (own t) g m.2.2.1 p)):=hway
    rw [if_neg (by simp [h2]),hw2,Option.bind_some,if_pos (show m.1=p∧(clm 2 t).cnt m=true from ⟨e,hcn h2⟩)]
    have eg:(clm 2 t).goes=own t:=rfl
    rw [eg]
    cases hw:wayL (own t) g m.2.2.1 p with
    | none=>exact (if_neg (by simp [wayA])).trans (ck_pos kin _)
    | some w =>
     have:=(hsome w hw).2.2.1
     refine (if_pos (by simp [wayA])).trans ?_
     rw [ck_pos (c:=(1+(wayA (some w)).1.length)*8≤140737488355328) (by show (1+w.length)*8≤_; omega)]
     rfl
   ·rw [if_pos (by simp [h2]),ck_pos kin,if_neg fun hh=>h2 (hnc hh.2)]
    rfl
  ·rw [if_pos (by simp [e]),ck_pos kin,if_neg fun hh=>e hh.1]
   rfl) (by
  unfold progress_statement_circle_3_b1
  rw [if_neg (by simp)])
 unfold progress_statement_circle_3
 rw [key,Option.bind_some]
 have e:(List.range g.2.length).findSome? (fun k=>(crcF (clm 2 t) g p k).map (Sum.inl:List Int→Sum (List Int) Unit))=(crc (clm 2 t) g p).map Sum.inl:=by
  unfold crc
  rw [List.map_findSome?]
  rfl
 rw [e]
 cases crc (clm 2 t) g p<;>rfl
theorem lasso_3_eq (t:Int):progress_statement_lasso_3 g.1 g.2 t t=some (lasP (lasA (clm 2 t) g)):=by
 obtain ⟨s',hy⟩:=fold_some (f:=fun y=>(crc (clm 2 t) g y.1).map fun c=>(y.2,c)) (yl:=progress_statement_lasso_3_y1 g.1 g.2 t t) (found any g 0) (fun y hy s=>by
  have hf:=found_way hg (zero_in hg) hy
  have hin:0≤y.1∧y.1<g.1:=by
   have h1:=lead_rch (are:=any) hg y.2 0 y.1 (zero_in hg) hf.1 (fun _ _=>rfl)
   exact rch_in hg (zero_in hg) h1
  unfold progress_statement_lasso_3_y1
  rw [circle_3_eq hg t hin,Option.bind_some]
  cases crc (clm 2 t) g y.1 with
  | none=>exact ⟨([],false),rfl⟩
  | some c=>exact ⟨s,rfl⟩) (([],false):List Int×Bool)
 have hp:=paths_ok hg (zero_in hg) (progress_statement_lasso_3_y1 g.1 g.2 t t) ([],false) hy
 unfold progress_statement_lasso_3
 have e0:progress_graph_paths (g.1,g.2) 0=some ():=rfl
 rw [e0,Option.bind_some]
 show (progress_graph_paths_1 (List Int×Bool) (List Int×List Int) 0 g (progress_statement_lasso_3_y1 g.1 g.2 t t) ([],false)).bind _=_
 rw [hp,Option.bind_some]
 show _=some (lasP ((found any g 0).findSome? fun y=>(crc (clm 2 t) g y.1).map fun c=>(y.2,c)))
 cases (found any g 0).findSome? fun y=>(crc (clm 2 t) g y.1).map fun c=>(y.2,c)<;>rfl
end
noncomputable def refR (g:Gr) (c t:Int) (path circle:List Int):Bool×Int:=if ask g c t=0 then (refB (clm c t) g path circle,0) else (false,ask g c t)
theorem Refutes_eq (g:Gr) (hz:okZ g) (c t:Int) (path circle:List Int):progress_Refutes g c t path circle=some (refR g c t path circle):=by
 unfold progress_Refutes refR
 rw [statementOf_eq g hz,Option.bind_some]
 by_cases h:ask g c t=0
 ·rw [stmR_ok h,if_pos h]
  obtain ⟨hg,⟨rfl,rfl⟩|rfl|rfl⟩:=ask_cases h
  ·have e:=isLasso_eq hg path circle
   show (progress_statement_isLasso g.1 g.2 path circle).bind _=_
   rw [e]; rfl
  ·have e:=isLasso_2_eq hg t path circle
   show (progress_statement_isLasso_v2 g.1 g.2 t t path circle).bind _=_
   rw [e]; rfl
  ·have e:=isLasso_3_eq hg t path circle
   show (progress_statement_isLasso_3 g.1 g.2 t t path circle).bind _=_
   rw [e]; rfl
 ·rw [stmR_bad h,if_neg h]
  simp only
  rw [if_pos (by simp [h])]
noncomputable def lasR (g:Gr) (c t:Int):List Int×List Int×Int:=if ask g c t=0 then (match lasA (clm c t) g with|some (p,q)=>(p,q,0)|none=>([],[],5)) else ([],[],ask g c t)
theorem Lasso_eq (g:Gr) (hz:okZ g) (c t:Int):progress_Lasso g c t=some (lasR g c t):=by
 unfold progress_Lasso lasR
 rw [statementOf_eq g hz,Option.bind_some]
 by_cases h:ask g c t=0
 ·rw [stmR_ok h,if_pos h]
  obtain ⟨hg,⟨rfl,rfl⟩|rfl|rfl⟩:=ask_cases h
  ·have e:=lasso_eq hg
   show (progress_statement_lasso g.1 g.2).bind _=_
   rw [e]; cases lasA (clm 0 0) g<;>rfl
  ·have e:=lasso_2_eq hg t
   show (progress_statement_lasso_2 g.1 g.2 t t).bind _=_
   rw [e]; cases lasA (clm 1 t) g<;>rfl
  ·have e:=lasso_3_eq hg t
   show (progress_statement_lasso_3 g.1 g.2 t t).bind _=_
   rw [e]; cases lasA (clm 2 t) g<;>rfl
 ·rw [stmR_bad h,if_neg h]
  simp only
  rw [if_pos (by simp [h])]
theorem pth_iff (g:Gr) {l:List Int} (h0:l≠[]) (p q:Int):leadL g p l=some q↔isPth g l=true∧(mvAt g (l.getD 0 0)).1=p∧(mvAt g (l.getD (l.length - 1) 0)).2.2.1=q:=by
 cases hl:l with
 | nil=>exact absurd hl h0
 | cons i r =>
  obtain ⟨s,j,e,e2⟩:=last_of (l:=i::r) (by simp)
  have e0:(i::r).getD 0 0=i:=rfl
  rw [e0,e2,isPth_cons,Bool.and_eq_true]
  constructor
  ·intro h
   have h':=h
   rw [leadL_cons] at h
   split at h
   ·rename_i hc
    refine ⟨⟨hc.1,by rw [hc.2,h']; rfl⟩,hc.2,?_⟩
    rw [e] at h'
    exact (lead_last g s p q j h').1.symm
   ·cases h
  ·rintro ⟨⟨h1,h2⟩,h3,h4⟩
   have h3':(g.2.getD i.toNat (0,0,0,false)).1=p:=h3
   rw [h3'] at h2
   obtain ⟨q',hq⟩:=Option.isSome_iff_exists.1 h2
   have hq2:=hq
   rw [e] at hq2
   have:=(lead_last g s p q' j hq2).1
   rw [hq,this]
   exact congrArg some h4
theorem loop_any {body:Bool×Int→Option (Step (Bool×Int) (Sum Unit Bool))} (xs:List Int) (p q:Int→Bool) (h:∀ (k:Nat) (x:Int) (s:Bool),xs[k]?=some x→body (s,(k:Int))=some (if p x=true then .next ((s || q x),(k:Int)+1) else .done (.inl ()))) (hd:∀ s,body (s,(xs.length:Int))=some (.done (.inr s))) :
  ∀ (d k:Nat) (s:Bool),xs.length - k=d→k≤xs.length→whileO body (s,(k:Int))=some (if (xs.drop k).all p=true then .inr (s || (xs.drop k).any q) else .inl ()):=by
 intro d
 induction d with
 | zero =>
  intro k s h1 h2
  have:k=xs.length:=by omega
  subst this
  rw [List.drop_length]
  simpa using whileO_end (hd s)
 | succ d ih =>
  intro k s h1 h2
  have hlt:k<xs.length:=by omega
  have hb:=h k _ s (List.getElem?_eq_getElem hlt)
  rw [List.drop_eq_getElem_cons hlt,List.all_cons,List.any_cons]
  cases hp:p xs[k] with
  | false =>
   rw [hp,if_neg (by simp)] at hb
   rw [Bool.false_and,if_neg (by simp)]
   exact whileO_end hb
  | true =>
   rw [hp,if_pos rfl] at hb
   refine whileO_on hb ?_
   have e:((k:Int)+1)=((k+1:Nat):Int):=by omega
   rw [e,Bool.true_and,ih (k+1) _ (by omega) (by omega),Bool.or_assoc]
theorem rRef_k1 {g:Gr} (hg:GOK g) {c t:Int} (ha:ask g c t=0) {circle:List Int} (h0:circle≠[]) (hp:isPth g circle=true) (hl:circle.length≤1000) (b:Int):linealref07_Refutes_k1 g c t circle b=some (lasB (clm c t) g [] circle (some b),0):=by
 have hpos:0<circle.length:=List.length_pos_iff.2 h0
 have hall:∀ i∈circle,isB i (g.2.length:Int)=true:=by
  cases hc:circle with
  | nil=>exact absurd hc h0
  | cons i r =>
   have:=(pth_iff g (l:=i::r) (by simp) (mvAt g i).1 _).2 ⟨by rw [← hc]; exact hp,rfl,rfl⟩
   exact lead_bound g _ _ _ this
 have b0:=isB_iff.1 (hall _ (getD_in (d:=(0:Int)) hpos))
 have b1:=isB_iff.1 (hall _ (getD_in (d:=(0:Int)) (show circle.length - 1<circle.length by omega)))
 have e1:((circle.length:Int) - 1).toNat=circle.length - 1:=by omega
 have hiff:=pth_iff g h0 b b
 have hgl:=hg.len
 unfold linealref07_Refutes_k1 lasB
 simp only [e1]
 rw [ck_pos (by omega),ck_pos b0.1,ck_pos b0.2]
 by_cases h1:(mvAt g (circle.getD 0 0)).1=b
 ·rw [if_neg (by simpa using h1),ck_pos (by rw [inK_i64]; omega),ck_pos (by omega),ck_pos (by omega),ck_pos b1.1,ck_pos b1.2]
  by_cases h2:(mvAt g (circle.getD (circle.length - 1) 0)).2.2.1=b
  ·rw [if_neg (by simpa using h2),decide_eq_true (hiff.2 ⟨hp,h1,h2⟩),Bool.true_and]
   have key:=loop_any (body:=linealref07_Refutes_b1 g c t circle) circle (fun i=>(clm c t).goes (mvAt g i)) (fun i=>(clm c t).cnt (mvAt g i)) (fun k i s hk=>by
    have hlt:=(List.getElem?_eq_some_iff.1 hk).1
    have hi:=isB_iff.1 (hall i (List.mem_of_getElem? hk))
    have kin:InK .i64 ((k:Int)+1):=by rw [inK_i64]; omega
    obtain ⟨by0,f1,f2⟩:=fal_of ha (mvAt g i)
    unfold linealref07_Refutes_b1
    simp only [Int.toNat_natCast,getD_of hk]
    rw [if_pos (by rw [decide_eq_true_eq]; omega),ck_pos (by omega),ck_pos (by omega),ck_pos hi.1,ck_pos hi.2,f1,Option.bind_some]
    by_cases hgo:(clm c t).goes (mvAt g i)=true
    ·have hby:=f2 hgo
     rw [if_neg (show ¬ (!(clm c t).goes (mvAt g i))=true by rw [hgo]; decide),if_pos hgo,ck_pos kin,ck_pos kin]
     have e:decide (0<by0)=(clm c t).cnt (mvAt g i):=by
      rw [hby]; unfold wt
      by_cases hc:(clm c t).cnt (mvAt g i)=true
      ·rw [if_pos hc,hc]; rfl
      ·rw [if_neg hc]; simp only [Bool.not_eq_true] at hc; rw [hc]; rfl
     rw [e]
     cases s<;>rfl
    ·rw [if_pos (show (!(clm c t).goes (mvAt g i))=true by rw [Bool.not_eq_true] at hgo; rw [hgo]; rfl),if_neg hgo]) (fun s=>by
    unfold linealref07_Refutes_b1
    simp only
    rw [if_neg (by simp)]) circle.length 0 false (by simp) (by simp)
   have e0:((0:Nat):Int)=0:=rfl
   rw [e0,List.drop_zero,Bool.false_or] at key
   rw [key,Option.bind_some]
   unfold goesL cntL linealref07_Refutes_k2
   cases circle.all fun i=>(clm c t).goes (mvAt g i)<;>rfl
  ·rw [if_pos (by simpa using h2),decide_eq_false fun hh=>h2 (hiff.1 hh).2.2]
   rfl
 ·rw [if_pos (by simpa using h1),decide_eq_false fun hh=>h1 (hiff.1 hh).2.1]
  rfl
theorem rRefutes_eq (g:Gr) (hz:okZ g) (c t:Int) (path circle:List Int):linealref07_Refutes g c t path circle=some (refR g c t path circle):=by
 unfold linealref07_Refutes refR
 rw [asked_eq g hz,Option.bind_some]
 by_cases h:ask g c t=0
 ·have hg:=(ask_cases h).1
  rw [if_neg (by simp [h]),if_pos h,risPath_eq,Option.bind_some]
  have no:(¬ isPath g path=true∨¬ isPath g circle=true∨circle=[])→(some (false,0):Option (Bool×Int))=some (refB (clm c t) g path circle,0):=fun hh=>by
   have:refB (clm c t) g path circle=false:=by
    rw [← Bool.not_eq_true]
    intro hr
    obtain ⟨l1,l2,b,h1,h2,h3,i,hi,h4⟩:=refB_iff.1 hr
    rcases hh with hh|hh|hh
    ·exact hh (lead_path h1 l1).1
    ·have hne:circle≠[]:=fun e=>by rw [e] at hi; cases hi
     apply hh
     unfold isPath
     rw [decide_eq_true l2,((pth_iff g hne b b).1 h2).1]; rfl
    ·rw [hh] at hi; cases hi
   rw [this]
  by_cases p1:isPath g path=true
  ·rw [if_neg (by simp [p1]),risPath_eq,Option.bind_some]
   by_cases p2:isPath g circle=true
   ·rw [if_neg (by simp [p2])]
    by_cases p3:circle=[]
    ·rw [if_pos (by simp [p3])]
     exact no (.inr (.inr p3))
    ·have hpos:0<circle.length:=List.length_pos_iff.2 p3
     have q1:=p1
     have q2:=p2
     unfold isPath at q1 q2
     rw [Bool.and_eq_true,decide_eq_true_iff] at q1 q2
     rw [if_neg (by rw [decide_eq_true_eq]; omega)]
     unfold refB
     rw [decide_eq_true q1.1,decide_eq_true q2.1,Bool.true_and,Bool.true_and]
     by_cases p4:path=[]
     ·subst p4
      rw [if_neg (by simp),rRef_k1 hg h p3 q2.2 q2.1]
      rfl
     ·have hpp:0<path.length:=List.length_pos_iff.2 p4
      have hall:∀ i∈path,isB i (g.2.length:Int)=true:=by
       cases hc:path with
       | nil=>exact absurd hc p4
       | cons i r =>
        have:=(pth_iff g (l:=i::r) (by simp) (mvAt g i).1 _).2 ⟨by rw [← hc]; exact q1.2,rfl,rfl⟩
        exact lead_bound g _ _ _ this
      have b0:=isB_iff.1 (hall _ (getD_in (d:=(0:Int)) hpp))
      have b1:=isB_iff.1 (hall _ (getD_in (d:=(0:Int)) (show path.length - 1<path.length by omega)))
      have e1:((path.length:Int) - 1).toNat=path.length - 1:=by omega
      rw [if_pos (by rw [decide_eq_true_eq]; omega),ck_pos (by omega),ck_pos b0.1,ck_pos b0.2,e1]
      by_cases p5:(mvAt g (path.getD 0 0)).1=0
      ·have hl:=(pth_iff g p4 0 _).2 ⟨q1.2,p5,rfl⟩
       rw [if_neg (by simpa using p5),ck_pos (by rw [inK_i64]; omega),ck_pos (by omega),ck_pos (by omega),ck_pos b1.1,ck_pos b1.2,rRef_k1 hg h p3 q2.2 q2.1,hl]
       rfl
      ·rw [if_pos (by simpa using p5)]
       cases hl:leadL g 0 path with
       | none=>rfl
       | some b=>exact absurd ((pth_iff g p4 0 b).1 hl).2.1 p5
   ·rw [if_pos (by simp [p2])]
    exact no (.inr (.inl p2))
  ·rw [if_pos (by simp [p1])]
   exact no (.inl p1)
 ·rw [if_pos (by simp [h]),if_neg h]
theorem lasA_or {g:Gr} {c t:Int} (h:ask g c t=0):(holB g c t=true∧lasA (clm c t) g=none)∨(holB g c t=false∧∃ p q,lasA (clm c t) g=some (p,q)):=by
 have hg:=(ask_cases h).1
 have hi:=holB_iff h
 cases hl:lasA (clm c t) g with
 | none=>exact .inl ⟨hi.2 (lasA_none hg hl),rfl⟩
 | some x =>
  refine .inr ⟨?_,x.1,x.2,rfl⟩
  rw [← Bool.not_eq_true]
  intro hh
  exact hi.1 hh (refB_bad hg (lasA_some hg (p:=x.1) (c:=x.2) hl).1)
end Go.Proofs.Yteclokkdgmacpaa
