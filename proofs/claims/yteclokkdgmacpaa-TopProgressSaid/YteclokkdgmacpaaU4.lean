import Derived.Test.YteclokkdgmacpaaU2
namespace Go.Proofs.Yteclokkdgmacpaa
open Go.RowKit
set_option linter.unusedVariables false
set_option linter.unusedSimpArgs false
set_option linter.unusedSectionVars false
set_option maxRecDepth 10000
theorem Concat2_eq (x y:List Int) (hx:x.length≤1000) (hy:y.length≤1000):slices_Concat [x,y]=some (x++y):=by
 unfold slices_Concat
 have h1:whileO (slices_Concat_b1 [x,y]) (0,0)=some ((x.length:Int)+(y.length:Int)):=by
  refine whileO_seq (body:=slices_Concat_b1 [x,y]) (fun k:Nat=>(match k with|0=>(0,0)|1=>((x.length:Int),1)|_=>((x.length:Int)+(y.length:Int),2):Int×Int)) 2 (fun k hk=>?_) ?_
  ·rcases (show k=0∨k=1 by omega) with rfl|rfl
   ·unfold slices_Concat_b1
    simp only
    rw [if_pos (by simp),ck_pos (by simp),ck_pos (by simp),ck_pos (by rw [inK_i64]; first|(simp; done)|(simp; omega)),if_neg (by first|(simp; done)|(simp; omega)),ck_pos (by rw [inK_i64]; simp)]
    simp
   ·unfold slices_Concat_b1
    simp only
    rw [if_pos (by simp),ck_pos (by simp),ck_pos (by simp),ck_pos (by rw [inK_i64]; first|(simp; done)|(simp; omega)),if_neg (by first|(simp; done)|(simp; omega)),ck_pos (by rw [inK_i64]; simp)]
    simp
  ·unfold slices_Concat_b1
   simp only
   rw [if_neg (by simp)]
 rw [h1,Option.bind_some]
 unfold slices_Concat_k1
 have h2:slices_Grow ((x.length:Int)+(y.length:Int))=some ():=by
  unfold slices_Grow
  rw [if_neg (by simp; omega),ck_pos (by rw [inK_i64]; omega),ck_pos (by rw [inK_i64]; omega)]
  by_cases h:0<((x.length:Int)+(y.length:Int) - (0 - 0))
  ·rw [if_pos (by simpa using h),ck_pos h,ck_pos (by omega),ck_pos (by omega),ck_pos (by omega),ck_pos (by omega)]
  ·rw [if_neg (by simpa using h)]
 have h3:whileO (slices_Concat_b2 [x,y]) ([],0)=some (x++y):=by
  refine whileO_seq (body:=slices_Concat_b2 [x,y]) (fun k:Nat=>(match k with|0=>([],0)|1=>(x,1)|_=>(x++y,2):List Int×Int)) 2 (fun k hk=>?_) ?_
  ·rcases (show k=0∨k=1 by omega) with rfl|rfl
   ·unfold slices_Concat_b2
    simp only
    rw [if_pos (by simp),ck_pos (by simp),ck_pos (by simp),ck_pos (by simp; omega),ck_pos (by rw [inK_i64]; simp)]
    simp
   ·unfold slices_Concat_b2
    simp only
    rw [if_pos (by simp),ck_pos (by simp),ck_pos (by simp),ck_pos (by simp; omega),ck_pos (by rw [inK_i64]; simp)]
    simp
  ·unfold slices_Concat_b2
   simp only
   rw [if_neg (by simp)]
 rw [h2,Option.bind_some,h3,Option.bind_some]; rfl
/-! ### The kinds of moves -/
def any (_:Mv):Bool:=true
def k0 (m:Mv):Bool:=!m.2.2.2
def own (t:Int) (m:Mv):Bool:=decide (m.2.1=t)&&!m.2.2.2
def notOwn (t:Int) (m:Mv):Bool:=!decide (m.2.1=t) || !m.2.2.2
theorem stOf2_eq (m:Mv) (t:Int):progress_statementOf_2 m t=some (own t m):=by
 unfold progress_statementOf_2 own
 by_cases h:m.2.1=t
 ·rw [if_pos (by simpa using h),decide_eq_true h]; rfl
 ·rw [if_neg (by simpa using h),decide_eq_false h]; rfl
theorem stOf3_eq (m:Mv) (t:Int):progress_statementOf_3 m t=some (notOwn t m):=by
 unfold progress_statementOf_3 notOwn
 by_cases h:m.2.1=t
 ·rw [if_neg (by simpa using h),decide_eq_true h]; rfl
 ·rw [if_pos (by simpa using h),decide_eq_false h]; rfl
section
variable {are:Mv→Bool} {g:Gr} (hg:GOK g) {from0:Int}
include hg
theorem inner_gen {body:List Int×List (List Int)×Int→Option (Step (List Int×List (List Int)×Int) PW)} {i:Nat} {s:PW} (h:BI are g from0 i s) (hi:i<s.1.length)
  (hb:∀ (k:Nat) (u:PW),k<g.2.length→BJ are g from0 i (s.1.getD i 0) (s.2.getD i []) k u→body (u.1,u.2,(k:Int))=some (.next ((bStep are g (s.1.getD i 0) (s.2.getD i []) u k).1,(bStep are g (s.1.getD i 0) (s.2.getD i []) u k).2,(k:Int)+1)))
  (hd:∀ u:PW,body (u.1,u.2,(g.2.length:Int))=some (.done u)):whileO body (s.1,s.2,0)=some (bRow are g s i):=by
 have hi2:i<s.2.length:=by rw [h.len]; exact hi
 have a1:s.1[i]?=some (s.1.getD i 0):=by rw [getD_of (List.getElem?_eq_getElem hi)]; exact List.getElem?_eq_getElem hi
 have a2:s.2[i]?=some (s.2.getD i []):=by rw [getD_of (List.getElem?_eq_getElem hi2)]; exact List.getElem?_eq_getElem hi2
 have hJ:BJ are g from0 i (s.1.getD i 0) (s.2.getD i []) 0 s:=⟨h,a1,a2,fun j hj=>absurd hj (Nat.not_lt_zero j)⟩
 have key:=whileO_iter (body:=body) (fun (u:PW) (k:Int)=>(u.1,u.2,k)) g.2.length (fun k u=>bStep are g (s.1.getD i 0) (s.2.getD i []) u k) id (fun k u=>BJ are g from0 i (s.1.getD i 0) (s.2.getD i []) k u) (s0:=s) hJ
  (fun k u hk hu=>⟨hb k u hk hu,hu.step hg hk⟩) (fun u _=>hd u)
 exact key.1
theorem tail_eq {i:Nat} {p:Int} {w:List Int} {k:Nat} {u:PW} (hu:BJ are g from0 i p w k u) (hk:k<g.2.length) (hw:w.length≤1000) (e1:(g.2.getD k (0,0,0,false)).1=p) (e2:are (g.2.getD k (0,0,0,false))=true) :
  ((slices_Contains_2 u.1 (g.2.getD k (0,0,0,false)).2.2.1).bind fun v0_2 =>
   if (!v0_2)=true then
   ck ((u.1.length+1)*8≤140737488355328) <| ck (0≤(i:Int)) <| ck ((i:Int)<(u.2.length:Int)) <| (slices_Concat [(u.2.getD i []),[(k:Int)]]).bind fun v0_3 =>
   ck ((u.2.length+1)*24≤140737488355328) <| ck (InK .i64 ((k:Int)+1)) <| some (Step.next (R:=PW) ((u.1++[(g.2.getD k (0,0,0,false)).2.2.1]),(u.2++[v0_3]),((k:Int)+1)))
   else
   ck (InK .i64 ((k:Int)+1)) <| some (.next (u.1,u.2,((k:Int)+1))))=some (.next ((bStep are g p w u k).1,(bStep are g p w u k).2,(k:Int)+1)):=by
 have hl:=hu.len_le hg
 have hN:=hg.hi
 have hml:=hg.len
 have hlen:=hu.len
 have hi:i<u.2.length:=(List.getElem?_eq_some_iff.1 hu.at2).1
 have gw:u.2.getD i []=w:=getD_of hu.at2
 have kin:InK .i64 ((k:Int)+1):=by rw [inK_i64]; omega
 rw [Contains2_eq _ _ (few_of (n:=1000) (by omega)),Option.bind_some]
 unfold bStep
 by_cases hm:(g.2.getD k (0,0,0,false)).2.2.1∈u.1
 ·rw [decide_eq_true hm,if_neg (by simp),ck_pos kin,if_neg (fun h=>h.2.2 hm)]
 ·rw [decide_eq_false hm,if_pos (by simp),ck_pos (by omega),ck_pos (by omega),ck_pos (by omega),gw,Concat2_eq _ _ hw (by simp),Option.bind_some,ck_pos (by omega),ck_pos kin,if_pos ⟨e1,e2,hm⟩]
theorem rest_eq {i:Nat} {p:Int} {w:List Int} {k:Nat} {u:PW} (e:¬ ((g.2.getD k (0,0,0,false)).1=p∧are (g.2.getD k (0,0,0,false))=true)):bStep are g p w u k=u:=by
 unfold bStep
 rw [if_neg fun h=>e ⟨h.1,h.2.1⟩]
theorem way_few {i:Nat} {s:PW} (h:BI are g from0 i s) {j:Nat}:(s.2.getD j []).length≤1000:=by
 by_cases hj:j<s.2.length
 ·have hj1:j<s.1.length:=by rw [← h.len]; exact hj
  rw [getD_of (List.getElem?_eq_getElem hj)]
  have:=h.way j _ _ (List.getElem?_eq_getElem hj1) (List.getElem?_eq_getElem hj)
  have h2:=h.len_le hg
  have:=hg.hi
  omega
 ·rw [List.getD,List.getElem?_eq_none (by omega)]; simp
theorem outer_gen {S R:Type} {yl:Int×List Int→S→Option (Step S R)} {B:List Int×List (List Int)×Int×S→Option (Step (List Int×List (List Int)×Int×S) (Sum R S))}
  (hB1:∀ (s:PW) (i:Nat) (x:S),i<s.1.length→BI are g from0 i s→B (s.1,s.2,(i:Int),x)=(yl (s.1.getD i 0,s.2.getD i []) x).bind fun y=>match y with|.next x'=>some (.next ((bRow are g s i).1,(bRow are g s i).2,(i:Int)+1,x'))|.done e=>some (.done (.inl e)))
  (hB2:∀ (s:PW) (i:Nat) (x:S),¬ i<s.1.length→B (s.1,s.2,(i:Int),x)=some (.done (.inr x))) :
  ∀ (n i:Nat) (s:PW) (x:S) (r:Sum S R),BI are g from0 i s→g.1.toNat<i+n→foldY yl (((bfs are g n i s).1.zip (bfs are g n i s).2).drop i) x=some r→whileO B (s.1,s.2,(i:Int),x)=some (match r with|.inl x=>.inr x|.inr e=>.inl e)
 | 0,i,s,x,r,h,hn,hr=>by
  have hl:=h.len_le hg
  unfold bfs at hr
  rw [List.drop_eq_nil_of_le (by rw [List.length_zip]; omega)] at hr
  injection hr with hr; subst hr
  exact whileO_end (hB2 s i x (by omega))
 | n+1,i,s,x,r,h,hn,hr=>by
  unfold bfs at hr
  by_cases hi:i<s.1.length
  ·rw [if_pos hi] at hr
   obtain ⟨r1,r2,r3⟩:=h.row hg hi
   obtain ⟨j,j1,j2,j3,j4⟩:=BI.run hg n (i+1) _ r1 (by omega)
   have hi2:i<s.2.length:=by rw [h.len]; exact hi
   generalize hF:bfs are g n (i+1) (bRow are g s i)=F at *
   have f1:F.1[i]?=some s.1[i]:=j3 i _ (r2 i _ (List.getElem?_eq_getElem hi))
   have f2:F.2[i]?=some s.2[i]:=j4 i _ (r3 i _ (List.getElem?_eq_getElem hi2))
   have fz:(F.1.zip F.2)[i]?=some (s.1[i],s.2[i]):=by rw [List.getElem?_zip_eq_some]; exact ⟨f1,f2⟩
   have hlt:=(List.getElem?_eq_some_iff.1 fz).1
   rw [List.drop_eq_getElem_cons hlt] at hr
   have fe:(F.1.zip F.2)[i]=(s.1[i],s.2[i]):=(List.getElem?_eq_some_iff.1 fz).2
   rw [fe] at hr
   have g1:s.1.getD i 0=s.1[i]:=getD_of (List.getElem?_eq_getElem hi)
   have g2:s.2.getD i []=s.2[i]:=getD_of (List.getElem?_eq_getElem hi2)
   simp only [foldY] at hr
   have hb:=hB1 s i x hi h
   rw [g1,g2] at hb
   cases hy:yl (s.1[i],s.2[i]) x with
   | none=>rw [hy] at hr; cases hr
   | some y =>
    rw [hy,Option.bind_some] at hr hb
    cases y with
    | next x' =>
     simp only at hr hb
     refine whileO_on hb ?_
     have e:((i:Int)+1)=((i+1:Nat):Int):=by omega
     rw [e]
     refine outer_gen hB1 hB2 n (i+1) _ x' r r1 (by omega) ?_
     rw [hF]; exact hr
    | done e =>
     simp only at hr hb
     injection hr with hr; subst hr
     exact whileO_end hb
  ·rw [if_neg hi] at hr
   rw [List.drop_eq_nil_of_le (by rw [List.length_zip]; omega)] at hr
   injection hr with hr; subst hr
   exact whileO_end (hB2 s i x hi)
end
def found (are:Mv→Bool) (g:Gr) (from0:Int):List (Int×List Int):=(srch are g from0).1.zip (srch are g from0).2
theorem inner_eq {g:Gr} (hg:GOK g) {from0:Int} {S:Type} (R:Type) {i:Nat} {s:PW} (x:S) (h:BI (any) g from0 i s) (hi:i<s.1.length):whileO (progress_graph_paths_1_b2 S R g (s.1,s.2,(i:Int),x)) (s.1,s.2,0)=some (bRow (any) g s i):=by
 refine inner_gen hg h hi (fun k u hk hu=>?_) (fun u=>?_)
 ·have hml:=hg.len
  have kin:InK .i64 ((k:Int)+1):=by rw [inK_i64]; omega
  have hiu:i<u.1.length:=(List.getElem?_eq_some_iff.1 hu.at1).1
  have gp:u.1.getD i 0=s.1.getD i 0:=getD_of hu.at1
  unfold progress_graph_paths_1_b2
  simp only [Int.toNat_natCast]
  rw [if_pos (by rw [decide_eq_true_eq]; omega),ck_pos (by omega),ck_pos (by omega),ck_pos (by omega),ck_pos (by omega)]
  by_cases e:(g.2.getD k (0,0,0,false)).1=s.1.getD i 0
  ·rw [if_pos (by rw [decide_eq_true_eq]; exact e.trans gp.symm)]
   unfold progress_anyMove
   rw [Option.bind_some]
   exact tail_eq hg hu hk (way_few hg h) e rfl
  ·rw [if_neg (by rw [decide_eq_true_eq]; exact fun h=>e (h.trans gp)),ck_pos kin,rest_eq (i:=i) hg (fun h=>e h.1)]
 ·unfold progress_graph_paths_1_b2
  simp only
  rw [if_neg (by simp)]
theorem paths_ok {g:Gr} (hg:GOK g) {from0:Int} (hf:0≤from0∧from0<g.1) {S R:Type} (yl:Int×List Int→S→Option (Step S R)) (s0:S) {r:Sum S R} (hr:foldY yl (found (any) g from0) s0=some r):progress_graph_paths_1 S R from0 g yl s0=some r:=by
 have key:=outer_gen hg (are:=any) (from0:=from0) (yl:=yl) (B:=progress_graph_paths_1_b1 S R g yl) (fun s i x hi h=>by
  have hl:=h.len_le hg
  have hN:=hg.hi
  have hlen:=h.len
  unfold progress_graph_paths_1_b1
  simp only [Int.toNat_natCast]
  rw [if_pos (by rw [decide_eq_true_eq]; omega),ck_pos (by omega),ck_pos (by omega),ck_pos (by omega),ck_pos (by omega)]
  congr 1
  funext y
  cases y with
  | next x' =>
   simp only
   rw [inner_eq hg R x h hi,Option.bind_some]
   unfold progress_graph_paths_1_k1
   simp only
   rw [ck_pos (by rw [inK_i64]; omega)]
  | done e=>rfl) (fun s i x hi=>by
  unfold progress_graph_paths_1_b1
  simp only
  rw [if_neg (by rw [decide_eq_true_eq]; omega)]) 9 0 ([from0],[[]]) s0 r (BI.start hf) (by have:=hg.hi; omega) hr
 unfold progress_graph_paths_1
 have key':whileO (progress_graph_paths_1_b1 S R g yl) ([from0],[[]],0,s0)=_:=key
 rw [key',Option.bind_some]
 cases r<;>rfl
theorem inner_2_eq {g:Gr} (hg:GOK g) {from0:Int} {S:Type} (R:Type) {i:Nat} {s:PW} (x:S) (h:BI (k0) g from0 i s) (hi:i<s.1.length):whileO (progress_graph_paths_1_2_b2 S R g (s.1,s.2,(i:Int),x)) (s.1,s.2,0)=some (bRow (k0) g s i):=by
 refine inner_gen hg h hi (fun k u hk hu=>?_) (fun u=>?_)
 ·have hml:=hg.len
  have kin:InK .i64 ((k:Int)+1):=by rw [inK_i64]; omega
  have hiu:i<u.1.length:=(List.getElem?_eq_some_iff.1 hu.at1).1
  have gp:u.1.getD i 0=s.1.getD i 0:=getD_of hu.at1
  unfold progress_graph_paths_1_2_b2
  simp only [Int.toNat_natCast]
  rw [if_pos (by rw [decide_eq_true_eq]; omega),ck_pos (by omega),ck_pos (by omega),ck_pos (by omega),ck_pos (by omega)]
  by_cases e:(g.2.getD k (0,0,0,false)).1=s.1.getD i 0
  ·rw [if_pos (by rw [decide_eq_true_eq]; exact e.trans gp.symm)]
   unfold progress_statementOf_1
   rw [Option.bind_some]
   by_cases e2:k0 (g.2.getD k (0,0,0,false))=true
   ·rw [if_pos (by exact e2)]
    exact tail_eq hg hu hk (way_few hg h) e e2
   ·rw [if_neg (by exact e2),ck_pos kin,rest_eq (i:=i) hg (fun h=>e2 h.2)]
  ·rw [if_neg (by rw [decide_eq_true_eq]; exact fun h=>e (h.trans gp)),ck_pos kin,rest_eq (i:=i) hg (fun h=>e h.1)]
 ·unfold progress_graph_paths_1_2_b2
  simp only
  rw [if_neg (by simp)]
theorem paths_2_ok {g:Gr} (hg:GOK g) {from0:Int} (hf:0≤from0∧from0<g.1) {S R:Type} (yl:Int×List Int→S→Option (Step S R)) (s0:S) {r:Sum S R} (hr:foldY yl (found (k0) g from0) s0=some r):progress_graph_paths_1_2 S R from0 g yl s0=some r:=by
 have key:=outer_gen hg (are:=k0) (from0:=from0) (yl:=yl) (B:=progress_graph_paths_1_2_b1 S R g yl) (fun s i x hi h=>by
  have hl:=h.len_le hg
  have hN:=hg.hi
  have hlen:=h.len
  unfold progress_graph_paths_1_2_b1
  simp only [Int.toNat_natCast]
  rw [if_pos (by rw [decide_eq_true_eq]; omega),ck_pos (by omega),ck_pos (by omega),ck_pos (by omega),ck_pos (by omega)]
  congr 1
  funext y
  cases y with
  | next x' =>
   simp only
   rw [inner_2_eq hg R x h hi,Option.bind_some]
   unfold progress_graph_paths_1_2_k1
   simp only
   rw [ck_pos (by rw [inK_i64]; omega)]
  | done e=>rfl) (fun s i x hi=>by
  unfold progress_graph_paths_1_2_b1
  simp only
  rw [if_neg (by rw [decide_eq_true_eq]; omega)]) 9 0 ([from0],[[]]) s0 r (BI.start hf) (by have:=hg.hi; omega) hr
 unfold progress_graph_paths_1_2
 have key':whileO (progress_graph_paths_1_2_b1 S R g yl) ([from0],[[]],0,s0)=_:=key
 rw [key',Option.bind_some]
 cases r<;>rfl
theorem inner_3_eq {g:Gr} (hg:GOK g) {from0:Int} (c0:Int) {S:Type} (R:Type) {i:Nat} {s:PW} (x:S) (h:BI (notOwn c0) g from0 i s) (hi:i<s.1.length):whileO (progress_graph_paths_1_3_b2 S R g c0 (s.1,s.2,(i:Int),x)) (s.1,s.2,0)=some (bRow (notOwn c0) g s i):=by
 refine inner_gen hg h hi (fun k u hk hu=>?_) (fun u=>?_)
 ·have hml:=hg.len
  have kin:InK .i64 ((k:Int)+1):=by rw [inK_i64]; omega
  have hiu:i<u.1.length:=(List.getElem?_eq_some_iff.1 hu.at1).1
  have gp:u.1.getD i 0=s.1.getD i 0:=getD_of hu.at1
  unfold progress_graph_paths_1_3_b2
  simp only [Int.toNat_natCast]
  rw [if_pos (by rw [decide_eq_true_eq]; omega),ck_pos (by omega),ck_pos (by omega),ck_pos (by omega),ck_pos (by omega)]
  by_cases e:(g.2.getD k (0,0,0,false)).1=s.1.getD i 0
  ·rw [if_pos (by rw [decide_eq_true_eq]; exact e.trans gp.symm)]
   rw [stOf3_eq,Option.bind_some]
   by_cases e2:notOwn c0 (g.2.getD k (0,0,0,false))=true
   ·rw [if_pos e2]
    exact tail_eq hg hu hk (way_few hg h) e e2
   ·rw [if_neg e2,ck_pos kin,rest_eq (i:=i) hg (fun h=>e2 h.2)]
  ·rw [if_neg (by rw [decide_eq_true_eq]; exact fun h=>e (h.trans gp)),ck_pos kin,rest_eq (i:=i) hg (fun h=>e h.1)]
 ·unfold progress_graph_paths_1_3_b2
  simp only
  rw [if_neg (by simp)]
theorem paths_3_ok {g:Gr} (hg:GOK g) {from0:Int} (hf:0≤from0∧from0<g.1) (c0:Int) {S R:Type} (yl:Int×List Int→S→Option (Step S R)) (s0:S) {r:Sum S R} (hr:foldY yl (found (notOwn c0) g from0) s0=some r):progress_graph_paths_1_3 S R from0 g c0 yl s0=some r:=by
 have key:=outer_gen hg (are:=notOwn c0) (from0:=from0) (yl:=yl) (B:=progress_graph_paths_1_3_b1 S R g c0 yl) (fun s i x hi h=>by
  have hl:=h.len_le hg
  have hN:=hg.hi
  have hlen:=h.len
  unfold progress_graph_paths_1_3_b1
  simp only [Int.toNat_natCast]
  rw [if_pos (by rw [decide_eq_true_eq]; omega),ck_pos (by omega),ck_pos (by omega),ck_pos (by omega),ck_pos (by omega)]
  congr 1
  funext y
  cases y with
  | next x' =>
   simp only
   rw [inner_3_eq hg c0 R x h hi,Option.bind_some]
   unfold progress_graph_paths_1_3_k1
   simp only
   rw [ck_pos (by rw [inK_i64]; omega)]
  | done e=>rfl) (fun s i x hi=>by
  unfold progress_graph_paths_1_3_b1
  simp only
  rw [if_neg (by rw [decide_eq_true_eq]; omega)]) 9 0 ([from0],[[]]) s0 r (BI.start hf) (by have:=hg.hi; omega) hr
 unfold progress_graph_paths_1_3
 have key':whileO (progress_graph_paths_1_3_b1 S R g c0 yl) ([from0],[[]],0,s0)=_:=key
 rw [key',Option.bind_some]
 cases r<;>rfl
theorem inner_4_eq {g:Gr} (hg:GOK g) {from0:Int} (c0:Int) {S:Type} (R:Type) {i:Nat} {s:PW} (x:S) (h:BI (own c0) g from0 i s) (hi:i<s.1.length):whileO (progress_graph_paths_1_4_b2 S R g c0 (s.1,s.2,(i:Int),x)) (s.1,s.2,0)=some (bRow (own c0) g s i):=by
 refine inner_gen hg h hi (fun k u hk hu=>?_) (fun u=>?_)
 ·have hml:=hg.len
  have kin:InK .i64 ((k:Int)+1):=by rw [inK_i64]; omega
  have hiu:i<u.1.length:=(List.getElem?_eq_some_iff.1 hu.at1).1
  have gp:u.1.getD i 0=s.1.getD i 0:=getD_of hu.at1
  unfold progress_graph_paths_1_4_b2
  simp only [Int.toNat_natCast]
  rw [if_pos (by rw [decide_eq_true_eq]; omega),ck_pos (by omega),ck_pos (by omega),ck_pos (by omega),ck_pos (by omega)]
  by_cases e:(g.2.getD k (0,0,0,false)).1=s.1.getD i 0
  ·rw [if_pos (by rw [decide_eq_true_eq]; exact e.trans gp.symm)]
   rw [stOf2_eq,Option.bind_some]
   by_cases e2:own c0 (g.2.getD k (0,0,0,false))=true
   ·rw [if_pos e2]
    exact tail_eq hg hu hk (way_few hg h) e e2
   ·rw [if_neg e2,ck_pos kin,rest_eq (i:=i) hg (fun h=>e2 h.2)]
  ·rw [if_neg (by rw [decide_eq_true_eq]; exact fun h=>e (h.trans gp)),ck_pos kin,rest_eq (i:=i) hg (fun h=>e h.1)]
 ·unfold progress_graph_paths_1_4_b2
  simp only
  rw [if_neg (by simp)]
theorem paths_4_ok {g:Gr} (hg:GOK g) {from0:Int} (hf:0≤from0∧from0<g.1) (c0:Int) {S R:Type} (yl:Int×List Int→S→Option (Step S R)) (s0:S) {r:Sum S R} (hr:foldY yl (found (own c0) g from0) s0=some r):progress_graph_paths_1_4 S R from0 g c0 yl s0=some r:=by
 have key:=outer_gen hg (are:=own c0) (from0:=from0) (yl:=yl) (B:=progress_graph_paths_1_4_b1 S R g c0 yl) (fun s i x hi h=>by
  have hl:=h.len_le hg
  have hN:=hg.hi
  have hlen:=h.len
  unfold progress_graph_paths_1_4_b1
  simp only [Int.toNat_natCast]
  rw [if_pos (by rw [decide_eq_true_eq]; omega),ck_pos (by omega),ck_pos (by omega),ck_pos (by omega),ck_pos (by omega)]
  congr 1
  funext y
  cases y with
  | next x' =>
   simp only
   rw [inner_4_eq hg c0 R x h hi,Option.bind_some]
   unfold progress_graph_paths_1_4_k1
   simp only
   rw [ck_pos (by rw [inK_i64]; omega)]
  | done e=>rfl) (fun s i x hi=>by
  unfold progress_graph_paths_1_4_b1
  simp only
  rw [if_neg (by rw [decide_eq_true_eq]; omega)]) 9 0 ([from0],[[]]) s0 r (BI.start hf) (by have:=hg.hi; omega) hr
 unfold progress_graph_paths_1_4
 have key':whileO (progress_graph_paths_1_4_b1 S R g c0 yl) ([from0],[[]],0,s0)=_:=key
 rw [key',Option.bind_some]
 cases r<;>rfl
def ascK (k:Nat) (l:List Int):Prop:=∀ p q,p<q→q<k→l.getD p 0≤l.getD q 0
theorem ins_inner_asc (k:Nat):∀ (j:Nat) (l:List Int),j<k→k≤l.length→l.length≤8→(∀ p q,p<q→q<k→p≠j→q≠j→l.getD p 0≤l.getD q 0)→(∀ q,j<q→q<k→l.getD j 0≤l.getD q 0) →
  ∃ l',whileN (slices_insertionSortOrdered_b2 0) (j+1) (l,(j:Int))=some l'∧l'.Perm l∧ascK k l'
 | 0,l,hj,hk,hl,h1,h2=>by
  refine ⟨l,?_,.refl _,fun p q hpq hq=>?_⟩
  ·unfold whileN slices_insertionSortOrdered_b2
   rw [if_neg (by simp)]
  ·by_cases e:p=0
   ·subst e; exact h2 q hpq hq
   ·exact h1 p q hpq hq e (by omega)
 | j+1,l,hj,hk,hl,h1,h2=>by
  have e1:(((j+1:Nat):Int) - 1)=(j:Int):=by omega
  unfold whileN slices_insertionSortOrdered_b2
  simp only [e1,Int.toNat_natCast]
  rw [if_pos (by rw [decide_eq_true_eq]; omega),ck_pos (by omega),ck_pos (by omega),ck_pos (by rw [inK_i64]; omega),ck_pos (by omega),ck_pos (by omega)]
  unfold cmp_Less cmp_isNaN
  simp only [Option.bind_some]
  by_cases hlt:l.getD (j+1) 0<l.getD j 0
  ·rw [if_pos (by simpa using hlt),ck_pos (by rw [inK_i64]; omega),ck_pos (by rw [inK_i64]; omega),ck_pos (by omega),ck_pos (by omega),ck_pos (by omega),ck_pos (by omega),ck_pos (by omega),ck_pos (by omega),ck_pos (by omega),ck_pos (by rw [List.length_set]; omega),ck_pos (by rw [inK_i64]; omega)]
   have hg:∀ q,((l.set (j+1) (l.getD j 0)).set j (l.getD (j+1) 0)).getD q 0=if q=j then l.getD (j+1) 0 else if q=j+1 then l.getD j 0 else l.getD q 0:=fun q=>by
    rw [getD_setL (by rw [List.length_set]; omega),getD_setL (by omega)]
   obtain ⟨l',k1,k2,k3⟩:=ins_inner_asc k j ((l.set (j+1) (l.getD j 0)).set j (l.getD (j+1) 0)) (by omega) (by simp; omega) (by simpa using hl) (fun p q hpq hq hp hqj=>by
    rw [hg,hg,if_neg hp,if_neg hqj]
    by_cases a1:p=j+1
    ·rw [if_pos a1,if_neg (by omega)]; exact h1 j q (by omega) hq (by omega) (by omega)
    ·rw [if_neg a1]
     by_cases a2:q=j+1
     ·rw [if_pos a2]; exact h1 p j (by omega) (by omega) a1 (by omega)
     ·rw [if_neg a2]; exact h1 p q hpq hq a1 a2) (fun q hq hqk=>by
    rw [hg,hg,if_pos rfl,if_neg (by omega)]
    by_cases a2:q=j+1
    ·rw [if_pos a2]; omega
    ·rw [if_neg a2]; exact h2 q (by omega) hqk)
   have hperm:((l.set (j+1) (l.getD j 0)).set j (l.getD (j+1) 0)).Perm l:=by
    have g1:l.getD (j+1) 0=l[j+1]:=getD_of (List.getElem?_eq_getElem (by omega))
    have g2:l.getD j 0=l[j]:=getD_of (List.getElem?_eq_getElem (by omega))
    rw [g1,g2]
    exact List.set_set_perm (by omega) (by omega)
   exact ⟨l',k1,k2.trans hperm,k3⟩
  ·rw [if_neg (by simpa using hlt)]
   refine ⟨l,rfl,.refl _,fun p q hpq hq=>?_⟩
   by_cases a2:q=j+1
   ·subst a2
    by_cases a1:p=j
    ·subst a1; omega
    ·have:=h1 p j (by omega) (by omega) (by omega) (by omega)
     omega
   ·by_cases a1:p=j+1
    ·subst a1; exact h2 q hpq hq
    ·exact h1 p q hpq hq a1 a2
theorem ins_outer_asc (n:Nat) (hn:n≤8):∀ (d k:Nat) (l:List Int),n - k=d→k≤n→l.length=n→ascK k l→∃ l',whileN (slices_insertionSortOrdered_b1 0 n) (d+1) (l,(k:Int))=some l'∧l'.Perm l∧ascK n l':=by
 intro d
 induction d with
 | zero =>
  intro k l hd hk hl ha
  have:k=n:=by omega
  subst this
  refine ⟨l,?_,.refl _,ha⟩
  unfold whileN slices_insertionSortOrdered_b1
  rw [if_neg (by rw [decide_eq_true_eq]; omega)]
 | succ d ih =>
  intro k l hd hk hl ha
  obtain ⟨l1,h1,h2,h3⟩:=ins_inner_asc (k+1) k l (by omega) (by omega) (by omega) (fun p q hpq hq hp hqk=>ha p q hpq (by omega)) (fun q hq hqk=>by omega)
  obtain ⟨l',h4,h5,h6⟩:=ih (k+1) l1 (by omega) (by omega) (by rw [h2.length_eq]; exact hl) h3
  refine ⟨l',?_,h5.trans h2,h6⟩
  unfold whileN
  have hb:slices_insertionSortOrdered_b1 0 n (l,(k:Int))=some (.next (l1,((k+1:Nat):Int))):=by
   unfold slices_insertionSortOrdered_b1
   rw [if_pos (by rw [decide_eq_true_eq]; omega),whileO_of h1,Option.bind_some]
   unfold slices_insertionSortOrdered_k1
   have hk':InK .i64 ((k:Int)+1):=by rw [inK_i64]; omega
   rw [ck_pos hk']
   rfl
  rw [hb]
  exact h4
theorem Sort_asc (xs:List Int) (h:xs.length≤8):∃ ys,slices_Sort xs=some ys∧ys.Perm xs∧ys.Pairwise (·≤·):=by
 have hins:∃ ys,slices_insertionSortOrdered 0 (xs.length:Int) xs=some ys∧ys.Perm xs∧ascK xs.length ys:=by
  cases hx:xs with
  | nil =>
   refine ⟨[],?_,.refl _,fun p q hpq hq=>by simp at hq⟩
   unfold slices_insertionSortOrdered
   have:whileO (slices_insertionSortOrdered_b1 0 (([]:List Int).length:Int)) ([],0+1)=some []:=whileO_of (n:=1) (by
    unfold whileN slices_insertionSortOrdered_b1
    rw [if_neg (by simp)])
   rw [ck_pos (by rw [inK_i64]; omega),this,Option.bind_some]
  | cons x r =>
   rw [← hx]
   have hpos:1≤xs.length:=by rw [hx]; simp
   obtain ⟨ys,h1,h2,h3⟩:=ins_outer_asc xs.length h (xs.length - 1) 1 xs (by omega) hpos rfl (fun p q hpq hq=>by omega)
   refine ⟨ys,?_,h2,h3⟩
   unfold slices_insertionSortOrdered
   have h1':whileO (slices_insertionSortOrdered_b1 0 (xs.length:Int)) (xs,0+1)=some ys:=whileO_of h1
   rw [ck_pos (by rw [inK_i64]; omega),h1',Option.bind_some]
 obtain ⟨ys,h1,h2,h3⟩:=hins
 refine ⟨ys,?_,h2,?_⟩
 ·unfold slices_Sort math_bits_Len
  rw [ck_pos (by unfold InK; simp [IntKind.min,IntKind.max,IntKind.signed,IntKind.bits]; omega),ck_pos (by omega),ck_pos (by omega),Option.bind_some]
  unfold slices_pdqsortOrdered
  have hb:∀ v,slices_pdqsortOrdered_b1 0 (xs.length:Int) v xs ()=some (.done ys):=by
   intro v
   unfold slices_pdqsortOrdered_b1
   rw [ck_pos (by rw [inK_i64]; omega),if_pos (by rw [decide_eq_true_eq]; omega),h1,Option.bind_some]
  rw [whileO_of (n:=1) (by unfold whileN; rw [hb])]
  rfl
 ·rw [List.pairwise_iff_getElem]
  intro i j hi hj hij
  have:=h3 i j hij (by rw [← h2.length_eq]; exact hj)
  rw [getD_of (List.getElem?_eq_getElem hi),getD_of (List.getElem?_eq_getElem hj)] at this
  exact this
theorem Sort_eq (x:List Int) (h:x.length≤8):slices_Sort x=some (srt x):=by
 obtain ⟨y,h1,h2,h3⟩:=Sort_asc x h
 rw [h1,srt_eq h3 h2]
/-! ### Reached places -/
abbrev R0 (g:Gr) (p:Int):Prop:=rch any g 0 p
def reachL (g:Gr):List Int:=srt (srch any g 0).1
theorem zero_in {g:Gr} (hg:GOK g):(0:Int)≤0∧(0:Int)<g.1:=⟨Int.le_refl _,by have:=hg.lo; omega⟩
theorem srch_few {are:Mv→Bool} {g:Gr} (hg:GOK g) {from0:Int} (hf:0≤from0∧from0<g.1):(srch are g from0).1.length≤8∧(srch are g from0).2.length=(srch are g from0).1.length:=by
 obtain ⟨j,h,_⟩:=srch_ok (are:=are) hg hf
 have:=h.len_le hg
 have:=hg.hi
 exact ⟨by omega,h.len⟩
theorem reachL_mem {g:Gr} {p:Int}:p∈reachL g↔R0 g p:=(srt_perm _).mem_iff
theorem reachL_len {g:Gr} (hg:GOK g):(reachL g).length≤8:=by
 unfold reachL
 rw [(srt_perm _).length_eq]
 exact (srch_few hg (zero_in hg)).1
theorem fold_app {α:Type} {yl:Int×List Int→List Int→Option (Step (List Int) α)}:∀ (L:List (Int×List Int)) (s:List Int),(∀ y∈L,∀ s:List Int,s.length≤1000→yl y s=some (.next (s++[y.1])))→s.length+L.length≤1000→foldY yl L s=some (.inl (s++L.map (·.1)))
 | [],s,_,_=>by simp [foldY]
 | y::L,s,h,hl=>by
  simp only [List.length_cons] at hl
  simp only [foldY]
  rw [h y (by simp) s (by omega),Option.bind_some]
  simp only
  rw [fold_app L (s++[y.1]) (fun z hz=>h z (by simp [hz])) (by rw [List.length_append,List.length_singleton]; omega)]
  simp
theorem reached_eq {g:Gr} (hg:GOK g):progress_graph_reached g=some (reachL g):=by
 have hf:=srch_few (are:=any) hg (zero_in hg)
 have hz:(found any g 0).map (·.1)=(srch any g 0).1:=by
  unfold found
  rw [List.map_fst_zip]
  omega
 have hl:(found any g 0).length=(srch any g 0).1.length:=by rw [← hz,List.length_map]
 have hy:=fold_app (found any g 0) [] (yl:=progress_graph_reached_y1) (fun y _ s hs=>by unfold progress_graph_reached_y1; rw [ck_pos (by omega)]) (by simp; omega)
 rw [List.nil_append,hz] at hy
 unfold progress_graph_reached
 have e0:progress_graph_paths g 0=some ():=rfl
 rw [e0,Option.bind_some,paths_ok hg (zero_in hg) progress_graph_reached_y1 [] hy,Option.bind_some]
 simp only
 unfold progress_graph_reached_k1
 rw [Sort_eq _ hf.1,Option.bind_some]
 rfl
/-! ### The reference's places -/
def rStep (g:Gr) (b:List Bool) (k:Nat):List Bool:=b.set (g.2.getD k (0,0,0,false)).2.2.1.toNat (b.getD (g.2.getD k (0,0,0,false)).2.2.1.toNat false || b.getD (g.2.getD k (0,0,0,false)).1.toNat false)
def rRnd (g:Gr) (b:List Bool):List Bool:=(List.range g.2.length).foldl (rStep g) b
section
variable {g:Gr} (hg:GOK g)
include hg
theorem rStep_at {b:List Bool} (hb:b.length=g.1.toNat) {k:Nat} (hk:k<g.2.length) (q:Nat):(rStep g b k).getD q false=if q=(g.2.getD k (0,0,0,false)).2.2.1.toNat then (b.getD q false || b.getD (g.2.getD k (0,0,0,false)).1.toNat false) else b.getD q false:=by
 have hm:=hg.mv _ (getD_in (d:=(0,0,0,false)) hk)
 unfold rStep
 rw [getD_setL (by omega)]
 split
 ·rename_i e; rw [e]
 ·rfl
theorem rStep_len (b:List Bool) (k:Nat):(rStep g b k).length=b.length:=by unfold rStep; simp
theorem rRnd_ok {b:List Bool} (hb:b.length=g.1.toNat):∀ k,k≤g.2.length→((List.range k).foldl (rStep g) b).length=g.1.toNat∧(∀ q,b.getD q false=true→((List.range k).foldl (rStep g) b).getD q false=true) ∧
  (∀ j,j<k→b.getD (g.2.getD j (0,0,0,false)).1.toNat false=true→((List.range k).foldl (rStep g) b).getD (g.2.getD j (0,0,0,false)).2.2.1.toNat false=true) ∧
  ∀ S:Nat→Prop,(∀ q,b.getD q false=true→S q)→(∀ m∈g.2,S m.1.toNat→S m.2.2.1.toNat)→∀ q,((List.range k).foldl (rStep g) b).getD q false=true→S q
 | 0,_=>⟨hb,fun _ h=>h,fun j hj=>absurd hj (Nat.not_lt_zero j),fun S h0 _ q hq=>h0 q hq⟩
 | k+1,hk=>by
  obtain ⟨h1,h2,h3,h4⟩:=rRnd_ok hb k (by omega)
  rw [List.range_succ,List.foldl_append,List.foldl_cons,List.foldl_nil]
  generalize (List.range k).foldl (rStep g) b=c at *
  have hs:=rStep_at hg h1 (k:=k) (by omega)
  refine ⟨by rw [rStep_len hg,h1],fun q hq=>?_,fun j hj hf=>?_,fun S s0 sc q hq=>?_⟩
  ·rw [hs,h2 q hq]; split<;>simp
  ·rw [hs]
   by_cases e:j=k
   ·subst e
    rw [if_pos rfl,h2 _ hf]; simp
   ·rw [h3 j (by omega) hf]; split<;>simp
  ·rw [hs] at hq
   split at hq
   ·rename_i e
    rw [Bool.or_eq_true] at hq
    rcases hq with hq|hq
    ·exact h4 S s0 sc q hq
    ·rw [e]; exact sc _ (getD_in (by omega)) (h4 S s0 sc _ hq)
   ·exact h4 S s0 sc q hq
def rRnds (g:Gr):Nat→List Bool
 | 0=>(List.replicate g.1.toNat false).set 0 true
 | n+1=>rRnd g (rRnds g n)
theorem rRnds_ok:∀ n,(rRnds g n).length=g.1.toNat∧(∀ q:Nat,(rRnds g n).getD q false=true→R0 g (q:Int))∧(∀ (w:List Int) (q:Int),w.length≤n→leadL g 0 w=some q→(rRnds g n).getD q.toNat false=true)
 | 0=>by
  have h0:0<g.1.toNat:=by have:=hg.lo; omega
  unfold rRnds
  refine ⟨by simp,fun q hq=>?_,fun w q hw hl=>?_⟩
  ·rw [getD_setL (by simpa using h0)] at hq
   split at hq
   ·rename_i e; subst e; exact rch_refl hg (zero_in hg)
   ·exfalso
    simp [List.getD,List.getElem?_replicate] at hq
    split at hq<;>simp at hq
  ·have:w=[]:=List.eq_nil_of_length_eq_zero (by omega)
   subst this
   injection hl with hl; subst hl
   rw [getD_setL (by simpa using h0)]
   rfl
 | n+1=>by
  obtain ⟨h1,h2,h3⟩:=rRnds_ok n
  obtain ⟨k1,k2,k3,k4⟩:=rRnd_ok hg h1 g.2.length (Nat.le_refl _)
  refine ⟨k1,fun q hq=>?_,fun w q hw hl=>?_⟩
  ·refine k4 (fun q=>R0 g (q:Int)) h2 (fun m hm hq=>?_) q hq
   have:=hg.mv m hm
   have hq':R0 g m.1:=by rw [Int.toNat_of_nonneg this.1.1] at hq; exact hq
   rw [Int.toNat_of_nonneg this.2.1.1]
   exact rch_step hg (zero_in hg) hm hq' rfl
  ·rcases List.eq_nil_or_concat w with rfl|⟨w',i,rfl⟩
   ·injection hl with hl; subst hl
    exact k2 _ (h3 [] 0 (by simp) rfl)
   ·rw [List.concat_eq_append] at hw hl
    rw [List.length_append,List.length_singleton] at hw
    rw [leadL_append,Option.bind_eq_some_iff] at hl
    obtain ⟨p,l1,l2⟩:=hl
    rw [leadL_cons] at l2
    split at l2
    ·rename_i hc
     injection l2 with l2; subst l2
     have hi:=isB_iff.1 hc.1
     refine k3 i.toNat (by omega) ?_
     rw [hc.2]
     exact h3 w' p (by omega) l1
    ·cases l2
theorem rRnds_all (n:Nat) (hn:g.1.toNat≤n) (q:Nat):(rRnds g n).getD q false=decide (R0 g (q:Int)):=by
 obtain ⟨h1,h2,h3⟩:=rRnds_ok hg n
 rw [Bool.eq_iff_iff,decide_eq_true_iff]
 refine ⟨h2 q,fun h=>?_⟩
 obtain ⟨j,hB,_⟩:=srch_ok (are:=any) hg (zero_in hg)
 obtain ⟨a,ha,hae⟩:=List.mem_iff_getElem.1 h
 have ha2:a<(srch any g 0).2.length:=by rw [hB.len]; exact ha
 have hw:=hB.way a _ _ (List.getElem?_eq_getElem ha) (List.getElem?_eq_getElem ha2)
 have:=hB.len_le hg
 have:=h3 _ _ (by omega) hw.1
 rwa [hae] at this
theorem rreached_in (b:List Bool) (hb:b.length=g.1.toNat):whileO (linealref07_reached_b2 g) (b,0)=some (rRnd g b):=by
 have key:=whileO_iter (body:=linealref07_reached_b2 g) (fun (s:List Bool) (k:Int)=>(s,k)) g.2.length (fun k s=>rStep g s k) id (fun _ s=>s.length=g.1.toNat) (s0:=b) hb
  (fun k s hk hs=>by
   have hm:=hg.mv _ (getD_in (d:=(0,0,0,false)) hk)
   have hl:=hg.len
   refine ⟨?_,by rw [rStep_len hg,hs]⟩
   unfold linealref07_reached_b2 rStep
   simp only [Int.toNat_natCast]
   rw [if_pos (by rw [decide_eq_true_eq]; omega),ck_pos (by omega),ck_pos (by omega),ck_pos (by omega),ck_pos (by omega)]
   cases h:s.getD (g.2.getD k (0,0,0,false)).2.2.1.toNat false with
   | true=>rw [if_pos (by rfl),ck_pos (by omega),ck_pos (by omega),ck_pos (by rw [inK_i64]; omega)]; rfl
   | false=>rw [if_neg (by simp),ck_pos (by omega),ck_pos (by omega),ck_pos (by omega),ck_pos (by omega),ck_pos (by rw [inK_i64]; omega)]; rfl)
  (fun s _=>by
   unfold linealref07_reached_b2
   rw [if_neg (by simp)]
   rfl)
 exact key.1
theorem rreached_eq:linealref07_reached g=some (rRnds g g.1.toNat):=by
 have hlo:=hg.lo
 have hhi:=hg.hi
 have key:=whileO_seq (body:=linealref07_reached_b1 g) (fun n=>(rRnds g n,(n:Int))) g.1.toNat (r:=rRnds g g.1.toNat) (fun n hn=>by
  unfold linealref07_reached_b1
  simp only
  rw [if_pos (by rw [decide_eq_true_eq]; omega),rreached_in hg _ (rRnds_ok hg n).1,Option.bind_some]
  unfold linealref07_reached_k2
  simp only
  rw [ck_pos (by rw [inK_i64]; omega)]
  have e:((n:Int)+1)=((n+1:Nat):Int):=by omega
  rw [e]; rfl) (by
  unfold linealref07_reached_b1
  simp only
  rw [if_neg (by rw [decide_eq_true_eq]; omega)])
 unfold linealref07_reached
 rw [ck_pos (by omega),ck_pos (by omega),ck_pos (by rw [List.length_replicate]; omega)]
 have key':whileO (linealref07_reached_b1 g) ((List.replicate g.1.toNat (false:Bool)).set 0 true,0)=some (rRnds g g.1.toNat):=key
 rw [key',Option.bind_some]
 rfl
def thereL (g:Gr):List Bool:=rRnds g g.1.toNat
theorem thereL_len:(thereL g).length=g.1.toNat:=(rRnds_ok hg _).1
theorem thereL_at (q:Nat):(thereL g).getD q false=decide (R0 g (q:Int)):=rRnds_all hg _ (Nat.le_refl _) q
end
end Go.Proofs.Yteclokkdgmacpaa
