import Derived.Test.YteclokkdgmacpaaTy7
import Derived.Test.YteclokkdgmacpaaBl7
namespace Go.Proofs.Yteclokkdgmacpaa
open Go.RowKit
set_option linter.unusedSimpArgs false
set_option linter.unusedVariables false
set_option linter.constructorNameAsVariable false
abbrev ZS:Type:=List (Int×Int×(List (List Int))×(List (List Int)))
abbrev ZH:Type:=List (Int×Int×Int×Int×Int×Int)
abbrev ZM:Type:=List (((Int×Int)×Int)×Int)
/- lineal/progress.isBelow -/
noncomputable def progress_isBelow (number:Int) (end0:Int):Option Bool :=
  if (decide (0≤number))=true then
  some (decide (number<end0))
  else
  some false
/- lineal/progress.isThread -/
noncomputable def progress_isThread (thread:Int):Option Bool :=
  (progress_isBelow thread 3).bind fun v0 =>
  some v0
/- slices.Index[[]lineal/api.Move,lineal/api.Move] -/
noncomputable def slices_Index_k1:Option Int :=
  some (-1)
noncomputable def slices_Index_b1 (s:List (Int×Int×Int×Bool)) (v0:Int×Int×Int×Bool) (st1:Int):Option (Step Int (Sum Int Unit)) :=
  if (decide (st1<(s.length:Int)))=true then
  ck (0≤st1) <| ck (st1<(s.length:Int)) <| ck (InK .i64 v0.1) <| ck (InK .i64 v0.2.1) <| ck (InK .i64 v0.2.2.1) <| ck (InK .i64 (s.getD st1.toNat (0,0,0,false)).1) <| ck (InK .i64 (s.getD st1.toNat (0,0,0,false)).2.1) <| ck (InK .i64 (s.getD st1.toNat (0,0,0,false)).2.2.1) <| if (decide (v0=(s.getD st1.toNat (0,0,0,false))))=true then
  some (.done (Sum.inl st1))
  else
  ck (InK .i64 (st1+1)) <| some (.next (st1+1))
  else
  some (.done (Sum.inr ()))
noncomputable def slices_Index (s:List (Int×Int×Int×Bool)) (v0:Int×Int×Int×Bool):Option Int :=
  (whileO (slices_Index_b1 s v0) 0).bind fun x=>match x with
  | .inl r1=>(some r1)
  | .inr _=>(slices_Index_k1)
/- slices.Contains[[]lineal/api.Move,lineal/api.Move] -/
noncomputable def slices_Contains (s:List (Int×Int×Int×Bool)) (v0:Int×Int×Int×Bool):Option Bool :=
  (slices_Index s v0).bind fun v0_2 =>
  some (decide (0≤v0_2))
/- lineal/progress.Valid -/
noncomputable def progress_Valid_k1:Option Bool :=
  some true
noncomputable def progress_Valid_b1 (g:Int×(List (Int×Int×Int×Bool))) (st1:Int):Option (Step Int (Sum Unit Unit)) :=
  if (decide (st1<(g.2.length:Int)))=true then
  ck (0≤st1) <| ck (st1<(g.2.length:Int)) <| (progress_isBelow (g.2.getD st1.toNat (0,0,0,false)).1 g.1).bind fun v0 =>
  if (!v0)=true then
  some (.done (Sum.inl ()))
  else
  (progress_isBelow (g.2.getD st1.toNat (0,0,0,false)).2.2.1 g.1).bind fun v0_2 =>
  if (!v0_2)=true then
  some (.done (Sum.inl ()))
  else
  (progress_isThread (g.2.getD st1.toNat (0,0,0,false)).2.1).bind fun v0_3 =>
  if (!v0_3)=true then
  some (.done (Sum.inl ()))
  else
  ck (0≤st1) <| ck (st1≤(g.2.length:Int)) <| (slices_Contains (g.2.take st1.toNat) (g.2.getD st1.toNat (0,0,0,false))).bind fun v0_4 =>
  if v0_4=true then
  some (.done (Sum.inl ()))
  else
  ck (InK .i64 (st1+1)) <| some (.next (st1+1))
  else
  some (.done (Sum.inr ()))
noncomputable def progress_Valid (g:Int×(List (Int×Int×Int×Bool))):Option Bool :=
  if (decide (g.1<1))=true then
  some false
  else
  if (decide (8<g.1))=true then
  some false
  else
  if (decide (20<(g.2.length:Int)))=true then
  some false
  else
  (whileO (progress_Valid_b1 g) 0).bind fun x=>match x with
  | .inl _=>(some false)
  | .inr _=>(progress_Valid_k1)
/- lineal/progress.graphOf -/
noncomputable def progress_graphOf (g:Int×(List (Int×Int×Int×Bool))):Option (Int×(List (Int×Int×Int×Bool))×Int) :=
  (progress_Valid g).bind fun v0 =>
  if (!v0)=true then
  some (0,[],70)
  else
  some (g.1,g.2,0)
/- lineal/progress.statementOf -/
noncomputable def progress_statementOf_k1 (claim:Int) (v0:Int×(List (Int×Int×Int×Bool))×Int):Option (Sum Int (Sum (Int×(List (Int×Int×Int×Bool))) (Sum (Int×(List (Int×Int×Int×Bool))) (Int×(List (Int×Int×Int×Bool)))))) :=
  if (decide (claim=0))=true then
  some (Sum.inr (Sum.inl (v0.1,v0.2.1)))
  else
  if (decide (claim=1))=true then
  some (Sum.inr (Sum.inr (Sum.inl (v0.1,v0.2.1))))
  else
  some (Sum.inr (Sum.inr (Sum.inr (v0.1,v0.2.1))))
noncomputable def progress_statementOf (g:Int×(List (Int×Int×Int×Bool))) (claim:Int) (thread:Int):Option (Sum Int (Sum (Int×(List (Int×Int×Int×Bool))) (Sum (Int×(List (Int×Int×Int×Bool))) (Int×(List (Int×Int×Int×Bool)))))) :=
  (progress_graphOf g).bind fun v0 =>
  if (!(decide (v0.2.2=0)))=true then
  some (Sum.inl v0.2.2)
  else
  (progress_isBelow claim 3).bind fun v0_2 =>
  if (!v0_2)=true then
  some (Sum.inl 2)
  else
  (progress_isThread thread).bind fun v0_3 =>
  if (!v0_3)=true then
  some (Sum.inl 2)
  else
  if (decide (claim=0))=true then
  if (!(decide (thread=0)))=true then
  some (Sum.inl 2)
  else
  progress_statementOf_k1 claim v0
  else
  progress_statementOf_k1 claim v0
/- (lineal/progress.graph).paths -/
noncomputable def progress_graph_paths (g:Int×(List (Int×Int×Int×Bool))) (from0:Int):Option Unit :=
  some ()
/- lineal/progress.anyMove -/
noncomputable def progress_anyMove (a0:Int×Int×Int×Bool):Option Unit :=
  some ()
/- slices.Index[[]int,int] -/
noncomputable def slices_Index_2_k1:Option Int :=
  some (-1)
noncomputable def slices_Index_2_b1 (s:List Int) (v0:Int) (st1:Int):Option (Step Int (Sum Int Unit)) :=
  if (decide (st1<(s.length:Int)))=true then
  ck (0≤st1) <| ck (st1<(s.length:Int)) <| if (decide (v0=(s.getD st1.toNat 0)))=true then
  some (.done (Sum.inl st1))
  else
  ck (InK .i64 (st1+1)) <| some (.next (st1+1))
  else
  some (.done (Sum.inr ()))
noncomputable def slices_Index_2 (s:List Int) (v0:Int):Option Int :=
  (whileO (slices_Index_2_b1 s v0) 0).bind fun x=>match x with
  | .inl r1=>(some r1)
  | .inr _=>(slices_Index_2_k1)
/- slices.Contains[[]int,int] -/
noncomputable def slices_Contains_2 (s:List Int) (v0:Int):Option Bool :=
  (slices_Index_2 s v0).bind fun v0_2 =>
  some (decide (0≤v0_2))
/- slices.Grow[[]int,int] -/
noncomputable def slices_Grow (n:Int):Option Unit :=
  if (decide (n<0))=true then
  none
  else
  ck (InK .i64 (0 - 0)) <| ck (InK .i64 (n - (0 - 0))) <| if (decide (0<(n - (0 - 0))))=true then
  ck (0<(n - (0 - 0))) <| ck ((n - (0 - 0))≤9223372036854775806) <| ck (8*(n - (0 - 0))≤281474976710656) <| ck (0≤0) <| ck (0≤((List.replicate (n - (0 - 0)).toNat (0:Int)).length:Int)) <| some ()
  else
  some ()
/- slices.Concat[[]int,int] -/
noncomputable def slices_Concat_k2 (b2:(List Int)):Option ((List Int)) :=
  some b2
noncomputable def slices_Concat_b2 (slices:List (List Int)) (st2:(List Int)×Int):Option (Step ((List Int)×Int) ((List Int))) :=
  if (decide (st2.2<(slices.length:Int)))=true then
  ck (0≤st2.2) <| ck (st2.2<(slices.length:Int)) <| ck ((st2.1.length+(slices.getD st2.2.toNat []).length)*8≤140737488355328) <| ck (InK .i64 (st2.2+1)) <| some (.next ((st2.1++(slices.getD st2.2.toNat [])),(st2.2+1)))
  else
  some (.done st2.1)
noncomputable def slices_Concat_k1 (slices:List (List Int)) (b1:Int):Option ((List Int)) :=
  (slices_Grow b1).bind fun v0 =>
  (whileO (slices_Concat_b2 slices) ([],0)).bind fun r2 =>
  slices_Concat_k2 r2
noncomputable def slices_Concat_b1 (slices:List (List Int)) (st1:Int×Int):Option (Step (Int×Int) Int) :=
  if (decide (st1.2<(slices.length:Int)))=true then
  ck (0≤st1.2) <| ck (st1.2<(slices.length:Int)) <| ck (InK .i64 (st1.1+((slices.getD st1.2.toNat []).length:Int))) <| if (decide ((st1.1+((slices.getD st1.2.toNat []).length:Int))<0))=true then
  none
  else
  ck (InK .i64 (st1.2+1)) <| some (.next ((st1.1+((slices.getD st1.2.toNat []).length:Int)),(st1.2+1)))
  else
  some (.done st1.1)
noncomputable def slices_Concat (slices:List (List Int)):Option ((List Int)) :=
  (whileO (slices_Concat_b1 slices) (0,0)).bind fun r1 =>
  slices_Concat_k1 slices r1
/- (lineal/progress.graph).paths$1 -/
noncomputable def progress_graph_paths_1_k1 (S R:Type) (st1:(List Int)×(List (List Int))×Int×S) (b1:(List Int)×(List (List Int))×S):Option (Step ((List Int)×(List (List Int))×Int×S) (Sum R S)) :=
  ck (InK .i64 (st1.2.2.1+1)) <| some (.next (b1.1,b1.2.1,(st1.2.2.1+1),b1.2.2))
noncomputable def progress_graph_paths_1_b2 (S R:Type) (a2:Int×(List (Int×Int×Int×Bool))) (st1:(List Int)×(List (List Int))×Int×S) (st2:(List Int)×(List (List Int))×Int):Option (Step ((List Int)×(List (List Int))×Int) ((List Int)×(List (List Int)))) :=
  if (decide (st2.2.2<(a2.2.length:Int)))=true then
  ck (0≤st2.2.2) <| ck (st2.2.2<(a2.2.length:Int)) <| ck (0≤st1.2.2.1) <| ck (st1.2.2.1<(st2.1.length:Int)) <| if (decide ((a2.2.getD st2.2.2.toNat (0,0,0,false)).1=(st2.1.getD st1.2.2.1.toNat 0)))=true then
  (progress_anyMove (a2.2.getD st2.2.2.toNat (0,0,0,false))).bind fun v0 =>
  (slices_Contains_2 st2.1 (a2.2.getD st2.2.2.toNat (0,0,0,false)).2.2.1).bind fun v0_2 =>
  if (!v0_2)=true then
  ck ((st2.1.length+1)*8≤140737488355328) <| ck (0≤st1.2.2.1) <| ck (st1.2.2.1<(st2.2.1.length:Int)) <| (slices_Concat [(st2.2.1.getD st1.2.2.1.toNat []),[st2.2.2]]).bind fun v0_3 =>
  ck ((st2.2.1.length+1)*24≤140737488355328) <| ck (InK .i64 (st2.2.2+1)) <| some (.next ((st2.1++[(a2.2.getD st2.2.2.toNat (0,0,0,false)).2.2.1]),(st2.2.1++[v0_3]),(st2.2.2+1)))
  else
  ck (InK .i64 (st2.2.2+1)) <| some (.next (st2.1,st2.2.1,(st2.2.2+1)))
  else
  ck (InK .i64 (st2.2.2+1)) <| some (.next (st2.1,st2.2.1,(st2.2.2+1)))
  else
  some (.done (st2.1,st2.2.1))
noncomputable def progress_graph_paths_1_b1 (S R:Type) (a2:Int×(List (Int×Int×Int×Bool))) (yl:Int×(List Int)→S→Option (Step S R)) (st1:(List Int)×(List (List Int))×Int×S):Option (Step ((List Int)×(List (List Int))×Int×S) (Sum R S)) :=
  if (decide (st1.2.2.1<(st1.1.length:Int)))=true then
  ck (0≤st1.2.2.1) <| ck (st1.2.2.1<(st1.1.length:Int)) <| ck (0≤st1.2.2.1) <| ck (st1.2.2.1<(st1.2.1.length:Int)) <| (yl ((st1.1.getD st1.2.2.1.toNat 0),(st1.2.1.getD st1.2.2.1.toNat [])) st1.2.2.2).bind fun x=>match x with
  | .next s=>((whileO (progress_graph_paths_1_b2 S R a2 st1) (st1.1,st1.2.1,0)).bind fun r2 =>
  progress_graph_paths_1_k1 S R st1 (r2.1,r2.2,s))
  | .done e=>(some (.done (Sum.inl e)))
  else
  some (.done (Sum.inr st1.2.2.2))
noncomputable def progress_graph_paths_1 (S R:Type) (a1:Int) (a2:Int×(List (Int×Int×Int×Bool))) (yl:Int×(List Int)→S→Option (Step S R)) (s0:S):Option (Sum S R) :=
  (whileO (progress_graph_paths_1_b1 S R a2 yl) ([a1],[[]],0,s0)).bind fun x=>match x with
  | .inl r1=>(some (Sum.inr r1))
  | .inr r1_2=>(some (Sum.inl r1_2))
/- cmp.isNaN[int] -/
noncomputable def cmp_isNaN (x0:Int):Option Unit :=
  some ()
/- cmp.Less[int] -/
noncomputable def cmp_Less (x0:Int) (y:Int):Option Unit :=
  (cmp_isNaN x0).bind fun v0 =>
  some ()
/- slices.insertionSortOrdered[int] -/
noncomputable def slices_insertionSortOrdered_k1 (st1:(List Int)×Int) (b1:(List Int)):Option (Step ((List Int)×Int) ((List Int))) :=
  ck (InK .i64 (st1.2+1)) <| some (.next (b1,(st1.2+1)))
noncomputable def slices_insertionSortOrdered_b2 (a:Int) (st2:(List Int)×Int):Option (Step ((List Int)×Int) ((List Int))) :=
  if (decide (a<st2.2))=true then
  ck (0≤st2.2) <| ck (st2.2<(st2.1.length:Int)) <| ck (InK .i64 (st2.2 - 1)) <| ck (0≤(st2.2 - 1)) <| ck ((st2.2 - 1)<(st2.1.length:Int)) <| (cmp_Less (st2.1.getD st2.2.toNat 0) (st2.1.getD (st2.2 - 1).toNat 0)).bind fun v0 =>
  if (decide ((st2.1.getD st2.2.toNat 0)<(st2.1.getD (st2.2 - 1).toNat 0)))=true then
  ck (InK .i64 (st2.2 - 1)) <| ck (InK .i64 (st2.2 - 1)) <| ck (0≤(st2.2 - 1)) <| ck ((st2.2 - 1)<(st2.1.length:Int)) <| ck (0≤st2.2) <| ck (st2.2<(st2.1.length:Int)) <| ck (0≤st2.2) <| ck (st2.2<(st2.1.length:Int)) <| ck (0≤(st2.2 - 1)) <| ck ((st2.2 - 1)<((st2.1.set st2.2.toNat (st2.1.getD (st2.2 - 1).toNat 0)).length:Int)) <| ck (InK .i64 (st2.2 - 1)) <| some (.next (((st2.1.set st2.2.toNat (st2.1.getD (st2.2 - 1).toNat 0)).set (st2.2 - 1).toNat (st2.1.getD st2.2.toNat 0)),(st2.2 - 1)))
  else
  some (.done st2.1)
  else
  some (.done st2.1)
noncomputable def slices_insertionSortOrdered_b1 (a:Int) (b:Int) (st1:(List Int)×Int):Option (Step ((List Int)×Int) ((List Int))) :=
  if (decide (st1.2<b))=true then
  (whileO (slices_insertionSortOrdered_b2 a) st1).bind fun r2 =>
  slices_insertionSortOrdered_k1 st1 r2
  else
  some (.done st1.1)
noncomputable def slices_insertionSortOrdered (a:Int) (b:Int) (data:List Int):Option ((List Int)) :=
  ck (InK .i64 (a+1)) <| (whileO (slices_insertionSortOrdered_b1 a b) (data,(a+1))).bind fun r1 =>
  some r1
/- slices.pdqsortOrdered[int] -/
noncomputable def slices_pdqsortOrdered_b1 (a:Int) (b:Int) (limit:Int) (data:List Int) (st1:Unit):Option (Step Unit ((List Int))) :=
  ck (InK .i64 (b - a)) <| if (decide ((b - a)≤12))=true then
  (slices_insertionSortOrdered a b data).bind fun v0 =>
  some (.done v0)
  else
  if (decide (limit=0))=true then
  none
  else
  none
noncomputable def slices_pdqsortOrdered (a:Int) (b:Int) (limit:Int) (data:List Int):Option ((List Int)) :=
  (whileO (slices_pdqsortOrdered_b1 a b limit data) ()).bind fun r1 =>
  some r1
/- slices.Sort[[]int,int] -/
noncomputable def slices_Sort (x0:List Int):Option ((List Int)) :=
  ck (InK .u64 (x0.length:Int)) <| (math_bits_Len (x0.length:Int)).bind fun v0 =>
  (slices_pdqsortOrdered 0 (x0.length:Int) v0 x0).bind fun v0_2 =>
  some v0_2
/- (lineal/progress.graph).reached -/
noncomputable def progress_graph_reached_k1 (b1:(List Int)):Option ((List Int)) :=
  (slices_Sort b1).bind fun v0_2 =>
  some v0_2
noncomputable def progress_graph_reached_y1 (y1:Int×(List Int)) (st1:(List Int)):Option (Step ((List Int)) Empty) :=
  ck ((st1.length+1)*8≤140737488355328) <| some (.next (st1++[y1.1]))
noncomputable def progress_graph_reached (g:Int×(List (Int×Int×Int×Bool))):Option ((List Int)) :=
  (progress_graph_paths g 0).bind fun v0 =>
  (progress_graph_paths_1 ((List Int)) Empty 0 g (progress_graph_reached_y1) []).bind fun x=>match x with
  | .inl st1_2=>(progress_graph_reached_k1 st1_2)
  | .inr r=>r.elim
/- lineal/progress.statementOf$1 -/
noncomputable def progress_statementOf_1 (m:Int×Int×Int×Bool):Option Unit :=
  some ()
/- (lineal/progress.statement).least -/
noncomputable def progress_statement_least (s:Int) (s_2:List (Int×Int×Int×Bool)) (m:Int×Int×Int×Bool) (ranks:List Int):Option Int :=
  (progress_statementOf_1 m).bind fun v0 =>
  if (!m.2.2.2)=true then
  ck (0≤m.2.2.1) <| ck (m.2.2.1<(ranks.length:Int)) <| ck (InK .i64 ((ranks.getD m.2.2.1.toNat 0)+1)) <| some ((ranks.getD m.2.2.1.toNat 0)+1)
  else
  (progress_statementOf_1 m).bind fun v0_2 =>
  if (!m.2.2.2)=true then
  ck (0≤m.2.2.1) <| ck (m.2.2.1<(ranks.length:Int)) <| some (ranks.getD m.2.2.1.toNat 0)
  else
  some 0
/- (lineal/progress.statement).broken$1 -/
noncomputable def progress_statement_broken_1 (m:Int×Int×Int×Bool) (a2:List Int) (a3:Int) (a3_2:List (Int×Int×Int×Bool)) (a1:List Int):Option Bool :=
  (slices_Contains_2 a1 m.1).bind fun v0 =>
  if v0=true then
  ck (0≤m.1) <| ck (m.1<(a2.length:Int)) <| (progress_statement_least a3 a3_2 m a2).bind fun v0_2 =>
  some (decide ((a2.getD m.1.toNat 0)<v0_2))
  else
  some false
/- slices.IndexFunc[[]lineal/api.Move,lineal/api.Move] -/
noncomputable def slices_IndexFunc_k1:Option Int :=
  some (-1)
noncomputable def slices_IndexFunc_b1 (s:List (Int×Int×Int×Bool)) (c1:List Int) (c2:Int) (c2_2:List (Int×Int×Int×Bool)) (c0:List Int) (st1:Int):Option (Step Int (Sum Int Unit)) :=
  if (decide (st1<(s.length:Int)))=true then
  ck (0≤st1) <| ck (st1<(s.length:Int)) <| (progress_statement_broken_1 (s.getD st1.toNat (0,0,0,false)) c1 c2 c2_2 c0).bind fun v0 =>
  if v0=true then
  some (.done (Sum.inl st1))
  else
  ck (InK .i64 (st1+1)) <| some (.next (st1+1))
  else
  some (.done (Sum.inr ()))
noncomputable def slices_IndexFunc (s:List (Int×Int×Int×Bool)) (c1:List Int) (c2:Int) (c2_2:List (Int×Int×Int×Bool)) (c0:List Int):Option Int :=
  (whileO (slices_IndexFunc_b1 s c1 c2 c2_2 c0) 0).bind fun x=>match x with
  | .inl r1=>(some r1)
  | .inr _=>(slices_IndexFunc_k1)
/- (lineal/progress.statement).broken -/
noncomputable def progress_statement_broken (s:Int) (s_2:List (Int×Int×Int×Bool)) (ranks:List Int):Option (Int×Int×Int×Bool×Bool) :=
  (progress_graph_reached (s,s_2)).bind fun v0 =>
  (slices_IndexFunc s_2 ranks s s_2 v0).bind fun v0_2 =>
  if (decide (v0_2<0))=true then
  some (0,0,0,false,false)
  else
  ck (0≤v0_2) <| ck (v0_2<(s_2.length:Int)) <| some ((s_2.getD v0_2.toNat (0,0,0,false)).1,(s_2.getD v0_2.toNat (0,0,0,false)).2.1,(s_2.getD v0_2.toNat (0,0,0,false)).2.2.1,(s_2.getD v0_2.toNat (0,0,0,false)).2.2.2,true)
/- (lineal/progress.statement).ranks -/
noncomputable def progress_statement_ranks_b1 (s:Int) (s_2:List (Int×Int×Int×Bool)) (st1:(List Int)):Option (Step ((List Int)) ((List Int)×Bool)) :=
  (progress_statement_broken s s_2 st1).bind fun v0 =>
  if (!v0.2.2.2.2)=true then
  some (.done (st1,true))
  else
  (progress_statement_least s s_2 (v0.1,v0.2.1,v0.2.2.1,v0.2.2.2.1) st1).bind fun v0_2 =>
  ck (0≤v0.1) <| ck (v0.1<(st1.length:Int)) <| ck (0≤v0.1) <| ck (v0.1<((st1.set v0.1.toNat v0_2).length:Int)) <| if (decide (s≤((st1.set v0.1.toNat v0_2).getD v0.1.toNat 0)))=true then
  some (.done ([],false))
  else
  some (.next (st1.set v0.1.toNat v0_2))
noncomputable def progress_statement_ranks (s:Int) (s_2:List (Int×Int×Int×Bool)):Option ((List Int)×Bool) :=
  ck (0≤s) <| ck (8*s≤281474976710656) <| (whileO (progress_statement_ranks_b1 s s_2) (List.replicate s.toNat (0:Int))).bind fun r1 =>
  some r1
/- lineal/progress.statementOf$2 -/
noncomputable def progress_statementOf_2 (m:Int×Int×Int×Bool) (a1:Int):Option Bool :=
  if (decide (m.2.1=a1))=true then
  some (!m.2.2.2)
  else
  some false
/- lineal/progress.statementOf$3 -/
noncomputable def progress_statementOf_3 (m:Int×Int×Int×Bool) (a1:Int):Option Bool :=
  if (!(decide (m.2.1=a1)))=true then
  some true
  else
  some (!m.2.2.2)
/- (lineal/progress.statement).least -/
noncomputable def progress_statement_least_2 (s:Int) (s_2:List (Int×Int×Int×Bool)) (c0:Int) (c0_2:Int) (m:Int×Int×Int×Bool) (ranks:List Int):Option Int :=
  (progress_statementOf_2 m c0_2).bind fun v0 =>
  if v0=true then
  ck (0≤m.2.2.1) <| ck (m.2.2.1<(ranks.length:Int)) <| ck (InK .i64 ((ranks.getD m.2.2.1.toNat 0)+1)) <| some ((ranks.getD m.2.2.1.toNat 0)+1)
  else
  (progress_statementOf_3 m c0).bind fun v0_2 =>
  if v0_2=true then
  ck (0≤m.2.2.1) <| ck (m.2.2.1<(ranks.length:Int)) <| some (ranks.getD m.2.2.1.toNat 0)
  else
  some 0
/- (lineal/progress.statement).broken$1 -/
noncomputable def progress_statement_broken_1_2 (m:Int×Int×Int×Bool) (a2:List Int) (a3:Int) (a3_2:List (Int×Int×Int×Bool)) (c0:Int) (c0_2:Int) (a1:List Int):Option Bool :=
  (slices_Contains_2 a1 m.1).bind fun v0 =>
  if v0=true then
  ck (0≤m.1) <| ck (m.1<(a2.length:Int)) <| (progress_statement_least_2 a3 a3_2 c0 c0_2 m a2).bind fun v0_2 =>
  some (decide ((a2.getD m.1.toNat 0)<v0_2))
  else
  some false
/- slices.IndexFunc[[]lineal/api.Move,lineal/api.Move] -/
noncomputable def slices_IndexFunc_2_k1:Option Int :=
  some (-1)
noncomputable def slices_IndexFunc_2_b1 (s:List (Int×Int×Int×Bool)) (c1:List Int) (c2:Int) (c2_2:List (Int×Int×Int×Bool)) (c0:Int) (c0_2:Int) (c0_3:List Int) (st1:Int):Option (Step Int (Sum Int Unit)) :=
  if (decide (st1<(s.length:Int)))=true then
  ck (0≤st1) <| ck (st1<(s.length:Int)) <| (progress_statement_broken_1_2 (s.getD st1.toNat (0,0,0,false)) c1 c2 c2_2 c0 c0_2 c0_3).bind fun v0 =>
  if v0=true then
  some (.done (Sum.inl st1))
  else
  ck (InK .i64 (st1+1)) <| some (.next (st1+1))
  else
  some (.done (Sum.inr ()))
noncomputable def slices_IndexFunc_2 (s:List (Int×Int×Int×Bool)) (c1:List Int) (c2:Int) (c2_2:List (Int×Int×Int×Bool)) (c0:Int) (c0_2:Int) (c0_3:List Int):Option Int :=
  (whileO (slices_IndexFunc_2_b1 s c1 c2 c2_2 c0 c0_2 c0_3) 0).bind fun x=>match x with
  | .inl r1=>(some r1)
  | .inr _=>(slices_IndexFunc_2_k1)
/- (lineal/progress.statement).broken -/
noncomputable def progress_statement_broken_2 (s:Int) (s_2:List (Int×Int×Int×Bool)) (c0:Int) (c0_2:Int) (ranks:List Int):Option (Int×Int×Int×Bool×Bool) :=
  (progress_graph_reached (s,s_2)).bind fun v0 =>
  (slices_IndexFunc_2 s_2 ranks s s_2 c0 c0_2 v0).bind fun v0_2 =>
  if (decide (v0_2<0))=true then
  some (0,0,0,false,false)
  else
  ck (0≤v0_2) <| ck (v0_2<(s_2.length:Int)) <| some ((s_2.getD v0_2.toNat (0,0,0,false)).1,(s_2.getD v0_2.toNat (0,0,0,false)).2.1,(s_2.getD v0_2.toNat (0,0,0,false)).2.2.1,(s_2.getD v0_2.toNat (0,0,0,false)).2.2.2,true)
/- (lineal/progress.statement).ranks -/
noncomputable def progress_statement_ranks_2_b1 (s:Int) (s_2:List (Int×Int×Int×Bool)) (c0:Int) (c0_2:Int) (st1:(List Int)):Option (Step ((List Int)) ((List Int)×Bool)) :=
  (progress_statement_broken_2 s s_2 c0 c0_2 st1).bind fun v0 =>
  if (!v0.2.2.2.2)=true then
  some (.done (st1,true))
  else
  (progress_statement_least_2 s s_2 c0 c0_2 (v0.1,v0.2.1,v0.2.2.1,v0.2.2.2.1) st1).bind fun v0_2 =>
  ck (0≤v0.1) <| ck (v0.1<(st1.length:Int)) <| ck (0≤v0.1) <| ck (v0.1<((st1.set v0.1.toNat v0_2).length:Int)) <| if (decide (s≤((st1.set v0.1.toNat v0_2).getD v0.1.toNat 0)))=true then
  some (.done ([],false))
  else
  some (.next (st1.set v0.1.toNat v0_2))
noncomputable def progress_statement_ranks_2 (s:Int) (s_2:List (Int×Int×Int×Bool)) (c0:Int) (c0_2:Int):Option ((List Int)×Bool) :=
  ck (0≤s) <| ck (8*s≤281474976710656) <| (whileO (progress_statement_ranks_2_b1 s s_2 c0 c0_2) (List.replicate s.toNat (0:Int))).bind fun r1 =>
  some r1
/- (lineal/progress.statement).least -/
noncomputable def progress_statement_least_3 (s:Int) (s_2:List (Int×Int×Int×Bool)) (c0:Int) (c0_2:Int) (m:Int×Int×Int×Bool) (ranks:List Int):Option Int :=
  (progress_statementOf_2 m c0_2).bind fun v0 =>
  if v0=true then
  ck (0≤m.2.2.1) <| ck (m.2.2.1<(ranks.length:Int)) <| ck (InK .i64 ((ranks.getD m.2.2.1.toNat 0)+1)) <| some ((ranks.getD m.2.2.1.toNat 0)+1)
  else
  (progress_statementOf_2 m c0).bind fun v0_2 =>
  if v0_2=true then
  ck (0≤m.2.2.1) <| ck (m.2.2.1<(ranks.length:Int)) <| some (ranks.getD m.2.2.1.toNat 0)
  else
  some 0
/- (lineal/progress.statement).broken$1 -/
noncomputable def progress_statement_broken_1_3 (m:Int×Int×Int×Bool) (a2:List Int) (a3:Int) (a3_2:List (Int×Int×Int×Bool)) (c0:Int) (c0_2:Int) (a1:List Int):Option Bool :=
  (slices_Contains_2 a1 m.1).bind fun v0 =>
  if v0=true then
  ck (0≤m.1) <| ck (m.1<(a2.length:Int)) <| (progress_statement_least_3 a3 a3_2 c0 c0_2 m a2).bind fun v0_2 =>
  some (decide ((a2.getD m.1.toNat 0)<v0_2))
  else
  some false
/- slices.IndexFunc[[]lineal/api.Move,lineal/api.Move] -/
noncomputable def slices_IndexFunc_3_k1:Option Int :=
  some (-1)
noncomputable def slices_IndexFunc_3_b1 (s:List (Int×Int×Int×Bool)) (c1:List Int) (c2:Int) (c2_2:List (Int×Int×Int×Bool)) (c0:Int) (c0_2:Int) (c0_3:List Int) (st1:Int):Option (Step Int (Sum Int Unit)) :=
  if (decide (st1<(s.length:Int)))=true then
  ck (0≤st1) <| ck (st1<(s.length:Int)) <| (progress_statement_broken_1_3 (s.getD st1.toNat (0,0,0,false)) c1 c2 c2_2 c0 c0_2 c0_3).bind fun v0 =>
  if v0=true then
  some (.done (Sum.inl st1))
  else
  ck (InK .i64 (st1+1)) <| some (.next (st1+1))
  else
  some (.done (Sum.inr ()))
noncomputable def slices_IndexFunc_3 (s:List (Int×Int×Int×Bool)) (c1:List Int) (c2:Int) (c2_2:List (Int×Int×Int×Bool)) (c0:Int) (c0_2:Int) (c0_3:List Int):Option Int :=
  (whileO (slices_IndexFunc_3_b1 s c1 c2 c2_2 c0 c0_2 c0_3) 0).bind fun x=>match x with
  | .inl r1=>(some r1)
  | .inr _=>(slices_IndexFunc_3_k1)
/- (lineal/progress.statement).broken -/
noncomputable def progress_statement_broken_3 (s:Int) (s_2:List (Int×Int×Int×Bool)) (c0:Int) (c0_2:Int) (ranks:List Int):Option (Int×Int×Int×Bool×Bool) :=
  (progress_graph_reached (s,s_2)).bind fun v0 =>
  (slices_IndexFunc_3 s_2 ranks s s_2 c0 c0_2 v0).bind fun v0_2 =>
  if (decide (v0_2<0))=true then
  some (0,0,0,false,false)
  else
  ck (0≤v0_2) <| ck (v0_2<(s_2.length:Int)) <| some ((s_2.getD v0_2.toNat (0,0,0,false)).1,(s_2.getD v0_2.toNat (0,0,0,false)).2.1,(s_2.getD v0_2.toNat (0,0,0,false)).2.2.1,(s_2.getD v0_2.toNat (0,0,0,false)).2.2.2,true)
/- (lineal/progress.statement).ranks -/
noncomputable def progress_statement_ranks_3_b1 (s:Int) (s_2:List (Int×Int×Int×Bool)) (c0:Int) (c0_2:Int) (st1:(List Int)):Option (Step ((List Int)) ((List Int)×Bool)) :=
  (progress_statement_broken_3 s s_2 c0 c0_2 st1).bind fun v0 =>
  if (!v0.2.2.2.2)=true then
  some (.done (st1,true))
  else
  (progress_statement_least_3 s s_2 c0 c0_2 (v0.1,v0.2.1,v0.2.2.1,v0.2.2.2.1) st1).bind fun v0_2 =>
  ck (0≤v0.1) <| ck (v0.1<(st1.length:Int)) <| ck (0≤v0.1) <| ck (v0.1<((st1.set v0.1.toNat v0_2).length:Int)) <| if (decide (s≤((st1.set v0.1.toNat v0_2).getD v0.1.toNat 0)))=true then
  some (.done ([],false))
  else
  some (.next (st1.set v0.1.toNat v0_2))
noncomputable def progress_statement_ranks_3 (s:Int) (s_2:List (Int×Int×Int×Bool)) (c0:Int) (c0_2:Int):Option ((List Int)×Bool) :=
  ck (0≤s) <| ck (8*s≤281474976710656) <| (whileO (progress_statement_ranks_3_b1 s s_2 c0 c0_2) (List.replicate s.toNat (0:Int))).bind fun r1 =>
  some r1
/- lineal/progress.Ranks -/
noncomputable def progress_Ranks (g:Int×(List (Int×Int×Int×Bool))) (claim:Int) (thread:Int):Option ((List Int)×Int) :=
  (progress_statementOf g claim thread).bind fun v0=>match v0 with
  | .inl v0_2=>(if (!(decide (v0_2=0)))=true then
  some ([],v0_2)
  else
  none)
  | .inr (.inl v0_3)=>((progress_statement_ranks v0_3.1 v0_3.2).bind fun v0_6 =>
  if (!v0_6.2)=true then
  some ([],5)
  else
  some (v0_6.1,0))
  | .inr (.inr (.inl v0_4))=>((progress_statement_ranks_2 v0_4.1 v0_4.2 thread thread).bind fun v0_7 =>
  if (!v0_7.2)=true then
  some ([],5)
  else
  some (v0_7.1,0))
  | .inr (.inr (.inr v0_5))=>((progress_statement_ranks_3 v0_5.1 v0_5.2 thread thread).bind fun v0_8 =>
  if (!v0_8.2)=true then
  some ([],5)
  else
  some (v0_8.1,0))
/- lineal/linealref07.SameInts -/
noncomputable def linealref07_SameInts_k1:Option Bool :=
  some true
noncomputable def linealref07_SameInts_b1 (a:List Int) (b:List Int) (st1:Int):Option (Step Int (Sum Unit Unit)) :=
  if (decide (st1<(a.length:Int)))=true then
  ck (0≤st1) <| ck (st1<(a.length:Int)) <| ck (0≤st1) <| ck (st1<(b.length:Int)) <| if (!(decide ((a.getD st1.toNat 0)=(b.getD st1.toNat 0))))=true then
  some (.done (Sum.inl ()))
  else
  ck (InK .i64 (st1+1)) <| some (.next (st1+1))
  else
  some (.done (Sum.inr ()))
noncomputable def linealref07_SameInts (a:List Int) (b:List Int):Option Bool :=
  if (!(decide ((a.length:Int)=(b.length:Int))))=true then
  some false
  else
  (whileO (linealref07_SameInts_b1 a b) 0).bind fun x=>match x with
  | .inl _=>(some false)
  | .inr _=>(linealref07_SameInts_k1)
/- lineal/lineallaw07.Awake -/
noncomputable def lineallaw07_Awake:Option Bool :=
  (progress_Ranks (2,[(0,0,1,false),(1,1,0,true)]) 0 0).bind fun v0 =>
  if (decide (v0.2=0))=true then
  (linealref07_SameInts v0.1 [1,0]).bind fun v0_2 =>
  some v0_2
  else
  some false
/- lineal/lineallaw07.Long -/
noncomputable def lineallaw07_Long (g:Int×(List (Int×Int×Int×Bool))):Option Unit :=
  some ()
/- (lineal/progress.graph).leads -/
noncomputable def progress_graph_leads_k1 (b1:Int):Option (Int×Bool) :=
  some (b1,true)
noncomputable def progress_graph_leads_b1 (g:Int×(List (Int×Int×Int×Bool))) (list:List Int) (st1:Int×Int):Option (Step (Int×Int) (Sum Unit Int)) :=
  if (decide (st1.2<(list.length:Int)))=true then
  ck (0≤st1.2) <| ck (st1.2<(list.length:Int)) <| (progress_isBelow (list.getD st1.2.toNat 0) (g.2.length:Int)).bind fun v0 =>
  if (!v0)=true then
  some (.done (Sum.inl ()))
  else
  ck (0≤(list.getD st1.2.toNat 0)) <| ck ((list.getD st1.2.toNat 0)<(g.2.length:Int)) <| if (!(decide ((g.2.getD (list.getD st1.2.toNat 0).toNat (0,0,0,false)).1=st1.1)))=true then
  some (.done (Sum.inl ()))
  else
  ck (0≤(list.getD st1.2.toNat 0)) <| ck ((list.getD st1.2.toNat 0)<(g.2.length:Int)) <| ck (InK .i64 (st1.2+1)) <| some (.next ((g.2.getD (list.getD st1.2.toNat 0).toNat (0,0,0,false)).2.2.1,(st1.2+1)))
  else
  some (.done (Sum.inr st1.1))
noncomputable def progress_graph_leads (g:Int×(List (Int×Int×Int×Bool))) (from0:Int) (list:List Int):Option (Int×Bool) :=
  if (decide (1000<(list.length:Int)))=true then
  some (0,false)
  else
  (whileO (progress_graph_leads_b1 g list) (from0,0)).bind fun x=>match x with
  | .inl _=>(some (0,false))
  | .inr r1=>(progress_graph_leads_k1 r1)
/- lineal/linealref07.IsPlace -/
noncomputable def linealref07_IsPlace (g:Int×(List (Int×Int×Int×Bool))) (p:Int):Option Bool :=
  if (decide (0≤p))=true then
  some (decide (p<g.1))
  else
  some false
/- lineal/linealref07.IsThread -/
noncomputable def linealref07_IsThread (t:Int):Option Bool :=
  if (decide (0≤t))=true then
  some (decide (t<3))
  else
  some false
/- lineal/linealref07.Valid -/
noncomputable def linealref07_Valid_k1:Option Bool :=
  some true
noncomputable def linealref07_Valid_k2 (st1:Int):Option (Step Int (Sum Unit Unit)) :=
  ck (InK .i64 (st1+1)) <| some (.next (st1+1))
noncomputable def linealref07_Valid_b2 (g:Int×(List (Int×Int×Int×Bool))) (st1:Int) (st2:Int):Option (Step Int (Sum Unit Unit)) :=
  if (decide (st2<((g.2.take st1.toNat).length:Int)))=true then
  ck (0≤st2) <| ck (st2<((g.2.take st1.toNat).length:Int)) <| ck (InK .i64 (g.2.getD st1.toNat (0,0,0,false)).1) <| ck (InK .i64 (g.2.getD st1.toNat (0,0,0,false)).2.1) <| ck (InK .i64 (g.2.getD st1.toNat (0,0,0,false)).2.2.1) <| ck (InK .i64 ((g.2.take st1.toNat).getD st2.toNat (0,0,0,false)).1) <| ck (InK .i64 ((g.2.take st1.toNat).getD st2.toNat (0,0,0,false)).2.1) <| ck (InK .i64 ((g.2.take st1.toNat).getD st2.toNat (0,0,0,false)).2.2.1) <| if (decide ((g.2.getD st1.toNat (0,0,0,false))=((g.2.take st1.toNat).getD st2.toNat (0,0,0,false))))=true then
  some (.done (Sum.inl ()))
  else
  ck (InK .i64 (st2+1)) <| some (.next (st2+1))
  else
  some (.done (Sum.inr ()))
noncomputable def linealref07_Valid_b1 (g:Int×(List (Int×Int×Int×Bool))) (st1:Int):Option (Step Int (Sum Unit Unit)) :=
  if (decide (st1<(g.2.length:Int)))=true then
  ck (0≤st1) <| ck (st1<(g.2.length:Int)) <| (linealref07_IsPlace g (g.2.getD st1.toNat (0,0,0,false)).1).bind fun v0 =>
  if (!v0)=true then
  some (.done (Sum.inl ()))
  else
  (linealref07_IsPlace g (g.2.getD st1.toNat (0,0,0,false)).2.2.1).bind fun v0_2 =>
  if (!v0_2)=true then
  some (.done (Sum.inl ()))
  else
  (linealref07_IsThread (g.2.getD st1.toNat (0,0,0,false)).2.1).bind fun v0_3 =>
  if (!v0_3)=true then
  some (.done (Sum.inl ()))
  else
  ck (0≤st1) <| ck (st1≤(g.2.length:Int)) <| (whileO (linealref07_Valid_b2 g st1) 0).bind fun x=>match x with
  | .inl _=>(some (.done (Sum.inl ())))
  | .inr _=>(linealref07_Valid_k2 st1)
  else
  some (.done (Sum.inr ()))
noncomputable def linealref07_Valid (g:Int×(List (Int×Int×Int×Bool))):Option Bool :=
  if (decide (g.1<1))=true then
  some false
  else
  if (decide (8<g.1))=true then
  some false
  else
  if (decide (20<(g.2.length:Int)))=true then
  some false
  else
  (whileO (linealref07_Valid_b1 g) 0).bind fun x=>match x with
  | .inl _=>(some false)
  | .inr _=>(linealref07_Valid_k1)
/- lineal/linealref07.IsMove -/
noncomputable def linealref07_IsMove (g:Int×(List (Int×Int×Int×Bool))) (i:Int):Option Bool :=
  if (decide (0≤i))=true then
  some (decide (i<(g.2.length:Int)))
  else
  some false
/- lineal/linealref07.isPath -/
noncomputable def linealref07_isPath_k1:Option Bool :=
  some true
noncomputable def linealref07_isPath_b1 (g:Int×(List (Int×Int×Int×Bool))) (path:List Int) (st1:Int):Option (Step Int (Sum Unit Unit)) :=
  if (decide (st1<(path.length:Int)))=true then
  ck (0≤st1) <| ck (st1<(path.length:Int)) <| (linealref07_IsMove g (path.getD st1.toNat 0)).bind fun v0 =>
  if (!v0)=true then
  some (.done (Sum.inl ()))
  else
  if (decide (0<st1))=true then
  ck (InK .i64 (st1 - 1)) <| ck (0≤(st1 - 1)) <| ck ((st1 - 1)<(path.length:Int)) <| ck (0≤(path.getD (st1 - 1).toNat 0)) <| ck ((path.getD (st1 - 1).toNat 0)<(g.2.length:Int)) <| ck (0≤(path.getD st1.toNat 0)) <| ck ((path.getD st1.toNat 0)<(g.2.length:Int)) <| if (!(decide ((g.2.getD (path.getD (st1 - 1).toNat 0).toNat (0,0,0,false)).2.2.1=(g.2.getD (path.getD st1.toNat 0).toNat (0,0,0,false)).1)))=true then
  some (.done (Sum.inl ()))
  else
  ck (InK .i64 (st1+1)) <| some (.next (st1+1))
  else
  ck (InK .i64 (st1+1)) <| some (.next (st1+1))
  else
  some (.done (Sum.inr ()))
noncomputable def linealref07_isPath (g:Int×(List (Int×Int×Int×Bool))) (path:List Int):Option Bool :=
  if (decide (1000<(path.length:Int)))=true then
  some false
  else
  (whileO (linealref07_isPath_b1 g path) 0).bind fun x=>match x with
  | .inl _=>(some false)
  | .inr _=>(linealref07_isPath_k1)
/- lineal/linealref07.reached -/
noncomputable def linealref07_reached_k1 (b2_2:(List Bool)):Option ((List Bool)) :=
  some b2_2
noncomputable def linealref07_reached_k2 (st1:(List Bool)×Int) (b2:(List Bool)):Option (Step ((List Bool)×Int) ((List Bool))) :=
  ck (InK .i64 (st1.2+1)) <| some (.next (b2,(st1.2+1)))
noncomputable def linealref07_reached_b2 (g:Int×(List (Int×Int×Int×Bool))) (st2:(List Bool)×Int):Option (Step ((List Bool)×Int) ((List Bool))) :=
  if (decide (st2.2<(g.2.length:Int)))=true then
  ck (0≤st2.2) <| ck (st2.2<(g.2.length:Int)) <| ck (0≤(g.2.getD st2.2.toNat (0,0,0,false)).2.2.1) <| ck ((g.2.getD st2.2.toNat (0,0,0,false)).2.2.1<(st2.1.length:Int)) <| if (st2.1.getD (g.2.getD st2.2.toNat (0,0,0,false)).2.2.1.toNat false)=true then
  ck (0≤(g.2.getD st2.2.toNat (0,0,0,false)).2.2.1) <| ck ((g.2.getD st2.2.toNat (0,0,0,false)).2.2.1<(st2.1.length:Int)) <| ck (InK .i64 (st2.2+1)) <| some (.next ((st2.1.set (g.2.getD st2.2.toNat (0,0,0,false)).2.2.1.toNat true),(st2.2+1)))
  else
  ck (0≤(g.2.getD st2.2.toNat (0,0,0,false)).1) <| ck ((g.2.getD st2.2.toNat (0,0,0,false)).1<(st2.1.length:Int)) <| ck (0≤(g.2.getD st2.2.toNat (0,0,0,false)).2.2.1) <| ck ((g.2.getD st2.2.toNat (0,0,0,false)).2.2.1<(st2.1.length:Int)) <| ck (InK .i64 (st2.2+1)) <| some (.next ((st2.1.set (g.2.getD st2.2.toNat (0,0,0,false)).2.2.1.toNat (st2.1.getD (g.2.getD st2.2.toNat (0,0,0,false)).1.toNat false)),(st2.2+1)))
  else
  some (.done st2.1)
noncomputable def linealref07_reached_b1 (g:Int×(List (Int×Int×Int×Bool))) (st1:(List Bool)×Int):Option (Step ((List Bool)×Int) ((List Bool))) :=
  if (decide (st1.2<g.1))=true then
  (whileO (linealref07_reached_b2 g) (st1.1,0)).bind fun r2 =>
  linealref07_reached_k2 st1 r2
  else
  some (.done st1.1)
noncomputable def linealref07_reached (g:Int×(List (Int×Int×Int×Bool))):Option ((List Bool)) :=
  ck (0≤g.1) <| ck (1*g.1≤281474976710656) <| ck (0<((List.replicate g.1.toNat (false:Bool)).length:Int)) <| (whileO (linealref07_reached_b1 g) (((List.replicate g.1.toNat (false:Bool)).set 0 true),0)).bind fun r1 =>
  linealref07_reached_k1 r1
/- lineal/progress.Holds -/
noncomputable def progress_Holds (g:Int×(List (Int×Int×Int×Bool))) (claim:Int) (thread:Int):Option (Bool×Int) :=
  (progress_statementOf g claim thread).bind fun v0=>match v0 with
  | .inl v0_2=>(if (!(decide (v0_2=0)))=true then
  some (false,v0_2)
  else
  none)
  | .inr (.inl v0_3)=>((progress_statement_ranks v0_3.1 v0_3.2).bind fun v0_6 =>
  some (v0_6.2,0))
  | .inr (.inr (.inl v0_4))=>((progress_statement_ranks_2 v0_4.1 v0_4.2 thread thread).bind fun v0_7 =>
  some (v0_7.2,0))
  | .inr (.inr (.inr v0_5))=>((progress_statement_ranks_3 v0_5.1 v0_5.2 thread thread).bind fun v0_8 =>
  some (v0_8.2,0))
/- lineal/linealref07.asked -/
noncomputable def linealref07_asked (g:Int×(List (Int×Int×Int×Bool))) (claim:Int) (thread:Int):Option Int :=
  (linealref07_Valid g).bind fun v0 =>
  if (!v0)=true then
  some 70
  else
  if (decide (claim<0))=true then
  some 2
  else
  if (decide (2<claim))=true then
  some 2
  else
  (linealref07_IsThread thread).bind fun v0_2 =>
  if (!v0_2)=true then
  some 2
  else
  if (decide (claim=0))=true then
  if (!(decide (thread=0)))=true then
  some 2
  else
  some 0
  else
  some 0
/- lineal/linealref07.falls -/
noncomputable def linealref07_falls (m:Int×Int×Int×Bool) (claim:Int) (thread:Int):Option (Int×Bool) :=
  if (decide (claim=0))=true then
  some (1,(!m.2.2.2))
  else
  if (decide (claim=2))=true then
  if (decide (m.2.1=thread))=true then
  some (1,(!m.2.2.2))
  else
  some (1,false)
  else
  if (decide (m.2.1=thread))=true then
  some (1,(!m.2.2.2))
  else
  some (0,true)
/- (lineal/progress.statement).isRanks$1 -/
noncomputable def progress_statement_isRanks_1 (rank:Int):Option Bool :=
  (progress_isBelow rank 101).bind fun v0 =>
  some (!v0)
/- slices.IndexFunc[[]int,int] -/
noncomputable def slices_IndexFunc_7_k1:Option Int :=
  some (-1)
noncomputable def slices_IndexFunc_7_b1 (s:List Int) (st1:Int):Option (Step Int (Sum Int Unit)) :=
  if (decide (st1<(s.length:Int)))=true then
  ck (0≤st1) <| ck (st1<(s.length:Int)) <| (progress_statement_isRanks_1 (s.getD st1.toNat 0)).bind fun v0 =>
  if v0=true then
  some (.done (Sum.inl st1))
  else
  ck (InK .i64 (st1+1)) <| some (.next (st1+1))
  else
  some (.done (Sum.inr ()))
noncomputable def slices_IndexFunc_7 (s:List Int):Option Int :=
  (whileO (slices_IndexFunc_7_b1 s) 0).bind fun x=>match x with
  | .inl r1=>(some r1)
  | .inr _=>(slices_IndexFunc_7_k1)
/- slices.ContainsFunc[[]int,int] -/
noncomputable def slices_ContainsFunc_2 (s:List Int):Option Bool :=
  (slices_IndexFunc_7 s).bind fun v0 =>
  some (decide (0≤v0))
/- (lineal/progress.statement).isRanks -/
noncomputable def progress_statement_isRanks (s:Int) (s_2:List (Int×Int×Int×Bool)) (list:List Int):Option Bool :=
  if (decide ((list.length:Int)=s))=true then
  (slices_ContainsFunc_2 list).bind fun v0 =>
  some (!v0)
  else
  some false
/- (lineal/progress.statement).isRanks -/
noncomputable def progress_statement_isRanks_2 (s:Int) (s_2:List (Int×Int×Int×Bool)) (c0:Int) (c0_2:Int) (list:List Int):Option Bool :=
  if (decide ((list.length:Int)=s))=true then
  (slices_ContainsFunc_2 list).bind fun v0 =>
  some (!v0)
  else
  some false
/- (lineal/progress.statement).isRanks -/
noncomputable def progress_statement_isRanks_3 (s:Int) (s_2:List (Int×Int×Int×Bool)) (c0:Int) (c0_2:Int) (list:List Int):Option Bool :=
  if (decide ((list.length:Int)=s))=true then
  (slices_ContainsFunc_2 list).bind fun v0 =>
  some (!v0)
  else
  some false
/- lineal/progress.Prove -/
noncomputable def progress_Prove (g:Int×(List (Int×Int×Int×Bool))) (claim:Int) (thread:Int) (ranks:List Int):Option (Bool×Int) :=
  (progress_statementOf g claim thread).bind fun v0=>match v0 with
  | .inl v0_2=>(if (!(decide (v0_2=0)))=true then
  some (false,v0_2)
  else
  none)
  | .inr (.inl v0_3)=>((progress_statement_isRanks v0_3.1 v0_3.2 ranks).bind fun v0_6 =>
  if (!v0_6)=true then
  some (false,2)
  else
  (progress_statement_broken v0_3.1 v0_3.2 ranks).bind fun v0_7 =>
  some ((!v0_7.2.2.2.2),0))
  | .inr (.inr (.inl v0_4))=>((progress_statement_isRanks_2 v0_4.1 v0_4.2 thread thread ranks).bind fun v0_8 =>
  if (!v0_8)=true then
  some (false,2)
  else
  (progress_statement_broken_2 v0_4.1 v0_4.2 thread thread ranks).bind fun v0_9 =>
  some ((!v0_9.2.2.2.2),0))
  | .inr (.inr (.inr v0_5))=>((progress_statement_isRanks_3 v0_5.1 v0_5.2 thread thread ranks).bind fun v0_10 =>
  if (!v0_10)=true then
  some (false,2)
  else
  (progress_statement_broken_3 v0_5.1 v0_5.2 thread thread ranks).bind fun v0_11 =>
  some ((!v0_11.2.2.2.2),0))
/- lineal/linealref07.Prove -/
noncomputable def linealref07_Prove_k2:Option (Bool×Int) :=
  some (true,0)
noncomputable def linealref07_Prove_b2 (g:Int×(List (Int×Int×Int×Bool))) (claim:Int) (thread:Int) (l:List Int) (v0_2:(List Bool)) (st2:Int):Option (Step Int (Sum Unit Unit)) :=
  if (decide (st2<(g.2.length:Int)))=true then
  ck (0≤st2) <| ck (st2<(g.2.length:Int)) <| (linealref07_falls (g.2.getD st2.toNat (0,0,0,false)) claim thread).bind fun v0_3 =>
  if v0_3.2=true then
  ck (0≤(g.2.getD st2.toNat (0,0,0,false)).1) <| ck ((g.2.getD st2.toNat (0,0,0,false)).1<(v0_2.length:Int)) <| if (v0_2.getD (g.2.getD st2.toNat (0,0,0,false)).1.toNat false)=true then
  ck (0≤(g.2.getD st2.toNat (0,0,0,false)).1) <| ck ((g.2.getD st2.toNat (0,0,0,false)).1<(l.length:Int)) <| ck (0≤(g.2.getD st2.toNat (0,0,0,false)).2.2.1) <| ck ((g.2.getD st2.toNat (0,0,0,false)).2.2.1<(l.length:Int)) <| ck (InK .i64 ((l.getD (g.2.getD st2.toNat (0,0,0,false)).2.2.1.toNat 0)+v0_3.1)) <| if (decide ((l.getD (g.2.getD st2.toNat (0,0,0,false)).1.toNat 0)<((l.getD (g.2.getD st2.toNat (0,0,0,false)).2.2.1.toNat 0)+v0_3.1)))=true then
  some (.done (Sum.inl ()))
  else
  ck (InK .i64 (st2+1)) <| some (.next (st2+1))
  else
  ck (InK .i64 (st2+1)) <| some (.next (st2+1))
  else
  ck (InK .i64 (st2+1)) <| some (.next (st2+1))
  else
  some (.done (Sum.inr ()))
noncomputable def linealref07_Prove_k1 (g:Int×(List (Int×Int×Int×Bool))) (claim:Int) (thread:Int) (l:List Int):Option (Bool×Int) :=
  (linealref07_reached g).bind fun v0_2 =>
  (whileO (linealref07_Prove_b2 g claim thread l v0_2) 0).bind fun x=>match x with
  | .inl _=>(some (false,0))
  | .inr _=>(linealref07_Prove_k2)
noncomputable def linealref07_Prove_b1 (l:List Int) (st1:Int):Option (Step Int (Sum Unit Unit)) :=
  if (decide (st1<(l.length:Int)))=true then
  ck (0≤st1) <| ck (st1<(l.length:Int)) <| if (decide ((l.getD st1.toNat 0)<0))=true then
  some (.done (Sum.inl ()))
  else
  if (decide (100<(l.getD st1.toNat 0)))=true then
  some (.done (Sum.inl ()))
  else
  ck (InK .i64 (st1+1)) <| some (.next (st1+1))
  else
  some (.done (Sum.inr ()))
noncomputable def linealref07_Prove (g:Int×(List (Int×Int×Int×Bool))) (claim:Int) (thread:Int) (l:List Int):Option (Bool×Int) :=
  (linealref07_asked g claim thread).bind fun v0 =>
  if (!(decide (v0=0)))=true then
  some (false,v0)
  else
  if (!(decide ((l.length:Int)=g.1)))=true then
  some (false,2)
  else
  (whileO (linealref07_Prove_b1 l) 0).bind fun x=>match x with
  | .inl _=>(some (false,2))
  | .inr _=>(linealref07_Prove_k1 g claim thread l)
/- lineal/progress.Everybody -/
noncomputable def progress_Everybody_k1:Option (Bool×Int) :=
  some (true,0)
noncomputable def progress_Everybody_b1 (g:Int×(List (Int×Int×Int×Bool))) (st1:Int):Option (Step Int (Sum Int Unit)) :=
  if (decide (st1<3))=true then
  (progress_Holds g 1 st1).bind fun v0 =>
  if (!(decide (v0.2=0)))=true then
  some (.done (Sum.inl v0.2))
  else
  if (!v0.1)=true then
  some (.done (Sum.inl v0.2))
  else
  ck (InK .i64 (st1+1)) <| some (.next (st1+1))
  else
  some (.done (Sum.inr ()))
noncomputable def progress_Everybody (g:Int×(List (Int×Int×Int×Bool))):Option (Bool×Int) :=
  (whileO (progress_Everybody_b1 g) 0).bind fun x=>match x with
  | .inl r1=>(some (false,r1))
  | .inr _=>(progress_Everybody_k1)
/- (lineal/progress.statement).isLasso$1 -/
noncomputable def progress_statement_isLasso_1 (move:Int) (a1:Int) (a1_2:List (Int×Int×Int×Bool)):Option Unit :=
  ck (0≤move) <| ck (move<(a1_2.length:Int)) <| (progress_statementOf_1 (a1_2.getD move.toNat (0,0,0,false))).bind fun v0 =>
  some ()
/- slices.IndexFunc[[]int,int] -/
noncomputable def slices_IndexFunc_8_k1:Option Int :=
  some (-1)
noncomputable def slices_IndexFunc_8_b1 (s:List Int) (c0:Int) (c0_2:List (Int×Int×Int×Bool)) (st1:Int):Option (Step Int (Sum Int Unit)) :=
  if (decide (st1<(s.length:Int)))=true then
  ck (0≤st1) <| ck (st1<(s.length:Int)) <| (progress_statement_isLasso_1 (s.getD st1.toNat 0) c0 c0_2).bind fun v0 =>
  if (!(!(c0_2.getD (s.getD st1.toNat 0).toNat (0,0,0,false)).2.2.2))=true then
  some (.done (Sum.inl st1))
  else
  ck (InK .i64 (st1+1)) <| some (.next (st1+1))
  else
  some (.done (Sum.inr ()))
noncomputable def slices_IndexFunc_8 (s:List Int) (c0:Int) (c0_2:List (Int×Int×Int×Bool)):Option Int :=
  (whileO (slices_IndexFunc_8_b1 s c0 c0_2) 0).bind fun x=>match x with
  | .inl r1=>(some r1)
  | .inr _=>(slices_IndexFunc_8_k1)
/- slices.ContainsFunc[[]int,int] -/
noncomputable def slices_ContainsFunc_3 (s:List Int) (c0:Int) (c0_2:List (Int×Int×Int×Bool)):Option Bool :=
  (slices_IndexFunc_8 s c0 c0_2).bind fun v0 =>
  some (decide (0≤v0))
/- (lineal/progress.statement).isLasso$2 -/
noncomputable def progress_statement_isLasso_2 (move:Int) (a1:Int) (a1_2:List (Int×Int×Int×Bool)):Option Unit :=
  ck (0≤move) <| ck (move<(a1_2.length:Int)) <| (progress_statementOf_1 (a1_2.getD move.toNat (0,0,0,false))).bind fun v0 =>
  some ()
/- slices.IndexFunc[[]int,int] -/
noncomputable def slices_IndexFunc_9_k1:Option Int :=
  some (-1)
noncomputable def slices_IndexFunc_9_b1 (s:List Int) (c0:Int) (c0_2:List (Int×Int×Int×Bool)) (st1:Int):Option (Step Int (Sum Int Unit)) :=
  if (decide (st1<(s.length:Int)))=true then
  ck (0≤st1) <| ck (st1<(s.length:Int)) <| (progress_statement_isLasso_2 (s.getD st1.toNat 0) c0 c0_2).bind fun v0 =>
  if (!(c0_2.getD (s.getD st1.toNat 0).toNat (0,0,0,false)).2.2.2)=true then
  some (.done (Sum.inl st1))
  else
  ck (InK .i64 (st1+1)) <| some (.next (st1+1))
  else
  some (.done (Sum.inr ()))
noncomputable def slices_IndexFunc_9 (s:List Int) (c0:Int) (c0_2:List (Int×Int×Int×Bool)):Option Int :=
  (whileO (slices_IndexFunc_9_b1 s c0 c0_2) 0).bind fun x=>match x with
  | .inl r1=>(some r1)
  | .inr _=>(slices_IndexFunc_9_k1)
/- slices.ContainsFunc[[]int,int] -/
noncomputable def slices_ContainsFunc_4 (s:List Int) (c0:Int) (c0_2:List (Int×Int×Int×Bool)):Option Bool :=
  (slices_IndexFunc_9 s c0 c0_2).bind fun v0 =>
  some (decide (0≤v0))
/- (lineal/progress.statement).isLasso -/
noncomputable def progress_statement_isLasso (s:Int) (s_2:List (Int×Int×Int×Bool)) (path:List Int) (circle:List Int):Option Bool :=
  (progress_graph_leads (s,s_2) 0 path).bind fun v0 =>
  if (!v0.2)=true then
  some false
  else
  (progress_graph_leads (s,s_2) v0.1 circle).bind fun v0_2 =>
  if (!v0_2.2)=true then
  some false
  else
  if (!(decide (v0_2.1=v0.1)))=true then
  some false
  else
  (slices_ContainsFunc_3 circle s s_2).bind fun v0_3 =>
  if (!v0_3)=true then
  (slices_ContainsFunc_4 circle s s_2).bind fun v0_4 =>
  some v0_4
  else
  some false
/- (lineal/progress.statement).isLasso$1 -/
noncomputable def progress_statement_isLasso_1_2 (move:Int) (a1:Int) (a1_2:List (Int×Int×Int×Bool)) (c0:Int) (c0_2:Int):Option Bool :=
  ck (0≤move) <| ck (move<(a1_2.length:Int)) <| (progress_statementOf_3 (a1_2.getD move.toNat (0,0,0,false)) c0).bind fun v0 =>
  some (!v0)
/- slices.IndexFunc[[]int,int] -/
noncomputable def slices_IndexFunc_10_k1:Option Int :=
  some (-1)
noncomputable def slices_IndexFunc_10_b1 (s:List Int) (c0:Int) (c0_2:List (Int×Int×Int×Bool)) (c0_3:Int) (c0_4:Int) (st1:Int):Option (Step Int (Sum Int Unit)) :=
  if (decide (st1<(s.length:Int)))=true then
  ck (0≤st1) <| ck (st1<(s.length:Int)) <| (progress_statement_isLasso_1_2 (s.getD st1.toNat 0) c0 c0_2 c0_3 c0_4).bind fun v0 =>
  if v0=true then
  some (.done (Sum.inl st1))
  else
  ck (InK .i64 (st1+1)) <| some (.next (st1+1))
  else
  some (.done (Sum.inr ()))
noncomputable def slices_IndexFunc_10 (s:List Int) (c0:Int) (c0_2:List (Int×Int×Int×Bool)) (c0_3:Int) (c0_4:Int):Option Int :=
  (whileO (slices_IndexFunc_10_b1 s c0 c0_2 c0_3 c0_4) 0).bind fun x=>match x with
  | .inl r1=>(some r1)
  | .inr _=>(slices_IndexFunc_10_k1)
/- slices.ContainsFunc[[]int,int] -/
noncomputable def slices_ContainsFunc_5 (s:List Int) (c0:Int) (c0_2:List (Int×Int×Int×Bool)) (c0_3:Int) (c0_4:Int):Option Bool :=
  (slices_IndexFunc_10 s c0 c0_2 c0_3 c0_4).bind fun v0 =>
  some (decide (0≤v0))
/- (lineal/progress.statement).isLasso$2 -/
noncomputable def progress_statement_isLasso_2_2 (move:Int) (a1:Int) (a1_2:List (Int×Int×Int×Bool)) (c0:Int) (c0_2:Int):Option Bool :=
  ck (0≤move) <| ck (move<(a1_2.length:Int)) <| (progress_statementOf_2 (a1_2.getD move.toNat (0,0,0,false)) c0_2).bind fun v0 =>
  some v0
/- slices.IndexFunc[[]int,int] -/
noncomputable def slices_IndexFunc_11_k1:Option Int :=
  some (-1)
noncomputable def slices_IndexFunc_11_b1 (s:List Int) (c0:Int) (c0_2:List (Int×Int×Int×Bool)) (c0_3:Int) (c0_4:Int) (st1:Int):Option (Step Int (Sum Int Unit)) :=
  if (decide (st1<(s.length:Int)))=true then
  ck (0≤st1) <| ck (st1<(s.length:Int)) <| (progress_statement_isLasso_2_2 (s.getD st1.toNat 0) c0 c0_2 c0_3 c0_4).bind fun v0 =>
  if v0=true then
  some (.done (Sum.inl st1))
  else
  ck (InK .i64 (st1+1)) <| some (.next (st1+1))
  else
  some (.done (Sum.inr ()))
noncomputable def slices_IndexFunc_11 (s:List Int) (c0:Int) (c0_2:List (Int×Int×Int×Bool)) (c0_3:Int) (c0_4:Int):Option Int :=
  (whileO (slices_IndexFunc_11_b1 s c0 c0_2 c0_3 c0_4) 0).bind fun x=>match x with
  | .inl r1=>(some r1)
  | .inr _=>(slices_IndexFunc_11_k1)
/- slices.ContainsFunc[[]int,int] -/
noncomputable def slices_ContainsFunc_6 (s:List Int) (c0:Int) (c0_2:List (Int×Int×Int×Bool)) (c0_3:Int) (c0_4:Int):Option Bool :=
  (slices_IndexFunc_11 s c0 c0_2 c0_3 c0_4).bind fun v0 =>
  some (decide (0≤v0))
/- (lineal/progress.statement).isLasso -/
noncomputable def progress_statement_isLasso_v2 (s:Int) (s_2:List (Int×Int×Int×Bool)) (c0:Int) (c0_2:Int) (path:List Int) (circle:List Int):Option Bool :=
  (progress_graph_leads (s,s_2) 0 path).bind fun v0 =>
  if (!v0.2)=true then
  some false
  else
  (progress_graph_leads (s,s_2) v0.1 circle).bind fun v0_2 =>
  if (!v0_2.2)=true then
  some false
  else
  if (!(decide (v0_2.1=v0.1)))=true then
  some false
  else
  (slices_ContainsFunc_5 circle s s_2 c0 c0_2).bind fun v0_3 =>
  if (!v0_3)=true then
  (slices_ContainsFunc_6 circle s s_2 c0 c0_2).bind fun v0_4 =>
  some v0_4
  else
  some false
/- (lineal/progress.statement).isLasso$1 -/
noncomputable def progress_statement_isLasso_1_3 (move:Int) (a1:Int) (a1_2:List (Int×Int×Int×Bool)) (c0:Int) (c0_2:Int):Option Bool :=
  ck (0≤move) <| ck (move<(a1_2.length:Int)) <| (progress_statementOf_2 (a1_2.getD move.toNat (0,0,0,false)) c0).bind fun v0 =>
  some (!v0)
/- slices.IndexFunc[[]int,int] -/
noncomputable def slices_IndexFunc_12_k1:Option Int :=
  some (-1)
noncomputable def slices_IndexFunc_12_b1 (s:List Int) (c0:Int) (c0_2:List (Int×Int×Int×Bool)) (c0_3:Int) (c0_4:Int) (st1:Int):Option (Step Int (Sum Int Unit)) :=
  if (decide (st1<(s.length:Int)))=true then
  ck (0≤st1) <| ck (st1<(s.length:Int)) <| (progress_statement_isLasso_1_3 (s.getD st1.toNat 0) c0 c0_2 c0_3 c0_4).bind fun v0 =>
  if v0=true then
  some (.done (Sum.inl st1))
  else
  ck (InK .i64 (st1+1)) <| some (.next (st1+1))
  else
  some (.done (Sum.inr ()))
noncomputable def slices_IndexFunc_12 (s:List Int) (c0:Int) (c0_2:List (Int×Int×Int×Bool)) (c0_3:Int) (c0_4:Int):Option Int :=
  (whileO (slices_IndexFunc_12_b1 s c0 c0_2 c0_3 c0_4) 0).bind fun x=>match x with
  | .inl r1=>(some r1)
  | .inr _=>(slices_IndexFunc_12_k1)
/- slices.ContainsFunc[[]int,int] -/
noncomputable def slices_ContainsFunc_7 (s:List Int) (c0:Int) (c0_2:List (Int×Int×Int×Bool)) (c0_3:Int) (c0_4:Int):Option Bool :=
  (slices_IndexFunc_12 s c0 c0_2 c0_3 c0_4).bind fun v0 =>
  some (decide (0≤v0))
/- (lineal/progress.statement).isLasso$2 -/
noncomputable def progress_statement_isLasso_2_3 (move:Int) (a1:Int) (a1_2:List (Int×Int×Int×Bool)) (c0:Int) (c0_2:Int):Option Bool :=
  ck (0≤move) <| ck (move<(a1_2.length:Int)) <| (progress_statementOf_2 (a1_2.getD move.toNat (0,0,0,false)) c0_2).bind fun v0 =>
  some v0
/- slices.IndexFunc[[]int,int] -/
noncomputable def slices_IndexFunc_13_k1:Option Int :=
  some (-1)
noncomputable def slices_IndexFunc_13_b1 (s:List Int) (c0:Int) (c0_2:List (Int×Int×Int×Bool)) (c0_3:Int) (c0_4:Int) (st1:Int):Option (Step Int (Sum Int Unit)) :=
  if (decide (st1<(s.length:Int)))=true then
  ck (0≤st1) <| ck (st1<(s.length:Int)) <| (progress_statement_isLasso_2_3 (s.getD st1.toNat 0) c0 c0_2 c0_3 c0_4).bind fun v0 =>
  if v0=true then
  some (.done (Sum.inl st1))
  else
  ck (InK .i64 (st1+1)) <| some (.next (st1+1))
  else
  some (.done (Sum.inr ()))
noncomputable def slices_IndexFunc_13 (s:List Int) (c0:Int) (c0_2:List (Int×Int×Int×Bool)) (c0_3:Int) (c0_4:Int):Option Int :=
  (whileO (slices_IndexFunc_13_b1 s c0 c0_2 c0_3 c0_4) 0).bind fun x=>match x with
  | .inl r1=>(some r1)
  | .inr _=>(slices_IndexFunc_13_k1)
/- slices.ContainsFunc[[]int,int] -/
noncomputable def slices_ContainsFunc_8 (s:List Int) (c0:Int) (c0_2:List (Int×Int×Int×Bool)) (c0_3:Int) (c0_4:Int):Option Bool :=
  (slices_IndexFunc_13 s c0 c0_2 c0_3 c0_4).bind fun v0 =>
  some (decide (0≤v0))
/- (lineal/progress.statement).isLasso -/
noncomputable def progress_statement_isLasso_3 (s:Int) (s_2:List (Int×Int×Int×Bool)) (c0:Int) (c0_2:Int) (path:List Int) (circle:List Int):Option Bool :=
  (progress_graph_leads (s,s_2) 0 path).bind fun v0 =>
  if (!v0.2)=true then
  some false
  else
  (progress_graph_leads (s,s_2) v0.1 circle).bind fun v0_2 =>
  if (!v0_2.2)=true then
  some false
  else
  if (!(decide (v0_2.1=v0.1)))=true then
  some false
  else
  (slices_ContainsFunc_7 circle s s_2 c0 c0_2).bind fun v0_3 =>
  if (!v0_3)=true then
  (slices_ContainsFunc_8 circle s s_2 c0 c0_2).bind fun v0_4 =>
  some v0_4
  else
  some false
/- lineal/progress.Refutes -/
noncomputable def progress_Refutes (g:Int×(List (Int×Int×Int×Bool))) (claim:Int) (thread:Int) (path:List Int) (circle:List Int):Option (Bool×Int) :=
  (progress_statementOf g claim thread).bind fun v0=>match v0 with
  | .inl v0_2=>(if (!(decide (v0_2=0)))=true then
  some (false,v0_2)
  else
  none)
  | .inr (.inl v0_3)=>((progress_statement_isLasso v0_3.1 v0_3.2 path circle).bind fun v0_6 =>
  some (v0_6,0))
  | .inr (.inr (.inl v0_4))=>((progress_statement_isLasso_v2 v0_4.1 v0_4.2 thread thread path circle).bind fun v0_7 =>
  some (v0_7,0))
  | .inr (.inr (.inr v0_5))=>((progress_statement_isLasso_3 v0_5.1 v0_5.2 thread thread path circle).bind fun v0_8 =>
  some (v0_8,0))
/- lineal/linealref07.Refutes -/
noncomputable def linealref07_Refutes_k2 (b2:Bool):Option (Bool×Int) :=
  some (b2,0)
noncomputable def linealref07_Refutes_b1 (g:Int×(List (Int×Int×Int×Bool))) (claim:Int) (thread:Int) (circle:List Int) (st1:Bool×Int):Option (Step (Bool×Int) (Sum Unit Bool)) :=
  if (decide (st1.2<(circle.length:Int)))=true then
  ck (0≤st1.2) <| ck (st1.2<(circle.length:Int)) <| ck (0≤(circle.getD st1.2.toNat 0)) <| ck ((circle.getD st1.2.toNat 0)<(g.2.length:Int)) <| (linealref07_falls (g.2.getD (circle.getD st1.2.toNat 0).toNat (0,0,0,false)) claim thread).bind fun v0_4 =>
  if (!v0_4.2)=true then
  some (.done (Sum.inl ()))
  else
  if st1.1=true then
  ck (InK .i64 (st1.2+1)) <| some (.next (true,(st1.2+1)))
  else
  ck (InK .i64 (st1.2+1)) <| some (.next ((decide (0<v0_4.1)),(st1.2+1)))
  else
  some (.done (Sum.inr st1.1))
noncomputable def linealref07_Refutes_k1 (g:Int×(List (Int×Int×Int×Bool))) (claim:Int) (thread:Int) (circle:List Int) (b1:Int):Option (Bool×Int) :=
  ck (0<(circle.length:Int)) <| ck (0≤(circle.getD 0 0)) <| ck ((circle.getD 0 0)<(g.2.length:Int)) <| if (!(decide ((g.2.getD (circle.getD 0 0).toNat (0,0,0,false)).1=b1)))=true then
  some (false,0)
  else
  ck (InK .i64 ((circle.length:Int) - 1)) <| ck (0≤((circle.length:Int) - 1)) <| ck (((circle.length:Int) - 1)<(circle.length:Int)) <| ck (0≤(circle.getD ((circle.length:Int) - 1).toNat 0)) <| ck ((circle.getD ((circle.length:Int) - 1).toNat 0)<(g.2.length:Int)) <| if (!(decide ((g.2.getD (circle.getD ((circle.length:Int) - 1).toNat 0).toNat (0,0,0,false)).2.2.1=b1)))=true then
  some (false,0)
  else
  (whileO (linealref07_Refutes_b1 g claim thread circle) (false,0)).bind fun x=>match x with
  | .inl _=>(some (false,0))
  | .inr r1=>(linealref07_Refutes_k2 r1)
noncomputable def linealref07_Refutes (g:Int×(List (Int×Int×Int×Bool))) (claim:Int) (thread:Int) (path:List Int) (circle:List Int):Option (Bool×Int) :=
  (linealref07_asked g claim thread).bind fun v0 =>
  if (!(decide (v0=0)))=true then
  some (false,v0)
  else
  (linealref07_isPath g path).bind fun v0_2 =>
  if (!v0_2)=true then
  some (false,0)
  else
  (linealref07_isPath g circle).bind fun v0_3 =>
  if (!v0_3)=true then
  some (false,0)
  else
  if (decide ((circle.length:Int)=0))=true then
  some (false,0)
  else
  if (decide (0<(path.length:Int)))=true then
  ck (0<(path.length:Int)) <| ck (0≤(path.getD 0 0)) <| ck ((path.getD 0 0)<(g.2.length:Int)) <| if (!(decide ((g.2.getD (path.getD 0 0).toNat (0,0,0,false)).1=0)))=true then
  some (false,0)
  else
  ck (InK .i64 ((path.length:Int) - 1)) <| ck (0≤((path.length:Int) - 1)) <| ck (((path.length:Int) - 1)<(path.length:Int)) <| ck (0≤(path.getD ((path.length:Int) - 1).toNat 0)) <| ck ((path.getD ((path.length:Int) - 1).toNat 0)<(g.2.length:Int)) <| linealref07_Refutes_k1 g claim thread circle (g.2.getD (path.getD ((path.length:Int) - 1).toNat 0).toNat (0,0,0,false)).2.2.1
  else
  linealref07_Refutes_k1 g claim thread circle 0
/- (lineal/progress.graph).paths -/
noncomputable def progress_graph_paths_2 (g:Int×(List (Int×Int×Int×Bool))) (from0:Int):Option Unit :=
  some ()
/- (lineal/progress.graph).paths$1 -/
noncomputable def progress_graph_paths_1_2_k1 (S R:Type) (st1:(List Int)×(List (List Int))×Int×S) (b1:(List Int)×(List (List Int))×S):Option (Step ((List Int)×(List (List Int))×Int×S) (Sum R S)) :=
  ck (InK .i64 (st1.2.2.1+1)) <| some (.next (b1.1,b1.2.1,(st1.2.2.1+1),b1.2.2))
noncomputable def progress_graph_paths_1_2_b2 (S R:Type) (a2:Int×(List (Int×Int×Int×Bool))) (st1:(List Int)×(List (List Int))×Int×S) (st2:(List Int)×(List (List Int))×Int):Option (Step ((List Int)×(List (List Int))×Int) ((List Int)×(List (List Int)))) :=
  if (decide (st2.2.2<(a2.2.length:Int)))=true then
  ck (0≤st2.2.2) <| ck (st2.2.2<(a2.2.length:Int)) <| ck (0≤st1.2.2.1) <| ck (st1.2.2.1<(st2.1.length:Int)) <| if (decide ((a2.2.getD st2.2.2.toNat (0,0,0,false)).1=(st2.1.getD st1.2.2.1.toNat 0)))=true then
  (progress_statementOf_1 (a2.2.getD st2.2.2.toNat (0,0,0,false))).bind fun v0 =>
  if (!(a2.2.getD st2.2.2.toNat (0,0,0,false)).2.2.2)=true then
  (slices_Contains_2 st2.1 (a2.2.getD st2.2.2.toNat (0,0,0,false)).2.2.1).bind fun v0_2 =>
  if (!v0_2)=true then
  ck ((st2.1.length+1)*8≤140737488355328) <| ck (0≤st1.2.2.1) <| ck (st1.2.2.1<(st2.2.1.length:Int)) <| (slices_Concat [(st2.2.1.getD st1.2.2.1.toNat []),[st2.2.2]]).bind fun v0_3 =>
  ck ((st2.2.1.length+1)*24≤140737488355328) <| ck (InK .i64 (st2.2.2+1)) <| some (.next ((st2.1++[(a2.2.getD st2.2.2.toNat (0,0,0,false)).2.2.1]),(st2.2.1++[v0_3]),(st2.2.2+1)))
  else
  ck (InK .i64 (st2.2.2+1)) <| some (.next (st2.1,st2.2.1,(st2.2.2+1)))
  else
  ck (InK .i64 (st2.2.2+1)) <| some (.next (st2.1,st2.2.1,(st2.2.2+1)))
  else
  ck (InK .i64 (st2.2.2+1)) <| some (.next (st2.1,st2.2.1,(st2.2.2+1)))
  else
  some (.done (st2.1,st2.2.1))
noncomputable def progress_graph_paths_1_2_b1 (S R:Type) (a2:Int×(List (Int×Int×Int×Bool))) (yl:Int×(List Int)→S→Option (Step S R)) (st1:(List Int)×(List (List Int))×Int×S):Option (Step ((List Int)×(List (List Int))×Int×S) (Sum R S)) :=
  if (decide (st1.2.2.1<(st1.1.length:Int)))=true then
  ck (0≤st1.2.2.1) <| ck (st1.2.2.1<(st1.1.length:Int)) <| ck (0≤st1.2.2.1) <| ck (st1.2.2.1<(st1.2.1.length:Int)) <| (yl ((st1.1.getD st1.2.2.1.toNat 0),(st1.2.1.getD st1.2.2.1.toNat [])) st1.2.2.2).bind fun x=>match x with
  | .next s=>((whileO (progress_graph_paths_1_2_b2 S R a2 st1) (st1.1,st1.2.1,0)).bind fun r2 =>
  progress_graph_paths_1_2_k1 S R st1 (r2.1,r2.2,s))
  | .done e=>(some (.done (Sum.inl e)))
  else
  some (.done (Sum.inr st1.2.2.2))
noncomputable def progress_graph_paths_1_2 (S R:Type) (a1:Int) (a2:Int×(List (Int×Int×Int×Bool))) (yl:Int×(List Int)→S→Option (Step S R)) (s0:S):Option (Sum S R) :=
  (whileO (progress_graph_paths_1_2_b1 S R a2 yl) ([a1],[[]],0,s0)).bind fun x=>match x with
  | .inl r1=>(some (Sum.inr r1))
  | .inr r1_2=>(some (Sum.inl r1_2))
/- (lineal/progress.graph).way -/
noncomputable def progress_graph_way_2_k1:Option ((List Int)×Bool) :=
  some ([],false)
noncomputable def progress_graph_way_2_y1 (to0:Int) (y1:Int×(List Int)) (st1:Unit):Option (Step Unit ((List Int))) :=
  if (decide (y1.1=to0))=true then
  some (.done y1.2)
  else
  some (.next ())
noncomputable def progress_graph_way_2 (g:Int×(List (Int×Int×Int×Bool))) (from0:Int) (to0:Int):Option ((List Int)×Bool) :=
  (progress_graph_paths_2 g from0).bind fun v0 =>
  (progress_graph_paths_1_2 Unit ((List Int)) from0 g (progress_graph_way_2_y1 to0) ()).bind fun x=>match x with
  | .inl st1_2=>(progress_graph_way_2_k1)
  | .inr r1=>(some (r1,true))
/- (lineal/progress.statement).circle -/
noncomputable def progress_statement_circle_k1:Option ((List Int)×Bool) :=
  some ([],false)
noncomputable def progress_statement_circle_b1 (s:Int) (s_2:List (Int×Int×Int×Bool)) (from0:Int) (st1:Int):Option (Step Int (Sum ((List Int)) Unit)) :=
  if (decide (st1<(s_2.length:Int)))=true then
  ck (0≤st1) <| ck (st1<(s_2.length:Int)) <| if (!(decide ((s_2.getD st1.toNat (0,0,0,false)).1=from0)))=true then
  ck (InK .i64 (st1+1)) <| some (.next (st1+1))
  else
  (progress_statementOf_1 (s_2.getD st1.toNat (0,0,0,false))).bind fun v0 =>
  if (!(!(s_2.getD st1.toNat (0,0,0,false)).2.2.2))=true then
  ck (InK .i64 (st1+1)) <| some (.next (st1+1))
  else
  (progress_graph_way_2 (s,s_2) (s_2.getD st1.toNat (0,0,0,false)).2.2.1 from0).bind fun v0_2 =>
  if v0_2.2=true then
  ck ((1+v0_2.1.length)*8≤140737488355328) <| some (.done (Sum.inl (st1::v0_2.1)))
  else
  ck (InK .i64 (st1+1)) <| some (.next (st1+1))
  else
  some (.done (Sum.inr ()))
noncomputable def progress_statement_circle (s:Int) (s_2:List (Int×Int×Int×Bool)) (from0:Int):Option ((List Int)×Bool) :=
  (whileO (progress_statement_circle_b1 s s_2 from0) 0).bind fun x=>match x with
  | .inl r1=>(some (r1,true))
  | .inr _=>(progress_statement_circle_k1)
/- (lineal/progress.statement).lasso -/
noncomputable def progress_statement_lasso_k1 (b1:(List Int)×Bool):Option ((List Int)×(List Int)×Bool) :=
  some ([],[],false)
noncomputable def progress_statement_lasso_y1 (s:Int) (s_2:List (Int×Int×Int×Bool)) (y1:Int×(List Int)) (st1:(List Int)×Bool):Option (Step ((List Int)×Bool) ((List Int)×(List Int))) :=
  (progress_statement_circle s s_2 y1.1).bind fun v0_2 =>
  if v0_2.2=true then
  some (.done (y1.2,v0_2.1))
  else
  some (.next v0_2)
noncomputable def progress_statement_lasso (s:Int) (s_2:List (Int×Int×Int×Bool)):Option ((List Int)×(List Int)×Bool) :=
  (progress_graph_paths (s,s_2) 0).bind fun v0 =>
  (progress_graph_paths_1 ((List Int)×Bool) ((List Int)×(List Int)) 0 (s,s_2) (progress_statement_lasso_y1 s s_2) ([],false)).bind fun x=>match x with
  | .inl st1_2=>(progress_statement_lasso_k1 st1_2)
  | .inr r1=>(some (r1.1,r1.2,true))
/- (lineal/progress.graph).paths -/
noncomputable def progress_graph_paths_3 (g:Int×(List (Int×Int×Int×Bool))) (from0:Int) (c0:Int):Option Unit :=
  some ()
/- (lineal/progress.graph).paths$1 -/
noncomputable def progress_graph_paths_1_3_k1 (S R:Type) (st1:(List Int)×(List (List Int))×Int×S) (b1:(List Int)×(List (List Int))×S):Option (Step ((List Int)×(List (List Int))×Int×S) (Sum R S)) :=
  ck (InK .i64 (st1.2.2.1+1)) <| some (.next (b1.1,b1.2.1,(st1.2.2.1+1),b1.2.2))
noncomputable def progress_graph_paths_1_3_b2 (S R:Type) (a2:Int×(List (Int×Int×Int×Bool))) (c0:Int) (st1:(List Int)×(List (List Int))×Int×S) (st2:(List Int)×(List (List Int))×Int):Option (Step ((List Int)×(List (List Int))×Int) ((List Int)×(List (List Int)))) :=
  if (decide (st2.2.2<(a2.2.length:Int)))=true then
  ck (0≤st2.2.2) <| ck (st2.2.2<(a2.2.length:Int)) <| ck (0≤st1.2.2.1) <| ck (st1.2.2.1<(st2.1.length:Int)) <| if (decide ((a2.2.getD st2.2.2.toNat (0,0,0,false)).1=(st2.1.getD st1.2.2.1.toNat 0)))=true then
  (progress_statementOf_3 (a2.2.getD st2.2.2.toNat (0,0,0,false)) c0).bind fun v0 =>
  if v0=true then
  (slices_Contains_2 st2.1 (a2.2.getD st2.2.2.toNat (0,0,0,false)).2.2.1).bind fun v0_2 =>
  if (!v0_2)=true then
  ck ((st2.1.length+1)*8≤140737488355328) <| ck (0≤st1.2.2.1) <| ck (st1.2.2.1<(st2.2.1.length:Int)) <| (slices_Concat [(st2.2.1.getD st1.2.2.1.toNat []),[st2.2.2]]).bind fun v0_3 =>
  ck ((st2.2.1.length+1)*24≤140737488355328) <| ck (InK .i64 (st2.2.2+1)) <| some (.next ((st2.1++[(a2.2.getD st2.2.2.toNat (0,0,0,false)).2.2.1]),(st2.2.1++[v0_3]),(st2.2.2+1)))
  else
  ck (InK .i64 (st2.2.2+1)) <| some (.next (st2.1,st2.2.1,(st2.2.2+1)))
  else
  ck (InK .i64 (st2.2.2+1)) <| some (.next (st2.1,st2.2.1,(st2.2.2+1)))
  else
  ck (InK .i64 (st2.2.2+1)) <| some (.next (st2.1,st2.2.1,(st2.2.2+1)))
  else
  some (.done (st2.1,st2.2.1))
noncomputable def progress_graph_paths_1_3_b1 (S R:Type) (a2:Int×(List (Int×Int×Int×Bool))) (c0:Int) (yl:Int×(List Int)→S→Option (Step S R)) (st1:(List Int)×(List (List Int))×Int×S):Option (Step ((List Int)×(List (List Int))×Int×S) (Sum R S)) :=
  if (decide (st1.2.2.1<(st1.1.length:Int)))=true then
  ck (0≤st1.2.2.1) <| ck (st1.2.2.1<(st1.1.length:Int)) <| ck (0≤st1.2.2.1) <| ck (st1.2.2.1<(st1.2.1.length:Int)) <| (yl ((st1.1.getD st1.2.2.1.toNat 0),(st1.2.1.getD st1.2.2.1.toNat [])) st1.2.2.2).bind fun x=>match x with
  | .next s=>((whileO (progress_graph_paths_1_3_b2 S R a2 c0 st1) (st1.1,st1.2.1,0)).bind fun r2 =>
  progress_graph_paths_1_3_k1 S R st1 (r2.1,r2.2,s))
  | .done e=>(some (.done (Sum.inl e)))
  else
  some (.done (Sum.inr st1.2.2.2))
noncomputable def progress_graph_paths_1_3 (S R:Type) (a1:Int) (a2:Int×(List (Int×Int×Int×Bool))) (c0:Int) (yl:Int×(List Int)→S→Option (Step S R)) (s0:S):Option (Sum S R) :=
  (whileO (progress_graph_paths_1_3_b1 S R a2 c0 yl) ([a1],[[]],0,s0)).bind fun x=>match x with
  | .inl r1=>(some (Sum.inr r1))
  | .inr r1_2=>(some (Sum.inl r1_2))
/- (lineal/progress.graph).way -/
noncomputable def progress_graph_way_3_k1:Option ((List Int)×Bool) :=
  some ([],false)
noncomputable def progress_graph_way_3_y1 (to0:Int) (y1:Int×(List Int)) (st1:Unit):Option (Step Unit ((List Int))) :=
  if (decide (y1.1=to0))=true then
  some (.done y1.2)
  else
  some (.next ())
noncomputable def progress_graph_way_3 (g:Int×(List (Int×Int×Int×Bool))) (from0:Int) (to0:Int) (c0:Int):Option ((List Int)×Bool) :=
  (progress_graph_paths_3 g from0 c0).bind fun v0 =>
  (progress_graph_paths_1_3 Unit ((List Int)) from0 g c0 (progress_graph_way_3_y1 to0) ()).bind fun x=>match x with
  | .inl st1_2=>(progress_graph_way_3_k1)
  | .inr r1=>(some (r1,true))
/- (lineal/progress.statement).circle -/
noncomputable def progress_statement_circle_2_k1:Option ((List Int)×Bool) :=
  some ([],false)
noncomputable def progress_statement_circle_2_b1 (s:Int) (s_2:List (Int×Int×Int×Bool)) (c0:Int) (c0_2:Int) (from0:Int) (st1:Int):Option (Step Int (Sum ((List Int)) Unit)) :=
  if (decide (st1<(s_2.length:Int)))=true then
  ck (0≤st1) <| ck (st1<(s_2.length:Int)) <| if (!(decide ((s_2.getD st1.toNat (0,0,0,false)).1=from0)))=true then
  ck (InK .i64 (st1+1)) <| some (.next (st1+1))
  else
  (progress_statementOf_2 (s_2.getD st1.toNat (0,0,0,false)) c0_2).bind fun v0 =>
  if (!v0)=true then
  ck (InK .i64 (st1+1)) <| some (.next (st1+1))
  else
  (progress_graph_way_3 (s,s_2) (s_2.getD st1.toNat (0,0,0,false)).2.2.1 from0 c0).bind fun v0_2 =>
  if v0_2.2=true then
  ck ((1+v0_2.1.length)*8≤140737488355328) <| some (.done (Sum.inl (st1::v0_2.1)))
  else
  ck (InK .i64 (st1+1)) <| some (.next (st1+1))
  else
  some (.done (Sum.inr ()))
noncomputable def progress_statement_circle_2 (s:Int) (s_2:List (Int×Int×Int×Bool)) (c0:Int) (c0_2:Int) (from0:Int):Option ((List Int)×Bool) :=
  (whileO (progress_statement_circle_2_b1 s s_2 c0 c0_2 from0) 0).bind fun x=>match x with
  | .inl r1=>(some (r1,true))
  | .inr _=>(progress_statement_circle_2_k1)
/- (lineal/progress.statement).lasso -/
noncomputable def progress_statement_lasso_2_k1 (b1:(List Int)×Bool):Option ((List Int)×(List Int)×Bool) :=
  some ([],[],false)
noncomputable def progress_statement_lasso_2_y1 (s:Int) (s_2:List (Int×Int×Int×Bool)) (c0:Int) (c0_2:Int) (y1:Int×(List Int)) (st1:(List Int)×Bool):Option (Step ((List Int)×Bool) ((List Int)×(List Int))) :=
  (progress_statement_circle_2 s s_2 c0 c0_2 y1.1).bind fun v0_2 =>
  if v0_2.2=true then
  some (.done (y1.2,v0_2.1))
  else
  some (.next v0_2)
noncomputable def progress_statement_lasso_2 (s:Int) (s_2:List (Int×Int×Int×Bool)) (c0:Int) (c0_2:Int):Option ((List Int)×(List Int)×Bool) :=
  (progress_graph_paths (s,s_2) 0).bind fun v0 =>
  (progress_graph_paths_1 ((List Int)×Bool) ((List Int)×(List Int)) 0 (s,s_2) (progress_statement_lasso_2_y1 s s_2 c0 c0_2) ([],false)).bind fun x=>match x with
  | .inl st1_2=>(progress_statement_lasso_2_k1 st1_2)
  | .inr r1=>(some (r1.1,r1.2,true))
/- (lineal/progress.graph).paths -/
noncomputable def progress_graph_paths_4 (g:Int×(List (Int×Int×Int×Bool))) (from0:Int) (c0:Int):Option Unit :=
  some ()
/- (lineal/progress.graph).paths$1 -/
noncomputable def progress_graph_paths_1_4_k1 (S R:Type) (st1:(List Int)×(List (List Int))×Int×S) (b1:(List Int)×(List (List Int))×S):Option (Step ((List Int)×(List (List Int))×Int×S) (Sum R S)) :=
  ck (InK .i64 (st1.2.2.1+1)) <| some (.next (b1.1,b1.2.1,(st1.2.2.1+1),b1.2.2))
noncomputable def progress_graph_paths_1_4_b2 (S R:Type) (a2:Int×(List (Int×Int×Int×Bool))) (c0:Int) (st1:(List Int)×(List (List Int))×Int×S) (st2:(List Int)×(List (List Int))×Int):Option (Step ((List Int)×(List (List Int))×Int) ((List Int)×(List (List Int)))) :=
  if (decide (st2.2.2<(a2.2.length:Int)))=true then
  ck (0≤st2.2.2) <| ck (st2.2.2<(a2.2.length:Int)) <| ck (0≤st1.2.2.1) <| ck (st1.2.2.1<(st2.1.length:Int)) <| if (decide ((a2.2.getD st2.2.2.toNat (0,0,0,false)).1=(st2.1.getD st1.2.2.1.toNat 0)))=true then
  (progress_statementOf_2 (a2.2.getD st2.2.2.toNat (0,0,0,false)) c0).bind fun v0 =>
  if v0=true then
  (slices_Contains_2 st2.1 (a2.2.getD st2.2.2.toNat (0,0,0,false)).2.2.1).bind fun v0_2 =>
  if (!v0_2)=true then
  ck ((st2.1.length+1)*8≤140737488355328) <| ck (0≤st1.2.2.1) <| ck (st1.2.2.1<(st2.2.1.length:Int)) <| (slices_Concat [(st2.2.1.getD st1.2.2.1.toNat []),[st2.2.2]]).bind fun v0_3 =>
  ck ((st2.2.1.length+1)*24≤140737488355328) <| ck (InK .i64 (st2.2.2+1)) <| some (.next ((st2.1++[(a2.2.getD st2.2.2.toNat (0,0,0,false)).2.2.1]),(st2.2.1++[v0_3]),(st2.2.2+1)))
  else
  ck (InK .i64 (st2.2.2+1)) <| some (.next (st2.1,st2.2.1,(st2.2.2+1)))
  else
  ck (InK .i64 (st2.2.2+1)) <| some (.next (st2.1,st2.2.1,(st2.2.2+1)))
  else
  ck (InK .i64 (st2.2.2+1)) <| some (.next (st2.1,st2.2.1,(st2.2.2+1)))
  else
  some (.done (st2.1,st2.2.1))
noncomputable def progress_graph_paths_1_4_b1 (S R:Type) (a2:Int×(List (Int×Int×Int×Bool))) (c0:Int) (yl:Int×(List Int)→S→Option (Step S R)) (st1:(List Int)×(List (List Int))×Int×S):Option (Step ((List Int)×(List (List Int))×Int×S) (Sum R S)) :=
  if (decide (st1.2.2.1<(st1.1.length:Int)))=true then
  ck (0≤st1.2.2.1) <| ck (st1.2.2.1<(st1.1.length:Int)) <| ck (0≤st1.2.2.1) <| ck (st1.2.2.1<(st1.2.1.length:Int)) <| (yl ((st1.1.getD st1.2.2.1.toNat 0),(st1.2.1.getD st1.2.2.1.toNat [])) st1.2.2.2).bind fun x=>match x with
  | .next s=>((whileO (progress_graph_paths_1_4_b2 S R a2 c0 st1) (st1.1,st1.2.1,0)).bind fun r2 =>
  progress_graph_paths_1_4_k1 S R st1 (r2.1,r2.2,s))
  | .done e=>(some (.done (Sum.inl e)))
  else
  some (.done (Sum.inr st1.2.2.2))
noncomputable def progress_graph_paths_1_4 (S R:Type) (a1:Int) (a2:Int×(List (Int×Int×Int×Bool))) (c0:Int) (yl:Int×(List Int)→S→Option (Step S R)) (s0:S):Option (Sum S R) :=
  (whileO (progress_graph_paths_1_4_b1 S R a2 c0 yl) ([a1],[[]],0,s0)).bind fun x=>match x with
  | .inl r1=>(some (Sum.inr r1))
  | .inr r1_2=>(some (Sum.inl r1_2))
/- (lineal/progress.graph).way -/
noncomputable def progress_graph_way_4_k1:Option ((List Int)×Bool) :=
  some ([],false)
noncomputable def progress_graph_way_4_y1 (to0:Int) (y1:Int×(List Int)) (st1:Unit):Option (Step Unit ((List Int))) :=
  if (decide (y1.1=to0))=true then
  some (.done y1.2)
  else
  some (.next ())
noncomputable def progress_graph_way_4 (g:Int×(List (Int×Int×Int×Bool))) (from0:Int) (to0:Int) (c0:Int):Option ((List Int)×Bool) :=
  (progress_graph_paths_4 g from0 c0).bind fun v0 =>
  (progress_graph_paths_1_4 Unit ((List Int)) from0 g c0 (progress_graph_way_4_y1 to0) ()).bind fun x=>match x with
  | .inl st1_2=>(progress_graph_way_4_k1)
  | .inr r1=>(some (r1,true))
/- (lineal/progress.statement).circle -/
noncomputable def progress_statement_circle_3_k1:Option ((List Int)×Bool) :=
  some ([],false)
noncomputable def progress_statement_circle_3_b1 (s:Int) (s_2:List (Int×Int×Int×Bool)) (c0:Int) (c0_2:Int) (from0:Int) (st1:Int):Option (Step Int (Sum ((List Int)) Unit)) :=
  if (decide (st1<(s_2.length:Int)))=true then
  ck (0≤st1) <| ck (st1<(s_2.length:Int)) <| if (!(decide ((s_2.getD st1.toNat (0,0,0,false)).1=from0)))=true then
  ck (InK .i64 (st1+1)) <| some (.next (st1+1))
  else
  (progress_statementOf_2 (s_2.getD st1.toNat (0,0,0,false)) c0_2).bind fun v0 =>
  if (!v0)=true then
  ck (InK .i64 (st1+1)) <| some (.next (st1+1))
  else
  (progress_graph_way_4 (s,s_2) (s_2.getD st1.toNat (0,0,0,false)).2.2.1 from0 c0).bind fun v0_2 =>
  if v0_2.2=true then
  ck ((1+v0_2.1.length)*8≤140737488355328) <| some (.done (Sum.inl (st1::v0_2.1)))
  else
  ck (InK .i64 (st1+1)) <| some (.next (st1+1))
  else
  some (.done (Sum.inr ()))
noncomputable def progress_statement_circle_3 (s:Int) (s_2:List (Int×Int×Int×Bool)) (c0:Int) (c0_2:Int) (from0:Int):Option ((List Int)×Bool) :=
  (whileO (progress_statement_circle_3_b1 s s_2 c0 c0_2 from0) 0).bind fun x=>match x with
  | .inl r1=>(some (r1,true))
  | .inr _=>(progress_statement_circle_3_k1)
/- (lineal/progress.statement).lasso -/
noncomputable def progress_statement_lasso_3_k1 (b1:(List Int)×Bool):Option ((List Int)×(List Int)×Bool) :=
  some ([],[],false)
noncomputable def progress_statement_lasso_3_y1 (s:Int) (s_2:List (Int×Int×Int×Bool)) (c0:Int) (c0_2:Int) (y1:Int×(List Int)) (st1:(List Int)×Bool):Option (Step ((List Int)×Bool) ((List Int)×(List Int))) :=
  (progress_statement_circle_3 s s_2 c0 c0_2 y1.1).bind fun v0_2 =>
  if v0_2.2=true then
  some (.done (y1.2,v0_2.1))
  else
  some (.next v0_2)
noncomputable def progress_statement_lasso_3 (s:Int) (s_2:List (Int×Int×Int×Bool)) (c0:Int) (c0_2:Int):Option ((List Int)×(List Int)×Bool) :=
  (progress_graph_paths (s,s_2) 0).bind fun v0 =>
  (progress_graph_paths_1 ((List Int)×Bool) ((List Int)×(List Int)) 0 (s,s_2) (progress_statement_lasso_3_y1 s s_2 c0 c0_2) ([],false)).bind fun x=>match x with
  | .inl st1_2=>(progress_statement_lasso_3_k1 st1_2)
  | .inr r1=>(some (r1.1,r1.2,true))
/- lineal/progress.Lasso -/
noncomputable def progress_Lasso (g:Int×(List (Int×Int×Int×Bool))) (claim:Int) (thread:Int):Option ((List Int)×(List Int)×Int) :=
  (progress_statementOf g claim thread).bind fun v0=>match v0 with
  | .inl v0_2=>(if (!(decide (v0_2=0)))=true then
  some ([],[],v0_2)
  else
  none)
  | .inr (.inl v0_3)=>((progress_statement_lasso v0_3.1 v0_3.2).bind fun v0_6 =>
  if (!v0_6.2.2)=true then
  some ([],[],5)
  else
  some (v0_6.1,v0_6.2.1,0))
  | .inr (.inr (.inl v0_4))=>((progress_statement_lasso_2 v0_4.1 v0_4.2 thread thread).bind fun v0_7 =>
  if (!v0_7.2.2)=true then
  some ([],[],5)
  else
  some (v0_7.1,v0_7.2.1,0))
  | .inr (.inr (.inr v0_5))=>((progress_statement_lasso_3 v0_5.1 v0_5.2 thread thread).bind fun v0_8 =>
  if (!v0_8.2.2)=true then
  some ([],[],5)
  else
  some (v0_8.1,v0_8.2.1,0))
/- lineal/linealtop.TopProgress -/
noncomputable def linealtop_TopProgress_k6:Option Bool :=
  (lineallaw07_Awake).bind fun v0_16 =>
  some v0_16
noncomputable def linealtop_TopProgress_b3 (b4_2:(El T67)) (st3:Int):Option (Step Int (Sum Unit Unit)) :=
  if (decide (st3<3))=true then
  if (boolAt T67 b4_2 0)=true then
  ck (0≤st3) <| ck (st3<3) <| if (!(boolAt T67 b4_2 (6+st3.toNat*1)))=true then
  some (.done (Sum.inl ()))
  else
  ck (InK .i64 (st3+1)) <| some (.next (st3+1))
  else
  ck (0≤st3) <| ck (st3<3) <| if (boolAt T67 b4_2 (3+st3.toNat*1))=true then
  ck (0≤st3) <| ck (st3<3) <| if (!(boolAt T67 b4_2 (6+st3.toNat*1)))=true then
  some (.done (Sum.inl ()))
  else
  ck (InK .i64 (st3+1)) <| some (.next (st3+1))
  else
  ck (InK .i64 (st3+1)) <| some (.next (st3+1))
  else
  some (.done (Sum.inr ()))
noncomputable def linealtop_TopProgress_k5 (b4_2:(El T67)):Option Bool :=
  (whileO (linealtop_TopProgress_b3 b4_2) 0).bind fun x=>match x with
  | .inl _=>(some false)
  | .inr _=>(linealtop_TopProgress_k6)
noncomputable def linealtop_TopProgress_k1 (g:Int×(List (Int×Int×Int×Bool))) (b4_2:(El T67)):Option Bool :=
  (progress_Everybody g).bind fun v0_15 =>
  if (!(decide (v0_15.2=0)))=true then
  some false
  else
  if (boolAt T67 b4_2 3)=true then
  if (boolAt T67 b4_2 4)=true then
  if ((v0_15.1==(boolAt T67 b4_2 5)) != true)=true then
  some false
  else
  if v0_15.1=true then
  if (!(boolAt T67 b4_2 0))=true then
  some false
  else
  linealtop_TopProgress_k5 b4_2
  else
  linealtop_TopProgress_k5 b4_2
  else
  if ((v0_15.1==false) != true)=true then
  some false
  else
  if v0_15.1=true then
  if (!(boolAt T67 b4_2 0))=true then
  some false
  else
  linealtop_TopProgress_k5 b4_2
  else
  linealtop_TopProgress_k5 b4_2
  else
  if ((v0_15.1==false) != true)=true then
  some false
  else
  if v0_15.1=true then
  if (!(boolAt T67 b4_2 0))=true then
  some false
  else
  linealtop_TopProgress_k5 b4_2
  else
  linealtop_TopProgress_k5 b4_2
noncomputable def linealtop_TopProgress_k2 (st1:(El T67)×Int) (b4:(El T67)):Option (Step ((El T67)×Int) (Sum Unit ((El T67)))) :=
  ck (InK .i64 (st1.2+1)) <| some (.next (b4,(st1.2+1)))
noncomputable def linealtop_TopProgress_k4 (g:Int×(List (Int×Int×Int×Bool))) (st1:(El T67)×Int) (st2:(El T67)×Int) (v0_8:(List Int)×Int) (v0_9:(List Int)×(List Int)×Int) (v0_10:Bool×Int):Option (Step ((El T67)×Int) (Sum Unit ((El T67)))) :=
  if v0_10.1=true then
  (linealref07_Prove g st1.2 st2.2 v0_8.1).bind fun v0_13 =>
  if (!(decide (v0_9.2.2=5)))=true then
  some (.done (Sum.inl ()))
  else
  if (!(decide (v0_13.2=0)))=true then
  some (.done (Sum.inl ()))
  else
  if (!v0_13.1)=true then
  some (.done (Sum.inl ()))
  else
  ck (0≤st1.2) <| ck (st1.2<3) <| ck (0≤st2.2) <| ck (st2.2<3) <| ck (InK .i64 (st2.2+1)) <| some (.next ((setBool T67 st2.1 ((0+st1.2.toNat*3)+st2.2.toNat*1) v0_10.1),(st2.2+1)))
  else
  (linealref07_Refutes g st1.2 st2.2 v0_9.1 v0_9.2.1).bind fun v0_14 =>
  if (!(decide (v0_8.2=5)))=true then
  some (.done (Sum.inl ()))
  else
  if (!(decide (v0_14.2=0)))=true then
  some (.done (Sum.inl ()))
  else
  if (!v0_14.1)=true then
  some (.done (Sum.inl ()))
  else
  ck (0≤st1.2) <| ck (st1.2<3) <| ck (0≤st2.2) <| ck (st2.2<3) <| ck (InK .i64 (st2.2+1)) <| some (.next ((setBool T67 st2.1 ((0+st1.2.toNat*3)+st2.2.toNat*1) v0_10.1),(st2.2+1)))
noncomputable def linealtop_TopProgress_k3 (g:Int×(List (Int×Int×Int×Bool))) (ranks:List Int) (path:List Int) (circle:List Int) (st1:(El T67)×Int) (st2:(El T67)×Int):Option (Step ((El T67)×Int) (Sum Unit ((El T67)))) :=
  (progress_Ranks g st1.2 st2.2).bind fun v0_8 =>
  (progress_Lasso g st1.2 st2.2).bind fun v0_9 =>
  (progress_Holds g st1.2 st2.2).bind fun v0_10 =>
  (progress_Prove g st1.2 st2.2 ranks).bind fun v0_11 =>
  (progress_Refutes g st1.2 st2.2 path circle).bind fun v0_12 =>
  if (!(decide (v0_10.2=0)))=true then
  some (.done (Sum.inl ()))
  else
  if ((v0_10.1==(decide (v0_8.2=0))) != true)=true then
  some (.done (Sum.inl ()))
  else
  if ((v0_10.1==(decide (v0_9.2.2=0))) != false)=true then
  some (.done (Sum.inl ()))
  else
  if (!(decide (v0_11.2=0)))=true then
  if (!(decide (v0_11.2=2)))=true then
  some (.done (Sum.inl ()))
  else
  if (!(decide (v0_12.2=0)))=true then
  some (.done (Sum.inl ()))
  else
  if v0_11.1=true then
  if (!v0_10.1)=true then
  some (.done (Sum.inl ()))
  else
  if v0_12.1=true then
  if v0_10.1=true then
  some (.done (Sum.inl ()))
  else
  linealtop_TopProgress_k4 g st1 st2 v0_8 v0_9 v0_10
  else
  linealtop_TopProgress_k4 g st1 st2 v0_8 v0_9 v0_10
  else
  if v0_12.1=true then
  if v0_10.1=true then
  some (.done (Sum.inl ()))
  else
  linealtop_TopProgress_k4 g st1 st2 v0_8 v0_9 v0_10
  else
  linealtop_TopProgress_k4 g st1 st2 v0_8 v0_9 v0_10
  else
  if (!(decide (v0_12.2=0)))=true then
  some (.done (Sum.inl ()))
  else
  if v0_11.1=true then
  if (!v0_10.1)=true then
  some (.done (Sum.inl ()))
  else
  if v0_12.1=true then
  if v0_10.1=true then
  some (.done (Sum.inl ()))
  else
  linealtop_TopProgress_k4 g st1 st2 v0_8 v0_9 v0_10
  else
  linealtop_TopProgress_k4 g st1 st2 v0_8 v0_9 v0_10
  else
  if v0_12.1=true then
  if v0_10.1=true then
  some (.done (Sum.inl ()))
  else
  linealtop_TopProgress_k4 g st1 st2 v0_8 v0_9 v0_10
  else
  linealtop_TopProgress_k4 g st1 st2 v0_8 v0_9 v0_10
noncomputable def linealtop_TopProgress_b2 (g:Int×(List (Int×Int×Int×Bool))) (ranks:List Int) (path:List Int) (circle:List Int) (st1:(El T67)×Int) (st2:(El T67)×Int):Option (Step ((El T67)×Int) (Sum Unit ((El T67)))) :=
  if (decide (st2.2<3))=true then
  if (decide (st1.2=0))=true then
  if (decide (0<st2.2))=true then
  ck (InK .i64 (st2.2+1)) <| some (.next (st2.1,(st2.2+1)))
  else
  linealtop_TopProgress_k3 g ranks path circle st1 st2
  else
  linealtop_TopProgress_k3 g ranks path circle st1 st2
  else
  some (.done (Sum.inr st2.1))
noncomputable def linealtop_TopProgress_b1 (g:Int×(List (Int×Int×Int×Bool))) (ranks:List Int) (path:List Int) (circle:List Int) (st1:(El T67)×Int):Option (Step ((El T67)×Int) (Sum Unit ((El T67)))) :=
  if (decide (st1.2<3))=true then
  (whileO (linealtop_TopProgress_b2 g ranks path circle st1) (st1.1,0)).bind fun x=>match x with
  | .inl _=>(some (.done (Sum.inl ())))
  | .inr r2=>(linealtop_TopProgress_k2 st1 r2)
  else
  some (.done (Sum.inr st1.1))
noncomputable def linealtop_TopProgress (g:Int×(List (Int×Int×Int×Bool))) (ranks:List Int) (path:List Int) (circle:List Int):Option Bool :=
  (lineallaw07_Long g).bind fun v0 =>
  if (decide (100<(g.2.length:Int)))=true then
  (lineallaw07_Awake).bind fun v0_2 =>
  some v0_2
  else
  (linealref07_Valid g).bind fun v0_3 =>
  if (!v0_3)=true then
  (lineallaw07_Awake).bind fun v0_4 =>
  some v0_4
  else
  if (decide (100<(ranks.length:Int)))=true then
  (lineallaw07_Awake).bind fun v0_5 =>
  some v0_5
  else
  if (decide (1100<(path.length:Int)))=true then
  (lineallaw07_Awake).bind fun v0_6 =>
  some v0_6
  else
  if (decide (1100<(circle.length:Int)))=true then
  (lineallaw07_Awake).bind fun v0_7 =>
  some v0_7
  else
  (whileO (linealtop_TopProgress_b1 g ranks path circle) ((Ty.dflt T67),0)).bind fun x=>match x with
  | .inl _=>(some false)
  | .inr r1=>(linealtop_TopProgress_k1 g r1)
end Go.Proofs.Yteclokkdgmacpaa
