import Derived.Test.YtdicomoggfhbfaaAvr
namespace Go.Proofs.Ytdicomoggfhbfaa
open Go.RowKit
set_option linter.unusedSimpArgs false
set_option linter.unusedVariables false
set_option linter.constructorNameAsVariable false
abbrev ZS:Type:=List (Int×Int×(List (List Int))×(List (List Int)))
abbrev ZH:Type:=List (Int×Int×Int×Int×Int×Int)
abbrev ZM:Type:=List (((Int×Int)×Int)×Int)
abbrev Y0:Ty:=(.pair (.int .i64) (.pair (.int .i64) (.int .i64)))
attribute [go_sem] Y0
/- lineal/lineallaw09.Long -/
noncomputable def lineallaw09_Long_k1 (x0:List (List (Int×Bool))):Option Bool :=
  some (decide (20<(x0.length:Int)))
noncomputable def lineallaw09_Long_b1 (x0:List (List (Int×Bool))) (st1:Int):Option (Step Int (Sum Unit Unit)) :=
  if (decide (st1<(x0.length:Int)))=true then
  ck (0≤st1) <| ck (st1<(x0.length:Int)) <| if (decide (20<((x0.getD st1.toNat []).length:Int)))=true then
  some (.done (Sum.inl ()))
  else
  ck (InK .i64 (st1+1)) <| some (.next (st1+1))
  else
  some (.done (Sum.inr ()))
noncomputable def lineallaw09_Long (x0:List (List (Int×Bool))):Option Bool :=
  (whileO (lineallaw09_Long_b1 x0) 0).bind fun x=>match x with
  | .inl _=>(some true)
  | .inr _=>(lineallaw09_Long_k1 x0)
/- lineal/delay.isBelow -/
noncomputable def delay_isBelow (number:Int) (end0:Int):Option Bool :=
  if (decide (0≤number))=true then
  some (decide (number<end0))
  else
  some false
/- lineal/delay.isAccess -/
noncomputable def delay_isAccess (a:Int×Bool):Option Bool :=
  (delay_isBelow a.1 3).bind fun v0 =>
  some v0
/- lineal/delay.isThread$1 -/
noncomputable def delay_isThread_1 (a:Int×Bool):Option Bool :=
  (delay_isAccess a).bind fun v0 =>
  some (!v0)
/- slices.IndexFunc[[]lineal/api.Access,lineal/api.Access] -/
noncomputable def slices_IndexFunc_2_k1:Option Int :=
  some (-1)
noncomputable def slices_IndexFunc_2_b1 (s:List (Int×Bool)) (st1:Int):Option (Step Int (Sum Int Unit)) :=
  if (decide (st1<(s.length:Int)))=true then
  ck (0≤st1) <| ck (st1<(s.length:Int)) <| (delay_isThread_1 (s.getD st1.toNat (0,false))).bind fun v0 =>
  if v0=true then
  some (.done (Sum.inl st1))
  else
  ck (InK .i64 (st1+1)) <| some (.next (st1+1))
  else
  some (.done (Sum.inr ()))
noncomputable def slices_IndexFunc_2 (s:List (Int×Bool)):Option Int :=
  (whileO (slices_IndexFunc_2_b1 s) 0).bind fun x=>match x with
  | .inl r1=>(some r1)
  | .inr _=>(slices_IndexFunc_2_k1)
/- slices.ContainsFunc[[]lineal/api.Access,lineal/api.Access] -/
noncomputable def slices_ContainsFunc_2 (s:List (Int×Bool)):Option Bool :=
  (slices_IndexFunc_2 s).bind fun v0 =>
  some (decide (0≤v0))
/- lineal/delay.isThread -/
noncomputable def delay_isThread (list:List (Int×Bool)):Option Bool :=
  if (decide ((list.length:Int)≤4))=true then
  (slices_ContainsFunc_2 list).bind fun v0 =>
  some (!v0)
  else
  some false
/- lineal/delay.Valid$1 -/
noncomputable def delay_Valid_1 (list:List (Int×Bool)):Option Bool :=
  (delay_isThread list).bind fun v0 =>
  some (!v0)
/- slices.IndexFunc[[][]lineal/api.Access,[]lineal/api.Access] -/
noncomputable def slices_IndexFunc_k1:Option Int :=
  some (-1)
noncomputable def slices_IndexFunc_b1 (s:List (List (Int×Bool))) (st1:Int):Option (Step Int (Sum Int Unit)) :=
  if (decide (st1<(s.length:Int)))=true then
  ck (0≤st1) <| ck (st1<(s.length:Int)) <| (delay_Valid_1 (s.getD st1.toNat [])).bind fun v0 =>
  if v0=true then
  some (.done (Sum.inl st1))
  else
  ck (InK .i64 (st1+1)) <| some (.next (st1+1))
  else
  some (.done (Sum.inr ()))
noncomputable def slices_IndexFunc (s:List (List (Int×Bool))):Option Int :=
  (whileO (slices_IndexFunc_b1 s) 0).bind fun x=>match x with
  | .inl r1=>(some r1)
  | .inr _=>(slices_IndexFunc_k1)
/- slices.ContainsFunc[[][]lineal/api.Access,[]lineal/api.Access] -/
noncomputable def slices_ContainsFunc (s:List (List (Int×Bool))):Option Bool :=
  (slices_IndexFunc s).bind fun v0 =>
  some (decide (0≤v0))
/- lineal/delay.Valid -/
noncomputable def delay_Valid (x0:List (List (Int×Bool))):Option Bool :=
  if (decide (1≤(x0.length:Int)))=true then
  if (decide ((x0.length:Int)≤3))=true then
  (slices_ContainsFunc x0).bind fun v0 =>
  some (!v0)
  else
  some false
  else
  some false
/- lineal/delay.accessesOf -/
noncomputable def delay_accessesOf (x0:List (List (Int×Bool))):Option ((List (List (Int×Bool)))×Int) :=
  (delay_Valid x0).bind fun v0 =>
  if (!v0)=true then
  some ([],90)
  else
  some (x0,0)
/- lineal/delay.isOne -/
noncomputable def delay_isOne (s:Int×Int×Int):Option Unit :=
  some ()
/- (lineal/delay.accesses).has -/
noncomputable def delay_accesses_has (x0:List (List (Int×Bool))) (t:Int) (a:Int):Option Bool :=
  (delay_isBelow t (x0.length:Int)).bind fun v0 =>
  if v0=true then
  ck (0≤t) <| ck (t<(x0.length:Int)) <| (delay_isBelow a ((x0.getD t.toNat []).length:Int)).bind fun v0_2 =>
  some v0_2
  else
  some false
/- (lineal/delay.accesses).isPair -/
noncomputable def delay_accesses_isPair (x0:List (List (Int×Bool))) (s:Int×Int×Int):Option Bool :=
  (delay_accesses_has x0 s.1 s.2.1).bind fun v0 =>
  if v0=true then
  (delay_accesses_has x0 s.1 s.2.2).bind fun v0_2 =>
  if v0_2=true then
  if (decide (s.2.1<s.2.2))=true then
  ck (0≤s.1) <| ck (s.1<(x0.length:Int)) <| ck (0≤s.2.1) <| ck (s.2.1<((x0.getD s.1.toNat []).length:Int)) <| ck (0≤s.1) <| ck (s.1<(x0.length:Int)) <| ck (0≤s.2.2) <| ck (s.2.2<((x0.getD s.1.toNat []).length:Int)) <| some (!(decide (((x0.getD s.1.toNat []).getD s.2.1.toNat (0,false)).1=((x0.getD s.1.toNat []).getD s.2.2.toNat (0,false)).1)))
  else
  some false
  else
  some false
  else
  some false
/- (lineal/delay.accesses).isStation -/
noncomputable def delay_accesses_isStation (x0:List (List (Int×Bool))) (s:Int×Int×Int):Option Bool :=
  (delay_isOne s).bind fun v0 =>
  if (decide (s.2.1=s.2.2))=true then
  (delay_accesses_has x0 s.1 s.2.1).bind fun v0_2 =>
  if v0_2=true then
  some true
  else
  (delay_accesses_isPair x0 s).bind fun v0_3 =>
  some v0_3
  else
  (delay_accesses_isPair x0 s).bind fun v0_4 =>
  some v0_4
/- (lineal/delay.accesses).stations -/
noncomputable def delay_accesses_stations_k1 (b3_3:(List (Int×Int×Int))):Option ((List (Int×Int×Int))) :=
  some b3_3
noncomputable def delay_accesses_stations_k2 (st1:(List (Int×Int×Int))×Int) (b3_2:(List (Int×Int×Int))):Option (Step ((List (Int×Int×Int))×Int) ((List (Int×Int×Int)))) :=
  ck (InK .i64 (st1.2+1)) <| some (.next (b3_2,(st1.2+1)))
noncomputable def delay_accesses_stations_k3 (st2:(List (Int×Int×Int))×Int) (b3:(List (Int×Int×Int))):Option (Step ((List (Int×Int×Int))×Int) ((List (Int×Int×Int)))) :=
  ck (InK .i64 (st2.2+1)) <| some (.next (b3,(st2.2+1)))
noncomputable def delay_accesses_stations_b3 (x0:List (List (Int×Bool))) (st1:(List (Int×Int×Int))×Int) (st2:(List (Int×Int×Int))×Int) (st3:(List (Int×Int×Int))×Int):Option (Step ((List (Int×Int×Int))×Int) ((List (Int×Int×Int)))) :=
  if (decide (st3.2<((x0.getD st1.2.toNat []).length:Int)))=true then
  (delay_accesses_isStation x0 (st1.2,st2.2,st3.2)).bind fun v0 =>
  if v0=true then
  ck ((st3.1.length+1)*24≤140737488355328) <| ck (InK .i64 (st3.2+1)) <| some (.next ((st3.1++[(st1.2,st2.2,st3.2)]),(st3.2+1)))
  else
  ck (InK .i64 (st3.2+1)) <| some (.next (st3.1,(st3.2+1)))
  else
  some (.done st3.1)
noncomputable def delay_accesses_stations_b2 (x0:List (List (Int×Bool))) (st1:(List (Int×Int×Int))×Int) (st2:(List (Int×Int×Int))×Int):Option (Step ((List (Int×Int×Int))×Int) ((List (Int×Int×Int)))) :=
  if (decide (st2.2<((x0.getD st1.2.toNat []).length:Int)))=true then
  (whileO (delay_accesses_stations_b3 x0 st1 st2) (st2.1,0)).bind fun r3 =>
  delay_accesses_stations_k3 st2 r3
  else
  some (.done st2.1)
noncomputable def delay_accesses_stations_b1 (x0:List (List (Int×Bool))) (st1:(List (Int×Int×Int))×Int):Option (Step ((List (Int×Int×Int))×Int) ((List (Int×Int×Int)))) :=
  if (decide (st1.2<(x0.length:Int)))=true then
  ck (0≤st1.2) <| ck (st1.2<(x0.length:Int)) <| (whileO (delay_accesses_stations_b2 x0 st1) (st1.1,0)).bind fun r2 =>
  delay_accesses_stations_k2 st1 r2
  else
  some (.done st1.1)
noncomputable def delay_accesses_stations (x0:List (List (Int×Bool))):Option ((List (Int×Int×Int))) :=
  (whileO (delay_accesses_stations_b1 x0) ([],0)).bind fun r1 =>
  delay_accesses_stations_k1 r1
/- (lineal/delay.accesses).isClosed$1 -/
noncomputable def delay_accesses_isClosed_1 (s:Int×Int×Int):Option Unit :=
  (delay_isOne s).bind fun v0 =>
  some ()
/- slices.IndexFunc[[][3]int,[3]int] -/
noncomputable def slices_IndexFunc_3_k1:Option Int :=
  some (-1)
noncomputable def slices_IndexFunc_3_b1 (s:List (Int×Int×Int)) (st1:Int):Option (Step Int (Sum Int Unit)) :=
  if (decide (st1<(s.length:Int)))=true then
  ck (0≤st1) <| ck (st1<(s.length:Int)) <| (delay_accesses_isClosed_1 (s.getD st1.toNat (0,0,0))).bind fun v0 =>
  if (!(decide ((s.getD st1.toNat (0,0,0)).2.1=(s.getD st1.toNat (0,0,0)).2.2)))=true then
  some (.done (Sum.inl st1))
  else
  ck (InK .i64 (st1+1)) <| some (.next (st1+1))
  else
  some (.done (Sum.inr ()))
noncomputable def slices_IndexFunc_3 (s:List (Int×Int×Int)):Option Int :=
  (whileO (slices_IndexFunc_3_b1 s) 0).bind fun x=>match x with
  | .inl r1=>(some r1)
  | .inr _=>(slices_IndexFunc_3_k1)
/- slices.ContainsFunc[[][3]int,[3]int] -/
noncomputable def slices_ContainsFunc_3 (s:List (Int×Int×Int)):Option Bool :=
  (slices_IndexFunc_3 s).bind fun v0 =>
  some (decide (0≤v0))
/- (lineal/delay.accesses).conflict -/
noncomputable def delay_accesses_conflict (x0:List (List (Int×Bool))) (t:Int) (a:Int) (u:Int) (b:Int):Option Bool :=
  ck (0≤t) <| ck (t<(x0.length:Int)) <| ck (0≤a) <| ck (a<((x0.getD t.toNat []).length:Int)) <| ck (0≤u) <| ck (u<(x0.length:Int)) <| ck (0≤b) <| ck (b<((x0.getD u.toNat []).length:Int)) <| if (!(decide (t=u)))=true then
  if (decide (((x0.getD t.toNat []).getD a.toNat (0,false)).1=((x0.getD u.toNat []).getD b.toNat (0,false)).1))=true then
  if ((x0.getD t.toNat []).getD a.toNat (0,false)).2=true then
  some true
  else
  some ((x0.getD u.toNat []).getD b.toNat (0,false)).2
  else
  some false
  else
  some false
/- (lineal/delay.accesses).meets -/
noncomputable def delay_accesses_meets (x0:List (List (Int×Bool))) (s:Int×Int×Int) (next0:Int×Int×Int):Option Bool :=
  (delay_accesses_conflict x0 s.1 s.2.2 next0.1 next0.2.1).bind fun v0 =>
  some v0
/- (lineal/delay.accesses).isClosed -/
noncomputable def delay_accesses_isClosed (x0:List (List (Int×Bool))) (list:List (Int×Int×Int)):Option Bool :=
  (slices_ContainsFunc_3 list).bind fun v0 =>
  if v0=true then
  ck (InK .i64 ((list.length:Int) - 1)) <| ck (0≤((list.length:Int) - 1)) <| ck (((list.length:Int) - 1)<(list.length:Int)) <| ck (0<(list.length:Int)) <| (delay_accesses_meets x0 (list.getD ((list.length:Int) - 1).toNat (0,0,0)) (list.getD 0 (0,0,0))).bind fun v0_2 =>
  some v0_2
  else
  some false
/- (lineal/delay.accesses).goesOn$1 -/
noncomputable def delay_accesses_goesOn_1 (other:Int×Int×Int) (a1:Int×Int×Int):Option Unit :=
  some ()
/- slices.IndexFunc[[][3]int,[3]int] -/
noncomputable def slices_IndexFunc_4_k1:Option Int :=
  some (-1)
noncomputable def slices_IndexFunc_4_b1 (s:List (Int×Int×Int)) (c0:Int×Int×Int) (st1:Int):Option (Step Int (Sum Int Unit)) :=
  if (decide (st1<(s.length:Int)))=true then
  ck (0≤st1) <| ck (st1<(s.length:Int)) <| (delay_accesses_goesOn_1 (s.getD st1.toNat (0,0,0)) c0).bind fun v0 =>
  if (decide ((s.getD st1.toNat (0,0,0)).1=c0.1))=true then
  some (.done (Sum.inl st1))
  else
  ck (InK .i64 (st1+1)) <| some (.next (st1+1))
  else
  some (.done (Sum.inr ()))
noncomputable def slices_IndexFunc_4 (s:List (Int×Int×Int)) (c0:Int×Int×Int):Option Int :=
  (whileO (slices_IndexFunc_4_b1 s c0) 0).bind fun x=>match x with
  | .inl r1=>(some r1)
  | .inr _=>(slices_IndexFunc_4_k1)
/- slices.ContainsFunc[[][3]int,[3]int] -/
noncomputable def slices_ContainsFunc_4 (s:List (Int×Int×Int)) (c0:Int×Int×Int):Option Bool :=
  (slices_IndexFunc_4 s c0).bind fun v0 =>
  some (decide (0≤v0))
/- (lineal/delay.accesses).goesOn -/
noncomputable def delay_accesses_goesOn (x0:List (List (Int×Bool))) (list:List (Int×Int×Int)) (s:Int×Int×Int):Option Bool :=
  if (decide ((list.length:Int)=0))=true then
  some true
  else
  (slices_ContainsFunc_4 list s).bind fun v0 =>
  if (!v0)=true then
  ck (InK .i64 ((list.length:Int) - 1)) <| ck (0≤((list.length:Int) - 1)) <| ck (((list.length:Int) - 1)<(list.length:Int)) <| (delay_accesses_meets x0 (list.getD ((list.length:Int) - 1).toNat (0,0,0)) s).bind fun v0_2 =>
  some v0_2
  else
  some false
/- (lineal/delay.accesses).circles -/
noncomputable def delay_accesses_circles_k1 (S R:Type) (st1:(List (List (Int×Int×Int)))×Int×S) (b2_2:(List (List (Int×Int×Int)))×S):Option (Step ((List (List (Int×Int×Int)))×Int×S) (Sum R S)) :=
  ck (InK .i64 (st1.2.1+1)) <| some (.next (b2_2.1,(st1.2.1+1),b2_2.2))
noncomputable def delay_accesses_circles_b2 (S R:Type) (x0:List (List (Int×Bool))) (v0:(List (Int×Int×Int))) (st1:(List (List (Int×Int×Int)))×Int×S) (st2:(List (List (Int×Int×Int)))×Int):Option (Step ((List (List (Int×Int×Int)))×Int) ((List (List (Int×Int×Int))))) :=
  if (decide (st2.2<(v0.length:Int)))=true then
  ck (0≤st2.2) <| ck (st2.2<(v0.length:Int)) <| (delay_accesses_goesOn x0 (st1.1.getD st1.2.1.toNat []) (v0.getD st2.2.toNat (0,0,0))).bind fun v0_3 =>
  if v0_3=true then
  ck ((((st1.1.getD st1.2.1.toNat []).take (st1.1.getD st1.2.1.toNat []).length).length+1)*24≤140737488355328) <| ck ((st2.1.length+1)*24≤140737488355328) <| ck (InK .i64 (st2.2+1)) <| some (.next ((st2.1++[(((st1.1.getD st1.2.1.toNat []).take (st1.1.getD st1.2.1.toNat []).length)++[(v0.getD st2.2.toNat (0,0,0))])]),(st2.2+1)))
  else
  ck (InK .i64 (st2.2+1)) <| some (.next (st2.1,(st2.2+1)))
  else
  some (.done st2.1)
noncomputable def delay_accesses_circles_k2 (S R:Type) (x0:List (List (Int×Bool))) (v0:(List (Int×Int×Int))) (st1:(List (List (Int×Int×Int)))×Int×S) (b2:S):Option (Step ((List (List (Int×Int×Int)))×Int×S) (Sum R S)) :=
  (whileO (delay_accesses_circles_b2 S R x0 v0 st1) (st1.1,0)).bind fun r2 =>
  delay_accesses_circles_k1 S R st1 (r2,b2)
noncomputable def delay_accesses_circles_b1 (S R:Type) (x0:List (List (Int×Bool))) (yl:(List (Int×Int×Int))→S→Option (Step S R)) (v0:(List (Int×Int×Int))) (st1:(List (List (Int×Int×Int)))×Int×S):Option (Step ((List (List (Int×Int×Int)))×Int×S) (Sum R S)) :=
  if (decide (st1.2.1<(st1.1.length:Int)))=true then
  ck (0≤st1.2.1) <| ck (st1.2.1<(st1.1.length:Int)) <| (delay_accesses_isClosed x0 (st1.1.getD st1.2.1.toNat [])).bind fun v0_2 =>
  if v0_2=true then
  (yl (st1.1.getD st1.2.1.toNat []) st1.2.2).bind fun x=>match x with
  | .next s=>(delay_accesses_circles_k2 S R x0 v0 st1 s)
  | .done e=>(some (.done (Sum.inl e)))
  else
  delay_accesses_circles_k2 S R x0 v0 st1 st1.2.2
  else
  some (.done (Sum.inr st1.2.2))
noncomputable def delay_accesses_circles (S R:Type) (x0:List (List (Int×Bool))) (yl:(List (Int×Int×Int))→S→Option (Step S R)) (s0:S):Option (Sum S R) :=
  (delay_accesses_stations x0).bind fun v0 =>
  (whileO (delay_accesses_circles_b1 S R x0 yl v0) ([[]],0,s0)).bind fun x=>match x with
  | .inl r1=>(some (Sum.inr r1))
  | .inr r1_2=>(some (Sum.inl r1_2))
/- lineal/delay.Circles -/
noncomputable def delay_Circles_k1 (b1:Int):Option (Int×Int) :=
  some (b1,0)
noncomputable def delay_Circles_y1 (y1:(List (Int×Int×Int))) (st1:Int):Option (Step Int Empty) :=
  ck (InK .i64 (st1+1)) <| some (.next (st1+1))
noncomputable def delay_Circles (x0:List (List (Int×Bool))):Option (Int×Int) :=
  (delay_accessesOf x0).bind fun v0 =>
  if (!(decide (v0.2=0)))=true then
  some (0,v0.2)
  else
  (delay_accesses_circles Int Empty v0.1 (delay_Circles_y1) 0).bind fun x=>match x with
  | .inl st1_2=>(delay_Circles_k1 st1_2)
  | .inr r=>r.elim
/- lineal/lineallaw09.Awake -/
noncomputable def lineallaw09_Awake:Option Bool :=
  (delay_Circles [[(0,true),(1,false)],[(1,true),(0,false)]]).bind fun v0 =>
  if (decide (v0.2=0))=true then
  some (decide (v0.1=2))
  else
  some false
/- lineal/linealref09.Valid -/
noncomputable def linealref09_Valid_k1 (x0:List (List (Int×Bool))):Option Bool :=
  if (decide (1≤(x0.length:Int)))=true then
  some (decide ((x0.length:Int)≤3))
  else
  some false
noncomputable def linealref09_Valid_k2 (st1:Int):Option (Step Int (Sum Unit Unit)) :=
  ck (InK .i64 (st1+1)) <| some (.next (st1+1))
noncomputable def linealref09_Valid_b2 (x0:List (List (Int×Bool))) (st1:Int) (st2:Int):Option (Step Int (Sum Unit Unit)) :=
  if (decide (st2<((x0.getD st1.toNat []).length:Int)))=true then
  ck (0≤st2) <| ck (st2<((x0.getD st1.toNat []).length:Int)) <| if (decide (((x0.getD st1.toNat []).getD st2.toNat (0,false)).1<0))=true then
  some (.done (Sum.inl ()))
  else
  if (decide (3≤((x0.getD st1.toNat []).getD st2.toNat (0,false)).1))=true then
  some (.done (Sum.inl ()))
  else
  ck (InK .i64 (st2+1)) <| some (.next (st2+1))
  else
  some (.done (Sum.inr ()))
noncomputable def linealref09_Valid_b1 (x0:List (List (Int×Bool))) (st1:Int):Option (Step Int (Sum Unit Unit)) :=
  if (decide (st1<(x0.length:Int)))=true then
  ck (0≤st1) <| ck (st1<(x0.length:Int)) <| if (decide (4<((x0.getD st1.toNat []).length:Int)))=true then
  some (.done (Sum.inl ()))
  else
  (whileO (linealref09_Valid_b2 x0 st1) 0).bind fun x=>match x with
  | .inl _=>(some (.done (Sum.inl ())))
  | .inr _=>(linealref09_Valid_k2 st1)
  else
  some (.done (Sum.inr ()))
noncomputable def linealref09_Valid (x0:List (List (Int×Bool))):Option Bool :=
  (whileO (linealref09_Valid_b1 x0) 0).bind fun x=>match x with
  | .inl _=>(some false)
  | .inr _=>(linealref09_Valid_k1 x0)
/- lineal/linealref09.IsAccess -/
noncomputable def linealref09_IsAccess (x0:List (List (Int×Bool))) (t:Int) (a:Int):Option Bool :=
  if (decide (0≤t))=true then
  if (decide (t<(x0.length:Int)))=true then
  if (decide (0≤a))=true then
  ck (0≤t) <| ck (t<(x0.length:Int)) <| some (decide (a<((x0.getD t.toNat []).length:Int)))
  else
  some false
  else
  some false
  else
  some false
/- lineal/linealref09.conflict -/
noncomputable def linealref09_conflict (x0:List (List (Int×Bool))) (t:Int) (a:Int) (u:Int) (b:Int):Option Bool :=
  if (!(decide (t=u)))=true then
  ck (0≤t) <| ck (t<(x0.length:Int)) <| ck (0≤a) <| ck (a<((x0.getD t.toNat []).length:Int)) <| ck (0≤u) <| ck (u<(x0.length:Int)) <| ck (0≤b) <| ck (b<((x0.getD u.toNat []).length:Int)) <| if (decide (((x0.getD t.toNat []).getD a.toNat (0,false)).1=((x0.getD u.toNat []).getD b.toNat (0,false)).1))=true then
  ck (0≤t) <| ck (t<(x0.length:Int)) <| ck (0≤a) <| ck (a<((x0.getD t.toNat []).length:Int)) <| if ((x0.getD t.toNat []).getD a.toNat (0,false)).2=true then
  some true
  else
  ck (0≤u) <| ck (u<(x0.length:Int)) <| ck (0≤b) <| ck (b<((x0.getD u.toNat []).length:Int)) <| some ((x0.getD u.toNat []).getD b.toNat (0,false)).2
  else
  some false
  else
  some false
/- slices.IndexFunc[[][3]int,[3]int] -/
noncomputable def slices_IndexFunc_5_k1:Option Int :=
  some (-1)
noncomputable def slices_IndexFunc_5_b1 (s:List (Int×Int×Int)) (st1:Int):Option (Step Int (Sum Int Unit)) :=
  if (decide (st1<(s.length:Int)))=true then
  ck (0≤st1) <| ck (st1<(s.length:Int)) <| (delay_isOne (s.getD st1.toNat (0,0,0))).bind fun v0 =>
  if (decide ((s.getD st1.toNat (0,0,0)).2.1=(s.getD st1.toNat (0,0,0)).2.2))=true then
  some (.done (Sum.inl st1))
  else
  ck (InK .i64 (st1+1)) <| some (.next (st1+1))
  else
  some (.done (Sum.inr ()))
noncomputable def slices_IndexFunc_5 (s:List (Int×Int×Int)):Option Int :=
  (whileO (slices_IndexFunc_5_b1 s) 0).bind fun x=>match x with
  | .inl r1=>(some r1)
  | .inr _=>(slices_IndexFunc_5_k1)
/- slices.DeleteFunc[[][3]int,[3]int] -/
noncomputable def slices_DeleteFunc_k1 (b1:(List (Int×Int×Int))×Int):Option ((List (Int×Int×Int))) :=
  ck (0≤b1.2) <| ck (b1.2≤(b1.1.length:Int)) <| ck (0<((b1.1.length:Int) - b1.2).toNat) <| ck ((b1.2.toNat+((b1.1.length:Int) - b1.2).toNat)≤b1.1.length) <| ck (0≤b1.2) <| ck (b1.2≤((((b1.1.take b1.2.toNat)++(List.replicate ((b1.1.length:Int) - b1.2).toNat ((0,0,0):Int×Int×Int)))++(b1.1.drop (b1.2.toNat+((b1.1.length:Int) - b1.2).toNat))).length:Int)) <| some ((((b1.1.take b1.2.toNat)++(List.replicate ((b1.1.length:Int) - b1.2).toNat ((0,0,0):Int×Int×Int)))++(b1.1.drop (b1.2.toNat+((b1.1.length:Int) - b1.2).toNat))).take b1.2.toNat)
noncomputable def slices_DeleteFunc_b1 (st1:(List (Int×Int×Int))×Int×Int):Option (Step ((List (Int×Int×Int))×Int×Int) ((List (Int×Int×Int))×Int)) :=
  if (decide (st1.2.2<(st1.1.length:Int)))=true then
  ck (0≤st1.2.2) <| ck (st1.2.2<(st1.1.length:Int)) <| (delay_isOne (st1.1.getD st1.2.2.toNat (0,0,0))).bind fun v0_2 =>
  if (!(decide ((st1.1.getD st1.2.2.toNat (0,0,0)).2.1=(st1.1.getD st1.2.2.toNat (0,0,0)).2.2)))=true then
  ck (0≤st1.2.1) <| ck (st1.2.1<(st1.1.length:Int)) <| ck (InK .i64 (st1.2.1+1)) <| ck (InK .i64 (st1.2.2+1)) <| some (.next ((st1.1.set st1.2.1.toNat (st1.1.getD st1.2.2.toNat (0,0,0))),(st1.2.1+1),(st1.2.2+1)))
  else
  ck (InK .i64 (st1.2.2+1)) <| some (.next (st1.1,st1.2.1,(st1.2.2+1)))
  else
  some (.done (st1.1,st1.2.1))
noncomputable def slices_DeleteFunc (s:List (Int×Int×Int)):Option ((List (Int×Int×Int))) :=
  (slices_IndexFunc_5 s).bind fun v0 =>
  if (decide (v0=(-1)))=true then
  some s
  else
  ck (InK .i64 (v0+1)) <| (whileO (slices_DeleteFunc_b1) (s,v0,(v0+1))).bind fun r1 =>
  slices_DeleteFunc_k1 r1
/- (lineal/delay.accesses).pairs -/
noncomputable def delay_accesses_pairs (x0:List (List (Int×Bool))):Option ((List (Int×Int×Int))) :=
  (delay_accesses_stations x0).bind fun v0 =>
  (slices_DeleteFunc v0).bind fun v0_2 =>
  some v0_2
/- lineal/linealref09.IsPair -/
noncomputable def linealref09_IsPair (x0:List (List (Int×Bool))) (p:Int×Int×Int):Option Bool :=
  (linealref09_IsAccess x0 p.1 p.2.1).bind fun v0 =>
  if v0=true then
  (linealref09_IsAccess x0 p.1 p.2.2).bind fun v0_2 =>
  if v0_2=true then
  if (decide (p.2.1<p.2.2))=true then
  ck (0≤p.1) <| ck (p.1<(x0.length:Int)) <| ck (0≤p.2.1) <| ck (p.2.1<((x0.getD p.1.toNat []).length:Int)) <| ck (0≤p.1) <| ck (p.1<(x0.length:Int)) <| ck (0≤p.2.2) <| ck (p.2.2<((x0.getD p.1.toNat []).length:Int)) <| some (!(decide (((x0.getD p.1.toNat []).getD p.2.1.toNat (0,false)).1=((x0.getD p.1.toNat []).getD p.2.2.toNat (0,false)).1)))
  else
  some false
  else
  some false
  else
  some false
/- lineal/linealref09.stations -/
noncomputable def linealref09_stations_k1 (b3_3:(List (Int×Int×Int))):Option ((List (Int×Int×Int))) :=
  some b3_3
noncomputable def linealref09_stations_k2 (st1:(List (Int×Int×Int))×Int) (b3_2:(List (Int×Int×Int))):Option (Step ((List (Int×Int×Int))×Int) ((List (Int×Int×Int)))) :=
  ck (InK .i64 (st1.2+1)) <| some (.next (b3_2,(st1.2+1)))
noncomputable def linealref09_stations_k3 (st2:(List (Int×Int×Int))×Int) (b3:(List (Int×Int×Int))):Option (Step ((List (Int×Int×Int))×Int) ((List (Int×Int×Int)))) :=
  ck (InK .i64 (st2.2+1)) <| some (.next (b3,(st2.2+1)))
noncomputable def linealref09_stations_b3 (x0:List (List (Int×Bool))) (st1:(List (Int×Int×Int))×Int) (st2:(List (Int×Int×Int))×Int) (st3:(List (Int×Int×Int))×Int):Option (Step ((List (Int×Int×Int))×Int) ((List (Int×Int×Int)))) :=
  if (decide (st3.2<((x0.getD st1.2.toNat []).length:Int)))=true then
  if (decide (st2.2=st3.2))=true then
  ck ((st3.1.length+1)*24≤140737488355328) <| ck (InK .i64 (st3.2+1)) <| some (.next ((st3.1++[(st1.2,st2.2,st3.2)]),(st3.2+1)))
  else
  (linealref09_IsPair x0 (st1.2,st2.2,st3.2)).bind fun v0 =>
  if v0=true then
  ck ((st3.1.length+1)*24≤140737488355328) <| ck (InK .i64 (st3.2+1)) <| some (.next ((st3.1++[(st1.2,st2.2,st3.2)]),(st3.2+1)))
  else
  ck (InK .i64 (st3.2+1)) <| some (.next (st3.1,(st3.2+1)))
  else
  some (.done st3.1)
noncomputable def linealref09_stations_b2 (x0:List (List (Int×Bool))) (st1:(List (Int×Int×Int))×Int) (st2:(List (Int×Int×Int))×Int):Option (Step ((List (Int×Int×Int))×Int) ((List (Int×Int×Int)))) :=
  if (decide (st2.2<((x0.getD st1.2.toNat []).length:Int)))=true then
  (whileO (linealref09_stations_b3 x0 st1 st2) (st2.1,0)).bind fun r3 =>
  linealref09_stations_k3 st2 r3
  else
  some (.done st2.1)
noncomputable def linealref09_stations_b1 (x0:List (List (Int×Bool))) (st1:(List (Int×Int×Int))×Int):Option (Step ((List (Int×Int×Int))×Int) ((List (Int×Int×Int)))) :=
  if (decide (st1.2<(x0.length:Int)))=true then
  ck (0≤st1.2) <| ck (st1.2<(x0.length:Int)) <| (whileO (linealref09_stations_b2 x0 st1) (st1.1,0)).bind fun r2 =>
  linealref09_stations_k2 st1 r2
  else
  some (.done st1.1)
noncomputable def linealref09_stations (x0:List (List (Int×Bool))):Option ((List (Int×Int×Int))) :=
  (whileO (linealref09_stations_b1 x0) ([],0)).bind fun r1 =>
  linealref09_stations_k1 r1
/- (lineal/delay.accesses).fences -/
noncomputable def delay_accesses_fences_k1 (b2_2:(List (Int×Int))):Option ((List (Int×Int))) :=
  some b2_2
noncomputable def delay_accesses_fences_k2 (st1:(List (Int×Int))×Int) (b2:(List (Int×Int))):Option (Step ((List (Int×Int))×Int) ((List (Int×Int)))) :=
  ck (InK .i64 (st1.2+1)) <| some (.next (b2,(st1.2+1)))
noncomputable def delay_accesses_fences_b2 (x0:List (List (Int×Bool))) (st1:(List (Int×Int))×Int) (st2:(List (Int×Int))×Int):Option (Step ((List (Int×Int))×Int) ((List (Int×Int)))) :=
  if (decide (st2.2<(((x0.getD st1.2.toNat []).length:Int) - 1)))=true then
  ck ((st2.1.length+1)*16≤140737488355328) <| ck (InK .i64 (st2.2+1)) <| some (.next ((st2.1++[(st1.2,st2.2)]),(st2.2+1)))
  else
  some (.done st2.1)
noncomputable def delay_accesses_fences_b1 (x0:List (List (Int×Bool))) (st1:(List (Int×Int))×Int):Option (Step ((List (Int×Int))×Int) ((List (Int×Int)))) :=
  if (decide (st1.2<(x0.length:Int)))=true then
  ck (0≤st1.2) <| ck (st1.2<(x0.length:Int)) <| ck (InK .i64 (((x0.getD st1.2.toNat []).length:Int) - 1)) <| (whileO (delay_accesses_fences_b2 x0 st1) (st1.1,0)).bind fun r2 =>
  delay_accesses_fences_k2 st1 r2
  else
  some (.done st1.1)
noncomputable def delay_accesses_fences (x0:List (List (Int×Bool))):Option ((List (Int×Int))) :=
  (whileO (delay_accesses_fences_b1 x0) ([],0)).bind fun r1 =>
  delay_accesses_fences_k1 r1
/- lineal/linealref09.isCircle -/
noncomputable def linealref09_isCircle_k5 (b4_3:Bool):Option Bool :=
  some b4_3
noncomputable def linealref09_isCircle_b3 (x0:List (List (Int×Bool))) (l:List (Int×Int×Int)) (st3:Int):Option (Step Int (Sum Unit Unit)) :=
  if (decide (st3<(l.length:Int)))=true then
  ck (0≤st3) <| ck (st3<(l.length:Int)) <| ck (InK .i64 (st3+1)) <| ck (0≤(st3+1)) <| ck (0<(l.length:Int)) <| ck (0≤((st3+1) % (l.length:Int))) <| ck (((st3+1) % (l.length:Int))<(l.length:Int)) <| (linealref09_conflict x0 (l.getD st3.toNat (0,0,0)).1 (l.getD st3.toNat (0,0,0)).2.2 (l.getD ((st3+1) % (l.length:Int)).toNat (0,0,0)).1 (l.getD ((st3+1) % (l.length:Int)).toNat (0,0,0)).2.1).bind fun v0_3 =>
  if (!v0_3)=true then
  some (.done (Sum.inl ()))
  else
  ck (InK .i64 (st3+1)) <| some (.next (st3+1))
  else
  some (.done (Sum.inr ()))
noncomputable def linealref09_isCircle_k1 (x0:List (List (Int×Bool))) (l:List (Int×Int×Int)) (b4_3:Bool):Option Bool :=
  (whileO (linealref09_isCircle_b3 x0 l) 0).bind fun x=>match x with
  | .inl _=>(some false)
  | .inr _=>(linealref09_isCircle_k5 b4_3)
noncomputable def linealref09_isCircle_k2 (st1:Bool×Int) (b4_2:Bool):Option (Step (Bool×Int) (Sum Unit Bool)) :=
  ck (InK .i64 (st1.2+1)) <| some (.next (b4_2,(st1.2+1)))
noncomputable def linealref09_isCircle_b2 (l:List (Int×Int×Int)) (st1:Bool×Int) (st2:Int):Option (Step Int (Sum Unit Unit)) :=
  if (decide (st2<((l.take st1.2.toNat).length:Int)))=true then
  ck (0≤st2) <| ck (st2<((l.take st1.2.toNat).length:Int)) <| if (decide (((l.take st1.2.toNat).getD st2.toNat (0,0,0)).1=(l.getD st1.2.toNat (0,0,0)).1))=true then
  some (.done (Sum.inl ()))
  else
  ck (InK .i64 (st2+1)) <| some (.next (st2+1))
  else
  some (.done (Sum.inr ()))
noncomputable def linealref09_isCircle_k4 (l:List (Int×Int×Int)) (st1:Bool×Int) (b4:Bool):Option (Step (Bool×Int) (Sum Unit Bool)) :=
  (whileO (linealref09_isCircle_b2 l st1) 0).bind fun x=>match x with
  | .inl _=>(some (.done (Sum.inl ())))
  | .inr _=>(linealref09_isCircle_k2 st1 b4)
noncomputable def linealref09_isCircle_k3 (l:List (Int×Int×Int)) (st1:Bool×Int):Option (Step (Bool×Int) (Sum Unit Bool)) :=
  if st1.1=true then
  ck (0≤st1.2) <| ck (st1.2≤(l.length:Int)) <| linealref09_isCircle_k4 l st1 true
  else
  ck (0≤st1.2) <| ck (st1.2≤(l.length:Int)) <| linealref09_isCircle_k4 l st1 (!(decide ((l.getD st1.2.toNat (0,0,0)).2.1=(l.getD st1.2.toNat (0,0,0)).2.2)))
noncomputable def linealref09_isCircle_b1 (x0:List (List (Int×Bool))) (l:List (Int×Int×Int)) (st1:Bool×Int):Option (Step (Bool×Int) (Sum Unit Bool)) :=
  if (decide (st1.2<(l.length:Int)))=true then
  ck (0≤st1.2) <| ck (st1.2<(l.length:Int)) <| (linealref09_IsAccess x0 (l.getD st1.2.toNat (0,0,0)).1 (l.getD st1.2.toNat (0,0,0)).2.1).bind fun v0 =>
  if (!v0)=true then
  some (.done (Sum.inl ()))
  else
  if (!(decide ((l.getD st1.2.toNat (0,0,0)).2.1=(l.getD st1.2.toNat (0,0,0)).2.2)))=true then
  (linealref09_IsPair x0 (l.getD st1.2.toNat (0,0,0))).bind fun v0_2 =>
  if (!v0_2)=true then
  some (.done (Sum.inl ()))
  else
  linealref09_isCircle_k3 l st1
  else
  linealref09_isCircle_k3 l st1
  else
  some (.done (Sum.inr st1.1))
noncomputable def linealref09_isCircle (x0:List (List (Int×Bool))) (l:List (Int×Int×Int)):Option Bool :=
  if (decide ((l.length:Int)<2))=true then
  some false
  else
  if (decide (3<(l.length:Int)))=true then
  some false
  else
  (whileO (linealref09_isCircle_b1 x0 l) (false,0)).bind fun x=>match x with
  | .inl _=>(some false)
  | .inr r1=>(linealref09_isCircle_k1 x0 l r1)
/- lineal/linealref09.circles -/
noncomputable def linealref09_circles_k1 (b4_4:(List (List (Int×Int×Int)))):Option ((List (List (Int×Int×Int)))) :=
  some b4_4
noncomputable def linealref09_circles_k2 (st1:(List (List (Int×Int×Int)))×Int) (b4_3:(List (List (Int×Int×Int)))):Option (Step ((List (List (Int×Int×Int)))×Int) ((List (List (Int×Int×Int))))) :=
  ck (InK .i64 (st1.2+1)) <| some (.next (b4_3,(st1.2+1)))
noncomputable def linealref09_circles_k3 (st2:(List (List (Int×Int×Int)))×Int) (b4_2:(List (List (Int×Int×Int)))):Option (Step ((List (List (Int×Int×Int)))×Int) ((List (List (Int×Int×Int))))) :=
  ck (InK .i64 (st2.2+1)) <| some (.next (b4_2,(st2.2+1)))
noncomputable def linealref09_circles_b3 (x0:List (List (Int×Bool))) (v0:(List (Int×Int×Int))) (st1:(List (List (Int×Int×Int)))×Int) (st2:(List (List (Int×Int×Int)))×Int) (st3:(List (List (Int×Int×Int)))×Int):Option (Step ((List (List (Int×Int×Int)))×Int) ((List (List (Int×Int×Int))))) :=
  if (decide (st3.2<(v0.length:Int)))=true then
  ck (0≤st3.2) <| ck (st3.2<(v0.length:Int)) <| (linealref09_isCircle x0 [(v0.getD st1.2.toNat (0,0,0)),(v0.getD st2.2.toNat (0,0,0)),(v0.getD st3.2.toNat (0,0,0))]).bind fun v0_4 =>
  if v0_4=true then
  ck ((st3.1.length+1)*24≤140737488355328) <| ck (InK .i64 (st3.2+1)) <| some (.next ((st3.1++[[(v0.getD st1.2.toNat (0,0,0)),(v0.getD st2.2.toNat (0,0,0)),(v0.getD st3.2.toNat (0,0,0))]]),(st3.2+1)))
  else
  ck (InK .i64 (st3.2+1)) <| some (.next (st3.1,(st3.2+1)))
  else
  some (.done st3.1)
noncomputable def linealref09_circles_k4 (x0:List (List (Int×Bool))) (v0:(List (Int×Int×Int))) (st1:(List (List (Int×Int×Int)))×Int) (st2:(List (List (Int×Int×Int)))×Int) (b4:(List (List (Int×Int×Int)))):Option (Step ((List (List (Int×Int×Int)))×Int) ((List (List (Int×Int×Int))))) :=
  (whileO (linealref09_circles_b3 x0 v0 st1 st2) (b4,0)).bind fun r3 =>
  linealref09_circles_k3 st2 r3
noncomputable def linealref09_circles_b2 (x0:List (List (Int×Bool))) (v0:(List (Int×Int×Int))) (st1:(List (List (Int×Int×Int)))×Int) (st2:(List (List (Int×Int×Int)))×Int):Option (Step ((List (List (Int×Int×Int)))×Int) ((List (List (Int×Int×Int))))) :=
  if (decide (st2.2<(v0.length:Int)))=true then
  ck (0≤st2.2) <| ck (st2.2<(v0.length:Int)) <| if (decide ((v0.getD st1.2.toNat (0,0,0)).1=(v0.getD st2.2.toNat (0,0,0)).1))=true then
  linealref09_circles_k3 st2 st2.1
  else
  (linealref09_conflict x0 (v0.getD st1.2.toNat (0,0,0)).1 (v0.getD st1.2.toNat (0,0,0)).2.2 (v0.getD st2.2.toNat (0,0,0)).1 (v0.getD st2.2.toNat (0,0,0)).2.1).bind fun v0_2 =>
  if (!v0_2)=true then
  linealref09_circles_k3 st2 st2.1
  else
  (linealref09_isCircle x0 [(v0.getD st1.2.toNat (0,0,0)),(v0.getD st2.2.toNat (0,0,0))]).bind fun v0_3 =>
  if v0_3=true then
  ck ((st2.1.length+1)*24≤140737488355328) <| linealref09_circles_k4 x0 v0 st1 st2 (st2.1++[[(v0.getD st1.2.toNat (0,0,0)),(v0.getD st2.2.toNat (0,0,0))]])
  else
  linealref09_circles_k4 x0 v0 st1 st2 st2.1
  else
  some (.done st2.1)
noncomputable def linealref09_circles_b1 (x0:List (List (Int×Bool))) (v0:(List (Int×Int×Int))) (st1:(List (List (Int×Int×Int)))×Int):Option (Step ((List (List (Int×Int×Int)))×Int) ((List (List (Int×Int×Int))))) :=
  if (decide (st1.2<(v0.length:Int)))=true then
  ck (0≤st1.2) <| ck (st1.2<(v0.length:Int)) <| (whileO (linealref09_circles_b2 x0 v0 st1) (st1.1,0)).bind fun r2 =>
  linealref09_circles_k2 st1 r2
  else
  some (.done st1.1)
noncomputable def linealref09_circles (x0:List (List (Int×Bool))):Option ((List (List (Int×Int×Int)))) :=
  (linealref09_stations x0).bind fun v0 =>
  (whileO (linealref09_circles_b1 x0 v0) ([],0)).bind fun r1 =>
  linealref09_circles_k1 r1
/- (lineal/delay.accesses).found -/
noncomputable def delay_accesses_found_k1 (b1:(List ((Int×Int×Int)×(List (Int×Int×Int))))):Option ((List ((Int×Int×Int)×(List (Int×Int×Int))))) :=
  some b1
noncomputable def delay_accesses_found_b2 (y1:(List (Int×Int×Int))) (st2:(List ((Int×Int×Int)×(List (Int×Int×Int))))×Int):Option (Step ((List ((Int×Int×Int)×(List (Int×Int×Int))))×Int) ((List ((Int×Int×Int)×(List (Int×Int×Int)))))) :=
  if (decide (st2.2<(y1.length:Int)))=true then
  ck (0≤st2.2) <| ck (st2.2<(y1.length:Int)) <| ck (InK .i64 (y1.getD st2.2.toNat (0,0,0)).1) <| ck (InK .i64 (y1.getD st2.2.toNat (0,0,0)).2.1) <| ck (InK .i64 (y1.getD st2.2.toNat (0,0,0)).2.2) <| ck (mhas st2.1 (y1.getD st2.2.toNat (0,0,0))=false∨0<List.length (mget [] st2.1 (y1.getD st2.2.toNat (0,0,0)))) <| if (!(mhas st2.1 (y1.getD st2.2.toNat (0,0,0))))=true then
  ck (InK .i64 (y1.getD st2.2.toNat (0,0,0)).1) <| ck (InK .i64 (y1.getD st2.2.toNat (0,0,0)).2.1) <| ck (InK .i64 (y1.getD st2.2.toNat (0,0,0)).2.2) <| ck (InK .i64 (st2.2+1)) <| some (.next ((mput st2.1 (y1.getD st2.2.toNat (0,0,0)) y1),(st2.2+1)))
  else
  ck (InK .i64 (st2.2+1)) <| some (.next (st2.1,(st2.2+1)))
  else
  some (.done st2.1)
noncomputable def delay_accesses_found_y1 (y1:(List (Int×Int×Int))) (st1:(List ((Int×Int×Int)×(List (Int×Int×Int))))):Option (Step ((List ((Int×Int×Int)×(List (Int×Int×Int))))) Empty) :=
  (whileO (delay_accesses_found_b2 y1) (st1,0)).bind fun r2 =>
  some (.next r2)
noncomputable def delay_accesses_found (x0:List (List (Int×Bool))):Option ((List ((Int×Int×Int)×(List (Int×Int×Int))))) :=
  (delay_accesses_circles ((List ((Int×Int×Int)×(List (Int×Int×Int))))) Empty x0 (delay_accesses_found_y1) []).bind fun x=>match x with
  | .inl st1_2=>(delay_accesses_found_k1 st1_2)
  | .inr r=>r.elim
/- (lineal/delay.accesses).onCircles$1 -/
noncomputable def delay_accesses_onCircles_1 (pair:Int×Int×Int) (a1:List ((Int×Int×Int)×(List (Int×Int×Int)))):Option Unit :=
  ck (InK .i64 pair.1) <| ck (InK .i64 pair.2.1) <| ck (InK .i64 pair.2.2) <| ck (mhas a1 pair=false∨0<List.length (mget [] a1 pair)) <| some ()
/- slices.IndexFunc[[][3]int,[3]int] -/
noncomputable def slices_IndexFunc_6_k1:Option Int :=
  some (-1)
noncomputable def slices_IndexFunc_6_b1 (s:List (Int×Int×Int)) (c0:List ((Int×Int×Int)×(List (Int×Int×Int)))) (st1:Int):Option (Step Int (Sum Int Unit)) :=
  if (decide (st1<(s.length:Int)))=true then
  ck (0≤st1) <| ck (st1<(s.length:Int)) <| (delay_accesses_onCircles_1 (s.getD st1.toNat (0,0,0)) c0).bind fun v0 =>
  if (!(mhas c0 (s.getD st1.toNat (0,0,0))))=true then
  some (.done (Sum.inl st1))
  else
  ck (InK .i64 (st1+1)) <| some (.next (st1+1))
  else
  some (.done (Sum.inr ()))
noncomputable def slices_IndexFunc_6 (s:List (Int×Int×Int)) (c0:List ((Int×Int×Int)×(List (Int×Int×Int)))):Option Int :=
  (whileO (slices_IndexFunc_6_b1 s c0) 0).bind fun x=>match x with
  | .inl r1=>(some r1)
  | .inr _=>(slices_IndexFunc_6_k1)
/- slices.DeleteFunc[[][3]int,[3]int] -/
noncomputable def slices_DeleteFunc_2_k1 (b1:(List (Int×Int×Int))×Int):Option ((List (Int×Int×Int))) :=
  ck (0≤b1.2) <| ck (b1.2≤(b1.1.length:Int)) <| ck (0<((b1.1.length:Int) - b1.2).toNat) <| ck ((b1.2.toNat+((b1.1.length:Int) - b1.2).toNat)≤b1.1.length) <| ck (0≤b1.2) <| ck (b1.2≤((((b1.1.take b1.2.toNat)++(List.replicate ((b1.1.length:Int) - b1.2).toNat ((0,0,0):Int×Int×Int)))++(b1.1.drop (b1.2.toNat+((b1.1.length:Int) - b1.2).toNat))).length:Int)) <| some ((((b1.1.take b1.2.toNat)++(List.replicate ((b1.1.length:Int) - b1.2).toNat ((0,0,0):Int×Int×Int)))++(b1.1.drop (b1.2.toNat+((b1.1.length:Int) - b1.2).toNat))).take b1.2.toNat)
noncomputable def slices_DeleteFunc_2_b1 (c0:List ((Int×Int×Int)×(List (Int×Int×Int)))) (st1:(List (Int×Int×Int))×Int×Int):Option (Step ((List (Int×Int×Int))×Int×Int) ((List (Int×Int×Int))×Int)) :=
  if (decide (st1.2.2<(st1.1.length:Int)))=true then
  ck (0≤st1.2.2) <| ck (st1.2.2<(st1.1.length:Int)) <| (delay_accesses_onCircles_1 (st1.1.getD st1.2.2.toNat (0,0,0)) c0).bind fun v0_2 =>
  if (!(!(mhas c0 (st1.1.getD st1.2.2.toNat (0,0,0)))))=true then
  ck (0≤st1.2.1) <| ck (st1.2.1<(st1.1.length:Int)) <| ck (InK .i64 (st1.2.1+1)) <| ck (InK .i64 (st1.2.2+1)) <| some (.next ((st1.1.set st1.2.1.toNat (st1.1.getD st1.2.2.toNat (0,0,0))),(st1.2.1+1),(st1.2.2+1)))
  else
  ck (InK .i64 (st1.2.2+1)) <| some (.next (st1.1,st1.2.1,(st1.2.2+1)))
  else
  some (.done (st1.1,st1.2.1))
noncomputable def slices_DeleteFunc_2 (s:List (Int×Int×Int)) (c0:List ((Int×Int×Int)×(List (Int×Int×Int)))):Option ((List (Int×Int×Int))) :=
  (slices_IndexFunc_6 s c0).bind fun v0 =>
  if (decide (v0=(-1)))=true then
  some s
  else
  ck (InK .i64 (v0+1)) <| (whileO (slices_DeleteFunc_2_b1 c0) (s,v0,(v0+1))).bind fun r1 =>
  slices_DeleteFunc_2_k1 r1
/- (lineal/delay.accesses).onCircles -/
noncomputable def delay_accesses_onCircles (x0:List (List (Int×Bool))):Option ((List (Int×Int×Int))) :=
  (delay_accesses_found x0).bind fun v0 =>
  (delay_accesses_pairs x0).bind fun v0_2 =>
  (slices_DeleteFunc_2 v0_2 v0).bind fun v0_3 =>
  some v0_3
/- lineal/linealref09.needed -/
noncomputable def linealref09_needed_k1 (b4_4:(List (Int×Int×Int))):Option ((List (Int×Int×Int))) :=
  some b4_4
noncomputable def linealref09_needed_k2 (st1:(List (Int×Int×Int))×Int) (b4_3:(List (Int×Int×Int))):Option (Step ((List (Int×Int×Int))×Int) ((List (Int×Int×Int)))) :=
  ck (InK .i64 (st1.2+1)) <| some (.next (b4_3,(st1.2+1)))
noncomputable def linealref09_needed_k3 (v0_2:(List (Int×Int×Int))) (st1:(List (Int×Int×Int))×Int) (b4_2:Bool):Option (Step ((List (Int×Int×Int))×Int) ((List (Int×Int×Int)))) :=
  if b4_2=true then
  ck ((st1.1.length+1)*24≤140737488355328) <| linealref09_needed_k2 st1 (st1.1++[(v0_2.getD st1.2.toNat (0,0,0))])
  else
  linealref09_needed_k2 st1 st1.1
noncomputable def linealref09_needed_k4 (st2:Bool×Int) (b4:Bool):Option (Step (Bool×Int) Bool) :=
  ck (InK .i64 (st2.2+1)) <| some (.next (b4,(st2.2+1)))
noncomputable def linealref09_needed_b3 (v0:(List (List (Int×Int×Int)))) (v0_2:(List (Int×Int×Int))) (st1:(List (Int×Int×Int))×Int) (st2:Bool×Int) (st3:Bool×Int):Option (Step (Bool×Int) Bool) :=
  if (decide (st3.2<((v0.getD st2.2.toNat []).length:Int)))=true then
  ck (0≤st3.2) <| ck (st3.2<((v0.getD st2.2.toNat []).length:Int)) <| if st3.1=true then
  ck (InK .i64 (st3.2+1)) <| some (.next (true,(st3.2+1)))
  else
  ck (InK .i64 ((v0.getD st2.2.toNat []).getD st3.2.toNat (0,0,0)).1) <| ck (InK .i64 ((v0.getD st2.2.toNat []).getD st3.2.toNat (0,0,0)).2.1) <| ck (InK .i64 ((v0.getD st2.2.toNat []).getD st3.2.toNat (0,0,0)).2.2) <| ck (InK .i64 (v0_2.getD st1.2.toNat (0,0,0)).1) <| ck (InK .i64 (v0_2.getD st1.2.toNat (0,0,0)).2.1) <| ck (InK .i64 (v0_2.getD st1.2.toNat (0,0,0)).2.2) <| if (decide (((v0.getD st2.2.toNat []).getD st3.2.toNat (0,0,0))=(v0_2.getD st1.2.toNat (0,0,0))))=true then
  ck (InK .i64 (st3.2+1)) <| some (.next ((decide ((v0_2.getD st1.2.toNat (0,0,0)).2.1<(v0_2.getD st1.2.toNat (0,0,0)).2.2)),(st3.2+1)))
  else
  ck (InK .i64 (st3.2+1)) <| some (.next (false,(st3.2+1)))
  else
  some (.done st3.1)
noncomputable def linealref09_needed_b2 (v0:(List (List (Int×Int×Int)))) (v0_2:(List (Int×Int×Int))) (st1:(List (Int×Int×Int))×Int) (st2:Bool×Int):Option (Step (Bool×Int) Bool) :=
  if (decide (st2.2<(v0.length:Int)))=true then
  ck (0≤st2.2) <| ck (st2.2<(v0.length:Int)) <| (whileO (linealref09_needed_b3 v0 v0_2 st1 st2) (st2.1,0)).bind fun r3 =>
  linealref09_needed_k4 st2 r3
  else
  some (.done st2.1)
noncomputable def linealref09_needed_b1 (v0:(List (List (Int×Int×Int)))) (v0_2:(List (Int×Int×Int))) (st1:(List (Int×Int×Int))×Int):Option (Step ((List (Int×Int×Int))×Int) ((List (Int×Int×Int)))) :=
  if (decide (st1.2<(v0_2.length:Int)))=true then
  ck (0≤st1.2) <| ck (st1.2<(v0_2.length:Int)) <| (whileO (linealref09_needed_b2 v0 v0_2 st1) (false,0)).bind fun r2 =>
  linealref09_needed_k3 v0_2 st1 r2
  else
  some (.done st1.1)
noncomputable def linealref09_needed (x0:List (List (Int×Bool))):Option ((List (Int×Int×Int))) :=
  (linealref09_circles x0).bind fun v0 =>
  (linealref09_stations x0).bind fun v0_2 =>
  (whileO (linealref09_needed_b1 v0 v0_2) ([],0)).bind fun r1 =>
  linealref09_needed_k1 r1
/- lineal/lineallaw09.wide -/
noncomputable def lineallaw09_wide_k1 (costs:List (List Int)):Option Bool :=
  some (decide (40<(costs.length:Int)))
noncomputable def lineallaw09_wide_b1 (costs:List (List Int)) (st1:Int):Option (Step Int (Sum Unit Unit)) :=
  if (decide (st1<(costs.length:Int)))=true then
  ck (0≤st1) <| ck (st1<(costs.length:Int)) <| if (decide (40<((costs.getD st1.toNat []).length:Int)))=true then
  some (.done (Sum.inl ()))
  else
  ck (InK .i64 (st1+1)) <| some (.next (st1+1))
  else
  some (.done (Sum.inr ()))
noncomputable def lineallaw09_wide (costs:List (List Int)):Option Bool :=
  (whileO (lineallaw09_wide_b1 costs) 0).bind fun x=>match x with
  | .inl _=>(some true)
  | .inr _=>(lineallaw09_wide_k1 costs)
/- lineal/delay.holds -/
noncomputable def delay_holds (f:Int×Int) (pair:Int×Int×Int):Option Bool :=
  if (decide (f.1=pair.1))=true then
  if (decide (pair.2.1≤f.2))=true then
  some (decide (f.2<pair.2.2))
  else
  some false
  else
  some false
/- lineal/delay.isHeld$1 -/
noncomputable def delay_isHeld_1 (f:Int×Int) (a1:Int×Int×Int):Option Bool :=
  (delay_holds f a1).bind fun v0 =>
  some v0
/- slices.IndexFunc[[][2]int,[2]int] -/
noncomputable def slices_IndexFunc_8_k1:Option Int :=
  some (-1)
noncomputable def slices_IndexFunc_8_b1 (s:List (Int×Int)) (c0:Int×Int×Int) (st1:Int):Option (Step Int (Sum Int Unit)) :=
  if (decide (st1<(s.length:Int)))=true then
  ck (0≤st1) <| ck (st1<(s.length:Int)) <| (delay_isHeld_1 (s.getD st1.toNat (0,0)) c0).bind fun v0 =>
  if v0=true then
  some (.done (Sum.inl st1))
  else
  ck (InK .i64 (st1+1)) <| some (.next (st1+1))
  else
  some (.done (Sum.inr ()))
noncomputable def slices_IndexFunc_8 (s:List (Int×Int)) (c0:Int×Int×Int):Option Int :=
  (whileO (slices_IndexFunc_8_b1 s c0) 0).bind fun x=>match x with
  | .inl r1=>(some r1)
  | .inr _=>(slices_IndexFunc_8_k1)
/- slices.ContainsFunc[[][2]int,[2]int] -/
noncomputable def slices_ContainsFunc_5 (s:List (Int×Int)) (c0:Int×Int×Int):Option Bool :=
  (slices_IndexFunc_8 s c0).bind fun v0 =>
  some (decide (0≤v0))
/- lineal/delay.isHeld -/
noncomputable def delay_isHeld (fences:List (Int×Int)) (pair:Int×Int×Int):Option Bool :=
  (slices_ContainsFunc_5 fences pair).bind fun v0 =>
  some v0
/- lineal/linealref09.holds -/
noncomputable def linealref09_holds (f:Int×Int) (p:Int×Int×Int):Option Bool :=
  if (decide (f.1=p.1))=true then
  if (decide (p.2.1≤f.2))=true then
  some (decide (f.2<p.2.2))
  else
  some false
  else
  some false
/- lineal/linealref09.held -/
noncomputable def linealref09_held_k1:Option Bool :=
  some false
noncomputable def linealref09_held_b1 (l:List (Int×Int)) (p:Int×Int×Int) (st1:Int):Option (Step Int (Sum Unit Unit)) :=
  if (decide (st1<(l.length:Int)))=true then
  ck (0≤st1) <| ck (st1<(l.length:Int)) <| (linealref09_holds (l.getD st1.toNat (0,0)) p).bind fun v0 =>
  if v0=true then
  some (.done (Sum.inl ()))
  else
  ck (InK .i64 (st1+1)) <| some (.next (st1+1))
  else
  some (.done (Sum.inr ()))
noncomputable def linealref09_held (l:List (Int×Int)) (p:Int×Int×Int):Option Bool :=
  (whileO (linealref09_held_b1 l p) 0).bind fun x=>match x with
  | .inl _=>(some true)
  | .inr _=>(linealref09_held_k1)
/- lineal/delay.holdAll$1 -/
noncomputable def delay_holdAll_1 (pair:Int×Int×Int) (a1:List (Int×Int)):Option Bool :=
  (delay_isHeld a1 pair).bind fun v0 =>
  some (!v0)
/- slices.IndexFunc[[][3]int,[3]int] -/
noncomputable def slices_IndexFunc_9_k1:Option Int :=
  some (-1)
noncomputable def slices_IndexFunc_9_b1 (s:List (Int×Int×Int)) (c0:List (Int×Int)) (st1:Int):Option (Step Int (Sum Int Unit)) :=
  if (decide (st1<(s.length:Int)))=true then
  ck (0≤st1) <| ck (st1<(s.length:Int)) <| (delay_holdAll_1 (s.getD st1.toNat (0,0,0)) c0).bind fun v0 =>
  if v0=true then
  some (.done (Sum.inl st1))
  else
  ck (InK .i64 (st1+1)) <| some (.next (st1+1))
  else
  some (.done (Sum.inr ()))
noncomputable def slices_IndexFunc_9 (s:List (Int×Int×Int)) (c0:List (Int×Int)):Option Int :=
  (whileO (slices_IndexFunc_9_b1 s c0) 0).bind fun x=>match x with
  | .inl r1=>(some r1)
  | .inr _=>(slices_IndexFunc_9_k1)
/- slices.ContainsFunc[[][3]int,[3]int] -/
noncomputable def slices_ContainsFunc_6 (s:List (Int×Int×Int)) (c0:List (Int×Int)):Option Bool :=
  (slices_IndexFunc_9 s c0).bind fun v0 =>
  some (decide (0≤v0))
/- lineal/delay.holdAll -/
noncomputable def delay_holdAll (fences:List (Int×Int)) (pairs:List (Int×Int×Int)):Option Bool :=
  (slices_ContainsFunc_6 pairs fences).bind fun v0 =>
  some (!v0)
/- lineal/linealref09.enough -/
noncomputable def linealref09_enough_k1:Option Bool :=
  some true
noncomputable def linealref09_enough_b1 (l:List (Int×Int)) (pairs:List (Int×Int×Int)) (st1:Int):Option (Step Int (Sum Unit Unit)) :=
  if (decide (st1<(pairs.length:Int)))=true then
  ck (0≤st1) <| ck (st1<(pairs.length:Int)) <| (linealref09_held l (pairs.getD st1.toNat (0,0,0))).bind fun v0 =>
  if (!v0)=true then
  some (.done (Sum.inl ()))
  else
  ck (InK .i64 (st1+1)) <| some (.next (st1+1))
  else
  some (.done (Sum.inr ()))
noncomputable def linealref09_enough (l:List (Int×Int)) (pairs:List (Int×Int×Int)):Option Bool :=
  (whileO (linealref09_enough_b1 l pairs) 0).bind fun x=>match x with
  | .inl _=>(some false)
  | .inr _=>(linealref09_enough_k1)
/- (lineal/delay.accesses).areCosts$1 -/
noncomputable def delay_accesses_areCosts_1 (cost:Int):Option Bool :=
  if (decide (cost<1))=true then
  some true
  else
  some (decide (9<cost))
/- slices.IndexFunc[[]int,int] -/
noncomputable def slices_IndexFunc_10_k1:Option Int :=
  some (-1)
noncomputable def slices_IndexFunc_10_b1 (s:List Int) (st1:Int):Option (Step Int (Sum Int Unit)) :=
  if (decide (st1<(s.length:Int)))=true then
  ck (0≤st1) <| ck (st1<(s.length:Int)) <| (delay_accesses_areCosts_1 (s.getD st1.toNat 0)).bind fun v0 =>
  if v0=true then
  some (.done (Sum.inl st1))
  else
  ck (InK .i64 (st1+1)) <| some (.next (st1+1))
  else
  some (.done (Sum.inr ()))
noncomputable def slices_IndexFunc_10 (s:List Int):Option Int :=
  (whileO (slices_IndexFunc_10_b1 s) 0).bind fun x=>match x with
  | .inl r1=>(some r1)
  | .inr _=>(slices_IndexFunc_10_k1)
/- slices.ContainsFunc[[]int,int] -/
noncomputable def slices_ContainsFunc_7 (s:List Int):Option Bool :=
  (slices_IndexFunc_10 s).bind fun v0 =>
  some (decide (0≤v0))
/- (lineal/delay.accesses).areCosts -/
noncomputable def delay_accesses_areCosts_k1:Option Bool :=
  some true
noncomputable def delay_accesses_areCosts_b1 (x0:List (List (Int×Bool))) (costs:List (List Int)) (st1:Int):Option (Step Int (Sum Unit Unit)) :=
  if (decide (st1<(x0.length:Int)))=true then
  ck (0≤st1) <| ck (st1<(x0.length:Int)) <| ck (0≤st1) <| ck (st1<(costs.length:Int)) <| ck (InK .i64 (((x0.getD st1.toNat []).length:Int) - 1)) <| if (!(decide (((costs.getD st1.toNat []).length:Int)=(max 0 (((x0.getD st1.toNat []).length:Int) - 1)))))=true then
  some (.done (Sum.inl ()))
  else
  ck (0≤st1) <| ck (st1<(costs.length:Int)) <| (slices_ContainsFunc_7 (costs.getD st1.toNat [])).bind fun v0 =>
  if v0=true then
  some (.done (Sum.inl ()))
  else
  ck (InK .i64 (st1+1)) <| some (.next (st1+1))
  else
  some (.done (Sum.inr ()))
noncomputable def delay_accesses_areCosts (x0:List (List (Int×Bool))) (costs:List (List Int)):Option Bool :=
  if (!(decide ((costs.length:Int)=(x0.length:Int))))=true then
  some false
  else
  (whileO (delay_accesses_areCosts_b1 x0 costs) 0).bind fun x=>match x with
  | .inl _=>(some false)
  | .inr _=>(delay_accesses_areCosts_k1)
/- lineal/delay.costOf -/
noncomputable def delay_costOf_k1 (b1:Int):Option Int :=
  some b1
noncomputable def delay_costOf_b1 (fences:List (Int×Int)) (costs:List (List Int)) (st1:Int×Int):Option (Step (Int×Int) Int) :=
  if (decide (st1.2<(fences.length:Int)))=true then
  ck (0≤st1.2) <| ck (st1.2<(fences.length:Int)) <| ck (0≤(fences.getD st1.2.toNat (0,0)).1) <| ck ((fences.getD st1.2.toNat (0,0)).1<(costs.length:Int)) <| ck (0≤(fences.getD st1.2.toNat (0,0)).2) <| ck ((fences.getD st1.2.toNat (0,0)).2<((costs.getD (fences.getD st1.2.toNat (0,0)).1.toNat []).length:Int)) <| ck (InK .i64 (st1.1+((costs.getD (fences.getD st1.2.toNat (0,0)).1.toNat []).getD (fences.getD st1.2.toNat (0,0)).2.toNat 0))) <| ck (InK .i64 (st1.2+1)) <| some (.next ((st1.1+((costs.getD (fences.getD st1.2.toNat (0,0)).1.toNat []).getD (fences.getD st1.2.toNat (0,0)).2.toNat 0)),(st1.2+1)))
  else
  some (.done st1.1)
noncomputable def delay_costOf (fences:List (Int×Int)) (costs:List (List Int)):Option Int :=
  (whileO (delay_costOf_b1 fences costs) (0,0)).bind fun r1 =>
  delay_costOf_k1 r1
/- lineal/linealref09.AreCosts -/
noncomputable def linealref09_AreCosts_k1:Option Bool :=
  some true
noncomputable def linealref09_AreCosts_k2 (st1:Int):Option (Step Int (Sum Unit Unit)) :=
  ck (InK .i64 (st1+1)) <| some (.next (st1+1))
noncomputable def linealref09_AreCosts_b2 (costs:List (List Int)) (st1:Int) (st2:Int):Option (Step Int (Sum Unit Unit)) :=
  if (decide (st2<((costs.getD st1.toNat []).length:Int)))=true then
  ck (0≤st2) <| ck (st2<((costs.getD st1.toNat []).length:Int)) <| if (decide (((costs.getD st1.toNat []).getD st2.toNat 0)<1))=true then
  some (.done (Sum.inl ()))
  else
  if (decide (9<((costs.getD st1.toNat []).getD st2.toNat 0)))=true then
  some (.done (Sum.inl ()))
  else
  ck (InK .i64 (st2+1)) <| some (.next (st2+1))
  else
  some (.done (Sum.inr ()))
noncomputable def linealref09_AreCosts_b1 (x0:List (List (Int×Bool))) (costs:List (List Int)) (st1:Int):Option (Step Int (Sum Unit Unit)) :=
  if (decide (st1<(costs.length:Int)))=true then
  ck (0≤st1) <| ck (st1<(costs.length:Int)) <| ck (0≤st1) <| ck (st1<(x0.length:Int)) <| ck (InK .i64 (((x0.getD st1.toNat []).length:Int) - 1)) <| if (!(decide (((costs.getD st1.toNat []).length:Int)=(max (((x0.getD st1.toNat []).length:Int) - 1) 0))))=true then
  some (.done (Sum.inl ()))
  else
  (whileO (linealref09_AreCosts_b2 costs st1) 0).bind fun x=>match x with
  | .inl _=>(some (.done (Sum.inl ())))
  | .inr _=>(linealref09_AreCosts_k2 st1)
  else
  some (.done (Sum.inr ()))
noncomputable def linealref09_AreCosts (x0:List (List (Int×Bool))) (costs:List (List Int)):Option Bool :=
  if (!(decide ((costs.length:Int)=(x0.length:Int))))=true then
  some false
  else
  (whileO (linealref09_AreCosts_b1 x0 costs) 0).bind fun x=>match x with
  | .inl _=>(some false)
  | .inr _=>(linealref09_AreCosts_k1)
/- lineal/linealref09.cost -/
noncomputable def linealref09_cost_k1 (b1:Int):Option Int :=
  some b1
noncomputable def linealref09_cost_b1 (costs:List (List Int)) (l:List (Int×Int)) (st1:Int×Int):Option (Step (Int×Int) Int) :=
  if (decide (st1.2<(l.length:Int)))=true then
  ck (0≤st1.2) <| ck (st1.2<(l.length:Int)) <| ck (0≤(l.getD st1.2.toNat (0,0)).1) <| ck ((l.getD st1.2.toNat (0,0)).1<(costs.length:Int)) <| ck (0≤(l.getD st1.2.toNat (0,0)).2) <| ck ((l.getD st1.2.toNat (0,0)).2<((costs.getD (l.getD st1.2.toNat (0,0)).1.toNat []).length:Int)) <| ck (InK .i64 (st1.1+((costs.getD (l.getD st1.2.toNat (0,0)).1.toNat []).getD (l.getD st1.2.toNat (0,0)).2.toNat 0))) <| ck (InK .i64 (st1.2+1)) <| some (.next ((st1.1+((costs.getD (l.getD st1.2.toNat (0,0)).1.toNat []).getD (l.getD st1.2.toNat (0,0)).2.toNat 0)),(st1.2+1)))
  else
  some (.done st1.1)
noncomputable def linealref09_cost (costs:List (List Int)) (l:List (Int×Int)):Option Int :=
  (whileO (linealref09_cost_b1 costs l) (0,0)).bind fun r1 =>
  linealref09_cost_k1 r1
/- lineal/delay.offerOf -/
noncomputable def delay_offerOf (x0:List (List (Int×Bool))) (costs:List (List Int)):Option ((List (List (Int×Bool)))×(List (Int×Int×Int))×(List (List Int))×Int) :=
  (delay_accessesOf x0).bind fun v0 =>
  if (!(decide (v0.2=0)))=true then
  some ([],[],[],v0.2)
  else
  (delay_accesses_areCosts v0.1 costs).bind fun v0_2 =>
  if (!v0_2)=true then
  some ([],[],[],2)
  else
  (delay_accesses_onCircles v0.1).bind fun v0_3 =>
  some (v0.1,v0_3,costs,0)
/- slices.Grow[[][2]int,[2]int] -/
noncomputable def slices_Grow_2 (n:Int):Option Unit :=
  if (decide (n<0))=true then
  none
  else
  ck (InK .i64 (0 - 0)) <| ck (InK .i64 (n - (0 - 0))) <| if (decide (0<(n - (0 - 0))))=true then
  ck (0<(n - (0 - 0))) <| ck ((n - (0 - 0))≤9223372036854775806) <| ck (16*(n - (0 - 0))≤281474976710656) <| ck (0≤0) <| ck (0≤((List.replicate (n - (0 - 0)).toNat ((0,0):Int×Int)).length:Int)) <| some ()
  else
  some ()
/- slices.Concat[[][2]int,[2]int] -/
noncomputable def slices_Concat_2_k2 (b2:(List (Int×Int))):Option ((List (Int×Int))) :=
  some b2
noncomputable def slices_Concat_2_b2 (slices:List (List (Int×Int))) (st2:(List (Int×Int))×Int):Option (Step ((List (Int×Int))×Int) ((List (Int×Int)))) :=
  if (decide (st2.2<(slices.length:Int)))=true then
  ck (0≤st2.2) <| ck (st2.2<(slices.length:Int)) <| ck ((st2.1.length+(slices.getD st2.2.toNat []).length)*16≤140737488355328) <| ck (InK .i64 (st2.2+1)) <| some (.next ((st2.1++(slices.getD st2.2.toNat [])),(st2.2+1)))
  else
  some (.done st2.1)
noncomputable def slices_Concat_2_k1 (slices:List (List (Int×Int))) (b1:Int):Option ((List (Int×Int))) :=
  (slices_Grow_2 b1).bind fun v0 =>
  (whileO (slices_Concat_2_b2 slices) ([],0)).bind fun r2 =>
  slices_Concat_2_k2 r2
noncomputable def slices_Concat_2_b1 (slices:List (List (Int×Int))) (st1:Int×Int):Option (Step (Int×Int) Int) :=
  if (decide (st1.2<(slices.length:Int)))=true then
  ck (0≤st1.2) <| ck (st1.2<(slices.length:Int)) <| ck (InK .i64 (st1.1+((slices.getD st1.2.toNat []).length:Int))) <| if (decide ((st1.1+((slices.getD st1.2.toNat []).length:Int))<0))=true then
  none
  else
  ck (InK .i64 (st1.2+1)) <| some (.next ((st1.1+((slices.getD st1.2.toNat []).length:Int)),(st1.2+1)))
  else
  some (.done st1.1)
noncomputable def slices_Concat_2 (slices:List (List (Int×Int))):Option ((List (Int×Int))) :=
  (whileO (slices_Concat_2_b1 slices) (0,0)).bind fun r1 =>
  slices_Concat_2_k1 slices r1
/- lineal/delay.choices -/
noncomputable def delay_choices_k1 (v0:(List (List (Int×Int)))) (b1:(List (List (Int×Int)))):Option ((List (List (Int×Int)))) :=
  ck ((b1.length+v0.length)*24≤140737488355328) <| some (b1++v0)
noncomputable def delay_choices_b1 (fences:List (Int×Int)) (v0:(List (List (Int×Int)))) (st1:(List (List (Int×Int)))×Int):Option (Step ((List (List (Int×Int)))×Int) ((List (List (Int×Int))))) :=
  if (decide (st1.2<(v0.length:Int)))=true then
  ck (0≤st1.2) <| ck (st1.2<(v0.length:Int)) <| ck (1≤(fences.length:Int)) <| (slices_Concat_2 [(fences.take 1),(v0.getD st1.2.toNat [])]).bind fun v0_2 =>
  ck ((st1.1.length+1)*24≤140737488355328) <| ck (InK .i64 (st1.2+1)) <| some (.next ((st1.1++[v0_2]),(st1.2+1)))
  else
  some (.done st1.1)
noncomputable def delay_choicesF (slf:(List (Int×Int))→Option ((List (List (Int×Int))))) (fences:List (Int×Int)):Option ((List (List (Int×Int)))) :=
  if (decide ((fences.length:Int)=0))=true then
  some [[]]
  else
  ck (1≤(fences.length:Int)) <| (slf (fences.drop 1)).bind fun v0 =>
  (whileO (delay_choices_b1 fences v0) ([],0)).bind fun r1 =>
  delay_choices_k1 v0 r1
noncomputable def delay_choices (n:Nat):(List (Int×Int))→Option ((List (List (Int×Int)))):=Nat.rec (motive:=fun _=>(List (Int×Int))→Option ((List (List (Int×Int))))) (fun _=>none) (fun _ slf=>delay_choicesF slf) n
/- (lineal/delay.offer).cheapest$1 -/
noncomputable def delay_offer_cheapest_1 (list:List (Int×Int)) (a1:(List (List (Int×Bool)))×(List (Int×Int×Int))×(List (List Int))):Option Bool :=
  (delay_holdAll list a1.2.1).bind fun v0 =>
  some (!v0)
/- slices.IndexFunc[[][][2]int,[][2]int] -/
noncomputable def slices_IndexFunc_11_k1:Option Int :=
  some (-1)
noncomputable def slices_IndexFunc_11_b1 (s:List (List (Int×Int))) (c0:(List (List (Int×Bool)))×(List (Int×Int×Int))×(List (List Int))) (st1:Int):Option (Step Int (Sum Int Unit)) :=
  if (decide (st1<(s.length:Int)))=true then
  ck (0≤st1) <| ck (st1<(s.length:Int)) <| (delay_offer_cheapest_1 (s.getD st1.toNat []) c0).bind fun v0 =>
  if v0=true then
  some (.done (Sum.inl st1))
  else
  ck (InK .i64 (st1+1)) <| some (.next (st1+1))
  else
  some (.done (Sum.inr ()))
noncomputable def slices_IndexFunc_11 (s:List (List (Int×Int))) (c0:(List (List (Int×Bool)))×(List (Int×Int×Int))×(List (List Int))):Option Int :=
  (whileO (slices_IndexFunc_11_b1 s c0) 0).bind fun x=>match x with
  | .inl r1=>(some r1)
  | .inr _=>(slices_IndexFunc_11_k1)
/- slices.DeleteFunc[[][][2]int,[][2]int] -/
noncomputable def slices_DeleteFunc_4_k1 (b1:(List (List (Int×Int)))×Int):Option ((List (List (Int×Int)))) :=
  ck (0≤b1.2) <| ck (b1.2≤(b1.1.length:Int)) <| ck (0<((b1.1.length:Int) - b1.2).toNat) <| ck ((b1.2.toNat+((b1.1.length:Int) - b1.2).toNat)≤b1.1.length) <| ck (0≤b1.2) <| ck (b1.2≤((((b1.1.take b1.2.toNat)++(List.replicate ((b1.1.length:Int) - b1.2).toNat ([]:List (Int×Int))))++(b1.1.drop (b1.2.toNat+((b1.1.length:Int) - b1.2).toNat))).length:Int)) <| some ((((b1.1.take b1.2.toNat)++(List.replicate ((b1.1.length:Int) - b1.2).toNat ([]:List (Int×Int))))++(b1.1.drop (b1.2.toNat+((b1.1.length:Int) - b1.2).toNat))).take b1.2.toNat)
noncomputable def slices_DeleteFunc_4_b1 (c0:(List (List (Int×Bool)))×(List (Int×Int×Int))×(List (List Int))) (st1:(List (List (Int×Int)))×Int×Int):Option (Step ((List (List (Int×Int)))×Int×Int) ((List (List (Int×Int)))×Int)) :=
  if (decide (st1.2.2<(st1.1.length:Int)))=true then
  ck (0≤st1.2.2) <| ck (st1.2.2<(st1.1.length:Int)) <| (delay_offer_cheapest_1 (st1.1.getD st1.2.2.toNat []) c0).bind fun v0_2 =>
  if (!v0_2)=true then
  ck (0≤st1.2.1) <| ck (st1.2.1<(st1.1.length:Int)) <| ck (InK .i64 (st1.2.1+1)) <| ck (InK .i64 (st1.2.2+1)) <| some (.next ((st1.1.set st1.2.1.toNat (st1.1.getD st1.2.2.toNat [])),(st1.2.1+1),(st1.2.2+1)))
  else
  ck (InK .i64 (st1.2.2+1)) <| some (.next (st1.1,st1.2.1,(st1.2.2+1)))
  else
  some (.done (st1.1,st1.2.1))
noncomputable def slices_DeleteFunc_4 (s:List (List (Int×Int))) (c0:(List (List (Int×Bool)))×(List (Int×Int×Int))×(List (List Int))):Option ((List (List (Int×Int)))) :=
  (slices_IndexFunc_11 s c0).bind fun v0 =>
  if (decide (v0=(-1)))=true then
  some s
  else
  ck (InK .i64 (v0+1)) <| (whileO (slices_DeleteFunc_4_b1 c0) (s,v0,(v0+1))).bind fun r1 =>
  slices_DeleteFunc_4_k1 r1
/- (lineal/delay.offer).cost -/
noncomputable def delay_offer_cost (o:(List (List (Int×Bool)))×(List (Int×Int×Int))×(List (List Int))) (fences:List (Int×Int)):Option Int :=
  (delay_costOf fences o.2.2).bind fun v0 =>
  some v0
/- cmp.isNaN[int] -/
noncomputable def cmp_isNaN (x0:Int):Option Unit :=
  some ()
/- cmp.Compare[int] -/
noncomputable def cmp_Compare (x0:Int) (y:Int):Option Int :=
  (cmp_isNaN x0).bind fun v0 =>
  (cmp_isNaN y).bind fun v0_2 =>
  if (decide (x0<y))=true then
  some (-1)
  else
  if (decide (y<x0))=true then
  some 1
  else
  some 0
/- (lineal/delay.offer).cheapest$2 -/
noncomputable def delay_offer_cheapest_2 (a:List (Int×Int)) (b:List (Int×Int)) (a2:(List (List (Int×Bool)))×(List (Int×Int×Int))×(List (List Int))):Option Int :=
  (delay_offer_cost a2 a).bind fun v0 =>
  (delay_offer_cost a2 b).bind fun v0_2 =>
  (cmp_Compare v0 v0_2).bind fun v0_3 =>
  some v0_3
/- slices.MinFunc[[][][2]int,[][2]int] -/
noncomputable def slices_MinFunc_k1 (b1:(List (Int×Int))):Option ((List (Int×Int))) :=
  some b1
noncomputable def slices_MinFunc_b1 (x0:List (List (Int×Int))) (c0:(List (List (Int×Bool)))×(List (Int×Int×Int))×(List (List Int))) (st1:(List (Int×Int))×Int):Option (Step ((List (Int×Int))×Int) ((List (Int×Int)))) :=
  if (decide (st1.2<(x0.length:Int)))=true then
  ck (0≤st1.2) <| ck (st1.2<(x0.length:Int)) <| (delay_offer_cheapest_2 (x0.getD st1.2.toNat []) st1.1 c0).bind fun v0 =>
  if (decide (v0<0))=true then
  ck (0≤st1.2) <| ck (st1.2<(x0.length:Int)) <| ck (InK .i64 (st1.2+1)) <| some (.next ((x0.getD st1.2.toNat []),(st1.2+1)))
  else
  ck (InK .i64 (st1.2+1)) <| some (.next (st1.1,(st1.2+1)))
  else
  some (.done st1.1)
noncomputable def slices_MinFunc (x0:List (List (Int×Int))) (c0:(List (List (Int×Bool)))×(List (Int×Int×Int))×(List (List Int))):Option ((List (Int×Int))) :=
  if (decide ((x0.length:Int)<1))=true then
  none
  else
  ck (0<(x0.length:Int)) <| (whileO (slices_MinFunc_b1 x0 c0) ((x0.getD 0 []),1)).bind fun r1 =>
  slices_MinFunc_k1 r1
/- (lineal/delay.offer).cheapest -/
noncomputable def delay_offer_cheapest (o:(List (List (Int×Bool)))×(List (Int×Int×Int))×(List (List Int))):Option ((List (Int×Int))) :=
  (delay_accesses_fences o.1).bind fun v0 =>
  (delay_choices fuel v0).bind fun v0_2 =>
  (slices_DeleteFunc_4 v0_2 o).bind fun v0_3 =>
  (slices_MinFunc v0_3 o).bind fun v0_4 =>
  some v0_4
/- lineal/delay.Cheapest -/
noncomputable def delay_Cheapest (x0:List (List (Int×Bool))) (costs:List (List Int)):Option ((List (Int×Int))×Int) :=
  (delay_offerOf x0 costs).bind fun v0 =>
  if (!(decide (v0.2.2.2=0)))=true then
  some ([],v0.2.2.2)
  else
  (delay_offer_cheapest (v0.1,v0.2.1,v0.2.2.1)).bind fun v0_2 =>
  some (v0_2,0)
/- lineal/linealref09.priced -/
noncomputable def linealref09_priced (x0:List (List (Int×Bool))) (costs:List (List Int)):Option Int :=
  (linealref09_Valid x0).bind fun v0 =>
  if (!v0)=true then
  some 90
  else
  (linealref09_AreCosts x0 costs).bind fun v0_2 =>
  if (!v0_2)=true then
  some 2
  else
  some 0
/- lineal/linealref09.AllFences -/
noncomputable def linealref09_AllFences_k1 (b2_2:(List (Int×Int))):Option ((List (Int×Int))) :=
  some b2_2
noncomputable def linealref09_AllFences_k2 (st1:(List (Int×Int))×Int) (b2:(List (Int×Int))):Option (Step ((List (Int×Int))×Int) ((List (Int×Int)))) :=
  ck (InK .i64 (st1.2+1)) <| some (.next (b2,(st1.2+1)))
noncomputable def linealref09_AllFences_b2 (x0:List (List (Int×Bool))) (st1:(List (Int×Int))×Int) (st2:(List (Int×Int))×Int):Option (Step ((List (Int×Int))×Int) ((List (Int×Int)))) :=
  if (decide (st2.2<(max (((x0.getD st1.2.toNat []).length:Int) - 1) 0)))=true then
  ck ((st2.1.length+1)*16≤140737488355328) <| ck (InK .i64 (st2.2+1)) <| some (.next ((st2.1++[(st1.2,st2.2)]),(st2.2+1)))
  else
  some (.done st2.1)
noncomputable def linealref09_AllFences_b1 (x0:List (List (Int×Bool))) (st1:(List (Int×Int))×Int):Option (Step ((List (Int×Int))×Int) ((List (Int×Int)))) :=
  if (decide (st1.2<(x0.length:Int)))=true then
  ck (0≤st1.2) <| ck (st1.2<(x0.length:Int)) <| ck (InK .i64 (((x0.getD st1.2.toNat []).length:Int) - 1)) <| (whileO (linealref09_AllFences_b2 x0 st1) (st1.1,0)).bind fun r2 =>
  linealref09_AllFences_k2 st1 r2
  else
  some (.done st1.1)
noncomputable def linealref09_AllFences (x0:List (List (Int×Bool))):Option ((List (Int×Int))) :=
  (whileO (linealref09_AllFences_b1 x0) ([],0)).bind fun r1 =>
  linealref09_AllFences_k1 r1
/- lineal/linealref09.earlier -/
noncomputable def linealref09_earlier_k1 (l:List (Int×Int)) (m:List (Int×Int)):Option Bool :=
  some (decide ((l.length:Int)<(m.length:Int)))
noncomputable def linealref09_earlier_b1 (l:List (Int×Int)) (m:List (Int×Int)) (st1:Int):Option (Step Int (Sum Bool Unit)) :=
  if (decide (st1<(l.length:Int)))=true then
  if (decide (st1<(m.length:Int)))=true then
  ck (0≤st1) <| ck (st1<(l.length:Int)) <| ck (0≤st1) <| ck (st1<(m.length:Int)) <| ck (InK .i64 (l.getD st1.toNat (0,0)).1) <| ck (InK .i64 (l.getD st1.toNat (0,0)).2) <| ck (InK .i64 (m.getD st1.toNat (0,0)).1) <| ck (InK .i64 (m.getD st1.toNat (0,0)).2) <| if (!(decide ((l.getD st1.toNat (0,0))=(m.getD st1.toNat (0,0)))))=true then
  ck (0≤st1) <| ck (st1<(l.length:Int)) <| ck (0≤st1) <| ck (st1<(m.length:Int)) <| if (decide ((l.getD st1.toNat (0,0)).1<(m.getD st1.toNat (0,0)).1))=true then
  some (.done (Sum.inl true))
  else
  ck (0≤st1) <| ck (st1<(l.length:Int)) <| ck (0≤st1) <| ck (st1<(m.length:Int)) <| if (decide ((l.getD st1.toNat (0,0)).1=(m.getD st1.toNat (0,0)).1))=true then
  ck (0≤st1) <| ck (st1<(l.length:Int)) <| ck (0≤st1) <| ck (st1<(m.length:Int)) <| some (.done (Sum.inl (decide ((l.getD st1.toNat (0,0)).2<(m.getD st1.toNat (0,0)).2))))
  else
  some (.done (Sum.inl false))
  else
  ck (InK .i64 (st1+1)) <| some (.next (st1+1))
  else
  some (.done (Sum.inr ()))
  else
  some (.done (Sum.inr ()))
noncomputable def linealref09_earlier (l:List (Int×Int)) (m:List (Int×Int)):Option Bool :=
  (whileO (linealref09_earlier_b1 l m) 0).bind fun x=>match x with
  | .inl r1=>(some r1)
  | .inr _=>(linealref09_earlier_k1 l m)
/- lineal/linealref09.cheapest -/
noncomputable def linealref09_cheapest_k1 (b3_3:(List (Int×Int))):Option ((List (Int×Int))) :=
  some b3_3
noncomputable def linealref09_cheapest_k2 (st1:(List (Int×Int))×Int) (b3_2:(List (Int×Int))):Option (Step ((List (Int×Int))×Int) ((List (Int×Int)))) :=
  ck (InK .i64 (st1.2+1)) <| some (.next (b3_2,(st1.2+1)))
noncomputable def linealref09_cheapest_k3 (costs:List (List Int)) (v0_2:(List (Int×Int×Int))) (st1:(List (Int×Int))×Int) (b3:(List (Int×Int))):Option (Step ((List (Int×Int))×Int) ((List (Int×Int)))) :=
  (linealref09_enough b3 v0_2).bind fun v0_3 =>
  if (!v0_3)=true then
  linealref09_cheapest_k2 st1 st1.1
  else
  (linealref09_cost costs b3).bind fun v0_4 =>
  (linealref09_cost costs st1.1).bind fun v0_5 =>
  if (decide (v0_4<v0_5))=true then
  linealref09_cheapest_k2 st1 b3
  else
  if (decide (v0_4=v0_5))=true then
  (linealref09_earlier b3 st1.1).bind fun v0_6 =>
  if v0_6=true then
  linealref09_cheapest_k2 st1 b3
  else
  linealref09_cheapest_k2 st1 st1.1
  else
  linealref09_cheapest_k2 st1 st1.1
noncomputable def linealref09_cheapest_b2 (v0:(List (Int×Int))) (st1:(List (Int×Int))×Int) (st2:(List (Int×Int))×Int):Option (Step ((List (Int×Int))×Int) ((List (Int×Int)))) :=
  if (decide (st2.2<(v0.length:Int)))=true then
  ck (0≤st2.2) <| ck (st2.2<(v0.length:Int)) <| ck (0≤st2.2) <| if (decide ((iand .i64 (ishr .i64 st1.2 st2.2) 1)=1))=true then
  ck ((st2.1.length+1)*16≤140737488355328) <| ck (InK .i64 (st2.2+1)) <| some (.next ((st2.1++[(v0.getD st2.2.toNat (0,0))]),(st2.2+1)))
  else
  ck (InK .i64 (st2.2+1)) <| some (.next (st2.1,(st2.2+1)))
  else
  some (.done st2.1)
noncomputable def linealref09_cheapest_b1 (costs:List (List Int)) (v0:(List (Int×Int))) (v0_2:(List (Int×Int×Int))) (st1:(List (Int×Int))×Int):Option (Step ((List (Int×Int))×Int) ((List (Int×Int)))) :=
  if (decide (st1.2<(ishl .i64 1 (v0.length:Int))))=true then
  (whileO (linealref09_cheapest_b2 v0 st1) ([],0)).bind fun r2 =>
  linealref09_cheapest_k3 costs v0_2 st1 r2
  else
  some (.done st1.1)
noncomputable def linealref09_cheapest (x0:List (List (Int×Bool))) (costs:List (List Int)):Option ((List (Int×Int))) :=
  (linealref09_AllFences x0).bind fun v0 =>
  (linealref09_needed x0).bind fun v0_2 =>
  (whileO (linealref09_cheapest_b1 costs v0 v0_2) (v0,0)).bind fun r1 =>
  linealref09_cheapest_k1 r1
/- lineal/linealref09.Cheapest -/
noncomputable def linealref09_Cheapest (x0:List (List (Int×Bool))) (costs:List (List Int)):Option ((List (Int×Int))×Int) :=
  (linealref09_priced x0 costs).bind fun v0 =>
  if (!(decide (v0=0)))=true then
  some ([],v0)
  else
  (linealref09_cheapest x0 costs).bind fun v0_2 =>
  some (v0_2,0)
/- lineal/delay.Least -/
noncomputable def delay_Least (x0:List (List (Int×Bool))) (costs:List (List Int)):Option (Int×Int) :=
  (delay_offerOf x0 costs).bind fun v0 =>
  if (!(decide (v0.2.2.2=0)))=true then
  some (0,v0.2.2.2)
  else
  (delay_offer_cheapest (v0.1,v0.2.1,v0.2.2.1)).bind fun v0_2 =>
  (delay_offer_cost (v0.1,v0.2.1,v0.2.2.1) v0_2).bind fun v0_3 =>
  some (v0_3,0)
/- lineal/linealref09.Least -/
noncomputable def linealref09_Least (x0:List (List (Int×Bool))) (costs:List (List Int)):Option (Int×Int) :=
  (linealref09_priced x0 costs).bind fun v0 =>
  if (!(decide (v0=0)))=true then
  some (0,v0)
  else
  (linealref09_cheapest x0 costs).bind fun v0_2 =>
  (linealref09_cost costs v0_2).bind fun v0_3 =>
  some (v0_3,0)
/- lineal/linealref09.SameFences -/
noncomputable def linealref09_SameFences_k1:Option Bool :=
  some true
noncomputable def linealref09_SameFences_b1 (a:List (Int×Int)) (b:List (Int×Int)) (st1:Int):Option (Step Int (Sum Unit Unit)) :=
  if (decide (st1<(a.length:Int)))=true then
  ck (0≤st1) <| ck (st1<(a.length:Int)) <| ck (0≤st1) <| ck (st1<(b.length:Int)) <| ck (InK .i64 (a.getD st1.toNat (0,0)).1) <| ck (InK .i64 (a.getD st1.toNat (0,0)).2) <| ck (InK .i64 (b.getD st1.toNat (0,0)).1) <| ck (InK .i64 (b.getD st1.toNat (0,0)).2) <| if (!(decide ((a.getD st1.toNat (0,0))=(b.getD st1.toNat (0,0)))))=true then
  some (.done (Sum.inl ()))
  else
  ck (InK .i64 (st1+1)) <| some (.next (st1+1))
  else
  some (.done (Sum.inr ()))
noncomputable def linealref09_SameFences (a:List (Int×Int)) (b:List (Int×Int)):Option Bool :=
  if (!(decide ((a.length:Int)=(b.length:Int))))=true then
  some false
  else
  (whileO (linealref09_SameFences_b1 a b) 0).bind fun x=>match x with
  | .inl _=>(some false)
  | .inr _=>(linealref09_SameFences_k1)
/- (lineal/delay.offer).arePrices$1 -/
noncomputable def delay_offer_arePrices_1 (price:Int):Option Bool :=
  (delay_isBelow price 101).bind fun v0 =>
  some (!v0)
/- slices.IndexFunc[[]int,int] -/
noncomputable def slices_IndexFunc_12_k1:Option Int :=
  some (-1)
noncomputable def slices_IndexFunc_12_b1 (s:List Int) (st1:Int):Option (Step Int (Sum Int Unit)) :=
  if (decide (st1<(s.length:Int)))=true then
  ck (0≤st1) <| ck (st1<(s.length:Int)) <| (delay_offer_arePrices_1 (s.getD st1.toNat 0)).bind fun v0 =>
  if v0=true then
  some (.done (Sum.inl st1))
  else
  ck (InK .i64 (st1+1)) <| some (.next (st1+1))
  else
  some (.done (Sum.inr ()))
noncomputable def slices_IndexFunc_12 (s:List Int):Option Int :=
  (whileO (slices_IndexFunc_12_b1 s) 0).bind fun x=>match x with
  | .inl r1=>(some r1)
  | .inr _=>(slices_IndexFunc_12_k1)
/- slices.ContainsFunc[[]int,int] -/
noncomputable def slices_ContainsFunc_8 (s:List Int):Option Bool :=
  (slices_IndexFunc_12 s).bind fun v0 =>
  some (decide (0≤v0))
/- (lineal/delay.offer).arePrices -/
noncomputable def delay_offer_arePrices (o:(List (List (Int×Bool)))×(List (Int×Int×Int))×(List (List Int))) (list:List Int):Option Bool :=
  if (decide ((list.length:Int)=(o.2.1.length:Int)))=true then
  (slices_ContainsFunc_8 list).bind fun v0 =>
  some (!v0)
  else
  some false
/- (lineal/delay.offer).left -/
noncomputable def delay_offer_left_k1 (b1:Int):Option Int :=
  some b1
noncomputable def delay_offer_left_b1 (o:(List (List (Int×Bool)))×(List (Int×Int×Int))×(List (List Int))) (f:Int×Int) (prices:List Int) (st1:Int×Int):Option (Step (Int×Int) Int) :=
  if (decide (st1.2<(o.2.1.length:Int)))=true then
  ck (0≤st1.2) <| ck (st1.2<(o.2.1.length:Int)) <| (delay_holds f (o.2.1.getD st1.2.toNat (0,0,0))).bind fun v0 =>
  if v0=true then
  ck (0≤st1.2) <| ck (st1.2<(prices.length:Int)) <| ck (InK .i64 (st1.1 - (prices.getD st1.2.toNat 0))) <| ck (InK .i64 (st1.2+1)) <| some (.next ((st1.1 - (prices.getD st1.2.toNat 0)),(st1.2+1)))
  else
  ck (InK .i64 (st1.2+1)) <| some (.next (st1.1,(st1.2+1)))
  else
  some (.done st1.1)
noncomputable def delay_offer_left (o:(List (List (Int×Bool)))×(List (Int×Int×Int))×(List (List Int))) (f:Int×Int) (prices:List Int):Option Int :=
  ck (0≤f.1) <| ck (f.1<(o.2.2.length:Int)) <| ck (0≤f.2) <| ck (f.2<((o.2.2.getD f.1.toNat []).length:Int)) <| (whileO (delay_offer_left_b1 o f prices) (((o.2.2.getD f.1.toNat []).getD f.2.toNat 0),0)).bind fun r1 =>
  delay_offer_left_k1 r1
/- (lineal/delay.offer).isProved$1 -/
noncomputable def delay_offer_isProved_1 (f:Int×Int) (a1:(List (List (Int×Bool)))×(List (Int×Int×Int))×(List (List Int))) (a2:List Int):Option Bool :=
  (delay_offer_left a1 f a2).bind fun v0 =>
  some (decide (v0<0))
/- slices.IndexFunc[[][2]int,[2]int] -/
noncomputable def slices_IndexFunc_13_k1:Option Int :=
  some (-1)
noncomputable def slices_IndexFunc_13_b1 (s:List (Int×Int)) (c0:(List (List (Int×Bool)))×(List (Int×Int×Int))×(List (List Int))) (c1:List Int) (st1:Int):Option (Step Int (Sum Int Unit)) :=
  if (decide (st1<(s.length:Int)))=true then
  ck (0≤st1) <| ck (st1<(s.length:Int)) <| (delay_offer_isProved_1 (s.getD st1.toNat (0,0)) c0 c1).bind fun v0 =>
  if v0=true then
  some (.done (Sum.inl st1))
  else
  ck (InK .i64 (st1+1)) <| some (.next (st1+1))
  else
  some (.done (Sum.inr ()))
noncomputable def slices_IndexFunc_13 (s:List (Int×Int)) (c0:(List (List (Int×Bool)))×(List (Int×Int×Int))×(List (List Int))) (c1:List Int):Option Int :=
  (whileO (slices_IndexFunc_13_b1 s c0 c1) 0).bind fun x=>match x with
  | .inl r1=>(some r1)
  | .inr _=>(slices_IndexFunc_13_k1)
/- slices.ContainsFunc[[][2]int,[2]int] -/
noncomputable def slices_ContainsFunc_9 (s:List (Int×Int)) (c0:(List (List (Int×Bool)))×(List (Int×Int×Int))×(List (List Int))) (c1:List Int):Option Bool :=
  (slices_IndexFunc_13 s c0 c1).bind fun v0 =>
  some (decide (0≤v0))
/- (lineal/delay.offer).isProved -/
noncomputable def delay_offer_isProved_k1 (o:(List (List (Int×Bool)))×(List (Int×Int×Int))×(List (List Int))) (prices:List Int) (cost:Int) (b1:Int):Option Bool :=
  if (decide (cost≤b1))=true then
  (delay_accesses_fences o.1).bind fun v0 =>
  (slices_ContainsFunc_9 v0 o prices).bind fun v0_2 =>
  some (!v0_2)
  else
  some false
noncomputable def delay_offer_isProved_b1 (prices:List Int) (st1:Int×Int):Option (Step (Int×Int) Int) :=
  if (decide (st1.2<(prices.length:Int)))=true then
  ck (0≤st1.2) <| ck (st1.2<(prices.length:Int)) <| ck (InK .i64 (st1.1+(prices.getD st1.2.toNat 0))) <| ck (InK .i64 (st1.2+1)) <| some (.next ((st1.1+(prices.getD st1.2.toNat 0)),(st1.2+1)))
  else
  some (.done st1.1)
noncomputable def delay_offer_isProved (o:(List (List (Int×Bool)))×(List (Int×Int×Int))×(List (List Int))) (prices:List Int) (cost:Int):Option Bool :=
  (whileO (delay_offer_isProved_b1 prices) (0,0)).bind fun r1 =>
  delay_offer_isProved_k1 o prices cost r1
/- lineal/delay.Prove -/
noncomputable def delay_Prove (x0:List (List (Int×Bool))) (costs:List (List Int)) (prices:List Int) (cost:Int):Option (Bool×Int) :=
  (delay_offerOf x0 costs).bind fun v0 =>
  if (!(decide (v0.2.2.2=0)))=true then
  some (false,v0.2.2.2)
  else
  (delay_offer_arePrices (v0.1,v0.2.1,v0.2.2.1) prices).bind fun v0_2 =>
  if (!v0_2)=true then
  some (false,2)
  else
  (delay_isBelow cost 1001).bind fun v0_3 =>
  if (!v0_3)=true then
  some (false,2)
  else
  (delay_offer_isProved (v0.1,v0.2.1,v0.2.2.1) prices cost).bind fun v0_4 =>
  some (v0_4,0)
/- lineal/linealref09.Prove -/
noncomputable def linealref09_Prove_k2 (least:Int) (b1:Int):Option (Bool×Int) :=
  some ((decide (least≤b1)),0)
noncomputable def linealref09_Prove_k3 (st2:Int):Option (Step Int (Sum Unit Unit)) :=
  ck (InK .i64 (st2+1)) <| some (.next (st2+1))
noncomputable def linealref09_Prove_k4 (costs:List (List Int)) (v0_3:(List (Int×Int))) (st2:Int) (b4:Int):Option (Step Int (Sum Unit Unit)) :=
  ck (0≤(v0_3.getD st2.toNat (0,0)).1) <| ck ((v0_3.getD st2.toNat (0,0)).1<(costs.length:Int)) <| ck (0≤(v0_3.getD st2.toNat (0,0)).2) <| ck ((v0_3.getD st2.toNat (0,0)).2<((costs.getD (v0_3.getD st2.toNat (0,0)).1.toNat []).length:Int)) <| if (decide (((costs.getD (v0_3.getD st2.toNat (0,0)).1.toNat []).getD (v0_3.getD st2.toNat (0,0)).2.toNat 0)<b4))=true then
  some (.done (Sum.inl ()))
  else
  linealref09_Prove_k3 st2
noncomputable def linealref09_Prove_b3 (prices:List Int) (v0_2:(List (Int×Int×Int))) (v0_3:(List (Int×Int))) (st2:Int) (st3:Int×Int):Option (Step (Int×Int) Int) :=
  if (decide (st3.2<(v0_2.length:Int)))=true then
  ck (0≤st3.2) <| ck (st3.2<(v0_2.length:Int)) <| (linealref09_holds (v0_3.getD st2.toNat (0,0)) (v0_2.getD st3.2.toNat (0,0,0))).bind fun v0_4 =>
  if v0_4=true then
  ck (0≤st3.2) <| ck (st3.2<(prices.length:Int)) <| ck (InK .i64 (st3.1+(prices.getD st3.2.toNat 0))) <| ck (InK .i64 (st3.2+1)) <| some (.next ((st3.1+(prices.getD st3.2.toNat 0)),(st3.2+1)))
  else
  ck (InK .i64 (st3.2+1)) <| some (.next (st3.1,(st3.2+1)))
  else
  some (.done st3.1)
noncomputable def linealref09_Prove_b2 (costs:List (List Int)) (prices:List Int) (v0_2:(List (Int×Int×Int))) (v0_3:(List (Int×Int))) (st2:Int):Option (Step Int (Sum Unit Unit)) :=
  if (decide (st2<(v0_3.length:Int)))=true then
  ck (0≤st2) <| ck (st2<(v0_3.length:Int)) <| (whileO (linealref09_Prove_b3 prices v0_2 v0_3 st2) (0,0)).bind fun r3 =>
  linealref09_Prove_k4 costs v0_3 st2 r3
  else
  some (.done (Sum.inr ()))
noncomputable def linealref09_Prove_k1 (x0:List (List (Int×Bool))) (costs:List (List Int)) (prices:List Int) (least:Int) (v0_2:(List (Int×Int×Int))) (b1:Int):Option (Bool×Int) :=
  (linealref09_AllFences x0).bind fun v0_3 =>
  (whileO (linealref09_Prove_b2 costs prices v0_2 v0_3) 0).bind fun x=>match x with
  | .inl _=>(some (false,0))
  | .inr _=>(linealref09_Prove_k2 least b1)
noncomputable def linealref09_Prove_b1 (prices:List Int) (st1:Int×Int):Option (Step (Int×Int) (Sum Unit Int)) :=
  if (decide (st1.2<(prices.length:Int)))=true then
  ck (0≤st1.2) <| ck (st1.2<(prices.length:Int)) <| if (decide ((prices.getD st1.2.toNat 0)<0))=true then
  some (.done (Sum.inl ()))
  else
  if (decide (100<(prices.getD st1.2.toNat 0)))=true then
  some (.done (Sum.inl ()))
  else
  ck (InK .i64 (st1.1+(prices.getD st1.2.toNat 0))) <| ck (InK .i64 (st1.2+1)) <| some (.next ((st1.1+(prices.getD st1.2.toNat 0)),(st1.2+1)))
  else
  some (.done (Sum.inr st1.1))
noncomputable def linealref09_Prove (x0:List (List (Int×Bool))) (costs:List (List Int)) (prices:List Int) (least:Int):Option (Bool×Int) :=
  (linealref09_priced x0 costs).bind fun v0 =>
  if (!(decide (v0=0)))=true then
  some (false,v0)
  else
  (linealref09_needed x0).bind fun v0_2 =>
  if (!(decide ((prices.length:Int)=(v0_2.length:Int))))=true then
  some (false,2)
  else
  if (decide (least<0))=true then
  some (false,2)
  else
  if (decide (1000<least))=true then
  some (false,2)
  else
  (whileO (linealref09_Prove_b1 prices) (0,0)).bind fun x=>match x with
  | .inl _=>(some (false,2))
  | .inr r1=>(linealref09_Prove_k1 x0 costs prices least v0_2 r1)
/- (lineal/delay.offer).most -/
noncomputable def delay_offer_most_k1 (b1:Int):Option Int :=
  some b1
noncomputable def delay_offer_most_b1 (o:(List (List (Int×Bool)))×(List (Int×Int×Int))×(List (List Int))) (pair:Int×Int×Int) (prices:List Int) (v0:(List (Int×Int))) (st1:Int×Int):Option (Step (Int×Int) Int) :=
  if (decide (st1.2<(v0.length:Int)))=true then
  ck (0≤st1.2) <| ck (st1.2<(v0.length:Int)) <| (delay_holds (v0.getD st1.2.toNat (0,0)) pair).bind fun v0_2 =>
  if v0_2=true then
  (delay_offer_left o (v0.getD st1.2.toNat (0,0)) prices).bind fun v0_3 =>
  ck (InK .i64 (st1.2+1)) <| some (.next ((min st1.1 v0_3),(st1.2+1)))
  else
  ck (InK .i64 (st1.2+1)) <| some (.next (st1.1,(st1.2+1)))
  else
  some (.done st1.1)
noncomputable def delay_offer_most (o:(List (List (Int×Bool)))×(List (Int×Int×Int))×(List (List Int))) (pair:Int×Int×Int) (prices:List Int):Option Int :=
  (delay_accesses_fences o.1).bind fun v0 =>
  (whileO (delay_offer_most_b1 o pair prices v0) (9,0)).bind fun r1 =>
  delay_offer_most_k1 r1
/- (lineal/delay.offer).prices -/
noncomputable def delay_offer_prices_k1 (b2_2:(List Int)):Option ((List Int)) :=
  some b2_2
noncomputable def delay_offer_prices_k2 (st1:(List Int)×Int) (b2:(List Int)):Option (Step ((List Int)×Int) ((List Int))) :=
  ck (InK .i64 (st1.2+1)) <| some (.next (b2,(st1.2+1)))
noncomputable def delay_offer_prices_b2 (o:(List (List (Int×Bool)))×(List (Int×Int×Int))×(List (List Int))) (st1:(List Int)×Int) (st2:(List Int)×Int):Option (Step ((List Int)×Int) ((List Int))) :=
  if (decide (st2.2<(o.2.1.length:Int)))=true then
  ck (0≤st2.2) <| ck (st2.2<(o.2.1.length:Int)) <| if (decide ((o.2.1.getD st2.2.toNat (0,0,0)).2.2=st1.2))=true then
  (delay_offer_most o (o.2.1.getD st2.2.toNat (0,0,0)) st2.1).bind fun v0 =>
  ck (0≤st2.2) <| ck (st2.2<(st2.1.length:Int)) <| ck (InK .i64 (st2.2+1)) <| some (.next ((st2.1.set st2.2.toNat v0),(st2.2+1)))
  else
  ck (InK .i64 (st2.2+1)) <| some (.next (st2.1,(st2.2+1)))
  else
  some (.done st2.1)
noncomputable def delay_offer_prices_b1 (o:(List (List (Int×Bool)))×(List (Int×Int×Int))×(List (List Int))) (st1:(List Int)×Int):Option (Step ((List Int)×Int) ((List Int))) :=
  if (decide (st1.2<4))=true then
  (whileO (delay_offer_prices_b2 o st1) (st1.1,0)).bind fun r2 =>
  delay_offer_prices_k2 st1 r2
  else
  some (.done st1.1)
noncomputable def delay_offer_prices (o:(List (List (Int×Bool)))×(List (Int×Int×Int))×(List (List Int))):Option ((List Int)) :=
  ck (8*(o.2.1.length:Int)≤281474976710656) <| (whileO (delay_offer_prices_b1 o) ((List.replicate o.2.1.length (0:Int)),0)).bind fun r1 =>
  delay_offer_prices_k1 r1
/- lineal/delay.Prices -/
noncomputable def delay_Prices (x0:List (List (Int×Bool))) (costs:List (List Int)):Option ((List Int)×Int) :=
  (delay_offerOf x0 costs).bind fun v0 =>
  if (!(decide (v0.2.2.2=0)))=true then
  some ([],v0.2.2.2)
  else
  (delay_offer_prices (v0.1,v0.2.1,v0.2.2.1)).bind fun v0_2 =>
  some (v0_2,0)
/- lineal/lineallaw09.DelayPrices -/
noncomputable def lineallaw09_DelayPrices (x0:List (List (Int×Bool))) (costs:List (List Int)) (prices:List Int) (cost:Int):Option Bool :=
  (lineallaw09_Long x0).bind fun v0 =>
  if v0=true then
  (lineallaw09_Awake).bind fun v0_2 =>
  some v0_2
  else
  (lineallaw09_wide costs).bind fun v0_3 =>
  if v0_3=true then
  (lineallaw09_Awake).bind fun v0_4 =>
  some v0_4
  else
  if (decide (100<(prices.length:Int)))=true then
  (lineallaw09_Awake).bind fun v0_5 =>
  some v0_5
  else
  (delay_Cheapest x0 costs).bind fun v0_6 =>
  (linealref09_Cheapest x0 costs).bind fun v0_7 =>
  (delay_Least x0 costs).bind fun v0_8 =>
  (linealref09_Least x0 costs).bind fun v0_9 =>
  (linealref09_SameFences v0_6.1 v0_7.1).bind fun v0_10 =>
  if (!v0_10)=true then
  some false
  else
  if (!(decide (v0_6.2=v0_7.2)))=true then
  some false
  else
  if (!(decide (v0_8.1=v0_9.1)))=true then
  some false
  else
  if (!(decide (v0_8.2=v0_9.2)))=true then
  some false
  else
  (delay_Prove x0 costs prices cost).bind fun v0_11 =>
  (linealref09_Prove x0 costs prices cost).bind fun v0_12 =>
  (delay_Prices x0 costs).bind fun v0_13 =>
  if ((v0_11.1==v0_12.1) != true)=true then
  some false
  else
  if (!(decide (v0_11.2=v0_12.2)))=true then
  some false
  else
  if (!(decide (v0_13.2=v0_9.2)))=true then
  some false
  else
  if (!(decide (v0_9.2=0)))=true then
  if (decide ((v0_13.1.length:Int)=0))=true then
  (lineallaw09_Awake).bind fun v0_14 =>
  some v0_14
  else
  some false
  else
  (linealref09_Prove x0 costs v0_13.1 v0_9.1).bind fun v0_15 =>
  if (decide (v0_15.2=0))=true then
  if v0_15.1=true then
  (lineallaw09_Awake).bind fun v0_16 =>
  some v0_16
  else
  some false
  else
  some false
end Go.Proofs.Ytdicomoggfhbfaa
