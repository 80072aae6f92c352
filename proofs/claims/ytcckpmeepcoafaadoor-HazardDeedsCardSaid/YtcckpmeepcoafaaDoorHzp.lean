import Derived.Test.YtcckpmeepcoafaaDoorTyz
namespace Go.Proofs.YtcckpmeepcoafaaDoor
open Go.RowKit
set_option linter.unusedSimpArgs false
set_option linter.unusedVariables false
set_option linter.constructorNameAsVariable false
abbrev ZS:Type:=List (Int×Int×(List (List Int))×(List (List Int)))
abbrev ZH:Type:=List (Int×Int×Int×Int×Int×Int)
abbrev ZM:Type:=List (((Int×Int)×Int)×Int)
/- lineal/hazard.New -/
noncomputable def hazard_New_k1 (b2_2:(El T65)):Option (Sum Unit ((El T65))) :=
  some (Sum.inr b2_2)
noncomputable def hazard_New_k2 (st1:(El T65)×Int) (b2:(El T65)):Option (Step ((El T65)×Int) ((El T65))) :=
  ck (InK .i64 (st1.2+1)) <| some (.next (b2,(st1.2+1)))
noncomputable def hazard_New_b2 (st1:(El T65)×Int) (st2:(El T65)×Int):Option (Step ((El T65)×Int) ((El T65))) :=
  if (decide (st2.2<2))=true then
  ck (0≤st1.2) <| ck (st1.2<4) <| ck (0≤st2.2) <| ck (st2.2<2) <| ck (InK .i64 (st2.2+1)) <| some (.next ((setInt T65 st2.1 ((st1.2.toNat*2)+st2.2.toNat*1) (-1)),(st2.2+1)))
  else
  some (.done st2.1)
noncomputable def hazard_New_b1 (st1:(El T65)×Int):Option (Step ((El T65)×Int) ((El T65))) :=
  if (decide (st1.2<4))=true then
  (whileO (hazard_New_b2 st1) (st1.1,0)).bind fun r2 =>
  hazard_New_k2 st1 r2
  else
  some (.done st1.1)
noncomputable def hazard_New (threads:Int) (size:Int):Option (Sum Unit ((El T65))) :=
  if (decide (threads<1))=true then
  some (Sum.inl ())
  else
  if (decide (4<threads))=true then
  some (Sum.inl ())
  else
  if (decide (size<1))=true then
  some (Sum.inl ())
  else
  if (decide (4<size))=true then
  some (Sum.inl ())
  else
  (whileO (hazard_New_b1) ((Ty.dflt T65),0)).bind fun r1 =>
  hazard_New_k1 r1
/- lineal/hazard.isDeed -/
noncomputable def hazard_isDeed (d:Int×Int×Int×Int):Option Unit :=
  some ()
/- (*lineal/hazard.Yard).isNone -/
noncomputable def hazard_Yard_isNone (y:Int×Int×(El T63)×(El T65)×(El T69)):Option Unit :=
  some ()
/- lineal/hazard.isDeed$1 -/
noncomputable def hazard_isDeed_1_k1:Option Bool :=
  some true
noncomputable def hazard_isDeed_1_b1 (a1:Int×Int×Int×Int) (st1:Int):Option (Step Int (Sum Unit Unit)) :=
  if (decide (st1<(([a1.2.1,a1.2.2.1,a1.2.2.2].drop (fieldsL.getD (0+a1.1.toNat*1) 0).toNat).length:Int)))=true then
  ck (0≤st1) <| ck (st1<(([a1.2.1,a1.2.2.1,a1.2.2.2].drop (fieldsL.getD (0+a1.1.toNat*1) 0).toNat).length:Int)) <| if (!(decide ((([a1.2.1,a1.2.2.1,a1.2.2.2].drop (fieldsL.getD (0+a1.1.toNat*1) 0).toNat).getD st1.toNat 0)=0)))=true then
  some (.done (Sum.inl ()))
  else
  ck (InK .i64 (st1+1)) <| some (.next (st1+1))
  else
  some (.done (Sum.inr ()))
noncomputable def hazard_isDeed_1 (a1:Int×Int×Int×Int) (a0:Int×Int×(El T63)×(El T65)×(El T69)):Option Bool :=
  if (decide (a1.1<1))=true then
  some false
  else
  if (decide (6<a1.1))=true then
  some false
  else
  ck (0≤a1.1) <| ck (a1.1<7) <| ck ((0+a1.1.toNat*1)<7) <| ck (0≤(fieldsL.getD (0+a1.1.toNat*1) 0)) <| ck ((fieldsL.getD (0+a1.1.toNat*1) 0)≤3) <| (whileO (hazard_isDeed_1_b1 a1) 0).bind fun x=>match x with
  | .inl _=>(some false)
  | .inr _=>(hazard_isDeed_1_k1)
/- (*lineal/hazard.Yard).fails -/
noncomputable def hazard_Yard_fails_k1:Option Int :=
  some 0
noncomputable def hazard_Yard_fails (y:Int×Int×(El T63)×(El T65)×(El T69)) (c0:Int×Int×Int×Int) (checks:Int):Option Int :=
  (hazard_Yard_isNone y).bind fun v0 =>
  if (decide (y.1=0))=true then
  some 60
  else
  (hazard_isDeed_1 c0 y).bind fun v0_2 =>
  if (!v0_2)=true then
  some checks
  else
  ck (InK .i64 1) <| hazard_Yard_fails_k1
/- lineal/hazard.isThread -/
noncomputable def hazard_isThread (thread:Int):Option Unit :=
  some ()
/- lineal/hazard.isBelow -/
noncomputable def hazard_isBelow (number:Int) (end0:Int):Option Bool :=
  if (decide (0≤number))=true then
  some (decide (number<end0))
  else
  some false
/- lineal/hazard.isThread$1 -/
noncomputable def hazard_isThread_1 (a1:Int) (y:Int×Int×(El T63)×(El T65)×(El T69)):Option Bool :=
  (hazard_isBelow a1 y.1).bind fun v0 =>
  some v0
/- (*lineal/hazard.Yard).fails -/
noncomputable def hazard_Yard_fails_2_k1:Option Int :=
  some 0
noncomputable def hazard_Yard_fails_2 (y:Int×Int×(El T63)×(El T65)×(El T69)) (c0:Int) (checks:Int):Option Int :=
  (hazard_Yard_isNone y).bind fun v0 =>
  if (decide (y.1=0))=true then
  some 60
  else
  (hazard_isThread_1 c0 y).bind fun v0_2 =>
  if (!v0_2)=true then
  some checks
  else
  ck (InK .i64 1) <| hazard_Yard_fails_2_k1
/- slices.Index[[]lineal/hazard.state,lineal/hazard.state] -/
noncomputable def slices_Index_k1:Option Int :=
  some (-1)
noncomputable def slices_Index_b1 (v0:Int) (s:Int×Int×(El T63)×(El T65)×(El T69)) (st1:Int):Option (Step Int (Sum Int Unit)) :=
  if (decide (st1<8))=true then
  ck (0≤st1) <| ck (st1<8) <| if (decide (v0=(intAt T63 s.2.2.1 st1.toNat)))=true then
  some (.done (Sum.inl st1))
  else
  ck (InK .i64 (st1+1)) <| some (.next (st1+1))
  else
  some (.done (Sum.inr ()))
noncomputable def slices_Index (v0:Int) (s:Int×Int×(El T63)×(El T65)×(El T69)):Option Int :=
  (whileO (slices_Index_b1 v0 s) 0).bind fun x=>match x with
  | .inl r1=>(some r1)
  | .inr _=>(slices_Index_k1)
/- (*lineal/hazard.Yard).Take -/
noncomputable def hazard_Yard_Take (thread:Int) (y:Int×Int×(El T63)×(El T65)×(El T69)):Option (Int×Int×(El T63)) :=
  (hazard_isThread thread).bind fun v0 =>
  (hazard_Yard_fails_2 y thread 2).bind fun v0_2 =>
  if (!(decide (v0_2=0)))=true then
  some (0,v0_2,y.2.2.1)
  else
  (slices_Index 0 y).bind fun v0_3 =>
  if (decide (v0_3<0))=true then
  some (0,5,y.2.2.1)
  else
  ck (0≤v0_3) <| ck (v0_3<8) <| some (v0_3,0,(setInt T63 y.2.2.1 (v0_3.toNat*1) 1))
/- lineal/hazard.isSlot -/
noncomputable def hazard_isSlot (slot:Int):Option Unit :=
  some ()
/- lineal/hazard.isNode -/
noncomputable def hazard_isNode (node:Int):Option Unit :=
  some ()
/- lineal/hazard.isIn -/
noncomputable def hazard_isIn (node:Int):Option Unit :=
  some ()
/- lineal/hazard.isSlot$1 -/
noncomputable def hazard_isSlot_1 (a1:Int) (a0:Int×Int×(El T63)×(El T65)×(El T69)):Option Bool :=
  (hazard_isBelow a1 2).bind fun v0 =>
  some v0
/- lineal/hazard.isNode$1 -/
noncomputable def hazard_isNode_1 (a1:Int) (a0:Int×Int×(El T63)×(El T65)×(El T69)):Option Bool :=
  (hazard_isBelow a1 8).bind fun v0 =>
  some v0
/- lineal/hazard.isIn$1 -/
noncomputable def hazard_isIn_1 (a1:Int) (y:Int×Int×(El T63)×(El T65)×(El T69)):Option Unit :=
  ck (0≤a1) <| ck (a1<8) <| some ()
/- (*lineal/hazard.Yard).fails -/
noncomputable def hazard_Yard_fails_3_k1:Option Int :=
  some 0
noncomputable def hazard_Yard_fails_3 (y:Int×Int×(El T63)×(El T65)×(El T69)) (c0:Int) (checks:Int) (c0_2:Int) (checks_2:Int) (c0_3:Int) (checks_3:Int) (c0_4:Int) (checks_4:Int):Option Int :=
  (hazard_Yard_isNone y).bind fun v0 =>
  if (decide (y.1=0))=true then
  some 60
  else
  (hazard_isThread_1 c0 y).bind fun v0_2 =>
  if (!v0_2)=true then
  some checks
  else
  ck (InK .i64 1) <| (hazard_isSlot_1 c0_2 y).bind fun v0_3 =>
  if (!v0_3)=true then
  some checks_2
  else
  ck (InK .i64 2) <| (hazard_isNode_1 c0_3 y).bind fun v0_4 =>
  if (!v0_4)=true then
  some checks_3
  else
  ck (InK .i64 3) <| (hazard_isIn_1 c0_4 y).bind fun v0_5 =>
  if (!(decide ((intAt T63 y.2.2.1 (c0_4.toNat*1))=1)))=true then
  some checks_4
  else
  ck (InK .i64 4) <| hazard_Yard_fails_3_k1
/- (*lineal/hazard.Yard).Point -/
noncomputable def hazard_Yard_Point (thread:Int) (slot:Int) (node:Int) (y:Int×Int×(El T63)×(El T65)×(El T69)):Option (Int×(El T65)) :=
  (hazard_isThread thread).bind fun v0 =>
  (hazard_isSlot slot).bind fun v0_2 =>
  (hazard_isNode node).bind fun v0_3 =>
  (hazard_isIn node).bind fun v0_4 =>
  (hazard_Yard_fails_3 y thread 2 slot 2 node 2 node 5).bind fun v0_5 =>
  if (!(decide (v0_5=0)))=true then
  some (v0_5,y.2.2.2.1)
  else
  ck (0≤thread) <| ck (thread<4) <| ck (0≤slot) <| ck (slot<2) <| some (0,(setInt T65 y.2.2.2.1 ((thread.toNat*2)+slot.toNat*1) node))
/- (*lineal/hazard.Yard).fails -/
noncomputable def hazard_Yard_fails_4_k1:Option Int :=
  some 0
noncomputable def hazard_Yard_fails_4 (y:Int×Int×(El T63)×(El T65)×(El T69)) (c0:Int) (checks:Int) (c0_2:Int) (checks_2:Int):Option Int :=
  (hazard_Yard_isNone y).bind fun v0 =>
  if (decide (y.1=0))=true then
  some 60
  else
  (hazard_isThread_1 c0 y).bind fun v0_2 =>
  if (!v0_2)=true then
  some checks
  else
  ck (InK .i64 1) <| (hazard_isSlot_1 c0_2 y).bind fun v0_3 =>
  if (!v0_3)=true then
  some checks_2
  else
  ck (InK .i64 2) <| hazard_Yard_fails_4_k1
/- (*lineal/hazard.Yard).Clear -/
noncomputable def hazard_Yard_Clear (thread:Int) (slot:Int) (y:Int×Int×(El T63)×(El T65)×(El T69)):Option (Int×(El T65)) :=
  (hazard_isThread thread).bind fun v0 =>
  (hazard_isSlot slot).bind fun v0_2 =>
  (hazard_Yard_fails_4 y thread 2 slot 2).bind fun v0_3 =>
  if (!(decide (v0_3=0)))=true then
  some (v0_3,y.2.2.2.1)
  else
  ck (0≤thread) <| ck (thread<4) <| ck (0≤slot) <| ck (slot<2) <| some (0,(setInt T65 y.2.2.2.1 ((thread.toNat*2)+slot.toNat*1) (-1)))
/- (*lineal/hazard.Yard).fails -/
noncomputable def hazard_Yard_fails_5_k1:Option Int :=
  some 0
noncomputable def hazard_Yard_fails_5 (y:Int×Int×(El T63)×(El T65)×(El T69)) (c0:Int) (checks:Int) (c0_2:Int) (checks_2:Int) (c0_3:Int) (checks_3:Int):Option Int :=
  (hazard_Yard_isNone y).bind fun v0 =>
  if (decide (y.1=0))=true then
  some 60
  else
  (hazard_isThread_1 c0 y).bind fun v0_2 =>
  if (!v0_2)=true then
  some checks
  else
  ck (InK .i64 1) <| (hazard_isNode_1 c0_2 y).bind fun v0_3 =>
  if (!v0_3)=true then
  some checks_2
  else
  ck (InK .i64 2) <| (hazard_isIn_1 c0_3 y).bind fun v0_4 =>
  if (!(decide ((intAt T63 y.2.2.1 (c0_3.toNat*1))=1)))=true then
  some checks_3
  else
  ck (InK .i64 3) <| hazard_Yard_fails_5_k1
/- (*lineal/hazard.list).add -/
noncomputable def hazard_list_add (l:Nat) (node:Int) (l_2:Int×Int×(El T63)×(El T65)×(El T69)):Option Unit :=
  ck (l<36) <| ck (0≤(intAt T69 l_2.2.2.2.2 l)) <| ck ((intAt T69 l_2.2.2.2.2 l)<8) <| ck (((l+1)+(intAt T69 l_2.2.2.2.2 l).toNat*1)<36) <| ck (l<36) <| ck (InK .i64 ((intAt T69 (setInt T69 l_2.2.2.2.2 ((l+1)+(intAt T69 l_2.2.2.2.2 l).toNat*1) node) l)+1)) <| ck (l<36) <| some ()
/- slices.Clone[[]int,int] -/
noncomputable def slices_Clone (s:List Int):Option ((List Int)) :=
  ck (s.length*8≤140737488355328) <| some s
/- (lineal/hazard.list).all -/
noncomputable def hazard_list_all (l:Int×(El T66)):Option ((List Int)) :=
  ck (0≤l.1) <| ck (l.1≤8) <| (slices_Clone ((rowX T66 l.2).take l.1.toNat)).bind fun v0 =>
  some v0
/- slices.Index[[]int,int] -/
noncomputable def slices_Index_2_k1:Option Int :=
  some (-1)
noncomputable def slices_Index_2_b1 (v0:Int) (s:Int×Int) (st1:Int):Option (Step Int (Sum Int Unit)) :=
  if (decide (st1<2))=true then
  ck (0≤st1) <| ck (st1<2) <| if (decide (st1=0))=true then
  if (decide (v0=s.1))=true then
  some (.done (Sum.inl 0))
  else
  ck (InK .i64 (0+1)) <| some (.next (0+1))
  else
  if (decide (v0=s.2))=true then
  some (.done (Sum.inl 1))
  else
  ck (InK .i64 (1+1)) <| some (.next (1+1))
  else
  some (.done (Sum.inr ()))
noncomputable def slices_Index_2 (v0:Int) (s:Int×Int):Option Int :=
  (whileO (slices_Index_2_b1 v0 s) 0).bind fun x=>match x with
  | .inl r1=>(some r1)
  | .inr _=>(slices_Index_2_k1)
/- slices.Contains[[]int,int] -/
noncomputable def slices_Contains (v0:Int) (s:Int×Int):Option Bool :=
  (slices_Index_2 v0 s).bind fun v0_2 =>
  some (decide (0≤v0_2))
/- (*lineal/hazard.Yard).isHeld -/
noncomputable def hazard_Yard_isHeld_k1:Option Bool :=
  some false
noncomputable def hazard_Yard_isHeld_b1 (node:Int) (y:Int×Int×(El T63)×(El T65)×(El T69)) (st1:Int):Option (Step Int (Sum Unit Unit)) :=
  if (decide (st1<4))=true then
  ck (0≤st1) <| ck (st1<4) <| (slices_Contains node ((intAt T65 y.2.2.2.1 (st1.toNat*2)),(intAt T65 y.2.2.2.1 ((st1.toNat*2)+1)))).bind fun v0 =>
  if v0=true then
  some (.done (Sum.inl ()))
  else
  ck (InK .i64 (st1+1)) <| some (.next (st1+1))
  else
  some (.done (Sum.inr ()))
noncomputable def hazard_Yard_isHeld (node:Int) (y:Int×Int×(El T63)×(El T65)×(El T69)):Option Bool :=
  (whileO (hazard_Yard_isHeld_b1 node y) 0).bind fun x=>match x with
  | .inl _=>(some true)
  | .inr _=>(hazard_Yard_isHeld_k1)
/- (*lineal/hazard.list).add -/
noncomputable def hazard_list_add_2 (node:Int) (l:Int×(El T66)):Option Unit :=
  ck (0≤l.1) <| ck (l.1<8) <| ck (InK .i64 (l.1+1)) <| some ()
/- (*lineal/hazard.Yard).sweep -/
noncomputable def hazard_Yard_sweep_k1 (thread:Int) (y:Int×Int×(El T63)×(El T65)×(El T69)) (v0:(List Int)) (b1:(El T63)×Int×(El T66)):Option (Int×(El T63)×(El T69)) :=
  ck (0≤thread) <| ck (thread<4) <| ck (InK .i64 ((v0.length:Int) - b1.2.1)) <| some (((v0.length:Int) - b1.2.1),b1.1,(putX T69 (.pair (.int .i64) T66) y.2.2.2.2 (thread.toNat*9) b1.2))
noncomputable def hazard_Yard_sweep_b1 (y:Int×Int×(El T63)×(El T65)×(El T69)) (v0:(List Int)) (st1:(El T63)×Int×(El T66)×Int):Option (Step ((El T63)×Int×(El T66)×Int) ((El T63)×Int×(El T66))) :=
  if (decide (st1.2.2.2<(v0.length:Int)))=true then
  ck (0≤st1.2.2.2) <| ck (st1.2.2.2<(v0.length:Int)) <| (hazard_Yard_isHeld (v0.getD st1.2.2.2.toNat 0) (y.1,y.2.1,st1.1,y.2.2.2)).bind fun v0_2 =>
  if v0_2=true then
  (hazard_list_add_2 (v0.getD st1.2.2.2.toNat 0) (st1.2.1,st1.2.2.1)).bind fun v0_3 =>
  ck (InK .i64 (st1.2.2.2+1)) <| some (.next (st1.1,(st1.2.1+1),(setInt T66 st1.2.2.1 (st1.2.1.toNat*1) (v0.getD st1.2.2.2.toNat 0)),(st1.2.2.2+1)))
  else
  ck (0≤(v0.getD st1.2.2.2.toNat 0)) <| ck ((v0.getD st1.2.2.2.toNat 0)<8) <| ck (InK .i64 (st1.2.2.2+1)) <| some (.next ((setInt T63 st1.1 ((v0.getD st1.2.2.2.toNat 0).toNat*1) 0),st1.2.1,st1.2.2.1,(st1.2.2.2+1)))
  else
  some (.done (st1.1,st1.2.1,st1.2.2.1))
noncomputable def hazard_Yard_sweep (thread:Int) (y:Int×Int×(El T63)×(El T65)×(El T69)):Option (Int×(El T63)×(El T69)) :=
  ck (0≤thread) <| ck (thread<4) <| (hazard_list_all ((intAt T69 y.2.2.2.2 (thread.toNat*9)),(subX T69 y.2.2.2.2 T66 ((thread.toNat*9)+1)))).bind fun v0 =>
  (whileO (hazard_Yard_sweep_b1 y v0) (y.2.2.1,0,(Ty.dflt T66),0)).bind fun r1 =>
  hazard_Yard_sweep_k1 thread y v0 r1
/- (*lineal/hazard.Yard).PutBy -/
noncomputable def hazard_Yard_PutBy (thread:Int) (node:Int) (y:Int×Int×(El T63)×(El T65)×(El T69)):Option (Int×Int×(El T63)×(El T69)) :=
  (hazard_isThread thread).bind fun v0 =>
  (hazard_isNode node).bind fun v0_2 =>
  (hazard_isIn node).bind fun v0_3 =>
  (hazard_Yard_fails_5 y thread 2 node 2 node 5).bind fun v0_4 =>
  if (!(decide (v0_4=0)))=true then
  some (0,v0_4,y.2.2.1,y.2.2.2.2)
  else
  ck (0≤node) <| ck (node<8) <| ck (0≤thread) <| ck (thread<4) <| (hazard_list_add (thread.toNat*9) node (y.1,y.2.1,(setInt T63 y.2.2.1 (node.toNat*1) 2),y.2.2.2)).bind fun v0_5 =>
  ck (0≤thread) <| ck (thread<4) <| if (decide ((intAt T69 (setInt T69 (setInt T69 y.2.2.2.2 (((thread.toNat*9)+1)+(intAt T69 y.2.2.2.2 (thread.toNat*9)).toNat*1) node) (thread.toNat*9) ((intAt T69 (setInt T69 y.2.2.2.2 (((thread.toNat*9)+1)+(intAt T69 y.2.2.2.2 (thread.toNat*9)).toNat*1) node) (thread.toNat*9))+1)) (thread.toNat*9))<y.2.1))=true then
  some (0,0,(setInt T63 y.2.2.1 (node.toNat*1) 2),(setInt T69 (setInt T69 y.2.2.2.2 (((thread.toNat*9)+1)+(intAt T69 y.2.2.2.2 (thread.toNat*9)).toNat*1) node) (thread.toNat*9) ((intAt T69 (setInt T69 y.2.2.2.2 (((thread.toNat*9)+1)+(intAt T69 y.2.2.2.2 (thread.toNat*9)).toNat*1) node) (thread.toNat*9))+1)))
  else
  (hazard_Yard_sweep thread (y.1,y.2.1,(setInt T63 y.2.2.1 (node.toNat*1) 2),y.2.2.2.1,(setInt T69 (setInt T69 y.2.2.2.2 (((thread.toNat*9)+1)+(intAt T69 y.2.2.2.2 (thread.toNat*9)).toNat*1) node) (thread.toNat*9) ((intAt T69 (setInt T69 y.2.2.2.2 (((thread.toNat*9)+1)+(intAt T69 y.2.2.2.2 (thread.toNat*9)).toNat*1) node) (thread.toNat*9))+1)))).bind fun v0_6 =>
  some (v0_6.1,0,v0_6.2)
/- (*lineal/hazard.Yard).Sweep -/
noncomputable def hazard_Yard_Sweep (thread:Int) (y:Int×Int×(El T63)×(El T65)×(El T69)):Option (Int×Int×(El T63)×(El T69)) :=
  (hazard_isThread thread).bind fun v0 =>
  (hazard_Yard_fails_2 y thread 2).bind fun v0_2 =>
  if (!(decide (v0_2=0)))=true then
  some (0,v0_2,y.2.2.1,y.2.2.2.2)
  else
  (hazard_Yard_sweep thread y).bind fun v0_3 =>
  some (v0_3.1,0,v0_3.2)
/- lineal/hazard.points -/
noncomputable def hazard_points (thread:Int) (slot:Int):Option Unit :=
  some ()
/- lineal/hazard.points$1 -/
noncomputable def hazard_points_1 (a1:Int) (a2:Int) (y:Int×Int×(El T63)×(El T65)×(El T69)):Option Unit :=
  ck (0≤a1) <| ck (a1<4) <| ck (0≤a2) <| ck (a2<2) <| some ()
/- (*lineal/hazard.Yard).fails -/
noncomputable def hazard_Yard_fails_6_k1:Option Int :=
  some 0
noncomputable def hazard_Yard_fails_6 (y:Int×Int×(El T63)×(El T65)×(El T69)) (c0:Int) (checks:Int) (c0_2:Int) (checks_2:Int) (c0_3:Int) (c1:Int) (checks_3:Int):Option Int :=
  (hazard_Yard_isNone y).bind fun v0 =>
  if (decide (y.1=0))=true then
  some 60
  else
  (hazard_isThread_1 c0 y).bind fun v0_2 =>
  if (!v0_2)=true then
  some checks
  else
  ck (InK .i64 1) <| (hazard_isSlot_1 c0_2 y).bind fun v0_3 =>
  if (!v0_3)=true then
  some checks_2
  else
  ck (InK .i64 2) <| (hazard_points_1 c0_3 c1 y).bind fun v0_4 =>
  if (!(!(decide ((intAt T65 y.2.2.2.1 ((c0_3.toNat*2)+c1.toNat*1))=(-1)))))=true then
  some checks_3
  else
  ck (InK .i64 3) <| hazard_Yard_fails_6_k1
/- (*lineal/hazard.Yard).Use -/
noncomputable def hazard_Yard_Use (thread:Int) (slot:Int) (y:Int×Int×(El T63)×(El T65)×(El T69)):Option (Int×Int) :=
  (hazard_isThread thread).bind fun v0 =>
  (hazard_isSlot slot).bind fun v0_2 =>
  (hazard_points thread slot).bind fun v0_3 =>
  (hazard_Yard_fails_6 y thread 2 slot 2 thread slot 5).bind fun v0_4 =>
  if (!(decide (v0_4=0)))=true then
  some (0,v0_4)
  else
  ck (0≤thread) <| ck (thread<4) <| ck (0≤slot) <| ck (slot<2) <| some ((intAt T65 y.2.2.2.1 ((thread.toNat*2)+slot.toNat*1)),0)
/- (*lineal/hazard.Yard).Do -/
noncomputable def hazard_Yard_Do (d:Int×Int×Int×Int) (y:Int×Int×(El T63)×(El T65)×(El T69)):Option (Int×Int×(El T63)×(El T65)×(El T69)) :=
  (hazard_isDeed d).bind fun v0 =>
  (hazard_Yard_fails y d 2).bind fun v0_2 =>
  if (!(decide (v0_2=0)))=true then
  some (0,v0_2,y.2.2)
  else
  if (decide (d.1=1))=true then
  (hazard_Yard_Take d.2.1 y).bind fun v0_3 =>
  some (v0_3.1,v0_3.2.1,v0_3.2.2,y.2.2.2)
  else
  if (decide (d.1=2))=true then
  (hazard_Yard_Point d.2.1 d.2.2.1 d.2.2.2 y).bind fun v0_4 =>
  some (0,v0_4.1,y.2.2.1,v0_4.2,y.2.2.2.2)
  else
  if (decide (d.1=3))=true then
  (hazard_Yard_Clear d.2.1 d.2.2.1 y).bind fun v0_5 =>
  some (0,v0_5.1,y.2.2.1,v0_5.2,y.2.2.2.2)
  else
  if (decide (d.1=4))=true then
  (hazard_Yard_PutBy d.2.1 d.2.2.1 y).bind fun v0_6 =>
  some (v0_6.1,v0_6.2.1,v0_6.2.2.1,y.2.2.2.1,v0_6.2.2.2)
  else
  if (decide (d.1=5))=true then
  (hazard_Yard_Sweep d.2.1 y).bind fun v0_7 =>
  some (v0_7.1,v0_7.2.1,v0_7.2.2.1,y.2.2.2.1,v0_7.2.2.2)
  else
  (hazard_Yard_Use d.2.1 d.2.2.1 y).bind fun v0_8 =>
  some (v0_8.1,v0_8.2,y.2.2)
/- lineal/hazard.Play -/
noncomputable def hazard_Play_k1 (b1:(List Int)):Option ((List Int)×Int) :=
  some (b1,0)
noncomputable def hazard_Play_b1 (threads:Int) (size:Int) (deeds:List (Int×Int×Int×Int)) (st1:(El T63)×(El T65)×(El T69)×(List Int)×Int):Option (Step ((El T63)×(El T65)×(El T69)×(List Int)×Int) ((List Int))) :=
  if (decide (st1.2.2.2.2<(deeds.length:Int)))=true then
  ck (0≤st1.2.2.2.2) <| ck (st1.2.2.2.2<(deeds.length:Int)) <| (hazard_Yard_Do (deeds.getD st1.2.2.2.2.toNat (0,0,0,0)) (threads,size,st1.1,st1.2.1,st1.2.2.1)).bind fun v0_4 =>
  if (!(decide (v0_4.2.1=0)))=true then
  ck (InK .i64 (-v0_4.2.1)) <| ck ((st1.2.2.2.1.length+1)*8≤140737488355328) <| ck (InK .i64 (st1.2.2.2.2+1)) <| some (.next (v0_4.2.2.1,v0_4.2.2.2.1,v0_4.2.2.2.2,(st1.2.2.2.1++[(-v0_4.2.1)]),(st1.2.2.2.2+1)))
  else
  ck ((st1.2.2.2.1.length+1)*8≤140737488355328) <| ck (InK .i64 (st1.2.2.2.2+1)) <| some (.next (v0_4.2.2.1,v0_4.2.2.2.1,v0_4.2.2.2.2,(st1.2.2.2.1++[v0_4.1]),(st1.2.2.2.2+1)))
  else
  some (.done st1.2.2.2.1)
noncomputable def hazard_Play (threads:Int) (size:Int) (deeds:List (Int×Int×Int×Int)):Option ((List Int)×Int) :=
  (hazard_New threads size).bind fun v0=>match v0 with
  | .inl v0_2=>(some ([],2))
  | .inr v0_3=>(if (decide (100<(deeds.length:Int)))=true then
  some ([],2)
  else
  (whileO (hazard_Play_b1 threads size deeds) ((Ty.dflt T63),v0_3,(Ty.dflt T69),[],0)).bind fun r1 =>
  hazard_Play_k1 r1)
/- lineal/linealref06.SameInts -/
noncomputable def linealref06_SameInts_k1:Option Bool :=
  some true
noncomputable def linealref06_SameInts_b1 (a:List Int) (b:List Int) (st1:Int):Option (Step Int (Sum Unit Unit)) :=
  if (decide (st1<(a.length:Int)))=true then
  ck (0≤st1) <| ck (st1<(a.length:Int)) <| ck (0≤st1) <| ck (st1<(b.length:Int)) <| if (!(decide ((a.getD st1.toNat 0)=(b.getD st1.toNat 0))))=true then
  some (.done (Sum.inl ()))
  else
  ck (InK .i64 (st1+1)) <| some (.next (st1+1))
  else
  some (.done (Sum.inr ()))
noncomputable def linealref06_SameInts (a:List Int) (b:List Int):Option Bool :=
  if (!(decide ((a.length:Int)=(b.length:Int))))=true then
  some false
  else
  (whileO (linealref06_SameInts_b1 a b) 0).bind fun x=>match x with
  | .inl _=>(some false)
  | .inr _=>(linealref06_SameInts_k1)
/- lineal/lineallaw06.Sane -/
noncomputable def lineallaw06_Sane:Option Bool :=
  (hazard_Play 2 2 [(1,0,0,0),(1,0,0,0),(4,0,0,0),(4,0,1,0)]).bind fun v0 =>
  if (decide (v0.2=0))=true then
  (linealref06_SameInts v0.1 [0,1,0,2]).bind fun v0_2 =>
  some v0_2
  else
  some false
/- lineal/lineallaw06.done -/
/- (*lineal/hazard.Yard).count -/
noncomputable def hazard_Yard_count_k1 (b1:Int):Option Int :=
  some b1
noncomputable def hazard_Yard_count_b1 (where0:Int) (y:Int×Int×(El T63)×(El T65)×(El T69)) (st1:Int×Int):Option (Step (Int×Int) Int) :=
  if (decide (st1.2<8))=true then
  ck (0≤st1.2) <| ck (st1.2<8) <| if (decide ((intAt T63 y.2.2.1 (st1.2.toNat*1))=where0))=true then
  ck (InK .i64 (st1.1+1)) <| ck (InK .i64 (st1.2+1)) <| some (.next ((st1.1+1),(st1.2+1)))
  else
  ck (InK .i64 (st1.2+1)) <| some (.next (st1.1,(st1.2+1)))
  else
  some (.done st1.1)
noncomputable def hazard_Yard_count (where0:Int) (y:Int×Int×(El T63)×(El T65)×(El T69)):Option Int :=
  (hazard_Yard_isNone y).bind fun v0 =>
  if (decide (y.1=0))=true then
  some 0
  else
  (whileO (hazard_Yard_count_b1 where0 y) (0,0)).bind fun r1 =>
  hazard_Yard_count_k1 r1
/- (*lineal/hazard.Yard).By -/
noncomputable def hazard_Yard_By (y:Int×Int×(El T63)×(El T65)×(El T69)):Option Int :=
  (hazard_Yard_count 2 y).bind fun v0 =>
  some v0
/- (*lineal/hazard.Yard).Held -/
noncomputable def hazard_Yard_Held_k1 (b1:(List Int)):Option ((List Int)) :=
  some b1
noncomputable def hazard_Yard_Held_b1 (y:Int×Int×(El T63)×(El T65)×(El T69)) (st1:(List Int)×Int):Option (Step ((List Int)×Int) ((List Int))) :=
  if (decide (st1.2<8))=true then
  (hazard_Yard_isHeld st1.2 y).bind fun v0_2 =>
  if v0_2=true then
  ck ((st1.1.length+1)*8≤140737488355328) <| ck (InK .i64 (st1.2+1)) <| some (.next ((st1.1++[st1.2]),(st1.2+1)))
  else
  ck (InK .i64 (st1.2+1)) <| some (.next (st1.1,(st1.2+1)))
  else
  some (.done st1.1)
noncomputable def hazard_Yard_Held (y:Int×Int×(El T63)×(El T65)×(El T69)):Option ((List Int)) :=
  (hazard_Yard_isNone y).bind fun v0 =>
  if (decide (y.1=0))=true then
  some []
  else
  (whileO (hazard_Yard_Held_b1 y) ([],0)).bind fun r1 =>
  hazard_Yard_Held_k1 r1
/- lineal/lineallaw06.HazardEnds -/
/- (*lineal/hazard.Yard).fails -/
noncomputable def hazard_Yard_fails_7_k1:Option Int :=
  some 0
noncomputable def hazard_Yard_fails_7 (y:Int×Int×(El T63)×(El T65)×(El T69)) (c0:Int) (checks:Int):Option Int :=
  (hazard_Yard_isNone y).bind fun v0 =>
  if (decide (y.1=0))=true then
  some 60
  else
  (hazard_isNode_1 c0 y).bind fun v0_2 =>
  if (!v0_2)=true then
  some checks
  else
  ck (InK .i64 1) <| hazard_Yard_fails_7_k1
/- (*lineal/hazard.Yard).State -/
noncomputable def hazard_Yard_State (node:Int) (y:Int×Int×(El T63)×(El T65)×(El T69)):Option (Int×Int) :=
  (hazard_isNode node).bind fun v0 =>
  (hazard_Yard_fails_7 y node 2).bind fun v0_2 =>
  if (!(decide (v0_2=0)))=true then
  some (0,v0_2)
  else
  ck (0≤node) <| ck (node<8) <| some ((intAt T63 y.2.2.1 (node.toNat*1)),0)
/- (*lineal/hazard.Yard).Slot -/
noncomputable def hazard_Yard_Slot (thread:Int) (slot:Int) (y:Int×Int×(El T63)×(El T65)×(El T69)):Option (Int×Int) :=
  (hazard_isThread thread).bind fun v0 =>
  (hazard_isSlot slot).bind fun v0_2 =>
  (hazard_Yard_fails_4 y thread 2 slot 2).bind fun v0_3 =>
  if (!(decide (v0_3=0)))=true then
  some (0,v0_3)
  else
  ck (0≤thread) <| ck (thread<4) <| ck (0≤slot) <| ck (slot<2) <| some ((intAt T65 y.2.2.2.1 ((thread.toNat*2)+slot.toNat*1)),0)
/- lineal/lineallaw06.has -/
/- lineal/lineallaw06.HazardSafes -/
/- (*lineal/hazard.Yard).List -/
noncomputable def hazard_Yard_List (thread:Int) (y:Int×Int×(El T63)×(El T65)×(El T69)):Option ((List Int)×Int) :=
  (hazard_isThread thread).bind fun v0 =>
  (hazard_Yard_fails_2 y thread 2).bind fun v0_2 =>
  if (!(decide (v0_2=0)))=true then
  some ([],v0_2)
  else
  ck (0≤thread) <| ck (thread<4) <| (hazard_list_all ((intAt T69 y.2.2.2.2 (thread.toNat*9)),(subX T69 y.2.2.2.2 T66 ((thread.toNat*9)+1)))).bind fun v0_3 =>
  some (v0_3,0)
/- (*lineal/hazard.Yard).Free -/
noncomputable def hazard_Yard_Free (y:Int×Int×(El T63)×(El T65)×(El T69)):Option Int :=
  (hazard_Yard_count 0 y).bind fun v0 =>
  some v0
/- lineal/lineallaw06.HazardLists -/
/- lineal/linealref06.within -/
noncomputable def linealref06_within (lo:Int) (n:Int) (hi:Int):Option Bool :=
  if (decide (lo≤n))=true then
  some (decide (n≤hi))
  else
  some false
/- lineal/linealref06.IsNew -/
noncomputable def linealref06_IsNew (threads:Int) (size:Int):Option Bool :=
  (linealref06_within 1 threads 4).bind fun v0 =>
  if v0=true then
  (linealref06_within 1 size 4).bind fun v0_2 =>
  some v0_2
  else
  some false
/- lineal/linealref06.New -/
noncomputable def linealref06_New_k1 (b1:(List (Int×Int))×(List (List Int))):Option ((List (Int×Int))×(List (List Int))) :=
  some b1
noncomputable def linealref06_New_b1 (threads:Int) (st1:(List (Int×Int))×(List (List Int))×Int):Option (Step ((List (Int×Int))×(List (List Int))×Int) ((List (Int×Int))×(List (List Int)))) :=
  if (decide (st1.2.2<threads))=true then
  ck ((st1.1.length+1)*16≤140737488355328) <| ck ((st1.2.1.length+1)*24≤140737488355328) <| ck (InK .i64 (st1.2.2+1)) <| some (.next ((st1.1++[((-1),(-1))]),(st1.2.1++[[]]),(st1.2.2+1)))
  else
  some (.done (st1.1,st1.2.1))
noncomputable def linealref06_New (threads:Int) (size:Int):Option ((List (Int×Int))×(List (List Int))) :=
  (whileO (linealref06_New_b1 threads) ([],[],0)).bind fun r1 =>
  linealref06_New_k1 r1
/- (*lineal/linealref06.Yard).isThread -/
noncomputable def linealref06_Yard_isThread (t:Int) (y:Int) (y_2:Int) (y_3:(El T66)) (y_4:List (Int×Int)) (y_5:List (List Int)):Option Bool :=
  ck (InK .i64 (y - 1)) <| (linealref06_within 0 t (y - 1)).bind fun v0 =>
  some v0
/- (*lineal/linealref06.Yard).Take -/
noncomputable def linealref06_Yard_Take_k1 (y_3:(El T66)):Option (Int×Int×(El T66)) :=
  some (0,5,y_3)
noncomputable def linealref06_Yard_Take_b1 (y_3:(El T66)) (st1:Int):Option (Step Int (Sum (Int×(El T66)) Unit)) :=
  if (decide (st1<8))=true then
  ck (0≤st1) <| ck (st1<8) <| if (decide ((intAt T66 y_3 (st1.toNat*1))=0))=true then
  ck (0≤st1) <| ck (st1<8) <| some (.done (Sum.inl (st1,(setInt T66 y_3 (st1.toNat*1) 1))))
  else
  ck (InK .i64 (st1+1)) <| some (.next (st1+1))
  else
  some (.done (Sum.inr ()))
noncomputable def linealref06_Yard_Take (thread:Int) (y:Int) (y_2:Int) (y_3:(El T66)) (y_4:List (Int×Int)) (y_5:List (List Int)):Option (Int×Int×(El T66)) :=
  (linealref06_Yard_isThread thread y y_2 y_3 y_4 y_5).bind fun v0 =>
  if (!v0)=true then
  some (0,2,y_3)
  else
  (whileO (linealref06_Yard_Take_b1 y_3) 0).bind fun x=>match x with
  | .inl r1=>(some (r1.1,0,r1.2))
  | .inr _=>(linealref06_Yard_Take_k1 y_3)
/- lineal/linealref06.isSlot -/
noncomputable def linealref06_isSlot (s:Int):Option Bool :=
  (linealref06_within 0 s 1).bind fun v0 =>
  some v0
/- lineal/linealref06.isNode -/
noncomputable def linealref06_isNode (n:Int):Option Bool :=
  (linealref06_within 0 n 7).bind fun v0 =>
  some v0
/- (*lineal/linealref06.Yard).Point -/
noncomputable def linealref06_Yard_Point (thread:Int) (slot:Int) (node:Int) (y:Int) (y_2:Int) (y_3:(El T66)) (y_4:List (Int×Int)) (y_5:List (List Int)):Option (Int×(List (Int×Int))) :=
  (linealref06_Yard_isThread thread y y_2 y_3 y_4 y_5).bind fun v0 =>
  if (!v0)=true then
  some (2,y_4)
  else
  (linealref06_isSlot slot).bind fun v0_2 =>
  if (!v0_2)=true then
  some (2,y_4)
  else
  (linealref06_isNode node).bind fun v0_3 =>
  if (!v0_3)=true then
  some (2,y_4)
  else
  ck (0≤node) <| ck (node<8) <| if (!(decide ((intAt T66 y_3 (node.toNat*1))=1)))=true then
  some (5,y_4)
  else
  ck (0≤thread) <| ck (thread<(y_4.length:Int)) <| ck (0≤slot) <| ck (slot<2) <| if (decide (slot=0))=true then
  some (0,(y_4.set thread.toNat (node,(y_4.getD thread.toNat (0,0)).2)))
  else
  some (0,(y_4.set thread.toNat ((y_4.getD thread.toNat (0,0)).1,node)))
/- (*lineal/linealref06.Yard).Clear -/
noncomputable def linealref06_Yard_Clear (thread:Int) (slot:Int) (y:Int) (y_2:Int) (y_3:(El T66)) (y_4:List (Int×Int)) (y_5:List (List Int)):Option (Int×(List (Int×Int))) :=
  (linealref06_Yard_isThread thread y y_2 y_3 y_4 y_5).bind fun v0 =>
  if (!v0)=true then
  some (2,y_4)
  else
  (linealref06_isSlot slot).bind fun v0_2 =>
  if (!v0_2)=true then
  some (2,y_4)
  else
  ck (0≤thread) <| ck (thread<(y_4.length:Int)) <| ck (0≤slot) <| ck (slot<2) <| if (decide (slot=0))=true then
  some (0,(y_4.set thread.toNat ((-1),(y_4.getD thread.toNat (0,0)).2)))
  else
  some (0,(y_4.set thread.toNat ((y_4.getD thread.toNat (0,0)).1,(-1))))
/- (*lineal/linealref06.Yard).IsHeld -/
noncomputable def linealref06_Yard_IsHeld_k1:Option Bool :=
  some false
noncomputable def linealref06_Yard_IsHeld_k2 (st1:Int):Option (Step Int (Sum Unit Unit)) :=
  ck (InK .i64 (st1+1)) <| some (.next (st1+1))
noncomputable def linealref06_Yard_IsHeld_b2 (node:Int) (y_4:List (Int×Int)) (st1:Int) (st2:Int):Option (Step Int (Sum Unit Unit)) :=
  if (decide (st2<2))=true then
  ck (0≤st1) <| ck (st1<(y_4.length:Int)) <| ck (0≤st2) <| ck (st2<2) <| if (decide (st2=0))=true then
  if (decide ((y_4.getD st1.toNat (0,0)).1=node))=true then
  some (.done (Sum.inl ()))
  else
  ck (InK .i64 (0+1)) <| some (.next (0+1))
  else
  if (decide ((y_4.getD st1.toNat (0,0)).2=node))=true then
  some (.done (Sum.inl ()))
  else
  ck (InK .i64 (1+1)) <| some (.next (1+1))
  else
  some (.done (Sum.inr ()))
noncomputable def linealref06_Yard_IsHeld_b1 (node:Int) (y:Int) (y_4:List (Int×Int)) (st1:Int):Option (Step Int (Sum Unit Unit)) :=
  if (decide (st1<y))=true then
  (whileO (linealref06_Yard_IsHeld_b2 node y_4 st1) 0).bind fun x=>match x with
  | .inl _=>(some (.done (Sum.inl ())))
  | .inr _=>(linealref06_Yard_IsHeld_k2 st1)
  else
  some (.done (Sum.inr ()))
noncomputable def linealref06_Yard_IsHeld (node:Int) (y:Int) (y_2:Int) (y_3:(El T66)) (y_4:List (Int×Int)) (y_5:List (List Int)):Option Bool :=
  (whileO (linealref06_Yard_IsHeld_b1 node y y_4) 0).bind fun x=>match x with
  | .inl _=>(some true)
  | .inr _=>(linealref06_Yard_IsHeld_k1)
/- (*lineal/linealref06.Yard).Sweep -/
noncomputable def linealref06_Yard_Sweep_k1 (thread:Int) (y_5:List (List Int)) (b1:(El T66)×(List Int)×Int):Option (Int×Int×(El T66)×(List (List Int))) :=
  ck (0≤thread) <| ck (thread<(y_5.length:Int)) <| some (b1.2.2,0,b1.1,(y_5.set thread.toNat b1.2.1))
noncomputable def linealref06_Yard_Sweep_b1 (thread:Int) (y:Int) (y_2:Int) (y_4:List (Int×Int)) (y_5:List (List Int)) (st1:(El T66)×(List Int)×Int×Int):Option (Step ((El T66)×(List Int)×Int×Int) ((El T66)×(List Int)×Int)) :=
  ck (0≤thread) <| ck (thread<(y_5.length:Int)) <| if (decide (st1.2.2.2<((y_5.getD thread.toNat []).length:Int)))=true then
  ck (0≤thread) <| ck (thread<(y_5.length:Int)) <| ck (0≤st1.2.2.2) <| ck (st1.2.2.2<((y_5.getD thread.toNat []).length:Int)) <| (linealref06_Yard_IsHeld ((y_5.getD thread.toNat []).getD st1.2.2.2.toNat 0) y y_2 st1.1 y_4 y_5).bind fun v0_2 =>
  if v0_2=true then
  ck ((st1.2.1.length+1)*8≤140737488355328) <| ck (InK .i64 (st1.2.2.2+1)) <| some (.next (st1.1,(st1.2.1++[((y_5.getD thread.toNat []).getD st1.2.2.2.toNat 0)]),st1.2.2.1,(st1.2.2.2+1)))
  else
  ck (0≤((y_5.getD thread.toNat []).getD st1.2.2.2.toNat 0)) <| ck (((y_5.getD thread.toNat []).getD st1.2.2.2.toNat 0)<8) <| ck (InK .i64 (st1.2.2.1+1)) <| ck (InK .i64 (st1.2.2.2+1)) <| some (.next ((setInt T66 st1.1 (((y_5.getD thread.toNat []).getD st1.2.2.2.toNat 0).toNat*1) 0),st1.2.1,(st1.2.2.1+1),(st1.2.2.2+1)))
  else
  some (.done (st1.1,st1.2.1,st1.2.2.1))
noncomputable def linealref06_Yard_Sweep (thread:Int) (y:Int) (y_2:Int) (y_3:(El T66)) (y_4:List (Int×Int)) (y_5:List (List Int)):Option (Int×Int×(El T66)×(List (List Int))) :=
  (linealref06_Yard_isThread thread y y_2 y_3 y_4 y_5).bind fun v0 =>
  if (!v0)=true then
  some (0,2,y_3,y_5)
  else
  (whileO (linealref06_Yard_Sweep_b1 thread y y_2 y_4 y_5) (y_3,[],0,0)).bind fun r1 =>
  linealref06_Yard_Sweep_k1 thread y_5 r1
/- (*lineal/linealref06.Yard).PutBy -/
noncomputable def linealref06_Yard_PutBy (thread:Int) (node:Int) (y:Int) (y_2:Int) (y_3:(El T66)) (y_4:List (Int×Int)) (y_5:List (List Int)):Option (Int×Int×(El T66)×(List (List Int))) :=
  (linealref06_Yard_isThread thread y y_2 y_3 y_4 y_5).bind fun v0 =>
  if (!v0)=true then
  some (0,2,y_3,y_5)
  else
  (linealref06_isNode node).bind fun v0_2 =>
  if (!v0_2)=true then
  some (0,2,y_3,y_5)
  else
  ck (0≤node) <| ck (node<8) <| if (!(decide ((intAt T66 y_3 (node.toNat*1))=1)))=true then
  some (0,5,y_3,y_5)
  else
  ck (0≤node) <| ck (node<8) <| ck (0≤thread) <| ck (thread<(y_5.length:Int)) <| ck ((y_5.getD thread.toNat []).length*8≤140737488355328) <| ck (((y_5.getD thread.toNat []).length+1)*8≤140737488355328) <| ck (0≤thread) <| ck (thread<(y_5.length:Int)) <| ck (0≤thread) <| ck (thread<((y_5.set thread.toNat ((y_5.getD thread.toNat [])++[node])).length:Int)) <| if (decide ((((y_5.set thread.toNat ((y_5.getD thread.toNat [])++[node])).getD thread.toNat []).length:Int)<y_2))=true then
  some (0,0,(setInt T66 y_3 (node.toNat*1) 2),(y_5.set thread.toNat ((y_5.getD thread.toNat [])++[node])))
  else
  (linealref06_Yard_Sweep thread y y_2 (setInt T66 y_3 (node.toNat*1) 2) y_4 (y_5.set thread.toNat ((y_5.getD thread.toNat [])++[node]))).bind fun v0_3 =>
  some v0_3
/- (*lineal/linealref06.Yard).Use -/
noncomputable def linealref06_Yard_Use_k1 (thread:Int) (y_4:List (Int×Int)) (b1:Int):Option (Int×Int) :=
  ck (0≤thread) <| ck (thread<(y_4.length:Int)) <| ck (0≤b1) <| ck (b1<2) <| if (decide (b1=0))=true then
  some ((y_4.getD thread.toNat (0,0)).1,0)
  else
  some ((y_4.getD thread.toNat (0,0)).2,0)
noncomputable def linealref06_Yard_Use (thread:Int) (slot:Int) (y:Int) (y_2:Int) (y_3:(El T66)) (y_4:List (Int×Int)) (y_5:List (List Int)):Option (Int×Int) :=
  (linealref06_Yard_isThread thread y y_2 y_3 y_4 y_5).bind fun v0 =>
  if (!v0)=true then
  some (0,2)
  else
  (linealref06_isSlot slot).bind fun v0_2 =>
  if (!v0_2)=true then
  some (0,2)
  else
  ck (0≤thread) <| ck (thread<(y_4.length:Int)) <| ck (0≤slot) <| ck (slot<2) <| if (decide (slot=0))=true then
  if (decide ((y_4.getD thread.toNat (0,0)).1<0))=true then
  some (0,5)
  else
  linealref06_Yard_Use_k1 thread y_4 0
  else
  if (decide ((y_4.getD thread.toNat (0,0)).2<0))=true then
  some (0,5)
  else
  linealref06_Yard_Use_k1 thread y_4 1
/- (*lineal/linealref06.Yard).Do -/
noncomputable def linealref06_Yard_Do_k1 (do0:Int) (a:Int) (b:Int) (c:Int) (y:Int) (y_2:Int) (y_3:(El T66)) (y_4:List (Int×Int)) (y_5:List (List Int)):Option (Int×Int×(El T66)×(List (Int×Int))×(List (List Int))) :=
  if (decide (do0=1))=true then
  (linealref06_Yard_Take a y y_2 y_3 y_4 y_5).bind fun v0 =>
  some (v0.1,v0.2.1,v0.2.2,y_4,y_5)
  else
  if (decide (do0=2))=true then
  (linealref06_Yard_Point a b c y y_2 y_3 y_4 y_5).bind fun v0_2 =>
  some (0,v0_2.1,y_3,v0_2.2,y_5)
  else
  if (decide (do0=3))=true then
  (linealref06_Yard_Clear a b y y_2 y_3 y_4 y_5).bind fun v0_3 =>
  some (0,v0_3.1,y_3,v0_3.2,y_5)
  else
  if (decide (do0=4))=true then
  (linealref06_Yard_PutBy a b y y_2 y_3 y_4 y_5).bind fun v0_4 =>
  some (v0_4.1,v0_4.2.1,v0_4.2.2.1,y_4,v0_4.2.2.2)
  else
  if (decide (do0=5))=true then
  (linealref06_Yard_Sweep a y y_2 y_3 y_4 y_5).bind fun v0_5 =>
  some (v0_5.1,v0_5.2.1,v0_5.2.2.1,y_4,v0_5.2.2.2)
  else
  if (decide (do0=6))=true then
  (linealref06_Yard_Use a b y y_2 y_3 y_4 y_5).bind fun v0_6 =>
  some (v0_6.1,v0_6.2,y_3,y_4,y_5)
  else
  some (0,2,y_3,y_4,y_5)
noncomputable def linealref06_Yard_Do (do0:Int) (a:Int) (b:Int) (c:Int) (y:Int) (y_2:Int) (y_3:(El T66)) (y_4:List (Int×Int)) (y_5:List (List Int)):Option (Int×Int×(El T66)×(List (Int×Int))×(List (List Int))) :=
  if (!(decide (do0=2)))=true then
  if (!(decide (c=0)))=true then
  some (0,2,y_3,y_4,y_5)
  else
  if (!(decide (b=0)))=true then
  if (decide (do0=1))=true then
  some (0,2,y_3,y_4,y_5)
  else
  if (decide (do0=5))=true then
  some (0,2,y_3,y_4,y_5)
  else
  linealref06_Yard_Do_k1 do0 a b c y y_2 y_3 y_4 y_5
  else
  linealref06_Yard_Do_k1 do0 a b c y y_2 y_3 y_4 y_5
  else
  if (!(decide (b=0)))=true then
  if (decide (do0=1))=true then
  some (0,2,y_3,y_4,y_5)
  else
  if (decide (do0=5))=true then
  some (0,2,y_3,y_4,y_5)
  else
  linealref06_Yard_Do_k1 do0 a b c y y_2 y_3 y_4 y_5
  else
  linealref06_Yard_Do_k1 do0 a b c y y_2 y_3 y_4 y_5
/- lineal/lineallaw06.HazardPlays -/
/- lineal/lineallaw06.isOne -/
noncomputable def lineallaw06_isOne (e:Int) (threads:Int) (size:Int):Option Bool :=
  (linealref06_IsNew threads size).bind fun v0 =>
  if (!v0)=true then
  some (decide (e=2))
  else
  some false
/- lineal/lineallaw06.isOne -/
noncomputable def lineallaw06_isOne_2 (e:Int) (threads:Int) (size:Int) (y:Int×Int×(El T63)×(El T65)×(El T69)):Option Bool :=
  (linealref06_IsNew threads size).bind fun v0 =>
  if (!v0)=true then
  some false
  else
  some (decide (e=0))
/- (*lineal/linealref06.Yard).State -/
/- (*lineal/linealref06.Yard).List -/
/- (*lineal/linealref06.Yard).Slot -/
/- (*lineal/linealref06.Yard).Count -/
noncomputable def linealref06_Yard_Count_k1 (b1:Int):Option Int :=
  some b1
noncomputable def linealref06_Yard_Count_b1 (state:Int) (y_3:(El T66)) (st1:Int×Int):Option (Step (Int×Int) Int) :=
  if (decide (st1.2<8))=true then
  ck (0≤st1.2) <| ck (st1.2<8) <| if (decide ((intAt T66 y_3 (st1.2.toNat*1))=state))=true then
  ck (InK .i64 (st1.1+1)) <| ck (InK .i64 (st1.2+1)) <| some (.next ((st1.1+1),(st1.2+1)))
  else
  ck (InK .i64 (st1.2+1)) <| some (.next (st1.1,(st1.2+1)))
  else
  some (.done st1.1)
noncomputable def linealref06_Yard_Count (state:Int) (y:Int) (y_2:Int) (y_3:(El T66)) (y_4:List (Int×Int)) (y_5:List (List Int)):Option Int :=
  (whileO (linealref06_Yard_Count_b1 state y_3) (0,0)).bind fun r1 =>
  linealref06_Yard_Count_k1 r1
/- (*lineal/linealref06.Yard).Held -/
noncomputable def linealref06_Yard_Held_k1 (b1:(List Int)):Option ((List Int)) :=
  some b1
noncomputable def linealref06_Yard_Held_b1 (y:Int) (y_2:Int) (y_3:(El T66)) (y_4:List (Int×Int)) (y_5:List (List Int)) (st1:(List Int)×Int):Option (Step ((List Int)×Int) ((List Int))) :=
  if (decide (st1.2<8))=true then
  (linealref06_Yard_IsHeld st1.2 y y_2 y_3 y_4 y_5).bind fun v0 =>
  if v0=true then
  ck ((st1.1.length+1)*8≤140737488355328) <| ck (InK .i64 (st1.2+1)) <| some (.next ((st1.1++[st1.2]),(st1.2+1)))
  else
  ck (InK .i64 (st1.2+1)) <| some (.next (st1.1,(st1.2+1)))
  else
  some (.done st1.1)
noncomputable def linealref06_Yard_Held (y:Int) (y_2:Int) (y_3:(El T66)) (y_4:List (Int×Int)) (y_5:List (List Int)):Option ((List Int)) :=
  (whileO (linealref06_Yard_Held_b1 y y_2 y_3 y_4 y_5) ([],0)).bind fun r1 =>
  linealref06_Yard_Held_k1 r1
/- lineal/lineallaw06.Is -/
noncomputable def lineallaw06_Is_k2:Option Bool :=
  some true
noncomputable def lineallaw06_Is_k3 (st2:Int):Option (Step Int (Sum Unit Unit)) :=
  ck (InK .i64 (st2+1)) <| some (.next (st2+1))
noncomputable def lineallaw06_Is_b3 (y:Int×Int×(El T63)×(El T65)×(El T69)) (r0_4:List (Int×Int)) (st2:Int) (st3:Int):Option (Step Int (Sum Unit Unit)) :=
  if (decide (st3<2))=true then
  (hazard_Yard_Slot st2 st3 y).bind fun v0_11 =>
  if (!(decide (v0_11.2=0)))=true then
  some (.done (Sum.inl ()))
  else
  ck (0≤st2) <| ck (st2<(r0_4.length:Int)) <| ck (0≤st3) <| ck (st3<2) <| if (decide (st3=0))=true then
  if (!(decide (v0_11.1=(r0_4.getD st2.toNat (0,0)).1)))=true then
  some (.done (Sum.inl ()))
  else
  ck (InK .i64 (0+1)) <| some (.next (0+1))
  else
  if (!(decide (v0_11.1=(r0_4.getD st2.toNat (0,0)).2)))=true then
  some (.done (Sum.inl ()))
  else
  ck (InK .i64 (1+1)) <| some (.next (1+1))
  else
  some (.done (Sum.inr ()))
noncomputable def lineallaw06_Is_b2 (y:Int×Int×(El T63)×(El T65)×(El T69)) (r0:Int) (r0_4:List (Int×Int)) (r0_5:List (List Int)) (st2:Int):Option (Step Int (Sum Unit Unit)) :=
  if (decide (st2<r0))=true then
  (hazard_Yard_List st2 y).bind fun v0_9 =>
  if (!(decide (v0_9.2=0)))=true then
  some (.done (Sum.inl ()))
  else
  ck (0≤st2) <| ck (st2<(r0_5.length:Int)) <| (linealref06_SameInts v0_9.1 (r0_5.getD st2.toNat [])).bind fun v0_10 =>
  if (!v0_10)=true then
  some (.done (Sum.inl ()))
  else
  (whileO (lineallaw06_Is_b3 y r0_4 st2) 0).bind fun x=>match x with
  | .inl _=>(some (.done (Sum.inl ())))
  | .inr _=>(lineallaw06_Is_k3 st2)
  else
  some (.done (Sum.inr ()))
noncomputable def lineallaw06_Is_k1 (y:Int×Int×(El T63)×(El T65)×(El T69)) (r0:Int) (r0_4:List (Int×Int)) (r0_5:List (List Int)):Option Bool :=
  (whileO (lineallaw06_Is_b2 y r0 r0_4 r0_5) 0).bind fun x=>match x with
  | .inl _=>(some false)
  | .inr _=>(lineallaw06_Is_k2)
noncomputable def lineallaw06_Is_b1 (y:Int×Int×(El T63)×(El T65)×(El T69)) (r0_3:(El T66)) (st1:Int):Option (Step Int (Sum Unit Unit)) :=
  if (decide (st1<8))=true then
  (hazard_Yard_State st1 y).bind fun v0_8 =>
  if (!(decide (v0_8.2=0)))=true then
  some (.done (Sum.inl ()))
  else
  ck (0≤st1) <| ck (st1<8) <| if (!(decide (v0_8.1=(intAt T66 r0_3 (st1.toNat*1)))))=true then
  some (.done (Sum.inl ()))
  else
  ck (InK .i64 (st1+1)) <| some (.next (st1+1))
  else
  some (.done (Sum.inr ()))
noncomputable def lineallaw06_Is (y:Int×Int×(El T63)×(El T65)×(El T69)) (r0:Int) (r0_2:Int) (r0_3:(El T66)) (r0_4:List (Int×Int)) (r0_5:List (List Int)):Option Bool :=
  (hazard_Yard_By y).bind fun v0 =>
  (linealref06_Yard_Count 2 r0 r0_2 r0_3 r0_4 r0_5).bind fun v0_2 =>
  if (!(decide (v0=v0_2)))=true then
  some false
  else
  (hazard_Yard_Free y).bind fun v0_3 =>
  (linealref06_Yard_Count 0 r0 r0_2 r0_3 r0_4 r0_5).bind fun v0_4 =>
  if (!(decide (v0_3=v0_4)))=true then
  some false
  else
  (hazard_Yard_Held y).bind fun v0_5 =>
  (linealref06_Yard_Held r0 r0_2 r0_3 r0_4 r0_5).bind fun v0_6 =>
  (linealref06_SameInts v0_5 v0_6).bind fun v0_7 =>
  if (!v0_7)=true then
  some false
  else
  (whileO (lineallaw06_Is_b1 y r0_3) 0).bind fun x=>match x with
  | .inl _=>(some false)
  | .inr _=>(lineallaw06_Is_k1 y r0 r0_4 r0_5)
/- lineal/lineallaw06.HazardAsks -/
/- lineal/linealtop.TopHazard -/
/- (*lineal/hazard.Yard).Copy -/
noncomputable def hazard_Yard_Copy (y:Int×Int×(El T63)×(El T65)×(El T69)):Option (Sum Unit Unit) :=
  (hazard_Yard_isNone y).bind fun v0 =>
  if (decide (y.1=0))=true then
  some (Sum.inl ())
  else
  some (Sum.inr ())
/- (*lineal/hazard.Yard).isNone -/
noncomputable def hazard_Yard_isNone_2:Option Unit :=
  some ()
/- (*lineal/hazard.Yard).fails -/
noncomputable def hazard_Yard_fails_8 (c0:Int) (checks:Int):Option Unit :=
  (hazard_Yard_isNone_2).bind fun v0 =>
  some ()
/- (*lineal/hazard.Yard).Take -/
noncomputable def hazard_Yard_Take_2 (thread:Int):Option Unit :=
  (hazard_isThread thread).bind fun v0 =>
  (hazard_Yard_fails_8 thread 2).bind fun v0_2 =>
  some ()
/- (*lineal/hazard.Yard).fails -/
noncomputable def hazard_Yard_fails_9 (c0:Int) (checks:Int) (c0_2:Int) (checks_2:Int) (c0_3:Int) (checks_3:Int) (c0_4:Int) (checks_4:Int):Option Unit :=
  (hazard_Yard_isNone_2).bind fun v0 =>
  some ()
/- (*lineal/hazard.Yard).Point -/
noncomputable def hazard_Yard_Point_2 (thread:Int) (slot:Int) (node:Int):Option Unit :=
  (hazard_isThread thread).bind fun v0 =>
  (hazard_isSlot slot).bind fun v0_2 =>
  (hazard_isNode node).bind fun v0_3 =>
  (hazard_isIn node).bind fun v0_4 =>
  (hazard_Yard_fails_9 thread 2 slot 2 node 2 node 5).bind fun v0_5 =>
  some ()
/- (*lineal/hazard.Yard).fails -/
noncomputable def hazard_Yard_fails_10 (c0:Int) (checks:Int) (c0_2:Int) (checks_2:Int):Option Unit :=
  (hazard_Yard_isNone_2).bind fun v0 =>
  some ()
/- (*lineal/hazard.Yard).Clear -/
noncomputable def hazard_Yard_Clear_2 (thread:Int) (slot:Int):Option Unit :=
  (hazard_isThread thread).bind fun v0 =>
  (hazard_isSlot slot).bind fun v0_2 =>
  (hazard_Yard_fails_10 thread 2 slot 2).bind fun v0_3 =>
  some ()
/- (*lineal/hazard.Yard).fails -/
noncomputable def hazard_Yard_fails_11 (c0:Int) (checks:Int) (c0_2:Int) (checks_2:Int) (c0_3:Int) (checks_3:Int):Option Unit :=
  (hazard_Yard_isNone_2).bind fun v0 =>
  some ()
/- (*lineal/hazard.Yard).PutBy -/
noncomputable def hazard_Yard_PutBy_2 (thread:Int) (node:Int):Option Unit :=
  (hazard_isThread thread).bind fun v0 =>
  (hazard_isNode node).bind fun v0_2 =>
  (hazard_isIn node).bind fun v0_3 =>
  (hazard_Yard_fails_11 thread 2 node 2 node 5).bind fun v0_4 =>
  some ()
/- (*lineal/hazard.Yard).Sweep -/
noncomputable def hazard_Yard_Sweep_2 (thread:Int):Option Unit :=
  (hazard_isThread thread).bind fun v0 =>
  (hazard_Yard_fails_8 thread 2).bind fun v0_2 =>
  some ()
/- (*lineal/hazard.Yard).fails -/
noncomputable def hazard_Yard_fails_12 (c0:Int) (checks:Int) (c0_2:Int) (checks_2:Int) (c0_3:Int) (c1:Int) (checks_3:Int):Option Unit :=
  (hazard_Yard_isNone_2).bind fun v0 =>
  some ()
/- (*lineal/hazard.Yard).Use -/
noncomputable def hazard_Yard_Use_2 (thread:Int) (slot:Int):Option Unit :=
  (hazard_isThread thread).bind fun v0 =>
  (hazard_isSlot slot).bind fun v0_2 =>
  (hazard_points thread slot).bind fun v0_3 =>
  (hazard_Yard_fails_12 thread 2 slot 2 thread slot 5).bind fun v0_4 =>
  some ()
/- (*lineal/hazard.Yard).fails -/
noncomputable def hazard_Yard_fails_13 (c0:Int×Int×Int×Int) (checks:Int):Option Unit :=
  (hazard_Yard_isNone_2).bind fun v0 =>
  some ()
/- (*lineal/hazard.Yard).Do -/
noncomputable def hazard_Yard_Do_2 (d:Int×Int×Int×Int):Option Unit :=
  (hazard_isDeed d).bind fun v0 =>
  (hazard_Yard_fails_13 d 2).bind fun v0_2 =>
  some ()
/- lineal/lineallaw06.called -/
noncomputable def lineallaw06_called (d:Int×Int×Int×Int):Option Unit :=
  if (decide (d.1=1))=true then
  (hazard_Yard_Take_2 d.2.1).bind fun v0 =>
  some ()
  else
  if (decide (d.1=2))=true then
  (hazard_Yard_Point_2 d.2.1 d.2.2.1 d.2.2.2).bind fun v0_2 =>
  some ()
  else
  if (decide (d.1=3))=true then
  (hazard_Yard_Clear_2 d.2.1 d.2.2.1).bind fun v0_3 =>
  some ()
  else
  if (decide (d.1=4))=true then
  (hazard_Yard_PutBy_2 d.2.1 d.2.2.1).bind fun v0_4 =>
  some ()
  else
  if (decide (d.1=5))=true then
  (hazard_Yard_Sweep_2 d.2.1).bind fun v0_5 =>
  some ()
  else
  if (decide (d.1=6))=true then
  (hazard_Yard_Use_2 d.2.1 d.2.2.1).bind fun v0_6 =>
  some ()
  else
  (hazard_Yard_Do_2 d).bind fun v0_7 =>
  some ()
/- lineal/lineallaw06.called -/
noncomputable def lineallaw06_called_2 (d:Int×Int×Int×Int) (y:Int×Int×(El T63)×(El T65)×(El T69)):Option (Int×Int×(El T63)×(El T65)×(El T69)) :=
  if (decide (d.1=1))=true then
  (hazard_Yard_Take d.2.1 y).bind fun v0 =>
  some (v0.1,v0.2.1,v0.2.2,y.2.2.2)
  else
  if (decide (d.1=2))=true then
  (hazard_Yard_Point d.2.1 d.2.2.1 d.2.2.2 y).bind fun v0_2 =>
  some (0,v0_2.1,y.2.2.1,v0_2.2,y.2.2.2.2)
  else
  if (decide (d.1=3))=true then
  (hazard_Yard_Clear d.2.1 d.2.2.1 y).bind fun v0_3 =>
  some (0,v0_3.1,y.2.2.1,v0_3.2,y.2.2.2.2)
  else
  if (decide (d.1=4))=true then
  (hazard_Yard_PutBy d.2.1 d.2.2.1 y).bind fun v0_4 =>
  some (v0_4.1,v0_4.2.1,v0_4.2.2.1,y.2.2.2.1,v0_4.2.2.2)
  else
  if (decide (d.1=5))=true then
  (hazard_Yard_Sweep d.2.1 y).bind fun v0_5 =>
  some (v0_5.1,v0_5.2.1,v0_5.2.2.1,y.2.2.2.1,v0_5.2.2.2)
  else
  if (decide (d.1=6))=true then
  (hazard_Yard_Use d.2.1 d.2.2.1 y).bind fun v0_6 =>
  some (v0_6.1,v0_6.2,y.2.2)
  else
  (hazard_Yard_Do d y).bind fun v0_7 =>
  some v0_7
/- lineal/hazard.Same -/
noncomputable def hazard_Same (y:Int×Int×(El T63)×(El T65)×(El T69)) (z:Int×Int×(El T63)×(El T65)×(El T69)):Option Bool :=
  (hazard_Yard_isNone y).bind fun v0 =>
  if (decide (y.1=0))=true then
  (hazard_Yard_isNone y).bind fun v0_2 =>
  if (decide (y.1=0))=true then
  (hazard_Yard_isNone z).bind fun v0_3 =>
  some (decide (z.1=0))
  else
  some false
  else
  (hazard_Yard_isNone z).bind fun v0_4 =>
  if (decide (z.1=0))=true then
  (hazard_Yard_isNone y).bind fun v0_5 =>
  if (decide (y.1=0))=true then
  (hazard_Yard_isNone z).bind fun v0_6 =>
  some (decide (z.1=0))
  else
  some false
  else
  if (decide (y.1=z.1))=true then
  if (decide (y.2.1=z.2.1))=true then
  ck (okD T63 y.2.2.1) <| ck (okD T63 z.2.2.1) <| if (decide (y.2.2.1=z.2.2.1))=true then
  ck (okD T65 y.2.2.2.1) <| ck (okD T65 z.2.2.2.1) <| if (decide (y.2.2.2.1=z.2.2.2.1))=true then
  ck (okD T69 y.2.2.2.2) <| ck (okD T69 z.2.2.2.2) <| some (decide (y.2.2.2.2=z.2.2.2.2))
  else
  some false
  else
  some false
  else
  some false
  else
  some false
/- lineal/lineallaw06.HazardDeeds -/
noncomputable def lineallaw06_HazardDeeds_k1:Option Bool :=
  (lineallaw06_Sane).bind fun v0_16 =>
  some v0_16
noncomputable def lineallaw06_HazardDeeds_b1 (threads:Int) (size:Int) (deeds:List (Int×Int×Int×Int)) (st1:(El T63)×(El T65)×(El T69)×(El T66)×(List (Int×Int))×(List (List Int))×Int):Option (Step ((El T63)×(El T65)×(El T69)×(El T66)×(List (Int×Int))×(List (List Int))×Int) (Sum Unit Unit)) :=
  if (decide (st1.2.2.2.2.2.2<(deeds.length:Int)))=true then
  ck (0≤st1.2.2.2.2.2.2) <| ck (st1.2.2.2.2.2.2<(deeds.length:Int)) <| (hazard_Yard_Do (deeds.getD st1.2.2.2.2.2.2.toNat (0,0,0,0)) (threads,size,st1.1,st1.2.1,st1.2.2.1)).bind fun v0_12 =>
  (linealref06_Yard_Do (deeds.getD st1.2.2.2.2.2.2.toNat (0,0,0,0)).1 (deeds.getD st1.2.2.2.2.2.2.toNat (0,0,0,0)).2.1 (deeds.getD st1.2.2.2.2.2.2.toNat (0,0,0,0)).2.2.1 (deeds.getD st1.2.2.2.2.2.2.toNat (0,0,0,0)).2.2.2 threads size st1.2.2.2.1 st1.2.2.2.2.1 st1.2.2.2.2.2.1).bind fun v0_13 =>
  if (!(decide (v0_12.1=v0_13.1)))=true then
  some (.done (Sum.inl ()))
  else
  if (!(decide (v0_12.2.1=v0_13.2.1)))=true then
  some (.done (Sum.inl ()))
  else
  (lineallaw06_Is (threads,size,v0_12.2.2) threads size v0_13.2.2.1 v0_13.2.2.2.1 v0_13.2.2.2.2).bind fun v0_14 =>
  if (!v0_14)=true then
  some (.done (Sum.inl ()))
  else
  if (decide (v0_12.2.1=0))=true then
  (lineallaw06_called (deeds.getD st1.2.2.2.2.2.2.toNat (0,0,0,0))).bind fun v0_15 =>
  if (!(decide (0=v0_12.1)))=true then
  some (.done (Sum.inl ()))
  else
  some (.done (Sum.inl ()))
  else
  ck (InK .i64 (st1.2.2.2.2.2.2+1)) <| some (.next (v0_12.2.2.1,v0_12.2.2.2.1,v0_12.2.2.2.2,v0_13.2.2.1,v0_13.2.2.2.1,v0_13.2.2.2.2,(st1.2.2.2.2.2.2+1)))
  else
  some (.done (Sum.inr ()))
noncomputable def lineallaw06_HazardDeeds_k2:Option Bool :=
  (lineallaw06_Sane).bind fun v0_23 =>
  some v0_23
noncomputable def lineallaw06_HazardDeeds_b2 (threads:Int) (size:Int) (deeds:List (Int×Int×Int×Int)) (st2:(El T63)×(El T65)×(El T69)×(El T63)×(El T65)×(El T69)×(El T66)×(List (Int×Int))×(List (List Int))×Int):Option (Step ((El T63)×(El T65)×(El T69)×(El T63)×(El T65)×(El T69)×(El T66)×(List (Int×Int))×(List (List Int))×Int) (Sum Unit Unit)) :=
  if (decide (st2.2.2.2.2.2.2.2.2.2<(deeds.length:Int)))=true then
  ck (0≤st2.2.2.2.2.2.2.2.2.2) <| ck (st2.2.2.2.2.2.2.2.2.2<(deeds.length:Int)) <| (hazard_Yard_Do (deeds.getD st2.2.2.2.2.2.2.2.2.2.toNat (0,0,0,0)) (threads,size,st2.1,st2.2.1,st2.2.2.1)).bind fun v0_18 =>
  (linealref06_Yard_Do (deeds.getD st2.2.2.2.2.2.2.2.2.2.toNat (0,0,0,0)).1 (deeds.getD st2.2.2.2.2.2.2.2.2.2.toNat (0,0,0,0)).2.1 (deeds.getD st2.2.2.2.2.2.2.2.2.2.toNat (0,0,0,0)).2.2.1 (deeds.getD st2.2.2.2.2.2.2.2.2.2.toNat (0,0,0,0)).2.2.2 threads size st2.2.2.2.2.2.2.1 st2.2.2.2.2.2.2.2.1 st2.2.2.2.2.2.2.2.2.1).bind fun v0_19 =>
  if (!(decide (v0_18.1=v0_19.1)))=true then
  some (.done (Sum.inl ()))
  else
  if (!(decide (v0_18.2.1=v0_19.2.1)))=true then
  some (.done (Sum.inl ()))
  else
  (lineallaw06_Is (threads,size,v0_18.2.2) threads size v0_19.2.2.1 v0_19.2.2.2.1 v0_19.2.2.2.2).bind fun v0_20 =>
  if (!v0_20)=true then
  some (.done (Sum.inl ()))
  else
  if (decide (v0_18.2.1=0))=true then
  (lineallaw06_called_2 (deeds.getD st2.2.2.2.2.2.2.2.2.2.toNat (0,0,0,0)) (threads,size,st2.2.2.2.1,st2.2.2.2.2.1,st2.2.2.2.2.2.1)).bind fun v0_21 =>
  if (!(decide (v0_21.1=v0_18.1)))=true then
  some (.done (Sum.inl ()))
  else
  if (!(decide (v0_21.2.1=0)))=true then
  some (.done (Sum.inl ()))
  else
  (hazard_Same (threads,size,v0_18.2.2) (threads,size,v0_21.2.2)).bind fun v0_22 =>
  if (!v0_22)=true then
  some (.done (Sum.inl ()))
  else
  ck (InK .i64 (st2.2.2.2.2.2.2.2.2.2+1)) <| some (.next (v0_18.2.2.1,v0_18.2.2.2.1,v0_18.2.2.2.2,v0_21.2.2.1,v0_21.2.2.2.1,v0_21.2.2.2.2,v0_19.2.2.1,v0_19.2.2.2.1,v0_19.2.2.2.2,(st2.2.2.2.2.2.2.2.2.2+1)))
  else
  ck (InK .i64 (st2.2.2.2.2.2.2.2.2.2+1)) <| some (.next (v0_18.2.2.1,v0_18.2.2.2.1,v0_18.2.2.2.2,st2.2.2.2.1,st2.2.2.2.2.1,st2.2.2.2.2.2.1,v0_19.2.2.1,v0_19.2.2.2.1,v0_19.2.2.2.2,(st2.2.2.2.2.2.2.2.2.2+1)))
  else
  some (.done (Sum.inr ()))
noncomputable def lineallaw06_HazardDeeds (threads:Int) (size:Int) (deeds:List (Int×Int×Int×Int)):Option Bool :=
  (hazard_New threads size).bind fun v0=>match v0 with
  | .inl v0_2=>((lineallaw06_isOne 2 threads size).bind fun v0_4 =>
  if (!v0_4)=true then
  some false
  else
  (lineallaw06_Sane).bind fun v0_5 =>
  some v0_5)
  | .inr v0_3=>((lineallaw06_isOne_2 0 threads size (threads,size,(Ty.dflt T63),v0_3,(Ty.dflt T69))).bind fun v0_6 =>
  if (!v0_6)=true then
  some false
  else
  if (decide (100<(deeds.length:Int)))=true then
  (lineallaw06_Sane).bind fun v0_7 =>
  some v0_7
  else
  (hazard_Yard_Copy (threads,size,(Ty.dflt T63),v0_3,(Ty.dflt T69))).bind fun v0_8=>match v0_8 with
  | .inl v0_9=>((linealref06_New threads size).bind fun v0_11 =>
  (whileO (lineallaw06_HazardDeeds_b1 threads size deeds) ((Ty.dflt T63),v0_3,(Ty.dflt T69),(Ty.dflt T66),v0_11.1,v0_11.2,0)).bind fun x=>match x with
  | .inl _=>(some false)
  | .inr _=>(lineallaw06_HazardDeeds_k1))
  | .inr v0_10=>((linealref06_New threads size).bind fun v0_17 =>
  (whileO (lineallaw06_HazardDeeds_b2 threads size deeds) ((Ty.dflt T63),v0_3,(Ty.dflt T69),(Ty.dflt T63),v0_3,(Ty.dflt T69),(Ty.dflt T66),v0_17.1,v0_17.2,0)).bind fun x=>match x with
  | .inl _=>(some false)
  | .inr _=>(lineallaw06_HazardDeeds_k2)))
/- (*lineal/hazard.Yard).Copy -/
/- lineal/hazard.Same -/
/- lineal/hazard.Same -/
/- lineal/hazard.Same -/
/- lineal/lineallaw06.HazardCopies -/
/- (*lineal/hazard.Yard).fails -/
/- (*lineal/hazard.Yard).State -/
/- (*lineal/hazard.Yard).List -/
/- (*lineal/hazard.Yard).Slot -/
/- (*lineal/hazard.Yard).count -/
/- (*lineal/hazard.Yard).By -/
/- (*lineal/hazard.Yard).Free -/
/- (*lineal/hazard.Yard).Held -/
/- lineal/lineallaw06.HazardNils -/
end Go.Proofs.YtcckpmeepcoafaaDoor
