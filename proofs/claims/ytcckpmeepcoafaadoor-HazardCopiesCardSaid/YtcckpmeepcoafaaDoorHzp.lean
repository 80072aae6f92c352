/-
  Made by wip/tool/dc.py out of the print of the program: pure functions.
-/
import Derived.Test.YtcckpmeepcoafaaDoorTyz
namespace Go.Proofs.YtcckpmeepcoafaaDoor
open Go.RowKit

set_option linter.unusedSimpArgs false
set_option linter.unusedVariables false
set_option linter.constructorNameAsVariable false

abbrev ZS : Type := List (Int × Int × (List (List Int)) × (List (List Int)))
abbrev ZH : Type := List (Int × Int × Int × Int × Int × Int)
abbrev ZM : Type := List (((Int × Int) × Int) × Int)
/- lineal/hazard.New -/
noncomputable def hazard_New_k1 (b2_2 : (El T65)) : Option (Sum Unit ((El T65))) :=
  some (Sum.inr b2_2)
noncomputable def hazard_New_k2 (st1 : (El T65) × Int) (b2 : (El T65)) : Option (Step ((El T65) × Int) ((El T65))) :=
  ck (InK .i64 (st1.2 + 1)) <| some (.next (b2, (st1.2 + 1)))
noncomputable def hazard_New_b2 (st1 : (El T65) × Int) (st2 : (El T65) × Int) : Option (Step ((El T65) × Int) ((El T65))) :=
  if (decide (st2.2 < 2)) = true then
  ck (0 ≤ st1.2) <| ck (st1.2 < 4) <| ck (0 ≤ st2.2) <| ck (st2.2 < 2) <| ck (InK .i64 (st2.2 + 1)) <| some (.next ((setInt T65 st2.1 ((st1.2.toNat * 2) + st2.2.toNat * 1) (-1)), (st2.2 + 1)))
  else
  some (.done st2.1)
noncomputable def hazard_New_b1 (st1 : (El T65) × Int) : Option (Step ((El T65) × Int) ((El T65))) :=
  if (decide (st1.2 < 4)) = true then
  (whileO (hazard_New_b2 st1) (st1.1, 0)).bind fun r2 =>
  hazard_New_k2 st1 r2
  else
  some (.done st1.1)
noncomputable def hazard_New (threads : Int) (size : Int) : Option (Sum Unit ((El T65))) :=
  if (decide (threads < 1)) = true then
  some (Sum.inl ())
  else
  if (decide (4 < threads)) = true then
  some (Sum.inl ())
  else
  if (decide (size < 1)) = true then
  some (Sum.inl ())
  else
  if (decide (4 < size)) = true then
  some (Sum.inl ())
  else
  (whileO (hazard_New_b1) ((Ty.dflt T65), 0)).bind fun r1 =>
  hazard_New_k1 r1

/- lineal/hazard.isDeed -/
noncomputable def hazard_isDeed (d : Int × Int × Int × Int) : Option Unit :=
  some ()

/- (*lineal/hazard.Yard).isNone -/
noncomputable def hazard_Yard_isNone (y : Int × Int × (El T63) × (El T65) × (El T69)) : Option Unit :=
  some ()

/- lineal/hazard.isDeed$1 -/
noncomputable def hazard_isDeed_1_k1 : Option Bool :=
  some true
noncomputable def hazard_isDeed_1_b1 (a1 : Int × Int × Int × Int) (st1 : Int) : Option (Step Int (Sum Unit Unit)) :=
  if (decide (st1 < (([a1.2.1, a1.2.2.1, a1.2.2.2].drop (fieldsL.getD (0 + a1.1.toNat * 1) 0).toNat).length : Int))) = true then
  ck (0 ≤ st1) <| ck (st1 < (([a1.2.1, a1.2.2.1, a1.2.2.2].drop (fieldsL.getD (0 + a1.1.toNat * 1) 0).toNat).length : Int)) <| if (!(decide ((([a1.2.1, a1.2.2.1, a1.2.2.2].drop (fieldsL.getD (0 + a1.1.toNat * 1) 0).toNat).getD st1.toNat 0) = 0))) = true then
  some (.done (Sum.inl ()))
  else
  ck (InK .i64 (st1 + 1)) <| some (.next (st1 + 1))
  else
  some (.done (Sum.inr ()))
noncomputable def hazard_isDeed_1 (a1 : Int × Int × Int × Int) (a0 : Int × Int × (El T63) × (El T65) × (El T69)) : Option Bool :=
  if (decide (a1.1 < 1)) = true then
  some false
  else
  if (decide (6 < a1.1)) = true then
  some false
  else
  ck (0 ≤ a1.1) <| ck (a1.1 < 7) <| ck ((0 + a1.1.toNat * 1) < 7) <| ck (0 ≤ (fieldsL.getD (0 + a1.1.toNat * 1) 0)) <| ck ((fieldsL.getD (0 + a1.1.toNat * 1) 0) ≤ 3) <| (whileO (hazard_isDeed_1_b1 a1) 0).bind fun x => match x with
  | .inl _ => (some false)
  | .inr _ => (hazard_isDeed_1_k1)

/- (*lineal/hazard.Yard).fails -/
noncomputable def hazard_Yard_fails_k1 : Option Int :=
  some 0
noncomputable def hazard_Yard_fails (y : Int × Int × (El T63) × (El T65) × (El T69)) (c0 : Int × Int × Int × Int) (checks : Int) : Option Int :=
  (hazard_Yard_isNone y).bind fun v0 =>
  if (decide (y.1 = 0)) = true then
  some 60
  else
  (hazard_isDeed_1 c0 y).bind fun v0_2 =>
  if (!v0_2) = true then
  some checks
  else
  ck (InK .i64 1) <| hazard_Yard_fails_k1

/- lineal/hazard.isThread -/
noncomputable def hazard_isThread (thread : Int) : Option Unit :=
  some ()

/- lineal/hazard.isBelow -/
noncomputable def hazard_isBelow (number : Int) (end0 : Int) : Option Bool :=
  if (decide (0 ≤ number)) = true then
  some (decide (number < end0))
  else
  some false

/- lineal/hazard.isThread$1 -/
noncomputable def hazard_isThread_1 (a1 : Int) (y : Int × Int × (El T63) × (El T65) × (El T69)) : Option Bool :=
  (hazard_isBelow a1 y.1).bind fun v0 =>
  some v0

/- (*lineal/hazard.Yard).fails -/
noncomputable def hazard_Yard_fails_2_k1 : Option Int :=
  some 0
noncomputable def hazard_Yard_fails_2 (y : Int × Int × (El T63) × (El T65) × (El T69)) (c0 : Int) (checks : Int) : Option Int :=
  (hazard_Yard_isNone y).bind fun v0 =>
  if (decide (y.1 = 0)) = true then
  some 60
  else
  (hazard_isThread_1 c0 y).bind fun v0_2 =>
  if (!v0_2) = true then
  some checks
  else
  ck (InK .i64 1) <| hazard_Yard_fails_2_k1

/- slices.Index[[]lineal/hazard.state,lineal/hazard.state] -/
noncomputable def slices_Index_k1 : Option Int :=
  some (-1)
noncomputable def slices_Index_b1 (v0 : Int) (s : Int × Int × (El T63) × (El T65) × (El T69)) (st1 : Int) : Option (Step Int (Sum Int Unit)) :=
  if (decide (st1 < 8)) = true then
  ck (0 ≤ st1) <| ck (st1 < 8) <| if (decide (v0 = (intAt T63 s.2.2.1 st1.toNat))) = true then
  some (.done (Sum.inl st1))
  else
  ck (InK .i64 (st1 + 1)) <| some (.next (st1 + 1))
  else
  some (.done (Sum.inr ()))
noncomputable def slices_Index (v0 : Int) (s : Int × Int × (El T63) × (El T65) × (El T69)) : Option Int :=
  (whileO (slices_Index_b1 v0 s) 0).bind fun x => match x with
  | .inl r1 => (some r1)
  | .inr _ => (slices_Index_k1)

/- (*lineal/hazard.Yard).Take -/
noncomputable def hazard_Yard_Take (thread : Int) (y : Int × Int × (El T63) × (El T65) × (El T69)) : Option (Int × Int × (El T63)) :=
  (hazard_isThread thread).bind fun v0 =>
  (hazard_Yard_fails_2 y thread 2).bind fun v0_2 =>
  if (!(decide (v0_2 = 0))) = true then
  some (0, v0_2, y.2.2.1)
  else
  (slices_Index 0 y).bind fun v0_3 =>
  if (decide (v0_3 < 0)) = true then
  some (0, 5, y.2.2.1)
  else
  ck (0 ≤ v0_3) <| ck (v0_3 < 8) <| some (v0_3, 0, (setInt T63 y.2.2.1 (v0_3.toNat * 1) 1))

/- lineal/hazard.isSlot -/
noncomputable def hazard_isSlot (slot : Int) : Option Unit :=
  some ()

/- lineal/hazard.isNode -/
noncomputable def hazard_isNode (node : Int) : Option Unit :=
  some ()

/- lineal/hazard.isIn -/
noncomputable def hazard_isIn (node : Int) : Option Unit :=
  some ()

/- lineal/hazard.isSlot$1 -/
noncomputable def hazard_isSlot_1 (a1 : Int) (a0 : Int × Int × (El T63) × (El T65) × (El T69)) : Option Bool :=
  (hazard_isBelow a1 2).bind fun v0 =>
  some v0

/- lineal/hazard.isNode$1 -/
noncomputable def hazard_isNode_1 (a1 : Int) (a0 : Int × Int × (El T63) × (El T65) × (El T69)) : Option Bool :=
  (hazard_isBelow a1 8).bind fun v0 =>
  some v0

/- lineal/hazard.isIn$1 -/
noncomputable def hazard_isIn_1 (a1 : Int) (y : Int × Int × (El T63) × (El T65) × (El T69)) : Option Unit :=
  ck (0 ≤ a1) <| ck (a1 < 8) <| some ()

/- (*lineal/hazard.Yard).fails -/
noncomputable def hazard_Yard_fails_3_k1 : Option Int :=
  some 0
noncomputable def hazard_Yard_fails_3 (y : Int × Int × (El T63) × (El T65) × (El T69)) (c0 : Int) (checks : Int) (c0_2 : Int) (checks_2 : Int) (c0_3 : Int) (checks_3 : Int) (c0_4 : Int) (checks_4 : Int) : Option Int :=
  (hazard_Yard_isNone y).bind fun v0 =>
  if (decide (y.1 = 0)) = true then
  some 60
  else
  (hazard_isThread_1 c0 y).bind fun v0_2 =>
  if (!v0_2) = true then
  some checks
  else
  ck (InK .i64 1) <| (hazard_isSlot_1 c0_2 y).bind fun v0_3 =>
  if (!v0_3) = true then
  some checks_2
  else
  ck (InK .i64 2) <| (hazard_isNode_1 c0_3 y).bind fun v0_4 =>
  if (!v0_4) = true then
  some checks_3
  else
  ck (InK .i64 3) <| (hazard_isIn_1 c0_4 y).bind fun v0_5 =>
  if (!(decide ((intAt T63 y.2.2.1 (c0_4.toNat * 1)) = 1))) = true then
  some checks_4
  else
  ck (InK .i64 4) <| hazard_Yard_fails_3_k1

/- (*lineal/hazard.Yard).Point -/
noncomputable def hazard_Yard_Point (thread : Int) (slot : Int) (node : Int) (y : Int × Int × (El T63) × (El T65) × (El T69)) : Option (Int × (El T65)) :=
  (hazard_isThread thread).bind fun v0 =>
  (hazard_isSlot slot).bind fun v0_2 =>
  (hazard_isNode node).bind fun v0_3 =>
  (hazard_isIn node).bind fun v0_4 =>
  (hazard_Yard_fails_3 y thread 2 slot 2 node 2 node 5).bind fun v0_5 =>
  if (!(decide (v0_5 = 0))) = true then
  some (v0_5, y.2.2.2.1)
  else
  ck (0 ≤ thread) <| ck (thread < 4) <| ck (0 ≤ slot) <| ck (slot < 2) <| some (0, (setInt T65 y.2.2.2.1 ((thread.toNat * 2) + slot.toNat * 1) node))

/- (*lineal/hazard.Yard).fails -/
noncomputable def hazard_Yard_fails_4_k1 : Option Int :=
  some 0
noncomputable def hazard_Yard_fails_4 (y : Int × Int × (El T63) × (El T65) × (El T69)) (c0 : Int) (checks : Int) (c0_2 : Int) (checks_2 : Int) : Option Int :=
  (hazard_Yard_isNone y).bind fun v0 =>
  if (decide (y.1 = 0)) = true then
  some 60
  else
  (hazard_isThread_1 c0 y).bind fun v0_2 =>
  if (!v0_2) = true then
  some checks
  else
  ck (InK .i64 1) <| (hazard_isSlot_1 c0_2 y).bind fun v0_3 =>
  if (!v0_3) = true then
  some checks_2
  else
  ck (InK .i64 2) <| hazard_Yard_fails_4_k1

/- (*lineal/hazard.Yard).Clear -/
noncomputable def hazard_Yard_Clear (thread : Int) (slot : Int) (y : Int × Int × (El T63) × (El T65) × (El T69)) : Option (Int × (El T65)) :=
  (hazard_isThread thread).bind fun v0 =>
  (hazard_isSlot slot).bind fun v0_2 =>
  (hazard_Yard_fails_4 y thread 2 slot 2).bind fun v0_3 =>
  if (!(decide (v0_3 = 0))) = true then
  some (v0_3, y.2.2.2.1)
  else
  ck (0 ≤ thread) <| ck (thread < 4) <| ck (0 ≤ slot) <| ck (slot < 2) <| some (0, (setInt T65 y.2.2.2.1 ((thread.toNat * 2) + slot.toNat * 1) (-1)))

/- (*lineal/hazard.Yard).fails -/
noncomputable def hazard_Yard_fails_5_k1 : Option Int :=
  some 0
noncomputable def hazard_Yard_fails_5 (y : Int × Int × (El T63) × (El T65) × (El T69)) (c0 : Int) (checks : Int) (c0_2 : Int) (checks_2 : Int) (c0_3 : Int) (checks_3 : Int) : Option Int :=
  (hazard_Yard_isNone y).bind fun v0 =>
  if (decide (y.1 = 0)) = true then
  some 60
  else
  (hazard_isThread_1 c0 y).bind fun v0_2 =>
  if (!v0_2) = true then
  some checks
  else
  ck (InK .i64 1) <| (hazard_isNode_1 c0_2 y).bind fun v0_3 =>
  if (!v0_3) = true then
  some checks_2
  else
  ck (InK .i64 2) <| (hazard_isIn_1 c0_3 y).bind fun v0_4 =>
  if (!(decide ((intAt T63 y.2.2.1 (c0_3.toNat * 1)) = 1))) = true then
  some checks_3
  else
  ck (InK .i64 3) <| hazard_Yard_fails_5_k1

/- (*lineal/hazard.list).add -/
noncomputable def hazard_list_add (l : Nat) (node : Int) (l_2 : Int × Int × (El T63) × (El T65) × (El T69)) : Option Unit :=
  ck (l < 36) <| ck (0 ≤ (intAt T69 l_2.2.2.2.2 l)) <| ck ((intAt T69 l_2.2.2.2.2 l) < 8) <| ck (((l + 1) + (intAt T69 l_2.2.2.2.2 l).toNat * 1) < 36) <| ck (l < 36) <| ck (InK .i64 ((intAt T69 (setInt T69 l_2.2.2.2.2 ((l + 1) + (intAt T69 l_2.2.2.2.2 l).toNat * 1) node) l) + 1)) <| ck (l < 36) <| some ()

/- slices.Clone[[]int,int] -/
noncomputable def slices_Clone (s : List Int) : Option ((List Int)) :=
  ck (s.length * 8 ≤ 140737488355328) <| some s

/- (lineal/hazard.list).all -/
noncomputable def hazard_list_all (l : Int × (El T66)) : Option ((List Int)) :=
  ck (0 ≤ l.1) <| ck (l.1 ≤ 8) <| (slices_Clone ((rowX T66 l.2).take l.1.toNat)).bind fun v0 =>
  some v0

/- slices.Index[[]int,int] -/
noncomputable def slices_Index_2_k1 : Option Int :=
  some (-1)
noncomputable def slices_Index_2_b1 (v0 : Int) (s : Int × Int) (st1 : Int) : Option (Step Int (Sum Int Unit)) :=
  if (decide (st1 < 2)) = true then
  ck (0 ≤ st1) <| ck (st1 < 2) <| if (decide (st1 = 0)) = true then
  if (decide (v0 = s.1)) = true then
  some (.done (Sum.inl 0))
  else
  ck (InK .i64 (0 + 1)) <| some (.next (0 + 1))
  else
  if (decide (v0 = s.2)) = true then
  some (.done (Sum.inl 1))
  else
  ck (InK .i64 (1 + 1)) <| some (.next (1 + 1))
  else
  some (.done (Sum.inr ()))
noncomputable def slices_Index_2 (v0 : Int) (s : Int × Int) : Option Int :=
  (whileO (slices_Index_2_b1 v0 s) 0).bind fun x => match x with
  | .inl r1 => (some r1)
  | .inr _ => (slices_Index_2_k1)

/- slices.Contains[[]int,int] -/
noncomputable def slices_Contains (v0 : Int) (s : Int × Int) : Option Bool :=
  (slices_Index_2 v0 s).bind fun v0_2 =>
  some (decide (0 ≤ v0_2))

/- (*lineal/hazard.Yard).isHeld -/
noncomputable def hazard_Yard_isHeld_k1 : Option Bool :=
  some false
noncomputable def hazard_Yard_isHeld_b1 (node : Int) (y : Int × Int × (El T63) × (El T65) × (El T69)) (st1 : Int) : Option (Step Int (Sum Unit Unit)) :=
  if (decide (st1 < 4)) = true then
  ck (0 ≤ st1) <| ck (st1 < 4) <| (slices_Contains node ((intAt T65 y.2.2.2.1 (st1.toNat * 2)), (intAt T65 y.2.2.2.1 ((st1.toNat * 2) + 1)))).bind fun v0 =>
  if v0 = true then
  some (.done (Sum.inl ()))
  else
  ck (InK .i64 (st1 + 1)) <| some (.next (st1 + 1))
  else
  some (.done (Sum.inr ()))
noncomputable def hazard_Yard_isHeld (node : Int) (y : Int × Int × (El T63) × (El T65) × (El T69)) : Option Bool :=
  (whileO (hazard_Yard_isHeld_b1 node y) 0).bind fun x => match x with
  | .inl _ => (some true)
  | .inr _ => (hazard_Yard_isHeld_k1)

/- (*lineal/hazard.list).add -/
noncomputable def hazard_list_add_2 (node : Int) (l : Int × (El T66)) : Option Unit :=
  ck (0 ≤ l.1) <| ck (l.1 < 8) <| ck (InK .i64 (l.1 + 1)) <| some ()

/- (*lineal/hazard.Yard).sweep -/
noncomputable def hazard_Yard_sweep_k1 (thread : Int) (y : Int × Int × (El T63) × (El T65) × (El T69)) (v0 : (List Int)) (b1 : (El T63) × Int × (El T66)) : Option (Int × (El T63) × (El T69)) :=
  ck (0 ≤ thread) <| ck (thread < 4) <| ck (InK .i64 ((v0.length : Int) - b1.2.1)) <| some (((v0.length : Int) - b1.2.1), b1.1, (putX T69 (.pair (.int .i64) T66) y.2.2.2.2 (thread.toNat * 9) b1.2))
noncomputable def hazard_Yard_sweep_b1 (y : Int × Int × (El T63) × (El T65) × (El T69)) (v0 : (List Int)) (st1 : (El T63) × Int × (El T66) × Int) : Option (Step ((El T63) × Int × (El T66) × Int) ((El T63) × Int × (El T66))) :=
  if (decide (st1.2.2.2 < (v0.length : Int))) = true then
  ck (0 ≤ st1.2.2.2) <| ck (st1.2.2.2 < (v0.length : Int)) <| (hazard_Yard_isHeld (v0.getD st1.2.2.2.toNat 0) (y.1, y.2.1, st1.1, y.2.2.2)).bind fun v0_2 =>
  if v0_2 = true then
  (hazard_list_add_2 (v0.getD st1.2.2.2.toNat 0) (st1.2.1, st1.2.2.1)).bind fun v0_3 =>
  ck (InK .i64 (st1.2.2.2 + 1)) <| some (.next (st1.1, (st1.2.1 + 1), (setInt T66 st1.2.2.1 (st1.2.1.toNat * 1) (v0.getD st1.2.2.2.toNat 0)), (st1.2.2.2 + 1)))
  else
  ck (0 ≤ (v0.getD st1.2.2.2.toNat 0)) <| ck ((v0.getD st1.2.2.2.toNat 0) < 8) <| ck (InK .i64 (st1.2.2.2 + 1)) <| some (.next ((setInt T63 st1.1 ((v0.getD st1.2.2.2.toNat 0).toNat * 1) 0), st1.2.1, st1.2.2.1, (st1.2.2.2 + 1)))
  else
  some (.done (st1.1, st1.2.1, st1.2.2.1))
noncomputable def hazard_Yard_sweep (thread : Int) (y : Int × Int × (El T63) × (El T65) × (El T69)) : Option (Int × (El T63) × (El T69)) :=
  ck (0 ≤ thread) <| ck (thread < 4) <| (hazard_list_all ((intAt T69 y.2.2.2.2 (thread.toNat * 9)), (subX T69 y.2.2.2.2 T66 ((thread.toNat * 9) + 1)))).bind fun v0 =>
  (whileO (hazard_Yard_sweep_b1 y v0) (y.2.2.1, 0, (Ty.dflt T66), 0)).bind fun r1 =>
  hazard_Yard_sweep_k1 thread y v0 r1

/- (*lineal/hazard.Yard).PutBy -/
noncomputable def hazard_Yard_PutBy (thread : Int) (node : Int) (y : Int × Int × (El T63) × (El T65) × (El T69)) : Option (Int × Int × (El T63) × (El T69)) :=
  (hazard_isThread thread).bind fun v0 =>
  (hazard_isNode node).bind fun v0_2 =>
  (hazard_isIn node).bind fun v0_3 =>
  (hazard_Yard_fails_5 y thread 2 node 2 node 5).bind fun v0_4 =>
  if (!(decide (v0_4 = 0))) = true then
  some (0, v0_4, y.2.2.1, y.2.2.2.2)
  else
  ck (0 ≤ node) <| ck (node < 8) <| ck (0 ≤ thread) <| ck (thread < 4) <| (hazard_list_add (thread.toNat * 9) node (y.1, y.2.1, (setInt T63 y.2.2.1 (node.toNat * 1) 2), y.2.2.2)).bind fun v0_5 =>
  ck (0 ≤ thread) <| ck (thread < 4) <| if (decide ((intAt T69 (setInt T69 (setInt T69 y.2.2.2.2 (((thread.toNat * 9) + 1) + (intAt T69 y.2.2.2.2 (thread.toNat * 9)).toNat * 1) node) (thread.toNat * 9) ((intAt T69 (setInt T69 y.2.2.2.2 (((thread.toNat * 9) + 1) + (intAt T69 y.2.2.2.2 (thread.toNat * 9)).toNat * 1) node) (thread.toNat * 9)) + 1)) (thread.toNat * 9)) < y.2.1)) = true then
  some (0, 0, (setInt T63 y.2.2.1 (node.toNat * 1) 2), (setInt T69 (setInt T69 y.2.2.2.2 (((thread.toNat * 9) + 1) + (intAt T69 y.2.2.2.2 (thread.toNat * 9)).toNat * 1) node) (thread.toNat * 9) ((intAt T69 (setInt T69 y.2.2.2.2 (((thread.toNat * 9) + 1) + (intAt T69 y.2.2.2.2 (thread.toNat * 9)).toNat * 1) node) (thread.toNat * 9)) + 1)))
  else
  (hazard_Yard_sweep thread (y.1, y.2.1, (setInt T63 y.2.2.1 (node.toNat * 1) 2), y.2.2.2.1, (setInt T69 (setInt T69 y.2.2.2.2 (((thread.toNat * 9) + 1) + (intAt T69 y.2.2.2.2 (thread.toNat * 9)).toNat * 1) node) (thread.toNat * 9) ((intAt T69 (setInt T69 y.2.2.2.2 (((thread.toNat * 9) + 1) + (intAt T69 y.2.2.2.2 (thread.toNat * 9)).toNat * 1) node) (thread.toNat * 9)) + 1)))).bind fun v0_6 =>
  some (v0_6.1, 0, v0_6.2)

/- (*lineal/hazard.Yard).Sweep -/
noncomputable def hazard_Yard_Sweep (thread : Int) (y : Int × Int × (El T63) × (El T65) × (El T69)) : Option (Int × Int × (El T63) × (El T69)) :=
  (hazard_isThread thread).bind fun v0 =>
  (hazard_Yard_fails_2 y thread 2).bind fun v0_2 =>
  if (!(decide (v0_2 = 0))) = true then
  some (0, v0_2, y.2.2.1, y.2.2.2.2)
  else
  (hazard_Yard_sweep thread y).bind fun v0_3 =>
  some (v0_3.1, 0, v0_3.2)

/- lineal/hazard.points -/
noncomputable def hazard_points (thread : Int) (slot : Int) : Option Unit :=
  some ()

/- lineal/hazard.points$1 -/
noncomputable def hazard_points_1 (a1 : Int) (a2 : Int) (y : Int × Int × (El T63) × (El T65) × (El T69)) : Option Unit :=
  ck (0 ≤ a1) <| ck (a1 < 4) <| ck (0 ≤ a2) <| ck (a2 < 2) <| some ()

/- (*lineal/hazard.Yard).fails -/
noncomputable def hazard_Yard_fails_6_k1 : Option Int :=
  some 0
noncomputable def hazard_Yard_fails_6 (y : Int × Int × (El T63) × (El T65) × (El T69)) (c0 : Int) (checks : Int) (c0_2 : Int) (checks_2 : Int) (c0_3 : Int) (c1 : Int) (checks_3 : Int) : Option Int :=
  (hazard_Yard_isNone y).bind fun v0 =>
  if (decide (y.1 = 0)) = true then
  some 60
  else
  (hazard_isThread_1 c0 y).bind fun v0_2 =>
  if (!v0_2) = true then
  some checks
  else
  ck (InK .i64 1) <| (hazard_isSlot_1 c0_2 y).bind fun v0_3 =>
  if (!v0_3) = true then
  some checks_2
  else
  ck (InK .i64 2) <| (hazard_points_1 c0_3 c1 y).bind fun v0_4 =>
  if (!(!(decide ((intAt T65 y.2.2.2.1 ((c0_3.toNat * 2) + c1.toNat * 1)) = (-1))))) = true then
  some checks_3
  else
  ck (InK .i64 3) <| hazard_Yard_fails_6_k1

/- (*lineal/hazard.Yard).Use -/
noncomputable def hazard_Yard_Use (thread : Int) (slot : Int) (y : Int × Int × (El T63) × (El T65) × (El T69)) : Option (Int × Int) :=
  (hazard_isThread thread).bind fun v0 =>
  (hazard_isSlot slot).bind fun v0_2 =>
  (hazard_points thread slot).bind fun v0_3 =>
  (hazard_Yard_fails_6 y thread 2 slot 2 thread slot 5).bind fun v0_4 =>
  if (!(decide (v0_4 = 0))) = true then
  some (0, v0_4)
  else
  ck (0 ≤ thread) <| ck (thread < 4) <| ck (0 ≤ slot) <| ck (slot < 2) <| some ((intAt T65 y.2.2.2.1 ((thread.toNat * 2) + slot.toNat * 1)), 0)

/- (*lineal/hazard.Yard).Do -/
noncomputable def hazard_Yard_Do (d : Int × Int × Int × Int) (y : Int × Int × (El T63) × (El T65) × (El T69)) : Option (Int × Int × (El T63) × (El T65) × (El T69)) :=
  (hazard_isDeed d).bind fun v0 =>
  (hazard_Yard_fails y d 2).bind fun v0_2 =>
  if (!(decide (v0_2 = 0))) = true then
  some (0, v0_2, y.2.2)
  else
  if (decide (d.1 = 1)) = true then
  (hazard_Yard_Take d.2.1 y).bind fun v0_3 =>
  some (v0_3.1, v0_3.2.1, v0_3.2.2, y.2.2.2)
  else
  if (decide (d.1 = 2)) = true then
  (hazard_Yard_Point d.2.1 d.2.2.1 d.2.2.2 y).bind fun v0_4 =>
  some (0, v0_4.1, y.2.2.1, v0_4.2, y.2.2.2.2)
  else
  if (decide (d.1 = 3)) = true then
  (hazard_Yard_Clear d.2.1 d.2.2.1 y).bind fun v0_5 =>
  some (0, v0_5.1, y.2.2.1, v0_5.2, y.2.2.2.2)
  else
  if (decide (d.1 = 4)) = true then
  (hazard_Yard_PutBy d.2.1 d.2.2.1 y).bind fun v0_6 =>
  some (v0_6.1, v0_6.2.1, v0_6.2.2.1, y.2.2.2.1, v0_6.2.2.2)
  else
  if (decide (d.1 = 5)) = true then
  (hazard_Yard_Sweep d.2.1 y).bind fun v0_7 =>
  some (v0_7.1, v0_7.2.1, v0_7.2.2.1, y.2.2.2.1, v0_7.2.2.2)
  else
  (hazard_Yard_Use d.2.1 d.2.2.1 y).bind fun v0_8 =>
  some (v0_8.1, v0_8.2, y.2.2)

/- lineal/hazard.Play -/
noncomputable def hazard_Play_k1 (b1 : (List Int)) : Option ((List Int) × Int) :=
  some (b1, 0)
noncomputable def hazard_Play_b1 (threads : Int) (size : Int) (deeds : List (Int × Int × Int × Int)) (st1 : (El T63) × (El T65) × (El T69) × (List Int) × Int) : Option (Step ((El T63) × (El T65) × (El T69) × (List Int) × Int) ((List Int))) :=
  if (decide (st1.2.2.2.2 < (deeds.length : Int))) = true then
  ck (0 ≤ st1.2.2.2.2) <| ck (st1.2.2.2.2 < (deeds.length : Int)) <| (hazard_Yard_Do (deeds.getD st1.2.2.2.2.toNat (0, 0, 0, 0)) (threads, size, st1.1, st1.2.1, st1.2.2.1)).bind fun v0_4 =>
  if (!(decide (v0_4.2.1 = 0))) = true then
  ck (InK .i64 (-v0_4.2.1)) <| ck ((st1.2.2.2.1.length + 1) * 8 ≤ 140737488355328) <| ck (InK .i64 (st1.2.2.2.2 + 1)) <| some (.next (v0_4.2.2.1, v0_4.2.2.2.1, v0_4.2.2.2.2, (st1.2.2.2.1 ++ [(-v0_4.2.1)]), (st1.2.2.2.2 + 1)))
  else
  ck ((st1.2.2.2.1.length + 1) * 8 ≤ 140737488355328) <| ck (InK .i64 (st1.2.2.2.2 + 1)) <| some (.next (v0_4.2.2.1, v0_4.2.2.2.1, v0_4.2.2.2.2, (st1.2.2.2.1 ++ [v0_4.1]), (st1.2.2.2.2 + 1)))
  else
  some (.done st1.2.2.2.1)
noncomputable def hazard_Play (threads : Int) (size : Int) (deeds : List (Int × Int × Int × Int)) : Option ((List Int) × Int) :=
  (hazard_New threads size).bind fun v0 => match v0 with
  | .inl v0_2 => (some ([], 2))
  | .inr v0_3 => (if (decide (100 < (deeds.length : Int))) = true then
  some ([], 2)
  else
  (whileO (hazard_Play_b1 threads size deeds) ((Ty.dflt T63), v0_3, (Ty.dflt T69), [], 0)).bind fun r1 =>
  hazard_Play_k1 r1)

/- lineal/linealref06.SameInts -/
noncomputable def linealref06_SameInts_k1 : Option Bool :=
  some true
noncomputable def linealref06_SameInts_b1 (a : List Int) (b : List Int) (st1 : Int) : Option (Step Int (Sum Unit Unit)) :=
  if (decide (st1 < (a.length : Int))) = true then
  ck (0 ≤ st1) <| ck (st1 < (a.length : Int)) <| ck (0 ≤ st1) <| ck (st1 < (b.length : Int)) <| if (!(decide ((a.getD st1.toNat 0) = (b.getD st1.toNat 0)))) = true then
  some (.done (Sum.inl ()))
  else
  ck (InK .i64 (st1 + 1)) <| some (.next (st1 + 1))
  else
  some (.done (Sum.inr ()))
noncomputable def linealref06_SameInts (a : List Int) (b : List Int) : Option Bool :=
  if (!(decide ((a.length : Int) = (b.length : Int)))) = true then
  some false
  else
  (whileO (linealref06_SameInts_b1 a b) 0).bind fun x => match x with
  | .inl _ => (some false)
  | .inr _ => (linealref06_SameInts_k1)

/- lineal/lineallaw06.Sane -/
noncomputable def lineallaw06_Sane : Option Bool :=
  (hazard_Play 2 2 [(1, 0, 0, 0), (1, 0, 0, 0), (4, 0, 0, 0), (4, 0, 1, 0)]).bind fun v0 =>
  if (decide (v0.2 = 0)) = true then
  (linealref06_SameInts v0.1 [0, 1, 0, 2]).bind fun v0_2 =>
  some v0_2
  else
  some false

/- lineal/lineallaw06.done -/
noncomputable def lineallaw06_done_k1 : Option (Sum Unit ((El T63) × (El T65) × (El T69))) :=
  some (Sum.inl ())
noncomputable def lineallaw06_done_b1 (st1 : Unit) : Option (Step Unit Unit) :=
  some (.done ())
noncomputable def lineallaw06_done_k2 (b2 : (El T63) × (El T65) × (El T69)) : Option (Sum Unit ((El T63) × (El T65) × (El T69))) :=
  some (Sum.inr b2)
noncomputable def lineallaw06_done_b2 (shape : Int × Int) (deeds : List (Int × Int × Int × Int)) (st2 : (El T63) × (El T65) × (El T69) × Int) : Option (Step ((El T63) × (El T65) × (El T69) × Int) ((El T63) × (El T65) × (El T69))) :=
  if (decide (st2.2.2.2 < (deeds.length : Int))) = true then
  ck (0 ≤ st2.2.2.2) <| ck (st2.2.2.2 < (deeds.length : Int)) <| (hazard_Yard_Do (deeds.getD st2.2.2.2.toNat (0, 0, 0, 0)) ((1 + (shape.1 % 4)), (1 + (shape.2 % 4)), st2.1, st2.2.1, st2.2.2.1)).bind fun v0_4 =>
  ck (InK .i64 (st2.2.2.2 + 1)) <| some (.next (v0_4.2.2.1, v0_4.2.2.2.1, v0_4.2.2.2.2, (st2.2.2.2 + 1)))
  else
  some (.done (st2.1, st2.2.1, st2.2.2.1))
noncomputable def lineallaw06_done (shape : Int × Int) (deeds : List (Int × Int × Int × Int)) : Option (Sum Unit ((El T63) × (El T65) × (El T69))) :=
  ck (InK .i64 shape.1) <| ck (0 ≤ shape.1) <| ck (InK .i64 (1 + (shape.1 % 4))) <| ck (InK .i64 shape.2) <| ck (0 ≤ shape.2) <| ck (InK .i64 (1 + (shape.2 % 4))) <| (hazard_New (1 + (shape.1 % 4)) (1 + (shape.2 % 4))).bind fun v0 => match v0 with
  | .inl v0_2 => ((whileO (lineallaw06_done_b1) ()).bind fun _ =>
  lineallaw06_done_k1)
  | .inr v0_3 => ((whileO (lineallaw06_done_b2 shape deeds) ((Ty.dflt T63), v0_3, (Ty.dflt T69), 0)).bind fun r2 =>
  lineallaw06_done_k2 r2)

/- (*lineal/hazard.Yard).count -/
/- (*lineal/hazard.Yard).By -/
/- (*lineal/hazard.Yard).Held -/
/- lineal/lineallaw06.HazardEnds -/
/- (*lineal/hazard.Yard).fails -/
/- (*lineal/hazard.Yard).State -/
/- (*lineal/hazard.Yard).Slot -/
/- lineal/lineallaw06.has -/
/- lineal/lineallaw06.HazardSafes -/
/- (*lineal/hazard.Yard).List -/
/- (*lineal/hazard.Yard).Free -/
/- lineal/lineallaw06.HazardLists -/
/- lineal/linealref06.within -/
/- lineal/linealref06.IsNew -/
/- lineal/linealref06.New -/
/- (*lineal/linealref06.Yard).isThread -/
/- (*lineal/linealref06.Yard).Take -/
/- lineal/linealref06.isSlot -/
/- lineal/linealref06.isNode -/
/- (*lineal/linealref06.Yard).Point -/
/- (*lineal/linealref06.Yard).Clear -/
/- (*lineal/linealref06.Yard).IsHeld -/
/- (*lineal/linealref06.Yard).Sweep -/
/- (*lineal/linealref06.Yard).PutBy -/
/- (*lineal/linealref06.Yard).Use -/
/- (*lineal/linealref06.Yard).Do -/
/- lineal/lineallaw06.HazardPlays -/
/- lineal/lineallaw06.isOne -/
/- lineal/lineallaw06.isOne -/
/- (*lineal/linealref06.Yard).State -/
/- (*lineal/linealref06.Yard).List -/
/- (*lineal/linealref06.Yard).Slot -/
/- (*lineal/linealref06.Yard).Count -/
/- (*lineal/linealref06.Yard).Held -/
/- lineal/lineallaw06.Is -/
/- lineal/lineallaw06.HazardAsks -/
/- lineal/linealtop.TopHazard -/
/- (*lineal/hazard.Yard).Copy -/
noncomputable def hazard_Yard_Copy (y : Int × Int × (El T63) × (El T65) × (El T69)) : Option (Sum Unit Unit) :=
  (hazard_Yard_isNone y).bind fun v0 =>
  if (decide (y.1 = 0)) = true then
  some (Sum.inl ())
  else
  some (Sum.inr ())

/- (*lineal/hazard.Yard).isNone -/
noncomputable def hazard_Yard_isNone_2 : Option Unit :=
  some ()

/- (*lineal/hazard.Yard).fails -/
/- (*lineal/hazard.Yard).Take -/
/- (*lineal/hazard.Yard).fails -/
/- (*lineal/hazard.Yard).Point -/
/- (*lineal/hazard.Yard).fails -/
/- (*lineal/hazard.Yard).Clear -/
/- (*lineal/hazard.Yard).fails -/
/- (*lineal/hazard.Yard).PutBy -/
/- (*lineal/hazard.Yard).Sweep -/
/- (*lineal/hazard.Yard).fails -/
/- (*lineal/hazard.Yard).Use -/
/- (*lineal/hazard.Yard).fails -/
noncomputable def hazard_Yard_fails_13 (c0 : Int × Int × Int × Int) (checks : Int) : Option Unit :=
  (hazard_Yard_isNone_2).bind fun v0 =>
  some ()

/- (*lineal/hazard.Yard).Do -/
noncomputable def hazard_Yard_Do_2 (d : Int × Int × Int × Int) : Option Unit :=
  (hazard_isDeed d).bind fun v0 =>
  (hazard_Yard_fails_13 d 2).bind fun v0_2 =>
  some ()

/- lineal/lineallaw06.called -/
/- lineal/lineallaw06.called -/
/- lineal/hazard.Same -/
noncomputable def hazard_Same (y : Int × Int × (El T63) × (El T65) × (El T69)) (z : Int × Int × (El T63) × (El T65) × (El T69)) : Option Bool :=
  (hazard_Yard_isNone y).bind fun v0 =>
  if (decide (y.1 = 0)) = true then
  (hazard_Yard_isNone y).bind fun v0_2 =>
  if (decide (y.1 = 0)) = true then
  (hazard_Yard_isNone z).bind fun v0_3 =>
  some (decide (z.1 = 0))
  else
  some false
  else
  (hazard_Yard_isNone z).bind fun v0_4 =>
  if (decide (z.1 = 0)) = true then
  (hazard_Yard_isNone y).bind fun v0_5 =>
  if (decide (y.1 = 0)) = true then
  (hazard_Yard_isNone z).bind fun v0_6 =>
  some (decide (z.1 = 0))
  else
  some false
  else
  if (decide (y.1 = z.1)) = true then
  if (decide (y.2.1 = z.2.1)) = true then
  ck (okD T63 y.2.2.1) <| ck (okD T63 z.2.2.1) <| if (decide (y.2.2.1 = z.2.2.1)) = true then
  ck (okD T65 y.2.2.2.1) <| ck (okD T65 z.2.2.2.1) <| if (decide (y.2.2.2.1 = z.2.2.2.1)) = true then
  ck (okD T69 y.2.2.2.2) <| ck (okD T69 z.2.2.2.2) <| some (decide (y.2.2.2.2 = z.2.2.2.2))
  else
  some false
  else
  some false
  else
  some false
  else
  some false

/- lineal/lineallaw06.HazardDeeds -/
/- (*lineal/hazard.Yard).Copy -/
noncomputable def hazard_Yard_Copy_2 : Option Unit :=
  (hazard_Yard_isNone_2).bind fun v0 =>
  some ()

/- lineal/hazard.Same -/
noncomputable def hazard_Same_2 : Option Unit :=
  (hazard_Yard_isNone_2).bind fun v0 =>
  (hazard_Yard_isNone_2).bind fun v0_2 =>
  (hazard_Yard_isNone_2).bind fun v0_3 =>
  some ()

/- lineal/hazard.Same -/
noncomputable def hazard_Same_3 (y : Int × Int × (El T63) × (El T65) × (El T69)) : Option Bool :=
  (hazard_Yard_isNone y).bind fun v0 =>
  if (decide (y.1 = 0)) = true then
  (hazard_Yard_isNone y).bind fun v0_2 =>
  if (decide (y.1 = 0)) = true then
  (hazard_Yard_isNone_2).bind fun v0_3 =>
  some true
  else
  some false
  else
  (hazard_Yard_isNone_2).bind fun v0_4 =>
  (hazard_Yard_isNone y).bind fun v0_5 =>
  if (decide (y.1 = 0)) = true then
  (hazard_Yard_isNone_2).bind fun v0_6 =>
  some true
  else
  some false

/- lineal/hazard.Same -/
noncomputable def hazard_Same_4 (z : Int × Int × (El T63) × (El T65) × (El T69)) : Option Unit :=
  (hazard_Yard_isNone_2).bind fun v0 =>
  (hazard_Yard_isNone_2).bind fun v0_2 =>
  (hazard_Yard_isNone z).bind fun v0_3 =>
  some ()

/- lineal/lineallaw06.HazardCopies -/
noncomputable def lineallaw06_HazardCopies_k2 (shape : Int × Int) (b2 : (El T63) × (El T65) × (El T69)) : Option Bool :=
  (hazard_Same_3 ((1 + (shape.1 % 4)), (1 + (shape.2 % 4)), b2)).bind fun v0_21 =>
  if v0_21 = true then
  (hazard_Same_4 ((1 + (shape.1 % 4)), (1 + (shape.2 % 4)), b2)).bind fun v0_22 =>
  if (decide ((1 + (shape.1 % 4)) = 0)) = true then
  (lineallaw06_Sane).bind fun v0_23 =>
  some v0_23
  else
  some false
  else
  some false
noncomputable def lineallaw06_HazardCopies_b2 (shape : Int × Int) (more : List (Int × Int × Int × Int)) (st2 : (El T63) × (El T65) × (El T69) × Int) : Option (Step ((El T63) × (El T65) × (El T69) × Int) ((El T63) × (El T65) × (El T69))) :=
  if (decide (st2.2.2.2 < (more.length : Int))) = true then
  ck (0 ≤ st2.2.2.2) <| ck (st2.2.2.2 < (more.length : Int)) <| (hazard_Yard_Do (more.getD st2.2.2.2.toNat (0, 0, 0, 0)) ((1 + (shape.1 % 4)), (1 + (shape.2 % 4)), st2.1, st2.2.1, st2.2.2.1)).bind fun v0_20 =>
  ck (InK .i64 (st2.2.2.2 + 1)) <| some (.next (v0_20.2.2.1, v0_20.2.2.2.1, v0_20.2.2.2.2, (st2.2.2.2 + 1)))
  else
  some (.done (st2.1, st2.2.1, st2.2.2.1))
noncomputable def lineallaw06_HazardCopies_k1 (shape : Int × Int) (more : List (Int × Int × Int × Int)) (v0_5 : (El T63) × (El T65) × (El T69)) (v0_11 : (El T63) × (El T65) × (El T69)) : Option Bool :=
  (hazard_Same ((1 + (shape.1 % 4)), (1 + (shape.2 % 4)), v0_5) ((1 + (shape.1 % 4)), (1 + (shape.2 % 4)), v0_11)).bind fun v0_19 =>
  if (!v0_19) = true then
  some false
  else
  (whileO (lineallaw06_HazardCopies_b2 shape more) (v0_5.1, v0_5.2.1, v0_5.2.2, 0)).bind fun r2 =>
  lineallaw06_HazardCopies_k2 shape r2
noncomputable def lineallaw06_HazardCopies_b1 (more : List (Int × Int × Int × Int)) (st1 : Int) : Option (Step Int Unit) :=
  if (decide (st1 < (more.length : Int))) = true then
  (hazard_Yard_Copy_2).bind fun v0_16 =>
  ck (0 ≤ st1) <| ck (st1 < (more.length : Int)) <| (hazard_Yard_Do_2 (more.getD st1.toNat (0, 0, 0, 0))).bind fun v0_17 =>
  (hazard_Same_2).bind fun v0_18 =>
  ck (InK .i64 (st1 + 1)) <| some (.next (st1 + 1))
  else
  some (.done ())
noncomputable def lineallaw06_HazardCopies_k4 (shape : Int × Int) (b3 : (El T63) × (El T65) × (El T69)) (b4 : (El T63) × (El T65) × (El T69)) : Option Bool :=
  (hazard_Same ((1 + (shape.1 % 4)), (1 + (shape.2 % 4)), b4) ((1 + (shape.1 % 4)), (1 + (shape.2 % 4)), b3)).bind fun v0_33 =>
  if v0_33 = true then
  (hazard_Same ((1 + (shape.1 % 4)), (1 + (shape.2 % 4)), b3) ((1 + (shape.1 % 4)), (1 + (shape.2 % 4)), b4)).bind fun v0_34 =>
  if v0_34 = true then
  (lineallaw06_Sane).bind fun v0_35 =>
  some v0_35
  else
  some false
  else
  some false
noncomputable def lineallaw06_HazardCopies_b4 (shape : Int × Int) (more : List (Int × Int × Int × Int)) (st4 : (El T63) × (El T65) × (El T69) × Int) : Option (Step ((El T63) × (El T65) × (El T69) × Int) ((El T63) × (El T65) × (El T69))) :=
  if (decide (st4.2.2.2 < (more.length : Int))) = true then
  ck (0 ≤ st4.2.2.2) <| ck (st4.2.2.2 < (more.length : Int)) <| (hazard_Yard_Do (more.getD st4.2.2.2.toNat (0, 0, 0, 0)) ((1 + (shape.1 % 4)), (1 + (shape.2 % 4)), st4.1, st4.2.1, st4.2.2.1)).bind fun v0_32 =>
  ck (InK .i64 (st4.2.2.2 + 1)) <| some (.next (v0_32.2.2.1, v0_32.2.2.2.1, v0_32.2.2.2.2, (st4.2.2.2 + 1)))
  else
  some (.done (st4.1, st4.2.1, st4.2.2.1))
noncomputable def lineallaw06_HazardCopies_k3 (shape : Int × Int) (more : List (Int × Int × Int × Int)) (v0_5 : (El T63) × (El T65) × (El T69)) (v0_11 : (El T63) × (El T65) × (El T69)) (b3 : (El T63) × (El T65) × (El T69)) : Option Bool :=
  (hazard_Same ((1 + (shape.1 % 4)), (1 + (shape.2 % 4)), v0_5) ((1 + (shape.1 % 4)), (1 + (shape.2 % 4)), v0_11)).bind fun v0_31 =>
  if (!v0_31) = true then
  some false
  else
  (whileO (lineallaw06_HazardCopies_b4 shape more) (v0_5.1, v0_5.2.1, v0_5.2.2, 0)).bind fun r4 =>
  lineallaw06_HazardCopies_k4 shape b3 r4
noncomputable def lineallaw06_HazardCopies_b3 (shape : Int × Int) (more : List (Int × Int × Int × Int)) (st3 : (El T63) × (El T65) × (El T69) × Int) : Option (Step ((El T63) × (El T65) × (El T69) × Int) (Sum Unit ((El T63) × (El T65) × (El T69)))) :=
  if (decide (st3.2.2.2 < (more.length : Int))) = true then
  (hazard_Yard_Copy ((1 + (shape.1 % 4)), (1 + (shape.2 % 4)), st3.1, st3.2.1, st3.2.2.1)).bind fun v0_24 => match v0_24 with
  | .inl v0_25 => (ck (0 ≤ st3.2.2.2) <| ck (st3.2.2.2 < (more.length : Int)) <| (hazard_Yard_Do (more.getD st3.2.2.2.toNat (0, 0, 0, 0)) ((1 + (shape.1 % 4)), (1 + (shape.2 % 4)), st3.1, st3.2.1, st3.2.2.1)).bind fun v0_27 =>
  if (!(decide (v0_27.2.1 = 0))) = true then
  (hazard_Same_3 ((1 + (shape.1 % 4)), (1 + (shape.2 % 4)), v0_27.2.2)).bind fun v0_28 =>
  if (!v0_28) = true then
  some (.done (Sum.inl ()))
  else
  ck (InK .i64 (st3.2.2.2 + 1)) <| some (.next (v0_27.2.2.1, v0_27.2.2.2.1, v0_27.2.2.2.2, (st3.2.2.2 + 1)))
  else
  ck (InK .i64 (st3.2.2.2 + 1)) <| some (.next (v0_27.2.2.1, v0_27.2.2.2.1, v0_27.2.2.2.2, (st3.2.2.2 + 1))))
  | .inr v0_26 => (ck (0 ≤ st3.2.2.2) <| ck (st3.2.2.2 < (more.length : Int)) <| (hazard_Yard_Do (more.getD st3.2.2.2.toNat (0, 0, 0, 0)) ((1 + (shape.1 % 4)), (1 + (shape.2 % 4)), st3.1, st3.2.1, st3.2.2.1)).bind fun v0_29 =>
  if (!(decide (v0_29.2.1 = 0))) = true then
  (hazard_Same ((1 + (shape.1 % 4)), (1 + (shape.2 % 4)), v0_29.2.2) ((1 + (shape.1 % 4)), (1 + (shape.2 % 4)), st3.1, st3.2.1, st3.2.2.1)).bind fun v0_30 =>
  if (!v0_30) = true then
  some (.done (Sum.inl ()))
  else
  ck (InK .i64 (st3.2.2.2 + 1)) <| some (.next (v0_29.2.2.1, v0_29.2.2.2.1, v0_29.2.2.2.2, (st3.2.2.2 + 1)))
  else
  ck (InK .i64 (st3.2.2.2 + 1)) <| some (.next (v0_29.2.2.1, v0_29.2.2.2.1, v0_29.2.2.2.2, (st3.2.2.2 + 1))))
  else
  some (.done (Sum.inr (st3.1, st3.2.1, st3.2.2.1)))
noncomputable def lineallaw06_HazardCopies (shape : Int × Int) (deeds : List (Int × Int × Int × Int)) (more : List (Int × Int × Int × Int)) : Option Bool :=
  if (decide (100 < (deeds.length : Int))) = true then
  (lineallaw06_Sane).bind fun v0 =>
  some v0
  else
  if (decide (100 < (more.length : Int))) = true then
  (lineallaw06_Sane).bind fun v0_2 =>
  some v0_2
  else
  (lineallaw06_done shape deeds).bind fun v0_3 => match v0_3 with
  | .inl v0_4 => ((lineallaw06_done shape deeds).bind fun v0_6 => match v0_6 with
  | .inl v0_7 => (some false)
  | .inr v0_8 => (some false))
  | .inr v0_5 => ((lineallaw06_done shape deeds).bind fun v0_9 => match v0_9 with
  | .inl v0_10 => (some false)
  | .inr v0_11 => ((hazard_Same ((1 + (shape.1 % 4)), (1 + (shape.2 % 4)), v0_5) ((1 + (shape.1 % 4)), (1 + (shape.2 % 4)), v0_11)).bind fun v0_12 =>
  if (!v0_12) = true then
  some false
  else
  (hazard_Yard_Copy ((1 + (shape.1 % 4)), (1 + (shape.2 % 4)), v0_5)).bind fun v0_13 => match v0_13 with
  | .inl v0_14 => ((whileO (lineallaw06_HazardCopies_b1 more) 0).bind fun _ =>
  lineallaw06_HazardCopies_k1 shape more v0_5 v0_11)
  | .inr v0_15 => ((whileO (lineallaw06_HazardCopies_b3 shape more) (v0_5.1, v0_5.2.1, v0_5.2.2, 0)).bind fun x => match x with
  | .inl _ => (some false)
  | .inr r3 => (lineallaw06_HazardCopies_k3 shape more v0_5 v0_11 r3))))

/- (*lineal/hazard.Yard).fails -/
/- (*lineal/hazard.Yard).State -/
/- (*lineal/hazard.Yard).List -/
/- (*lineal/hazard.Yard).Slot -/
/- (*lineal/hazard.Yard).count -/
/- (*lineal/hazard.Yard).By -/
/- (*lineal/hazard.Yard).Free -/
/- (*lineal/hazard.Yard).Held -/
/- lineal/lineallaw06.HazardNils -/
end Go.Proofs.YtcckpmeepcoafaaDoor
