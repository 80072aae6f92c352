/-
  Made by wip/tool/dc.py out of the print of the program: pure functions.
-/
import Derived.Test.YtifleoceebaooaaTyr
import Derived.Test.YtifleoceebaooaaSf
namespace Go.Proofs.Ytifleoceebaooaa
open Go.RowKit

set_option linter.unusedSimpArgs false
set_option linter.unusedVariables false
set_option linter.constructorNameAsVariable false

abbrev ZS : Type := List (Int × Int × (List (List Int)) × (List (List Int)))
abbrev ZH : Type := List (Int × Int × Int × Int × Int × Int)
abbrev ZM : Type := List (((Int × Int) × Int) × Int)
def strL0 : List Nat := [8, 0, 1, 0, 2, 0, 1, 0, 3, 0, 1, 0, 2, 0, 1, 0, 4, 0, 1, 0, 2, 0, 1, 0, 3, 0, 1, 0, 2, 0, 1, 0, 5, 0, 1, 0, 2, 0, 1, 0, 3, 0, 1, 0, 2, 0, 1, 0, 4, 0, 1, 0, 2, 0, 1, 0, 3, 0, 1, 0, 2, 0, 1, 0, 6, 0, 1, 0, 2, 0, 1, 0, 3, 0, 1, 0, 2, 0, 1, 0, 4, 0, 1, 0, 2, 0, 1, 0, 3, 0, 1, 0, 2, 0, 1, 0, 5, 0, 1, 0, 2, 0, 1, 0, 3, 0, 1, 0, 2, 0, 1, 0, 4, 0, 1, 0, 2, 0, 1, 0, 3, 0, 1, 0, 2, 0, 1, 0, 7, 0, 1, 0, 2, 0, 1, 0, 3, 0, 1, 0, 2, 0, 1, 0, 4, 0, 1, 0, 2, 0, 1, 0, 3, 0, 1, 0, 2, 0, 1, 0, 5, 0, 1, 0, 2, 0, 1, 0, 3, 0, 1, 0, 2, 0, 1, 0, 4, 0, 1, 0, 2, 0, 1, 0, 3, 0, 1, 0, 2, 0, 1, 0, 6, 0, 1, 0, 2, 0, 1, 0, 3, 0, 1, 0, 2, 0, 1, 0, 4, 0, 1, 0, 2, 0, 1, 0, 3, 0, 1, 0, 2, 0, 1, 0, 5, 0, 1, 0, 2, 0, 1, 0, 3, 0, 1, 0, 2, 0, 1, 0, 4, 0, 1, 0, 2, 0, 1, 0, 3, 0, 1, 0, 2, 0, 1, 0]

/- lineal/lineallaw05.Long -/
noncomputable def lineallaw05_Long (s : Int × (List (Int × Int × Int))) : Option Unit :=
  some ()

/- lineal/refine.isState -/
noncomputable def refine_isState (s : Int × (List (Int × Int × Int))) (state : Int) : Option Bool :=
  if (decide (0 ≤ state)) = true then
  some (decide (state < s.1))
  else
  some false

/- lineal/refine.isHidden -/
noncomputable def refine_isHidden (label : Int) : Option Unit :=
  some ()

/- lineal/refine.isSeen -/
noncomputable def refine_isSeen (label : Int) : Option Bool :=
  if (decide (0 < label)) = true then
  some (decide (label ≤ 3))
  else
  some false

/- lineal/refine.isLabel -/
noncomputable def refine_isLabel (label : Int) : Option Bool :=
  (refine_isHidden label).bind fun v0 =>
  if (decide (label = 0)) = true then
  some true
  else
  (refine_isSeen label).bind fun v0_2 =>
  some v0_2

/- lineal/refine.isStep -/
noncomputable def refine_isStep (s : Int × (List (Int × Int × Int))) (step : Int × Int × Int) : Option Bool :=
  (refine_isState s step.1).bind fun v0 =>
  if v0 = true then
  (refine_isLabel step.2.1).bind fun v0_2 =>
  if v0_2 = true then
  (refine_isState s step.2.2).bind fun v0_3 =>
  some v0_3
  else
  some false
  else
  some false

/- slices.Index[[]lineal/api.Step,lineal/api.Step] -/
noncomputable def slices_Index_k1 : Option Int :=
  some (-1)
noncomputable def slices_Index_b1 (s : List (Int × Int × Int)) (v0 : Int × Int × Int) (st1 : Int) : Option (Step Int (Sum Int Unit)) :=
  if (decide (st1 < (s.length : Int))) = true then
  ck (0 ≤ st1) <| ck (st1 < (s.length : Int)) <| ck (InK .i64 v0.1) <| ck (InK .i64 v0.2.1) <| ck (InK .i64 v0.2.2) <| ck (InK .i64 (s.getD st1.toNat (0, 0, 0)).1) <| ck (InK .i64 (s.getD st1.toNat (0, 0, 0)).2.1) <| ck (InK .i64 (s.getD st1.toNat (0, 0, 0)).2.2) <| if (decide (v0 = (s.getD st1.toNat (0, 0, 0)))) = true then
  some (.done (Sum.inl st1))
  else
  ck (InK .i64 (st1 + 1)) <| some (.next (st1 + 1))
  else
  some (.done (Sum.inr ()))
noncomputable def slices_Index (s : List (Int × Int × Int)) (v0 : Int × Int × Int) : Option Int :=
  (whileO (slices_Index_b1 s v0) 0).bind fun x => match x with
  | .inl r1 => (some r1)
  | .inr _ => (slices_Index_k1)

/- slices.Contains[[]lineal/api.Step,lineal/api.Step] -/
noncomputable def slices_Contains (s : List (Int × Int × Int)) (v0 : Int × Int × Int) : Option Bool :=
  (slices_Index s v0).bind fun v0_2 =>
  some (decide (0 ≤ v0_2))

/- lineal/refine.Valid -/
noncomputable def refine_Valid_k1 : Option Bool :=
  some true
noncomputable def refine_Valid_b1 (s : Int × (List (Int × Int × Int))) (st1 : Int) : Option (Step Int (Sum Unit Unit)) :=
  if (decide (st1 < (s.2.length : Int))) = true then
  ck (0 ≤ st1) <| ck (st1 < (s.2.length : Int)) <| (refine_isStep s (s.2.getD st1.toNat (0, 0, 0))).bind fun v0 =>
  if (!v0) = true then
  some (.done (Sum.inl ()))
  else
  ck (0 ≤ st1) <| ck (st1 ≤ (s.2.length : Int)) <| (slices_Contains (s.2.take st1.toNat) (s.2.getD st1.toNat (0, 0, 0))).bind fun v0_2 =>
  if v0_2 = true then
  some (.done (Sum.inl ()))
  else
  ck (InK .i64 (st1 + 1)) <| some (.next (st1 + 1))
  else
  some (.done (Sum.inr ()))
noncomputable def refine_Valid (s : Int × (List (Int × Int × Int))) : Option Bool :=
  if (decide (s.1 < 1)) = true then
  some false
  else
  if (decide (6 < s.1)) = true then
  some false
  else
  if (decide (24 < (s.2.length : Int))) = true then
  some false
  else
  (whileO (refine_Valid_b1 s) 0).bind fun x => match x with
  | .inl _ => (some false)
  | .inr _ => (refine_Valid_k1)

/- (lineal/refine.set).has -/
noncomputable def refine_set_has (s : Int) (state : Int) : Option Unit :=
  ck (0 ≤ state) <| some ()

/- (lineal/refine.frame).led$1 -/
noncomputable def refine_frame_led_1_b1 (slf : Int → Int → ((Int × (List (Int × Int × Int))) × (El T69)) → Option Int) (state : Int) (a2 : (Int × (List (Int × Int × Int))) × (El T69)) (st1 : Int × Int) : Option (Step (Int × Int) Int) :=
  if (decide (st1.2 < (a2.1.2.length : Int))) = true then
  ck (0 ≤ st1.2) <| ck (st1.2 < (a2.1.2.length : Int)) <| if (decide ((a2.1.2.getD st1.2.toNat (0, 0, 0)).1 = state)) = true then
  (refine_isHidden (a2.1.2.getD st1.2.toNat (0, 0, 0)).2.1).bind fun v0_2 =>
  if (decide ((a2.1.2.getD st1.2.toNat (0, 0, 0)).2.1 = 0)) = true then
  (slf (a2.1.2.getD st1.2.toNat (0, 0, 0)).2.2 st1.1 a2).bind fun v0_3 =>
  ck (InK .i64 (st1.2 + 1)) <| some (.next (v0_3, (st1.2 + 1)))
  else
  ck (InK .i64 (st1.2 + 1)) <| some (.next (st1.1, (st1.2 + 1)))
  else
  ck (InK .i64 (st1.2 + 1)) <| some (.next (st1.1, (st1.2 + 1)))
  else
  some (.done st1.1)
noncomputable def refine_frame_led_1F (slf : Int → Int → ((Int × (List (Int × Int × Int))) × (El T69)) → Option Int) (state : Int) (a1 : Int) (a2 : (Int × (List (Int × Int × Int))) × (El T69)) : Option Int :=
  (refine_set_has a1 state).bind fun v0 =>
  if (decide ((iand .u8 (ishr .u8 a1 state) 1) = 1)) = true then
  some a1
  else
  ck (0 ≤ state) <| (whileO (refine_frame_led_1_b1 slf state a2) ((ior .u8 a1 (ishl .u8 1 state)), 0)).bind fun r1 =>
  some r1
noncomputable def refine_frame_led_1 (n : Nat) : Int → Int → ((Int × (List (Int × Int × Int))) × (El T69)) → Option Int := Nat.rec (motive := fun _ => Int → Int → ((Int × (List (Int × Int × Int))) × (El T69)) → Option Int) (fun _ _ _ => none) (fun _ slf => refine_frame_led_1F slf) n

/- (lineal/refine.frame).led -/
noncomputable def refine_frame_led (f : (Int × (List (Int × Int × Int))) × (El T69)) (from0 : Int) : Option Int :=
  (refine_frame_led_1 fuel from0 0 f).bind fun v0 =>
  some v0

/- lineal/refine.frameOf -/
noncomputable def refine_frameOf_k2 (s : Int × (List (Int × Int × Int))) (b3_2 : (El T69)) : Option (Int × (List (Int × Int × Int)) × (El T69) × Int) :=
  some (s.1, s.2, b3_2, 0)
noncomputable def refine_frameOf_k3 (st2 : (El T69) × Int) (b3 : (El T69)) : Option (Step ((El T69) × Int) ((El T69))) :=
  ck (InK .i64 (st2.2 + 1)) <| some (.next (b3, (st2.2 + 1)))
noncomputable def refine_frameOf_b3 (s : Int × (List (Int × Int × Int))) (st2 : (El T69) × Int) (st3 : (El T69) × Int) : Option (Step ((El T69) × Int) ((El T69))) :=
  if (decide (st3.2 < s.1)) = true then
  (refine_isSeen (s.2.getD st2.2.toNat (0, 0, 0)).2.1).bind fun v0_3 =>
  if v0_3 = true then
  ck (0 ≤ st3.2) <| ck (st3.2 < 6) <| (refine_set_has (intAt T69 st3.1 ((st3.2.toNat * 4) + 0)) (s.2.getD st2.2.toNat (0, 0, 0)).1).bind fun v0_4 =>
  if (decide ((iand .u8 (ishr .u8 (intAt T69 st3.1 ((st3.2.toNat * 4) + 0)) (s.2.getD st2.2.toNat (0, 0, 0)).1) 1) = 1)) = true then
  ck (0 ≤ st3.2) <| ck (st3.2 < 6) <| ck (0 ≤ (s.2.getD st2.2.toNat (0, 0, 0)).2.1) <| ck ((s.2.getD st2.2.toNat (0, 0, 0)).2.1 < 4) <| ck (0 ≤ (s.2.getD st2.2.toNat (0, 0, 0)).2.2) <| ck ((s.2.getD st2.2.toNat (0, 0, 0)).2.2 < 6) <| ck (0 ≤ st3.2) <| ck (st3.2 < 6) <| ck (0 ≤ (s.2.getD st2.2.toNat (0, 0, 0)).2.1) <| ck ((s.2.getD st2.2.toNat (0, 0, 0)).2.1 < 4) <| ck (InK .i64 (st3.2 + 1)) <| some (.next ((setInt T69 st3.1 ((st3.2.toNat * 4) + (s.2.getD st2.2.toNat (0, 0, 0)).2.1.toNat * 1) (ior .u8 (intAt T69 st3.1 ((st3.2.toNat * 4) + (s.2.getD st2.2.toNat (0, 0, 0)).2.1.toNat * 1)) (intAt T69 st3.1 (((s.2.getD st2.2.toNat (0, 0, 0)).2.2.toNat * 4) + 0)))), (st3.2 + 1)))
  else
  ck (InK .i64 (st3.2 + 1)) <| some (.next (st3.1, (st3.2 + 1)))
  else
  ck (InK .i64 (st3.2 + 1)) <| some (.next (st3.1, (st3.2 + 1)))
  else
  some (.done st3.1)
noncomputable def refine_frameOf_b2 (s : Int × (List (Int × Int × Int))) (st2 : (El T69) × Int) : Option (Step ((El T69) × Int) ((El T69))) :=
  if (decide (st2.2 < (s.2.length : Int))) = true then
  ck (0 ≤ st2.2) <| ck (st2.2 < (s.2.length : Int)) <| (whileO (refine_frameOf_b3 s st2) (st2.1, 0)).bind fun r3 =>
  refine_frameOf_k3 st2 r3
  else
  some (.done st2.1)
noncomputable def refine_frameOf_k1 (s : Int × (List (Int × Int × Int))) (b1 : (El T69)) : Option (Int × (List (Int × Int × Int)) × (El T69) × Int) :=
  (whileO (refine_frameOf_b2 s) (b1, 0)).bind fun r2 =>
  refine_frameOf_k2 s r2
noncomputable def refine_frameOf_b1 (s : Int × (List (Int × Int × Int))) (st1 : (El T69) × Int) : Option (Step ((El T69) × Int) ((El T69))) :=
  if (decide (st1.2 < s.1)) = true then
  (refine_frame_led (s, st1.1) st1.2).bind fun v0_2 =>
  ck (0 ≤ st1.2) <| ck (st1.2 < 6) <| ck (InK .i64 (st1.2 + 1)) <| some (.next ((setInt T69 st1.1 ((st1.2.toNat * 4) + 0) v0_2), (st1.2 + 1)))
  else
  some (.done st1.1)
noncomputable def refine_frameOf (s : Int × (List (Int × Int × Int))) : Option (Int × (List (Int × Int × Int)) × (El T69) × Int) :=
  (refine_Valid s).bind fun v0 =>
  if (!v0) = true then
  some (0, [], (Ty.dflt T69), 50)
  else
  (whileO (refine_frameOf_b1 s) ((Ty.dflt T69), 0)).bind fun r1 =>
  refine_frameOf_k1 s r1

/- lineal/refine.twoOf -/
noncomputable def refine_twoOf (c : Int × (List (Int × Int × Int))) (a : Int × (List (Int × Int × Int))) : Option (Int × (List (Int × Int × Int)) × (El T69) × Int × (List (Int × Int × Int)) × (El T69) × Int) :=
  (refine_frameOf c).bind fun v0 =>
  if (!(decide (v0.2.2.2 = 0))) = true then
  some (0, [], (Ty.dflt T69), 0, [], (Ty.dflt T69), v0.2.2.2)
  else
  (refine_frameOf a).bind fun v0_2 =>
  if (!(decide (v0_2.2.2.2 = 0))) = true then
  some (0, [], (Ty.dflt T69), 0, [], (Ty.dflt T69), v0_2.2.2.2)
  else
  some (v0.1, v0.2.1, v0.2.2.1, v0_2.1, v0_2.2.1, v0_2.2.2.1, 0)

/- (lineal/refine.frame).begin -/
noncomputable def refine_frame_begin (f : (Int × (List (Int × Int × Int))) × (El T69)) : Option Unit :=
  some ()

/- (lineal/refine.set).states -/
noncomputable def refine_set_states_k1 (b1 : (List Int)) : Option ((List Int)) :=
  some b1
noncomputable def refine_set_states_b1 (s : Int) (st1 : (List Int) × Int) : Option (Step ((List Int) × Int) ((List Int))) :=
  if (decide (st1.2 < 6)) = true then
  (refine_set_has s st1.2).bind fun v0 =>
  if (decide ((iand .u8 (ishr .u8 s st1.2) 1) = 1)) = true then
  ck ((st1.1.length + 1) * 8 ≤ 140737488355328) <| ck (InK .i64 (st1.2 + 1)) <| some (.next ((st1.1 ++ [st1.2]), (st1.2 + 1)))
  else
  ck (InK .i64 (st1.2 + 1)) <| some (.next (st1.1, (st1.2 + 1)))
  else
  some (.done st1.1)
noncomputable def refine_set_states (s : Int) : Option ((List Int)) :=
  (whileO (refine_set_states_b1 s) ([], 0)).bind fun r1 =>
  refine_set_states_k1 r1

/- (lineal/refine.frame).after -/
noncomputable def refine_frame_after_k1 (b1 : Int) : Option Int :=
  some b1
noncomputable def refine_frame_after_b1 (f : (Int × (List (Int × Int × Int))) × (El T69)) (label : Int) (v0 : (List Int)) (st1 : Int × Int) : Option (Step (Int × Int) Int) :=
  if (decide (st1.2 < (v0.length : Int))) = true then
  ck (0 ≤ st1.2) <| ck (st1.2 < (v0.length : Int)) <| ck (0 ≤ (v0.getD st1.2.toNat 0)) <| ck ((v0.getD st1.2.toNat 0) < 6) <| ck (0 ≤ label) <| ck (label < 4) <| ck (InK .i64 (st1.2 + 1)) <| some (.next ((ior .u8 st1.1 (intAt T69 f.2 (((v0.getD st1.2.toNat 0).toNat * 4) + label.toNat * 1))), (st1.2 + 1)))
  else
  some (.done st1.1)
noncomputable def refine_frame_after (f : (Int × (List (Int × Int × Int))) × (El T69)) (from0 : Int) (label : Int) : Option Int :=
  (refine_set_states from0).bind fun v0 =>
  (whileO (refine_frame_after_b1 f label v0) (0, 0)).bind fun r1 =>
  refine_frame_after_k1 r1

/- slices.Clone[[]int,int] -/
noncomputable def slices_Clone (s : List Int) : Option ((List Int)) :=
  ck (s.length * 8 ≤ 140737488355328) <| some s

/- lineal/refine.longer -/
noncomputable def refine_longer (trace : List Int) (label : Int) : Option ((List Int)) :=
  (slices_Clone trace).bind fun v0 =>
  ck ((v0.length + 1) * 8 ≤ 140737488355328) <| some (v0 ++ [label])

/- (lineal/refine.two).shows -/
noncomputable def refine_two_shows_k1 : Option ((List Int) × Bool) :=
  some ([], false)
noncomputable def refine_two_shows_k2 (st1 : (List (Int × Int)) × (List (List Int)) × (List ((Int × Int) × Bool)) × Int) (b2 : (List (Int × Int)) × (List (List Int)) × (List ((Int × Int) × Bool))) : Option (Step ((List (Int × Int)) × (List (List Int)) × (List ((Int × Int) × Bool)) × Int) (Sum ((List Int)) Unit)) :=
  ck (InK .i64 (st1.2.2.2 + 1)) <| some (.next (b2.1, b2.2.1, b2.2.2, (st1.2.2.2 + 1)))
noncomputable def refine_two_shows_b2 (t : ((Int × (List (Int × Int × Int))) × (El T69)) × (Int × (List (Int × Int × Int))) × (El T69)) (st1 : (List (Int × Int)) × (List (List Int)) × (List ((Int × Int) × Bool)) × Int) (st2 : (List (Int × Int)) × (List (List Int)) × (List ((Int × Int) × Bool)) × Int) : Option (Step ((List (Int × Int)) × (List (List Int)) × (List ((Int × Int) × Bool)) × Int) (Sum ((List Int)) ((List (Int × Int)) × (List (List Int)) × (List ((Int × Int) × Bool))))) :=
  if (decide (st2.2.2.2 ≤ 3)) = true then
  ck (0 ≤ st1.2.2.2) <| ck (st1.2.2.2 < (st2.1.length : Int)) <| (refine_frame_after t.1 (st2.1.getD st1.2.2.2.toNat (0, 0)).1 st2.2.2.2).bind fun v0_3 =>
  ck (0 ≤ st1.2.2.2) <| ck (st1.2.2.2 < (st2.1.length : Int)) <| (refine_frame_after t.2 (st2.1.getD st1.2.2.2.toNat (0, 0)).2 st2.2.2.2).bind fun v0_4 =>
  if (decide (v0_3 = 0)) = true then
  ck (InK .i64 (st2.2.2.2 + 1)) <| some (.next (st2.1, st2.2.1, st2.2.2.1, (st2.2.2.2 + 1)))
  else
  ck (InK .u8 v0_3) <| ck (InK .u8 v0_4) <| if (mget false st2.2.2.1 (v0_3, v0_4)) = true then
  ck (InK .i64 (st2.2.2.2 + 1)) <| some (.next (st2.1, st2.2.1, st2.2.2.1, (st2.2.2.2 + 1)))
  else
  ck (0 ≤ st1.2.2.2) <| ck (st1.2.2.2 < (st2.2.1.length : Int)) <| (refine_longer (st2.2.1.getD st1.2.2.2.toNat []) st2.2.2.2).bind fun v0_5 =>
  if (decide (v0_4 = 0)) = true then
  some (.done (Sum.inl v0_5))
  else
  ck (InK .u8 v0_3) <| ck (InK .u8 v0_4) <| ck ((st2.1.length + 1) * 2 ≤ 140737488355328) <| ck ((st2.2.1.length + 1) * 24 ≤ 140737488355328) <| ck (InK .i64 (st2.2.2.2 + 1)) <| some (.next ((st2.1 ++ [(v0_3, v0_4)]), (st2.2.1 ++ [v0_5]), (mput st2.2.2.1 (v0_3, v0_4) true), (st2.2.2.2 + 1)))
  else
  some (.done (Sum.inr (st2.1, st2.2.1, st2.2.2.1)))
noncomputable def refine_two_shows_b1 (t : ((Int × (List (Int × Int × Int))) × (El T69)) × (Int × (List (Int × Int × Int))) × (El T69)) (st1 : (List (Int × Int)) × (List (List Int)) × (List ((Int × Int) × Bool)) × Int) : Option (Step ((List (Int × Int)) × (List (List Int)) × (List ((Int × Int) × Bool)) × Int) (Sum ((List Int)) Unit)) :=
  if (decide (st1.2.2.2 < (st1.1.length : Int))) = true then
  (whileO (refine_two_shows_b2 t st1) (st1.1, st1.2.1, st1.2.2.1, 1)).bind fun x => match x with
  | .inl r2 => (some (.done (Sum.inl r2)))
  | .inr r2_2 => (refine_two_shows_k2 st1 r2_2)
  else
  some (.done (Sum.inr ()))
noncomputable def refine_two_shows (t : ((Int × (List (Int × Int × Int))) × (El T69)) × (Int × (List (Int × Int × Int))) × (El T69)) : Option ((List Int) × Bool) :=
  (refine_frame_begin t.1).bind fun v0 =>
  (refine_frame_begin t.2).bind fun v0_2 =>
  ck (InK .u8 ([((intAt T69 t.1.2 0), (intAt T69 t.2.2 0))].getD 0 (0, 0)).1) <| ck (InK .u8 ([((intAt T69 t.1.2 0), (intAt T69 t.2.2 0))].getD 0 (0, 0)).2) <| (whileO (refine_two_shows_b1 t) ([((intAt T69 t.1.2 0), (intAt T69 t.2.2 0))], [[]], (mput [] ([((intAt T69 t.1.2 0), (intAt T69 t.2.2 0))].getD 0 (0, 0)) true), 0)).bind fun x => match x with
  | .inl r1 => (some (r1, true))
  | .inr _ => (refine_two_shows_k1)

/- lineal/refine.Shows -/
noncomputable def refine_Shows (c : Int × (List (Int × Int × Int))) (a : Int × (List (Int × Int × Int))) : Option ((List Int) × Int) :=
  (refine_twoOf c a).bind fun v0 =>
  if (!(decide (v0.2.2.2.2.2.2 = 0))) = true then
  some ([], v0.2.2.2.2.2.2)
  else
  (refine_two_shows (((v0.1, v0.2.1), v0.2.2.1), (v0.2.2.2.1, v0.2.2.2.2.1), v0.2.2.2.2.2.1)).bind fun v0_2 =>
  if (!v0_2.2) = true then
  some ([], 5)
  else
  some (v0_2.1, 0)

/- lineal/linealref05.SameInts -/
noncomputable def linealref05_SameInts_k1 : Option Bool :=
  some true
noncomputable def linealref05_SameInts_b1 (a : List Int) (b : List Int) (st1 : Int) : Option (Step Int (Sum Unit Unit)) :=
  if (decide (st1 < (a.length : Int))) = true then
  ck (0 ≤ st1) <| ck (st1 < (a.length : Int)) <| ck (0 ≤ st1) <| ck (st1 < (b.length : Int)) <| if (!(decide ((a.getD st1.toNat 0) = (b.getD st1.toNat 0)))) = true then
  some (.done (Sum.inl ()))
  else
  ck (InK .i64 (st1 + 1)) <| some (.next (st1 + 1))
  else
  some (.done (Sum.inr ()))
noncomputable def linealref05_SameInts (a : List Int) (b : List Int) : Option Bool :=
  if (!(decide ((a.length : Int) = (b.length : Int)))) = true then
  some false
  else
  (whileO (linealref05_SameInts_b1 a b) 0).bind fun x => match x with
  | .inl _ => (some false)
  | .inr _ => (linealref05_SameInts_k1)

/- lineal/lineallaw05.Awake -/
noncomputable def lineallaw05_Awake : Option Bool :=
  (refine_Shows (2, [(0, 1, 1), (1, 2, 0), (1, 3, 0)]) (2, [(0, 1, 1), (1, 2, 0)])).bind fun v0 =>
  if (decide (v0.2 = 0)) = true then
  (linealref05_SameInts v0.1 [1, 3]).bind fun v0_2 =>
  some v0_2
  else
  some false

/- lineal/refine.IsTrace$1 -/
noncomputable def refine_IsTrace_1 (label : Int) : Option Bool :=
  (refine_isSeen label).bind fun v0 =>
  some (!v0)

/- slices.IndexFunc[[]int,int] -/
noncomputable def slices_IndexFunc_k1 : Option Int :=
  some (-1)
noncomputable def slices_IndexFunc_b1 (s : List Int) (st1 : Int) : Option (Step Int (Sum Int Unit)) :=
  if (decide (st1 < (s.length : Int))) = true then
  ck (0 ≤ st1) <| ck (st1 < (s.length : Int)) <| (refine_IsTrace_1 (s.getD st1.toNat 0)).bind fun v0 =>
  if v0 = true then
  some (.done (Sum.inl st1))
  else
  ck (InK .i64 (st1 + 1)) <| some (.next (st1 + 1))
  else
  some (.done (Sum.inr ()))
noncomputable def slices_IndexFunc (s : List Int) : Option Int :=
  (whileO (slices_IndexFunc_b1 s) 0).bind fun x => match x with
  | .inl r1 => (some r1)
  | .inr _ => (slices_IndexFunc_k1)

/- slices.ContainsFunc[[]int,int] -/
noncomputable def slices_ContainsFunc (s : List Int) : Option Bool :=
  (slices_IndexFunc s).bind fun v0 =>
  some (decide (0 ≤ v0))

/- (lineal/refine.frame).isTrace -/
noncomputable def refine_frame_isTrace_k1 (b1 : Int) : Option Bool :=
  some (!(decide (b1 = 0)))
noncomputable def refine_frame_isTrace_b1 (f : (Int × (List (Int × Int × Int))) × (El T69)) (trace : List Int) (st1 : Int × Int) : Option (Step (Int × Int) Int) :=
  if (decide (st1.2 < (trace.length : Int))) = true then
  ck (0 ≤ st1.2) <| ck (st1.2 < (trace.length : Int)) <| (refine_frame_after f st1.1 (trace.getD st1.2.toNat 0)).bind fun v0_2 =>
  ck (InK .i64 (st1.2 + 1)) <| some (.next (v0_2, (st1.2 + 1)))
  else
  some (.done st1.1)
noncomputable def refine_frame_isTrace (f : (Int × (List (Int × Int × Int))) × (El T69)) (trace : List Int) : Option Bool :=
  (refine_frame_begin f).bind fun v0 =>
  (whileO (refine_frame_isTrace_b1 f trace) ((intAt T69 f.2 0), 0)).bind fun r1 =>
  refine_frame_isTrace_k1 r1

/- lineal/refine.IsTrace -/
noncomputable def refine_IsTrace (s : Int × (List (Int × Int × Int))) (trace : List Int) : Option (Bool × Int) :=
  (refine_frameOf s).bind fun v0 =>
  if (!(decide (v0.2.2.2 = 0))) = true then
  some (false, v0.2.2.2)
  else
  if (decide (1000 < (trace.length : Int))) = true then
  some (false, 2)
  else
  (slices_ContainsFunc trace).bind fun v0_2 =>
  if v0_2 = true then
  some (false, 2)
  else
  (refine_frame_isTrace ((v0.1, v0.2.1), v0.2.2.1) trace).bind fun v0_3 =>
  some (v0_3, 0)

/- lineal/linealref05.IsState -/
noncomputable def linealref05_IsState (s : Int × (List (Int × Int × Int))) (n : Int) : Option Bool :=
  if (decide (0 ≤ n)) = true then
  some (decide (n < s.1))
  else
  some false

/- lineal/linealref05.Valid -/
noncomputable def linealref05_Valid_k1 : Option Bool :=
  some true
noncomputable def linealref05_Valid_k2 (st1 : Int) : Option (Step Int (Sum Unit Unit)) :=
  ck (InK .i64 (st1 + 1)) <| some (.next (st1 + 1))
noncomputable def linealref05_Valid_b2 (s : Int × (List (Int × Int × Int))) (st1 : Int) (st2 : Int) : Option (Step Int (Sum Unit Unit)) :=
  if (decide (st2 < ((s.2.take st1.toNat).length : Int))) = true then
  ck (0 ≤ st2) <| ck (st2 < ((s.2.take st1.toNat).length : Int)) <| ck (InK .i64 (s.2.getD st1.toNat (0, 0, 0)).1) <| ck (InK .i64 (s.2.getD st1.toNat (0, 0, 0)).2.1) <| ck (InK .i64 (s.2.getD st1.toNat (0, 0, 0)).2.2) <| ck (InK .i64 ((s.2.take st1.toNat).getD st2.toNat (0, 0, 0)).1) <| ck (InK .i64 ((s.2.take st1.toNat).getD st2.toNat (0, 0, 0)).2.1) <| ck (InK .i64 ((s.2.take st1.toNat).getD st2.toNat (0, 0, 0)).2.2) <| if (decide ((s.2.getD st1.toNat (0, 0, 0)) = ((s.2.take st1.toNat).getD st2.toNat (0, 0, 0)))) = true then
  some (.done (Sum.inl ()))
  else
  ck (InK .i64 (st2 + 1)) <| some (.next (st2 + 1))
  else
  some (.done (Sum.inr ()))
noncomputable def linealref05_Valid_b1 (s : Int × (List (Int × Int × Int))) (st1 : Int) : Option (Step Int (Sum Unit Unit)) :=
  if (decide (st1 < (s.2.length : Int))) = true then
  ck (0 ≤ st1) <| ck (st1 < (s.2.length : Int)) <| (linealref05_IsState s (s.2.getD st1.toNat (0, 0, 0)).1).bind fun v0 =>
  if (!v0) = true then
  some (.done (Sum.inl ()))
  else
  (linealref05_IsState s (s.2.getD st1.toNat (0, 0, 0)).2.2).bind fun v0_2 =>
  if (!v0_2) = true then
  some (.done (Sum.inl ()))
  else
  if (decide ((s.2.getD st1.toNat (0, 0, 0)).2.1 < 0)) = true then
  some (.done (Sum.inl ()))
  else
  if (decide (3 < (s.2.getD st1.toNat (0, 0, 0)).2.1)) = true then
  some (.done (Sum.inl ()))
  else
  ck (0 ≤ st1) <| ck (st1 ≤ (s.2.length : Int)) <| (whileO (linealref05_Valid_b2 s st1) 0).bind fun x => match x with
  | .inl _ => (some (.done (Sum.inl ())))
  | .inr _ => (linealref05_Valid_k2 st1)
  else
  some (.done (Sum.inr ()))
noncomputable def linealref05_Valid (s : Int × (List (Int × Int × Int))) : Option Bool :=
  if (decide (s.1 < 1)) = true then
  some false
  else
  if (decide (6 < s.1)) = true then
  some false
  else
  if (decide (24 < (s.2.length : Int))) = true then
  some false
  else
  (whileO (linealref05_Valid_b1 s) 0).bind fun x => match x with
  | .inl _ => (some false)
  | .inr _ => (linealref05_Valid_k1)

/- lineal/linealref05.IsSeen -/
noncomputable def linealref05_IsSeen (label : Int) : Option Bool :=
  if (decide (1 ≤ label)) = true then
  some (decide (label ≤ 3))
  else
  some false

/- lineal/linealref05.step -/
noncomputable def linealref05_step_k1 (b1 : Int) : Option Int :=
  some b1
noncomputable def linealref05_step_b1 (s : Int × (List (Int × Int × Int))) (set0 : Int) (label : Int) (st1 : Int × Int) : Option (Step (Int × Int) Int) :=
  if (decide (st1.2 < (s.2.length : Int))) = true then
  ck (0 ≤ st1.2) <| ck (st1.2 < (s.2.length : Int)) <| if (decide ((s.2.getD st1.2.toNat (0, 0, 0)).2.1 = label)) = true then
  ck (0 ≤ (s.2.getD st1.2.toNat (0, 0, 0)).1) <| if (decide ((iand .i64 (ishr .i64 set0 (s.2.getD st1.2.toNat (0, 0, 0)).1) 1) = 1)) = true then
  ck (0 ≤ (s.2.getD st1.2.toNat (0, 0, 0)).2.2) <| ck (InK .i64 (st1.2 + 1)) <| some (.next ((ior .i64 st1.1 (ishl .i64 1 (s.2.getD st1.2.toNat (0, 0, 0)).2.2)), (st1.2 + 1)))
  else
  ck (InK .i64 (st1.2 + 1)) <| some (.next (st1.1, (st1.2 + 1)))
  else
  ck (InK .i64 (st1.2 + 1)) <| some (.next (st1.1, (st1.2 + 1)))
  else
  some (.done st1.1)
noncomputable def linealref05_step (s : Int × (List (Int × Int × Int))) (set0 : Int) (label : Int) : Option Int :=
  (whileO (linealref05_step_b1 s set0 label) (0, 0)).bind fun r1 =>
  linealref05_step_k1 r1

/- lineal/linealref05.quiet -/
noncomputable def linealref05_quiet_k1 (b1 : Int) : Option Int :=
  some b1
noncomputable def linealref05_quiet_b1 (s : Int × (List (Int × Int × Int))) (st1 : Int × Int) : Option (Step (Int × Int) Int) :=
  if (decide (st1.2 < s.1)) = true then
  (linealref05_step s st1.1 0).bind fun v0 =>
  ck (InK .i64 (st1.2 + 1)) <| some (.next ((ior .i64 st1.1 v0), (st1.2 + 1)))
  else
  some (.done st1.1)
noncomputable def linealref05_quiet (s : Int × (List (Int × Int × Int))) (set0 : Int) : Option Int :=
  (whileO (linealref05_quiet_b1 s) (set0, 0)).bind fun r1 =>
  linealref05_quiet_k1 r1

/- lineal/linealref05.comes -/
noncomputable def linealref05_comes (s : Int × (List (Int × Int × Int))) (set0 : Int) (label : Int) : Option Int :=
  if (decide (label = 0)) = true then
  (linealref05_quiet s set0).bind fun v0 =>
  some v0
  else
  (linealref05_quiet s set0).bind fun v0_2 =>
  (linealref05_step s v0_2 label).bind fun v0_3 =>
  (linealref05_quiet s v0_3).bind fun v0_4 =>
  some v0_4

/- lineal/lineallaw05.valid -/
noncomputable def lineallaw05_valid_k1 : Option Bool :=
  some true
noncomputable def lineallaw05_valid_b1 (l : List (Int × (List (Int × Int × Int)))) (st1 : Int) : Option (Step Int (Sum Unit Unit)) :=
  if (decide (st1 < (l.length : Int))) = true then
  ck (0 ≤ st1) <| ck (st1 < (l.length : Int)) <| (lineallaw05_Long (l.getD st1.toNat (0, []))).bind fun v0 =>
  if (decide (100 < ((l.getD st1.toNat (0, [])).2.length : Int))) = true then
  some (.done (Sum.inl ()))
  else
  (linealref05_Valid (l.getD st1.toNat (0, []))).bind fun v0_2 =>
  if (!v0_2) = true then
  some (.done (Sum.inl ()))
  else
  ck (InK .i64 (st1 + 1)) <| some (.next (st1 + 1))
  else
  some (.done (Sum.inr ()))
noncomputable def lineallaw05_valid (l : List (Int × (List (Int × Int × Int)))) : Option Bool :=
  (whileO (lineallaw05_valid_b1 l) 0).bind fun x => match x with
  | .inl _ => (some false)
  | .inr _ => (lineallaw05_valid_k1)

/- lineal/refine.hide -/
noncomputable def refine_hide_k1 (b2_2 : (List (Int × Int × Int))) : Option ((List (Int × Int × Int))) :=
  some b2_2
noncomputable def refine_hide_k2 (steps : List (Int × Int × Int)) (st1 : (List (Int × Int × Int)) × Int) (b2 : Int) : Option (Step ((List (Int × Int × Int)) × Int) ((List (Int × Int × Int)))) :=
  (slices_Contains st1.1 ((steps.getD st1.2.toNat (0, 0, 0)).1, b2, (steps.getD st1.2.toNat (0, 0, 0)).2.2)).bind fun v0 =>
  if (!v0) = true then
  ck ((st1.1.length + 1) * 24 ≤ 140737488355328) <| ck (InK .i64 (st1.2 + 1)) <| some (.next ((st1.1 ++ [((steps.getD st1.2.toNat (0, 0, 0)).1, b2, (steps.getD st1.2.toNat (0, 0, 0)).2.2)]), (st1.2 + 1)))
  else
  ck (InK .i64 (st1.2 + 1)) <| some (.next (st1.1, (st1.2 + 1)))
noncomputable def refine_hide_b1 (steps : List (Int × Int × Int)) (label : Int) (st1 : (List (Int × Int × Int)) × Int) : Option (Step ((List (Int × Int × Int)) × Int) ((List (Int × Int × Int)))) :=
  if (decide (st1.2 < (steps.length : Int))) = true then
  ck (0 ≤ st1.2) <| ck (st1.2 < (steps.length : Int)) <| if (decide ((steps.getD st1.2.toNat (0, 0, 0)).2.1 = label)) = true then
  refine_hide_k2 steps st1 0
  else
  refine_hide_k2 steps st1 (steps.getD st1.2.toNat (0, 0, 0)).2.1
  else
  some (.done st1.1)
noncomputable def refine_hide (steps : List (Int × Int × Int)) (label : Int) : Option ((List (Int × Int × Int))) :=
  (whileO (refine_hide_b1 steps label) ([], 0)).bind fun r1 =>
  refine_hide_k1 r1

/- lineal/refine.Hidden -/
noncomputable def refine_Hidden (s : Int × (List (Int × Int × Int))) (label : Int) : Option (Int × (List (Int × Int × Int)) × Int) :=
  (refine_Valid s).bind fun v0 =>
  if (!v0) = true then
  some (0, [], 50)
  else
  (refine_isSeen label).bind fun v0_2 =>
  if (!v0_2) = true then
  some (0, [], 2)
  else
  (refine_hide s.2 label).bind fun v0_3 =>
  some (s.1, v0_3, 0)

/- (lineal/refine.relation).list -/
noncomputable def refine_relation_list_k1 (b2_2 : (List (Int × Int))) : Option ((List (Int × Int))) :=
  some b2_2
noncomputable def refine_relation_list_k2 (st1 : (List (Int × Int)) × Int) (b2 : (List (Int × Int))) : Option (Step ((List (Int × Int)) × Int) ((List (Int × Int)))) :=
  ck (InK .i64 (st1.2 + 1)) <| some (.next (b2, (st1.2 + 1)))
noncomputable def refine_relation_list_b2 (st1 : (List (Int × Int)) × Int) (v0 : (List Int)) (st2 : (List (Int × Int)) × Int) : Option (Step ((List (Int × Int)) × Int) ((List (Int × Int)))) :=
  if (decide (st2.2 < (v0.length : Int))) = true then
  ck (0 ≤ st2.2) <| ck (st2.2 < (v0.length : Int)) <| ck ((st2.1.length + 1) * 16 ≤ 140737488355328) <| ck (InK .i64 (st2.2 + 1)) <| some (.next ((st2.1 ++ [(st1.2, (v0.getD st2.2.toNat 0))]), (st2.2 + 1)))
  else
  some (.done st2.1)
noncomputable def refine_relation_list_b1 (r0 : (El T94)) (st1 : (List (Int × Int)) × Int) : Option (Step ((List (Int × Int)) × Int) ((List (Int × Int)))) :=
  if (decide (st1.2 < 6)) = true then
  ck (0 ≤ st1.2) <| ck (st1.2 < 6) <| (refine_set_states (intAt T94 r0 (st1.2.toNat * 1))).bind fun v0 =>
  (whileO (refine_relation_list_b2 st1 v0) (st1.1, 0)).bind fun r2 =>
  refine_relation_list_k2 st1 r2
  else
  some (.done st1.1)
noncomputable def refine_relation_list (r0 : (El T94)) : Option ((List (Int × Int))) :=
  (whileO (refine_relation_list_b1 r0) ([], 0)).bind fun r1 =>
  refine_relation_list_k1 r1

/- (lineal/refine.two).follows -/
noncomputable def refine_two_follows_k1 : Option Bool :=
  some true
noncomputable def refine_two_follows_b1 (t : ((Int × (List (Int × Int × Int))) × (El T69)) × (Int × (List (Int × Int × Int))) × (El T69)) (r0 : (El T94)) (x0 : Int) (y : Int) (st1 : Int) : Option (Step Int (Sum Unit Unit)) :=
  if (decide (st1 < (t.1.1.2.length : Int))) = true then
  ck (0 ≤ st1) <| ck (st1 < (t.1.1.2.length : Int)) <| if (decide ((t.1.1.2.getD st1.toNat (0, 0, 0)).1 = x0)) = true then
  ck (0 ≤ y) <| ck (y < 6) <| ck (0 ≤ (t.1.1.2.getD st1.toNat (0, 0, 0)).2.1) <| ck ((t.1.1.2.getD st1.toNat (0, 0, 0)).2.1 < 4) <| ck (0 ≤ (t.1.1.2.getD st1.toNat (0, 0, 0)).2.2) <| ck ((t.1.1.2.getD st1.toNat (0, 0, 0)).2.2 < 6) <| if (decide ((iand .u8 (intAt T69 t.2.2 ((y.toNat * 4) + (t.1.1.2.getD st1.toNat (0, 0, 0)).2.1.toNat * 1)) (intAt T94 r0 (0 + (t.1.1.2.getD st1.toNat (0, 0, 0)).2.2.toNat * 1))) = 0)) = true then
  some (.done (Sum.inl ()))
  else
  ck (InK .i64 (st1 + 1)) <| some (.next (st1 + 1))
  else
  ck (InK .i64 (st1 + 1)) <| some (.next (st1 + 1))
  else
  some (.done (Sum.inr ()))
noncomputable def refine_two_follows (t : ((Int × (List (Int × Int × Int))) × (El T69)) × (Int × (List (Int × Int × Int))) × (El T69)) (r0 : (El T94)) (x0 : Int) (y : Int) : Option Bool :=
  (whileO (refine_two_follows_b1 t r0 x0 y) 0).bind fun x => match x with
  | .inl _ => (some false)
  | .inr _ => (refine_two_follows_k1)

/- (lineal/refine.two).held -/
noncomputable def refine_two_held_k1 (b1 : (El T94)) : Option ((El T94)) :=
  some b1
noncomputable def refine_two_held_b1 (t : ((Int × (List (Int × Int × Int))) × (El T69)) × (Int × (List (Int × Int × Int))) × (El T69)) (r0 : (El T94)) (v0 : (List (Int × Int))) (st1 : (El T94) × Int) : Option (Step ((El T94) × Int) ((El T94))) :=
  if (decide (st1.2 < (v0.length : Int))) = true then
  ck (0 ≤ st1.2) <| ck (st1.2 < (v0.length : Int)) <| (refine_two_follows t r0 (v0.getD st1.2.toNat (0, 0)).1 (v0.getD st1.2.toNat (0, 0)).2).bind fun v0_2 =>
  if v0_2 = true then
  ck (0 ≤ (v0.getD st1.2.toNat (0, 0)).1) <| ck ((v0.getD st1.2.toNat (0, 0)).1 < 6) <| ck (0 ≤ (v0.getD st1.2.toNat (0, 0)).2) <| ck (0 ≤ (v0.getD st1.2.toNat (0, 0)).1) <| ck ((v0.getD st1.2.toNat (0, 0)).1 < 6) <| ck (InK .i64 (st1.2 + 1)) <| some (.next ((setInt T94 st1.1 (0 + (v0.getD st1.2.toNat (0, 0)).1.toNat * 1) (ior .u8 (intAt T94 st1.1 (0 + (v0.getD st1.2.toNat (0, 0)).1.toNat * 1)) (ishl .u8 1 (v0.getD st1.2.toNat (0, 0)).2))), (st1.2 + 1)))
  else
  ck (InK .i64 (st1.2 + 1)) <| some (.next (st1.1, (st1.2 + 1)))
  else
  some (.done st1.1)
noncomputable def refine_two_held (t : ((Int × (List (Int × Int × Int))) × (El T69)) × (Int × (List (Int × Int × Int))) × (El T69)) (r0 : (El T94)) : Option ((El T94)) :=
  (refine_relation_list r0).bind fun v0 =>
  (whileO (refine_two_held_b1 t r0 v0) ((Ty.dflt T94), 0)).bind fun r1 =>
  refine_two_held_k1 r1

/- (lineal/refine.two).best -/
noncomputable def refine_two_best_k2 (b2 : (El T94)) : Option ((El T94)) :=
  some b2
noncomputable def refine_two_best_b2 (t : ((Int × (List (Int × Int × Int))) × (El T69)) × (Int × (List (Int × Int × Int))) × (El T69)) (st2 : (El T94) × (El T94)) : Option (Step ((El T94) × (El T94)) ((El T94))) :=
  ck (okD T94 st2.2) <| ck (okD T94 st2.1) <| if (!(decide (st2.2 = st2.1))) = true then
  (refine_two_held t st2.2).bind fun v0_2 =>
  some (.next (st2.2, v0_2))
  else
  some (.done st2.1)
noncomputable def refine_two_best_k1 (t : ((Int × (List (Int × Int × Int))) × (El T69)) × (Int × (List (Int × Int × Int))) × (El T69)) (b1 : (El T94)) : Option ((El T94)) :=
  (refine_two_held t b1).bind fun v0 =>
  (whileO (refine_two_best_b2 t) (b1, v0)).bind fun r2 =>
  refine_two_best_k2 r2
noncomputable def refine_two_best_b1 (t : ((Int × (List (Int × Int × Int))) × (El T69)) × (Int × (List (Int × Int × Int))) × (El T69)) (st1 : (El T94) × Int) : Option (Step ((El T94) × Int) ((El T94))) :=
  if (decide (st1.2 < t.1.1.1)) = true then
  ck (0 ≤ t.2.1.1) <| ck (InK .u8 ((ishl .u8 1 t.2.1.1) - 1)) <| ck (0 ≤ st1.2) <| ck (st1.2 < 6) <| ck (InK .i64 (st1.2 + 1)) <| some (.next ((setInt T94 st1.1 (0 + st1.2.toNat * 1) ((ishl .u8 1 t.2.1.1) - 1)), (st1.2 + 1)))
  else
  some (.done st1.1)
noncomputable def refine_two_best (t : ((Int × (List (Int × Int × Int))) × (El T69)) × (Int × (List (Int × Int × Int))) × (El T69)) : Option ((El T94)) :=
  (whileO (refine_two_best_b1 t) ((Ty.dflt T94), 0)).bind fun r1 =>
  refine_two_best_k1 t r1

/- lineal/refine.Refines -/
noncomputable def refine_Refines (c : Int × (List (Int × Int × Int))) (a : Int × (List (Int × Int × Int))) : Option (Bool × Int) :=
  (refine_twoOf c a).bind fun v0 =>
  if (!(decide (v0.2.2.2.2.2.2 = 0))) = true then
  some (false, v0.2.2.2.2.2.2)
  else
  (refine_two_best (((v0.1, v0.2.1), v0.2.2.1), (v0.2.2.2.1, v0.2.2.2.2.1), v0.2.2.2.2.2.1)).bind fun v0_2 =>
  (refine_set_has (intAt T94 v0_2 0) 0).bind fun v0_3 =>
  some ((decide ((iand .u8 (ishr .u8 (intAt T94 v0_2 0) 0) 1) = 1)), 0)

/- lineal/linealref05.Same -/
noncomputable def linealref05_Same_k1 : Option Bool :=
  some true
noncomputable def linealref05_Same_b1 (a : Int × (List (Int × Int × Int))) (b : Int × (List (Int × Int × Int))) (st1 : Int) : Option (Step Int (Sum Unit Unit)) :=
  if (decide (st1 < (a.2.length : Int))) = true then
  ck (0 ≤ st1) <| ck (st1 < (a.2.length : Int)) <| ck (0 ≤ st1) <| ck (st1 < (b.2.length : Int)) <| ck (InK .i64 (a.2.getD st1.toNat (0, 0, 0)).1) <| ck (InK .i64 (a.2.getD st1.toNat (0, 0, 0)).2.1) <| ck (InK .i64 (a.2.getD st1.toNat (0, 0, 0)).2.2) <| ck (InK .i64 (b.2.getD st1.toNat (0, 0, 0)).1) <| ck (InK .i64 (b.2.getD st1.toNat (0, 0, 0)).2.1) <| ck (InK .i64 (b.2.getD st1.toNat (0, 0, 0)).2.2) <| if (!(decide ((a.2.getD st1.toNat (0, 0, 0)) = (b.2.getD st1.toNat (0, 0, 0))))) = true then
  some (.done (Sum.inl ()))
  else
  ck (InK .i64 (st1 + 1)) <| some (.next (st1 + 1))
  else
  some (.done (Sum.inr ()))
noncomputable def linealref05_Same (a : Int × (List (Int × Int × Int))) (b : Int × (List (Int × Int × Int))) : Option Bool :=
  if (!(decide (a.1 = b.1))) = true then
  some false
  else
  if (!(decide ((a.2.length : Int) = (b.2.length : Int)))) = true then
  some false
  else
  (whileO (linealref05_Same_b1 a b) 0).bind fun x => match x with
  | .inl _ => (some false)
  | .inr _ => (linealref05_Same_k1)

/- slices.Grow[[]lineal/api.Step,lineal/api.Step] -/
noncomputable def slices_Grow (n : Int) : Option Unit :=
  if (decide (n < 0)) = true then
  none
  else
  ck (InK .i64 (0 - 0)) <| ck (InK .i64 (n - (0 - 0))) <| if (decide (0 < (n - (0 - 0)))) = true then
  ck (0 < (n - (0 - 0))) <| ck ((n - (0 - 0)) ≤ 9223372036854775806) <| ck (24 * (n - (0 - 0)) ≤ 281474976710656) <| ck (0 ≤ 0) <| ck (0 ≤ ((List.replicate (n - (0 - 0)).toNat ((0, 0, 0) : Int × Int × Int)).length : Int)) <| some ()
  else
  some ()

/- slices.Concat[[]lineal/api.Step,lineal/api.Step] -/
noncomputable def slices_Concat_k2 (b2 : (List (Int × Int × Int))) : Option ((List (Int × Int × Int))) :=
  some b2
noncomputable def slices_Concat_b2 (slices : List (List (Int × Int × Int))) (st2 : (List (Int × Int × Int)) × Int) : Option (Step ((List (Int × Int × Int)) × Int) ((List (Int × Int × Int)))) :=
  if (decide (st2.2 < (slices.length : Int))) = true then
  ck (0 ≤ st2.2) <| ck (st2.2 < (slices.length : Int)) <| ck ((st2.1.length + (slices.getD st2.2.toNat []).length) * 24 ≤ 140737488355328) <| ck (InK .i64 (st2.2 + 1)) <| some (.next ((st2.1 ++ (slices.getD st2.2.toNat [])), (st2.2 + 1)))
  else
  some (.done st2.1)
noncomputable def slices_Concat_k1 (slices : List (List (Int × Int × Int))) (b1 : Int) : Option ((List (Int × Int × Int))) :=
  (slices_Grow b1).bind fun v0 =>
  (whileO (slices_Concat_b2 slices) ([], 0)).bind fun r2 =>
  slices_Concat_k2 r2
noncomputable def slices_Concat_b1 (slices : List (List (Int × Int × Int))) (st1 : Int × Int) : Option (Step (Int × Int) Int) :=
  if (decide (st1.2 < (slices.length : Int))) = true then
  ck (0 ≤ st1.2) <| ck (st1.2 < (slices.length : Int)) <| ck (InK .i64 (st1.1 + ((slices.getD st1.2.toNat []).length : Int))) <| if (decide ((st1.1 + ((slices.getD st1.2.toNat []).length : Int)) < 0)) = true then
  none
  else
  ck (InK .i64 (st1.2 + 1)) <| some (.next ((st1.1 + ((slices.getD st1.2.toNat []).length : Int)), (st1.2 + 1)))
  else
  some (.done st1.1)
noncomputable def slices_Concat (slices : List (List (Int × Int × Int))) : Option ((List (Int × Int × Int))) :=
  (whileO (slices_Concat_b1 slices) (0, 0)).bind fun r1 =>
  slices_Concat_k1 slices r1

/- lineal/refine.Without -/
noncomputable def refine_Without (s : Int × (List (Int × Int × Int))) (step : Int) : Option (Int × (List (Int × Int × Int)) × Int) :=
  (refine_Valid s).bind fun v0 =>
  if (!v0) = true then
  some (0, [], 50)
  else
  if (decide (step < 0)) = true then
  some (0, [], 2)
  else
  if (decide ((s.2.length : Int) ≤ step)) = true then
  some (0, [], 2)
  else
  ck (0 ≤ step) <| ck (step ≤ (s.2.length : Int)) <| ck (InK .i64 (step + 1)) <| ck (0 ≤ (step + 1)) <| ck ((step + 1) ≤ (s.2.length : Int)) <| (slices_Concat [(s.2.take step.toNat), (s.2.drop (step + 1).toNat)]).bind fun v0_2 =>
  some (s.1, v0_2, 0)

/- lineal/lineallaw05.RefineHides -/
noncomputable def lineallaw05_RefineHides_k1 (c : Int × (List (Int × Int × Int))) (step : Int) : Option Bool :=
  if (decide ((c.2.length : Int) = 0)) = true then
  (lineallaw05_Awake).bind fun v0_10 =>
  some v0_10
  else
  ck (InK .i64 step) <| ck (0 ≤ step) <| ck (0 < (c.2.length : Int)) <| (refine_Without c (step % (c.2.length : Int))).bind fun v0_11 =>
  (refine_Refines (v0_11.1, v0_11.2.1) c).bind fun v0_12 =>
  if (decide (v0_11.2.2 = 0)) = true then
  if (decide (v0_12.2 = 0)) = true then
  if v0_12.1 = true then
  ck (InK .i64 ((c.2.length : Int) - 1)) <| if (decide ((v0_11.2.1.length : Int) = ((c.2.length : Int) - 1))) = true then
  (lineallaw05_Awake).bind fun v0_13 =>
  some v0_13
  else
  some false
  else
  some false
  else
  some false
  else
  some false
noncomputable def lineallaw05_RefineHides (c : Int × (List (Int × Int × Int))) (a : Int × (List (Int × Int × Int))) (label : Int) (step : Int) : Option Bool :=
  (lineallaw05_valid [c, a]).bind fun v0 =>
  if (!v0) = true then
  (lineallaw05_Awake).bind fun v0_2 =>
  some v0_2
  else
  ck (InK .i64 label) <| ck (0 ≤ label) <| ck (InK .i64 (1 + (label % 3))) <| (refine_Hidden c (1 + (label % 3))).bind fun v0_3 =>
  (refine_Hidden a (1 + (label % 3))).bind fun v0_4 =>
  (refine_Refines c a).bind fun v0_5 =>
  (refine_Refines (v0_3.1, v0_3.2.1) (v0_4.1, v0_4.2.1)).bind fun v0_6 =>
  (refine_Hidden (v0_3.1, v0_3.2.1) (1 + (label % 3))).bind fun v0_7 =>
  if (!(decide (v0_3.2.2 = 0))) = true then
  some false
  else
  if (!(decide (v0_4.2.2 = 0))) = true then
  some false
  else
  if (!(decide (v0_5.2 = 0))) = true then
  some false
  else
  if (!(decide (v0_6.2 = 0))) = true then
  some false
  else
  if (!(decide (v0_7.2.2 = 0))) = true then
  some false
  else
  if v0_5.1 = true then
  if (!v0_6.1) = true then
  some false
  else
  (linealref05_Same (v0_7.1, v0_7.2.1) (v0_3.1, v0_3.2.1)).bind fun v0_8 =>
  if (!v0_8) = true then
  some false
  else
  lineallaw05_RefineHides_k1 c step
  else
  (linealref05_Same (v0_7.1, v0_7.2.1) (v0_3.1, v0_3.2.1)).bind fun v0_9 =>
  if (!v0_9) = true then
  some false
  else
  lineallaw05_RefineHides_k1 c step

/- cmp.isNaN[int] -/
noncomputable def cmp_isNaN (x0 : Int) : Option Unit :=
  some ()

/- cmp.Compare[int] -/
noncomputable def cmp_Compare (x0 : Int) (y : Int) : Option Int :=
  (cmp_isNaN x0).bind fun v0 =>
  (cmp_isNaN y).bind fun v0_2 =>
  if (decide (x0 < y)) = true then
  some (-1)
  else
  if (decide (y < x0)) = true then
  some 1
  else
  some 0

/- slices.Compare[[]int,int] -/
noncomputable def slices_Compare_k1 (s1 : List Int) : Option Int :=
  if (decide ((s1.length : Int) < 2)) = true then
  some (-1)
  else
  some 0
noncomputable def slices_Compare_k2 (b2 : Int × Int × Int) : Option (Step Int (Sum Int Unit)) :=
  (cmp_Compare b2.1 b2.2.1).bind fun v0 =>
  if (!(decide (v0 = 0))) = true then
  some (.done (Sum.inl v0))
  else
  ck (InK .i64 (b2.2.2 + 1)) <| some (.next (b2.2.2 + 1))
noncomputable def slices_Compare_b1 (s1 : List Int) (s2 : Int × Int) (st1 : Int) : Option (Step Int (Sum Int Unit)) :=
  if (decide (st1 < (s1.length : Int))) = true then
  ck (0 ≤ st1) <| ck (st1 < (s1.length : Int)) <| if (decide (2 ≤ st1)) = true then
  some (.done (Sum.inl 1))
  else
  ck (0 ≤ st1) <| ck (st1 < 2) <| if (decide (st1 = 0)) = true then
  slices_Compare_k2 ((s1.getD 0 0), s2.1, 0)
  else
  slices_Compare_k2 ((s1.getD 1 0), s2.2, 1)
  else
  some (.done (Sum.inr ()))
noncomputable def slices_Compare (s1 : List Int) (s2 : Int × Int) : Option Int :=
  (whileO (slices_Compare_b1 s1 s2) 0).bind fun x => match x with
  | .inl r1 => (some r1)
  | .inr _ => (slices_Compare_k1 s1)

/- lineal/refine.isRelation -/
noncomputable def refine_isRelation_k1 : Option Bool :=
  some true
noncomputable def refine_isRelation_b1 (list : List (Int × Int)) (n : Int) (m : Int) (st1 : Int) : Option (Step Int (Sum Unit Unit)) :=
  if (decide (st1 < (list.length : Int))) = true then
  ck (0 ≤ st1) <| ck (st1 < (list.length : Int)) <| if (decide ((list.getD st1.toNat (0, 0)).1 < 0)) = true then
  some (.done (Sum.inl ()))
  else
  if (decide (n ≤ (list.getD st1.toNat (0, 0)).1)) = true then
  some (.done (Sum.inl ()))
  else
  if (decide ((list.getD st1.toNat (0, 0)).2 < 0)) = true then
  some (.done (Sum.inl ()))
  else
  if (decide (m ≤ (list.getD st1.toNat (0, 0)).2)) = true then
  some (.done (Sum.inl ()))
  else
  if (decide (0 < st1)) = true then
  ck (InK .i64 (st1 - 1)) <| ck (0 ≤ (st1 - 1)) <| ck ((st1 - 1) < (list.length : Int)) <| (slices_Compare [(list.getD (st1 - 1).toNat (0, 0)).1, (list.getD (st1 - 1).toNat (0, 0)).2] (list.getD st1.toNat (0, 0))).bind fun v0 =>
  if (decide (0 ≤ v0)) = true then
  some (.done (Sum.inl ()))
  else
  ck (InK .i64 (st1 + 1)) <| some (.next (st1 + 1))
  else
  ck (InK .i64 (st1 + 1)) <| some (.next (st1 + 1))
  else
  some (.done (Sum.inr ()))
noncomputable def refine_isRelation (list : List (Int × Int)) (n : Int) (m : Int) : Option Bool :=
  (whileO (refine_isRelation_b1 list n m) 0).bind fun x => match x with
  | .inl _ => (some false)
  | .inr _ => (refine_isRelation_k1)

/- lineal/refine.relationOf -/
noncomputable def refine_relationOf_k1 (b1 : (El T94)) : Option ((El T94)) :=
  some b1
noncomputable def refine_relationOf_b1 (list : List (Int × Int)) (st1 : (El T94) × Int) : Option (Step ((El T94) × Int) ((El T94))) :=
  if (decide (st1.2 < (list.length : Int))) = true then
  ck (0 ≤ st1.2) <| ck (st1.2 < (list.length : Int)) <| ck (0 ≤ (list.getD st1.2.toNat (0, 0)).1) <| ck ((list.getD st1.2.toNat (0, 0)).1 < 6) <| ck (0 ≤ (list.getD st1.2.toNat (0, 0)).2) <| ck (0 ≤ (list.getD st1.2.toNat (0, 0)).1) <| ck ((list.getD st1.2.toNat (0, 0)).1 < 6) <| ck (InK .i64 (st1.2 + 1)) <| some (.next ((setInt T94 st1.1 (0 + (list.getD st1.2.toNat (0, 0)).1.toNat * 1) (ior .u8 (intAt T94 st1.1 (0 + (list.getD st1.2.toNat (0, 0)).1.toNat * 1)) (ishl .u8 1 (list.getD st1.2.toNat (0, 0)).2))), (st1.2 + 1)))
  else
  some (.done st1.1)
noncomputable def refine_relationOf (list : List (Int × Int)) : Option ((El T94)) :=
  (whileO (refine_relationOf_b1 list) ((Ty.dflt T94), 0)).bind fun r1 =>
  refine_relationOf_k1 r1

/- (lineal/refine.relation).composed -/
noncomputable def refine_relation_composed_k1 (b1 : (El T94)) : Option ((El T94)) :=
  some b1
noncomputable def refine_relation_composed_b1 (s : (El T94)) (v0 : (List (Int × Int))) (st1 : (El T94) × Int) : Option (Step ((El T94) × Int) ((El T94))) :=
  if (decide (st1.2 < (v0.length : Int))) = true then
  ck (0 ≤ st1.2) <| ck (st1.2 < (v0.length : Int)) <| ck (0 ≤ (v0.getD st1.2.toNat (0, 0)).1) <| ck ((v0.getD st1.2.toNat (0, 0)).1 < 6) <| ck (0 ≤ (v0.getD st1.2.toNat (0, 0)).2) <| ck ((v0.getD st1.2.toNat (0, 0)).2 < 6) <| ck (0 ≤ (v0.getD st1.2.toNat (0, 0)).1) <| ck ((v0.getD st1.2.toNat (0, 0)).1 < 6) <| ck (InK .i64 (st1.2 + 1)) <| some (.next ((setInt T94 st1.1 (0 + (v0.getD st1.2.toNat (0, 0)).1.toNat * 1) (ior .u8 (intAt T94 st1.1 (0 + (v0.getD st1.2.toNat (0, 0)).1.toNat * 1)) (intAt T94 s (0 + (v0.getD st1.2.toNat (0, 0)).2.toNat * 1)))), (st1.2 + 1)))
  else
  some (.done st1.1)
noncomputable def refine_relation_composed (r0 : (El T94)) (s : (El T94)) : Option ((El T94)) :=
  (refine_relation_list r0).bind fun v0 =>
  (whileO (refine_relation_composed_b1 s v0) ((Ty.dflt T94), 0)).bind fun r1 =>
  refine_relation_composed_k1 r1

/- lineal/refine.Composed -/
noncomputable def refine_Composed (r0 : List (Int × Int)) (s : List (Int × Int)) : Option ((List (Int × Int)) × Int) :=
  (refine_isRelation r0 6 6).bind fun v0 =>
  if (!v0) = true then
  some ([], 2)
  else
  (refine_isRelation s 6 6).bind fun v0_2 =>
  if (!v0_2) = true then
  some ([], 2)
  else
  (refine_relationOf r0).bind fun v0_3 =>
  (refine_relationOf s).bind fun v0_4 =>
  (refine_relation_composed v0_3 v0_4).bind fun v0_5 =>
  (refine_relation_list v0_5).bind fun v0_6 =>
  some (v0_6, 0)

/- lineal/linealref05.isRelation -/
noncomputable def linealref05_isRelation_k1 : Option Bool :=
  some true
noncomputable def linealref05_isRelation_b1 (r0 : List (Int × Int)) (m : Int) (n : Int) (st1 : Int) : Option (Step Int (Sum Unit Unit)) :=
  if (decide (st1 < (r0.length : Int))) = true then
  ck (0 ≤ st1) <| ck (st1 < (r0.length : Int)) <| if (decide ((r0.getD st1.toNat (0, 0)).1 < 0)) = true then
  some (.done (Sum.inl ()))
  else
  if (decide (m ≤ (r0.getD st1.toNat (0, 0)).1)) = true then
  some (.done (Sum.inl ()))
  else
  if (decide ((r0.getD st1.toNat (0, 0)).2 < 0)) = true then
  some (.done (Sum.inl ()))
  else
  if (decide (n ≤ (r0.getD st1.toNat (0, 0)).2)) = true then
  some (.done (Sum.inl ()))
  else
  if (decide (0 < st1)) = true then
  ck (InK .i64 (st1 - 1)) <| ck (0 ≤ (st1 - 1)) <| ck ((st1 - 1) < (r0.length : Int)) <| if (decide ((r0.getD st1.toNat (0, 0)).1 < (r0.getD (st1 - 1).toNat (0, 0)).1)) = true then
  some (.done (Sum.inl ()))
  else
  ck (InK .i64 (st1 - 1)) <| ck (0 ≤ (st1 - 1)) <| ck ((st1 - 1) < (r0.length : Int)) <| if (decide ((r0.getD st1.toNat (0, 0)).1 = (r0.getD (st1 - 1).toNat (0, 0)).1)) = true then
  ck (InK .i64 (st1 - 1)) <| ck (0 ≤ (st1 - 1)) <| ck ((st1 - 1) < (r0.length : Int)) <| if (decide ((r0.getD st1.toNat (0, 0)).2 ≤ (r0.getD (st1 - 1).toNat (0, 0)).2)) = true then
  some (.done (Sum.inl ()))
  else
  ck (InK .i64 (st1 + 1)) <| some (.next (st1 + 1))
  else
  ck (InK .i64 (st1 + 1)) <| some (.next (st1 + 1))
  else
  ck (InK .i64 (st1 + 1)) <| some (.next (st1 + 1))
  else
  some (.done (Sum.inr ()))
noncomputable def linealref05_isRelation (r0 : List (Int × Int)) (m : Int) (n : Int) : Option Bool :=
  (whileO (linealref05_isRelation_b1 r0 m n) 0).bind fun x => match x with
  | .inl _ => (some false)
  | .inr _ => (linealref05_isRelation_k1)

/- lineal/linealref05.list -/
noncomputable def linealref05_list_k1 (b1 : (List Int)) : Option ((List Int)) :=
  some b1
noncomputable def linealref05_list_b1 (set0 : Int) (st1 : (List Int) × Int) : Option (Step ((List Int) × Int) ((List Int))) :=
  if (decide (st1.2 < 6)) = true then
  ck (0 ≤ st1.2) <| if (decide ((iand .i64 (ishr .i64 set0 st1.2) 1) = 1)) = true then
  ck ((st1.1.length + 1) * 8 ≤ 140737488355328) <| ck (InK .i64 (st1.2 + 1)) <| some (.next ((st1.1 ++ [st1.2]), (st1.2 + 1)))
  else
  ck (InK .i64 (st1.2 + 1)) <| some (.next (st1.1, (st1.2 + 1)))
  else
  some (.done st1.1)
noncomputable def linealref05_list (set0 : Int) : Option ((List Int)) :=
  (whileO (linealref05_list_b1 set0) ([], 0)).bind fun r1 =>
  linealref05_list_k1 r1

/- lineal/linealref05.relation -/
noncomputable def linealref05_relation_k1 (b2_2 : (List (Int × Int))) : Option ((List (Int × Int))) :=
  some b2_2
noncomputable def linealref05_relation_k2 (st1 : (List (Int × Int)) × Int) (b2 : (List (Int × Int))) : Option (Step ((List (Int × Int)) × Int) ((List (Int × Int)))) :=
  ck (InK .i64 (st1.2 + 1)) <| some (.next (b2, (st1.2 + 1)))
noncomputable def linealref05_relation_b2 (st1 : (List (Int × Int)) × Int) (v0 : (List Int)) (st2 : (List (Int × Int)) × Int) : Option (Step ((List (Int × Int)) × Int) ((List (Int × Int)))) :=
  if (decide (st2.2 < (v0.length : Int))) = true then
  ck (0 ≤ st2.2) <| ck (st2.2 < (v0.length : Int)) <| ck ((st2.1.length + 1) * 16 ≤ 140737488355328) <| ck (InK .i64 (st2.2 + 1)) <| some (.next ((st2.1 ++ [(st1.2, (v0.getD st2.2.toNat 0))]), (st2.2 + 1)))
  else
  some (.done st2.1)
noncomputable def linealref05_relation_b1 (pairs : List Int) (st1 : (List (Int × Int)) × Int) : Option (Step ((List (Int × Int)) × Int) ((List (Int × Int)))) :=
  if (decide (st1.2 < (pairs.length : Int))) = true then
  ck (0 ≤ st1.2) <| ck (st1.2 < (pairs.length : Int)) <| (linealref05_list (pairs.getD st1.2.toNat 0)).bind fun v0 =>
  (whileO (linealref05_relation_b2 st1 v0) (st1.1, 0)).bind fun r2 =>
  linealref05_relation_k2 st1 r2
  else
  some (.done st1.1)
noncomputable def linealref05_relation (pairs : List Int) : Option ((List (Int × Int))) :=
  (whileO (linealref05_relation_b1 pairs) ([], 0)).bind fun r1 =>
  linealref05_relation_k1 r1

/- lineal/linealref05.Composed -/
noncomputable def linealref05_Composed_k1 (b2_2 : (List Int)) : Option ((List (Int × Int)) × Int) :=
  (linealref05_relation b2_2).bind fun v0_3 =>
  some (v0_3, 0)
noncomputable def linealref05_Composed_k2 (st1 : (List Int) × Int) (b2 : (List Int)) : Option (Step ((List Int) × Int) ((List Int))) :=
  ck (InK .i64 (st1.2 + 1)) <| some (.next (b2, (st1.2 + 1)))
noncomputable def linealref05_Composed_b2 (r0 : List (Int × Int)) (s : List (Int × Int)) (st1 : (List Int) × Int) (st2 : (List Int) × Int) : Option (Step ((List Int) × Int) ((List Int))) :=
  if (decide (st2.2 < (s.length : Int))) = true then
  ck (0 ≤ st2.2) <| ck (st2.2 < (s.length : Int)) <| if (decide ((r0.getD st1.2.toNat (0, 0)).2 = (s.getD st2.2.toNat (0, 0)).1)) = true then
  ck (0 ≤ (r0.getD st1.2.toNat (0, 0)).1) <| ck ((r0.getD st1.2.toNat (0, 0)).1 < (st2.1.length : Int)) <| ck (0 ≤ (s.getD st2.2.toNat (0, 0)).2) <| ck (0 ≤ (r0.getD st1.2.toNat (0, 0)).1) <| ck ((r0.getD st1.2.toNat (0, 0)).1 < (st2.1.length : Int)) <| ck (InK .i64 (st2.2 + 1)) <| some (.next ((st2.1.set (r0.getD st1.2.toNat (0, 0)).1.toNat (ior .i64 (st2.1.getD (r0.getD st1.2.toNat (0, 0)).1.toNat 0) (ishl .i64 1 (s.getD st2.2.toNat (0, 0)).2))), (st2.2 + 1)))
  else
  ck (InK .i64 (st2.2 + 1)) <| some (.next (st2.1, (st2.2 + 1)))
  else
  some (.done st2.1)
noncomputable def linealref05_Composed_b1 (r0 : List (Int × Int)) (s : List (Int × Int)) (st1 : (List Int) × Int) : Option (Step ((List Int) × Int) ((List Int))) :=
  if (decide (st1.2 < (r0.length : Int))) = true then
  ck (0 ≤ st1.2) <| ck (st1.2 < (r0.length : Int)) <| (whileO (linealref05_Composed_b2 r0 s st1) (st1.1, 0)).bind fun r2 =>
  linealref05_Composed_k2 st1 r2
  else
  some (.done st1.1)
noncomputable def linealref05_Composed (r0 : List (Int × Int)) (s : List (Int × Int)) : Option ((List (Int × Int)) × Int) :=
  (linealref05_isRelation r0 6 6).bind fun v0 =>
  if (!v0) = true then
  some ([], 2)
  else
  (linealref05_isRelation s 6 6).bind fun v0_2 =>
  if (!v0_2) = true then
  some ([], 2)
  else
  (whileO (linealref05_Composed_b1 r0 s) ((List.replicate 6 (0 : Int)), 0)).bind fun r1 =>
  linealref05_Composed_k1 r1

/- lineal/linealref05.SamePairs -/
noncomputable def linealref05_SamePairs_k1 : Option Bool :=
  some true
noncomputable def linealref05_SamePairs_b1 (a : List (Int × Int)) (b : List (Int × Int)) (st1 : Int) : Option (Step Int (Sum Unit Unit)) :=
  if (decide (st1 < (a.length : Int))) = true then
  ck (0 ≤ st1) <| ck (st1 < (a.length : Int)) <| ck (0 ≤ st1) <| ck (st1 < (b.length : Int)) <| ck (InK .i64 (a.getD st1.toNat (0, 0)).1) <| ck (InK .i64 (a.getD st1.toNat (0, 0)).2) <| ck (InK .i64 (b.getD st1.toNat (0, 0)).1) <| ck (InK .i64 (b.getD st1.toNat (0, 0)).2) <| if (!(decide ((a.getD st1.toNat (0, 0)) = (b.getD st1.toNat (0, 0))))) = true then
  some (.done (Sum.inl ()))
  else
  ck (InK .i64 (st1 + 1)) <| some (.next (st1 + 1))
  else
  some (.done (Sum.inr ()))
noncomputable def linealref05_SamePairs (a : List (Int × Int)) (b : List (Int × Int)) : Option Bool :=
  if (!(decide ((a.length : Int) = (b.length : Int)))) = true then
  some false
  else
  (whileO (linealref05_SamePairs_b1 a b) 0).bind fun x => match x with
  | .inl _ => (some false)
  | .inr _ => (linealref05_SamePairs_k1)

/- lineal/lineallaw05.RefineComposed -/
noncomputable def lineallaw05_RefineComposed (r0 : List (Int × Int)) (s : List (Int × Int)) : Option Bool :=
  if (decide (100 < (r0.length : Int))) = true then
  (lineallaw05_Awake).bind fun v0 =>
  some v0
  else
  if (decide (100 < (s.length : Int))) = true then
  (lineallaw05_Awake).bind fun v0_2 =>
  some v0_2
  else
  (refine_Composed r0 s).bind fun v0_3 =>
  (linealref05_Composed r0 s).bind fun v0_4 =>
  (linealref05_SamePairs v0_3.1 v0_4.1).bind fun v0_5 =>
  if v0_5 = true then
  if (decide (v0_3.2 = v0_4.2)) = true then
  (lineallaw05_Awake).bind fun v0_6 =>
  some v0_6
  else
  some false
  else
  some false

/- lineal/refine.Best -/
noncomputable def refine_Best (c : Int × (List (Int × Int × Int))) (a : Int × (List (Int × Int × Int))) : Option ((List (Int × Int)) × Int) :=
  (refine_twoOf c a).bind fun v0 =>
  if (!(decide (v0.2.2.2.2.2.2 = 0))) = true then
  some ([], v0.2.2.2.2.2.2)
  else
  (refine_two_best (((v0.1, v0.2.1), v0.2.2.1), (v0.2.2.2.1, v0.2.2.2.2.1), v0.2.2.2.2.2.1)).bind fun v0_2 =>
  (refine_relation_list v0_2).bind fun v0_3 =>
  some (v0_3, 0)

/- lineal/refine.IsProof -/
noncomputable def refine_IsProof (c : Int × (List (Int × Int × Int))) (a : Int × (List (Int × Int × Int))) (relation : List (Int × Int)) : Option (Bool × Int) :=
  (refine_twoOf c a).bind fun v0 =>
  if (!(decide (v0.2.2.2.2.2.2 = 0))) = true then
  some (false, v0.2.2.2.2.2.2)
  else
  (refine_isRelation relation c.1 a.1).bind fun v0_2 =>
  if (!v0_2) = true then
  some (false, 2)
  else
  (refine_relationOf relation).bind fun v0_3 =>
  (refine_two_held (((v0.1, v0.2.1), v0.2.2.1), (v0.2.2.2.1, v0.2.2.2.2.1), v0.2.2.2.2.2.1) v0_3).bind fun v0_4 =>
  ck (okD T94 v0_4) <| ck (okD T94 v0_3) <| some ((decide (v0_4 = v0_3)), 0)

/- math/bits.TrailingZeros8 -/
noncomputable def math_bits_TrailingZeros8 (x0 : Int) : Option Unit :=
  ck (0 ≤ x0) <| ck (x0 < 256) <| ck (InK .i64 (strAt strL0 x0.toNat)) <| some ()

/- (lineal/refine.set).least -/
noncomputable def refine_set_least (s : Int) : Option Unit :=
  (math_bits_TrailingZeros8 s).bind fun v0 =>
  some ()

/- (lineal/refine.two).proof$1 -/
noncomputable def refine_two_proof_1_b1 (slf : Int → Int → ((El T94)) → (((Int × (List (Int × Int × Int))) × (El T69)) × (Int × (List (Int × Int × Int))) × (El T69)) → ((El T94)) → Option ((El T94))) (x0 : Int) (y : Int) (a3 : ((Int × (List (Int × Int × Int))) × (El T69)) × (Int × (List (Int × Int × Int))) × (El T69)) (a4 : (El T94)) (st1 : (El T94) × Int) : Option (Step ((El T94) × Int) ((El T94))) :=
  if (decide (st1.2 < (a3.1.1.2.length : Int))) = true then
  ck (0 ≤ st1.2) <| ck (st1.2 < (a3.1.1.2.length : Int)) <| if (decide ((a3.1.1.2.getD st1.2.toNat (0, 0, 0)).1 = x0)) = true then
  ck (0 ≤ y) <| ck (y < 6) <| ck (0 ≤ (a3.1.1.2.getD st1.2.toNat (0, 0, 0)).2.1) <| ck ((a3.1.1.2.getD st1.2.toNat (0, 0, 0)).2.1 < 4) <| ck (0 ≤ (a3.1.1.2.getD st1.2.toNat (0, 0, 0)).2.2) <| ck ((a3.1.1.2.getD st1.2.toNat (0, 0, 0)).2.2 < 6) <| (refine_set_least (iand .u8 (intAt T69 a3.2.2 ((y.toNat * 4) + (a3.1.1.2.getD st1.2.toNat (0, 0, 0)).2.1.toNat * 1)) (intAt T94 a4 (0 + (a3.1.1.2.getD st1.2.toNat (0, 0, 0)).2.2.toNat * 1)))).bind fun v0_2 =>
  (slf (a3.1.1.2.getD st1.2.toNat (0, 0, 0)).2.2 (strAt strL0 (iand .u8 (intAt T69 a3.2.2 ((y.toNat * 4) + (a3.1.1.2.getD st1.2.toNat (0, 0, 0)).2.1.toNat * 1)) (intAt T94 a4 (0 + (a3.1.1.2.getD st1.2.toNat (0, 0, 0)).2.2.toNat * 1))).toNat) st1.1 a3 a4).bind fun v0_3 =>
  ck (InK .i64 (st1.2 + 1)) <| some (.next (v0_3, (st1.2 + 1)))
  else
  ck (InK .i64 (st1.2 + 1)) <| some (.next (st1.1, (st1.2 + 1)))
  else
  some (.done st1.1)
noncomputable def refine_two_proof_1F (slf : Int → Int → ((El T94)) → (((Int × (List (Int × Int × Int))) × (El T69)) × (Int × (List (Int × Int × Int))) × (El T69)) → ((El T94)) → Option ((El T94))) (x0 : Int) (y : Int) (a2 : (El T94)) (a3 : ((Int × (List (Int × Int × Int))) × (El T69)) × (Int × (List (Int × Int × Int))) × (El T69)) (a4 : (El T94)) : Option ((El T94)) :=
  ck (0 ≤ x0) <| ck (x0 < 6) <| (refine_set_has (intAt T94 a2 (0 + x0.toNat * 1)) y).bind fun v0 =>
  if (decide ((iand .u8 (ishr .u8 (intAt T94 a2 (0 + x0.toNat * 1)) y) 1) = 1)) = true then
  some a2
  else
  ck (0 ≤ x0) <| ck (x0 < 6) <| ck (0 ≤ y) <| ck (0 ≤ x0) <| ck (x0 < 6) <| (whileO (refine_two_proof_1_b1 slf x0 y a3 a4) ((setInt T94 a2 (0 + x0.toNat * 1) (ior .u8 (intAt T94 a2 (0 + x0.toNat * 1)) (ishl .u8 1 y))), 0)).bind fun r1 =>
  some r1
noncomputable def refine_two_proof_1 (n : Nat) : Int → Int → ((El T94)) → (((Int × (List (Int × Int × Int))) × (El T69)) × (Int × (List (Int × Int × Int))) × (El T69)) → ((El T94)) → Option ((El T94)) := Nat.rec (motive := fun _ => Int → Int → ((El T94)) → (((Int × (List (Int × Int × Int))) × (El T69)) × (Int × (List (Int × Int × Int))) × (El T69)) → ((El T94)) → Option ((El T94))) (fun _ _ _ _ _ => none) (fun _ slf => refine_two_proof_1F slf) n

/- (lineal/refine.two).proof -/
noncomputable def refine_two_proof (t : ((Int × (List (Int × Int × Int))) × (El T69)) × (Int × (List (Int × Int × Int))) × (El T69)) : Option ((El T94) × Bool) :=
  (refine_two_best t).bind fun v0 =>
  (refine_set_has (intAt T94 v0 0) 0).bind fun v0_2 =>
  if (!(decide ((iand .u8 (ishr .u8 (intAt T94 v0 0) 0) 1) = 1))) = true then
  some ((Ty.dflt T94), false)
  else
  (refine_two_proof_1 fuel 0 0 (Ty.dflt T94) t v0).bind fun v0_3 =>
  some (v0_3, true)

/- lineal/refine.Proof -/
noncomputable def refine_Proof (c : Int × (List (Int × Int × Int))) (a : Int × (List (Int × Int × Int))) : Option ((List (Int × Int)) × Int) :=
  (refine_twoOf c a).bind fun v0 =>
  if (!(decide (v0.2.2.2.2.2.2 = 0))) = true then
  some ([], v0.2.2.2.2.2.2)
  else
  (refine_two_proof (((v0.1, v0.2.1), v0.2.2.1), (v0.2.2.2.1, v0.2.2.2.2.1), v0.2.2.2.2.2.1)).bind fun v0_2 =>
  if (!v0_2.2) = true then
  some ([], 5)
  else
  (refine_relation_list v0_2.1).bind fun v0_3 =>
  some (v0_3, 0)

/- lineal/linealref05.holds -/
noncomputable def linealref05_holds_k1 : Option Bool :=
  some true
noncomputable def linealref05_holds_b1 (c : Int × (List (Int × Int × Int))) (a : Int × (List (Int × Int × Int))) (pairs : List Int) (x0 : Int) (y : Int) (st1 : Int) : Option (Step Int (Sum Unit Unit)) :=
  if (decide (st1 < (c.2.length : Int))) = true then
  ck (0 ≤ st1) <| ck (st1 < (c.2.length : Int)) <| if (decide ((c.2.getD st1.toNat (0, 0, 0)).1 = x0)) = true then
  ck (0 ≤ y) <| (linealref05_comes a (ishl .i64 1 y) (c.2.getD st1.toNat (0, 0, 0)).2.1).bind fun v0 =>
  ck (0 ≤ (c.2.getD st1.toNat (0, 0, 0)).2.2) <| ck ((c.2.getD st1.toNat (0, 0, 0)).2.2 < (pairs.length : Int)) <| if (decide ((iand .i64 v0 (pairs.getD (c.2.getD st1.toNat (0, 0, 0)).2.2.toNat 0)) = 0)) = true then
  some (.done (Sum.inl ()))
  else
  ck (InK .i64 (st1 + 1)) <| some (.next (st1 + 1))
  else
  ck (InK .i64 (st1 + 1)) <| some (.next (st1 + 1))
  else
  some (.done (Sum.inr ()))
noncomputable def linealref05_holds (c : Int × (List (Int × Int × Int))) (a : Int × (List (Int × Int × Int))) (pairs : List Int) (x0 : Int) (y : Int) : Option Bool :=
  (whileO (linealref05_holds_b1 c a pairs x0 y) 0).bind fun x => match x with
  | .inl _ => (some false)
  | .inr _ => (linealref05_holds_k1)

/- lineal/linealref05.best -/
noncomputable def linealref05_best_k2 (b4_3 : (List Int)) : Option ((List Int)) :=
  some b4_3
noncomputable def linealref05_best_k3 (st2 : (List Int) × Int) (b4_2 : (List Int)) : Option (Step ((List Int) × Int) ((List Int))) :=
  ck (InK .i64 (st2.2 + 1)) <| some (.next (b4_2, (st2.2 + 1)))
noncomputable def linealref05_best_k4 (st3 : (List Int) × Int) (b4 : (List Int)) : Option (Step ((List Int) × Int) ((List Int))) :=
  ck (InK .i64 (st3.2 + 1)) <| some (.next (b4, (st3.2 + 1)))
noncomputable def linealref05_best_b4 (c : Int × (List (Int × Int × Int))) (a : Int × (List (Int × Int × Int))) (st3 : (List Int) × Int) (v0 : (List Int)) (st4 : (List Int) × Int) : Option (Step ((List Int) × Int) ((List Int))) :=
  if (decide (st4.2 < (v0.length : Int))) = true then
  ck (0 ≤ st4.2) <| ck (st4.2 < (v0.length : Int)) <| (linealref05_holds c a st4.1 st3.2 (v0.getD st4.2.toNat 0)).bind fun v0_2 =>
  if (!v0_2) = true then
  ck (0 ≤ st3.2) <| ck (st3.2 < (st4.1.length : Int)) <| ck (0 ≤ (v0.getD st4.2.toNat 0)) <| ck (0 ≤ st3.2) <| ck (st3.2 < (st4.1.length : Int)) <| ck (InK .i64 (st4.2 + 1)) <| some (.next ((st4.1.set st3.2.toNat (iandn .i64 (st4.1.getD st3.2.toNat 0) (ishl .i64 1 (v0.getD st4.2.toNat 0)))), (st4.2 + 1)))
  else
  ck (InK .i64 (st4.2 + 1)) <| some (.next (st4.1, (st4.2 + 1)))
  else
  some (.done st4.1)
noncomputable def linealref05_best_b3 (c : Int × (List (Int × Int × Int))) (a : Int × (List (Int × Int × Int))) (st2 : (List Int) × Int) (st3 : (List Int) × Int) : Option (Step ((List Int) × Int) ((List Int))) :=
  if (decide (st3.2 < (st2.1.length : Int))) = true then
  ck (0 ≤ st3.2) <| ck (st3.2 < (st3.1.length : Int)) <| (linealref05_list (st3.1.getD st3.2.toNat 0)).bind fun v0 =>
  (whileO (linealref05_best_b4 c a st3 v0) (st3.1, 0)).bind fun r4 =>
  linealref05_best_k4 st3 r4
  else
  some (.done st3.1)
noncomputable def linealref05_best_b2 (c : Int × (List (Int × Int × Int))) (a : Int × (List (Int × Int × Int))) (st2 : (List Int) × Int) : Option (Step ((List Int) × Int) ((List Int))) :=
  if (decide (st2.2 < (c.1 * a.1))) = true then
  (whileO (linealref05_best_b3 c a st2) (st2.1, 0)).bind fun r3 =>
  linealref05_best_k3 st2 r3
  else
  some (.done st2.1)
noncomputable def linealref05_best_k1 (c : Int × (List (Int × Int × Int))) (a : Int × (List (Int × Int × Int))) (b1 : (List Int)) : Option ((List Int)) :=
  ck (InK .i64 (c.1 * a.1)) <| (whileO (linealref05_best_b2 c a) (b1, 0)).bind fun r2 =>
  linealref05_best_k2 r2
noncomputable def linealref05_best_b1 (c : Int × (List (Int × Int × Int))) (a : Int × (List (Int × Int × Int))) (st1 : (List Int) × Int) : Option (Step ((List Int) × Int) ((List Int))) :=
  if (decide (st1.2 < ((List.replicate c.1.toNat (0 : Int)).length : Int))) = true then
  ck (0 ≤ a.1) <| ck (InK .i64 ((ishl .i64 1 a.1) - 1)) <| ck (0 ≤ st1.2) <| ck (st1.2 < (st1.1.length : Int)) <| ck (InK .i64 (st1.2 + 1)) <| some (.next ((st1.1.set st1.2.toNat ((ishl .i64 1 a.1) - 1)), (st1.2 + 1)))
  else
  some (.done st1.1)
noncomputable def linealref05_best (c : Int × (List (Int × Int × Int))) (a : Int × (List (Int × Int × Int))) : Option ((List Int)) :=
  ck (0 ≤ c.1) <| ck (8 * c.1 ≤ 281474976710656) <| (whileO (linealref05_best_b1 c a) ((List.replicate c.1.toNat (0 : Int)), 0)).bind fun r1 =>
  linealref05_best_k1 c a r1

/- lineal/linealref05.Best -/
noncomputable def linealref05_Best (c : Int × (List (Int × Int × Int))) (a : Int × (List (Int × Int × Int))) : Option ((List (Int × Int)) × Int) :=
  (linealref05_Valid c).bind fun v0 =>
  if (!v0) = true then
  some ([], 50)
  else
  (linealref05_Valid a).bind fun v0_2 =>
  if (!v0_2) = true then
  some ([], 50)
  else
  (linealref05_best c a).bind fun v0_3 =>
  (linealref05_relation v0_3).bind fun v0_4 =>
  some (v0_4, 0)

/- lineal/linealref05.Proof -/
noncomputable def linealref05_Proof_k1 (b4_4 : (List Int)) : Option ((List (Int × Int)) × Int) :=
  (linealref05_relation b4_4).bind fun v0_7 =>
  some (v0_7, 0)
noncomputable def linealref05_Proof_k2 (st1 : (List Int) × Int) (b4_3 : (List Int)) : Option (Step ((List Int) × Int) ((List Int))) :=
  ck (InK .i64 (st1.2 + 1)) <| some (.next (b4_3, (st1.2 + 1)))
noncomputable def linealref05_Proof_k3 (st2 : (List Int) × Int) (b4_2 : (List Int)) : Option (Step ((List Int) × Int) ((List Int))) :=
  ck (InK .i64 (st2.2 + 1)) <| some (.next (b4_2, (st2.2 + 1)))
noncomputable def linealref05_Proof_k4 (st3 : (List Int) × Int) (b4 : (List Int)) : Option (Step ((List Int) × Int) ((List Int))) :=
  ck (InK .i64 (st3.2 + 1)) <| some (.next (b4, (st3.2 + 1)))
noncomputable def linealref05_Proof_b4 (c : Int × (List (Int × Int × Int))) (a : Int × (List (Int × Int × Int))) (v0_3 : (List Int)) (st2 : (List Int) × Int) (v0_4 : (List Int)) (st3 : (List Int) × Int) (st4 : (List Int) × Int) : Option (Step ((List Int) × Int) ((List Int))) :=
  if (decide (st4.2 < (c.2.length : Int))) = true then
  ck (0 ≤ st4.2) <| ck (st4.2 < (c.2.length : Int)) <| if (decide ((c.2.getD st4.2.toNat (0, 0, 0)).1 = st2.2)) = true then
  ck (0 ≤ (c.2.getD st4.2.toNat (0, 0, 0)).2.2) <| ck ((c.2.getD st4.2.toNat (0, 0, 0)).2.2 < (st4.1.length : Int)) <| ck (0 ≤ (v0_4.getD st3.2.toNat 0)) <| (linealref05_comes a (ishl .i64 1 (v0_4.getD st3.2.toNat 0)) (c.2.getD st4.2.toNat (0, 0, 0)).2.1).bind fun v0_5 =>
  ck (0 ≤ (c.2.getD st4.2.toNat (0, 0, 0)).2.2) <| ck ((c.2.getD st4.2.toNat (0, 0, 0)).2.2 < (v0_3.length : Int)) <| (linealref05_list (iand .i64 v0_5 (v0_3.getD (c.2.getD st4.2.toNat (0, 0, 0)).2.2.toNat 0))).bind fun v0_6 =>
  ck (0 < (v0_6.length : Int)) <| ck (0 ≤ (v0_6.getD 0 0)) <| ck (0 ≤ (c.2.getD st4.2.toNat (0, 0, 0)).2.2) <| ck ((c.2.getD st4.2.toNat (0, 0, 0)).2.2 < (st4.1.length : Int)) <| ck (InK .i64 (st4.2 + 1)) <| some (.next ((st4.1.set (c.2.getD st4.2.toNat (0, 0, 0)).2.2.toNat (ior .i64 (st4.1.getD (c.2.getD st4.2.toNat (0, 0, 0)).2.2.toNat 0) (ishl .i64 1 (v0_6.getD 0 0)))), (st4.2 + 1)))
  else
  ck (InK .i64 (st4.2 + 1)) <| some (.next (st4.1, (st4.2 + 1)))
  else
  some (.done st4.1)
noncomputable def linealref05_Proof_b3 (c : Int × (List (Int × Int × Int))) (a : Int × (List (Int × Int × Int))) (v0_3 : (List Int)) (st2 : (List Int) × Int) (v0_4 : (List Int)) (st3 : (List Int) × Int) : Option (Step ((List Int) × Int) ((List Int))) :=
  if (decide (st3.2 < (v0_4.length : Int))) = true then
  ck (0 ≤ st3.2) <| ck (st3.2 < (v0_4.length : Int)) <| (whileO (linealref05_Proof_b4 c a v0_3 st2 v0_4 st3) (st3.1, 0)).bind fun r4 =>
  linealref05_Proof_k4 st3 r4
  else
  some (.done st3.1)
noncomputable def linealref05_Proof_b2 (c : Int × (List (Int × Int × Int))) (a : Int × (List (Int × Int × Int))) (v0_3 : (List Int)) (st1 : (List Int) × Int) (st2 : (List Int) × Int) : Option (Step ((List Int) × Int) ((List Int))) :=
  if (decide (st2.2 < (st1.1.length : Int))) = true then
  ck (0 ≤ st2.2) <| ck (st2.2 < (st2.1.length : Int)) <| (linealref05_list (st2.1.getD st2.2.toNat 0)).bind fun v0_4 =>
  (whileO (linealref05_Proof_b3 c a v0_3 st2 v0_4) (st2.1, 0)).bind fun r3 =>
  linealref05_Proof_k3 st2 r3
  else
  some (.done st2.1)
noncomputable def linealref05_Proof_b1 (c : Int × (List (Int × Int × Int))) (a : Int × (List (Int × Int × Int))) (v0_3 : (List Int)) (st1 : (List Int) × Int) : Option (Step ((List Int) × Int) ((List Int))) :=
  if (decide (st1.2 < (c.1 * a.1))) = true then
  (whileO (linealref05_Proof_b2 c a v0_3 st1) (st1.1, 0)).bind fun r2 =>
  linealref05_Proof_k2 st1 r2
  else
  some (.done st1.1)
noncomputable def linealref05_Proof (c : Int × (List (Int × Int × Int))) (a : Int × (List (Int × Int × Int))) : Option ((List (Int × Int)) × Int) :=
  (linealref05_Valid c).bind fun v0 =>
  if (!v0) = true then
  some ([], 50)
  else
  (linealref05_Valid a).bind fun v0_2 =>
  if (!v0_2) = true then
  some ([], 50)
  else
  (linealref05_best c a).bind fun v0_3 =>
  ck (0 < (v0_3.length : Int)) <| if (decide ((iand .i64 (v0_3.getD 0 0) 1) = 0)) = true then
  some ([], 5)
  else
  ck (0 ≤ c.1) <| ck (8 * c.1 ≤ 281474976710656) <| ck (0 < ((List.replicate c.1.toNat (0 : Int)).length : Int)) <| ck (InK .i64 (c.1 * a.1)) <| (whileO (linealref05_Proof_b1 c a v0_3) (((List.replicate c.1.toNat (0 : Int)).set 0 1), 0)).bind fun r1 =>
  linealref05_Proof_k1 r1

/- lineal/linealref05.IsProof -/
noncomputable def linealref05_IsProof_k2 : Option (Bool × Int) :=
  some (true, 0)
noncomputable def linealref05_IsProof_b2 (c : Int × (List (Int × Int × Int))) (a : Int × (List (Int × Int × Int))) (r0 : List (Int × Int)) (b1 : (List Int)) (st2 : Int) : Option (Step Int (Sum Unit Unit)) :=
  if (decide (st2 < (r0.length : Int))) = true then
  ck (0 ≤ st2) <| ck (st2 < (r0.length : Int)) <| (linealref05_holds c a b1 (r0.getD st2.toNat (0, 0)).1 (r0.getD st2.toNat (0, 0)).2).bind fun v0_4 =>
  if (!v0_4) = true then
  some (.done (Sum.inl ()))
  else
  ck (InK .i64 (st2 + 1)) <| some (.next (st2 + 1))
  else
  some (.done (Sum.inr ()))
noncomputable def linealref05_IsProof_k1 (c : Int × (List (Int × Int × Int))) (a : Int × (List (Int × Int × Int))) (r0 : List (Int × Int)) (b1 : (List Int)) : Option (Bool × Int) :=
  (whileO (linealref05_IsProof_b2 c a r0 b1) 0).bind fun x => match x with
  | .inl _ => (some (false, 0))
  | .inr _ => (linealref05_IsProof_k2)
noncomputable def linealref05_IsProof_b1 (r0 : List (Int × Int)) (st1 : (List Int) × Int) : Option (Step ((List Int) × Int) ((List Int))) :=
  if (decide (st1.2 < (r0.length : Int))) = true then
  ck (0 ≤ st1.2) <| ck (st1.2 < (r0.length : Int)) <| ck (0 ≤ (r0.getD st1.2.toNat (0, 0)).1) <| ck ((r0.getD st1.2.toNat (0, 0)).1 < (st1.1.length : Int)) <| ck (0 ≤ (r0.getD st1.2.toNat (0, 0)).2) <| ck (0 ≤ (r0.getD st1.2.toNat (0, 0)).1) <| ck ((r0.getD st1.2.toNat (0, 0)).1 < (st1.1.length : Int)) <| ck (InK .i64 (st1.2 + 1)) <| some (.next ((st1.1.set (r0.getD st1.2.toNat (0, 0)).1.toNat (ior .i64 (st1.1.getD (r0.getD st1.2.toNat (0, 0)).1.toNat 0) (ishl .i64 1 (r0.getD st1.2.toNat (0, 0)).2))), (st1.2 + 1)))
  else
  some (.done st1.1)
noncomputable def linealref05_IsProof (c : Int × (List (Int × Int × Int))) (a : Int × (List (Int × Int × Int))) (r0 : List (Int × Int)) : Option (Bool × Int) :=
  (linealref05_Valid c).bind fun v0 =>
  if (!v0) = true then
  some (false, 50)
  else
  (linealref05_Valid a).bind fun v0_2 =>
  if (!v0_2) = true then
  some (false, 50)
  else
  (linealref05_isRelation r0 c.1 a.1).bind fun v0_3 =>
  if (!v0_3) = true then
  some (false, 2)
  else
  ck (0 ≤ c.1) <| ck (8 * c.1 ≤ 281474976710656) <| (whileO (linealref05_IsProof_b1 r0) ((List.replicate c.1.toNat (0 : Int)), 0)).bind fun r1 =>
  linealref05_IsProof_k1 c a r0 r1

/- lineal/linealref05.Refines -/
noncomputable def linealref05_Refines (c : Int × (List (Int × Int × Int))) (a : Int × (List (Int × Int × Int))) : Option (Bool × Int) :=
  (linealref05_Valid c).bind fun v0 =>
  if (!v0) = true then
  some (false, 50)
  else
  (linealref05_Valid a).bind fun v0_2 =>
  if (!v0_2) = true then
  some (false, 50)
  else
  (linealref05_best c a).bind fun v0_3 =>
  ck (0 < (v0_3.length : Int)) <| some ((decide ((iand .i64 (v0_3.getD 0 0) 1) = 1)), 0)

/- lineal/lineallaw05.RefineProofs -/
noncomputable def lineallaw05_RefineProofs (c : Int × (List (Int × Int × Int))) (a : Int × (List (Int × Int × Int))) (r0 : List (Int × Int)) : Option Bool :=
  (lineallaw05_Long c).bind fun v0 =>
  if (decide (100 < (c.2.length : Int))) = true then
  (lineallaw05_Awake).bind fun v0_2 =>
  some v0_2
  else
  (lineallaw05_Long a).bind fun v0_3 =>
  if (decide (100 < (a.2.length : Int))) = true then
  (lineallaw05_Awake).bind fun v0_4 =>
  some v0_4
  else
  if (decide (100 < (r0.length : Int))) = true then
  (lineallaw05_Awake).bind fun v0_5 =>
  some v0_5
  else
  (refine_Best c a).bind fun v0_6 =>
  (linealref05_Best c a).bind fun v0_7 =>
  (linealref05_SamePairs v0_6.1 v0_7.1).bind fun v0_8 =>
  if (!v0_8) = true then
  some false
  else
  if (!(decide (v0_6.2 = v0_7.2))) = true then
  some false
  else
  (refine_Proof c a).bind fun v0_9 =>
  (linealref05_Proof c a).bind fun v0_10 =>
  (linealref05_SamePairs v0_9.1 v0_10.1).bind fun v0_11 =>
  if (!v0_11) = true then
  some false
  else
  if (!(decide (v0_9.2 = v0_10.2))) = true then
  some false
  else
  (refine_IsProof c a r0).bind fun v0_12 =>
  (linealref05_IsProof c a r0).bind fun v0_13 =>
  (refine_Refines c a).bind fun v0_14 =>
  (linealref05_Refines c a).bind fun v0_15 =>
  if ((v0_12.1 == v0_13.1) != false) = true then
  if (decide (v0_12.2 = v0_13.2)) = true then
  if ((v0_14.1 == v0_15.1) != false) = true then
  if (decide (v0_14.2 = v0_15.2)) = true then
  (lineallaw05_Awake).bind fun v0_16 =>
  some v0_16
  else
  some false
  else
  some false
  else
  some false
  else
  some false

/- lineal/refine.Comes -/
noncomputable def refine_Comes (s : Int × (List (Int × Int × Int))) (state : Int) (label : Int) : Option ((List Int) × Int) :=
  (refine_frameOf s).bind fun v0 =>
  if (!(decide (v0.2.2.2 = 0))) = true then
  some ([], v0.2.2.2)
  else
  (refine_isState s state).bind fun v0_2 =>
  if (!v0_2) = true then
  some ([], 2)
  else
  (refine_isLabel label).bind fun v0_3 =>
  if (!v0_3) = true then
  some ([], 2)
  else
  ck (0 ≤ state) <| ck (state < 6) <| ck (0 ≤ label) <| ck (label < 4) <| (refine_set_states (intAt T69 v0.2.2.1 ((state.toNat * 4) + label.toNat * 1))).bind fun v0_4 =>
  some (v0_4, 0)

/- lineal/linealref05.Comes -/
noncomputable def linealref05_Comes (s : Int × (List (Int × Int × Int))) (state : Int) (label : Int) : Option ((List Int) × Int) :=
  (linealref05_Valid s).bind fun v0 =>
  if (!v0) = true then
  some ([], 50)
  else
  (linealref05_IsState s state).bind fun v0_2 =>
  if (!v0_2) = true then
  some ([], 2)
  else
  if (decide (label < 0)) = true then
  some ([], 2)
  else
  if (decide (3 < label)) = true then
  some ([], 2)
  else
  ck (0 ≤ state) <| (linealref05_comes s (ishl .i64 1 state) label).bind fun v0_3 =>
  (linealref05_list v0_3).bind fun v0_4 =>
  some (v0_4, 0)

/- (lineal/refine.frame).led$1 -/
noncomputable def refine_frame_led_1_2_b1 (slf : Int → Int → ((Int × (List (Int × Int × Int))) × (El T69)) → Option Int) (state : Int) (a2 : (Int × (List (Int × Int × Int))) × (El T69)) (st1 : Int × Int) : Option (Step (Int × Int) Int) :=
  if (decide (st1.2 < (a2.1.2.length : Int))) = true then
  ck (0 ≤ st1.2) <| ck (st1.2 < (a2.1.2.length : Int)) <| if (decide ((a2.1.2.getD st1.2.toNat (0, 0, 0)).1 = state)) = true then
  (refine_isLabel (a2.1.2.getD st1.2.toNat (0, 0, 0)).2.1).bind fun v0_2 =>
  if v0_2 = true then
  (slf (a2.1.2.getD st1.2.toNat (0, 0, 0)).2.2 st1.1 a2).bind fun v0_3 =>
  ck (InK .i64 (st1.2 + 1)) <| some (.next (v0_3, (st1.2 + 1)))
  else
  ck (InK .i64 (st1.2 + 1)) <| some (.next (st1.1, (st1.2 + 1)))
  else
  ck (InK .i64 (st1.2 + 1)) <| some (.next (st1.1, (st1.2 + 1)))
  else
  some (.done st1.1)
noncomputable def refine_frame_led_1_2F (slf : Int → Int → ((Int × (List (Int × Int × Int))) × (El T69)) → Option Int) (state : Int) (a1 : Int) (a2 : (Int × (List (Int × Int × Int))) × (El T69)) : Option Int :=
  (refine_set_has a1 state).bind fun v0 =>
  if (decide ((iand .u8 (ishr .u8 a1 state) 1) = 1)) = true then
  some a1
  else
  ck (0 ≤ state) <| (whileO (refine_frame_led_1_2_b1 slf state a2) ((ior .u8 a1 (ishl .u8 1 state)), 0)).bind fun r1 =>
  some r1
noncomputable def refine_frame_led_1_2 (n : Nat) : Int → Int → ((Int × (List (Int × Int × Int))) × (El T69)) → Option Int := Nat.rec (motive := fun _ => Int → Int → ((Int × (List (Int × Int × Int))) × (El T69)) → Option Int) (fun _ _ _ => none) (fun _ slf => refine_frame_led_1_2F slf) n

/- (lineal/refine.frame).led -/
noncomputable def refine_frame_led_2 (f : (Int × (List (Int × Int × Int))) × (El T69)) (from0 : Int) : Option Int :=
  (refine_frame_led_1_2 fuel from0 0 f).bind fun v0 =>
  some v0

/- (lineal/refine.frame).reached -/
noncomputable def refine_frame_reached (f : (Int × (List (Int × Int × Int))) × (El T69)) : Option Int :=
  (refine_frame_led_2 f 0).bind fun v0 =>
  some v0

/- lineal/refine.Reached -/
noncomputable def refine_Reached (s : Int × (List (Int × Int × Int))) : Option ((List Int) × Int) :=
  (refine_frameOf s).bind fun v0 =>
  if (!(decide (v0.2.2.2 = 0))) = true then
  some ([], v0.2.2.2)
  else
  (refine_frame_reached ((v0.1, v0.2.1), v0.2.2.1)).bind fun v0_2 =>
  (refine_set_states v0_2).bind fun v0_3 =>
  some (v0_3, 0)

/- lineal/linealref05.reached -/
noncomputable def linealref05_reached_k1 (b2_2 : Int) : Option Int :=
  some b2_2
noncomputable def linealref05_reached_k2 (st1 : Int × Int) (b2 : Int) : Option (Step (Int × Int) Int) :=
  ck (InK .i64 (st1.2 + 1)) <| some (.next (b2, (st1.2 + 1)))
noncomputable def linealref05_reached_b2 (s : Int × (List (Int × Int × Int))) (st2 : Int × Int) : Option (Step (Int × Int) Int) :=
  if (decide (st2.2 < 4)) = true then
  (linealref05_step s st2.1 st2.2).bind fun v0 =>
  ck (InK .i64 (st2.2 + 1)) <| some (.next ((ior .i64 st2.1 v0), (st2.2 + 1)))
  else
  some (.done st2.1)
noncomputable def linealref05_reached_b1 (s : Int × (List (Int × Int × Int))) (st1 : Int × Int) : Option (Step (Int × Int) Int) :=
  if (decide (st1.2 < s.1)) = true then
  (whileO (linealref05_reached_b2 s) (st1.1, 0)).bind fun r2 =>
  linealref05_reached_k2 st1 r2
  else
  some (.done st1.1)
noncomputable def linealref05_reached (s : Int × (List (Int × Int × Int))) : Option Int :=
  (whileO (linealref05_reached_b1 s) (1, 0)).bind fun r1 =>
  linealref05_reached_k1 r1

/- lineal/linealref05.Reached -/
noncomputable def linealref05_Reached (s : Int × (List (Int × Int × Int))) : Option ((List Int) × Int) :=
  (linealref05_Valid s).bind fun v0 =>
  if (!v0) = true then
  some ([], 50)
  else
  (linealref05_reached s).bind fun v0_2 =>
  (linealref05_list v0_2).bind fun v0_3 =>
  some (v0_3, 0)

/- (lineal/refine.frame).isStuck$1 -/
noncomputable def refine_frame_isStuck_1 (step : Int × Int × Int) (a1 : Int) : Option Unit :=
  some ()

/- slices.IndexFunc[[]lineal/api.Step,lineal/api.Step] -/
noncomputable def slices_IndexFunc_4_k1 : Option Int :=
  some (-1)
noncomputable def slices_IndexFunc_4_b1 (s : List (Int × Int × Int)) (c0 : Int) (st1 : Int) : Option (Step Int (Sum Int Unit)) :=
  if (decide (st1 < (s.length : Int))) = true then
  ck (0 ≤ st1) <| ck (st1 < (s.length : Int)) <| (refine_frame_isStuck_1 (s.getD st1.toNat (0, 0, 0)) c0).bind fun v0 =>
  if (decide ((s.getD st1.toNat (0, 0, 0)).1 = c0)) = true then
  some (.done (Sum.inl st1))
  else
  ck (InK .i64 (st1 + 1)) <| some (.next (st1 + 1))
  else
  some (.done (Sum.inr ()))
noncomputable def slices_IndexFunc_4 (s : List (Int × Int × Int)) (c0 : Int) : Option Int :=
  (whileO (slices_IndexFunc_4_b1 s c0) 0).bind fun x => match x with
  | .inl r1 => (some r1)
  | .inr _ => (slices_IndexFunc_4_k1)

/- slices.ContainsFunc[[]lineal/api.Step,lineal/api.Step] -/
noncomputable def slices_ContainsFunc_3 (s : List (Int × Int × Int)) (c0 : Int) : Option Bool :=
  (slices_IndexFunc_4 s c0).bind fun v0 =>
  some (decide (0 ≤ v0))

/- (lineal/refine.frame).isStuck -/
noncomputable def refine_frame_isStuck (f : (Int × (List (Int × Int × Int))) × (El T69)) (state : Int) : Option Bool :=
  (slices_ContainsFunc_3 f.1.2 state).bind fun v0 =>
  some (!v0)

/- lineal/refine.Stuck$1 -/
noncomputable def refine_Stuck_1 (state : Int) (a1 : (Int × (List (Int × Int × Int))) × (El T69)) : Option Bool :=
  (refine_frame_isStuck a1 state).bind fun v0 =>
  some (!v0)

/- slices.IndexFunc[[]int,int] -/
noncomputable def slices_IndexFunc_3_k1 : Option Int :=
  some (-1)
noncomputable def slices_IndexFunc_3_b1 (s : List Int) (c0 : (Int × (List (Int × Int × Int))) × (El T69)) (st1 : Int) : Option (Step Int (Sum Int Unit)) :=
  if (decide (st1 < (s.length : Int))) = true then
  ck (0 ≤ st1) <| ck (st1 < (s.length : Int)) <| (refine_Stuck_1 (s.getD st1.toNat 0) c0).bind fun v0 =>
  if v0 = true then
  some (.done (Sum.inl st1))
  else
  ck (InK .i64 (st1 + 1)) <| some (.next (st1 + 1))
  else
  some (.done (Sum.inr ()))
noncomputable def slices_IndexFunc_3 (s : List Int) (c0 : (Int × (List (Int × Int × Int))) × (El T69)) : Option Int :=
  (whileO (slices_IndexFunc_3_b1 s c0) 0).bind fun x => match x with
  | .inl r1 => (some r1)
  | .inr _ => (slices_IndexFunc_3_k1)

/- lineal/refine.Stuck$1 -/
noncomputable def refine_Stuck_1_2 (state : Int) (a1 : (Int × (List (Int × Int × Int))) × (El T69)) : Option Bool :=
  (refine_frame_isStuck a1 state).bind fun v0 =>
  some (!v0)

/- slices.DeleteFunc[[]int,int] -/
noncomputable def slices_DeleteFunc_k1 (b1 : (List Int) × Int) : Option ((List Int)) :=
  ck (0 ≤ b1.2) <| ck (b1.2 ≤ (b1.1.length : Int)) <| ck (0 < ((b1.1.length : Int) - b1.2).toNat) <| ck ((b1.2.toNat + ((b1.1.length : Int) - b1.2).toNat) ≤ b1.1.length) <| ck (0 ≤ b1.2) <| ck (b1.2 ≤ ((((b1.1.take b1.2.toNat) ++ (List.replicate ((b1.1.length : Int) - b1.2).toNat (0 : Int))) ++ (b1.1.drop (b1.2.toNat + ((b1.1.length : Int) - b1.2).toNat))).length : Int)) <| some ((((b1.1.take b1.2.toNat) ++ (List.replicate ((b1.1.length : Int) - b1.2).toNat (0 : Int))) ++ (b1.1.drop (b1.2.toNat + ((b1.1.length : Int) - b1.2).toNat))).take b1.2.toNat)
noncomputable def slices_DeleteFunc_b1 (c0 : (Int × (List (Int × Int × Int))) × (El T69)) (st1 : (List Int) × Int × Int) : Option (Step ((List Int) × Int × Int) ((List Int) × Int)) :=
  if (decide (st1.2.2 < (st1.1.length : Int))) = true then
  ck (0 ≤ st1.2.2) <| ck (st1.2.2 < (st1.1.length : Int)) <| (refine_Stuck_1_2 (st1.1.getD st1.2.2.toNat 0) c0).bind fun v0_2 =>
  if (!v0_2) = true then
  ck (0 ≤ st1.2.1) <| ck (st1.2.1 < (st1.1.length : Int)) <| ck (InK .i64 (st1.2.1 + 1)) <| ck (InK .i64 (st1.2.2 + 1)) <| some (.next ((st1.1.set st1.2.1.toNat (st1.1.getD st1.2.2.toNat 0)), (st1.2.1 + 1), (st1.2.2 + 1)))
  else
  ck (InK .i64 (st1.2.2 + 1)) <| some (.next (st1.1, st1.2.1, (st1.2.2 + 1)))
  else
  some (.done (st1.1, st1.2.1))
noncomputable def slices_DeleteFunc (s : List Int) (c0 : (Int × (List (Int × Int × Int))) × (El T69)) : Option ((List Int)) :=
  (slices_IndexFunc_3 s c0).bind fun v0 =>
  if (decide (v0 = (-1))) = true then
  some s
  else
  ck (InK .i64 (v0 + 1)) <| (whileO (slices_DeleteFunc_b1 c0) (s, v0, (v0 + 1))).bind fun r1 =>
  slices_DeleteFunc_k1 r1

/- lineal/refine.Stuck -/
noncomputable def refine_Stuck (s : Int × (List (Int × Int × Int))) : Option ((List Int) × Int) :=
  (refine_frameOf s).bind fun v0 =>
  if (!(decide (v0.2.2.2 = 0))) = true then
  some ([], v0.2.2.2)
  else
  (refine_frame_reached ((v0.1, v0.2.1), v0.2.2.1)).bind fun v0_2 =>
  (refine_set_states v0_2).bind fun v0_3 =>
  (slices_DeleteFunc v0_3 ((v0.1, v0.2.1), v0.2.2.1)).bind fun v0_4 =>
  some (v0_4, 0)

/- lineal/linealref05.Stuck -/
noncomputable def linealref05_Stuck_k1 (b3_3 : (List Int)) : Option ((List Int) × Int) :=
  some (b3_3, 0)
noncomputable def linealref05_Stuck_k2 (st1 : (List Int) × Int) (b3_2 : (List Int)) : Option (Step ((List Int) × Int) ((List Int))) :=
  ck (InK .i64 (st1.2 + 1)) <| some (.next (b3_2, (st1.2 + 1)))
noncomputable def linealref05_Stuck_k3 (v0_3 : (List Int)) (st1 : (List Int) × Int) (b3 : Bool) : Option (Step ((List Int) × Int) ((List Int))) :=
  if (!b3) = true then
  ck ((st1.1.length + 1) * 8 ≤ 140737488355328) <| linealref05_Stuck_k2 st1 (st1.1 ++ [(v0_3.getD st1.2.toNat 0)])
  else
  linealref05_Stuck_k2 st1 st1.1
noncomputable def linealref05_Stuck_b2 (s : Int × (List (Int × Int × Int))) (v0_3 : (List Int)) (st1 : (List Int) × Int) (st2 : Bool × Int) : Option (Step (Bool × Int) Bool) :=
  if (decide (st2.2 < (s.2.length : Int))) = true then
  ck (0 ≤ st2.2) <| ck (st2.2 < (s.2.length : Int)) <| if st2.1 = true then
  ck (InK .i64 (st2.2 + 1)) <| some (.next (true, (st2.2 + 1)))
  else
  ck (InK .i64 (st2.2 + 1)) <| some (.next ((decide ((s.2.getD st2.2.toNat (0, 0, 0)).1 = (v0_3.getD st1.2.toNat 0))), (st2.2 + 1)))
  else
  some (.done st2.1)
noncomputable def linealref05_Stuck_b1 (s : Int × (List (Int × Int × Int))) (v0_3 : (List Int)) (st1 : (List Int) × Int) : Option (Step ((List Int) × Int) ((List Int))) :=
  if (decide (st1.2 < (v0_3.length : Int))) = true then
  ck (0 ≤ st1.2) <| ck (st1.2 < (v0_3.length : Int)) <| (whileO (linealref05_Stuck_b2 s v0_3 st1) (false, 0)).bind fun r2 =>
  linealref05_Stuck_k3 v0_3 st1 r2
  else
  some (.done st1.1)
noncomputable def linealref05_Stuck (s : Int × (List (Int × Int × Int))) : Option ((List Int) × Int) :=
  (linealref05_Valid s).bind fun v0 =>
  if (!v0) = true then
  some ([], 50)
  else
  (linealref05_reached s).bind fun v0_2 =>
  (linealref05_list v0_2).bind fun v0_3 =>
  (whileO (linealref05_Stuck_b1 s v0_3) ([], 0)).bind fun r1 =>
  linealref05_Stuck_k1 r1

/- lineal/lineallaw05.RefineComes -/
noncomputable def lineallaw05_RefineComes (s : Int × (List (Int × Int × Int))) (state : Int) (label : Int) : Option Bool :=
  (lineallaw05_Long s).bind fun v0 =>
  if (decide (100 < (s.2.length : Int))) = true then
  (lineallaw05_Awake).bind fun v0_2 =>
  some v0_2
  else
  (refine_Comes s state label).bind fun v0_3 =>
  (linealref05_Comes s state label).bind fun v0_4 =>
  (refine_Valid s).bind fun v0_5 =>
  (linealref05_Valid s).bind fun v0_6 =>
  if ((v0_5 == v0_6) != true) = true then
  some false
  else
  (linealref05_SameInts v0_3.1 v0_4.1).bind fun v0_7 =>
  if (!v0_7) = true then
  some false
  else
  if (!(decide (v0_3.2 = v0_4.2))) = true then
  some false
  else
  (refine_Reached s).bind fun v0_8 =>
  (linealref05_Reached s).bind fun v0_9 =>
  (linealref05_SameInts v0_8.1 v0_9.1).bind fun v0_10 =>
  if (!v0_10) = true then
  some false
  else
  if (!(decide (v0_8.2 = v0_9.2))) = true then
  some false
  else
  (refine_Stuck s).bind fun v0_11 =>
  (linealref05_Stuck s).bind fun v0_12 =>
  (linealref05_SameInts v0_11.1 v0_12.1).bind fun v0_13 =>
  if v0_13 = true then
  if (decide (v0_11.2 = v0_12.2)) = true then
  (lineallaw05_Awake).bind fun v0_14 =>
  some v0_14
  else
  some false
  else
  some false

/- lineal/linealref05.added -/
noncomputable def linealref05_added_2_k1 (x0 : Int × Int × Int) (l : List (Int × Int × Int)) : Option ((List (Int × Int × Int))) :=
  ck ((l.length + 1) * 24 ≤ 140737488355328) <| some (l ++ [x0])
noncomputable def linealref05_added_2_b1 (x0 : Int × Int × Int) (l : List (Int × Int × Int)) (st1 : Int) : Option (Step Int (Sum Unit Unit)) :=
  if (decide (st1 < (l.length : Int))) = true then
  ck (0 ≤ st1) <| ck (st1 < (l.length : Int)) <| ck (InK .i64 x0.1) <| ck (InK .i64 x0.2.1) <| ck (InK .i64 x0.2.2) <| ck (InK .i64 (l.getD st1.toNat (0, 0, 0)).1) <| ck (InK .i64 (l.getD st1.toNat (0, 0, 0)).2.1) <| ck (InK .i64 (l.getD st1.toNat (0, 0, 0)).2.2) <| if (decide (x0 = (l.getD st1.toNat (0, 0, 0)))) = true then
  some (.done (Sum.inl ()))
  else
  ck (InK .i64 (st1 + 1)) <| some (.next (st1 + 1))
  else
  some (.done (Sum.inr ()))
noncomputable def linealref05_added_2 (x0 : Int × Int × Int) (l : List (Int × Int × Int)) : Option ((List (Int × Int × Int))) :=
  (whileO (linealref05_added_2_b1 x0 l) 0).bind fun x => match x with
  | .inl _ => (some l)
  | .inr _ => (linealref05_added_2_k1 x0 l)

/- lineal/linealref05.Hidden -/
noncomputable def linealref05_Hidden_k1 (s : Int × (List (Int × Int × Int))) (b2_2 : (List (Int × Int × Int))) : Option (Int × (List (Int × Int × Int)) × Int) :=
  some (s.1, b2_2, 0)
noncomputable def linealref05_Hidden_k2 (s : Int × (List (Int × Int × Int))) (st1 : (List (Int × Int × Int)) × Int) (b2 : Int) : Option (Step ((List (Int × Int × Int)) × Int) ((List (Int × Int × Int)))) :=
  (linealref05_added_2 ((s.2.getD st1.2.toNat (0, 0, 0)).1, b2, (s.2.getD st1.2.toNat (0, 0, 0)).2.2) st1.1).bind fun v0_3 =>
  ck (InK .i64 (st1.2 + 1)) <| some (.next (v0_3, (st1.2 + 1)))
noncomputable def linealref05_Hidden_b1 (s : Int × (List (Int × Int × Int))) (label : Int) (st1 : (List (Int × Int × Int)) × Int) : Option (Step ((List (Int × Int × Int)) × Int) ((List (Int × Int × Int)))) :=
  if (decide (st1.2 < (s.2.length : Int))) = true then
  ck (0 ≤ st1.2) <| ck (st1.2 < (s.2.length : Int)) <| if (decide ((s.2.getD st1.2.toNat (0, 0, 0)).2.1 = label)) = true then
  linealref05_Hidden_k2 s st1 0
  else
  linealref05_Hidden_k2 s st1 (s.2.getD st1.2.toNat (0, 0, 0)).2.1
  else
  some (.done st1.1)
noncomputable def linealref05_Hidden (s : Int × (List (Int × Int × Int))) (label : Int) : Option (Int × (List (Int × Int × Int)) × Int) :=
  (linealref05_Valid s).bind fun v0 =>
  if (!v0) = true then
  some (0, [], 50)
  else
  (linealref05_IsSeen label).bind fun v0_2 =>
  if (!v0_2) = true then
  some (0, [], 2)
  else
  (whileO (linealref05_Hidden_b1 s label) ([], 0)).bind fun r1 =>
  linealref05_Hidden_k1 s r1

/- lineal/linealref05.Without -/
noncomputable def linealref05_Without (s : Int × (List (Int × Int × Int))) (step : Int) : Option (Int × (List (Int × Int × Int)) × Int) :=
  (linealref05_Valid s).bind fun v0 =>
  if (!v0) = true then
  some (0, [], 50)
  else
  if (decide (step < 0)) = true then
  some (0, [], 2)
  else
  if (decide ((s.2.length : Int) ≤ step)) = true then
  some (0, [], 2)
  else
  ck (0 ≤ step) <| ck (step ≤ (s.2.length : Int)) <| ck ((s.2.take step.toNat).length * 24 ≤ 140737488355328) <| ck (InK .i64 (step + 1)) <| ck (0 ≤ (step + 1)) <| ck ((step + 1) ≤ (s.2.length : Int)) <| ck (((s.2.take step.toNat).length + (s.2.drop (step + 1).toNat).length) * 24 ≤ 140737488355328) <| some (s.1, ((s.2.take step.toNat) ++ (s.2.drop (step + 1).toNat)), 0)

/- lineal/refine.together$1 -/
noncomputable def refine_together_1_2 (a : Int × Int × Int) (b : Int × Int × Int) (a3 : Int × (List (Int × Int × Int))) (a2 : List (Int × Int × Int)) : Option Unit :=
  ck (InK .i64 (a.1 * a3.1)) <| ck (InK .i64 ((a.1 * a3.1) + b.1)) <| ck (InK .i64 (a.2.2 * a3.1)) <| ck (InK .i64 ((a.2.2 * a3.1) + b.2.2)) <| ck ((a2.length + 1) * 24 ≤ 140737488355328) <| some ()

/- lineal/refine.stay -/
noncomputable def refine_stay (state : Int) : Option Unit :=
  some ()

/- slices.Compact[[]lineal/api.Step,lineal/api.Step] -/
noncomputable def slices_Compact_k1 (s : List (Int × Int × Int)) : Option ((List (Int × Int × Int))) :=
  some s
noncomputable def slices_Compact_k2 (st1 : Int) : Option (Step Int (Sum ((List (Int × Int × Int))) Unit)) :=
  ck (InK .i64 (st1 + 1)) <| some (.next (st1 + 1))
noncomputable def slices_Compact_k3 (b3 : (List (Int × Int × Int)) × Int) : Option (Step Int (Sum ((List (Int × Int × Int))) Unit)) :=
  ck (0 ≤ b3.2) <| ck (b3.2 ≤ (b3.1.length : Int)) <| ck (0 < ((b3.1.length : Int) - b3.2).toNat) <| ck ((b3.2.toNat + ((b3.1.length : Int) - b3.2).toNat) ≤ b3.1.length) <| ck (0 ≤ b3.2) <| ck (b3.2 ≤ ((((b3.1.take b3.2.toNat) ++ (List.replicate ((b3.1.length : Int) - b3.2).toNat ((0, 0, 0) : Int × Int × Int))) ++ (b3.1.drop (b3.2.toNat + ((b3.1.length : Int) - b3.2).toNat))).length : Int)) <| some (.done (Sum.inl ((((b3.1.take b3.2.toNat) ++ (List.replicate ((b3.1.length : Int) - b3.2).toNat ((0, 0, 0) : Int × Int × Int))) ++ (b3.1.drop (b3.2.toNat + ((b3.1.length : Int) - b3.2).toNat))).take b3.2.toNat)))
noncomputable def slices_Compact_b2 (s : List (Int × Int × Int)) (st1 : Int) (st2 : (List (Int × Int × Int)) × Int × Int) : Option (Step ((List (Int × Int × Int)) × Int × Int) ((List (Int × Int × Int)) × Int)) :=
  if (decide (st2.2.2 < (((s.length : Int) - st1).toNat : Int))) = true then
  ck (0 ≤ st2.2.2) <| ck (st2.2.2 < (((s.length : Int) - st1).toNat : Int)) <| ck (((st1.toNat + st2.2.2.toNat) : Int) < (st2.1.length : Int)) <| ck (InK .i64 (st2.2.2 - 1)) <| ck (0 ≤ (st2.2.2 - 1)) <| ck ((st2.2.2 - 1) < (((s.length : Int) - st1).toNat : Int)) <| ck (((st1.toNat + (st2.2.2 - 1).toNat) : Int) < (st2.1.length : Int)) <| ck (InK .i64 (st2.1.getD (st1.toNat + st2.2.2.toNat) (0, 0, 0)).1) <| ck (InK .i64 (st2.1.getD (st1.toNat + st2.2.2.toNat) (0, 0, 0)).2.1) <| ck (InK .i64 (st2.1.getD (st1.toNat + st2.2.2.toNat) (0, 0, 0)).2.2) <| ck (InK .i64 (st2.1.getD (st1.toNat + (st2.2.2 - 1).toNat) (0, 0, 0)).1) <| ck (InK .i64 (st2.1.getD (st1.toNat + (st2.2.2 - 1).toNat) (0, 0, 0)).2.1) <| ck (InK .i64 (st2.1.getD (st1.toNat + (st2.2.2 - 1).toNat) (0, 0, 0)).2.2) <| if (!(decide ((st2.1.getD (st1.toNat + st2.2.2.toNat) (0, 0, 0)) = (st2.1.getD (st1.toNat + (st2.2.2 - 1).toNat) (0, 0, 0))))) = true then
  ck (0 ≤ st2.2.2) <| ck (st2.2.2 < (((s.length : Int) - st1).toNat : Int)) <| ck (((st1.toNat + st2.2.2.toNat) : Int) < (st2.1.length : Int)) <| ck (0 ≤ st2.2.1) <| ck (st2.2.1 < (st2.1.length : Int)) <| ck (InK .i64 (st2.2.1 + 1)) <| ck (InK .i64 (st2.2.2 + 1)) <| some (.next ((st2.1.set st2.2.1.toNat (st2.1.getD (st1.toNat + st2.2.2.toNat) (0, 0, 0))), (st2.2.1 + 1), (st2.2.2 + 1)))
  else
  ck (InK .i64 (st2.2.2 + 1)) <| some (.next (st2.1, st2.2.1, (st2.2.2 + 1)))
  else
  some (.done (st2.1, st2.2.1))
noncomputable def slices_Compact_b1 (s : List (Int × Int × Int)) (st1 : Int) : Option (Step Int (Sum ((List (Int × Int × Int))) Unit)) :=
  if (decide (st1 < (s.length : Int))) = true then
  ck (0 ≤ st1) <| ck (st1 < (s.length : Int)) <| ck (InK .i64 (st1 - 1)) <| ck (0 ≤ (st1 - 1)) <| ck ((st1 - 1) < (s.length : Int)) <| ck (InK .i64 (s.getD st1.toNat (0, 0, 0)).1) <| ck (InK .i64 (s.getD st1.toNat (0, 0, 0)).2.1) <| ck (InK .i64 (s.getD st1.toNat (0, 0, 0)).2.2) <| ck (InK .i64 (s.getD (st1 - 1).toNat (0, 0, 0)).1) <| ck (InK .i64 (s.getD (st1 - 1).toNat (0, 0, 0)).2.1) <| ck (InK .i64 (s.getD (st1 - 1).toNat (0, 0, 0)).2.2) <| if (decide ((s.getD st1.toNat (0, 0, 0)) = (s.getD (st1 - 1).toNat (0, 0, 0)))) = true then
  ck (0 ≤ st1) <| ck (st1 ≤ (s.length : Int)) <| (whileO (slices_Compact_b2 s st1) (s, st1, 1)).bind fun r2 =>
  slices_Compact_k3 r2
  else
  slices_Compact_k2 st1
  else
  some (.done (Sum.inr ()))
noncomputable def slices_Compact (s : List (Int × Int × Int)) : Option ((List (Int × Int × Int))) :=
  if (decide ((s.length : Int) < 2)) = true then
  some s
  else
  (whileO (slices_Compact_b1 s) 1).bind fun x => match x with
  | .inl r1 => (some r1)
  | .inr _ => (slices_Compact_k1 s)

/- lineal/refine.together -/
noncomputable def refine_together_k4 (b5_2 : (List (Int × Int × Int))) : Option ((List (Int × Int × Int))) :=
  (slices_SortFunc b5_2).bind fun v0_9 =>
  (slices_Compact v0_9).bind fun v0_10 =>
  some v0_10
noncomputable def refine_together_k5 (st4 : (List (Int × Int × Int)) × Int) (b5 : (List (Int × Int × Int))) : Option (Step ((List (Int × Int × Int)) × Int) ((List (Int × Int × Int)))) :=
  ck (InK .i64 (st4.2 + 1)) <| some (.next (b5, (st4.2 + 1)))
noncomputable def refine_together_b5 (s : Int × (List (Int × Int × Int))) (t : Int × (List (Int × Int × Int))) (st4 : (List (Int × Int × Int)) × Int) (st5 : (List (Int × Int × Int)) × Int) : Option (Step ((List (Int × Int × Int)) × Int) ((List (Int × Int × Int)))) :=
  if (decide (st5.2 < s.1)) = true then
  (refine_isHidden (t.2.getD st4.2.toNat (0, 0, 0)).2.1).bind fun v0_6 =>
  if (decide ((t.2.getD st4.2.toNat (0, 0, 0)).2.1 = 0)) = true then
  (refine_stay st5.2).bind fun v0_7 =>
  (refine_together_1_2 (st5.2, 0, st5.2) (t.2.getD st4.2.toNat (0, 0, 0)) t st5.1).bind fun v0_8 =>
  ck (InK .i64 (st5.2 + 1)) <| some (.next ((st5.1 ++ [(((st5.2 * t.1) + (t.2.getD st4.2.toNat (0, 0, 0)).1), 0, ((st5.2 * t.1) + (t.2.getD st4.2.toNat (0, 0, 0)).2.2))]), (st5.2 + 1)))
  else
  ck (InK .i64 (st5.2 + 1)) <| some (.next (st5.1, (st5.2 + 1)))
  else
  some (.done st5.1)
noncomputable def refine_together_b4 (s : Int × (List (Int × Int × Int))) (t : Int × (List (Int × Int × Int))) (st4 : (List (Int × Int × Int)) × Int) : Option (Step ((List (Int × Int × Int)) × Int) ((List (Int × Int × Int)))) :=
  if (decide (st4.2 < (t.2.length : Int))) = true then
  ck (0 ≤ st4.2) <| ck (st4.2 < (t.2.length : Int)) <| (whileO (refine_together_b5 s t st4) (st4.1, 0)).bind fun r5 =>
  refine_together_k5 st4 r5
  else
  some (.done st4.1)
noncomputable def refine_together_k1 (s : Int × (List (Int × Int × Int))) (t : Int × (List (Int × Int × Int))) (b3_3 : (List (Int × Int × Int))) : Option ((List (Int × Int × Int))) :=
  (whileO (refine_together_b4 s t) (b3_3, 0)).bind fun r4 =>
  refine_together_k4 r4
noncomputable def refine_together_k2 (st1 : (List (Int × Int × Int)) × Int) (b3_2 : (List (Int × Int × Int))) : Option (Step ((List (Int × Int × Int)) × Int) ((List (Int × Int × Int)))) :=
  ck (InK .i64 (st1.2 + 1)) <| some (.next (b3_2, (st1.2 + 1)))
noncomputable def refine_together_b3 (s : Int × (List (Int × Int × Int))) (t : Int × (List (Int × Int × Int))) (st1 : (List (Int × Int × Int)) × Int) (st3 : (List (Int × Int × Int)) × Int) : Option (Step ((List (Int × Int × Int)) × Int) ((List (Int × Int × Int)))) :=
  if (decide (st3.2 < t.1)) = true then
  (refine_isHidden (s.2.getD st1.2.toNat (0, 0, 0)).2.1).bind fun v0_3 =>
  if (decide ((s.2.getD st1.2.toNat (0, 0, 0)).2.1 = 0)) = true then
  (refine_stay st3.2).bind fun v0_4 =>
  (refine_together_1_2 (s.2.getD st1.2.toNat (0, 0, 0)) (st3.2, 0, st3.2) t st3.1).bind fun v0_5 =>
  ck (InK .i64 (st3.2 + 1)) <| some (.next ((st3.1 ++ [((((s.2.getD st1.2.toNat (0, 0, 0)).1 * t.1) + st3.2), (s.2.getD st1.2.toNat (0, 0, 0)).2.1, (((s.2.getD st1.2.toNat (0, 0, 0)).2.2 * t.1) + st3.2))]), (st3.2 + 1)))
  else
  ck (InK .i64 (st3.2 + 1)) <| some (.next (st3.1, (st3.2 + 1)))
  else
  some (.done st3.1)
noncomputable def refine_together_k3 (s : Int × (List (Int × Int × Int))) (t : Int × (List (Int × Int × Int))) (st1 : (List (Int × Int × Int)) × Int) (b3 : (List (Int × Int × Int))) : Option (Step ((List (Int × Int × Int)) × Int) ((List (Int × Int × Int)))) :=
  (whileO (refine_together_b3 s t st1) (b3, 0)).bind fun r3 =>
  refine_together_k2 st1 r3
noncomputable def refine_together_b2 (s : Int × (List (Int × Int × Int))) (t : Int × (List (Int × Int × Int))) (st1 : (List (Int × Int × Int)) × Int) (st2 : (List (Int × Int × Int)) × Int) : Option (Step ((List (Int × Int × Int)) × Int) ((List (Int × Int × Int)))) :=
  if (decide (st2.2 < (t.2.length : Int))) = true then
  ck (0 ≤ st2.2) <| ck (st2.2 < (t.2.length : Int)) <| if (decide ((s.2.getD st1.2.toNat (0, 0, 0)).2.1 = (t.2.getD st2.2.toNat (0, 0, 0)).2.1)) = true then
  (refine_isSeen (s.2.getD st1.2.toNat (0, 0, 0)).2.1).bind fun v0 =>
  if v0 = true then
  (refine_together_1_2 (s.2.getD st1.2.toNat (0, 0, 0)) (t.2.getD st2.2.toNat (0, 0, 0)) t st2.1).bind fun v0_2 =>
  ck (InK .i64 (st2.2 + 1)) <| some (.next ((st2.1 ++ [((((s.2.getD st1.2.toNat (0, 0, 0)).1 * t.1) + (t.2.getD st2.2.toNat (0, 0, 0)).1), (s.2.getD st1.2.toNat (0, 0, 0)).2.1, (((s.2.getD st1.2.toNat (0, 0, 0)).2.2 * t.1) + (t.2.getD st2.2.toNat (0, 0, 0)).2.2))]), (st2.2 + 1)))
  else
  ck (InK .i64 (st2.2 + 1)) <| some (.next (st2.1, (st2.2 + 1)))
  else
  ck (InK .i64 (st2.2 + 1)) <| some (.next (st2.1, (st2.2 + 1)))
  else
  some (.done st2.1)
noncomputable def refine_together_b1 (s : Int × (List (Int × Int × Int))) (t : Int × (List (Int × Int × Int))) (st1 : (List (Int × Int × Int)) × Int) : Option (Step ((List (Int × Int × Int)) × Int) ((List (Int × Int × Int)))) :=
  if (decide (st1.2 < (s.2.length : Int))) = true then
  ck (0 ≤ st1.2) <| ck (st1.2 < (s.2.length : Int)) <| (whileO (refine_together_b2 s t st1) (st1.1, 0)).bind fun r2 =>
  refine_together_k3 s t st1 r2
  else
  some (.done st1.1)
noncomputable def refine_together (s : Int × (List (Int × Int × Int))) (t : Int × (List (Int × Int × Int))) : Option ((List (Int × Int × Int))) :=
  (whileO (refine_together_b1 s t) ([], 0)).bind fun r1 =>
  refine_together_k1 s t r1

/- lineal/refine.Both -/
noncomputable def refine_Both (s : Int × (List (Int × Int × Int))) (t : Int × (List (Int × Int × Int))) : Option (Int × (List (Int × Int × Int)) × Int) :=
  (refine_Valid s).bind fun v0 =>
  if (!v0) = true then
  some (0, [], 50)
  else
  (refine_Valid t).bind fun v0_2 =>
  if (!v0_2) = true then
  some (0, [], 50)
  else
  ck (InK .i64 (s.1 * t.1)) <| (refine_together s t).bind fun v0_3 =>
  if (decide (6 < (s.1 * t.1))) = true then
  some (0, [], 4)
  else
  if (decide (24 < (v0_3.length : Int))) = true then
  some (0, [], 4)
  else
  some ((s.1 * t.1), v0_3, 0)

/- lineal/linealref05.has -/
noncomputable def linealref05_has_k1 : Option Bool :=
  some false
noncomputable def linealref05_has_b1 (s : Int × (List (Int × Int × Int))) (from0 : Int) (label : Int) (to0 : Int) (st1 : Int) : Option (Step Int (Sum Unit Unit)) :=
  if (decide (st1 < (s.2.length : Int))) = true then
  ck (0 ≤ st1) <| ck (st1 < (s.2.length : Int)) <| if (decide ((s.2.getD st1.toNat (0, 0, 0)).1 = from0)) = true then
  if (decide ((s.2.getD st1.toNat (0, 0, 0)).2.1 = label)) = true then
  if (decide ((s.2.getD st1.toNat (0, 0, 0)).2.2 = to0)) = true then
  some (.done (Sum.inl ()))
  else
  ck (InK .i64 (st1 + 1)) <| some (.next (st1 + 1))
  else
  ck (InK .i64 (st1 + 1)) <| some (.next (st1 + 1))
  else
  ck (InK .i64 (st1 + 1)) <| some (.next (st1 + 1))
  else
  some (.done (Sum.inr ()))
noncomputable def linealref05_has (s : Int × (List (Int × Int × Int))) (from0 : Int) (label : Int) (to0 : Int) : Option Bool :=
  (whileO (linealref05_has_b1 s from0 label to0) 0).bind fun x => match x with
  | .inl _ => (some true)
  | .inr _ => (linealref05_has_k1)

/- lineal/linealref05.Both -/
noncomputable def linealref05_Both_k1 (s : Int × (List (Int × Int × Int))) (t : Int × (List (Int × Int × Int))) (b4_4 : (List (Int × Int × Int))) : Option (Int × (List (Int × Int × Int)) × Int) :=
  if (decide (24 < (b4_4.length : Int))) = true then
  some (0, [], 4)
  else
  some ((s.1 * t.1), b4_4, 0)
noncomputable def linealref05_Both_k2 (st1 : (List (Int × Int × Int)) × Int) (b4_3 : (List (Int × Int × Int))) : Option (Step ((List (Int × Int × Int)) × Int) ((List (Int × Int × Int)))) :=
  ck (InK .i64 (st1.2 + 1)) <| some (.next (b4_3, (st1.2 + 1)))
noncomputable def linealref05_Both_k3 (st2 : (List (Int × Int × Int)) × Int) (b4_2 : (List (Int × Int × Int))) : Option (Step ((List (Int × Int × Int)) × Int) ((List (Int × Int × Int)))) :=
  ck (InK .i64 (st2.2 + 1)) <| some (.next (b4_2, (st2.2 + 1)))
noncomputable def linealref05_Both_k4 (t : Int × (List (Int × Int × Int))) (st1 : (List (Int × Int × Int)) × Int) (st2 : (List (Int × Int × Int)) × Int) (st3 : (List (Int × Int × Int)) × Int) (v0_4 : Bool) (b4 : Bool × Bool) : Option (Step ((List (Int × Int × Int)) × Int) ((List (Int × Int × Int)))) :=
  if (decide (st2.2 = 0)) = true then
  if b4.1 = true then
  ck (0 ≤ st1.2) <| ck (0 < t.1) <| ck (0 ≤ st3.2) <| ck (0 < t.1) <| if (decide ((st1.2 % t.1) = (st3.2 % t.1))) = true then
  ck ((st3.1.length + 1) * 24 ≤ 140737488355328) <| ck (InK .i64 (st3.2 + 1)) <| some (.next ((st3.1 ++ [(st1.2, st2.2, st3.2)]), (st3.2 + 1)))
  else
  if v0_4 = true then
  ck (0 ≤ st1.2) <| ck (0 < t.1) <| ck (InK .i64 (st1.2 / t.1)) <| ck (0 ≤ st3.2) <| ck (0 < t.1) <| ck (InK .i64 (st3.2 / t.1)) <| if (decide ((st1.2 / t.1) = (st3.2 / t.1))) = true then
  ck ((st3.1.length + 1) * 24 ≤ 140737488355328) <| ck (InK .i64 (st3.2 + 1)) <| some (.next ((st3.1 ++ [(st1.2, st2.2, st3.2)]), (st3.2 + 1)))
  else
  ck (InK .i64 (st3.2 + 1)) <| some (.next (st3.1, (st3.2 + 1)))
  else
  ck (InK .i64 (st3.2 + 1)) <| some (.next (st3.1, (st3.2 + 1)))
  else
  if v0_4 = true then
  ck (0 ≤ st1.2) <| ck (0 < t.1) <| ck (InK .i64 (st1.2 / t.1)) <| ck (0 ≤ st3.2) <| ck (0 < t.1) <| ck (InK .i64 (st3.2 / t.1)) <| if (decide ((st1.2 / t.1) = (st3.2 / t.1))) = true then
  ck ((st3.1.length + 1) * 24 ≤ 140737488355328) <| ck (InK .i64 (st3.2 + 1)) <| some (.next ((st3.1 ++ [(st1.2, st2.2, st3.2)]), (st3.2 + 1)))
  else
  ck (InK .i64 (st3.2 + 1)) <| some (.next (st3.1, (st3.2 + 1)))
  else
  ck (InK .i64 (st3.2 + 1)) <| some (.next (st3.1, (st3.2 + 1)))
  else
  if b4.2 = true then
  ck ((st3.1.length + 1) * 24 ≤ 140737488355328) <| ck (InK .i64 (st3.2 + 1)) <| some (.next ((st3.1 ++ [(st1.2, st2.2, st3.2)]), (st3.2 + 1)))
  else
  ck (InK .i64 (st3.2 + 1)) <| some (.next (st3.1, (st3.2 + 1)))
noncomputable def linealref05_Both_b3 (s : Int × (List (Int × Int × Int))) (t : Int × (List (Int × Int × Int))) (st1 : (List (Int × Int × Int)) × Int) (st2 : (List (Int × Int × Int)) × Int) (st3 : (List (Int × Int × Int)) × Int) : Option (Step ((List (Int × Int × Int)) × Int) ((List (Int × Int × Int)))) :=
  if (decide (st3.2 < (s.1 * t.1))) = true then
  ck (0 ≤ st1.2) <| ck (0 < t.1) <| ck (InK .i64 (st1.2 / t.1)) <| ck (0 ≤ st3.2) <| ck (0 < t.1) <| ck (InK .i64 (st3.2 / t.1)) <| (linealref05_has s (st1.2 / t.1) st2.2 (st3.2 / t.1)).bind fun v0_3 =>
  ck (0 ≤ st1.2) <| ck (0 < t.1) <| ck (0 ≤ st3.2) <| ck (0 < t.1) <| (linealref05_has t (st1.2 % t.1) st2.2 (st3.2 % t.1)).bind fun v0_4 =>
  if v0_3 = true then
  linealref05_Both_k4 t st1 st2 st3 v0_4 (true, v0_4)
  else
  linealref05_Both_k4 t st1 st2 st3 v0_4 (false, false)
  else
  some (.done st3.1)
noncomputable def linealref05_Both_b2 (s : Int × (List (Int × Int × Int))) (t : Int × (List (Int × Int × Int))) (st1 : (List (Int × Int × Int)) × Int) (st2 : (List (Int × Int × Int)) × Int) : Option (Step ((List (Int × Int × Int)) × Int) ((List (Int × Int × Int)))) :=
  if (decide (st2.2 < 4)) = true then
  (whileO (linealref05_Both_b3 s t st1 st2) (st2.1, 0)).bind fun r3 =>
  linealref05_Both_k3 st2 r3
  else
  some (.done st2.1)
noncomputable def linealref05_Both_b1 (s : Int × (List (Int × Int × Int))) (t : Int × (List (Int × Int × Int))) (st1 : (List (Int × Int × Int)) × Int) : Option (Step ((List (Int × Int × Int)) × Int) ((List (Int × Int × Int)))) :=
  if (decide (st1.2 < (s.1 * t.1))) = true then
  (whileO (linealref05_Both_b2 s t st1) (st1.1, 0)).bind fun r2 =>
  linealref05_Both_k2 st1 r2
  else
  some (.done st1.1)
noncomputable def linealref05_Both (s : Int × (List (Int × Int × Int))) (t : Int × (List (Int × Int × Int))) : Option (Int × (List (Int × Int × Int)) × Int) :=
  (linealref05_Valid s).bind fun v0 =>
  if (!v0) = true then
  some (0, [], 50)
  else
  (linealref05_Valid t).bind fun v0_2 =>
  if (!v0_2) = true then
  some (0, [], 50)
  else
  ck (InK .i64 (s.1 * t.1)) <| if (decide (6 < (s.1 * t.1))) = true then
  some (0, [], 4)
  else
  (whileO (linealref05_Both_b1 s t) ([], 0)).bind fun r1 =>
  linealref05_Both_k1 s t r1

/- lineal/lineallaw05.RefineOthers -/
noncomputable def lineallaw05_RefineOthers (s : Int × (List (Int × Int × Int))) (t : Int × (List (Int × Int × Int))) (label : Int) (step : Int) : Option Bool :=
  (lineallaw05_Long s).bind fun v0 =>
  if (decide (100 < (s.2.length : Int))) = true then
  (lineallaw05_Awake).bind fun v0_2 =>
  some v0_2
  else
  (lineallaw05_Long t).bind fun v0_3 =>
  if (decide (100 < (t.2.length : Int))) = true then
  (lineallaw05_Awake).bind fun v0_4 =>
  some v0_4
  else
  (refine_Hidden s label).bind fun v0_5 =>
  (linealref05_Hidden s label).bind fun v0_6 =>
  (linealref05_Same (v0_5.1, v0_5.2.1) (v0_6.1, v0_6.2.1)).bind fun v0_7 =>
  if (!v0_7) = true then
  some false
  else
  if (!(decide (v0_5.2.2 = v0_6.2.2))) = true then
  some false
  else
  (refine_Without s step).bind fun v0_8 =>
  (linealref05_Without s step).bind fun v0_9 =>
  (linealref05_Same (v0_8.1, v0_8.2.1) (v0_9.1, v0_9.2.1)).bind fun v0_10 =>
  if (!v0_10) = true then
  some false
  else
  if (!(decide (v0_8.2.2 = v0_9.2.2))) = true then
  some false
  else
  (refine_Both s t).bind fun v0_11 =>
  (linealref05_Both s t).bind fun v0_12 =>
  (linealref05_Same (v0_11.1, v0_11.2.1) (v0_12.1, v0_12.2.1)).bind fun v0_13 =>
  if v0_13 = true then
  if (decide (v0_11.2.2 = v0_12.2.2)) = true then
  (lineallaw05_Awake).bind fun v0_14 =>
  some v0_14
  else
  some false
  else
  some false

/- lineal/lineallaw05.RefineBoth -/
noncomputable def lineallaw05_RefineBoth (s : Int × (List (Int × Int × Int))) (t : Int × (List (Int × Int × Int))) (trace : List Int) : Option Bool :=
  (lineallaw05_valid [s, t]).bind fun v0 =>
  if (!v0) = true then
  (lineallaw05_Awake).bind fun v0_2 =>
  some v0_2
  else
  if (decide (100 < (trace.length : Int))) = true then
  (lineallaw05_Awake).bind fun v0_3 =>
  some v0_3
  else
  (refine_Both s t).bind fun v0_4 =>
  if (!(decide (v0_4.2.2 = 0))) = true then
  if (decide (v0_4.2.2 = 4)) = true then
  (lineallaw05_Awake).bind fun v0_5 =>
  some v0_5
  else
  some false
  else
  (linealref05_Valid (v0_4.1, v0_4.2.1)).bind fun v0_6 =>
  if (!v0_6) = true then
  some false
  else
  ck (InK .i64 (s.1 * t.1)) <| if (!(decide (v0_4.1 = (s.1 * t.1)))) = true then
  some false
  else
  (refine_Refines (v0_4.1, v0_4.2.1) s).bind fun v0_7 =>
  (refine_Refines (v0_4.1, v0_4.2.1) t).bind fun v0_8 =>
  (refine_IsTrace (v0_4.1, v0_4.2.1) trace).bind fun v0_9 =>
  (refine_IsTrace s trace).bind fun v0_10 =>
  (refine_IsTrace t trace).bind fun v0_11 =>
  if (decide (v0_7.2 = 0)) = true then
  if (decide (v0_8.2 = 0)) = true then
  if v0_7.1 = true then
  if v0_8.1 = true then
  if (decide (v0_9.2 = v0_10.2)) = true then
  if (decide (v0_10.2 = v0_11.2)) = true then
  if v0_10.1 = true then
  if ((v0_9.1 == v0_11.1) != false) = true then
  (lineallaw05_Awake).bind fun v0_12 =>
  some v0_12
  else
  some false
  else
  if ((v0_9.1 == false) != false) = true then
  (lineallaw05_Awake).bind fun v0_13 =>
  some v0_13
  else
  some false
  else
  some false
  else
  some false
  else
  some false
  else
  some false
  else
  some false
  else
  some false

end Go.Proofs.Ytifleoceebaooaa
