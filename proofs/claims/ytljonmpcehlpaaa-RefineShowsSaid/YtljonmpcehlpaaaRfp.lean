/-
  Made by wip/tool/dc.py out of the print of the program: pure functions.
-/
import Derived.Test.YtljonmpcehlpaaaTyr
namespace Go.Proofs.Ytljonmpcehlpaaa
open Go.RowKit

set_option linter.unusedSimpArgs false
set_option linter.unusedVariables false
set_option linter.constructorNameAsVariable false

abbrev ZS : Type := List (Int × Int × (List (List Int)) × (List (List Int)))
abbrev ZH : Type := List (Int × Int × Int × Int × Int × Int)
abbrev ZM : Type := List (((Int × Int) × Int) × Int)
/- lineal/lineallaw05.Long -/
noncomputable def lineallaw05_Long (s : Int × (List (Int × Int × Int))) : Option Unit :=
  some ()

/- lineal/refine.isState -/
noncomputable def refine_isState (s : Int × (List (Int × Int × Int))) (state : Int) : Option Bool :=
  if (decide (0 ≤ state)) = true then
  some (decide (state < s.1))
  else
  some false

/- lineal/refine.isHidden -/
noncomputable def refine_isHidden (label : Int) : Option Unit :=
  some ()

/- lineal/refine.isSeen -/
noncomputable def refine_isSeen (label : Int) : Option Bool :=
  if (decide (0 < label)) = true then
  some (decide (label ≤ 3))
  else
  some false

/- lineal/refine.isLabel -/
noncomputable def refine_isLabel (label : Int) : Option Bool :=
  (refine_isHidden label).bind fun v0 =>
  if (decide (label = 0)) = true then
  some true
  else
  (refine_isSeen label).bind fun v0_2 =>
  some v0_2

/- lineal/refine.isStep -/
noncomputable def refine_isStep (s : Int × (List (Int × Int × Int))) (step : Int × Int × Int) : Option Bool :=
  (refine_isState s step.1).bind fun v0 =>
  if v0 = true then
  (refine_isLabel step.2.1).bind fun v0_2 =>
  if v0_2 = true then
  (refine_isState s step.2.2).bind fun v0_3 =>
  some v0_3
  else
  some false
  else
  some false

/- slices.Index[[]lineal/api.Step,lineal/api.Step] -/
noncomputable def slices_Index_k1 : Option Int :=
  some (-1)
noncomputable def slices_Index_b1 (s : List (Int × Int × Int)) (v0 : Int × Int × Int) (st1 : Int) : Option (Step Int (Sum Int Unit)) :=
  if (decide (st1 < (s.length : Int))) = true then
  ck (0 ≤ st1) <| ck (st1 < (s.length : Int)) <| ck (InK .i64 v0.1) <| ck (InK .i64 v0.2.1) <| ck (InK .i64 v0.2.2) <| ck (InK .i64 (s.getD st1.toNat (0, 0, 0)).1) <| ck (InK .i64 (s.getD st1.toNat (0, 0, 0)).2.1) <| ck (InK .i64 (s.getD st1.toNat (0, 0, 0)).2.2) <| if (decide (v0 = (s.getD st1.toNat (0, 0, 0)))) = true then
  some (.done (Sum.inl st1))
  else
  ck (InK .i64 (st1 + 1)) <| some (.next (st1 + 1))
  else
  some (.done (Sum.inr ()))
noncomputable def slices_Index (s : List (Int × Int × Int)) (v0 : Int × Int × Int) : Option Int :=
  (whileO (slices_Index_b1 s v0) 0).bind fun x => match x with
  | .inl r1 => (some r1)
  | .inr _ => (slices_Index_k1)

/- slices.Contains[[]lineal/api.Step,lineal/api.Step] -/
noncomputable def slices_Contains (s : List (Int × Int × Int)) (v0 : Int × Int × Int) : Option Bool :=
  (slices_Index s v0).bind fun v0_2 =>
  some (decide (0 ≤ v0_2))

/- lineal/refine.Valid -/
noncomputable def refine_Valid_k1 : Option Bool :=
  some true
noncomputable def refine_Valid_b1 (s : Int × (List (Int × Int × Int))) (st1 : Int) : Option (Step Int (Sum Unit Unit)) :=
  if (decide (st1 < (s.2.length : Int))) = true then
  ck (0 ≤ st1) <| ck (st1 < (s.2.length : Int)) <| (refine_isStep s (s.2.getD st1.toNat (0, 0, 0))).bind fun v0 =>
  if (!v0) = true then
  some (.done (Sum.inl ()))
  else
  ck (0 ≤ st1) <| ck (st1 ≤ (s.2.length : Int)) <| (slices_Contains (s.2.take st1.toNat) (s.2.getD st1.toNat (0, 0, 0))).bind fun v0_2 =>
  if v0_2 = true then
  some (.done (Sum.inl ()))
  else
  ck (InK .i64 (st1 + 1)) <| some (.next (st1 + 1))
  else
  some (.done (Sum.inr ()))
noncomputable def refine_Valid (s : Int × (List (Int × Int × Int))) : Option Bool :=
  if (decide (s.1 < 1)) = true then
  some false
  else
  if (decide (6 < s.1)) = true then
  some false
  else
  if (decide (24 < (s.2.length : Int))) = true then
  some false
  else
  (whileO (refine_Valid_b1 s) 0).bind fun x => match x with
  | .inl _ => (some false)
  | .inr _ => (refine_Valid_k1)

/- (lineal/refine.set).has -/
noncomputable def refine_set_has (s : Int) (state : Int) : Option Unit :=
  ck (0 ≤ state) <| some ()

/- (lineal/refine.frame).led$1 -/
noncomputable def refine_frame_led_1_b1 (slf : Int → Int → ((Int × (List (Int × Int × Int))) × (El T69)) → Option Int) (state : Int) (a2 : (Int × (List (Int × Int × Int))) × (El T69)) (st1 : Int × Int) : Option (Step (Int × Int) Int) :=
  if (decide (st1.2 < (a2.1.2.length : Int))) = true then
  ck (0 ≤ st1.2) <| ck (st1.2 < (a2.1.2.length : Int)) <| if (decide ((a2.1.2.getD st1.2.toNat (0, 0, 0)).1 = state)) = true then
  (refine_isHidden (a2.1.2.getD st1.2.toNat (0, 0, 0)).2.1).bind fun v0_2 =>
  if (decide ((a2.1.2.getD st1.2.toNat (0, 0, 0)).2.1 = 0)) = true then
  (slf (a2.1.2.getD st1.2.toNat (0, 0, 0)).2.2 st1.1 a2).bind fun v0_3 =>
  ck (InK .i64 (st1.2 + 1)) <| some (.next (v0_3, (st1.2 + 1)))
  else
  ck (InK .i64 (st1.2 + 1)) <| some (.next (st1.1, (st1.2 + 1)))
  else
  ck (InK .i64 (st1.2 + 1)) <| some (.next (st1.1, (st1.2 + 1)))
  else
  some (.done st1.1)
noncomputable def refine_frame_led_1F (slf : Int → Int → ((Int × (List (Int × Int × Int))) × (El T69)) → Option Int) (state : Int) (a1 : Int) (a2 : (Int × (List (Int × Int × Int))) × (El T69)) : Option Int :=
  (refine_set_has a1 state).bind fun v0 =>
  if (decide ((iand .u8 (ishr .u8 a1 state) 1) = 1)) = true then
  some a1
  else
  ck (0 ≤ state) <| (whileO (refine_frame_led_1_b1 slf state a2) ((ior .u8 a1 (ishl .u8 1 state)), 0)).bind fun r1 =>
  some r1
noncomputable def refine_frame_led_1 (n : Nat) : Int → Int → ((Int × (List (Int × Int × Int))) × (El T69)) → Option Int := Nat.rec (motive := fun _ => Int → Int → ((Int × (List (Int × Int × Int))) × (El T69)) → Option Int) (fun _ _ _ => none) (fun _ slf => refine_frame_led_1F slf) n

/- (lineal/refine.frame).led -/
noncomputable def refine_frame_led (f : (Int × (List (Int × Int × Int))) × (El T69)) (from0 : Int) : Option Int :=
  (refine_frame_led_1 fuel from0 0 f).bind fun v0 =>
  some v0

/- lineal/refine.frameOf -/
noncomputable def refine_frameOf_k2 (s : Int × (List (Int × Int × Int))) (b3_2 : (El T69)) : Option (Int × (List (Int × Int × Int)) × (El T69) × Int) :=
  some (s.1, s.2, b3_2, 0)
noncomputable def refine_frameOf_k3 (st2 : (El T69) × Int) (b3 : (El T69)) : Option (Step ((El T69) × Int) ((El T69))) :=
  ck (InK .i64 (st2.2 + 1)) <| some (.next (b3, (st2.2 + 1)))
noncomputable def refine_frameOf_b3 (s : Int × (List (Int × Int × Int))) (st2 : (El T69) × Int) (st3 : (El T69) × Int) : Option (Step ((El T69) × Int) ((El T69))) :=
  if (decide (st3.2 < s.1)) = true then
  (refine_isSeen (s.2.getD st2.2.toNat (0, 0, 0)).2.1).bind fun v0_3 =>
  if v0_3 = true then
  ck (0 ≤ st3.2) <| ck (st3.2 < 6) <| (refine_set_has (intAt T69 st3.1 ((st3.2.toNat * 4) + 0)) (s.2.getD st2.2.toNat (0, 0, 0)).1).bind fun v0_4 =>
  if (decide ((iand .u8 (ishr .u8 (intAt T69 st3.1 ((st3.2.toNat * 4) + 0)) (s.2.getD st2.2.toNat (0, 0, 0)).1) 1) = 1)) = true then
  ck (0 ≤ st3.2) <| ck (st3.2 < 6) <| ck (0 ≤ (s.2.getD st2.2.toNat (0, 0, 0)).2.1) <| ck ((s.2.getD st2.2.toNat (0, 0, 0)).2.1 < 4) <| ck (0 ≤ (s.2.getD st2.2.toNat (0, 0, 0)).2.2) <| ck ((s.2.getD st2.2.toNat (0, 0, 0)).2.2 < 6) <| ck (0 ≤ st3.2) <| ck (st3.2 < 6) <| ck (0 ≤ (s.2.getD st2.2.toNat (0, 0, 0)).2.1) <| ck ((s.2.getD st2.2.toNat (0, 0, 0)).2.1 < 4) <| ck (InK .i64 (st3.2 + 1)) <| some (.next ((setInt T69 st3.1 ((st3.2.toNat * 4) + (s.2.getD st2.2.toNat (0, 0, 0)).2.1.toNat * 1) (ior .u8 (intAt T69 st3.1 ((st3.2.toNat * 4) + (s.2.getD st2.2.toNat (0, 0, 0)).2.1.toNat * 1)) (intAt T69 st3.1 (((s.2.getD st2.2.toNat (0, 0, 0)).2.2.toNat * 4) + 0)))), (st3.2 + 1)))
  else
  ck (InK .i64 (st3.2 + 1)) <| some (.next (st3.1, (st3.2 + 1)))
  else
  ck (InK .i64 (st3.2 + 1)) <| some (.next (st3.1, (st3.2 + 1)))
  else
  some (.done st3.1)
noncomputable def refine_frameOf_b2 (s : Int × (List (Int × Int × Int))) (st2 : (El T69) × Int) : Option (Step ((El T69) × Int) ((El T69))) :=
  if (decide (st2.2 < (s.2.length : Int))) = true then
  ck (0 ≤ st2.2) <| ck (st2.2 < (s.2.length : Int)) <| (whileO (refine_frameOf_b3 s st2) (st2.1, 0)).bind fun r3 =>
  refine_frameOf_k3 st2 r3
  else
  some (.done st2.1)
noncomputable def refine_frameOf_k1 (s : Int × (List (Int × Int × Int))) (b1 : (El T69)) : Option (Int × (List (Int × Int × Int)) × (El T69) × Int) :=
  (whileO (refine_frameOf_b2 s) (b1, 0)).bind fun r2 =>
  refine_frameOf_k2 s r2
noncomputable def refine_frameOf_b1 (s : Int × (List (Int × Int × Int))) (st1 : (El T69) × Int) : Option (Step ((El T69) × Int) ((El T69))) :=
  if (decide (st1.2 < s.1)) = true then
  (refine_frame_led (s, st1.1) st1.2).bind fun v0_2 =>
  ck (0 ≤ st1.2) <| ck (st1.2 < 6) <| ck (InK .i64 (st1.2 + 1)) <| some (.next ((setInt T69 st1.1 ((st1.2.toNat * 4) + 0) v0_2), (st1.2 + 1)))
  else
  some (.done st1.1)
noncomputable def refine_frameOf (s : Int × (List (Int × Int × Int))) : Option (Int × (List (Int × Int × Int)) × (El T69) × Int) :=
  (refine_Valid s).bind fun v0 =>
  if (!v0) = true then
  some (0, [], (Ty.dflt T69), 50)
  else
  (whileO (refine_frameOf_b1 s) ((Ty.dflt T69), 0)).bind fun r1 =>
  refine_frameOf_k1 s r1

/- lineal/refine.twoOf -/
noncomputable def refine_twoOf (c : Int × (List (Int × Int × Int))) (a : Int × (List (Int × Int × Int))) : Option (Int × (List (Int × Int × Int)) × (El T69) × Int × (List (Int × Int × Int)) × (El T69) × Int) :=
  (refine_frameOf c).bind fun v0 =>
  if (!(decide (v0.2.2.2 = 0))) = true then
  some (0, [], (Ty.dflt T69), 0, [], (Ty.dflt T69), v0.2.2.2)
  else
  (refine_frameOf a).bind fun v0_2 =>
  if (!(decide (v0_2.2.2.2 = 0))) = true then
  some (0, [], (Ty.dflt T69), 0, [], (Ty.dflt T69), v0_2.2.2.2)
  else
  some (v0.1, v0.2.1, v0.2.2.1, v0_2.1, v0_2.2.1, v0_2.2.2.1, 0)

/- (lineal/refine.frame).begin -/
noncomputable def refine_frame_begin (f : (Int × (List (Int × Int × Int))) × (El T69)) : Option Unit :=
  some ()

/- (lineal/refine.set).states -/
noncomputable def refine_set_states_k1 (b1 : (List Int)) : Option ((List Int)) :=
  some b1
noncomputable def refine_set_states_b1 (s : Int) (st1 : (List Int) × Int) : Option (Step ((List Int) × Int) ((List Int))) :=
  if (decide (st1.2 < 6)) = true then
  (refine_set_has s st1.2).bind fun v0 =>
  if (decide ((iand .u8 (ishr .u8 s st1.2) 1) = 1)) = true then
  ck ((st1.1.length + 1) * 8 ≤ 140737488355328) <| ck (InK .i64 (st1.2 + 1)) <| some (.next ((st1.1 ++ [st1.2]), (st1.2 + 1)))
  else
  ck (InK .i64 (st1.2 + 1)) <| some (.next (st1.1, (st1.2 + 1)))
  else
  some (.done st1.1)
noncomputable def refine_set_states (s : Int) : Option ((List Int)) :=
  (whileO (refine_set_states_b1 s) ([], 0)).bind fun r1 =>
  refine_set_states_k1 r1

/- (lineal/refine.frame).after -/
noncomputable def refine_frame_after_k1 (b1 : Int) : Option Int :=
  some b1
noncomputable def refine_frame_after_b1 (f : (Int × (List (Int × Int × Int))) × (El T69)) (label : Int) (v0 : (List Int)) (st1 : Int × Int) : Option (Step (Int × Int) Int) :=
  if (decide (st1.2 < (v0.length : Int))) = true then
  ck (0 ≤ st1.2) <| ck (st1.2 < (v0.length : Int)) <| ck (0 ≤ (v0.getD st1.2.toNat 0)) <| ck ((v0.getD st1.2.toNat 0) < 6) <| ck (0 ≤ label) <| ck (label < 4) <| ck (InK .i64 (st1.2 + 1)) <| some (.next ((ior .u8 st1.1 (intAt T69 f.2 (((v0.getD st1.2.toNat 0).toNat * 4) + label.toNat * 1))), (st1.2 + 1)))
  else
  some (.done st1.1)
noncomputable def refine_frame_after (f : (Int × (List (Int × Int × Int))) × (El T69)) (from0 : Int) (label : Int) : Option Int :=
  (refine_set_states from0).bind fun v0 =>
  (whileO (refine_frame_after_b1 f label v0) (0, 0)).bind fun r1 =>
  refine_frame_after_k1 r1

/- slices.Clone[[]int,int] -/
noncomputable def slices_Clone (s : List Int) : Option ((List Int)) :=
  ck (s.length * 8 ≤ 140737488355328) <| some s

/- lineal/refine.longer -/
noncomputable def refine_longer (trace : List Int) (label : Int) : Option ((List Int)) :=
  (slices_Clone trace).bind fun v0 =>
  ck ((v0.length + 1) * 8 ≤ 140737488355328) <| some (v0 ++ [label])

/- (lineal/refine.two).shows -/
noncomputable def refine_two_shows_k1 : Option ((List Int) × Bool) :=
  some ([], false)
noncomputable def refine_two_shows_k2 (st1 : (List (Int × Int)) × (List (List Int)) × (List ((Int × Int) × Bool)) × Int) (b2 : (List (Int × Int)) × (List (List Int)) × (List ((Int × Int) × Bool))) : Option (Step ((List (Int × Int)) × (List (List Int)) × (List ((Int × Int) × Bool)) × Int) (Sum ((List Int)) Unit)) :=
  ck (InK .i64 (st1.2.2.2 + 1)) <| some (.next (b2.1, b2.2.1, b2.2.2, (st1.2.2.2 + 1)))
noncomputable def refine_two_shows_b2 (t : ((Int × (List (Int × Int × Int))) × (El T69)) × (Int × (List (Int × Int × Int))) × (El T69)) (st1 : (List (Int × Int)) × (List (List Int)) × (List ((Int × Int) × Bool)) × Int) (st2 : (List (Int × Int)) × (List (List Int)) × (List ((Int × Int) × Bool)) × Int) : Option (Step ((List (Int × Int)) × (List (List Int)) × (List ((Int × Int) × Bool)) × Int) (Sum ((List Int)) ((List (Int × Int)) × (List (List Int)) × (List ((Int × Int) × Bool))))) :=
  if (decide (st2.2.2.2 ≤ 3)) = true then
  ck (0 ≤ st1.2.2.2) <| ck (st1.2.2.2 < (st2.1.length : Int)) <| (refine_frame_after t.1 (st2.1.getD st1.2.2.2.toNat (0, 0)).1 st2.2.2.2).bind fun v0_3 =>
  ck (0 ≤ st1.2.2.2) <| ck (st1.2.2.2 < (st2.1.length : Int)) <| (refine_frame_after t.2 (st2.1.getD st1.2.2.2.toNat (0, 0)).2 st2.2.2.2).bind fun v0_4 =>
  if (decide (v0_3 = 0)) = true then
  ck (InK .i64 (st2.2.2.2 + 1)) <| some (.next (st2.1, st2.2.1, st2.2.2.1, (st2.2.2.2 + 1)))
  else
  ck (InK .u8 v0_3) <| ck (InK .u8 v0_4) <| if (mget false st2.2.2.1 (v0_3, v0_4)) = true then
  ck (InK .i64 (st2.2.2.2 + 1)) <| some (.next (st2.1, st2.2.1, st2.2.2.1, (st2.2.2.2 + 1)))
  else
  ck (0 ≤ st1.2.2.2) <| ck (st1.2.2.2 < (st2.2.1.length : Int)) <| (refine_longer (st2.2.1.getD st1.2.2.2.toNat []) st2.2.2.2).bind fun v0_5 =>
  if (decide (v0_4 = 0)) = true then
  some (.done (Sum.inl v0_5))
  else
  ck (InK .u8 v0_3) <| ck (InK .u8 v0_4) <| ck ((st2.1.length + 1) * 2 ≤ 140737488355328) <| ck ((st2.2.1.length + 1) * 24 ≤ 140737488355328) <| ck (InK .i64 (st2.2.2.2 + 1)) <| some (.next ((st2.1 ++ [(v0_3, v0_4)]), (st2.2.1 ++ [v0_5]), (mput st2.2.2.1 (v0_3, v0_4) true), (st2.2.2.2 + 1)))
  else
  some (.done (Sum.inr (st2.1, st2.2.1, st2.2.2.1)))
noncomputable def refine_two_shows_b1 (t : ((Int × (List (Int × Int × Int))) × (El T69)) × (Int × (List (Int × Int × Int))) × (El T69)) (st1 : (List (Int × Int)) × (List (List Int)) × (List ((Int × Int) × Bool)) × Int) : Option (Step ((List (Int × Int)) × (List (List Int)) × (List ((Int × Int) × Bool)) × Int) (Sum ((List Int)) Unit)) :=
  if (decide (st1.2.2.2 < (st1.1.length : Int))) = true then
  (whileO (refine_two_shows_b2 t st1) (st1.1, st1.2.1, st1.2.2.1, 1)).bind fun x => match x with
  | .inl r2 => (some (.done (Sum.inl r2)))
  | .inr r2_2 => (refine_two_shows_k2 st1 r2_2)
  else
  some (.done (Sum.inr ()))
noncomputable def refine_two_shows (t : ((Int × (List (Int × Int × Int))) × (El T69)) × (Int × (List (Int × Int × Int))) × (El T69)) : Option ((List Int) × Bool) :=
  (refine_frame_begin t.1).bind fun v0 =>
  (refine_frame_begin t.2).bind fun v0_2 =>
  ck (InK .u8 ([((intAt T69 t.1.2 0), (intAt T69 t.2.2 0))].getD 0 (0, 0)).1) <| ck (InK .u8 ([((intAt T69 t.1.2 0), (intAt T69 t.2.2 0))].getD 0 (0, 0)).2) <| (whileO (refine_two_shows_b1 t) ([((intAt T69 t.1.2 0), (intAt T69 t.2.2 0))], [[]], (mput [] ([((intAt T69 t.1.2 0), (intAt T69 t.2.2 0))].getD 0 (0, 0)) true), 0)).bind fun x => match x with
  | .inl r1 => (some (r1, true))
  | .inr _ => (refine_two_shows_k1)

/- lineal/refine.Shows -/
noncomputable def refine_Shows (c : Int × (List (Int × Int × Int))) (a : Int × (List (Int × Int × Int))) : Option ((List Int) × Int) :=
  (refine_twoOf c a).bind fun v0 =>
  if (!(decide (v0.2.2.2.2.2.2 = 0))) = true then
  some ([], v0.2.2.2.2.2.2)
  else
  (refine_two_shows (((v0.1, v0.2.1), v0.2.2.1), (v0.2.2.2.1, v0.2.2.2.2.1), v0.2.2.2.2.2.1)).bind fun v0_2 =>
  if (!v0_2.2) = true then
  some ([], 5)
  else
  some (v0_2.1, 0)

/- lineal/linealref05.SameInts -/
noncomputable def linealref05_SameInts_k1 : Option Bool :=
  some true
noncomputable def linealref05_SameInts_b1 (a : List Int) (b : List Int) (st1 : Int) : Option (Step Int (Sum Unit Unit)) :=
  if (decide (st1 < (a.length : Int))) = true then
  ck (0 ≤ st1) <| ck (st1 < (a.length : Int)) <| ck (0 ≤ st1) <| ck (st1 < (b.length : Int)) <| if (!(decide ((a.getD st1.toNat 0) = (b.getD st1.toNat 0)))) = true then
  some (.done (Sum.inl ()))
  else
  ck (InK .i64 (st1 + 1)) <| some (.next (st1 + 1))
  else
  some (.done (Sum.inr ()))
noncomputable def linealref05_SameInts (a : List Int) (b : List Int) : Option Bool :=
  if (!(decide ((a.length : Int) = (b.length : Int)))) = true then
  some false
  else
  (whileO (linealref05_SameInts_b1 a b) 0).bind fun x => match x with
  | .inl _ => (some false)
  | .inr _ => (linealref05_SameInts_k1)

/- lineal/lineallaw05.Awake -/
noncomputable def lineallaw05_Awake : Option Bool :=
  (refine_Shows (2, [(0, 1, 1), (1, 2, 0), (1, 3, 0)]) (2, [(0, 1, 1), (1, 2, 0)])).bind fun v0 =>
  if (decide (v0.2 = 0)) = true then
  (linealref05_SameInts v0.1 [1, 3]).bind fun v0_2 =>
  some v0_2
  else
  some false

/- lineal/refine.IsTrace$1 -/
noncomputable def refine_IsTrace_1 (label : Int) : Option Bool :=
  (refine_isSeen label).bind fun v0 =>
  some (!v0)

/- slices.IndexFunc[[]int,int] -/
noncomputable def slices_IndexFunc_k1 : Option Int :=
  some (-1)
noncomputable def slices_IndexFunc_b1 (s : List Int) (st1 : Int) : Option (Step Int (Sum Int Unit)) :=
  if (decide (st1 < (s.length : Int))) = true then
  ck (0 ≤ st1) <| ck (st1 < (s.length : Int)) <| (refine_IsTrace_1 (s.getD st1.toNat 0)).bind fun v0 =>
  if v0 = true then
  some (.done (Sum.inl st1))
  else
  ck (InK .i64 (st1 + 1)) <| some (.next (st1 + 1))
  else
  some (.done (Sum.inr ()))
noncomputable def slices_IndexFunc (s : List Int) : Option Int :=
  (whileO (slices_IndexFunc_b1 s) 0).bind fun x => match x with
  | .inl r1 => (some r1)
  | .inr _ => (slices_IndexFunc_k1)

/- slices.ContainsFunc[[]int,int] -/
noncomputable def slices_ContainsFunc (s : List Int) : Option Bool :=
  (slices_IndexFunc s).bind fun v0 =>
  some (decide (0 ≤ v0))

/- (lineal/refine.frame).isTrace -/
noncomputable def refine_frame_isTrace_k1 (b1 : Int) : Option Bool :=
  some (!(decide (b1 = 0)))
noncomputable def refine_frame_isTrace_b1 (f : (Int × (List (Int × Int × Int))) × (El T69)) (trace : List Int) (st1 : Int × Int) : Option (Step (Int × Int) Int) :=
  if (decide (st1.2 < (trace.length : Int))) = true then
  ck (0 ≤ st1.2) <| ck (st1.2 < (trace.length : Int)) <| (refine_frame_after f st1.1 (trace.getD st1.2.toNat 0)).bind fun v0_2 =>
  ck (InK .i64 (st1.2 + 1)) <| some (.next (v0_2, (st1.2 + 1)))
  else
  some (.done st1.1)
noncomputable def refine_frame_isTrace (f : (Int × (List (Int × Int × Int))) × (El T69)) (trace : List Int) : Option Bool :=
  (refine_frame_begin f).bind fun v0 =>
  (whileO (refine_frame_isTrace_b1 f trace) ((intAt T69 f.2 0), 0)).bind fun r1 =>
  refine_frame_isTrace_k1 r1

/- lineal/refine.IsTrace -/
noncomputable def refine_IsTrace (s : Int × (List (Int × Int × Int))) (trace : List Int) : Option (Bool × Int) :=
  (refine_frameOf s).bind fun v0 =>
  if (!(decide (v0.2.2.2 = 0))) = true then
  some (false, v0.2.2.2)
  else
  if (decide (1000 < (trace.length : Int))) = true then
  some (false, 2)
  else
  (slices_ContainsFunc trace).bind fun v0_2 =>
  if v0_2 = true then
  some (false, 2)
  else
  (refine_frame_isTrace ((v0.1, v0.2.1), v0.2.2.1) trace).bind fun v0_3 =>
  some (v0_3, 0)

/- lineal/linealref05.IsState -/
noncomputable def linealref05_IsState (s : Int × (List (Int × Int × Int))) (n : Int) : Option Bool :=
  if (decide (0 ≤ n)) = true then
  some (decide (n < s.1))
  else
  some false

/- lineal/linealref05.Valid -/
noncomputable def linealref05_Valid_k1 : Option Bool :=
  some true
noncomputable def linealref05_Valid_k2 (st1 : Int) : Option (Step Int (Sum Unit Unit)) :=
  ck (InK .i64 (st1 + 1)) <| some (.next (st1 + 1))
noncomputable def linealref05_Valid_b2 (s : Int × (List (Int × Int × Int))) (st1 : Int) (st2 : Int) : Option (Step Int (Sum Unit Unit)) :=
  if (decide (st2 < ((s.2.take st1.toNat).length : Int))) = true then
  ck (0 ≤ st2) <| ck (st2 < ((s.2.take st1.toNat).length : Int)) <| ck (InK .i64 (s.2.getD st1.toNat (0, 0, 0)).1) <| ck (InK .i64 (s.2.getD st1.toNat (0, 0, 0)).2.1) <| ck (InK .i64 (s.2.getD st1.toNat (0, 0, 0)).2.2) <| ck (InK .i64 ((s.2.take st1.toNat).getD st2.toNat (0, 0, 0)).1) <| ck (InK .i64 ((s.2.take st1.toNat).getD st2.toNat (0, 0, 0)).2.1) <| ck (InK .i64 ((s.2.take st1.toNat).getD st2.toNat (0, 0, 0)).2.2) <| if (decide ((s.2.getD st1.toNat (0, 0, 0)) = ((s.2.take st1.toNat).getD st2.toNat (0, 0, 0)))) = true then
  some (.done (Sum.inl ()))
  else
  ck (InK .i64 (st2 + 1)) <| some (.next (st2 + 1))
  else
  some (.done (Sum.inr ()))
noncomputable def linealref05_Valid_b1 (s : Int × (List (Int × Int × Int))) (st1 : Int) : Option (Step Int (Sum Unit Unit)) :=
  if (decide (st1 < (s.2.length : Int))) = true then
  ck (0 ≤ st1) <| ck (st1 < (s.2.length : Int)) <| (linealref05_IsState s (s.2.getD st1.toNat (0, 0, 0)).1).bind fun v0 =>
  if (!v0) = true then
  some (.done (Sum.inl ()))
  else
  (linealref05_IsState s (s.2.getD st1.toNat (0, 0, 0)).2.2).bind fun v0_2 =>
  if (!v0_2) = true then
  some (.done (Sum.inl ()))
  else
  if (decide ((s.2.getD st1.toNat (0, 0, 0)).2.1 < 0)) = true then
  some (.done (Sum.inl ()))
  else
  if (decide (3 < (s.2.getD st1.toNat (0, 0, 0)).2.1)) = true then
  some (.done (Sum.inl ()))
  else
  ck (0 ≤ st1) <| ck (st1 ≤ (s.2.length : Int)) <| (whileO (linealref05_Valid_b2 s st1) 0).bind fun x => match x with
  | .inl _ => (some (.done (Sum.inl ())))
  | .inr _ => (linealref05_Valid_k2 st1)
  else
  some (.done (Sum.inr ()))
noncomputable def linealref05_Valid (s : Int × (List (Int × Int × Int))) : Option Bool :=
  if (decide (s.1 < 1)) = true then
  some false
  else
  if (decide (6 < s.1)) = true then
  some false
  else
  if (decide (24 < (s.2.length : Int))) = true then
  some false
  else
  (whileO (linealref05_Valid_b1 s) 0).bind fun x => match x with
  | .inl _ => (some false)
  | .inr _ => (linealref05_Valid_k1)

/- lineal/linealref05.IsSeen -/
noncomputable def linealref05_IsSeen (label : Int) : Option Bool :=
  if (decide (1 ≤ label)) = true then
  some (decide (label ≤ 3))
  else
  some false

/- lineal/linealref05.step -/
noncomputable def linealref05_step_k1 (b1 : Int) : Option Int :=
  some b1
noncomputable def linealref05_step_b1 (s : Int × (List (Int × Int × Int))) (set0 : Int) (label : Int) (st1 : Int × Int) : Option (Step (Int × Int) Int) :=
  if (decide (st1.2 < (s.2.length : Int))) = true then
  ck (0 ≤ st1.2) <| ck (st1.2 < (s.2.length : Int)) <| if (decide ((s.2.getD st1.2.toNat (0, 0, 0)).2.1 = label)) = true then
  ck (0 ≤ (s.2.getD st1.2.toNat (0, 0, 0)).1) <| if (decide ((iand .i64 (ishr .i64 set0 (s.2.getD st1.2.toNat (0, 0, 0)).1) 1) = 1)) = true then
  ck (0 ≤ (s.2.getD st1.2.toNat (0, 0, 0)).2.2) <| ck (InK .i64 (st1.2 + 1)) <| some (.next ((ior .i64 st1.1 (ishl .i64 1 (s.2.getD st1.2.toNat (0, 0, 0)).2.2)), (st1.2 + 1)))
  else
  ck (InK .i64 (st1.2 + 1)) <| some (.next (st1.1, (st1.2 + 1)))
  else
  ck (InK .i64 (st1.2 + 1)) <| some (.next (st1.1, (st1.2 + 1)))
  else
  some (.done st1.1)
noncomputable def linealref05_step (s : Int × (List (Int × Int × Int))) (set0 : Int) (label : Int) : Option Int :=
  (whileO (linealref05_step_b1 s set0 label) (0, 0)).bind fun r1 =>
  linealref05_step_k1 r1

/- lineal/linealref05.quiet -/
noncomputable def linealref05_quiet_k1 (b1 : Int) : Option Int :=
  some b1
noncomputable def linealref05_quiet_b1 (s : Int × (List (Int × Int × Int))) (st1 : Int × Int) : Option (Step (Int × Int) Int) :=
  if (decide (st1.2 < s.1)) = true then
  (linealref05_step s st1.1 0).bind fun v0 =>
  ck (InK .i64 (st1.2 + 1)) <| some (.next ((ior .i64 st1.1 v0), (st1.2 + 1)))
  else
  some (.done st1.1)
noncomputable def linealref05_quiet (s : Int × (List (Int × Int × Int))) (set0 : Int) : Option Int :=
  (whileO (linealref05_quiet_b1 s) (set0, 0)).bind fun r1 =>
  linealref05_quiet_k1 r1

/- lineal/linealref05.comes -/
noncomputable def linealref05_comes (s : Int × (List (Int × Int × Int))) (set0 : Int) (label : Int) : Option Int :=
  if (decide (label = 0)) = true then
  (linealref05_quiet s set0).bind fun v0 =>
  some v0
  else
  (linealref05_quiet s set0).bind fun v0_2 =>
  (linealref05_step s v0_2 label).bind fun v0_3 =>
  (linealref05_quiet s v0_3).bind fun v0_4 =>
  some v0_4

/- lineal/linealref05.behind -/
noncomputable def linealref05_behind_k1 (b1 : Int) : Option Int :=
  some b1
noncomputable def linealref05_behind_b1 (s : Int × (List (Int × Int × Int))) (trace : List Int) (st1 : Int × Int) : Option (Step (Int × Int) Int) :=
  if (decide (st1.2 < (trace.length : Int))) = true then
  ck (0 ≤ st1.2) <| ck (st1.2 < (trace.length : Int)) <| (linealref05_comes s st1.1 (trace.getD st1.2.toNat 0)).bind fun v0_2 =>
  ck (InK .i64 (st1.2 + 1)) <| some (.next (v0_2, (st1.2 + 1)))
  else
  some (.done st1.1)
noncomputable def linealref05_behind (s : Int × (List (Int × Int × Int))) (trace : List Int) : Option Int :=
  (linealref05_quiet s 1).bind fun v0 =>
  (whileO (linealref05_behind_b1 s trace) (v0, 0)).bind fun r1 =>
  linealref05_behind_k1 r1

/- lineal/linealref05.IsTrace -/
noncomputable def linealref05_IsTrace_k1 (s : Int × (List (Int × Int × Int))) (trace : List Int) : Option (Bool × Int) :=
  if (decide (1000 < (trace.length : Int))) = true then
  some (false, 2)
  else
  (linealref05_behind s trace).bind fun v0_3 =>
  some ((!(decide (v0_3 = 0))), 0)
noncomputable def linealref05_IsTrace_b1 (trace : List Int) (st1 : Int) : Option (Step Int (Sum Unit Unit)) :=
  if (decide (st1 < (trace.length : Int))) = true then
  ck (0 ≤ st1) <| ck (st1 < (trace.length : Int)) <| (linealref05_IsSeen (trace.getD st1.toNat 0)).bind fun v0_2 =>
  if (!v0_2) = true then
  some (.done (Sum.inl ()))
  else
  ck (InK .i64 (st1 + 1)) <| some (.next (st1 + 1))
  else
  some (.done (Sum.inr ()))
noncomputable def linealref05_IsTrace (s : Int × (List (Int × Int × Int))) (trace : List Int) : Option (Bool × Int) :=
  (linealref05_Valid s).bind fun v0 =>
  if (!v0) = true then
  some (false, 50)
  else
  (whileO (linealref05_IsTrace_b1 trace) 0).bind fun x => match x with
  | .inl _ => (some (false, 2))
  | .inr _ => (linealref05_IsTrace_k1 s trace)

/- (lineal/refine.frame).traces$1 -/
noncomputable def refine_frame_traces_1_2_b1 (slf : (List Int) → Int → Int → ((Int × (List (Int × Int × Int))) × (El T69)) → (List (List Int)) → Option ((List (List Int)))) (trace : List Int) (at0 : Int) (a3 : Int) (a4 : (Int × (List (Int × Int × Int))) × (El T69)) (st1 : (List (List Int)) × Int) : Option (Step ((List (List Int)) × Int) ((List (List Int)))) :=
  if (decide (st1.2 ≤ 3)) = true then
  (refine_frame_after a4 at0 st1.2).bind fun v0 =>
  if (!(decide (v0 = 0))) = true then
  (refine_longer trace st1.2).bind fun v0_2 =>
  (slf v0_2 v0 a3 a4 st1.1).bind fun v0_3 =>
  ck (InK .i64 (st1.2 + 1)) <| some (.next (v0_3, (st1.2 + 1)))
  else
  ck (InK .i64 (st1.2 + 1)) <| some (.next (st1.1, (st1.2 + 1)))
  else
  some (.done st1.1)
noncomputable def refine_frame_traces_1_2F (slf : (List Int) → Int → Int → ((Int × (List (Int × Int × Int))) × (El T69)) → (List (List Int)) → Option ((List (List Int)))) (trace : List Int) (at0 : Int) (a3 : Int) (a4 : (Int × (List (Int × Int × Int))) × (El T69)) (a2 : List (List Int)) : Option ((List (List Int))) :=
  ck ((a2.length + 1) * 24 ≤ 140737488355328) <| if (decide ((trace.length : Int) = a3)) = true then
  some (a2 ++ [trace])
  else
  (whileO (refine_frame_traces_1_2_b1 slf trace at0 a3 a4) ((a2 ++ [trace]), 1)).bind fun r1 =>
  some r1
noncomputable def refine_frame_traces_1_2 (n : Nat) : (List Int) → Int → Int → ((Int × (List (Int × Int × Int))) × (El T69)) → (List (List Int)) → Option ((List (List Int))) := Nat.rec (motive := fun _ => (List Int) → Int → Int → ((Int × (List (Int × Int × Int))) × (El T69)) → (List (List Int)) → Option ((List (List Int)))) (fun _ _ _ _ _ => none) (fun _ slf => refine_frame_traces_1_2F slf) n

/- (lineal/refine.frame).traces$1 -/
noncomputable def refine_frame_traces_1_b1 (trace : List Int) (at0 : Int) (a3 : Int) (a4 : (Int × (List (Int × Int × Int))) × (El T69)) (st1 : (List (List Int)) × Int) : Option (Step ((List (List Int)) × Int) ((List (List Int)))) :=
  if (decide (st1.2 ≤ 3)) = true then
  (refine_frame_after a4 at0 st1.2).bind fun v0 =>
  if (!(decide (v0 = 0))) = true then
  (refine_longer trace st1.2).bind fun v0_2 =>
  (refine_frame_traces_1_2 fuel v0_2 v0 a3 a4 st1.1).bind fun v0_3 =>
  ck (InK .i64 (st1.2 + 1)) <| some (.next (v0_3, (st1.2 + 1)))
  else
  ck (InK .i64 (st1.2 + 1)) <| some (.next (st1.1, (st1.2 + 1)))
  else
  some (.done st1.1)
noncomputable def refine_frame_traces_1 (trace : List Int) (at0 : Int) (a3 : Int) (a4 : (Int × (List (Int × Int × Int))) × (El T69)) : Option ((List (List Int))) :=
  if (decide ((trace.length : Int) = a3)) = true then
  some [trace]
  else
  (whileO (refine_frame_traces_1_b1 trace at0 a3 a4) ([trace], 1)).bind fun r1 =>
  some r1

/- (lineal/refine.frame).traces -/
noncomputable def refine_frame_traces (f : (Int × (List (Int × Int × Int))) × (El T69)) (most : Int) : Option ((List (List Int))) :=
  (refine_frame_begin f).bind fun v0 =>
  (refine_frame_traces_1 [] (intAt T69 f.2 0) most f).bind fun v0_2 =>
  some v0_2

/- lineal/refine.Traces -/
noncomputable def refine_Traces (s : Int × (List (Int × Int × Int))) (most : Int) : Option ((List (List Int)) × Int) :=
  (refine_frameOf s).bind fun v0 =>
  if (!(decide (v0.2.2.2 = 0))) = true then
  some ([], v0.2.2.2)
  else
  if (decide (most < 0)) = true then
  some ([], 2)
  else
  if (decide (5 < most)) = true then
  some ([], 2)
  else
  (refine_frame_traces ((v0.1, v0.2.1), v0.2.2.1) most).bind fun v0_2 =>
  some (v0_2, 0)

/- lineal/linealref05.traces -/
noncomputable def linealref05_traces_k1 (b1 : (List (List Int))) : Option ((List (List Int))) :=
  some b1
noncomputable def linealref05_traces_b1 (slf : (Int × (List (Int × Int × Int))) → (List Int) → Int → Option ((List (List Int)))) (s : Int × (List (Int × Int × Int))) (begin : List Int) (most : Int) (st1 : (List (List Int)) × Int) : Option (Step ((List (List Int)) × Int) ((List (List Int)))) :=
  if (decide (st1.2 ≤ 3)) = true then
  if (decide (0 < most)) = true then
  ck (begin.length * 8 ≤ 140737488355328) <| ck ((begin.length + 1) * 8 ≤ 140737488355328) <| ck (InK .i64 (most - 1)) <| (slf s (begin ++ [st1.2]) (most - 1)).bind fun v0_2 =>
  ck ((st1.1.length + v0_2.length) * 24 ≤ 140737488355328) <| ck (InK .i64 (st1.2 + 1)) <| some (.next ((st1.1 ++ v0_2), (st1.2 + 1)))
  else
  some (.done st1.1)
  else
  some (.done st1.1)
noncomputable def linealref05_tracesF (slf : (Int × (List (Int × Int × Int))) → (List Int) → Int → Option ((List (List Int)))) (s : Int × (List (Int × Int × Int))) (begin : List Int) (most : Int) : Option ((List (List Int))) :=
  (linealref05_behind s begin).bind fun v0 =>
  if (decide (v0 = 0)) = true then
  some []
  else
  (whileO (linealref05_traces_b1 slf s begin most) ([begin], 1)).bind fun r1 =>
  linealref05_traces_k1 r1
noncomputable def linealref05_traces (n : Nat) : (Int × (List (Int × Int × Int))) → (List Int) → Int → Option ((List (List Int))) := Nat.rec (motive := fun _ => (Int × (List (Int × Int × Int))) → (List Int) → Int → Option ((List (List Int)))) (fun _ _ _ => none) (fun _ slf => linealref05_tracesF slf) n

/- lineal/linealref05.Traces -/
noncomputable def linealref05_Traces (s : Int × (List (Int × Int × Int))) (most : Int) : Option ((List (List Int)) × Int) :=
  (linealref05_Valid s).bind fun v0 =>
  if (!v0) = true then
  some ([], 50)
  else
  if (decide (most < 0)) = true then
  some ([], 2)
  else
  if (decide (5 < most)) = true then
  some ([], 2)
  else
  (linealref05_traces fuel s [] most).bind fun v0_2 =>
  some (v0_2, 0)

/- lineal/linealref05.SameLists -/
noncomputable def linealref05_SameLists_k1 : Option Bool :=
  some true
noncomputable def linealref05_SameLists_b1 (a : List (List Int)) (b : List (List Int)) (st1 : Int) : Option (Step Int (Sum Unit Unit)) :=
  if (decide (st1 < (a.length : Int))) = true then
  ck (0 ≤ st1) <| ck (st1 < (a.length : Int)) <| ck (0 ≤ st1) <| ck (st1 < (b.length : Int)) <| (linealref05_SameInts (a.getD st1.toNat []) (b.getD st1.toNat [])).bind fun v0 =>
  if (!v0) = true then
  some (.done (Sum.inl ()))
  else
  ck (InK .i64 (st1 + 1)) <| some (.next (st1 + 1))
  else
  some (.done (Sum.inr ()))
noncomputable def linealref05_SameLists (a : List (List Int)) (b : List (List Int)) : Option Bool :=
  if (!(decide ((a.length : Int) = (b.length : Int)))) = true then
  some false
  else
  (whileO (linealref05_SameLists_b1 a b) 0).bind fun x => match x with
  | .inl _ => (some false)
  | .inr _ => (linealref05_SameLists_k1)

/- lineal/lineallaw05.RefineTraces -/
noncomputable def lineallaw05_RefineTraces (s : Int × (List (Int × Int × Int))) (trace : List Int) (most : Int) : Option Bool :=
  (lineallaw05_Long s).bind fun v0 =>
  if (decide (100 < (s.2.length : Int))) = true then
  (lineallaw05_Awake).bind fun v0_2 =>
  some v0_2
  else
  if (decide (1100 < (trace.length : Int))) = true then
  (lineallaw05_Awake).bind fun v0_3 =>
  some v0_3
  else
  (refine_IsTrace s trace).bind fun v0_4 =>
  (linealref05_IsTrace s trace).bind fun v0_5 =>
  (refine_Traces s most).bind fun v0_6 =>
  (linealref05_Traces s most).bind fun v0_7 =>
  if ((v0_4.1 == v0_5.1) != false) = true then
  if (decide (v0_4.2 = v0_5.2)) = true then
  (linealref05_SameLists v0_6.1 v0_7.1).bind fun v0_8 =>
  if v0_8 = true then
  if (decide (v0_6.2 = v0_7.2)) = true then
  (lineallaw05_Awake).bind fun v0_9 =>
  some v0_9
  else
  some false
  else
  some false
  else
  some false
  else
  some false

/- lineal/lineallaw05.valid -/
noncomputable def lineallaw05_valid_k1 : Option Bool :=
  some true
noncomputable def lineallaw05_valid_b1 (l : List (Int × (List (Int × Int × Int)))) (st1 : Int) : Option (Step Int (Sum Unit Unit)) :=
  if (decide (st1 < (l.length : Int))) = true then
  ck (0 ≤ st1) <| ck (st1 < (l.length : Int)) <| (lineallaw05_Long (l.getD st1.toNat (0, []))).bind fun v0 =>
  if (decide (100 < ((l.getD st1.toNat (0, [])).2.length : Int))) = true then
  some (.done (Sum.inl ()))
  else
  (linealref05_Valid (l.getD st1.toNat (0, []))).bind fun v0_2 =>
  if (!v0_2) = true then
  some (.done (Sum.inl ()))
  else
  ck (InK .i64 (st1 + 1)) <| some (.next (st1 + 1))
  else
  some (.done (Sum.inr ()))
noncomputable def lineallaw05_valid (l : List (Int × (List (Int × Int × Int)))) : Option Bool :=
  (whileO (lineallaw05_valid_b1 l) 0).bind fun x => match x with
  | .inl _ => (some false)
  | .inr _ => (lineallaw05_valid_k1)

/- lineal/refine.hide -/
noncomputable def refine_hide_k1 (b2_2 : (List (Int × Int × Int))) : Option ((List (Int × Int × Int))) :=
  some b2_2
noncomputable def refine_hide_k2 (steps : List (Int × Int × Int)) (st1 : (List (Int × Int × Int)) × Int) (b2 : Int) : Option (Step ((List (Int × Int × Int)) × Int) ((List (Int × Int × Int)))) :=
  (slices_Contains st1.1 ((steps.getD st1.2.toNat (0, 0, 0)).1, b2, (steps.getD st1.2.toNat (0, 0, 0)).2.2)).bind fun v0 =>
  if (!v0) = true then
  ck ((st1.1.length + 1) * 24 ≤ 140737488355328) <| ck (InK .i64 (st1.2 + 1)) <| some (.next ((st1.1 ++ [((steps.getD st1.2.toNat (0, 0, 0)).1, b2, (steps.getD st1.2.toNat (0, 0, 0)).2.2)]), (st1.2 + 1)))
  else
  ck (InK .i64 (st1.2 + 1)) <| some (.next (st1.1, (st1.2 + 1)))
noncomputable def refine_hide_b1 (steps : List (Int × Int × Int)) (label : Int) (st1 : (List (Int × Int × Int)) × Int) : Option (Step ((List (Int × Int × Int)) × Int) ((List (Int × Int × Int)))) :=
  if (decide (st1.2 < (steps.length : Int))) = true then
  ck (0 ≤ st1.2) <| ck (st1.2 < (steps.length : Int)) <| if (decide ((steps.getD st1.2.toNat (0, 0, 0)).2.1 = label)) = true then
  refine_hide_k2 steps st1 0
  else
  refine_hide_k2 steps st1 (steps.getD st1.2.toNat (0, 0, 0)).2.1
  else
  some (.done st1.1)
noncomputable def refine_hide (steps : List (Int × Int × Int)) (label : Int) : Option ((List (Int × Int × Int))) :=
  (whileO (refine_hide_b1 steps label) ([], 0)).bind fun r1 =>
  refine_hide_k1 r1

/- lineal/refine.Hidden -/
noncomputable def refine_Hidden (s : Int × (List (Int × Int × Int))) (label : Int) : Option (Int × (List (Int × Int × Int)) × Int) :=
  (refine_Valid s).bind fun v0 =>
  if (!v0) = true then
  some (0, [], 50)
  else
  (refine_isSeen label).bind fun v0_2 =>
  if (!v0_2) = true then
  some (0, [], 2)
  else
  (refine_hide s.2 label).bind fun v0_3 =>
  some (s.1, v0_3, 0)

/- (lineal/refine.relation).list -/
noncomputable def refine_relation_list_k1 (b2_2 : (List (Int × Int))) : Option ((List (Int × Int))) :=
  some b2_2
noncomputable def refine_relation_list_k2 (st1 : (List (Int × Int)) × Int) (b2 : (List (Int × Int))) : Option (Step ((List (Int × Int)) × Int) ((List (Int × Int)))) :=
  ck (InK .i64 (st1.2 + 1)) <| some (.next (b2, (st1.2 + 1)))
noncomputable def refine_relation_list_b2 (st1 : (List (Int × Int)) × Int) (v0 : (List Int)) (st2 : (List (Int × Int)) × Int) : Option (Step ((List (Int × Int)) × Int) ((List (Int × Int)))) :=
  if (decide (st2.2 < (v0.length : Int))) = true then
  ck (0 ≤ st2.2) <| ck (st2.2 < (v0.length : Int)) <| ck ((st2.1.length + 1) * 16 ≤ 140737488355328) <| ck (InK .i64 (st2.2 + 1)) <| some (.next ((st2.1 ++ [(st1.2, (v0.getD st2.2.toNat 0))]), (st2.2 + 1)))
  else
  some (.done st2.1)
noncomputable def refine_relation_list_b1 (r0 : (El T94)) (st1 : (List (Int × Int)) × Int) : Option (Step ((List (Int × Int)) × Int) ((List (Int × Int)))) :=
  if (decide (st1.2 < 6)) = true then
  ck (0 ≤ st1.2) <| ck (st1.2 < 6) <| (refine_set_states (intAt T94 r0 (st1.2.toNat * 1))).bind fun v0 =>
  (whileO (refine_relation_list_b2 st1 v0) (st1.1, 0)).bind fun r2 =>
  refine_relation_list_k2 st1 r2
  else
  some (.done st1.1)
noncomputable def refine_relation_list (r0 : (El T94)) : Option ((List (Int × Int))) :=
  (whileO (refine_relation_list_b1 r0) ([], 0)).bind fun r1 =>
  refine_relation_list_k1 r1

/- (lineal/refine.two).follows -/
noncomputable def refine_two_follows_k1 : Option Bool :=
  some true
noncomputable def refine_two_follows_b1 (t : ((Int × (List (Int × Int × Int))) × (El T69)) × (Int × (List (Int × Int × Int))) × (El T69)) (r0 : (El T94)) (x0 : Int) (y : Int) (st1 : Int) : Option (Step Int (Sum Unit Unit)) :=
  if (decide (st1 < (t.1.1.2.length : Int))) = true then
  ck (0 ≤ st1) <| ck (st1 < (t.1.1.2.length : Int)) <| if (decide ((t.1.1.2.getD st1.toNat (0, 0, 0)).1 = x0)) = true then
  ck (0 ≤ y) <| ck (y < 6) <| ck (0 ≤ (t.1.1.2.getD st1.toNat (0, 0, 0)).2.1) <| ck ((t.1.1.2.getD st1.toNat (0, 0, 0)).2.1 < 4) <| ck (0 ≤ (t.1.1.2.getD st1.toNat (0, 0, 0)).2.2) <| ck ((t.1.1.2.getD st1.toNat (0, 0, 0)).2.2 < 6) <| if (decide ((iand .u8 (intAt T69 t.2.2 ((y.toNat * 4) + (t.1.1.2.getD st1.toNat (0, 0, 0)).2.1.toNat * 1)) (intAt T94 r0 (0 + (t.1.1.2.getD st1.toNat (0, 0, 0)).2.2.toNat * 1))) = 0)) = true then
  some (.done (Sum.inl ()))
  else
  ck (InK .i64 (st1 + 1)) <| some (.next (st1 + 1))
  else
  ck (InK .i64 (st1 + 1)) <| some (.next (st1 + 1))
  else
  some (.done (Sum.inr ()))
noncomputable def refine_two_follows (t : ((Int × (List (Int × Int × Int))) × (El T69)) × (Int × (List (Int × Int × Int))) × (El T69)) (r0 : (El T94)) (x0 : Int) (y : Int) : Option Bool :=
  (whileO (refine_two_follows_b1 t r0 x0 y) 0).bind fun x => match x with
  | .inl _ => (some false)
  | .inr _ => (refine_two_follows_k1)

/- (lineal/refine.two).held -/
noncomputable def refine_two_held_k1 (b1 : (El T94)) : Option ((El T94)) :=
  some b1
noncomputable def refine_two_held_b1 (t : ((Int × (List (Int × Int × Int))) × (El T69)) × (Int × (List (Int × Int × Int))) × (El T69)) (r0 : (El T94)) (v0 : (List (Int × Int))) (st1 : (El T94) × Int) : Option (Step ((El T94) × Int) ((El T94))) :=
  if (decide (st1.2 < (v0.length : Int))) = true then
  ck (0 ≤ st1.2) <| ck (st1.2 < (v0.length : Int)) <| (refine_two_follows t r0 (v0.getD st1.2.toNat (0, 0)).1 (v0.getD st1.2.toNat (0, 0)).2).bind fun v0_2 =>
  if v0_2 = true then
  ck (0 ≤ (v0.getD st1.2.toNat (0, 0)).1) <| ck ((v0.getD st1.2.toNat (0, 0)).1 < 6) <| ck (0 ≤ (v0.getD st1.2.toNat (0, 0)).2) <| ck (0 ≤ (v0.getD st1.2.toNat (0, 0)).1) <| ck ((v0.getD st1.2.toNat (0, 0)).1 < 6) <| ck (InK .i64 (st1.2 + 1)) <| some (.next ((setInt T94 st1.1 (0 + (v0.getD st1.2.toNat (0, 0)).1.toNat * 1) (ior .u8 (intAt T94 st1.1 (0 + (v0.getD st1.2.toNat (0, 0)).1.toNat * 1)) (ishl .u8 1 (v0.getD st1.2.toNat (0, 0)).2))), (st1.2 + 1)))
  else
  ck (InK .i64 (st1.2 + 1)) <| some (.next (st1.1, (st1.2 + 1)))
  else
  some (.done st1.1)
noncomputable def refine_two_held (t : ((Int × (List (Int × Int × Int))) × (El T69)) × (Int × (List (Int × Int × Int))) × (El T69)) (r0 : (El T94)) : Option ((El T94)) :=
  (refine_relation_list r0).bind fun v0 =>
  (whileO (refine_two_held_b1 t r0 v0) ((Ty.dflt T94), 0)).bind fun r1 =>
  refine_two_held_k1 r1

/- (lineal/refine.two).best -/
noncomputable def refine_two_best_k2 (b2 : (El T94)) : Option ((El T94)) :=
  some b2
noncomputable def refine_two_best_b2 (t : ((Int × (List (Int × Int × Int))) × (El T69)) × (Int × (List (Int × Int × Int))) × (El T69)) (st2 : (El T94) × (El T94)) : Option (Step ((El T94) × (El T94)) ((El T94))) :=
  ck (okD T94 st2.2) <| ck (okD T94 st2.1) <| if (!(decide (st2.2 = st2.1))) = true then
  (refine_two_held t st2.2).bind fun v0_2 =>
  some (.next (st2.2, v0_2))
  else
  some (.done st2.1)
noncomputable def refine_two_best_k1 (t : ((Int × (List (Int × Int × Int))) × (El T69)) × (Int × (List (Int × Int × Int))) × (El T69)) (b1 : (El T94)) : Option ((El T94)) :=
  (refine_two_held t b1).bind fun v0 =>
  (whileO (refine_two_best_b2 t) (b1, v0)).bind fun r2 =>
  refine_two_best_k2 r2
noncomputable def refine_two_best_b1 (t : ((Int × (List (Int × Int × Int))) × (El T69)) × (Int × (List (Int × Int × Int))) × (El T69)) (st1 : (El T94) × Int) : Option (Step ((El T94) × Int) ((El T94))) :=
  if (decide (st1.2 < t.1.1.1)) = true then
  ck (0 ≤ t.2.1.1) <| ck (InK .u8 ((ishl .u8 1 t.2.1.1) - 1)) <| ck (0 ≤ st1.2) <| ck (st1.2 < 6) <| ck (InK .i64 (st1.2 + 1)) <| some (.next ((setInt T94 st1.1 (0 + st1.2.toNat * 1) ((ishl .u8 1 t.2.1.1) - 1)), (st1.2 + 1)))
  else
  some (.done st1.1)
noncomputable def refine_two_best (t : ((Int × (List (Int × Int × Int))) × (El T69)) × (Int × (List (Int × Int × Int))) × (El T69)) : Option ((El T94)) :=
  (whileO (refine_two_best_b1 t) ((Ty.dflt T94), 0)).bind fun r1 =>
  refine_two_best_k1 t r1

/- lineal/refine.Refines -/
noncomputable def refine_Refines (c : Int × (List (Int × Int × Int))) (a : Int × (List (Int × Int × Int))) : Option (Bool × Int) :=
  (refine_twoOf c a).bind fun v0 =>
  if (!(decide (v0.2.2.2.2.2.2 = 0))) = true then
  some (false, v0.2.2.2.2.2.2)
  else
  (refine_two_best (((v0.1, v0.2.1), v0.2.2.1), (v0.2.2.2.1, v0.2.2.2.2.1), v0.2.2.2.2.2.1)).bind fun v0_2 =>
  (refine_set_has (intAt T94 v0_2 0) 0).bind fun v0_3 =>
  some ((decide ((iand .u8 (ishr .u8 (intAt T94 v0_2 0) 0) 1) = 1)), 0)

/- lineal/linealref05.Same -/
noncomputable def linealref05_Same_k1 : Option Bool :=
  some true
noncomputable def linealref05_Same_b1 (a : Int × (List (Int × Int × Int))) (b : Int × (List (Int × Int × Int))) (st1 : Int) : Option (Step Int (Sum Unit Unit)) :=
  if (decide (st1 < (a.2.length : Int))) = true then
  ck (0 ≤ st1) <| ck (st1 < (a.2.length : Int)) <| ck (0 ≤ st1) <| ck (st1 < (b.2.length : Int)) <| ck (InK .i64 (a.2.getD st1.toNat (0, 0, 0)).1) <| ck (InK .i64 (a.2.getD st1.toNat (0, 0, 0)).2.1) <| ck (InK .i64 (a.2.getD st1.toNat (0, 0, 0)).2.2) <| ck (InK .i64 (b.2.getD st1.toNat (0, 0, 0)).1) <| ck (InK .i64 (b.2.getD st1.toNat (0, 0, 0)).2.1) <| ck (InK .i64 (b.2.getD st1.toNat (0, 0, 0)).2.2) <| if (!(decide ((a.2.getD st1.toNat (0, 0, 0)) = (b.2.getD st1.toNat (0, 0, 0))))) = true then
  some (.done (Sum.inl ()))
  else
  ck (InK .i64 (st1 + 1)) <| some (.next (st1 + 1))
  else
  some (.done (Sum.inr ()))
noncomputable def linealref05_Same (a : Int × (List (Int × Int × Int))) (b : Int × (List (Int × Int × Int))) : Option Bool :=
  if (!(decide (a.1 = b.1))) = true then
  some false
  else
  if (!(decide ((a.2.length : Int) = (b.2.length : Int)))) = true then
  some false
  else
  (whileO (linealref05_Same_b1 a b) 0).bind fun x => match x with
  | .inl _ => (some false)
  | .inr _ => (linealref05_Same_k1)

/- slices.Grow[[]lineal/api.Step,lineal/api.Step] -/
noncomputable def slices_Grow (n : Int) : Option Unit :=
  if (decide (n < 0)) = true then
  none
  else
  ck (InK .i64 (0 - 0)) <| ck (InK .i64 (n - (0 - 0))) <| if (decide (0 < (n - (0 - 0)))) = true then
  ck (0 < (n - (0 - 0))) <| ck ((n - (0 - 0)) ≤ 9223372036854775806) <| ck (24 * (n - (0 - 0)) ≤ 281474976710656) <| ck (0 ≤ 0) <| ck (0 ≤ ((List.replicate (n - (0 - 0)).toNat ((0, 0, 0) : Int × Int × Int)).length : Int)) <| some ()
  else
  some ()

/- slices.Concat[[]lineal/api.Step,lineal/api.Step] -/
noncomputable def slices_Concat_k2 (b2 : (List (Int × Int × Int))) : Option ((List (Int × Int × Int))) :=
  some b2
noncomputable def slices_Concat_b2 (slices : List (List (Int × Int × Int))) (st2 : (List (Int × Int × Int)) × Int) : Option (Step ((List (Int × Int × Int)) × Int) ((List (Int × Int × Int)))) :=
  if (decide (st2.2 < (slices.length : Int))) = true then
  ck (0 ≤ st2.2) <| ck (st2.2 < (slices.length : Int)) <| ck ((st2.1.length + (slices.getD st2.2.toNat []).length) * 24 ≤ 140737488355328) <| ck (InK .i64 (st2.2 + 1)) <| some (.next ((st2.1 ++ (slices.getD st2.2.toNat [])), (st2.2 + 1)))
  else
  some (.done st2.1)
noncomputable def slices_Concat_k1 (slices : List (List (Int × Int × Int))) (b1 : Int) : Option ((List (Int × Int × Int))) :=
  (slices_Grow b1).bind fun v0 =>
  (whileO (slices_Concat_b2 slices) ([], 0)).bind fun r2 =>
  slices_Concat_k2 r2
noncomputable def slices_Concat_b1 (slices : List (List (Int × Int × Int))) (st1 : Int × Int) : Option (Step (Int × Int) Int) :=
  if (decide (st1.2 < (slices.length : Int))) = true then
  ck (0 ≤ st1.2) <| ck (st1.2 < (slices.length : Int)) <| ck (InK .i64 (st1.1 + ((slices.getD st1.2.toNat []).length : Int))) <| if (decide ((st1.1 + ((slices.getD st1.2.toNat []).length : Int)) < 0)) = true then
  none
  else
  ck (InK .i64 (st1.2 + 1)) <| some (.next ((st1.1 + ((slices.getD st1.2.toNat []).length : Int)), (st1.2 + 1)))
  else
  some (.done st1.1)
noncomputable def slices_Concat (slices : List (List (Int × Int × Int))) : Option ((List (Int × Int × Int))) :=
  (whileO (slices_Concat_b1 slices) (0, 0)).bind fun r1 =>
  slices_Concat_k1 slices r1

/- lineal/refine.Without -/
noncomputable def refine_Without (s : Int × (List (Int × Int × Int))) (step : Int) : Option (Int × (List (Int × Int × Int)) × Int) :=
  (refine_Valid s).bind fun v0 =>
  if (!v0) = true then
  some (0, [], 50)
  else
  if (decide (step < 0)) = true then
  some (0, [], 2)
  else
  if (decide ((s.2.length : Int) ≤ step)) = true then
  some (0, [], 2)
  else
  ck (0 ≤ step) <| ck (step ≤ (s.2.length : Int)) <| ck (InK .i64 (step + 1)) <| ck (0 ≤ (step + 1)) <| ck ((step + 1) ≤ (s.2.length : Int)) <| (slices_Concat [(s.2.take step.toNat), (s.2.drop (step + 1).toNat)]).bind fun v0_2 =>
  some (s.1, v0_2, 0)

/- lineal/lineallaw05.RefineHides -/
noncomputable def lineallaw05_RefineHides_k1 (c : Int × (List (Int × Int × Int))) (step : Int) : Option Bool :=
  if (decide ((c.2.length : Int) = 0)) = true then
  (lineallaw05_Awake).bind fun v0_10 =>
  some v0_10
  else
  ck (InK .i64 step) <| ck (0 ≤ step) <| ck (0 < (c.2.length : Int)) <| (refine_Without c (step % (c.2.length : Int))).bind fun v0_11 =>
  (refine_Refines (v0_11.1, v0_11.2.1) c).bind fun v0_12 =>
  if (decide (v0_11.2.2 = 0)) = true then
  if (decide (v0_12.2 = 0)) = true then
  if v0_12.1 = true then
  ck (InK .i64 ((c.2.length : Int) - 1)) <| if (decide ((v0_11.2.1.length : Int) = ((c.2.length : Int) - 1))) = true then
  (lineallaw05_Awake).bind fun v0_13 =>
  some v0_13
  else
  some false
  else
  some false
  else
  some false
  else
  some false
noncomputable def lineallaw05_RefineHides (c : Int × (List (Int × Int × Int))) (a : Int × (List (Int × Int × Int))) (label : Int) (step : Int) : Option Bool :=
  (lineallaw05_valid [c, a]).bind fun v0 =>
  if (!v0) = true then
  (lineallaw05_Awake).bind fun v0_2 =>
  some v0_2
  else
  ck (InK .i64 label) <| ck (0 ≤ label) <| ck (InK .i64 (1 + (label % 3))) <| (refine_Hidden c (1 + (label % 3))).bind fun v0_3 =>
  (refine_Hidden a (1 + (label % 3))).bind fun v0_4 =>
  (refine_Refines c a).bind fun v0_5 =>
  (refine_Refines (v0_3.1, v0_3.2.1) (v0_4.1, v0_4.2.1)).bind fun v0_6 =>
  (refine_Hidden (v0_3.1, v0_3.2.1) (1 + (label % 3))).bind fun v0_7 =>
  if (!(decide (v0_3.2.2 = 0))) = true then
  some false
  else
  if (!(decide (v0_4.2.2 = 0))) = true then
  some false
  else
  if (!(decide (v0_5.2 = 0))) = true then
  some false
  else
  if (!(decide (v0_6.2 = 0))) = true then
  some false
  else
  if (!(decide (v0_7.2.2 = 0))) = true then
  some false
  else
  if v0_5.1 = true then
  if (!v0_6.1) = true then
  some false
  else
  (linealref05_Same (v0_7.1, v0_7.2.1) (v0_3.1, v0_3.2.1)).bind fun v0_8 =>
  if (!v0_8) = true then
  some false
  else
  lineallaw05_RefineHides_k1 c step
  else
  (linealref05_Same (v0_7.1, v0_7.2.1) (v0_3.1, v0_3.2.1)).bind fun v0_9 =>
  if (!v0_9) = true then
  some false
  else
  lineallaw05_RefineHides_k1 c step

/- lineal/refine.isPlain$1 -/
noncomputable def refine_isPlain_1 (other : Int × Int × Int) (a1 : Int × Int × Int) : Option Bool :=
  if (decide (other.1 = a1.1)) = true then
  some (decide (other.2.1 = a1.2.1))
  else
  some false

/- slices.IndexFunc[[]lineal/api.Step,lineal/api.Step] -/
noncomputable def slices_IndexFunc_2_k1 : Option Int :=
  some (-1)
noncomputable def slices_IndexFunc_2_b1 (s : List (Int × Int × Int)) (c0 : Int × Int × Int) (st1 : Int) : Option (Step Int (Sum Int Unit)) :=
  if (decide (st1 < (s.length : Int))) = true then
  ck (0 ≤ st1) <| ck (st1 < (s.length : Int)) <| (refine_isPlain_1 (s.getD st1.toNat (0, 0, 0)) c0).bind fun v0 =>
  if v0 = true then
  some (.done (Sum.inl st1))
  else
  ck (InK .i64 (st1 + 1)) <| some (.next (st1 + 1))
  else
  some (.done (Sum.inr ()))
noncomputable def slices_IndexFunc_2 (s : List (Int × Int × Int)) (c0 : Int × Int × Int) : Option Int :=
  (whileO (slices_IndexFunc_2_b1 s c0) 0).bind fun x => match x with
  | .inl r1 => (some r1)
  | .inr _ => (slices_IndexFunc_2_k1)

/- slices.ContainsFunc[[]lineal/api.Step,lineal/api.Step] -/
noncomputable def slices_ContainsFunc_2 (s : List (Int × Int × Int)) (c0 : Int × Int × Int) : Option Bool :=
  (slices_IndexFunc_2 s c0).bind fun v0 =>
  some (decide (0 ≤ v0))

/- lineal/refine.isPlain -/
noncomputable def refine_isPlain_k1 : Option Bool :=
  some true
noncomputable def refine_isPlain_b1 (steps : List (Int × Int × Int)) (st1 : Int) : Option (Step Int (Sum Unit Unit)) :=
  if (decide (st1 < (steps.length : Int))) = true then
  ck (0 ≤ st1) <| ck (st1 < (steps.length : Int)) <| ck (0 ≤ st1) <| ck (st1 ≤ (steps.length : Int)) <| (slices_ContainsFunc_2 (steps.take st1.toNat) (steps.getD st1.toNat (0, 0, 0))).bind fun v0 =>
  if v0 = true then
  some (.done (Sum.inl ()))
  else
  (refine_isHidden (steps.getD st1.toNat (0, 0, 0)).2.1).bind fun v0_2 =>
  if (decide ((steps.getD st1.toNat (0, 0, 0)).2.1 = 0)) = true then
  some (.done (Sum.inl ()))
  else
  ck (InK .i64 (st1 + 1)) <| some (.next (st1 + 1))
  else
  some (.done (Sum.inr ()))
noncomputable def refine_isPlain (steps : List (Int × Int × Int)) : Option Bool :=
  (whileO (refine_isPlain_b1 steps) 0).bind fun x => match x with
  | .inl _ => (some false)
  | .inr _ => (refine_isPlain_k1)

/- lineal/refine.Plain -/
noncomputable def refine_Plain (s : Int × (List (Int × Int × Int))) : Option (Bool × Int) :=
  (refine_Valid s).bind fun v0 =>
  if (!v0) = true then
  some (false, 50)
  else
  (refine_isPlain s.2).bind fun v0_2 =>
  some (v0_2, 0)

/- lineal/lineallaw05.RefineTells -/
noncomputable def lineallaw05_RefineTells_k4 (v0_14 : (List (List Int)) × Int) (b4 : Bool) : Option Bool :=
  if (decide (v0_14.2 = 0)) = true then
  if b4 = true then
  (lineallaw05_Awake).bind fun v0_16 =>
  some v0_16
  else
  some false
  else
  some false
noncomputable def lineallaw05_RefineTells_b1 (v0_5 : (List Int) × Int) (v0_14 : (List (List Int)) × Int) (st1 : Bool × Int) : Option (Step (Bool × Int) Bool) :=
  if (decide (st1.2 < (v0_14.1.length : Int))) = true then
  ck (0 ≤ st1.2) <| ck (st1.2 < (v0_14.1.length : Int)) <| if st1.1 = true then
  ck (InK .i64 (st1.2 + 1)) <| some (.next (true, (st1.2 + 1)))
  else
  (linealref05_SameInts (v0_14.1.getD st1.2.toNat []) v0_5.1).bind fun v0_15 =>
  ck (InK .i64 (st1.2 + 1)) <| some (.next (v0_15, (st1.2 + 1)))
  else
  some (.done st1.1)
noncomputable def lineallaw05_RefineTells_k3 (c : Int × (List (Int × Int × Int))) (a : Int × (List (Int × Int × Int))) (v0_5 : (List Int) × Int) : Option Bool :=
  (refine_IsTrace c v0_5.1).bind fun v0_10 =>
  (refine_IsTrace a v0_5.1).bind fun v0_11 =>
  ck (InK .i64 ((v0_5.1.length : Int) - 1)) <| ck (0 ≤ ((v0_5.1.length : Int) - 1)) <| ck (((v0_5.1.length : Int) - 1) ≤ (v0_5.1.length : Int)) <| (refine_IsTrace a (v0_5.1.take ((v0_5.1.length : Int) - 1).toNat)).bind fun v0_12 =>
  if (!(decide (v0_10.2 = 0))) = true then
  some false
  else
  if (!(decide (v0_11.2 = 0))) = true then
  some false
  else
  if (!(decide (v0_12.2 = 0))) = true then
  some false
  else
  if (!v0_10.1) = true then
  some false
  else
  if v0_11.1 = true then
  some false
  else
  if (!v0_12.1) = true then
  some false
  else
  if (decide (5 < (v0_5.1.length : Int))) = true then
  (lineallaw05_Awake).bind fun v0_13 =>
  some v0_13
  else
  (refine_Traces c (v0_5.1.length : Int)).bind fun v0_14 =>
  (whileO (lineallaw05_RefineTells_b1 v0_5 v0_14) (false, 0)).bind fun r1 =>
  lineallaw05_RefineTells_k4 v0_14 r1
noncomputable def lineallaw05_RefineTells_k2 (c : Int × (List (Int × Int × Int))) (a : Int × (List (Int × Int × Int))) (trace : List Int) (v0_5 : (List Int) × Int) (v0_8 : Bool × Int) (b2 : Bool) : Option Bool :=
  if (!(decide (v0_5.2 = 0))) = true then
  if (decide ((v0_5.1.length : Int) = 0)) = true then
  (lineallaw05_Awake).bind fun v0_9 =>
  some v0_9
  else
  some false
  else
  if (decide ((v0_5.1.length : Int) = 0)) = true then
  some false
  else
  if (decide (1000 < (v0_5.1.length : Int))) = true then
  some false
  else
  if b2 = true then
  if (!v0_8.1) = true then
  if (decide ((trace.length : Int) < (v0_5.1.length : Int))) = true then
  some false
  else
  lineallaw05_RefineTells_k3 c a v0_5
  else
  lineallaw05_RefineTells_k3 c a v0_5
  else
  lineallaw05_RefineTells_k3 c a v0_5
noncomputable def lineallaw05_RefineTells_k1 (c : Int × (List (Int × Int × Int))) (a : Int × (List (Int × Int × Int))) (trace : List Int) (v0_5 : (List Int) × Int) : Option Bool :=
  (refine_IsTrace c trace).bind fun v0_7 =>
  (refine_IsTrace a trace).bind fun v0_8 =>
  if (!(decide (v0_7.2 = v0_8.2))) = true then
  some false
  else
  if v0_7.1 = true then
  if (!v0_8.1) = true then
  if (!(decide (v0_5.2 = 0))) = true then
  some false
  else
  lineallaw05_RefineTells_k2 c a trace v0_5 v0_8 true
  else
  lineallaw05_RefineTells_k2 c a trace v0_5 v0_8 true
  else
  lineallaw05_RefineTells_k2 c a trace v0_5 v0_8 false
noncomputable def lineallaw05_RefineTells (c : Int × (List (Int × Int × Int))) (a : Int × (List (Int × Int × Int))) (trace : List Int) : Option Bool :=
  (lineallaw05_valid [c, a]).bind fun v0 =>
  if (!v0) = true then
  (lineallaw05_Awake).bind fun v0_2 =>
  some v0_2
  else
  if (decide (100 < (trace.length : Int))) = true then
  (lineallaw05_Awake).bind fun v0_3 =>
  some v0_3
  else
  (refine_Refines c a).bind fun v0_4 =>
  (refine_Shows c a).bind fun v0_5 =>
  (refine_Plain a).bind fun v0_6 =>
  if (!(decide (v0_4.2 = 0))) = true then
  some false
  else
  if (!(decide (v0_6.2 = 0))) = true then
  some false
  else
  if (!(decide (v0_5.2 = 0))) = true then
  if (!(decide (v0_5.2 = 5))) = true then
  some false
  else
  if v0_4.1 = true then
  if (decide (v0_5.2 = 0)) = true then
  some false
  else
  if v0_6.1 = true then
  if ((true == (decide (v0_5.2 = 5))) != true) = true then
  some false
  else
  lineallaw05_RefineTells_k1 c a trace v0_5
  else
  lineallaw05_RefineTells_k1 c a trace v0_5
  else
  if v0_6.1 = true then
  if ((false == (decide (v0_5.2 = 5))) != true) = true then
  some false
  else
  lineallaw05_RefineTells_k1 c a trace v0_5
  else
  lineallaw05_RefineTells_k1 c a trace v0_5
  else
  if v0_4.1 = true then
  if (decide (v0_5.2 = 0)) = true then
  some false
  else
  if v0_6.1 = true then
  if ((true == (decide (v0_5.2 = 5))) != true) = true then
  some false
  else
  lineallaw05_RefineTells_k1 c a trace v0_5
  else
  lineallaw05_RefineTells_k1 c a trace v0_5
  else
  if v0_6.1 = true then
  if ((false == (decide (v0_5.2 = 5))) != true) = true then
  some false
  else
  lineallaw05_RefineTells_k1 c a trace v0_5
  else
  lineallaw05_RefineTells_k1 c a trace v0_5

/- slices.Index[[]lineal/refine.set,lineal/refine.set] -/
noncomputable def slices_Index_2_k1 : Option Int :=
  some (-1)
noncomputable def slices_Index_2_b1 (s : List Int) (v0 : Int) (st1 : Int) : Option (Step Int (Sum Int Unit)) :=
  if (decide (st1 < (s.length : Int))) = true then
  ck (0 ≤ st1) <| ck (st1 < (s.length : Int)) <| if (decide (v0 = (s.getD st1.toNat 0))) = true then
  some (.done (Sum.inl st1))
  else
  ck (InK .i64 (st1 + 1)) <| some (.next (st1 + 1))
  else
  some (.done (Sum.inr ()))
noncomputable def slices_Index_2 (s : List Int) (v0 : Int) : Option Int :=
  (whileO (slices_Index_2_b1 s v0) 0).bind fun x => match x with
  | .inl r1 => (some r1)
  | .inr _ => (slices_Index_2_k1)

/- slices.Contains[[]lineal/refine.set,lineal/refine.set] -/
noncomputable def slices_Contains_2 (s : List Int) (v0 : Int) : Option Bool :=
  (slices_Index_2 s v0).bind fun v0_2 =>
  some (decide (0 ≤ v0_2))

/- (lineal/refine.frame).seen -/
noncomputable def refine_frame_seen_k1 (b3_3 : (List Int) × (List (Int × Int × Int))) : Option (Int × (List (Int × Int × Int)) × Bool) :=
  some ((b3_3.1.length : Int), b3_3.2, true)
noncomputable def refine_frame_seen_k2 (st1 : (List Int) × (List (Int × Int × Int)) × Int) (b3_2 : (List Int) × (List (Int × Int × Int))) : Option (Step ((List Int) × (List (Int × Int × Int)) × Int) (Sum Unit ((List Int) × (List (Int × Int × Int))))) :=
  ck (InK .i64 (st1.2.2 + 1)) <| some (.next (b3_2.1, b3_2.2, (st1.2.2 + 1)))
noncomputable def refine_frame_seen_k3 (st1 : (List Int) × (List (Int × Int × Int)) × Int) (st2 : (List Int) × (List (Int × Int × Int)) × Int) (v0_2 : Int) (b3 : (List Int)) : Option (Step ((List Int) × (List (Int × Int × Int)) × Int) (Sum Unit ((List Int) × (List (Int × Int × Int))))) :=
  if (decide (6 < (b3.length : Int))) = true then
  some (.done (Sum.inl ()))
  else
  (slices_Index_2 b3 v0_2).bind fun v0_4 =>
  ck ((st2.2.1.length + 1) * 24 ≤ 140737488355328) <| ck (InK .i64 (st2.2.2 + 1)) <| some (.next (b3, (st2.2.1 ++ [(st1.2.2, st2.2.2, v0_4)]), (st2.2.2 + 1)))
noncomputable def refine_frame_seen_b2 (f : (Int × (List (Int × Int × Int))) × (El T69)) (st1 : (List Int) × (List (Int × Int × Int)) × Int) (st2 : (List Int) × (List (Int × Int × Int)) × Int) : Option (Step ((List Int) × (List (Int × Int × Int)) × Int) (Sum Unit ((List Int) × (List (Int × Int × Int))))) :=
  if (decide (st2.2.2 ≤ 3)) = true then
  ck (0 ≤ st1.2.2) <| ck (st1.2.2 < (st2.1.length : Int)) <| (refine_frame_after f (st2.1.getD st1.2.2.toNat 0) st2.2.2).bind fun v0_2 =>
  if (decide (v0_2 = 0)) = true then
  ck (InK .i64 (st2.2.2 + 1)) <| some (.next (st2.1, st2.2.1, (st2.2.2 + 1)))
  else
  (slices_Contains_2 st2.1 v0_2).bind fun v0_3 =>
  if (!v0_3) = true then
  ck ((st2.1.length + 1) * 1 ≤ 140737488355328) <| refine_frame_seen_k3 st1 st2 v0_2 (st2.1 ++ [v0_2])
  else
  refine_frame_seen_k3 st1 st2 v0_2 st2.1
  else
  some (.done (Sum.inr (st2.1, st2.2.1)))
noncomputable def refine_frame_seen_b1 (f : (Int × (List (Int × Int × Int))) × (El T69)) (st1 : (List Int) × (List (Int × Int × Int)) × Int) : Option (Step ((List Int) × (List (Int × Int × Int)) × Int) (Sum Unit ((List Int) × (List (Int × Int × Int))))) :=
  if (decide (st1.2.2 < (st1.1.length : Int))) = true then
  (whileO (refine_frame_seen_b2 f st1) (st1.1, st1.2.1, 1)).bind fun x => match x with
  | .inl _ => (some (.done (Sum.inl ())))
  | .inr r2 => (refine_frame_seen_k2 st1 r2)
  else
  some (.done (Sum.inr (st1.1, st1.2.1)))
noncomputable def refine_frame_seen (f : (Int × (List (Int × Int × Int))) × (El T69)) : Option (Int × (List (Int × Int × Int)) × Bool) :=
  (refine_frame_begin f).bind fun v0 =>
  (whileO (refine_frame_seen_b1 f) ([(intAt T69 f.2 0)], [], 0)).bind fun x => match x with
  | .inl _ => (some (0, [], false))
  | .inr r1 => (refine_frame_seen_k1 r1)

/- lineal/refine.Seen -/
noncomputable def refine_Seen (s : Int × (List (Int × Int × Int))) : Option (Int × (List (Int × Int × Int)) × Int) :=
  (refine_frameOf s).bind fun v0 =>
  if (!(decide (v0.2.2.2 = 0))) = true then
  some (0, [], v0.2.2.2)
  else
  (refine_frame_seen ((v0.1, v0.2.1), v0.2.2.1)).bind fun v0_2 =>
  if (!v0_2.2.2) = true then
  some (0, [], 4)
  else
  some (v0_2.1, v0_2.2.1, 0)

/- lineal/lineallaw05.RefineSeen -/
noncomputable def lineallaw05_RefineSeen (s : Int × (List (Int × Int × Int))) (trace : List Int) : Option Bool :=
  (lineallaw05_valid [s]).bind fun v0 =>
  if (!v0) = true then
  (lineallaw05_Awake).bind fun v0_2 =>
  some v0_2
  else
  if (decide (100 < (trace.length : Int))) = true then
  (lineallaw05_Awake).bind fun v0_3 =>
  some v0_3
  else
  (refine_Seen s).bind fun v0_4 =>
  if (!(decide (v0_4.2.2 = 0))) = true then
  if (decide (v0_4.2.2 = 4)) = true then
  if (decide (v0_4.1 = 0)) = true then
  (lineallaw05_Awake).bind fun v0_5 =>
  some v0_5
  else
  some false
  else
  some false
  else
  (linealref05_Valid (v0_4.1, v0_4.2.1)).bind fun v0_6 =>
  if (!v0_6) = true then
  some false
  else
  (refine_Plain (v0_4.1, v0_4.2.1)).bind fun v0_7 =>
  (refine_Refines s (v0_4.1, v0_4.2.1)).bind fun v0_8 =>
  (refine_Seen (v0_4.1, v0_4.2.1)).bind fun v0_9 =>
  (refine_Shows s (v0_4.1, v0_4.2.1)).bind fun v0_10 =>
  (refine_Shows (v0_4.1, v0_4.2.1) s).bind fun v0_11 =>
  if (!(decide (v0_7.2 = 0))) = true then
  some false
  else
  if (!(decide (v0_8.2 = 0))) = true then
  some false
  else
  if (!(decide (v0_9.2.2 = 0))) = true then
  some false
  else
  if (!(decide (v0_10.2 = 5))) = true then
  some false
  else
  if (!(decide (v0_11.2 = 5))) = true then
  some false
  else
  if (!v0_7.1) = true then
  some false
  else
  if (!v0_8.1) = true then
  some false
  else
  (linealref05_Same (v0_9.1, v0_9.2.1) (v0_4.1, v0_4.2.1)).bind fun v0_12 =>
  if (!v0_12) = true then
  some false
  else
  (refine_IsTrace s trace).bind fun v0_13 =>
  (refine_IsTrace (v0_4.1, v0_4.2.1) trace).bind fun v0_14 =>
  if ((v0_13.1 == v0_14.1) != false) = true then
  if (decide (v0_13.2 = v0_14.2)) = true then
  (lineallaw05_Awake).bind fun v0_15 =>
  some v0_15
  else
  some false
  else
  some false

/- lineal/linealref05.Shows -/
noncomputable def linealref05_Shows_k1 : Option ((List Int) × Int) :=
  some ([], 5)
noncomputable def linealref05_Shows_k2 (b3_2 : (El T108) × (List (List Int))) : Option (Step ((El T108) × (List (List Int))) (Sum ((List Int)) Unit)) :=
  some (.next b3_2)
noncomputable def linealref05_Shows_k3 (st2 : (El T108) × (List (List Int)) × Int) (b3 : (El T108) × (List (List Int))) : Option (Step ((El T108) × (List (List Int)) × Int) (Sum ((List Int)) ((El T108) × (List (List Int))))) :=
  ck (InK .i64 (st2.2.2 + 1)) <| some (.next (b3.1, b3.2, (st2.2.2 + 1)))
noncomputable def linealref05_Shows_b3 (c : Int × (List (Int × Int × Int))) (a : Int × (List (Int × Int × Int))) (st1 : (El T108) × (List (List Int))) (st2 : (El T108) × (List (List Int)) × Int) (st3 : (El T108) × (List (List Int)) × Int) : Option (Step ((El T108) × (List (List Int)) × Int) (Sum ((List Int)) ((El T108) × (List (List Int))))) :=
  if (decide (st3.2.2 ≤ 3)) = true then
  ck ((st1.2.getD st2.2.2.toNat []).length * 8 ≤ 140737488355328) <| ck (((st1.2.getD st2.2.2.toNat []).length + 1) * 8 ≤ 140737488355328) <| (linealref05_behind c ((st1.2.getD st2.2.2.toNat []) ++ [st3.2.2])).bind fun v0_3 =>
  (linealref05_behind a ((st1.2.getD st2.2.2.toNat []) ++ [st3.2.2])).bind fun v0_4 =>
  if (decide (v0_3 = 0)) = true then
  ck (InK .i64 (st3.2.2 + 1)) <| some (.next (st3.1, st3.2.1, (st3.2.2 + 1)))
  else
  ck (0 ≤ v0_3) <| ck (v0_3 < 64) <| ck (0 ≤ v0_4) <| ck (v0_4 < 64) <| if (boolAt T108 st3.1 ((0 + v0_3.toNat * 64) + v0_4.toNat * 1)) = true then
  ck (InK .i64 (st3.2.2 + 1)) <| some (.next (st3.1, st3.2.1, (st3.2.2 + 1)))
  else
  if (decide (v0_4 = 0)) = true then
  some (.done (Sum.inl ((st1.2.getD st2.2.2.toNat []) ++ [st3.2.2])))
  else
  ck (0 ≤ v0_3) <| ck (v0_3 < 64) <| ck (0 ≤ v0_4) <| ck (v0_4 < 64) <| ck ((st3.2.1.length + 1) * 24 ≤ 140737488355328) <| ck (InK .i64 (st3.2.2 + 1)) <| some (.next ((setBool T108 st3.1 ((0 + v0_3.toNat * 64) + v0_4.toNat * 1) true), (st3.2.1 ++ [((st1.2.getD st2.2.2.toNat []) ++ [st3.2.2])]), (st3.2.2 + 1)))
  else
  some (.done (Sum.inr (st3.1, st3.2.1)))
noncomputable def linealref05_Shows_b2 (c : Int × (List (Int × Int × Int))) (a : Int × (List (Int × Int × Int))) (st1 : (El T108) × (List (List Int))) (st2 : (El T108) × (List (List Int)) × Int) : Option (Step ((El T108) × (List (List Int)) × Int) (Sum ((List Int)) ((El T108) × (List (List Int))))) :=
  if (decide (st2.2.2 < (st1.2.length : Int))) = true then
  ck (0 ≤ st2.2.2) <| ck (st2.2.2 < (st1.2.length : Int)) <| (whileO (linealref05_Shows_b3 c a st1 st2) (st2.1, st2.2.1, 1)).bind fun x => match x with
  | .inl r3 => (some (.done (Sum.inl r3)))
  | .inr r3_2 => (linealref05_Shows_k3 st2 r3_2)
  else
  some (.done (Sum.inr (st2.1, st2.2.1)))
noncomputable def linealref05_Shows_b1 (c : Int × (List (Int × Int × Int))) (a : Int × (List (Int × Int × Int))) (st1 : (El T108) × (List (List Int))) : Option (Step ((El T108) × (List (List Int))) (Sum ((List Int)) Unit)) :=
  if (decide (0 < (st1.2.length : Int))) = true then
  (whileO (linealref05_Shows_b2 c a st1) (st1.1, [], 0)).bind fun x => match x with
  | .inl r2 => (some (.done (Sum.inl r2)))
  | .inr r2_2 => (linealref05_Shows_k2 r2_2)
  else
  some (.done (Sum.inr ()))
noncomputable def linealref05_Shows (c : Int × (List (Int × Int × Int))) (a : Int × (List (Int × Int × Int))) : Option ((List Int) × Int) :=
  (linealref05_Valid c).bind fun v0 =>
  if (!v0) = true then
  some ([], 50)
  else
  (linealref05_Valid a).bind fun v0_2 =>
  if (!v0_2) = true then
  some ([], 50)
  else
  (whileO (linealref05_Shows_b1 c a) ((Ty.dflt T108), [[]])).bind fun x => match x with
  | .inl r1 => (some (r1, 0))
  | .inr _ => (linealref05_Shows_k1)

/- lineal/linealref05.Plain -/
noncomputable def linealref05_Plain_k1 : Option (Bool × Int) :=
  some (true, 0)
noncomputable def linealref05_Plain_k2 (st1 : Int) : Option (Step Int (Sum Unit Unit)) :=
  ck (InK .i64 (st1 + 1)) <| some (.next (st1 + 1))
noncomputable def linealref05_Plain_b2 (s : Int × (List (Int × Int × Int))) (st1 : Int) (st2 : Int) : Option (Step Int (Sum Unit Unit)) :=
  if (decide (st2 < ((s.2.take st1.toNat).length : Int))) = true then
  ck (0 ≤ st2) <| ck (st2 < ((s.2.take st1.toNat).length : Int)) <| if (decide ((s.2.getD st1.toNat (0, 0, 0)).1 = ((s.2.take st1.toNat).getD st2.toNat (0, 0, 0)).1)) = true then
  if (decide ((s.2.getD st1.toNat (0, 0, 0)).2.1 = ((s.2.take st1.toNat).getD st2.toNat (0, 0, 0)).2.1)) = true then
  some (.done (Sum.inl ()))
  else
  ck (InK .i64 (st2 + 1)) <| some (.next (st2 + 1))
  else
  ck (InK .i64 (st2 + 1)) <| some (.next (st2 + 1))
  else
  some (.done (Sum.inr ()))
noncomputable def linealref05_Plain_b1 (s : Int × (List (Int × Int × Int))) (st1 : Int) : Option (Step Int (Sum Unit Unit)) :=
  if (decide (st1 < (s.2.length : Int))) = true then
  ck (0 ≤ st1) <| ck (st1 < (s.2.length : Int)) <| if (decide ((s.2.getD st1.toNat (0, 0, 0)).2.1 = 0)) = true then
  some (.done (Sum.inl ()))
  else
  ck (0 ≤ st1) <| ck (st1 ≤ (s.2.length : Int)) <| (whileO (linealref05_Plain_b2 s st1) 0).bind fun x => match x with
  | .inl _ => (some (.done (Sum.inl ())))
  | .inr _ => (linealref05_Plain_k2 st1)
  else
  some (.done (Sum.inr ()))
noncomputable def linealref05_Plain (s : Int × (List (Int × Int × Int))) : Option (Bool × Int) :=
  (linealref05_Valid s).bind fun v0 =>
  if (!v0) = true then
  some (false, 50)
  else
  (whileO (linealref05_Plain_b1 s) 0).bind fun x => match x with
  | .inl _ => (some (false, 0))
  | .inr _ => (linealref05_Plain_k1)

/- lineal/linealref05.Seen -/
noncomputable def linealref05_Seen_k1 (b5_4 : (List Int) × (List (Int × Int × Int))) : Option (Int × (List (Int × Int × Int)) × Int) :=
  if (decide (6 < (b5_4.1.length : Int))) = true then
  some (0, [], 4)
  else
  some ((b5_4.1.length : Int), b5_4.2, 0)
noncomputable def linealref05_Seen_k2 (st1 : (List Int) × (List (Int × Int × Int)) × Int) (b5_3 : (List Int) × (List (Int × Int × Int))) : Option (Step ((List Int) × (List (Int × Int × Int)) × Int) ((List Int) × (List (Int × Int × Int)))) :=
  ck (InK .i64 (st1.2.2 + 1)) <| some (.next (b5_3.1, b5_3.2, (st1.2.2 + 1)))
noncomputable def linealref05_Seen_k3 (st2 : (List Int) × (List (Int × Int × Int)) × Int) (b5_2 : (List Int) × (List (Int × Int × Int))) : Option (Step ((List Int) × (List (Int × Int × Int)) × Int) ((List Int) × (List (Int × Int × Int)))) :=
  ck (InK .i64 (st2.2.2 + 1)) <| some (.next (b5_2.1, b5_2.2, (st2.2.2 + 1)))
noncomputable def linealref05_Seen_k5 (st1 : (List Int) × (List (Int × Int × Int)) × Int) (st2 : (List Int) × (List (Int × Int × Int)) × Int) (b4 : Int) (b5 : (List Int)) : Option (Step ((List Int) × (List (Int × Int × Int)) × Int) ((List Int) × (List (Int × Int × Int)))) :=
  ck ((st2.2.1.length + 1) * 24 ≤ 140737488355328) <| linealref05_Seen_k3 st2 (b5, (st2.2.1 ++ [(st1.2.2, st2.2.2, b4)]))
noncomputable def linealref05_Seen_k4 (st1 : (List Int) × (List (Int × Int × Int)) × Int) (st2 : (List Int) × (List (Int × Int × Int)) × Int) (v0_3 : Int) (b4 : Int) : Option (Step ((List Int) × (List (Int × Int × Int)) × Int) ((List Int) × (List (Int × Int × Int)))) :=
  if (decide (b4 = (st2.1.length : Int))) = true then
  ck ((st2.1.length + 1) * 8 ≤ 140737488355328) <| linealref05_Seen_k5 st1 st2 b4 (st2.1 ++ [v0_3])
  else
  linealref05_Seen_k5 st1 st2 b4 st2.1
noncomputable def linealref05_Seen_b3 (st2 : (List Int) × (List (Int × Int × Int)) × Int) (v0_3 : Int) (st3 : Int) : Option (Step Int Int) :=
  if (decide (st3 < (st2.1.length : Int))) = true then
  ck (0 ≤ st3) <| ck (st3 < (st2.1.length : Int)) <| if (!(decide ((st2.1.getD st3.toNat 0) = v0_3))) = true then
  ck (InK .i64 (st3 + 1)) <| some (.next (st3 + 1))
  else
  some (.done st3)
  else
  some (.done st3)
noncomputable def linealref05_Seen_b2 (s : Int × (List (Int × Int × Int))) (st1 : (List Int) × (List (Int × Int × Int)) × Int) (st2 : (List Int) × (List (Int × Int × Int)) × Int) : Option (Step ((List Int) × (List (Int × Int × Int)) × Int) ((List Int) × (List (Int × Int × Int)))) :=
  if (decide (st2.2.2 ≤ 3)) = true then
  ck (0 ≤ st1.2.2) <| ck (st1.2.2 < (st2.1.length : Int)) <| (linealref05_comes s (st2.1.getD st1.2.2.toNat 0) st2.2.2).bind fun v0_3 =>
  if (decide (v0_3 = 0)) = true then
  linealref05_Seen_k3 st2 (st2.1, st2.2.1)
  else
  (whileO (linealref05_Seen_b3 st2 v0_3) 0).bind fun r3 =>
  linealref05_Seen_k4 st1 st2 v0_3 r3
  else
  some (.done (st2.1, st2.2.1))
noncomputable def linealref05_Seen_b1 (s : Int × (List (Int × Int × Int))) (st1 : (List Int) × (List (Int × Int × Int)) × Int) : Option (Step ((List Int) × (List (Int × Int × Int)) × Int) ((List Int) × (List (Int × Int × Int)))) :=
  if (decide (st1.2.2 < (st1.1.length : Int))) = true then
  (whileO (linealref05_Seen_b2 s st1) (st1.1, st1.2.1, 1)).bind fun r2 =>
  linealref05_Seen_k2 st1 r2
  else
  some (.done (st1.1, st1.2.1))
noncomputable def linealref05_Seen (s : Int × (List (Int × Int × Int))) : Option (Int × (List (Int × Int × Int)) × Int) :=
  (linealref05_Valid s).bind fun v0 =>
  if (!v0) = true then
  some (0, [], 50)
  else
  (linealref05_quiet s 1).bind fun v0_2 =>
  (whileO (linealref05_Seen_b1 s) ([v0_2], [], 0)).bind fun r1 =>
  linealref05_Seen_k1 r1

/- lineal/lineallaw05.RefineShows -/
noncomputable def lineallaw05_RefineShows (c : Int × (List (Int × Int × Int))) (a : Int × (List (Int × Int × Int))) : Option Bool :=
  (lineallaw05_Long c).bind fun v0 =>
  if (decide (100 < (c.2.length : Int))) = true then
  (lineallaw05_Awake).bind fun v0_2 =>
  some v0_2
  else
  (lineallaw05_Long a).bind fun v0_3 =>
  if (decide (100 < (a.2.length : Int))) = true then
  (lineallaw05_Awake).bind fun v0_4 =>
  some v0_4
  else
  (refine_Shows c a).bind fun v0_5 =>
  (linealref05_Shows c a).bind fun v0_6 =>
  (refine_Plain c).bind fun v0_7 =>
  (linealref05_Plain c).bind fun v0_8 =>
  (linealref05_SameInts v0_5.1 v0_6.1).bind fun v0_9 =>
  if (!v0_9) = true then
  some false
  else
  if (!(decide (v0_5.2 = v0_6.2))) = true then
  some false
  else
  if ((v0_7.1 == v0_8.1) != true) = true then
  some false
  else
  if (!(decide (v0_7.2 = v0_8.2))) = true then
  some false
  else
  (refine_Seen c).bind fun v0_10 =>
  (linealref05_Seen c).bind fun v0_11 =>
  (linealref05_Same (v0_10.1, v0_10.2.1) (v0_11.1, v0_11.2.1)).bind fun v0_12 =>
  if v0_12 = true then
  if (decide (v0_10.2.2 = v0_11.2.2)) = true then
  (lineallaw05_Awake).bind fun v0_13 =>
  some v0_13
  else
  some false
  else
  some false

end Go.Proofs.Ytljonmpcehlpaaa
