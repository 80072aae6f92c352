/-
  Made by wip/tool/dc.py out of the print of the program: pure functions.
-/
import Derived.Test.YtifleoceebaooaaTyr
namespace Go.Proofs.Ytifleoceebaooaa
open Go.RowKit

set_option linter.unusedSimpArgs false
set_option linter.unusedVariables false
set_option linter.constructorNameAsVariable false

abbrev ZS : Type := List (Int × Int × (List (List Int)) × (List (List Int)))
abbrev ZH : Type := List (Int × Int × Int × Int × Int × Int)
abbrev ZM : Type := List (((Int × Int) × Int) × Int)
abbrev Y0 : Ty := (.pair (.int .i64) (.pair (.int .i64) (.int .i64)))
attribute [go_sem] Y0
abbrev Y1 : Ty := (.pair (.int .i64) (.sl (.pair (.int .i64) (.pair (.int .i64) (.int .i64)))))
attribute [go_sem] Y1
abbrev Y2 : Ty := (.pair (.pair (.int .i64) (.sl (.pair (.int .i64) (.pair (.int .i64) (.int .i64))))) T69)
attribute [go_sem] Y2
def strL0 : List Nat := [8, 0, 1, 0, 2, 0, 1, 0, 3, 0, 1, 0, 2, 0, 1, 0, 4, 0, 1, 0, 2, 0, 1, 0, 3, 0, 1, 0, 2, 0, 1, 0, 5, 0, 1, 0, 2, 0, 1, 0, 3, 0, 1, 0, 2, 0, 1, 0, 4, 0, 1, 0, 2, 0, 1, 0, 3, 0, 1, 0, 2, 0, 1, 0, 6, 0, 1, 0, 2, 0, 1, 0, 3, 0, 1, 0, 2, 0, 1, 0, 4, 0, 1, 0, 2, 0, 1, 0, 3, 0, 1, 0, 2, 0, 1, 0, 5, 0, 1, 0, 2, 0, 1, 0, 3, 0, 1, 0, 2, 0, 1, 0, 4, 0, 1, 0, 2, 0, 1, 0, 3, 0, 1, 0, 2, 0, 1, 0, 7, 0, 1, 0, 2, 0, 1, 0, 3, 0, 1, 0, 2, 0, 1, 0, 4, 0, 1, 0, 2, 0, 1, 0, 3, 0, 1, 0, 2, 0, 1, 0, 5, 0, 1, 0, 2, 0, 1, 0, 3, 0, 1, 0, 2, 0, 1, 0, 4, 0, 1, 0, 2, 0, 1, 0, 3, 0, 1, 0, 2, 0, 1, 0, 6, 0, 1, 0, 2, 0, 1, 0, 3, 0, 1, 0, 2, 0, 1, 0, 4, 0, 1, 0, 2, 0, 1, 0, 3, 0, 1, 0, 2, 0, 1, 0, 5, 0, 1, 0, 2, 0, 1, 0, 3, 0, 1, 0, 2, 0, 1, 0, 4, 0, 1, 0, 2, 0, 1, 0, 3, 0, 1, 0, 2, 0, 1, 0]

/- lineal/lineallaw05.Long -/
noncomputable def lineallaw05_Long (s : Int × (List (Int × Int × Int))) : Option Unit :=
  some ()

/- lineal/refine.isState -/
noncomputable def refine_isState (s : Int × (List (Int × Int × Int))) (state : Int) : Option Bool :=
  if (decide (0 ≤ state)) = true then
  some (decide (state < s.1))
  else
  some false

/- lineal/refine.isHidden -/
noncomputable def refine_isHidden (label : Int) : Option Unit :=
  some ()

/- lineal/refine.isSeen -/
noncomputable def refine_isSeen (label : Int) : Option Bool :=
  if (decide (0 < label)) = true then
  some (decide (label ≤ 3))
  else
  some false

/- lineal/refine.isLabel -/
noncomputable def refine_isLabel (label : Int) : Option Bool :=
  (refine_isHidden label).bind fun v0 =>
  if (decide (label = 0)) = true then
  some true
  else
  (refine_isSeen label).bind fun v0_2 =>
  some v0_2

/- lineal/refine.isStep -/
noncomputable def refine_isStep (s : Int × (List (Int × Int × Int))) (step : Int × Int × Int) : Option Bool :=
  (refine_isState s step.1).bind fun v0 =>
  if v0 = true then
  (refine_isLabel step.2.1).bind fun v0_2 =>
  if v0_2 = true then
  (refine_isState s step.2.2).bind fun v0_3 =>
  some v0_3
  else
  some false
  else
  some false

/- slices.Index[[]lineal/api.Step,lineal/api.Step] -/
noncomputable def slices_Index_k1 : Option Int :=
  some (-1)
noncomputable def slices_Index_b1 (s : List (Int × Int × Int)) (v0 : Int × Int × Int) (st1 : Int) : Option (Step Int (Sum Int Unit)) :=
  if (decide (st1 < (s.length : Int))) = true then
  ck (0 ≤ st1) <| ck (st1 < (s.length : Int)) <| ck (InK .i64 v0.1) <| ck (InK .i64 v0.2.1) <| ck (InK .i64 v0.2.2) <| ck (InK .i64 (s.getD st1.toNat (0, 0, 0)).1) <| ck (InK .i64 (s.getD st1.toNat (0, 0, 0)).2.1) <| ck (InK .i64 (s.getD st1.toNat (0, 0, 0)).2.2) <| if (decide (v0 = (s.getD st1.toNat (0, 0, 0)))) = true then
  some (.done (Sum.inl st1))
  else
  ck (InK .i64 (st1 + 1)) <| some (.next (st1 + 1))
  else
  some (.done (Sum.inr ()))
noncomputable def slices_Index (s : List (Int × Int × Int)) (v0 : Int × Int × Int) : Option Int :=
  (whileO (slices_Index_b1 s v0) 0).bind fun x => match x with
  | .inl r1 => (some r1)
  | .inr _ => (slices_Index_k1)

/- slices.Contains[[]lineal/api.Step,lineal/api.Step] -/
noncomputable def slices_Contains (s : List (Int × Int × Int)) (v0 : Int × Int × Int) : Option Bool :=
  (slices_Index s v0).bind fun v0_2 =>
  some (decide (0 ≤ v0_2))

/- lineal/refine.Valid -/
noncomputable def refine_Valid_k1 : Option Bool :=
  some true
noncomputable def refine_Valid_b1 (s : Int × (List (Int × Int × Int))) (st1 : Int) : Option (Step Int (Sum Unit Unit)) :=
  if (decide (st1 < (s.2.length : Int))) = true then
  ck (0 ≤ st1) <| ck (st1 < (s.2.length : Int)) <| (refine_isStep s (s.2.getD st1.toNat (0, 0, 0))).bind fun v0 =>
  if (!v0) = true then
  some (.done (Sum.inl ()))
  else
  ck (0 ≤ st1) <| ck (st1 ≤ (s.2.length : Int)) <| (slices_Contains (s.2.take st1.toNat) (s.2.getD st1.toNat (0, 0, 0))).bind fun v0_2 =>
  if v0_2 = true then
  some (.done (Sum.inl ()))
  else
  ck (InK .i64 (st1 + 1)) <| some (.next (st1 + 1))
  else
  some (.done (Sum.inr ()))
noncomputable def refine_Valid (s : Int × (List (Int × Int × Int))) : Option Bool :=
  if (decide (s.1 < 1)) = true then
  some false
  else
  if (decide (6 < s.1)) = true then
  some false
  else
  if (decide (24 < (s.2.length : Int))) = true then
  some false
  else
  (whileO (refine_Valid_b1 s) 0).bind fun x => match x with
  | .inl _ => (some false)
  | .inr _ => (refine_Valid_k1)

/- (lineal/refine.set).has -/
noncomputable def refine_set_has (s : Int) (state : Int) : Option Unit :=
  ck (0 ≤ state) <| some ()

/- (lineal/refine.frame).led$1 -/
noncomputable def refine_frame_led_1_b1 (slf : Int → Int → ((Int × (List (Int × Int × Int))) × (El T69)) → Option Int) (state : Int) (a2 : (Int × (List (Int × Int × Int))) × (El T69)) (st1 : Int × Int) : Option (Step (Int × Int) Int) :=
  if (decide (st1.2 < (a2.1.2.length : Int))) = true then
  ck (0 ≤ st1.2) <| ck (st1.2 < (a2.1.2.length : Int)) <| if (decide ((a2.1.2.getD st1.2.toNat (0, 0, 0)).1 = state)) = true then
  (refine_isHidden (a2.1.2.getD st1.2.toNat (0, 0, 0)).2.1).bind fun v0_2 =>
  if (decide ((a2.1.2.getD st1.2.toNat (0, 0, 0)).2.1 = 0)) = true then
  (slf (a2.1.2.getD st1.2.toNat (0, 0, 0)).2.2 st1.1 a2).bind fun v0_3 =>
  ck (InK .i64 (st1.2 + 1)) <| some (.next (v0_3, (st1.2 + 1)))
  else
  ck (InK .i64 (st1.2 + 1)) <| some (.next (st1.1, (st1.2 + 1)))
  else
  ck (InK .i64 (st1.2 + 1)) <| some (.next (st1.1, (st1.2 + 1)))
  else
  some (.done st1.1)
noncomputable def refine_frame_led_1F (slf : Int → Int → ((Int × (List (Int × Int × Int))) × (El T69)) → Option Int) (state : Int) (a1 : Int) (a2 : (Int × (List (Int × Int × Int))) × (El T69)) : Option Int :=
  (refine_set_has a1 state).bind fun v0 =>
  if (decide ((iand .u8 (ishr .u8 a1 state) 1) = 1)) = true then
  some a1
  else
  ck (0 ≤ state) <| (whileO (refine_frame_led_1_b1 slf state a2) ((ior .u8 a1 (ishl .u8 1 state)), 0)).bind fun r1 =>
  some r1
noncomputable def refine_frame_led_1 (n : Nat) : Int → Int → ((Int × (List (Int × Int × Int))) × (El T69)) → Option Int := Nat.rec (motive := fun _ => Int → Int → ((Int × (List (Int × Int × Int))) × (El T69)) → Option Int) (fun _ _ _ => none) (fun _ slf => refine_frame_led_1F slf) n

/- (lineal/refine.frame).led -/
noncomputable def refine_frame_led (f : (Int × (List (Int × Int × Int))) × (El T69)) (from0 : Int) : Option Int :=
  (refine_frame_led_1 fuel from0 0 f).bind fun v0 =>
  some v0

/- lineal/refine.frameOf -/
noncomputable def refine_frameOf_k2 (s : Int × (List (Int × Int × Int))) (b3_2 : (El T69)) : Option (Int × (List (Int × Int × Int)) × (El T69) × Int) :=
  some (s.1, s.2, b3_2, 0)
noncomputable def refine_frameOf_k3 (st2 : (El T69) × Int) (b3 : (El T69)) : Option (Step ((El T69) × Int) ((El T69))) :=
  ck (InK .i64 (st2.2 + 1)) <| some (.next (b3, (st2.2 + 1)))
noncomputable def refine_frameOf_b3 (s : Int × (List (Int × Int × Int))) (st2 : (El T69) × Int) (st3 : (El T69) × Int) : Option (Step ((El T69) × Int) ((El T69))) :=
  if (decide (st3.2 < s.1)) = true then
  (refine_isSeen (s.2.getD st2.2.toNat (0, 0, 0)).2.1).bind fun v0_3 =>
  if v0_3 = true then
  ck (0 ≤ st3.2) <| ck (st3.2 < 6) <| (refine_set_has (intAt T69 st3.1 ((st3.2.toNat * 4) + 0)) (s.2.getD st2.2.toNat (0, 0, 0)).1).bind fun v0_4 =>
  if (decide ((iand .u8 (ishr .u8 (intAt T69 st3.1 ((st3.2.toNat * 4) + 0)) (s.2.getD st2.2.toNat (0, 0, 0)).1) 1) = 1)) = true then
  ck (0 ≤ st3.2) <| ck (st3.2 < 6) <| ck (0 ≤ (s.2.getD st2.2.toNat (0, 0, 0)).2.1) <| ck ((s.2.getD st2.2.toNat (0, 0, 0)).2.1 < 4) <| ck (0 ≤ (s.2.getD st2.2.toNat (0, 0, 0)).2.2) <| ck ((s.2.getD st2.2.toNat (0, 0, 0)).2.2 < 6) <| ck (0 ≤ st3.2) <| ck (st3.2 < 6) <| ck (0 ≤ (s.2.getD st2.2.toNat (0, 0, 0)).2.1) <| ck ((s.2.getD st2.2.toNat (0, 0, 0)).2.1 < 4) <| ck (InK .i64 (st3.2 + 1)) <| some (.next ((setInt T69 st3.1 ((st3.2.toNat * 4) + (s.2.getD st2.2.toNat (0, 0, 0)).2.1.toNat * 1) (ior .u8 (intAt T69 st3.1 ((st3.2.toNat * 4) + (s.2.getD st2.2.toNat (0, 0, 0)).2.1.toNat * 1)) (intAt T69 st3.1 (((s.2.getD st2.2.toNat (0, 0, 0)).2.2.toNat * 4) + 0)))), (st3.2 + 1)))
  else
  ck (InK .i64 (st3.2 + 1)) <| some (.next (st3.1, (st3.2 + 1)))
  else
  ck (InK .i64 (st3.2 + 1)) <| some (.next (st3.1, (st3.2 + 1)))
  else
  some (.done st3.1)
noncomputable def refine_frameOf_b2 (s : Int × (List (Int × Int × Int))) (st2 : (El T69) × Int) : Option (Step ((El T69) × Int) ((El T69))) :=
  if (decide (st2.2 < (s.2.length : Int))) = true then
  ck (0 ≤ st2.2) <| ck (st2.2 < (s.2.length : Int)) <| (whileO (refine_frameOf_b3 s st2) (st2.1, 0)).bind fun r3 =>
  refine_frameOf_k3 st2 r3
  else
  some (.done st2.1)
noncomputable def refine_frameOf_k1 (s : Int × (List (Int × Int × Int))) (b1 : (El T69)) : Option (Int × (List (Int × Int × Int)) × (El T69) × Int) :=
  (whileO (refine_frameOf_b2 s) (b1, 0)).bind fun r2 =>
  refine_frameOf_k2 s r2
noncomputable def refine_frameOf_b1 (s : Int × (List (Int × Int × Int))) (st1 : (El T69) × Int) : Option (Step ((El T69) × Int) ((El T69))) :=
  if (decide (st1.2 < s.1)) = true then
  (refine_frame_led (s, st1.1) st1.2).bind fun v0_2 =>
  ck (0 ≤ st1.2) <| ck (st1.2 < 6) <| ck (InK .i64 (st1.2 + 1)) <| some (.next ((setInt T69 st1.1 ((st1.2.toNat * 4) + 0) v0_2), (st1.2 + 1)))
  else
  some (.done st1.1)
noncomputable def refine_frameOf (s : Int × (List (Int × Int × Int))) : Option (Int × (List (Int × Int × Int)) × (El T69) × Int) :=
  (refine_Valid s).bind fun v0 =>
  if (!v0) = true then
  some (0, [], (Ty.dflt T69), 50)
  else
  (whileO (refine_frameOf_b1 s) ((Ty.dflt T69), 0)).bind fun r1 =>
  refine_frameOf_k1 s r1

/- lineal/refine.twoOf -/
noncomputable def refine_twoOf (c : Int × (List (Int × Int × Int))) (a : Int × (List (Int × Int × Int))) : Option (Int × (List (Int × Int × Int)) × (El T69) × Int × (List (Int × Int × Int)) × (El T69) × Int) :=
  (refine_frameOf c).bind fun v0 =>
  if (!(decide (v0.2.2.2 = 0))) = true then
  some (0, [], (Ty.dflt T69), 0, [], (Ty.dflt T69), v0.2.2.2)
  else
  (refine_frameOf a).bind fun v0_2 =>
  if (!(decide (v0_2.2.2.2 = 0))) = true then
  some (0, [], (Ty.dflt T69), 0, [], (Ty.dflt T69), v0_2.2.2.2)
  else
  some (v0.1, v0.2.1, v0.2.2.1, v0_2.1, v0_2.2.1, v0_2.2.2.1, 0)

/- (lineal/refine.frame).begin -/
noncomputable def refine_frame_begin (f : (Int × (List (Int × Int × Int))) × (El T69)) : Option Unit :=
  some ()

/- (lineal/refine.set).states -/
noncomputable def refine_set_states_k1 (b1 : (List Int)) : Option ((List Int)) :=
  some b1
noncomputable def refine_set_states_b1 (s : Int) (st1 : (List Int) × Int) : Option (Step ((List Int) × Int) ((List Int))) :=
  if (decide (st1.2 < 6)) = true then
  (refine_set_has s st1.2).bind fun v0 =>
  if (decide ((iand .u8 (ishr .u8 s st1.2) 1) = 1)) = true then
  ck ((st1.1.length + 1) * 8 ≤ 140737488355328) <| ck (InK .i64 (st1.2 + 1)) <| some (.next ((st1.1 ++ [st1.2]), (st1.2 + 1)))
  else
  ck (InK .i64 (st1.2 + 1)) <| some (.next (st1.1, (st1.2 + 1)))
  else
  some (.done st1.1)
noncomputable def refine_set_states (s : Int) : Option ((List Int)) :=
  (whileO (refine_set_states_b1 s) ([], 0)).bind fun r1 =>
  refine_set_states_k1 r1

/- (lineal/refine.frame).after -/
noncomputable def refine_frame_after_k1 (b1 : Int) : Option Int :=
  some b1
noncomputable def refine_frame_after_b1 (f : (Int × (List (Int × Int × Int))) × (El T69)) (label : Int) (v0 : (List Int)) (st1 : Int × Int) : Option (Step (Int × Int) Int) :=
  if (decide (st1.2 < (v0.length : Int))) = true then
  ck (0 ≤ st1.2) <| ck (st1.2 < (v0.length : Int)) <| ck (0 ≤ (v0.getD st1.2.toNat 0)) <| ck ((v0.getD st1.2.toNat 0) < 6) <| ck (0 ≤ label) <| ck (label < 4) <| ck (InK .i64 (st1.2 + 1)) <| some (.next ((ior .u8 st1.1 (intAt T69 f.2 (((v0.getD st1.2.toNat 0).toNat * 4) + label.toNat * 1))), (st1.2 + 1)))
  else
  some (.done st1.1)
noncomputable def refine_frame_after (f : (Int × (List (Int × Int × Int))) × (El T69)) (from0 : Int) (label : Int) : Option Int :=
  (refine_set_states from0).bind fun v0 =>
  (whileO (refine_frame_after_b1 f label v0) (0, 0)).bind fun r1 =>
  refine_frame_after_k1 r1

/- slices.Clone[[]int,int] -/
noncomputable def slices_Clone (s : List Int) : Option ((List Int)) :=
  ck (s.length * 8 ≤ 140737488355328) <| some s

/- lineal/refine.longer -/
noncomputable def refine_longer (trace : List Int) (label : Int) : Option ((List Int)) :=
  (slices_Clone trace).bind fun v0 =>
  ck ((v0.length + 1) * 8 ≤ 140737488355328) <| some (v0 ++ [label])

/- (lineal/refine.two).shows -/
noncomputable def refine_two_shows_k1 : Option ((List Int) × Bool) :=
  some ([], false)
noncomputable def refine_two_shows_k2 (st1 : (List (Int × Int)) × (List (List Int)) × (List ((Int × Int) × Bool)) × Int) (b2 : (List (Int × Int)) × (List (List Int)) × (List ((Int × Int) × Bool))) : Option (Step ((List (Int × Int)) × (List (List Int)) × (List ((Int × Int) × Bool)) × Int) (Sum ((List Int)) Unit)) :=
  ck (InK .i64 (st1.2.2.2 + 1)) <| some (.next (b2.1, b2.2.1, b2.2.2, (st1.2.2.2 + 1)))
noncomputable def refine_two_shows_b2 (t : ((Int × (List (Int × Int × Int))) × (El T69)) × (Int × (List (Int × Int × Int))) × (El T69)) (st1 : (List (Int × Int)) × (List (List Int)) × (List ((Int × Int) × Bool)) × Int) (st2 : (List (Int × Int)) × (List (List Int)) × (List ((Int × Int) × Bool)) × Int) : Option (Step ((List (Int × Int)) × (List (List Int)) × (List ((Int × Int) × Bool)) × Int) (Sum ((List Int)) ((List (Int × Int)) × (List (List Int)) × (List ((Int × Int) × Bool))))) :=
  if (decide (st2.2.2.2 ≤ 3)) = true then
  ck (0 ≤ st1.2.2.2) <| ck (st1.2.2.2 < (st2.1.length : Int)) <| (refine_frame_after t.1 (st2.1.getD st1.2.2.2.toNat (0, 0)).1 st2.2.2.2).bind fun v0_3 =>
  ck (0 ≤ st1.2.2.2) <| ck (st1.2.2.2 < (st2.1.length : Int)) <| (refine_frame_after t.2 (st2.1.getD st1.2.2.2.toNat (0, 0)).2 st2.2.2.2).bind fun v0_4 =>
  if (decide (v0_3 = 0)) = true then
  ck (InK .i64 (st2.2.2.2 + 1)) <| some (.next (st2.1, st2.2.1, st2.2.2.1, (st2.2.2.2 + 1)))
  else
  ck (InK .u8 v0_3) <| ck (InK .u8 v0_4) <| if (mget false st2.2.2.1 (v0_3, v0_4)) = true then
  ck (InK .i64 (st2.2.2.2 + 1)) <| some (.next (st2.1, st2.2.1, st2.2.2.1, (st2.2.2.2 + 1)))
  else
  ck (0 ≤ st1.2.2.2) <| ck (st1.2.2.2 < (st2.2.1.length : Int)) <| (refine_longer (st2.2.1.getD st1.2.2.2.toNat []) st2.2.2.2).bind fun v0_5 =>
  if (decide (v0_4 = 0)) = true then
  some (.done (Sum.inl v0_5))
  else
  ck (InK .u8 v0_3) <| ck (InK .u8 v0_4) <| ck ((st2.1.length + 1) * 2 ≤ 140737488355328) <| ck ((st2.2.1.length + 1) * 24 ≤ 140737488355328) <| ck (InK .i64 (st2.2.2.2 + 1)) <| some (.next ((st2.1 ++ [(v0_3, v0_4)]), (st2.2.1 ++ [v0_5]), (mput st2.2.2.1 (v0_3, v0_4) true), (st2.2.2.2 + 1)))
  else
  some (.done (Sum.inr (st2.1, st2.2.1, st2.2.2.1)))
noncomputable def refine_two_shows_b1 (t : ((Int × (List (Int × Int × Int))) × (El T69)) × (Int × (List (Int × Int × Int))) × (El T69)) (st1 : (List (Int × Int)) × (List (List Int)) × (List ((Int × Int) × Bool)) × Int) : Option (Step ((List (Int × Int)) × (List (List Int)) × (List ((Int × Int) × Bool)) × Int) (Sum ((List Int)) Unit)) :=
  if (decide (st1.2.2.2 < (st1.1.length : Int))) = true then
  (whileO (refine_two_shows_b2 t st1) (st1.1, st1.2.1, st1.2.2.1, 1)).bind fun x => match x with
  | .inl r2 => (some (.done (Sum.inl r2)))
  | .inr r2_2 => (refine_two_shows_k2 st1 r2_2)
  else
  some (.done (Sum.inr ()))
noncomputable def refine_two_shows (t : ((Int × (List (Int × Int × Int))) × (El T69)) × (Int × (List (Int × Int × Int))) × (El T69)) : Option ((List Int) × Bool) :=
  (refine_frame_begin t.1).bind fun v0 =>
  (refine_frame_begin t.2).bind fun v0_2 =>
  ck (InK .u8 ([((intAt T69 t.1.2 0), (intAt T69 t.2.2 0))].getD 0 (0, 0)).1) <| ck (InK .u8 ([((intAt T69 t.1.2 0), (intAt T69 t.2.2 0))].getD 0 (0, 0)).2) <| (whileO (refine_two_shows_b1 t) ([((intAt T69 t.1.2 0), (intAt T69 t.2.2 0))], [[]], (mput [] ([((intAt T69 t.1.2 0), (intAt T69 t.2.2 0))].getD 0 (0, 0)) true), 0)).bind fun x => match x with
  | .inl r1 => (some (r1, true))
  | .inr _ => (refine_two_shows_k1)

/- lineal/refine.Shows -/
noncomputable def refine_Shows (c : Int × (List (Int × Int × Int))) (a : Int × (List (Int × Int × Int))) : Option ((List Int) × Int) :=
  (refine_twoOf c a).bind fun v0 =>
  if (!(decide (v0.2.2.2.2.2.2 = 0))) = true then
  some ([], v0.2.2.2.2.2.2)
  else
  (refine_two_shows (((v0.1, v0.2.1), v0.2.2.1), (v0.2.2.2.1, v0.2.2.2.2.1), v0.2.2.2.2.2.1)).bind fun v0_2 =>
  if (!v0_2.2) = true then
  some ([], 5)
  else
  some (v0_2.1, 0)

/- lineal/linealref05.SameInts -/
noncomputable def linealref05_SameInts_k1 : Option Bool :=
  some true
noncomputable def linealref05_SameInts_b1 (a : List Int) (b : List Int) (st1 : Int) : Option (Step Int (Sum Unit Unit)) :=
  if (decide (st1 < (a.length : Int))) = true then
  ck (0 ≤ st1) <| ck (st1 < (a.length : Int)) <| ck (0 ≤ st1) <| ck (st1 < (b.length : Int)) <| if (!(decide ((a.getD st1.toNat 0) = (b.getD st1.toNat 0)))) = true then
  some (.done (Sum.inl ()))
  else
  ck (InK .i64 (st1 + 1)) <| some (.next (st1 + 1))
  else
  some (.done (Sum.inr ()))
noncomputable def linealref05_SameInts (a : List Int) (b : List Int) : Option Bool :=
  if (!(decide ((a.length : Int) = (b.length : Int)))) = true then
  some false
  else
  (whileO (linealref05_SameInts_b1 a b) 0).bind fun x => match x with
  | .inl _ => (some false)
  | .inr _ => (linealref05_SameInts_k1)

/- lineal/lineallaw05.Awake -/
noncomputable def lineallaw05_Awake : Option Bool :=
  (refine_Shows (2, [(0, 1, 1), (1, 2, 0), (1, 3, 0)]) (2, [(0, 1, 1), (1, 2, 0)])).bind fun v0 =>
  if (decide (v0.2 = 0)) = true then
  (linealref05_SameInts v0.1 [1, 3]).bind fun v0_2 =>
  some v0_2
  else
  some false

/- lineal/linealref05.IsState -/
noncomputable def linealref05_IsState (s : Int × (List (Int × Int × Int))) (n : Int) : Option Bool :=
  if (decide (0 ≤ n)) = true then
  some (decide (n < s.1))
  else
  some false

/- lineal/linealref05.Valid -/
noncomputable def linealref05_Valid_k1 : Option Bool :=
  some true
noncomputable def linealref05_Valid_k2 (st1 : Int) : Option (Step Int (Sum Unit Unit)) :=
  ck (InK .i64 (st1 + 1)) <| some (.next (st1 + 1))
noncomputable def linealref05_Valid_b2 (s : Int × (List (Int × Int × Int))) (st1 : Int) (st2 : Int) : Option (Step Int (Sum Unit Unit)) :=
  if (decide (st2 < ((s.2.take st1.toNat).length : Int))) = true then
  ck (0 ≤ st2) <| ck (st2 < ((s.2.take st1.toNat).length : Int)) <| ck (InK .i64 (s.2.getD st1.toNat (0, 0, 0)).1) <| ck (InK .i64 (s.2.getD st1.toNat (0, 0, 0)).2.1) <| ck (InK .i64 (s.2.getD st1.toNat (0, 0, 0)).2.2) <| ck (InK .i64 ((s.2.take st1.toNat).getD st2.toNat (0, 0, 0)).1) <| ck (InK .i64 ((s.2.take st1.toNat).getD st2.toNat (0, 0, 0)).2.1) <| ck (InK .i64 ((s.2.take st1.toNat).getD st2.toNat (0, 0, 0)).2.2) <| if (decide ((s.2.getD st1.toNat (0, 0, 0)) = ((s.2.take st1.toNat).getD st2.toNat (0, 0, 0)))) = true then
  some (.done (Sum.inl ()))
  else
  ck (InK .i64 (st2 + 1)) <| some (.next (st2 + 1))
  else
  some (.done (Sum.inr ()))
noncomputable def linealref05_Valid_b1 (s : Int × (List (Int × Int × Int))) (st1 : Int) : Option (Step Int (Sum Unit Unit)) :=
  if (decide (st1 < (s.2.length : Int))) = true then
  ck (0 ≤ st1) <| ck (st1 < (s.2.length : Int)) <| (linealref05_IsState s (s.2.getD st1.toNat (0, 0, 0)).1).bind fun v0 =>
  if (!v0) = true then
  some (.done (Sum.inl ()))
  else
  (linealref05_IsState s (s.2.getD st1.toNat (0, 0, 0)).2.2).bind fun v0_2 =>
  if (!v0_2) = true then
  some (.done (Sum.inl ()))
  else
  if (decide ((s.2.getD st1.toNat (0, 0, 0)).2.1 < 0)) = true then
  some (.done (Sum.inl ()))
  else
  if (decide (3 < (s.2.getD st1.toNat (0, 0, 0)).2.1)) = true then
  some (.done (Sum.inl ()))
  else
  ck (0 ≤ st1) <| ck (st1 ≤ (s.2.length : Int)) <| (whileO (linealref05_Valid_b2 s st1) 0).bind fun x => match x with
  | .inl _ => (some (.done (Sum.inl ())))
  | .inr _ => (linealref05_Valid_k2 st1)
  else
  some (.done (Sum.inr ()))
noncomputable def linealref05_Valid (s : Int × (List (Int × Int × Int))) : Option Bool :=
  if (decide (s.1 < 1)) = true then
  some false
  else
  if (decide (6 < s.1)) = true then
  some false
  else
  if (decide (24 < (s.2.length : Int))) = true then
  some false
  else
  (whileO (linealref05_Valid_b1 s) 0).bind fun x => match x with
  | .inl _ => (some false)
  | .inr _ => (linealref05_Valid_k1)

/- lineal/linealref05.step -/
noncomputable def linealref05_step_k1 (b1 : Int) : Option Int :=
  some b1
noncomputable def linealref05_step_b1 (s : Int × (List (Int × Int × Int))) (set0 : Int) (label : Int) (st1 : Int × Int) : Option (Step (Int × Int) Int) :=
  if (decide (st1.2 < (s.2.length : Int))) = true then
  ck (0 ≤ st1.2) <| ck (st1.2 < (s.2.length : Int)) <| if (decide ((s.2.getD st1.2.toNat (0, 0, 0)).2.1 = label)) = true then
  ck (0 ≤ (s.2.getD st1.2.toNat (0, 0, 0)).1) <| if (decide ((iand .i64 (ishr .i64 set0 (s.2.getD st1.2.toNat (0, 0, 0)).1) 1) = 1)) = true then
  ck (0 ≤ (s.2.getD st1.2.toNat (0, 0, 0)).2.2) <| ck (InK .i64 (st1.2 + 1)) <| some (.next ((ior .i64 st1.1 (ishl .i64 1 (s.2.getD st1.2.toNat (0, 0, 0)).2.2)), (st1.2 + 1)))
  else
  ck (InK .i64 (st1.2 + 1)) <| some (.next (st1.1, (st1.2 + 1)))
  else
  ck (InK .i64 (st1.2 + 1)) <| some (.next (st1.1, (st1.2 + 1)))
  else
  some (.done st1.1)
noncomputable def linealref05_step (s : Int × (List (Int × Int × Int))) (set0 : Int) (label : Int) : Option Int :=
  (whileO (linealref05_step_b1 s set0 label) (0, 0)).bind fun r1 =>
  linealref05_step_k1 r1

/- lineal/linealref05.quiet -/
noncomputable def linealref05_quiet_k1 (b1 : Int) : Option Int :=
  some b1
noncomputable def linealref05_quiet_b1 (s : Int × (List (Int × Int × Int))) (st1 : Int × Int) : Option (Step (Int × Int) Int) :=
  if (decide (st1.2 < s.1)) = true then
  (linealref05_step s st1.1 0).bind fun v0 =>
  ck (InK .i64 (st1.2 + 1)) <| some (.next ((ior .i64 st1.1 v0), (st1.2 + 1)))
  else
  some (.done st1.1)
noncomputable def linealref05_quiet (s : Int × (List (Int × Int × Int))) (set0 : Int) : Option Int :=
  (whileO (linealref05_quiet_b1 s) (set0, 0)).bind fun r1 =>
  linealref05_quiet_k1 r1

/- lineal/linealref05.comes -/
noncomputable def linealref05_comes (s : Int × (List (Int × Int × Int))) (set0 : Int) (label : Int) : Option Int :=
  if (decide (label = 0)) = true then
  (linealref05_quiet s set0).bind fun v0 =>
  some v0
  else
  (linealref05_quiet s set0).bind fun v0_2 =>
  (linealref05_step s v0_2 label).bind fun v0_3 =>
  (linealref05_quiet s v0_3).bind fun v0_4 =>
  some v0_4

/- lineal/refine.hide -/
noncomputable def refine_hide_k1 (b2_2 : (List (Int × Int × Int))) : Option ((List (Int × Int × Int))) :=
  some b2_2
noncomputable def refine_hide_k2 (steps : List (Int × Int × Int)) (st1 : (List (Int × Int × Int)) × Int) (b2 : Int) : Option (Step ((List (Int × Int × Int)) × Int) ((List (Int × Int × Int)))) :=
  (slices_Contains st1.1 ((steps.getD st1.2.toNat (0, 0, 0)).1, b2, (steps.getD st1.2.toNat (0, 0, 0)).2.2)).bind fun v0 =>
  if (!v0) = true then
  ck ((st1.1.length + 1) * 24 ≤ 140737488355328) <| ck (InK .i64 (st1.2 + 1)) <| some (.next ((st1.1 ++ [((steps.getD st1.2.toNat (0, 0, 0)).1, b2, (steps.getD st1.2.toNat (0, 0, 0)).2.2)]), (st1.2 + 1)))
  else
  ck (InK .i64 (st1.2 + 1)) <| some (.next (st1.1, (st1.2 + 1)))
noncomputable def refine_hide_b1 (steps : List (Int × Int × Int)) (label : Int) (st1 : (List (Int × Int × Int)) × Int) : Option (Step ((List (Int × Int × Int)) × Int) ((List (Int × Int × Int)))) :=
  if (decide (st1.2 < (steps.length : Int))) = true then
  ck (0 ≤ st1.2) <| ck (st1.2 < (steps.length : Int)) <| if (decide ((steps.getD st1.2.toNat (0, 0, 0)).2.1 = label)) = true then
  refine_hide_k2 steps st1 0
  else
  refine_hide_k2 steps st1 (steps.getD st1.2.toNat (0, 0, 0)).2.1
  else
  some (.done st1.1)
noncomputable def refine_hide (steps : List (Int × Int × Int)) (label : Int) : Option ((List (Int × Int × Int))) :=
  (whileO (refine_hide_b1 steps label) ([], 0)).bind fun r1 =>
  refine_hide_k1 r1

/- lineal/refine.Hidden -/
noncomputable def refine_Hidden (s : Int × (List (Int × Int × Int))) (label : Int) : Option (Int × (List (Int × Int × Int)) × Int) :=
  (refine_Valid s).bind fun v0 =>
  if (!v0) = true then
  some (0, [], 50)
  else
  (refine_isSeen label).bind fun v0_2 =>
  if (!v0_2) = true then
  some (0, [], 2)
  else
  (refine_hide s.2 label).bind fun v0_3 =>
  some (s.1, v0_3, 0)

/- (lineal/refine.relation).list -/
noncomputable def refine_relation_list_k1 (b2_2 : (List (Int × Int))) : Option ((List (Int × Int))) :=
  some b2_2
noncomputable def refine_relation_list_k2 (st1 : (List (Int × Int)) × Int) (b2 : (List (Int × Int))) : Option (Step ((List (Int × Int)) × Int) ((List (Int × Int)))) :=
  ck (InK .i64 (st1.2 + 1)) <| some (.next (b2, (st1.2 + 1)))
noncomputable def refine_relation_list_b2 (st1 : (List (Int × Int)) × Int) (v0 : (List Int)) (st2 : (List (Int × Int)) × Int) : Option (Step ((List (Int × Int)) × Int) ((List (Int × Int)))) :=
  if (decide (st2.2 < (v0.length : Int))) = true then
  ck (0 ≤ st2.2) <| ck (st2.2 < (v0.length : Int)) <| ck ((st2.1.length + 1) * 16 ≤ 140737488355328) <| ck (InK .i64 (st2.2 + 1)) <| some (.next ((st2.1 ++ [(st1.2, (v0.getD st2.2.toNat 0))]), (st2.2 + 1)))
  else
  some (.done st2.1)
noncomputable def refine_relation_list_b1 (r0 : (El T94)) (st1 : (List (Int × Int)) × Int) : Option (Step ((List (Int × Int)) × Int) ((List (Int × Int)))) :=
  if (decide (st1.2 < 6)) = true then
  ck (0 ≤ st1.2) <| ck (st1.2 < 6) <| (refine_set_states (intAt T94 r0 (st1.2.toNat * 1))).bind fun v0 =>
  (whileO (refine_relation_list_b2 st1 v0) (st1.1, 0)).bind fun r2 =>
  refine_relation_list_k2 st1 r2
  else
  some (.done st1.1)
noncomputable def refine_relation_list (r0 : (El T94)) : Option ((List (Int × Int))) :=
  (whileO (refine_relation_list_b1 r0) ([], 0)).bind fun r1 =>
  refine_relation_list_k1 r1

/- (lineal/refine.two).follows -/
noncomputable def refine_two_follows_k1 : Option Bool :=
  some true
noncomputable def refine_two_follows_b1 (t : ((Int × (List (Int × Int × Int))) × (El T69)) × (Int × (List (Int × Int × Int))) × (El T69)) (r0 : (El T94)) (x0 : Int) (y : Int) (st1 : Int) : Option (Step Int (Sum Unit Unit)) :=
  if (decide (st1 < (t.1.1.2.length : Int))) = true then
  ck (0 ≤ st1) <| ck (st1 < (t.1.1.2.length : Int)) <| if (decide ((t.1.1.2.getD st1.toNat (0, 0, 0)).1 = x0)) = true then
  ck (0 ≤ y) <| ck (y < 6) <| ck (0 ≤ (t.1.1.2.getD st1.toNat (0, 0, 0)).2.1) <| ck ((t.1.1.2.getD st1.toNat (0, 0, 0)).2.1 < 4) <| ck (0 ≤ (t.1.1.2.getD st1.toNat (0, 0, 0)).2.2) <| ck ((t.1.1.2.getD st1.toNat (0, 0, 0)).2.2 < 6) <| if (decide ((iand .u8 (intAt T69 t.2.2 ((y.toNat * 4) + (t.1.1.2.getD st1.toNat (0, 0, 0)).2.1.toNat * 1)) (intAt T94 r0 (0 + (t.1.1.2.getD st1.toNat (0, 0, 0)).2.2.toNat * 1))) = 0)) = true then
  some (.done (Sum.inl ()))
  else
  ck (InK .i64 (st1 + 1)) <| some (.next (st1 + 1))
  else
  ck (InK .i64 (st1 + 1)) <| some (.next (st1 + 1))
  else
  some (.done (Sum.inr ()))
noncomputable def refine_two_follows (t : ((Int × (List (Int × Int × Int))) × (El T69)) × (Int × (List (Int × Int × Int))) × (El T69)) (r0 : (El T94)) (x0 : Int) (y : Int) : Option Bool :=
  (whileO (refine_two_follows_b1 t r0 x0 y) 0).bind fun x => match x with
  | .inl _ => (some false)
  | .inr _ => (refine_two_follows_k1)

/- (lineal/refine.two).held -/
noncomputable def refine_two_held_k1 (b1 : (El T94)) : Option ((El T94)) :=
  some b1
noncomputable def refine_two_held_b1 (t : ((Int × (List (Int × Int × Int))) × (El T69)) × (Int × (List (Int × Int × Int))) × (El T69)) (r0 : (El T94)) (v0 : (List (Int × Int))) (st1 : (El T94) × Int) : Option (Step ((El T94) × Int) ((El T94))) :=
  if (decide (st1.2 < (v0.length : Int))) = true then
  ck (0 ≤ st1.2) <| ck (st1.2 < (v0.length : Int)) <| (refine_two_follows t r0 (v0.getD st1.2.toNat (0, 0)).1 (v0.getD st1.2.toNat (0, 0)).2).bind fun v0_2 =>
  if v0_2 = true then
  ck (0 ≤ (v0.getD st1.2.toNat (0, 0)).1) <| ck ((v0.getD st1.2.toNat (0, 0)).1 < 6) <| ck (0 ≤ (v0.getD st1.2.toNat (0, 0)).2) <| ck (0 ≤ (v0.getD st1.2.toNat (0, 0)).1) <| ck ((v0.getD st1.2.toNat (0, 0)).1 < 6) <| ck (InK .i64 (st1.2 + 1)) <| some (.next ((setInt T94 st1.1 (0 + (v0.getD st1.2.toNat (0, 0)).1.toNat * 1) (ior .u8 (intAt T94 st1.1 (0 + (v0.getD st1.2.toNat (0, 0)).1.toNat * 1)) (ishl .u8 1 (v0.getD st1.2.toNat (0, 0)).2))), (st1.2 + 1)))
  else
  ck (InK .i64 (st1.2 + 1)) <| some (.next (st1.1, (st1.2 + 1)))
  else
  some (.done st1.1)
noncomputable def refine_two_held (t : ((Int × (List (Int × Int × Int))) × (El T69)) × (Int × (List (Int × Int × Int))) × (El T69)) (r0 : (El T94)) : Option ((El T94)) :=
  (refine_relation_list r0).bind fun v0 =>
  (whileO (refine_two_held_b1 t r0 v0) ((Ty.dflt T94), 0)).bind fun r1 =>
  refine_two_held_k1 r1

/- (lineal/refine.two).best -/
noncomputable def refine_two_best_k2 (b2 : (El T94)) : Option ((El T94)) :=
  some b2
noncomputable def refine_two_best_b2 (t : ((Int × (List (Int × Int × Int))) × (El T69)) × (Int × (List (Int × Int × Int))) × (El T69)) (st2 : (El T94) × (El T94)) : Option (Step ((El T94) × (El T94)) ((El T94))) :=
  ck (okD T94 st2.2) <| ck (okD T94 st2.1) <| if (!(decide (st2.2 = st2.1))) = true then
  (refine_two_held t st2.2).bind fun v0_2 =>
  some (.next (st2.2, v0_2))
  else
  some (.done st2.1)
noncomputable def refine_two_best_k1 (t : ((Int × (List (Int × Int × Int))) × (El T69)) × (Int × (List (Int × Int × Int))) × (El T69)) (b1 : (El T94)) : Option ((El T94)) :=
  (refine_two_held t b1).bind fun v0 =>
  (whileO (refine_two_best_b2 t) (b1, v0)).bind fun r2 =>
  refine_two_best_k2 r2
noncomputable def refine_two_best_b1 (t : ((Int × (List (Int × Int × Int))) × (El T69)) × (Int × (List (Int × Int × Int))) × (El T69)) (st1 : (El T94) × Int) : Option (Step ((El T94) × Int) ((El T94))) :=
  if (decide (st1.2 < t.1.1.1)) = true then
  ck (0 ≤ t.2.1.1) <| ck (InK .u8 ((ishl .u8 1 t.2.1.1) - 1)) <| ck (0 ≤ st1.2) <| ck (st1.2 < 6) <| ck (InK .i64 (st1.2 + 1)) <| some (.next ((setInt T94 st1.1 (0 + st1.2.toNat * 1) ((ishl .u8 1 t.2.1.1) - 1)), (st1.2 + 1)))
  else
  some (.done st1.1)
noncomputable def refine_two_best (t : ((Int × (List (Int × Int × Int))) × (El T69)) × (Int × (List (Int × Int × Int))) × (El T69)) : Option ((El T94)) :=
  (whileO (refine_two_best_b1 t) ((Ty.dflt T94), 0)).bind fun r1 =>
  refine_two_best_k1 t r1

/- lineal/refine.Refines -/
noncomputable def refine_Refines (c : Int × (List (Int × Int × Int))) (a : Int × (List (Int × Int × Int))) : Option (Bool × Int) :=
  (refine_twoOf c a).bind fun v0 =>
  if (!(decide (v0.2.2.2.2.2.2 = 0))) = true then
  some (false, v0.2.2.2.2.2.2)
  else
  (refine_two_best (((v0.1, v0.2.1), v0.2.2.1), (v0.2.2.2.1, v0.2.2.2.2.1), v0.2.2.2.2.2.1)).bind fun v0_2 =>
  (refine_set_has (intAt T94 v0_2 0) 0).bind fun v0_3 =>
  some ((decide ((iand .u8 (ishr .u8 (intAt T94 v0_2 0) 0) 1) = 1)), 0)

/- slices.Grow[[]lineal/api.Step,lineal/api.Step] -/
noncomputable def slices_Grow (n : Int) : Option Unit :=
  if (decide (n < 0)) = true then
  none
  else
  ck (InK .i64 (0 - 0)) <| ck (InK .i64 (n - (0 - 0))) <| if (decide (0 < (n - (0 - 0)))) = true then
  ck (0 < (n - (0 - 0))) <| ck ((n - (0 - 0)) ≤ 9223372036854775806) <| ck (24 * (n - (0 - 0)) ≤ 281474976710656) <| ck (0 ≤ 0) <| ck (0 ≤ ((List.replicate (n - (0 - 0)).toNat ((0, 0, 0) : Int × Int × Int)).length : Int)) <| some ()
  else
  some ()

/- slices.Concat[[]lineal/api.Step,lineal/api.Step] -/
noncomputable def slices_Concat_k2 (b2 : (List (Int × Int × Int))) : Option ((List (Int × Int × Int))) :=
  some b2
noncomputable def slices_Concat_b2 (slices : List (List (Int × Int × Int))) (st2 : (List (Int × Int × Int)) × Int) : Option (Step ((List (Int × Int × Int)) × Int) ((List (Int × Int × Int)))) :=
  if (decide (st2.2 < (slices.length : Int))) = true then
  ck (0 ≤ st2.2) <| ck (st2.2 < (slices.length : Int)) <| ck ((st2.1.length + (slices.getD st2.2.toNat []).length) * 24 ≤ 140737488355328) <| ck (InK .i64 (st2.2 + 1)) <| some (.next ((st2.1 ++ (slices.getD st2.2.toNat [])), (st2.2 + 1)))
  else
  some (.done st2.1)
noncomputable def slices_Concat_k1 (slices : List (List (Int × Int × Int))) (b1 : Int) : Option ((List (Int × Int × Int))) :=
  (slices_Grow b1).bind fun v0 =>
  (whileO (slices_Concat_b2 slices) ([], 0)).bind fun r2 =>
  slices_Concat_k2 r2
noncomputable def slices_Concat_b1 (slices : List (List (Int × Int × Int))) (st1 : Int × Int) : Option (Step (Int × Int) Int) :=
  if (decide (st1.2 < (slices.length : Int))) = true then
  ck (0 ≤ st1.2) <| ck (st1.2 < (slices.length : Int)) <| ck (InK .i64 (st1.1 + ((slices.getD st1.2.toNat []).length : Int))) <| if (decide ((st1.1 + ((slices.getD st1.2.toNat []).length : Int)) < 0)) = true then
  none
  else
  ck (InK .i64 (st1.2 + 1)) <| some (.next ((st1.1 + ((slices.getD st1.2.toNat []).length : Int)), (st1.2 + 1)))
  else
  some (.done st1.1)
noncomputable def slices_Concat (slices : List (List (Int × Int × Int))) : Option ((List (Int × Int × Int))) :=
  (whileO (slices_Concat_b1 slices) (0, 0)).bind fun r1 =>
  slices_Concat_k1 slices r1

/- lineal/refine.Without -/
noncomputable def refine_Without (s : Int × (List (Int × Int × Int))) (step : Int) : Option (Int × (List (Int × Int × Int)) × Int) :=
  (refine_Valid s).bind fun v0 =>
  if (!v0) = true then
  some (0, [], 50)
  else
  if (decide (step < 0)) = true then
  some (0, [], 2)
  else
  if (decide ((s.2.length : Int) ≤ step)) = true then
  some (0, [], 2)
  else
  ck (0 ≤ step) <| ck (step ≤ (s.2.length : Int)) <| ck (InK .i64 (step + 1)) <| ck (0 ≤ (step + 1)) <| ck ((step + 1) ≤ (s.2.length : Int)) <| (slices_Concat [(s.2.take step.toNat), (s.2.drop (step + 1).toNat)]).bind fun v0_2 =>
  some (s.1, v0_2, 0)

/- slices.Index[[]lineal/refine.set,lineal/refine.set] -/
noncomputable def slices_Index_2_k1 : Option Int :=
  some (-1)
noncomputable def slices_Index_2_b1 (s : List Int) (v0 : Int) (st1 : Int) : Option (Step Int (Sum Int Unit)) :=
  if (decide (st1 < (s.length : Int))) = true then
  ck (0 ≤ st1) <| ck (st1 < (s.length : Int)) <| if (decide (v0 = (s.getD st1.toNat 0))) = true then
  some (.done (Sum.inl st1))
  else
  ck (InK .i64 (st1 + 1)) <| some (.next (st1 + 1))
  else
  some (.done (Sum.inr ()))
noncomputable def slices_Index_2 (s : List Int) (v0 : Int) : Option Int :=
  (whileO (slices_Index_2_b1 s v0) 0).bind fun x => match x with
  | .inl r1 => (some r1)
  | .inr _ => (slices_Index_2_k1)

/- slices.Contains[[]lineal/refine.set,lineal/refine.set] -/
noncomputable def slices_Contains_2 (s : List Int) (v0 : Int) : Option Bool :=
  (slices_Index_2 s v0).bind fun v0_2 =>
  some (decide (0 ≤ v0_2))

/- (lineal/refine.frame).seen -/
noncomputable def refine_frame_seen_k1 (b3_3 : (List Int) × (List (Int × Int × Int))) : Option (Int × (List (Int × Int × Int)) × Bool) :=
  some ((b3_3.1.length : Int), b3_3.2, true)
noncomputable def refine_frame_seen_k2 (st1 : (List Int) × (List (Int × Int × Int)) × Int) (b3_2 : (List Int) × (List (Int × Int × Int))) : Option (Step ((List Int) × (List (Int × Int × Int)) × Int) (Sum Unit ((List Int) × (List (Int × Int × Int))))) :=
  ck (InK .i64 (st1.2.2 + 1)) <| some (.next (b3_2.1, b3_2.2, (st1.2.2 + 1)))
noncomputable def refine_frame_seen_k3 (st1 : (List Int) × (List (Int × Int × Int)) × Int) (st2 : (List Int) × (List (Int × Int × Int)) × Int) (v0_2 : Int) (b3 : (List Int)) : Option (Step ((List Int) × (List (Int × Int × Int)) × Int) (Sum Unit ((List Int) × (List (Int × Int × Int))))) :=
  if (decide (6 < (b3.length : Int))) = true then
  some (.done (Sum.inl ()))
  else
  (slices_Index_2 b3 v0_2).bind fun v0_4 =>
  ck ((st2.2.1.length + 1) * 24 ≤ 140737488355328) <| ck (InK .i64 (st2.2.2 + 1)) <| some (.next (b3, (st2.2.1 ++ [(st1.2.2, st2.2.2, v0_4)]), (st2.2.2 + 1)))
noncomputable def refine_frame_seen_b2 (f : (Int × (List (Int × Int × Int))) × (El T69)) (st1 : (List Int) × (List (Int × Int × Int)) × Int) (st2 : (List Int) × (List (Int × Int × Int)) × Int) : Option (Step ((List Int) × (List (Int × Int × Int)) × Int) (Sum Unit ((List Int) × (List (Int × Int × Int))))) :=
  if (decide (st2.2.2 ≤ 3)) = true then
  ck (0 ≤ st1.2.2) <| ck (st1.2.2 < (st2.1.length : Int)) <| (refine_frame_after f (st2.1.getD st1.2.2.toNat 0) st2.2.2).bind fun v0_2 =>
  if (decide (v0_2 = 0)) = true then
  ck (InK .i64 (st2.2.2 + 1)) <| some (.next (st2.1, st2.2.1, (st2.2.2 + 1)))
  else
  (slices_Contains_2 st2.1 v0_2).bind fun v0_3 =>
  if (!v0_3) = true then
  ck ((st2.1.length + 1) * 1 ≤ 140737488355328) <| refine_frame_seen_k3 st1 st2 v0_2 (st2.1 ++ [v0_2])
  else
  refine_frame_seen_k3 st1 st2 v0_2 st2.1
  else
  some (.done (Sum.inr (st2.1, st2.2.1)))
noncomputable def refine_frame_seen_b1 (f : (Int × (List (Int × Int × Int))) × (El T69)) (st1 : (List Int) × (List (Int × Int × Int)) × Int) : Option (Step ((List Int) × (List (Int × Int × Int)) × Int) (Sum Unit ((List Int) × (List (Int × Int × Int))))) :=
  if (decide (st1.2.2 < (st1.1.length : Int))) = true then
  (whileO (refine_frame_seen_b2 f st1) (st1.1, st1.2.1, 1)).bind fun x => match x with
  | .inl _ => (some (.done (Sum.inl ())))
  | .inr r2 => (refine_frame_seen_k2 st1 r2)
  else
  some (.done (Sum.inr (st1.1, st1.2.1)))
noncomputable def refine_frame_seen (f : (Int × (List (Int × Int × Int))) × (El T69)) : Option (Int × (List (Int × Int × Int)) × Bool) :=
  (refine_frame_begin f).bind fun v0 =>
  (whileO (refine_frame_seen_b1 f) ([(intAt T69 f.2 0)], [], 0)).bind fun x => match x with
  | .inl _ => (some (0, [], false))
  | .inr r1 => (refine_frame_seen_k1 r1)

/- lineal/refine.Seen -/
noncomputable def refine_Seen (s : Int × (List (Int × Int × Int))) : Option (Int × (List (Int × Int × Int)) × Int) :=
  (refine_frameOf s).bind fun v0 =>
  if (!(decide (v0.2.2.2 = 0))) = true then
  some (0, [], v0.2.2.2)
  else
  (refine_frame_seen ((v0.1, v0.2.1), v0.2.2.1)).bind fun v0_2 =>
  if (!v0_2.2.2) = true then
  some (0, [], 4)
  else
  some (v0_2.1, v0_2.2.1, 0)

/- cmp.isNaN[int] -/
noncomputable def cmp_isNaN (x0 : Int) : Option Unit :=
  some ()

/- cmp.Compare[int] -/
noncomputable def cmp_Compare (x0 : Int) (y : Int) : Option Int :=
  (cmp_isNaN x0).bind fun v0 =>
  (cmp_isNaN y).bind fun v0_2 =>
  if (decide (x0 < y)) = true then
  some (-1)
  else
  if (decide (y < x0)) = true then
  some 1
  else
  some 0

/- slices.Compare[[]int,int] -/
noncomputable def slices_Compare_k1 (s1 : List Int) : Option Int :=
  if (decide ((s1.length : Int) < 2)) = true then
  some (-1)
  else
  some 0
noncomputable def slices_Compare_k2 (b2 : Int × Int × Int) : Option (Step Int (Sum Int Unit)) :=
  (cmp_Compare b2.1 b2.2.1).bind fun v0 =>
  if (!(decide (v0 = 0))) = true then
  some (.done (Sum.inl v0))
  else
  ck (InK .i64 (b2.2.2 + 1)) <| some (.next (b2.2.2 + 1))
noncomputable def slices_Compare_b1 (s1 : List Int) (s2 : Int × Int) (st1 : Int) : Option (Step Int (Sum Int Unit)) :=
  if (decide (st1 < (s1.length : Int))) = true then
  ck (0 ≤ st1) <| ck (st1 < (s1.length : Int)) <| if (decide (2 ≤ st1)) = true then
  some (.done (Sum.inl 1))
  else
  ck (0 ≤ st1) <| ck (st1 < 2) <| if (decide (st1 = 0)) = true then
  slices_Compare_k2 ((s1.getD 0 0), s2.1, 0)
  else
  slices_Compare_k2 ((s1.getD 1 0), s2.2, 1)
  else
  some (.done (Sum.inr ()))
noncomputable def slices_Compare (s1 : List Int) (s2 : Int × Int) : Option Int :=
  (whileO (slices_Compare_b1 s1 s2) 0).bind fun x => match x with
  | .inl r1 => (some r1)
  | .inr _ => (slices_Compare_k1 s1)

/- lineal/refine.isRelation -/
noncomputable def refine_isRelation_k1 : Option Bool :=
  some true
noncomputable def refine_isRelation_b1 (list : List (Int × Int)) (n : Int) (m : Int) (st1 : Int) : Option (Step Int (Sum Unit Unit)) :=
  if (decide (st1 < (list.length : Int))) = true then
  ck (0 ≤ st1) <| ck (st1 < (list.length : Int)) <| if (decide ((list.getD st1.toNat (0, 0)).1 < 0)) = true then
  some (.done (Sum.inl ()))
  else
  if (decide (n ≤ (list.getD st1.toNat (0, 0)).1)) = true then
  some (.done (Sum.inl ()))
  else
  if (decide ((list.getD st1.toNat (0, 0)).2 < 0)) = true then
  some (.done (Sum.inl ()))
  else
  if (decide (m ≤ (list.getD st1.toNat (0, 0)).2)) = true then
  some (.done (Sum.inl ()))
  else
  if (decide (0 < st1)) = true then
  ck (InK .i64 (st1 - 1)) <| ck (0 ≤ (st1 - 1)) <| ck ((st1 - 1) < (list.length : Int)) <| (slices_Compare [(list.getD (st1 - 1).toNat (0, 0)).1, (list.getD (st1 - 1).toNat (0, 0)).2] (list.getD st1.toNat (0, 0))).bind fun v0 =>
  if (decide (0 ≤ v0)) = true then
  some (.done (Sum.inl ()))
  else
  ck (InK .i64 (st1 + 1)) <| some (.next (st1 + 1))
  else
  ck (InK .i64 (st1 + 1)) <| some (.next (st1 + 1))
  else
  some (.done (Sum.inr ()))
noncomputable def refine_isRelation (list : List (Int × Int)) (n : Int) (m : Int) : Option Bool :=
  (whileO (refine_isRelation_b1 list n m) 0).bind fun x => match x with
  | .inl _ => (some false)
  | .inr _ => (refine_isRelation_k1)

/- lineal/refine.relationOf -/
noncomputable def refine_relationOf_k1 (b1 : (El T94)) : Option ((El T94)) :=
  some b1
noncomputable def refine_relationOf_b1 (list : List (Int × Int)) (st1 : (El T94) × Int) : Option (Step ((El T94) × Int) ((El T94))) :=
  if (decide (st1.2 < (list.length : Int))) = true then
  ck (0 ≤ st1.2) <| ck (st1.2 < (list.length : Int)) <| ck (0 ≤ (list.getD st1.2.toNat (0, 0)).1) <| ck ((list.getD st1.2.toNat (0, 0)).1 < 6) <| ck (0 ≤ (list.getD st1.2.toNat (0, 0)).2) <| ck (0 ≤ (list.getD st1.2.toNat (0, 0)).1) <| ck ((list.getD st1.2.toNat (0, 0)).1 < 6) <| ck (InK .i64 (st1.2 + 1)) <| some (.next ((setInt T94 st1.1 (0 + (list.getD st1.2.toNat (0, 0)).1.toNat * 1) (ior .u8 (intAt T94 st1.1 (0 + (list.getD st1.2.toNat (0, 0)).1.toNat * 1)) (ishl .u8 1 (list.getD st1.2.toNat (0, 0)).2))), (st1.2 + 1)))
  else
  some (.done st1.1)
noncomputable def refine_relationOf (list : List (Int × Int)) : Option ((El T94)) :=
  (whileO (refine_relationOf_b1 list) ((Ty.dflt T94), 0)).bind fun r1 =>
  refine_relationOf_k1 r1

/- (lineal/refine.relation).composed -/
noncomputable def refine_relation_composed_k1 (b1 : (El T94)) : Option ((El T94)) :=
  some b1
noncomputable def refine_relation_composed_b1 (s : (El T94)) (v0 : (List (Int × Int))) (st1 : (El T94) × Int) : Option (Step ((El T94) × Int) ((El T94))) :=
  if (decide (st1.2 < (v0.length : Int))) = true then
  ck (0 ≤ st1.2) <| ck (st1.2 < (v0.length : Int)) <| ck (0 ≤ (v0.getD st1.2.toNat (0, 0)).1) <| ck ((v0.getD st1.2.toNat (0, 0)).1 < 6) <| ck (0 ≤ (v0.getD st1.2.toNat (0, 0)).2) <| ck ((v0.getD st1.2.toNat (0, 0)).2 < 6) <| ck (0 ≤ (v0.getD st1.2.toNat (0, 0)).1) <| ck ((v0.getD st1.2.toNat (0, 0)).1 < 6) <| ck (InK .i64 (st1.2 + 1)) <| some (.next ((setInt T94 st1.1 (0 + (v0.getD st1.2.toNat (0, 0)).1.toNat * 1) (ior .u8 (intAt T94 st1.1 (0 + (v0.getD st1.2.toNat (0, 0)).1.toNat * 1)) (intAt T94 s (0 + (v0.getD st1.2.toNat (0, 0)).2.toNat * 1)))), (st1.2 + 1)))
  else
  some (.done st1.1)
noncomputable def refine_relation_composed (r0 : (El T94)) (s : (El T94)) : Option ((El T94)) :=
  (refine_relation_list r0).bind fun v0 =>
  (whileO (refine_relation_composed_b1 s v0) ((Ty.dflt T94), 0)).bind fun r1 =>
  refine_relation_composed_k1 r1

/- lineal/refine.Composed -/
noncomputable def refine_Composed (r0 : List (Int × Int)) (s : List (Int × Int)) : Option ((List (Int × Int)) × Int) :=
  (refine_isRelation r0 6 6).bind fun v0 =>
  if (!v0) = true then
  some ([], 2)
  else
  (refine_isRelation s 6 6).bind fun v0_2 =>
  if (!v0_2) = true then
  some ([], 2)
  else
  (refine_relationOf r0).bind fun v0_3 =>
  (refine_relationOf s).bind fun v0_4 =>
  (refine_relation_composed v0_3 v0_4).bind fun v0_5 =>
  (refine_relation_list v0_5).bind fun v0_6 =>
  some (v0_6, 0)

/- lineal/linealref05.isRelation -/
noncomputable def linealref05_isRelation_k1 : Option Bool :=
  some true
noncomputable def linealref05_isRelation_b1 (r0 : List (Int × Int)) (m : Int) (n : Int) (st1 : Int) : Option (Step Int (Sum Unit Unit)) :=
  if (decide (st1 < (r0.length : Int))) = true then
  ck (0 ≤ st1) <| ck (st1 < (r0.length : Int)) <| if (decide ((r0.getD st1.toNat (0, 0)).1 < 0)) = true then
  some (.done (Sum.inl ()))
  else
  if (decide (m ≤ (r0.getD st1.toNat (0, 0)).1)) = true then
  some (.done (Sum.inl ()))
  else
  if (decide ((r0.getD st1.toNat (0, 0)).2 < 0)) = true then
  some (.done (Sum.inl ()))
  else
  if (decide (n ≤ (r0.getD st1.toNat (0, 0)).2)) = true then
  some (.done (Sum.inl ()))
  else
  if (decide (0 < st1)) = true then
  ck (InK .i64 (st1 - 1)) <| ck (0 ≤ (st1 - 1)) <| ck ((st1 - 1) < (r0.length : Int)) <| if (decide ((r0.getD st1.toNat (0, 0)).1 < (r0.getD (st1 - 1).toNat (0, 0)).1)) = true then
  some (.done (Sum.inl ()))
  else
  ck (InK .i64 (st1 - 1)) <| ck (0 ≤ (st1 - 1)) <| ck ((st1 - 1) < (r0.length : Int)) <| if (decide ((r0.getD st1.toNat (0, 0)).1 = (r0.getD (st1 - 1).toNat (0, 0)).1)) = true then
  ck (InK .i64 (st1 - 1)) <| ck (0 ≤ (st1 - 1)) <| ck ((st1 - 1) < (r0.length : Int)) <| if (decide ((r0.getD st1.toNat (0, 0)).2 ≤ (r0.getD (st1 - 1).toNat (0, 0)).2)) = true then
  some (.done (Sum.inl ()))
  else
  ck (InK .i64 (st1 + 1)) <| some (.next (st1 + 1))
  else
  ck (InK .i64 (st1 + 1)) <| some (.next (st1 + 1))
  else
  ck (InK .i64 (st1 + 1)) <| some (.next (st1 + 1))
  else
  some (.done (Sum.inr ()))
noncomputable def linealref05_isRelation (r0 : List (Int × Int)) (m : Int) (n : Int) : Option Bool :=
  (whileO (linealref05_isRelation_b1 r0 m n) 0).bind fun x => match x with
  | .inl _ => (some false)
  | .inr _ => (linealref05_isRelation_k1)

/- lineal/linealref05.list -/
noncomputable def linealref05_list_k1 (b1 : (List Int)) : Option ((List Int)) :=
  some b1
noncomputable def linealref05_list_b1 (set0 : Int) (st1 : (List Int) × Int) : Option (Step ((List Int) × Int) ((List Int))) :=
  if (decide (st1.2 < 6)) = true then
  ck (0 ≤ st1.2) <| if (decide ((iand .i64 (ishr .i64 set0 st1.2) 1) = 1)) = true then
  ck ((st1.1.length + 1) * 8 ≤ 140737488355328) <| ck (InK .i64 (st1.2 + 1)) <| some (.next ((st1.1 ++ [st1.2]), (st1.2 + 1)))
  else
  ck (InK .i64 (st1.2 + 1)) <| some (.next (st1.1, (st1.2 + 1)))
  else
  some (.done st1.1)
noncomputable def linealref05_list (set0 : Int) : Option ((List Int)) :=
  (whileO (linealref05_list_b1 set0) ([], 0)).bind fun r1 =>
  linealref05_list_k1 r1

/- lineal/linealref05.relation -/
noncomputable def linealref05_relation_k1 (b2_2 : (List (Int × Int))) : Option ((List (Int × Int))) :=
  some b2_2
noncomputable def linealref05_relation_k2 (st1 : (List (Int × Int)) × Int) (b2 : (List (Int × Int))) : Option (Step ((List (Int × Int)) × Int) ((List (Int × Int)))) :=
  ck (InK .i64 (st1.2 + 1)) <| some (.next (b2, (st1.2 + 1)))
noncomputable def linealref05_relation_b2 (st1 : (List (Int × Int)) × Int) (v0 : (List Int)) (st2 : (List (Int × Int)) × Int) : Option (Step ((List (Int × Int)) × Int) ((List (Int × Int)))) :=
  if (decide (st2.2 < (v0.length : Int))) = true then
  ck (0 ≤ st2.2) <| ck (st2.2 < (v0.length : Int)) <| ck ((st2.1.length + 1) * 16 ≤ 140737488355328) <| ck (InK .i64 (st2.2 + 1)) <| some (.next ((st2.1 ++ [(st1.2, (v0.getD st2.2.toNat 0))]), (st2.2 + 1)))
  else
  some (.done st2.1)
noncomputable def linealref05_relation_b1 (pairs : List Int) (st1 : (List (Int × Int)) × Int) : Option (Step ((List (Int × Int)) × Int) ((List (Int × Int)))) :=
  if (decide (st1.2 < (pairs.length : Int))) = true then
  ck (0 ≤ st1.2) <| ck (st1.2 < (pairs.length : Int)) <| (linealref05_list (pairs.getD st1.2.toNat 0)).bind fun v0 =>
  (whileO (linealref05_relation_b2 st1 v0) (st1.1, 0)).bind fun r2 =>
  linealref05_relation_k2 st1 r2
  else
  some (.done st1.1)
noncomputable def linealref05_relation (pairs : List Int) : Option ((List (Int × Int))) :=
  (whileO (linealref05_relation_b1 pairs) ([], 0)).bind fun r1 =>
  linealref05_relation_k1 r1

/- lineal/linealref05.Composed -/
noncomputable def linealref05_Composed_k1 (b2_2 : (List Int)) : Option ((List (Int × Int)) × Int) :=
  (linealref05_relation b2_2).bind fun v0_3 =>
  some (v0_3, 0)
noncomputable def linealref05_Composed_k2 (st1 : (List Int) × Int) (b2 : (List Int)) : Option (Step ((List Int) × Int) ((List Int))) :=
  ck (InK .i64 (st1.2 + 1)) <| some (.next (b2, (st1.2 + 1)))
noncomputable def linealref05_Composed_b2 (r0 : List (Int × Int)) (s : List (Int × Int)) (st1 : (List Int) × Int) (st2 : (List Int) × Int) : Option (Step ((List Int) × Int) ((List Int))) :=
  if (decide (st2.2 < (s.length : Int))) = true then
  ck (0 ≤ st2.2) <| ck (st2.2 < (s.length : Int)) <| if (decide ((r0.getD st1.2.toNat (0, 0)).2 = (s.getD st2.2.toNat (0, 0)).1)) = true then
  ck (0 ≤ (r0.getD st1.2.toNat (0, 0)).1) <| ck ((r0.getD st1.2.toNat (0, 0)).1 < (st2.1.length : Int)) <| ck (0 ≤ (s.getD st2.2.toNat (0, 0)).2) <| ck (0 ≤ (r0.getD st1.2.toNat (0, 0)).1) <| ck ((r0.getD st1.2.toNat (0, 0)).1 < (st2.1.length : Int)) <| ck (InK .i64 (st2.2 + 1)) <| some (.next ((st2.1.set (r0.getD st1.2.toNat (0, 0)).1.toNat (ior .i64 (st2.1.getD (r0.getD st1.2.toNat (0, 0)).1.toNat 0) (ishl .i64 1 (s.getD st2.2.toNat (0, 0)).2))), (st2.2 + 1)))
  else
  ck (InK .i64 (st2.2 + 1)) <| some (.next (st2.1, (st2.2 + 1)))
  else
  some (.done st2.1)
noncomputable def linealref05_Composed_b1 (r0 : List (Int × Int)) (s : List (Int × Int)) (st1 : (List Int) × Int) : Option (Step ((List Int) × Int) ((List Int))) :=
  if (decide (st1.2 < (r0.length : Int))) = true then
  ck (0 ≤ st1.2) <| ck (st1.2 < (r0.length : Int)) <| (whileO (linealref05_Composed_b2 r0 s st1) (st1.1, 0)).bind fun r2 =>
  linealref05_Composed_k2 st1 r2
  else
  some (.done st1.1)
noncomputable def linealref05_Composed (r0 : List (Int × Int)) (s : List (Int × Int)) : Option ((List (Int × Int)) × Int) :=
  (linealref05_isRelation r0 6 6).bind fun v0 =>
  if (!v0) = true then
  some ([], 2)
  else
  (linealref05_isRelation s 6 6).bind fun v0_2 =>
  if (!v0_2) = true then
  some ([], 2)
  else
  (whileO (linealref05_Composed_b1 r0 s) ((List.replicate 6 (0 : Int)), 0)).bind fun r1 =>
  linealref05_Composed_k1 r1

/- lineal/linealref05.SamePairs -/
noncomputable def linealref05_SamePairs_k1 : Option Bool :=
  some true
noncomputable def linealref05_SamePairs_b1 (a : List (Int × Int)) (b : List (Int × Int)) (st1 : Int) : Option (Step Int (Sum Unit Unit)) :=
  if (decide (st1 < (a.length : Int))) = true then
  ck (0 ≤ st1) <| ck (st1 < (a.length : Int)) <| ck (0 ≤ st1) <| ck (st1 < (b.length : Int)) <| ck (InK .i64 (a.getD st1.toNat (0, 0)).1) <| ck (InK .i64 (a.getD st1.toNat (0, 0)).2) <| ck (InK .i64 (b.getD st1.toNat (0, 0)).1) <| ck (InK .i64 (b.getD st1.toNat (0, 0)).2) <| if (!(decide ((a.getD st1.toNat (0, 0)) = (b.getD st1.toNat (0, 0))))) = true then
  some (.done (Sum.inl ()))
  else
  ck (InK .i64 (st1 + 1)) <| some (.next (st1 + 1))
  else
  some (.done (Sum.inr ()))
noncomputable def linealref05_SamePairs (a : List (Int × Int)) (b : List (Int × Int)) : Option Bool :=
  if (!(decide ((a.length : Int) = (b.length : Int)))) = true then
  some false
  else
  (whileO (linealref05_SamePairs_b1 a b) 0).bind fun x => match x with
  | .inl _ => (some false)
  | .inr _ => (linealref05_SamePairs_k1)

/- lineal/lineallaw05.RefineComposed -/
noncomputable def lineallaw05_RefineComposed (r0 : List (Int × Int)) (s : List (Int × Int)) : Option Bool :=
  if (decide (100 < (r0.length : Int))) = true then
  (lineallaw05_Awake).bind fun v0 =>
  some v0
  else
  if (decide (100 < (s.length : Int))) = true then
  (lineallaw05_Awake).bind fun v0_2 =>
  some v0_2
  else
  (refine_Composed r0 s).bind fun v0_3 =>
  (linealref05_Composed r0 s).bind fun v0_4 =>
  (linealref05_SamePairs v0_3.1 v0_4.1).bind fun v0_5 =>
  if v0_5 = true then
  if (decide (v0_3.2 = v0_4.2)) = true then
  (lineallaw05_Awake).bind fun v0_6 =>
  some v0_6
  else
  some false
  else
  some false

/- lineal/refine.Best -/
noncomputable def refine_Best (c : Int × (List (Int × Int × Int))) (a : Int × (List (Int × Int × Int))) : Option ((List (Int × Int)) × Int) :=
  (refine_twoOf c a).bind fun v0 =>
  if (!(decide (v0.2.2.2.2.2.2 = 0))) = true then
  some ([], v0.2.2.2.2.2.2)
  else
  (refine_two_best (((v0.1, v0.2.1), v0.2.2.1), (v0.2.2.2.1, v0.2.2.2.2.1), v0.2.2.2.2.2.1)).bind fun v0_2 =>
  (refine_relation_list v0_2).bind fun v0_3 =>
  some (v0_3, 0)

/- lineal/refine.IsProof -/
noncomputable def refine_IsProof (c : Int × (List (Int × Int × Int))) (a : Int × (List (Int × Int × Int))) (relation : List (Int × Int)) : Option (Bool × Int) :=
  (refine_twoOf c a).bind fun v0 =>
  if (!(decide (v0.2.2.2.2.2.2 = 0))) = true then
  some (false, v0.2.2.2.2.2.2)
  else
  (refine_isRelation relation c.1 a.1).bind fun v0_2 =>
  if (!v0_2) = true then
  some (false, 2)
  else
  (refine_relationOf relation).bind fun v0_3 =>
  (refine_two_held (((v0.1, v0.2.1), v0.2.2.1), (v0.2.2.2.1, v0.2.2.2.2.1), v0.2.2.2.2.2.1) v0_3).bind fun v0_4 =>
  ck (okD T94 v0_4) <| ck (okD T94 v0_3) <| some ((decide (v0_4 = v0_3)), 0)

/- math/bits.TrailingZeros8 -/
noncomputable def math_bits_TrailingZeros8 (x0 : Int) : Option Unit :=
  ck (0 ≤ x0) <| ck (x0 < 256) <| ck (InK .i64 (strAt strL0 x0.toNat)) <| some ()

/- (lineal/refine.set).least -/
noncomputable def refine_set_least (s : Int) : Option Unit :=
  (math_bits_TrailingZeros8 s).bind fun v0 =>
  some ()

/- (lineal/refine.two).proof$1 -/
noncomputable def refine_two_proof_1_b1 (slf : Int → Int → ((El T94)) → (((Int × (List (Int × Int × Int))) × (El T69)) × (Int × (List (Int × Int × Int))) × (El T69)) → ((El T94)) → Option ((El T94))) (x0 : Int) (y : Int) (a3 : ((Int × (List (Int × Int × Int))) × (El T69)) × (Int × (List (Int × Int × Int))) × (El T69)) (a4 : (El T94)) (st1 : (El T94) × Int) : Option (Step ((El T94) × Int) ((El T94))) :=
  if (decide (st1.2 < (a3.1.1.2.length : Int))) = true then
  ck (0 ≤ st1.2) <| ck (st1.2 < (a3.1.1.2.length : Int)) <| if (decide ((a3.1.1.2.getD st1.2.toNat (0, 0, 0)).1 = x0)) = true then
  ck (0 ≤ y) <| ck (y < 6) <| ck (0 ≤ (a3.1.1.2.getD st1.2.toNat (0, 0, 0)).2.1) <| ck ((a3.1.1.2.getD st1.2.toNat (0, 0, 0)).2.1 < 4) <| ck (0 ≤ (a3.1.1.2.getD st1.2.toNat (0, 0, 0)).2.2) <| ck ((a3.1.1.2.getD st1.2.toNat (0, 0, 0)).2.2 < 6) <| (refine_set_least (iand .u8 (intAt T69 a3.2.2 ((y.toNat * 4) + (a3.1.1.2.getD st1.2.toNat (0, 0, 0)).2.1.toNat * 1)) (intAt T94 a4 (0 + (a3.1.1.2.getD st1.2.toNat (0, 0, 0)).2.2.toNat * 1)))).bind fun v0_2 =>
  (slf (a3.1.1.2.getD st1.2.toNat (0, 0, 0)).2.2 (strAt strL0 (iand .u8 (intAt T69 a3.2.2 ((y.toNat * 4) + (a3.1.1.2.getD st1.2.toNat (0, 0, 0)).2.1.toNat * 1)) (intAt T94 a4 (0 + (a3.1.1.2.getD st1.2.toNat (0, 0, 0)).2.2.toNat * 1))).toNat) st1.1 a3 a4).bind fun v0_3 =>
  ck (InK .i64 (st1.2 + 1)) <| some (.next (v0_3, (st1.2 + 1)))
  else
  ck (InK .i64 (st1.2 + 1)) <| some (.next (st1.1, (st1.2 + 1)))
  else
  some (.done st1.1)
noncomputable def refine_two_proof_1F (slf : Int → Int → ((El T94)) → (((Int × (List (Int × Int × Int))) × (El T69)) × (Int × (List (Int × Int × Int))) × (El T69)) → ((El T94)) → Option ((El T94))) (x0 : Int) (y : Int) (a2 : (El T94)) (a3 : ((Int × (List (Int × Int × Int))) × (El T69)) × (Int × (List (Int × Int × Int))) × (El T69)) (a4 : (El T94)) : Option ((El T94)) :=
  ck (0 ≤ x0) <| ck (x0 < 6) <| (refine_set_has (intAt T94 a2 (0 + x0.toNat * 1)) y).bind fun v0 =>
  if (decide ((iand .u8 (ishr .u8 (intAt T94 a2 (0 + x0.toNat * 1)) y) 1) = 1)) = true then
  some a2
  else
  ck (0 ≤ x0) <| ck (x0 < 6) <| ck (0 ≤ y) <| ck (0 ≤ x0) <| ck (x0 < 6) <| (whileO (refine_two_proof_1_b1 slf x0 y a3 a4) ((setInt T94 a2 (0 + x0.toNat * 1) (ior .u8 (intAt T94 a2 (0 + x0.toNat * 1)) (ishl .u8 1 y))), 0)).bind fun r1 =>
  some r1
noncomputable def refine_two_proof_1 (n : Nat) : Int → Int → ((El T94)) → (((Int × (List (Int × Int × Int))) × (El T69)) × (Int × (List (Int × Int × Int))) × (El T69)) → ((El T94)) → Option ((El T94)) := Nat.rec (motive := fun _ => Int → Int → ((El T94)) → (((Int × (List (Int × Int × Int))) × (El T69)) × (Int × (List (Int × Int × Int))) × (El T69)) → ((El T94)) → Option ((El T94))) (fun _ _ _ _ _ => none) (fun _ slf => refine_two_proof_1F slf) n

/- (lineal/refine.two).proof -/
noncomputable def refine_two_proof (t : ((Int × (List (Int × Int × Int))) × (El T69)) × (Int × (List (Int × Int × Int))) × (El T69)) : Option ((El T94) × Bool) :=
  (refine_two_best t).bind fun v0 =>
  (refine_set_has (intAt T94 v0 0) 0).bind fun v0_2 =>
  if (!(decide ((iand .u8 (ishr .u8 (intAt T94 v0 0) 0) 1) = 1))) = true then
  some ((Ty.dflt T94), false)
  else
  (refine_two_proof_1 fuel 0 0 (Ty.dflt T94) t v0).bind fun v0_3 =>
  some (v0_3, true)

/- lineal/refine.Proof -/
noncomputable def refine_Proof (c : Int × (List (Int × Int × Int))) (a : Int × (List (Int × Int × Int))) : Option ((List (Int × Int)) × Int) :=
  (refine_twoOf c a).bind fun v0 =>
  if (!(decide (v0.2.2.2.2.2.2 = 0))) = true then
  some ([], v0.2.2.2.2.2.2)
  else
  (refine_two_proof (((v0.1, v0.2.1), v0.2.2.1), (v0.2.2.2.1, v0.2.2.2.2.1), v0.2.2.2.2.2.1)).bind fun v0_2 =>
  if (!v0_2.2) = true then
  some ([], 5)
  else
  (refine_relation_list v0_2.1).bind fun v0_3 =>
  some (v0_3, 0)

/- lineal/linealref05.holds -/
noncomputable def linealref05_holds_k1 : Option Bool :=
  some true
noncomputable def linealref05_holds_b1 (c : Int × (List (Int × Int × Int))) (a : Int × (List (Int × Int × Int))) (pairs : List Int) (x0 : Int) (y : Int) (st1 : Int) : Option (Step Int (Sum Unit Unit)) :=
  if (decide (st1 < (c.2.length : Int))) = true then
  ck (0 ≤ st1) <| ck (st1 < (c.2.length : Int)) <| if (decide ((c.2.getD st1.toNat (0, 0, 0)).1 = x0)) = true then
  ck (0 ≤ y) <| (linealref05_comes a (ishl .i64 1 y) (c.2.getD st1.toNat (0, 0, 0)).2.1).bind fun v0 =>
  ck (0 ≤ (c.2.getD st1.toNat (0, 0, 0)).2.2) <| ck ((c.2.getD st1.toNat (0, 0, 0)).2.2 < (pairs.length : Int)) <| if (decide ((iand .i64 v0 (pairs.getD (c.2.getD st1.toNat (0, 0, 0)).2.2.toNat 0)) = 0)) = true then
  some (.done (Sum.inl ()))
  else
  ck (InK .i64 (st1 + 1)) <| some (.next (st1 + 1))
  else
  ck (InK .i64 (st1 + 1)) <| some (.next (st1 + 1))
  else
  some (.done (Sum.inr ()))
noncomputable def linealref05_holds (c : Int × (List (Int × Int × Int))) (a : Int × (List (Int × Int × Int))) (pairs : List Int) (x0 : Int) (y : Int) : Option Bool :=
  (whileO (linealref05_holds_b1 c a pairs x0 y) 0).bind fun x => match x with
  | .inl _ => (some false)
  | .inr _ => (linealref05_holds_k1)

/- lineal/linealref05.best -/
noncomputable def linealref05_best_k2 (b4_3 : (List Int)) : Option ((List Int)) :=
  some b4_3
noncomputable def linealref05_best_k3 (st2 : (List Int) × Int) (b4_2 : (List Int)) : Option (Step ((List Int) × Int) ((List Int))) :=
  ck (InK .i64 (st2.2 + 1)) <| some (.next (b4_2, (st2.2 + 1)))
noncomputable def linealref05_best_k4 (st3 : (List Int) × Int) (b4 : (List Int)) : Option (Step ((List Int) × Int) ((List Int))) :=
  ck (InK .i64 (st3.2 + 1)) <| some (.next (b4, (st3.2 + 1)))
noncomputable def linealref05_best_b4 (c : Int × (List (Int × Int × Int))) (a : Int × (List (Int × Int × Int))) (st3 : (List Int) × Int) (v0 : (List Int)) (st4 : (List Int) × Int) : Option (Step ((List Int) × Int) ((List Int))) :=
  if (decide (st4.2 < (v0.length : Int))) = true then
  ck (0 ≤ st4.2) <| ck (st4.2 < (v0.length : Int)) <| (linealref05_holds c a st4.1 st3.2 (v0.getD st4.2.toNat 0)).bind fun v0_2 =>
  if (!v0_2) = true then
  ck (0 ≤ st3.2) <| ck (st3.2 < (st4.1.length : Int)) <| ck (0 ≤ (v0.getD st4.2.toNat 0)) <| ck (0 ≤ st3.2) <| ck (st3.2 < (st4.1.length : Int)) <| ck (InK .i64 (st4.2 + 1)) <| some (.next ((st4.1.set st3.2.toNat (iandn .i64 (st4.1.getD st3.2.toNat 0) (ishl .i64 1 (v0.getD st4.2.toNat 0)))), (st4.2 + 1)))
  else
  ck (InK .i64 (st4.2 + 1)) <| some (.next (st4.1, (st4.2 + 1)))
  else
  some (.done st4.1)
noncomputable def linealref05_best_b3 (c : Int × (List (Int × Int × Int))) (a : Int × (List (Int × Int × Int))) (st2 : (List Int) × Int) (st3 : (List Int) × Int) : Option (Step ((List Int) × Int) ((List Int))) :=
  if (decide (st3.2 < (st2.1.length : Int))) = true then
  ck (0 ≤ st3.2) <| ck (st3.2 < (st3.1.length : Int)) <| (linealref05_list (st3.1.getD st3.2.toNat 0)).bind fun v0 =>
  (whileO (linealref05_best_b4 c a st3 v0) (st3.1, 0)).bind fun r4 =>
  linealref05_best_k4 st3 r4
  else
  some (.done st3.1)
noncomputable def linealref05_best_b2 (c : Int × (List (Int × Int × Int))) (a : Int × (List (Int × Int × Int))) (st2 : (List Int) × Int) : Option (Step ((List Int) × Int) ((List Int))) :=
  if (decide (st2.2 < (c.1 * a.1))) = true then
  (whileO (linealref05_best_b3 c a st2) (st2.1, 0)).bind fun r3 =>
  linealref05_best_k3 st2 r3
  else
  some (.done st2.1)
noncomputable def linealref05_best_k1 (c : Int × (List (Int × Int × Int))) (a : Int × (List (Int × Int × Int))) (b1 : (List Int)) : Option ((List Int)) :=
  ck (InK .i64 (c.1 * a.1)) <| (whileO (linealref05_best_b2 c a) (b1, 0)).bind fun r2 =>
  linealref05_best_k2 r2
noncomputable def linealref05_best_b1 (c : Int × (List (Int × Int × Int))) (a : Int × (List (Int × Int × Int))) (st1 : (List Int) × Int) : Option (Step ((List Int) × Int) ((List Int))) :=
  if (decide (st1.2 < ((List.replicate c.1.toNat (0 : Int)).length : Int))) = true then
  ck (0 ≤ a.1) <| ck (InK .i64 ((ishl .i64 1 a.1) - 1)) <| ck (0 ≤ st1.2) <| ck (st1.2 < (st1.1.length : Int)) <| ck (InK .i64 (st1.2 + 1)) <| some (.next ((st1.1.set st1.2.toNat ((ishl .i64 1 a.1) - 1)), (st1.2 + 1)))
  else
  some (.done st1.1)
noncomputable def linealref05_best (c : Int × (List (Int × Int × Int))) (a : Int × (List (Int × Int × Int))) : Option ((List Int)) :=
  ck (0 ≤ c.1) <| ck (8 * c.1 ≤ 281474976710656) <| (whileO (linealref05_best_b1 c a) ((List.replicate c.1.toNat (0 : Int)), 0)).bind fun r1 =>
  linealref05_best_k1 c a r1

/- lineal/linealref05.Best -/
noncomputable def linealref05_Best (c : Int × (List (Int × Int × Int))) (a : Int × (List (Int × Int × Int))) : Option ((List (Int × Int)) × Int) :=
  (linealref05_Valid c).bind fun v0 =>
  if (!v0) = true then
  some ([], 50)
  else
  (linealref05_Valid a).bind fun v0_2 =>
  if (!v0_2) = true then
  some ([], 50)
  else
  (linealref05_best c a).bind fun v0_3 =>
  (linealref05_relation v0_3).bind fun v0_4 =>
  some (v0_4, 0)

/- lineal/linealref05.Proof -/
noncomputable def linealref05_Proof_k1 (b4_4 : (List Int)) : Option ((List (Int × Int)) × Int) :=
  (linealref05_relation b4_4).bind fun v0_7 =>
  some (v0_7, 0)
noncomputable def linealref05_Proof_k2 (st1 : (List Int) × Int) (b4_3 : (List Int)) : Option (Step ((List Int) × Int) ((List Int))) :=
  ck (InK .i64 (st1.2 + 1)) <| some (.next (b4_3, (st1.2 + 1)))
noncomputable def linealref05_Proof_k3 (st2 : (List Int) × Int) (b4_2 : (List Int)) : Option (Step ((List Int) × Int) ((List Int))) :=
  ck (InK .i64 (st2.2 + 1)) <| some (.next (b4_2, (st2.2 + 1)))
noncomputable def linealref05_Proof_k4 (st3 : (List Int) × Int) (b4 : (List Int)) : Option (Step ((List Int) × Int) ((List Int))) :=
  ck (InK .i64 (st3.2 + 1)) <| some (.next (b4, (st3.2 + 1)))
noncomputable def linealref05_Proof_b4 (c : Int × (List (Int × Int × Int))) (a : Int × (List (Int × Int × Int))) (v0_3 : (List Int)) (st2 : (List Int) × Int) (v0_4 : (List Int)) (st3 : (List Int) × Int) (st4 : (List Int) × Int) : Option (Step ((List Int) × Int) ((List Int))) :=
  if (decide (st4.2 < (c.2.length : Int))) = true then
  ck (0 ≤ st4.2) <| ck (st4.2 < (c.2.length : Int)) <| if (decide ((c.2.getD st4.2.toNat (0, 0, 0)).1 = st2.2)) = true then
  ck (0 ≤ (c.2.getD st4.2.toNat (0, 0, 0)).2.2) <| ck ((c.2.getD st4.2.toNat (0, 0, 0)).2.2 < (st4.1.length : Int)) <| ck (0 ≤ (v0_4.getD st3.2.toNat 0)) <| (linealref05_comes a (ishl .i64 1 (v0_4.getD st3.2.toNat 0)) (c.2.getD st4.2.toNat (0, 0, 0)).2.1).bind fun v0_5 =>
  ck (0 ≤ (c.2.getD st4.2.toNat (0, 0, 0)).2.2) <| ck ((c.2.getD st4.2.toNat (0, 0, 0)).2.2 < (v0_3.length : Int)) <| (linealref05_list (iand .i64 v0_5 (v0_3.getD (c.2.getD st4.2.toNat (0, 0, 0)).2.2.toNat 0))).bind fun v0_6 =>
  ck (0 < (v0_6.length : Int)) <| ck (0 ≤ (v0_6.getD 0 0)) <| ck (0 ≤ (c.2.getD st4.2.toNat (0, 0, 0)).2.2) <| ck ((c.2.getD st4.2.toNat (0, 0, 0)).2.2 < (st4.1.length : Int)) <| ck (InK .i64 (st4.2 + 1)) <| some (.next ((st4.1.set (c.2.getD st4.2.toNat (0, 0, 0)).2.2.toNat (ior .i64 (st4.1.getD (c.2.getD st4.2.toNat (0, 0, 0)).2.2.toNat 0) (ishl .i64 1 (v0_6.getD 0 0)))), (st4.2 + 1)))
  else
  ck (InK .i64 (st4.2 + 1)) <| some (.next (st4.1, (st4.2 + 1)))
  else
  some (.done st4.1)
noncomputable def linealref05_Proof_b3 (c : Int × (List (Int × Int × Int))) (a : Int × (List (Int × Int × Int))) (v0_3 : (List Int)) (st2 : (List Int) × Int) (v0_4 : (List Int)) (st3 : (List Int) × Int) : Option (Step ((List Int) × Int) ((List Int))) :=
  if (decide (st3.2 < (v0_4.length : Int))) = true then
  ck (0 ≤ st3.2) <| ck (st3.2 < (v0_4.length : Int)) <| (whileO (linealref05_Proof_b4 c a v0_3 st2 v0_4 st3) (st3.1, 0)).bind fun r4 =>
  linealref05_Proof_k4 st3 r4
  else
  some (.done st3.1)
noncomputable def linealref05_Proof_b2 (c : Int × (List (Int × Int × Int))) (a : Int × (List (Int × Int × Int))) (v0_3 : (List Int)) (st1 : (List Int) × Int) (st2 : (List Int) × Int) : Option (Step ((List Int) × Int) ((List Int))) :=
  if (decide (st2.2 < (st1.1.length : Int))) = true then
  ck (0 ≤ st2.2) <| ck (st2.2 < (st2.1.length : Int)) <| (linealref05_list (st2.1.getD st2.2.toNat 0)).bind fun v0_4 =>
  (whileO (linealref05_Proof_b3 c a v0_3 st2 v0_4) (st2.1, 0)).bind fun r3 =>
  linealref05_Proof_k3 st2 r3
  else
  some (.done st2.1)
noncomputable def linealref05_Proof_b1 (c : Int × (List (Int × Int × Int))) (a : Int × (List (Int × Int × Int))) (v0_3 : (List Int)) (st1 : (List Int) × Int) : Option (Step ((List Int) × Int) ((List Int))) :=
  if (decide (st1.2 < (c.1 * a.1))) = true then
  (whileO (linealref05_Proof_b2 c a v0_3 st1) (st1.1, 0)).bind fun r2 =>
  linealref05_Proof_k2 st1 r2
  else
  some (.done st1.1)
noncomputable def linealref05_Proof (c : Int × (List (Int × Int × Int))) (a : Int × (List (Int × Int × Int))) : Option ((List (Int × Int)) × Int) :=
  (linealref05_Valid c).bind fun v0 =>
  if (!v0) = true then
  some ([], 50)
  else
  (linealref05_Valid a).bind fun v0_2 =>
  if (!v0_2) = true then
  some ([], 50)
  else
  (linealref05_best c a).bind fun v0_3 =>
  ck (0 < (v0_3.length : Int)) <| if (decide ((iand .i64 (v0_3.getD 0 0) 1) = 0)) = true then
  some ([], 5)
  else
  ck (0 ≤ c.1) <| ck (8 * c.1 ≤ 281474976710656) <| ck (0 < ((List.replicate c.1.toNat (0 : Int)).length : Int)) <| ck (InK .i64 (c.1 * a.1)) <| (whileO (linealref05_Proof_b1 c a v0_3) (((List.replicate c.1.toNat (0 : Int)).set 0 1), 0)).bind fun r1 =>
  linealref05_Proof_k1 r1

/- lineal/linealref05.IsProof -/
noncomputable def linealref05_IsProof_k2 : Option (Bool × Int) :=
  some (true, 0)
noncomputable def linealref05_IsProof_b2 (c : Int × (List (Int × Int × Int))) (a : Int × (List (Int × Int × Int))) (r0 : List (Int × Int)) (b1 : (List Int)) (st2 : Int) : Option (Step Int (Sum Unit Unit)) :=
  if (decide (st2 < (r0.length : Int))) = true then
  ck (0 ≤ st2) <| ck (st2 < (r0.length : Int)) <| (linealref05_holds c a b1 (r0.getD st2.toNat (0, 0)).1 (r0.getD st2.toNat (0, 0)).2).bind fun v0_4 =>
  if (!v0_4) = true then
  some (.done (Sum.inl ()))
  else
  ck (InK .i64 (st2 + 1)) <| some (.next (st2 + 1))
  else
  some (.done (Sum.inr ()))
noncomputable def linealref05_IsProof_k1 (c : Int × (List (Int × Int × Int))) (a : Int × (List (Int × Int × Int))) (r0 : List (Int × Int)) (b1 : (List Int)) : Option (Bool × Int) :=
  (whileO (linealref05_IsProof_b2 c a r0 b1) 0).bind fun x => match x with
  | .inl _ => (some (false, 0))
  | .inr _ => (linealref05_IsProof_k2)
noncomputable def linealref05_IsProof_b1 (r0 : List (Int × Int)) (st1 : (List Int) × Int) : Option (Step ((List Int) × Int) ((List Int))) :=
  if (decide (st1.2 < (r0.length : Int))) = true then
  ck (0 ≤ st1.2) <| ck (st1.2 < (r0.length : Int)) <| ck (0 ≤ (r0.getD st1.2.toNat (0, 0)).1) <| ck ((r0.getD st1.2.toNat (0, 0)).1 < (st1.1.length : Int)) <| ck (0 ≤ (r0.getD st1.2.toNat (0, 0)).2) <| ck (0 ≤ (r0.getD st1.2.toNat (0, 0)).1) <| ck ((r0.getD st1.2.toNat (0, 0)).1 < (st1.1.length : Int)) <| ck (InK .i64 (st1.2 + 1)) <| some (.next ((st1.1.set (r0.getD st1.2.toNat (0, 0)).1.toNat (ior .i64 (st1.1.getD (r0.getD st1.2.toNat (0, 0)).1.toNat 0) (ishl .i64 1 (r0.getD st1.2.toNat (0, 0)).2))), (st1.2 + 1)))
  else
  some (.done st1.1)
noncomputable def linealref05_IsProof (c : Int × (List (Int × Int × Int))) (a : Int × (List (Int × Int × Int))) (r0 : List (Int × Int)) : Option (Bool × Int) :=
  (linealref05_Valid c).bind fun v0 =>
  if (!v0) = true then
  some (false, 50)
  else
  (linealref05_Valid a).bind fun v0_2 =>
  if (!v0_2) = true then
  some (false, 50)
  else
  (linealref05_isRelation r0 c.1 a.1).bind fun v0_3 =>
  if (!v0_3) = true then
  some (false, 2)
  else
  ck (0 ≤ c.1) <| ck (8 * c.1 ≤ 281474976710656) <| (whileO (linealref05_IsProof_b1 r0) ((List.replicate c.1.toNat (0 : Int)), 0)).bind fun r1 =>
  linealref05_IsProof_k1 c a r0 r1

/- lineal/linealref05.Refines -/
noncomputable def linealref05_Refines (c : Int × (List (Int × Int × Int))) (a : Int × (List (Int × Int × Int))) : Option (Bool × Int) :=
  (linealref05_Valid c).bind fun v0 =>
  if (!v0) = true then
  some (false, 50)
  else
  (linealref05_Valid a).bind fun v0_2 =>
  if (!v0_2) = true then
  some (false, 50)
  else
  (linealref05_best c a).bind fun v0_3 =>
  ck (0 < (v0_3.length : Int)) <| some ((decide ((iand .i64 (v0_3.getD 0 0) 1) = 1)), 0)

/- lineal/lineallaw05.RefineProofs -/
noncomputable def lineallaw05_RefineProofs (c : Int × (List (Int × Int × Int))) (a : Int × (List (Int × Int × Int))) (r0 : List (Int × Int)) : Option Bool :=
  (lineallaw05_Long c).bind fun v0 =>
  if (decide (100 < (c.2.length : Int))) = true then
  (lineallaw05_Awake).bind fun v0_2 =>
  some v0_2
  else
  (lineallaw05_Long a).bind fun v0_3 =>
  if (decide (100 < (a.2.length : Int))) = true then
  (lineallaw05_Awake).bind fun v0_4 =>
  some v0_4
  else
  if (decide (100 < (r0.length : Int))) = true then
  (lineallaw05_Awake).bind fun v0_5 =>
  some v0_5
  else
  (refine_Best c a).bind fun v0_6 =>
  (linealref05_Best c a).bind fun v0_7 =>
  (linealref05_SamePairs v0_6.1 v0_7.1).bind fun v0_8 =>
  if (!v0_8) = true then
  some false
  else
  if (!(decide (v0_6.2 = v0_7.2))) = true then
  some false
  else
  (refine_Proof c a).bind fun v0_9 =>
  (linealref05_Proof c a).bind fun v0_10 =>
  (linealref05_SamePairs v0_9.1 v0_10.1).bind fun v0_11 =>
  if (!v0_11) = true then
  some false
  else
  if (!(decide (v0_9.2 = v0_10.2))) = true then
  some false
  else
  (refine_IsProof c a r0).bind fun v0_12 =>
  (linealref05_IsProof c a r0).bind fun v0_13 =>
  (refine_Refines c a).bind fun v0_14 =>
  (linealref05_Refines c a).bind fun v0_15 =>
  if ((v0_12.1 == v0_13.1) != false) = true then
  if (decide (v0_12.2 = v0_13.2)) = true then
  if ((v0_14.1 == v0_15.1) != false) = true then
  if (decide (v0_14.2 = v0_15.2)) = true then
  (lineallaw05_Awake).bind fun v0_16 =>
  some v0_16
  else
  some false
  else
  some false
  else
  some false
  else
  some false

/- lineal/linealtop.TopRefine -/
noncomputable def linealtop_TopRefine_k6 (a : Int × (List (Int × Int × Int))) (b : Int × (List (Int × Int × Int))) (step : Int) (b6 : Bool) : Option Bool :=
  if (decide ((a.2.length : Int) = 0)) = true then
  (lineallaw05_Awake).bind fun v0_21 =>
  some v0_21
  else
  ck (InK .i64 step) <| ck (0 ≤ step) <| ck (0 < (a.2.length : Int)) <| (refine_Without a (step % (a.2.length : Int))).bind fun v0_22 =>
  (refine_Refines (v0_22.1, v0_22.2.1) b).bind fun v0_23 =>
  if (decide (v0_22.2.2 = 0)) = true then
  if (decide (v0_23.2 = 0)) = true then
  if (!b6) = true then
  (lineallaw05_Awake).bind fun v0_24 =>
  some v0_24
  else
  if v0_23.1 = true then
  (lineallaw05_Awake).bind fun v0_25 =>
  some v0_25
  else
  some false
  else
  some false
  else
  some false
noncomputable def linealtop_TopRefine_k5 (a : Int × (List (Int × Int × Int))) (b : Int × (List (Int × Int × Int))) (step : Int) (b5 : Bool) : Option Bool :=
  (refine_Seen b).bind fun v0_18 =>
  if (decide (v0_18.2.2 = 0)) = true then
  (refine_Refines a (v0_18.1, v0_18.2.1)).bind fun v0_19 =>
  (refine_Shows a b).bind fun v0_20 =>
  if (!(decide (v0_19.2 = 0))) = true then
  some false
  else
  if ((v0_19.1 == (decide (v0_20.2 = 5))) != true) = true then
  some false
  else
  if b5 = true then
  if (!v0_19.1) = true then
  some false
  else
  linealtop_TopRefine_k6 a b step true
  else
  linealtop_TopRefine_k6 a b step false
  else
  if (!(decide (v0_18.2.2 = 4))) = true then
  some false
  else
  linealtop_TopRefine_k6 a b step b5
noncomputable def linealtop_TopRefine_k4 (a : Int × (List (Int × Int × Int))) (b : Int × (List (Int × Int × Int))) (label : Int) (step : Int) (b4 : Bool) : Option Bool :=
  (refine_Hidden a (1 + (label % 3))).bind fun v0_15 =>
  (refine_Hidden b (1 + (label % 3))).bind fun v0_16 =>
  (refine_Refines (v0_15.1, v0_15.2.1) (v0_16.1, v0_16.2.1)).bind fun v0_17 =>
  if (!(decide (v0_15.2.2 = 0))) = true then
  some false
  else
  if (!(decide (v0_16.2.2 = 0))) = true then
  some false
  else
  if (!(decide (v0_17.2 = 0))) = true then
  some false
  else
  if b4 = true then
  if (!v0_17.1) = true then
  some false
  else
  linealtop_TopRefine_k5 a b step true
  else
  linealtop_TopRefine_k5 a b step false
noncomputable def linealtop_TopRefine_k3 (a : Int × (List (Int × Int × Int))) (b : Int × (List (Int × Int × Int))) (c : Int × (List (Int × Int × Int))) (label : Int) (step : Int) (b3 : Bool × Bool) : Option Bool :=
  if b3.1 = true then
  if b3.2 = true then
  (refine_Proof a b).bind fun v0_10 =>
  (refine_Proof b c).bind fun v0_11 =>
  (refine_Best b c).bind fun v0_12 =>
  (refine_Composed v0_10.1 v0_12.1).bind fun v0_13 =>
  (linealref05_IsProof a c v0_13.1).bind fun v0_14 =>
  if (!(decide (v0_10.2 = 0))) = true then
  some false
  else
  if (!(decide (v0_11.2 = 0))) = true then
  some false
  else
  if (!(decide (v0_12.2 = 0))) = true then
  some false
  else
  if (!(decide (v0_13.2 = 0))) = true then
  some false
  else
  if (!(decide (v0_14.2 = 0))) = true then
  some false
  else
  if (!v0_14.1) = true then
  some false
  else
  if (decide ((v0_11.1.length : Int) = 0)) = true then
  some false
  else
  if (decide ((v0_12.1.length : Int) < (v0_11.1.length : Int))) = true then
  some false
  else
  ck (InK .i64 label) <| ck (0 ≤ label) <| ck (InK .i64 (1 + (label % 3))) <| linealtop_TopRefine_k4 a b label step true
  else
  ck (InK .i64 label) <| ck (0 ≤ label) <| ck (InK .i64 (1 + (label % 3))) <| linealtop_TopRefine_k4 a b label step true
  else
  ck (InK .i64 label) <| ck (0 ≤ label) <| ck (InK .i64 (1 + (label % 3))) <| linealtop_TopRefine_k4 a b label step false
noncomputable def linealtop_TopRefine_k1 (a : Int × (List (Int × Int × Int))) (b : Int × (List (Int × Int × Int))) (c : Int × (List (Int × Int × Int))) (label : Int) (step : Int) : Option Bool :=
  (refine_Refines a b).bind fun v0_5 =>
  (refine_Refines b c).bind fun v0_6 =>
  (refine_Refines a c).bind fun v0_7 =>
  (refine_Shows a b).bind fun v0_8 =>
  (refine_Shows a c).bind fun v0_9 =>
  if (!(decide (v0_5.2 = 0))) = true then
  some false
  else
  if (!(decide (v0_6.2 = 0))) = true then
  some false
  else
  if (!(decide (v0_7.2 = 0))) = true then
  some false
  else
  if v0_5.1 = true then
  if (!(decide (v0_8.2 = 5))) = true then
  some false
  else
  if v0_7.1 = true then
  if (!(decide (v0_9.2 = 5))) = true then
  some false
  else
  if v0_6.1 = true then
  linealtop_TopRefine_k3 a b c label step (true, true)
  else
  linealtop_TopRefine_k3 a b c label step (true, false)
  else
  if v0_6.1 = true then
  some false
  else
  linealtop_TopRefine_k3 a b c label step (true, false)
  else
  if v0_7.1 = true then
  if (!(decide (v0_9.2 = 5))) = true then
  some false
  else
  linealtop_TopRefine_k3 a b c label step (false, v0_6.1)
  else
  linealtop_TopRefine_k3 a b c label step (false, v0_6.1)
noncomputable def linealtop_TopRefine_k2 (b2 : Int × (List (Int × Int × Int)) × Int) : Option (Step Int (Sum Bool Unit)) :=
  (lineallaw05_Long (b2.1, b2.2.1)).bind fun v0 =>
  if (decide (100 < (b2.2.1.length : Int))) = true then
  (lineallaw05_Awake).bind fun v0_2 =>
  some (.done (Sum.inl v0_2))
  else
  (linealref05_Valid (b2.1, b2.2.1)).bind fun v0_3 =>
  if (!v0_3) = true then
  (lineallaw05_Awake).bind fun v0_4 =>
  some (.done (Sum.inl v0_4))
  else
  ck (InK .i64 (b2.2.2 + 1)) <| some (.next (b2.2.2 + 1))
noncomputable def linealtop_TopRefine_b1 (a : Int × (List (Int × Int × Int))) (b : Int × (List (Int × Int × Int))) (c : Int × (List (Int × Int × Int))) (st1 : Int) : Option (Step Int (Sum Bool Unit)) :=
  if (decide (st1 < 3)) = true then
  ck (0 ≤ st1) <| ck (st1 < 3) <| if (decide (st1 = 0)) = true then
  linealtop_TopRefine_k2 (a.1, a.2, 0)
  else
  if (decide (st1 = 1)) = true then
  linealtop_TopRefine_k2 (b.1, b.2, 1)
  else
  linealtop_TopRefine_k2 (c.1, c.2, 2)
  else
  some (.done (Sum.inr ()))
noncomputable def linealtop_TopRefine (a : Int × (List (Int × Int × Int))) (b : Int × (List (Int × Int × Int))) (c : Int × (List (Int × Int × Int))) (label : Int) (step : Int) : Option Bool :=
  (whileO (linealtop_TopRefine_b1 a b c) 0).bind fun x => match x with
  | .inl r1 => (some r1)
  | .inr _ => (linealtop_TopRefine_k1 a b c label step)

end Go.Proofs.Ytifleoceebaooaa
