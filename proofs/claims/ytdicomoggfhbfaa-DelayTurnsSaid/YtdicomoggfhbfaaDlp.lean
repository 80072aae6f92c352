/-
  Made by wip/tool/dc.py out of the print of the program: pure functions.
-/
import Derived.Test.YtdicomoggfhbfaaAvr
namespace Go.Proofs.Ytdicomoggfhbfaa
open Go.RowKit

set_option linter.unusedSimpArgs false
set_option linter.unusedVariables false
set_option linter.constructorNameAsVariable false

abbrev ZS : Type := List (Int × Int × (List (List Int)) × (List (List Int)))
abbrev ZH : Type := List (Int × Int × Int × Int × Int × Int)
abbrev ZM : Type := List (((Int × Int) × Int) × Int)
/- lineal/lineallaw09.Long -/
noncomputable def lineallaw09_Long_k1 (x0 : List (List (Int × Bool))) : Option Bool :=
  some (decide (20 < (x0.length : Int)))
noncomputable def lineallaw09_Long_b1 (x0 : List (List (Int × Bool))) (st1 : Int) : Option (Step Int (Sum Unit Unit)) :=
  if (decide (st1 < (x0.length : Int))) = true then
  ck (0 ≤ st1) <| ck (st1 < (x0.length : Int)) <| if (decide (20 < ((x0.getD st1.toNat []).length : Int))) = true then
  some (.done (Sum.inl ()))
  else
  ck (InK .i64 (st1 + 1)) <| some (.next (st1 + 1))
  else
  some (.done (Sum.inr ()))
noncomputable def lineallaw09_Long (x0 : List (List (Int × Bool))) : Option Bool :=
  (whileO (lineallaw09_Long_b1 x0) 0).bind fun x => match x with
  | .inl _ => (some true)
  | .inr _ => (lineallaw09_Long_k1 x0)

/- lineal/delay.isBelow -/
noncomputable def delay_isBelow (number : Int) (end0 : Int) : Option Bool :=
  if (decide (0 ≤ number)) = true then
  some (decide (number < end0))
  else
  some false

/- lineal/delay.isAccess -/
noncomputable def delay_isAccess (a : Int × Bool) : Option Bool :=
  (delay_isBelow a.1 3).bind fun v0 =>
  some v0

/- lineal/delay.isThread$1 -/
noncomputable def delay_isThread_1 (a : Int × Bool) : Option Bool :=
  (delay_isAccess a).bind fun v0 =>
  some (!v0)

/- slices.IndexFunc[[]lineal/api.Access,lineal/api.Access] -/
noncomputable def slices_IndexFunc_2_k1 : Option Int :=
  some (-1)
noncomputable def slices_IndexFunc_2_b1 (s : List (Int × Bool)) (st1 : Int) : Option (Step Int (Sum Int Unit)) :=
  if (decide (st1 < (s.length : Int))) = true then
  ck (0 ≤ st1) <| ck (st1 < (s.length : Int)) <| (delay_isThread_1 (s.getD st1.toNat (0, false))).bind fun v0 =>
  if v0 = true then
  some (.done (Sum.inl st1))
  else
  ck (InK .i64 (st1 + 1)) <| some (.next (st1 + 1))
  else
  some (.done (Sum.inr ()))
noncomputable def slices_IndexFunc_2 (s : List (Int × Bool)) : Option Int :=
  (whileO (slices_IndexFunc_2_b1 s) 0).bind fun x => match x with
  | .inl r1 => (some r1)
  | .inr _ => (slices_IndexFunc_2_k1)

/- slices.ContainsFunc[[]lineal/api.Access,lineal/api.Access] -/
noncomputable def slices_ContainsFunc_2 (s : List (Int × Bool)) : Option Bool :=
  (slices_IndexFunc_2 s).bind fun v0 =>
  some (decide (0 ≤ v0))

/- lineal/delay.isThread -/
noncomputable def delay_isThread (list : List (Int × Bool)) : Option Bool :=
  if (decide ((list.length : Int) ≤ 4)) = true then
  (slices_ContainsFunc_2 list).bind fun v0 =>
  some (!v0)
  else
  some false

/- lineal/delay.Valid$1 -/
noncomputable def delay_Valid_1 (list : List (Int × Bool)) : Option Bool :=
  (delay_isThread list).bind fun v0 =>
  some (!v0)

/- slices.IndexFunc[[][]lineal/api.Access,[]lineal/api.Access] -/
noncomputable def slices_IndexFunc_k1 : Option Int :=
  some (-1)
noncomputable def slices_IndexFunc_b1 (s : List (List (Int × Bool))) (st1 : Int) : Option (Step Int (Sum Int Unit)) :=
  if (decide (st1 < (s.length : Int))) = true then
  ck (0 ≤ st1) <| ck (st1 < (s.length : Int)) <| (delay_Valid_1 (s.getD st1.toNat [])).bind fun v0 =>
  if v0 = true then
  some (.done (Sum.inl st1))
  else
  ck (InK .i64 (st1 + 1)) <| some (.next (st1 + 1))
  else
  some (.done (Sum.inr ()))
noncomputable def slices_IndexFunc (s : List (List (Int × Bool))) : Option Int :=
  (whileO (slices_IndexFunc_b1 s) 0).bind fun x => match x with
  | .inl r1 => (some r1)
  | .inr _ => (slices_IndexFunc_k1)

/- slices.ContainsFunc[[][]lineal/api.Access,[]lineal/api.Access] -/
noncomputable def slices_ContainsFunc (s : List (List (Int × Bool))) : Option Bool :=
  (slices_IndexFunc s).bind fun v0 =>
  some (decide (0 ≤ v0))

/- lineal/delay.Valid -/
noncomputable def delay_Valid (x0 : List (List (Int × Bool))) : Option Bool :=
  if (decide (1 ≤ (x0.length : Int))) = true then
  if (decide ((x0.length : Int) ≤ 3)) = true then
  (slices_ContainsFunc x0).bind fun v0 =>
  some (!v0)
  else
  some false
  else
  some false

/- lineal/delay.accessesOf -/
noncomputable def delay_accessesOf (x0 : List (List (Int × Bool))) : Option ((List (List (Int × Bool))) × Int) :=
  (delay_Valid x0).bind fun v0 =>
  if (!v0) = true then
  some ([], 90)
  else
  some (x0, 0)

/- lineal/delay.isOne -/
noncomputable def delay_isOne (s : Int × Int × Int) : Option Unit :=
  some ()

/- (lineal/delay.accesses).has -/
noncomputable def delay_accesses_has (x0 : List (List (Int × Bool))) (t : Int) (a : Int) : Option Bool :=
  (delay_isBelow t (x0.length : Int)).bind fun v0 =>
  if v0 = true then
  ck (0 ≤ t) <| ck (t < (x0.length : Int)) <| (delay_isBelow a ((x0.getD t.toNat []).length : Int)).bind fun v0_2 =>
  some v0_2
  else
  some false

/- (lineal/delay.accesses).isPair -/
noncomputable def delay_accesses_isPair (x0 : List (List (Int × Bool))) (s : Int × Int × Int) : Option Bool :=
  (delay_accesses_has x0 s.1 s.2.1).bind fun v0 =>
  if v0 = true then
  (delay_accesses_has x0 s.1 s.2.2).bind fun v0_2 =>
  if v0_2 = true then
  if (decide (s.2.1 < s.2.2)) = true then
  ck (0 ≤ s.1) <| ck (s.1 < (x0.length : Int)) <| ck (0 ≤ s.2.1) <| ck (s.2.1 < ((x0.getD s.1.toNat []).length : Int)) <| ck (0 ≤ s.1) <| ck (s.1 < (x0.length : Int)) <| ck (0 ≤ s.2.2) <| ck (s.2.2 < ((x0.getD s.1.toNat []).length : Int)) <| some (!(decide (((x0.getD s.1.toNat []).getD s.2.1.toNat (0, false)).1 = ((x0.getD s.1.toNat []).getD s.2.2.toNat (0, false)).1)))
  else
  some false
  else
  some false
  else
  some false

/- (lineal/delay.accesses).isStation -/
noncomputable def delay_accesses_isStation (x0 : List (List (Int × Bool))) (s : Int × Int × Int) : Option Bool :=
  (delay_isOne s).bind fun v0 =>
  if (decide (s.2.1 = s.2.2)) = true then
  (delay_accesses_has x0 s.1 s.2.1).bind fun v0_2 =>
  if v0_2 = true then
  some true
  else
  (delay_accesses_isPair x0 s).bind fun v0_3 =>
  some v0_3
  else
  (delay_accesses_isPair x0 s).bind fun v0_4 =>
  some v0_4

/- (lineal/delay.accesses).stations -/
noncomputable def delay_accesses_stations_k1 (b3_3 : (List (Int × Int × Int))) : Option ((List (Int × Int × Int))) :=
  some b3_3
noncomputable def delay_accesses_stations_k2 (st1 : (List (Int × Int × Int)) × Int) (b3_2 : (List (Int × Int × Int))) : Option (Step ((List (Int × Int × Int)) × Int) ((List (Int × Int × Int)))) :=
  ck (InK .i64 (st1.2 + 1)) <| some (.next (b3_2, (st1.2 + 1)))
noncomputable def delay_accesses_stations_k3 (st2 : (List (Int × Int × Int)) × Int) (b3 : (List (Int × Int × Int))) : Option (Step ((List (Int × Int × Int)) × Int) ((List (Int × Int × Int)))) :=
  ck (InK .i64 (st2.2 + 1)) <| some (.next (b3, (st2.2 + 1)))
noncomputable def delay_accesses_stations_b3 (x0 : List (List (Int × Bool))) (st1 : (List (Int × Int × Int)) × Int) (st2 : (List (Int × Int × Int)) × Int) (st3 : (List (Int × Int × Int)) × Int) : Option (Step ((List (Int × Int × Int)) × Int) ((List (Int × Int × Int)))) :=
  if (decide (st3.2 < ((x0.getD st1.2.toNat []).length : Int))) = true then
  (delay_accesses_isStation x0 (st1.2, st2.2, st3.2)).bind fun v0 =>
  if v0 = true then
  ck ((st3.1.length + 1) * 24 ≤ 140737488355328) <| ck (InK .i64 (st3.2 + 1)) <| some (.next ((st3.1 ++ [(st1.2, st2.2, st3.2)]), (st3.2 + 1)))
  else
  ck (InK .i64 (st3.2 + 1)) <| some (.next (st3.1, (st3.2 + 1)))
  else
  some (.done st3.1)
noncomputable def delay_accesses_stations_b2 (x0 : List (List (Int × Bool))) (st1 : (List (Int × Int × Int)) × Int) (st2 : (List (Int × Int × Int)) × Int) : Option (Step ((List (Int × Int × Int)) × Int) ((List (Int × Int × Int)))) :=
  if (decide (st2.2 < ((x0.getD st1.2.toNat []).length : Int))) = true then
  (whileO (delay_accesses_stations_b3 x0 st1 st2) (st2.1, 0)).bind fun r3 =>
  delay_accesses_stations_k3 st2 r3
  else
  some (.done st2.1)
noncomputable def delay_accesses_stations_b1 (x0 : List (List (Int × Bool))) (st1 : (List (Int × Int × Int)) × Int) : Option (Step ((List (Int × Int × Int)) × Int) ((List (Int × Int × Int)))) :=
  if (decide (st1.2 < (x0.length : Int))) = true then
  ck (0 ≤ st1.2) <| ck (st1.2 < (x0.length : Int)) <| (whileO (delay_accesses_stations_b2 x0 st1) (st1.1, 0)).bind fun r2 =>
  delay_accesses_stations_k2 st1 r2
  else
  some (.done st1.1)
noncomputable def delay_accesses_stations (x0 : List (List (Int × Bool))) : Option ((List (Int × Int × Int))) :=
  (whileO (delay_accesses_stations_b1 x0) ([], 0)).bind fun r1 =>
  delay_accesses_stations_k1 r1

/- (lineal/delay.accesses).isClosed$1 -/
noncomputable def delay_accesses_isClosed_1 (s : Int × Int × Int) : Option Unit :=
  (delay_isOne s).bind fun v0 =>
  some ()

/- slices.IndexFunc[[][3]int,[3]int] -/
noncomputable def slices_IndexFunc_3_k1 : Option Int :=
  some (-1)
noncomputable def slices_IndexFunc_3_b1 (s : List (Int × Int × Int)) (st1 : Int) : Option (Step Int (Sum Int Unit)) :=
  if (decide (st1 < (s.length : Int))) = true then
  ck (0 ≤ st1) <| ck (st1 < (s.length : Int)) <| (delay_accesses_isClosed_1 (s.getD st1.toNat (0, 0, 0))).bind fun v0 =>
  if (!(decide ((s.getD st1.toNat (0, 0, 0)).2.1 = (s.getD st1.toNat (0, 0, 0)).2.2))) = true then
  some (.done (Sum.inl st1))
  else
  ck (InK .i64 (st1 + 1)) <| some (.next (st1 + 1))
  else
  some (.done (Sum.inr ()))
noncomputable def slices_IndexFunc_3 (s : List (Int × Int × Int)) : Option Int :=
  (whileO (slices_IndexFunc_3_b1 s) 0).bind fun x => match x with
  | .inl r1 => (some r1)
  | .inr _ => (slices_IndexFunc_3_k1)

/- slices.ContainsFunc[[][3]int,[3]int] -/
noncomputable def slices_ContainsFunc_3 (s : List (Int × Int × Int)) : Option Bool :=
  (slices_IndexFunc_3 s).bind fun v0 =>
  some (decide (0 ≤ v0))

/- (lineal/delay.accesses).conflict -/
noncomputable def delay_accesses_conflict (x0 : List (List (Int × Bool))) (t : Int) (a : Int) (u : Int) (b : Int) : Option Bool :=
  ck (0 ≤ t) <| ck (t < (x0.length : Int)) <| ck (0 ≤ a) <| ck (a < ((x0.getD t.toNat []).length : Int)) <| ck (0 ≤ u) <| ck (u < (x0.length : Int)) <| ck (0 ≤ b) <| ck (b < ((x0.getD u.toNat []).length : Int)) <| if (!(decide (t = u))) = true then
  if (decide (((x0.getD t.toNat []).getD a.toNat (0, false)).1 = ((x0.getD u.toNat []).getD b.toNat (0, false)).1)) = true then
  if ((x0.getD t.toNat []).getD a.toNat (0, false)).2 = true then
  some true
  else
  some ((x0.getD u.toNat []).getD b.toNat (0, false)).2
  else
  some false
  else
  some false

/- (lineal/delay.accesses).meets -/
noncomputable def delay_accesses_meets (x0 : List (List (Int × Bool))) (s : Int × Int × Int) (next0 : Int × Int × Int) : Option Bool :=
  (delay_accesses_conflict x0 s.1 s.2.2 next0.1 next0.2.1).bind fun v0 =>
  some v0

/- (lineal/delay.accesses).isClosed -/
noncomputable def delay_accesses_isClosed (x0 : List (List (Int × Bool))) (list : List (Int × Int × Int)) : Option Bool :=
  (slices_ContainsFunc_3 list).bind fun v0 =>
  if v0 = true then
  ck (InK .i64 ((list.length : Int) - 1)) <| ck (0 ≤ ((list.length : Int) - 1)) <| ck (((list.length : Int) - 1) < (list.length : Int)) <| ck (0 < (list.length : Int)) <| (delay_accesses_meets x0 (list.getD ((list.length : Int) - 1).toNat (0, 0, 0)) (list.getD 0 (0, 0, 0))).bind fun v0_2 =>
  some v0_2
  else
  some false

/- (lineal/delay.accesses).goesOn$1 -/
noncomputable def delay_accesses_goesOn_1 (other : Int × Int × Int) (a1 : Int × Int × Int) : Option Unit :=
  some ()

/- slices.IndexFunc[[][3]int,[3]int] -/
noncomputable def slices_IndexFunc_4_k1 : Option Int :=
  some (-1)
noncomputable def slices_IndexFunc_4_b1 (s : List (Int × Int × Int)) (c0 : Int × Int × Int) (st1 : Int) : Option (Step Int (Sum Int Unit)) :=
  if (decide (st1 < (s.length : Int))) = true then
  ck (0 ≤ st1) <| ck (st1 < (s.length : Int)) <| (delay_accesses_goesOn_1 (s.getD st1.toNat (0, 0, 0)) c0).bind fun v0 =>
  if (decide ((s.getD st1.toNat (0, 0, 0)).1 = c0.1)) = true then
  some (.done (Sum.inl st1))
  else
  ck (InK .i64 (st1 + 1)) <| some (.next (st1 + 1))
  else
  some (.done (Sum.inr ()))
noncomputable def slices_IndexFunc_4 (s : List (Int × Int × Int)) (c0 : Int × Int × Int) : Option Int :=
  (whileO (slices_IndexFunc_4_b1 s c0) 0).bind fun x => match x with
  | .inl r1 => (some r1)
  | .inr _ => (slices_IndexFunc_4_k1)

/- slices.ContainsFunc[[][3]int,[3]int] -/
noncomputable def slices_ContainsFunc_4 (s : List (Int × Int × Int)) (c0 : Int × Int × Int) : Option Bool :=
  (slices_IndexFunc_4 s c0).bind fun v0 =>
  some (decide (0 ≤ v0))

/- (lineal/delay.accesses).goesOn -/
noncomputable def delay_accesses_goesOn (x0 : List (List (Int × Bool))) (list : List (Int × Int × Int)) (s : Int × Int × Int) : Option Bool :=
  if (decide ((list.length : Int) = 0)) = true then
  some true
  else
  (slices_ContainsFunc_4 list s).bind fun v0 =>
  if (!v0) = true then
  ck (InK .i64 ((list.length : Int) - 1)) <| ck (0 ≤ ((list.length : Int) - 1)) <| ck (((list.length : Int) - 1) < (list.length : Int)) <| (delay_accesses_meets x0 (list.getD ((list.length : Int) - 1).toNat (0, 0, 0)) s).bind fun v0_2 =>
  some v0_2
  else
  some false

/- (lineal/delay.accesses).circles -/
noncomputable def delay_accesses_circles_k1 (S R : Type) (st1 : (List (List (Int × Int × Int))) × Int × S) (b2_2 : (List (List (Int × Int × Int))) × S) : Option (Step ((List (List (Int × Int × Int))) × Int × S) (Sum R S)) :=
  ck (InK .i64 (st1.2.1 + 1)) <| some (.next (b2_2.1, (st1.2.1 + 1), b2_2.2))
noncomputable def delay_accesses_circles_b2 (S R : Type) (x0 : List (List (Int × Bool))) (v0 : (List (Int × Int × Int))) (st1 : (List (List (Int × Int × Int))) × Int × S) (st2 : (List (List (Int × Int × Int))) × Int) : Option (Step ((List (List (Int × Int × Int))) × Int) ((List (List (Int × Int × Int))))) :=
  if (decide (st2.2 < (v0.length : Int))) = true then
  ck (0 ≤ st2.2) <| ck (st2.2 < (v0.length : Int)) <| (delay_accesses_goesOn x0 (st1.1.getD st1.2.1.toNat []) (v0.getD st2.2.toNat (0, 0, 0))).bind fun v0_3 =>
  if v0_3 = true then
  ck ((((st1.1.getD st1.2.1.toNat []).take (st1.1.getD st1.2.1.toNat []).length).length + 1) * 24 ≤ 140737488355328) <| ck ((st2.1.length + 1) * 24 ≤ 140737488355328) <| ck (InK .i64 (st2.2 + 1)) <| some (.next ((st2.1 ++ [(((st1.1.getD st1.2.1.toNat []).take (st1.1.getD st1.2.1.toNat []).length) ++ [(v0.getD st2.2.toNat (0, 0, 0))])]), (st2.2 + 1)))
  else
  ck (InK .i64 (st2.2 + 1)) <| some (.next (st2.1, (st2.2 + 1)))
  else
  some (.done st2.1)
noncomputable def delay_accesses_circles_k2 (S R : Type) (x0 : List (List (Int × Bool))) (v0 : (List (Int × Int × Int))) (st1 : (List (List (Int × Int × Int))) × Int × S) (b2 : S) : Option (Step ((List (List (Int × Int × Int))) × Int × S) (Sum R S)) :=
  (whileO (delay_accesses_circles_b2 S R x0 v0 st1) (st1.1, 0)).bind fun r2 =>
  delay_accesses_circles_k1 S R st1 (r2, b2)
noncomputable def delay_accesses_circles_b1 (S R : Type) (x0 : List (List (Int × Bool))) (yl : (List (Int × Int × Int)) → S → Option (Step S R)) (v0 : (List (Int × Int × Int))) (st1 : (List (List (Int × Int × Int))) × Int × S) : Option (Step ((List (List (Int × Int × Int))) × Int × S) (Sum R S)) :=
  if (decide (st1.2.1 < (st1.1.length : Int))) = true then
  ck (0 ≤ st1.2.1) <| ck (st1.2.1 < (st1.1.length : Int)) <| (delay_accesses_isClosed x0 (st1.1.getD st1.2.1.toNat [])).bind fun v0_2 =>
  if v0_2 = true then
  (yl (st1.1.getD st1.2.1.toNat []) st1.2.2).bind fun x => match x with
  | .next s => (delay_accesses_circles_k2 S R x0 v0 st1 s)
  | .done e => (some (.done (Sum.inl e)))
  else
  delay_accesses_circles_k2 S R x0 v0 st1 st1.2.2
  else
  some (.done (Sum.inr st1.2.2))
noncomputable def delay_accesses_circles (S R : Type) (x0 : List (List (Int × Bool))) (yl : (List (Int × Int × Int)) → S → Option (Step S R)) (s0 : S) : Option (Sum S R) :=
  (delay_accesses_stations x0).bind fun v0 =>
  (whileO (delay_accesses_circles_b1 S R x0 yl v0) ([[]], 0, s0)).bind fun x => match x with
  | .inl r1 => (some (Sum.inr r1))
  | .inr r1_2 => (some (Sum.inl r1_2))

/- lineal/delay.Circles -/
noncomputable def delay_Circles_k1 (b1 : Int) : Option (Int × Int) :=
  some (b1, 0)
noncomputable def delay_Circles_y1 (y1 : (List (Int × Int × Int))) (st1 : Int) : Option (Step Int Empty) :=
  ck (InK .i64 (st1 + 1)) <| some (.next (st1 + 1))
noncomputable def delay_Circles (x0 : List (List (Int × Bool))) : Option (Int × Int) :=
  (delay_accessesOf x0).bind fun v0 =>
  if (!(decide (v0.2 = 0))) = true then
  some (0, v0.2)
  else
  (delay_accesses_circles Int Empty v0.1 (delay_Circles_y1) 0).bind fun x => match x with
  | .inl st1_2 => (delay_Circles_k1 st1_2)
  | .inr r => r.elim

/- lineal/lineallaw09.Awake -/
noncomputable def lineallaw09_Awake : Option Bool :=
  (delay_Circles [[(0, true), (1, false)], [(1, true), (0, false)]]).bind fun v0 =>
  if (decide (v0.2 = 0)) = true then
  some (decide (v0.1 = 2))
  else
  some false

/- lineal/linealref09.Valid -/
noncomputable def linealref09_Valid_k1 (x0 : List (List (Int × Bool))) : Option Bool :=
  if (decide (1 ≤ (x0.length : Int))) = true then
  some (decide ((x0.length : Int) ≤ 3))
  else
  some false
noncomputable def linealref09_Valid_k2 (st1 : Int) : Option (Step Int (Sum Unit Unit)) :=
  ck (InK .i64 (st1 + 1)) <| some (.next (st1 + 1))
noncomputable def linealref09_Valid_b2 (x0 : List (List (Int × Bool))) (st1 : Int) (st2 : Int) : Option (Step Int (Sum Unit Unit)) :=
  if (decide (st2 < ((x0.getD st1.toNat []).length : Int))) = true then
  ck (0 ≤ st2) <| ck (st2 < ((x0.getD st1.toNat []).length : Int)) <| if (decide (((x0.getD st1.toNat []).getD st2.toNat (0, false)).1 < 0)) = true then
  some (.done (Sum.inl ()))
  else
  if (decide (3 ≤ ((x0.getD st1.toNat []).getD st2.toNat (0, false)).1)) = true then
  some (.done (Sum.inl ()))
  else
  ck (InK .i64 (st2 + 1)) <| some (.next (st2 + 1))
  else
  some (.done (Sum.inr ()))
noncomputable def linealref09_Valid_b1 (x0 : List (List (Int × Bool))) (st1 : Int) : Option (Step Int (Sum Unit Unit)) :=
  if (decide (st1 < (x0.length : Int))) = true then
  ck (0 ≤ st1) <| ck (st1 < (x0.length : Int)) <| if (decide (4 < ((x0.getD st1.toNat []).length : Int))) = true then
  some (.done (Sum.inl ()))
  else
  (whileO (linealref09_Valid_b2 x0 st1) 0).bind fun x => match x with
  | .inl _ => (some (.done (Sum.inl ())))
  | .inr _ => (linealref09_Valid_k2 st1)
  else
  some (.done (Sum.inr ()))
noncomputable def linealref09_Valid (x0 : List (List (Int × Bool))) : Option Bool :=
  (whileO (linealref09_Valid_b1 x0) 0).bind fun x => match x with
  | .inl _ => (some false)
  | .inr _ => (linealref09_Valid_k1 x0)

/- slices.IndexFunc[[][3]int,[3]int] -/
noncomputable def slices_IndexFunc_5_k1 : Option Int :=
  some (-1)
noncomputable def slices_IndexFunc_5_b1 (s : List (Int × Int × Int)) (st1 : Int) : Option (Step Int (Sum Int Unit)) :=
  if (decide (st1 < (s.length : Int))) = true then
  ck (0 ≤ st1) <| ck (st1 < (s.length : Int)) <| (delay_isOne (s.getD st1.toNat (0, 0, 0))).bind fun v0 =>
  if (decide ((s.getD st1.toNat (0, 0, 0)).2.1 = (s.getD st1.toNat (0, 0, 0)).2.2)) = true then
  some (.done (Sum.inl st1))
  else
  ck (InK .i64 (st1 + 1)) <| some (.next (st1 + 1))
  else
  some (.done (Sum.inr ()))
noncomputable def slices_IndexFunc_5 (s : List (Int × Int × Int)) : Option Int :=
  (whileO (slices_IndexFunc_5_b1 s) 0).bind fun x => match x with
  | .inl r1 => (some r1)
  | .inr _ => (slices_IndexFunc_5_k1)

/- slices.DeleteFunc[[][3]int,[3]int] -/
noncomputable def slices_DeleteFunc_k1 (b1 : (List (Int × Int × Int)) × Int) : Option ((List (Int × Int × Int))) :=
  ck (0 ≤ b1.2) <| ck (b1.2 ≤ (b1.1.length : Int)) <| ck (0 < ((b1.1.length : Int) - b1.2).toNat) <| ck ((b1.2.toNat + ((b1.1.length : Int) - b1.2).toNat) ≤ b1.1.length) <| ck (0 ≤ b1.2) <| ck (b1.2 ≤ ((((b1.1.take b1.2.toNat) ++ (List.replicate ((b1.1.length : Int) - b1.2).toNat ((0, 0, 0) : Int × Int × Int))) ++ (b1.1.drop (b1.2.toNat + ((b1.1.length : Int) - b1.2).toNat))).length : Int)) <| some ((((b1.1.take b1.2.toNat) ++ (List.replicate ((b1.1.length : Int) - b1.2).toNat ((0, 0, 0) : Int × Int × Int))) ++ (b1.1.drop (b1.2.toNat + ((b1.1.length : Int) - b1.2).toNat))).take b1.2.toNat)
noncomputable def slices_DeleteFunc_b1 (st1 : (List (Int × Int × Int)) × Int × Int) : Option (Step ((List (Int × Int × Int)) × Int × Int) ((List (Int × Int × Int)) × Int)) :=
  if (decide (st1.2.2 < (st1.1.length : Int))) = true then
  ck (0 ≤ st1.2.2) <| ck (st1.2.2 < (st1.1.length : Int)) <| (delay_isOne (st1.1.getD st1.2.2.toNat (0, 0, 0))).bind fun v0_2 =>
  if (!(decide ((st1.1.getD st1.2.2.toNat (0, 0, 0)).2.1 = (st1.1.getD st1.2.2.toNat (0, 0, 0)).2.2))) = true then
  ck (0 ≤ st1.2.1) <| ck (st1.2.1 < (st1.1.length : Int)) <| ck (InK .i64 (st1.2.1 + 1)) <| ck (InK .i64 (st1.2.2 + 1)) <| some (.next ((st1.1.set st1.2.1.toNat (st1.1.getD st1.2.2.toNat (0, 0, 0))), (st1.2.1 + 1), (st1.2.2 + 1)))
  else
  ck (InK .i64 (st1.2.2 + 1)) <| some (.next (st1.1, st1.2.1, (st1.2.2 + 1)))
  else
  some (.done (st1.1, st1.2.1))
noncomputable def slices_DeleteFunc (s : List (Int × Int × Int)) : Option ((List (Int × Int × Int))) :=
  (slices_IndexFunc_5 s).bind fun v0 =>
  if (decide (v0 = (-1))) = true then
  some s
  else
  ck (InK .i64 (v0 + 1)) <| (whileO (slices_DeleteFunc_b1) (s, v0, (v0 + 1))).bind fun r1 =>
  slices_DeleteFunc_k1 r1

/- (lineal/delay.accesses).pairs -/
noncomputable def delay_accesses_pairs (x0 : List (List (Int × Bool))) : Option ((List (Int × Int × Int))) :=
  (delay_accesses_stations x0).bind fun v0 =>
  (slices_DeleteFunc v0).bind fun v0_2 =>
  some v0_2

/- slices.Clone[[]lineal/api.Access,lineal/api.Access] -/
noncomputable def slices_Clone (s : List (Int × Bool)) : Option ((List (Int × Bool))) :=
  ck (s.length * 16 ≤ 140737488355328) <| some s

/- slices.Reverse[[]lineal/api.Access,lineal/api.Access] -/
noncomputable def slices_Reverse_b1 (st1 : (List (Int × Bool)) × Int × Int) : Option (Step ((List (Int × Bool)) × Int × Int) ((List (Int × Bool)))) :=
  if (decide (st1.2.1 < st1.2.2)) = true then
  ck (0 ≤ st1.2.2) <| ck (st1.2.2 < (st1.1.length : Int)) <| ck (0 ≤ st1.2.1) <| ck (st1.2.1 < (st1.1.length : Int)) <| ck (0 ≤ st1.2.1) <| ck (st1.2.1 < (st1.1.length : Int)) <| ck (0 ≤ st1.2.2) <| ck (st1.2.2 < ((st1.1.set st1.2.1.toNat (st1.1.getD st1.2.2.toNat (0, false))).length : Int)) <| ck (InK .i64 (st1.2.1 + 1)) <| ck (InK .i64 (st1.2.2 - 1)) <| some (.next (((st1.1.set st1.2.1.toNat (st1.1.getD st1.2.2.toNat (0, false))).set st1.2.2.toNat (st1.1.getD st1.2.1.toNat (0, false))), (st1.2.1 + 1), (st1.2.2 - 1)))
  else
  some (.done st1.1)
noncomputable def slices_Reverse (s : List (Int × Bool)) : Option ((List (Int × Bool))) :=
  ck (InK .i64 ((s.length : Int) - 1)) <| (whileO (slices_Reverse_b1) (s, 0, ((s.length : Int) - 1))).bind fun r1 =>
  some r1

/- lineal/delay.Turned -/
noncomputable def delay_Turned_k1 (b1 : (List (List (Int × Bool)))) : Option ((List (List (Int × Bool))) × Int) :=
  some (b1, 0)
noncomputable def delay_Turned_b1 (x0 : List (List (Int × Bool))) (st1 : (List (List (Int × Bool))) × Int) : Option (Step ((List (List (Int × Bool))) × Int) ((List (List (Int × Bool))))) :=
  if (decide (st1.2 < (x0.length : Int))) = true then
  ck (0 ≤ st1.2) <| ck (st1.2 < (x0.length : Int)) <| (slices_Clone (x0.getD st1.2.toNat [])).bind fun v0_2 =>
  (slices_Reverse v0_2).bind fun v0_3 =>
  ck ((st1.1.length + 1) * 24 ≤ 140737488355328) <| ck (InK .i64 (st1.2 + 1)) <| some (.next ((st1.1 ++ [v0_3]), (st1.2 + 1)))
  else
  some (.done st1.1)
noncomputable def delay_Turned (x0 : List (List (Int × Bool))) : Option ((List (List (Int × Bool))) × Int) :=
  (delay_Valid x0).bind fun v0 =>
  if (!v0) = true then
  some ([], 90)
  else
  (whileO (delay_Turned_b1 x0) ([], 0)).bind fun r1 =>
  delay_Turned_k1 r1

/- lineal/linealref09.SameAccesses -/
noncomputable def linealref09_SameAccesses_k1 : Option Bool :=
  some true
noncomputable def linealref09_SameAccesses_k2 (st1 : Int) : Option (Step Int (Sum Unit Unit)) :=
  ck (InK .i64 (st1 + 1)) <| some (.next (st1 + 1))
noncomputable def linealref09_SameAccesses_b2 (x0 : List (List (Int × Bool))) (y : List (List (Int × Bool))) (st1 : Int) (st2 : Int) : Option (Step Int (Sum Unit Unit)) :=
  if (decide (st2 < ((x0.getD st1.toNat []).length : Int))) = true then
  ck (0 ≤ st1) <| ck (st1 < (x0.length : Int)) <| ck (0 ≤ st2) <| ck (st2 < ((x0.getD st1.toNat []).length : Int)) <| ck (0 ≤ st1) <| ck (st1 < (y.length : Int)) <| ck (0 ≤ st2) <| ck (st2 < ((y.getD st1.toNat []).length : Int)) <| ck (InK .i64 ((x0.getD st1.toNat []).getD st2.toNat (0, false)).1) <| ck (InK .i64 ((y.getD st1.toNat []).getD st2.toNat (0, false)).1) <| if (!(decide (((x0.getD st1.toNat []).getD st2.toNat (0, false)) = ((y.getD st1.toNat []).getD st2.toNat (0, false))))) = true then
  some (.done (Sum.inl ()))
  else
  ck (InK .i64 (st2 + 1)) <| some (.next (st2 + 1))
  else
  some (.done (Sum.inr ()))
noncomputable def linealref09_SameAccesses_b1 (x0 : List (List (Int × Bool))) (y : List (List (Int × Bool))) (st1 : Int) : Option (Step Int (Sum Unit Unit)) :=
  if (decide (st1 < (x0.length : Int))) = true then
  ck (0 ≤ st1) <| ck (st1 < (x0.length : Int)) <| ck (0 ≤ st1) <| ck (st1 < (y.length : Int)) <| if (!(decide (((x0.getD st1.toNat []).length : Int) = ((y.getD st1.toNat []).length : Int)))) = true then
  some (.done (Sum.inl ()))
  else
  ck (0 ≤ st1) <| ck (st1 < (x0.length : Int)) <| (whileO (linealref09_SameAccesses_b2 x0 y st1) 0).bind fun x => match x with
  | .inl _ => (some (.done (Sum.inl ())))
  | .inr _ => (linealref09_SameAccesses_k2 st1)
  else
  some (.done (Sum.inr ()))
noncomputable def linealref09_SameAccesses (x0 : List (List (Int × Bool))) (y : List (List (Int × Bool))) : Option Bool :=
  if (!(decide ((x0.length : Int) = (y.length : Int)))) = true then
  some false
  else
  (whileO (linealref09_SameAccesses_b1 x0 y) 0).bind fun x => match x with
  | .inl _ => (some false)
  | .inr _ => (linealref09_SameAccesses_k1)

/- (lineal/delay.accesses).found -/
noncomputable def delay_accesses_found_k1 (b1 : (List ((Int × Int × Int) × (List (Int × Int × Int))))) : Option ((List ((Int × Int × Int) × (List (Int × Int × Int))))) :=
  some b1
noncomputable def delay_accesses_found_b2 (y1 : (List (Int × Int × Int))) (st2 : (List ((Int × Int × Int) × (List (Int × Int × Int)))) × Int) : Option (Step ((List ((Int × Int × Int) × (List (Int × Int × Int)))) × Int) ((List ((Int × Int × Int) × (List (Int × Int × Int)))))) :=
  if (decide (st2.2 < (y1.length : Int))) = true then
  ck (0 ≤ st2.2) <| ck (st2.2 < (y1.length : Int)) <| ck (InK .i64 (y1.getD st2.2.toNat (0, 0, 0)).1) <| ck (InK .i64 (y1.getD st2.2.toNat (0, 0, 0)).2.1) <| ck (InK .i64 (y1.getD st2.2.toNat (0, 0, 0)).2.2) <| ck (mhas st2.1 (y1.getD st2.2.toNat (0, 0, 0)) = false ∨ 0 < List.length (mget [] st2.1 (y1.getD st2.2.toNat (0, 0, 0)))) <| if (!(mhas st2.1 (y1.getD st2.2.toNat (0, 0, 0)))) = true then
  ck (InK .i64 (y1.getD st2.2.toNat (0, 0, 0)).1) <| ck (InK .i64 (y1.getD st2.2.toNat (0, 0, 0)).2.1) <| ck (InK .i64 (y1.getD st2.2.toNat (0, 0, 0)).2.2) <| ck (InK .i64 (st2.2 + 1)) <| some (.next ((mput st2.1 (y1.getD st2.2.toNat (0, 0, 0)) y1), (st2.2 + 1)))
  else
  ck (InK .i64 (st2.2 + 1)) <| some (.next (st2.1, (st2.2 + 1)))
  else
  some (.done st2.1)
noncomputable def delay_accesses_found_y1 (y1 : (List (Int × Int × Int))) (st1 : (List ((Int × Int × Int) × (List (Int × Int × Int))))) : Option (Step ((List ((Int × Int × Int) × (List (Int × Int × Int))))) Empty) :=
  (whileO (delay_accesses_found_b2 y1) (st1, 0)).bind fun r2 =>
  some (.next r2)
noncomputable def delay_accesses_found (x0 : List (List (Int × Bool))) : Option ((List ((Int × Int × Int) × (List (Int × Int × Int))))) :=
  (delay_accesses_circles ((List ((Int × Int × Int) × (List (Int × Int × Int))))) Empty x0 (delay_accesses_found_y1) []).bind fun x => match x with
  | .inl st1_2 => (delay_accesses_found_k1 st1_2)
  | .inr r => r.elim

/- (lineal/delay.accesses).onCircles$1 -/
noncomputable def delay_accesses_onCircles_1 (pair : Int × Int × Int) (a1 : List ((Int × Int × Int) × (List (Int × Int × Int)))) : Option Unit :=
  ck (InK .i64 pair.1) <| ck (InK .i64 pair.2.1) <| ck (InK .i64 pair.2.2) <| ck (mhas a1 pair = false ∨ 0 < List.length (mget [] a1 pair)) <| some ()

/- slices.IndexFunc[[][3]int,[3]int] -/
noncomputable def slices_IndexFunc_6_k1 : Option Int :=
  some (-1)
noncomputable def slices_IndexFunc_6_b1 (s : List (Int × Int × Int)) (c0 : List ((Int × Int × Int) × (List (Int × Int × Int)))) (st1 : Int) : Option (Step Int (Sum Int Unit)) :=
  if (decide (st1 < (s.length : Int))) = true then
  ck (0 ≤ st1) <| ck (st1 < (s.length : Int)) <| (delay_accesses_onCircles_1 (s.getD st1.toNat (0, 0, 0)) c0).bind fun v0 =>
  if (!(mhas c0 (s.getD st1.toNat (0, 0, 0)))) = true then
  some (.done (Sum.inl st1))
  else
  ck (InK .i64 (st1 + 1)) <| some (.next (st1 + 1))
  else
  some (.done (Sum.inr ()))
noncomputable def slices_IndexFunc_6 (s : List (Int × Int × Int)) (c0 : List ((Int × Int × Int) × (List (Int × Int × Int)))) : Option Int :=
  (whileO (slices_IndexFunc_6_b1 s c0) 0).bind fun x => match x with
  | .inl r1 => (some r1)
  | .inr _ => (slices_IndexFunc_6_k1)

/- slices.DeleteFunc[[][3]int,[3]int] -/
noncomputable def slices_DeleteFunc_2_k1 (b1 : (List (Int × Int × Int)) × Int) : Option ((List (Int × Int × Int))) :=
  ck (0 ≤ b1.2) <| ck (b1.2 ≤ (b1.1.length : Int)) <| ck (0 < ((b1.1.length : Int) - b1.2).toNat) <| ck ((b1.2.toNat + ((b1.1.length : Int) - b1.2).toNat) ≤ b1.1.length) <| ck (0 ≤ b1.2) <| ck (b1.2 ≤ ((((b1.1.take b1.2.toNat) ++ (List.replicate ((b1.1.length : Int) - b1.2).toNat ((0, 0, 0) : Int × Int × Int))) ++ (b1.1.drop (b1.2.toNat + ((b1.1.length : Int) - b1.2).toNat))).length : Int)) <| some ((((b1.1.take b1.2.toNat) ++ (List.replicate ((b1.1.length : Int) - b1.2).toNat ((0, 0, 0) : Int × Int × Int))) ++ (b1.1.drop (b1.2.toNat + ((b1.1.length : Int) - b1.2).toNat))).take b1.2.toNat)
noncomputable def slices_DeleteFunc_2_b1 (c0 : List ((Int × Int × Int) × (List (Int × Int × Int)))) (st1 : (List (Int × Int × Int)) × Int × Int) : Option (Step ((List (Int × Int × Int)) × Int × Int) ((List (Int × Int × Int)) × Int)) :=
  if (decide (st1.2.2 < (st1.1.length : Int))) = true then
  ck (0 ≤ st1.2.2) <| ck (st1.2.2 < (st1.1.length : Int)) <| (delay_accesses_onCircles_1 (st1.1.getD st1.2.2.toNat (0, 0, 0)) c0).bind fun v0_2 =>
  if (!(!(mhas c0 (st1.1.getD st1.2.2.toNat (0, 0, 0))))) = true then
  ck (0 ≤ st1.2.1) <| ck (st1.2.1 < (st1.1.length : Int)) <| ck (InK .i64 (st1.2.1 + 1)) <| ck (InK .i64 (st1.2.2 + 1)) <| some (.next ((st1.1.set st1.2.1.toNat (st1.1.getD st1.2.2.toNat (0, 0, 0))), (st1.2.1 + 1), (st1.2.2 + 1)))
  else
  ck (InK .i64 (st1.2.2 + 1)) <| some (.next (st1.1, st1.2.1, (st1.2.2 + 1)))
  else
  some (.done (st1.1, st1.2.1))
noncomputable def slices_DeleteFunc_2 (s : List (Int × Int × Int)) (c0 : List ((Int × Int × Int) × (List (Int × Int × Int)))) : Option ((List (Int × Int × Int))) :=
  (slices_IndexFunc_6 s c0).bind fun v0 =>
  if (decide (v0 = (-1))) = true then
  some s
  else
  ck (InK .i64 (v0 + 1)) <| (whileO (slices_DeleteFunc_2_b1 c0) (s, v0, (v0 + 1))).bind fun r1 =>
  slices_DeleteFunc_2_k1 r1

/- (lineal/delay.accesses).onCircles -/
noncomputable def delay_accesses_onCircles (x0 : List (List (Int × Bool))) : Option ((List (Int × Int × Int))) :=
  (delay_accesses_found x0).bind fun v0 =>
  (delay_accesses_pairs x0).bind fun v0_2 =>
  (slices_DeleteFunc_2 v0_2 v0).bind fun v0_3 =>
  some v0_3

/- lineal/delay.Needed -/
noncomputable def delay_Needed (x0 : List (List (Int × Bool))) : Option ((List (Int × Int × Int)) × Int) :=
  (delay_accessesOf x0).bind fun v0 =>
  if (!(decide (v0.2 = 0))) = true then
  some ([], v0.2)
  else
  (delay_accesses_onCircles v0.1).bind fun v0_2 =>
  some (v0_2, 0)

/- lineal/lineallaw09.in -/
noncomputable def lineallaw09_in_k1 : Option Bool :=
  some false
noncomputable def lineallaw09_in_b1 (l : List (Int × Int × Int)) (s : Int × Int × Int) (st1 : Int) : Option (Step Int (Sum Unit Unit)) :=
  if (decide (st1 < (l.length : Int))) = true then
  ck (0 ≤ st1) <| ck (st1 < (l.length : Int)) <| ck (InK .i64 (l.getD st1.toNat (0, 0, 0)).1) <| ck (InK .i64 (l.getD st1.toNat (0, 0, 0)).2.1) <| ck (InK .i64 (l.getD st1.toNat (0, 0, 0)).2.2) <| ck (InK .i64 s.1) <| ck (InK .i64 s.2.1) <| ck (InK .i64 s.2.2) <| if (decide ((l.getD st1.toNat (0, 0, 0)) = s)) = true then
  some (.done (Sum.inl ()))
  else
  ck (InK .i64 (st1 + 1)) <| some (.next (st1 + 1))
  else
  some (.done (Sum.inr ()))
noncomputable def lineallaw09_in (l : List (Int × Int × Int)) (s : Int × Int × Int) : Option Bool :=
  (whileO (lineallaw09_in_b1 l s) 0).bind fun x => match x with
  | .inl _ => (some true)
  | .inr _ => (lineallaw09_in_k1)

/- lineal/lineallaw09.DelayTurns -/
noncomputable def lineallaw09_DelayTurns_k1 : Option Bool :=
  (lineallaw09_Awake).bind fun v0_14 =>
  some v0_14
noncomputable def lineallaw09_DelayTurns_b1 (x0 : List (List (Int × Bool))) (v0_9 : (List (Int × Int × Int)) × Int) (v0_10 : (List (Int × Int × Int)) × Int) (st1 : Int) : Option (Step Int (Sum Unit Unit)) :=
  if (decide (st1 < (v0_9.1.length : Int))) = true then
  ck (0 ≤ st1) <| ck (st1 < (v0_9.1.length : Int)) <| if (decide ((v0_9.1.getD st1.toNat (0, 0, 0)).1 < 0)) = true then
  some (.done (Sum.inl ()))
  else
  if (decide ((x0.length : Int) ≤ (v0_9.1.getD st1.toNat (0, 0, 0)).1)) = true then
  some (.done (Sum.inl ()))
  else
  ck (0 ≤ (v0_9.1.getD st1.toNat (0, 0, 0)).1) <| ck ((v0_9.1.getD st1.toNat (0, 0, 0)).1 < (x0.length : Int)) <| ck (InK .i64 (((x0.getD (v0_9.1.getD st1.toNat (0, 0, 0)).1.toNat []).length : Int) - 1)) <| ck (InK .i64 ((((x0.getD (v0_9.1.getD st1.toNat (0, 0, 0)).1.toNat []).length : Int) - 1) - (v0_9.1.getD st1.toNat (0, 0, 0)).2.2)) <| ck (InK .i64 ((((x0.getD (v0_9.1.getD st1.toNat (0, 0, 0)).1.toNat []).length : Int) - 1) - (v0_9.1.getD st1.toNat (0, 0, 0)).2.1)) <| (lineallaw09_in v0_10.1 ((v0_9.1.getD st1.toNat (0, 0, 0)).1, ((((x0.getD (v0_9.1.getD st1.toNat (0, 0, 0)).1.toNat []).length : Int) - 1) - (v0_9.1.getD st1.toNat (0, 0, 0)).2.2), ((((x0.getD (v0_9.1.getD st1.toNat (0, 0, 0)).1.toNat []).length : Int) - 1) - (v0_9.1.getD st1.toNat (0, 0, 0)).2.1))).bind fun v0_13 =>
  if (!v0_13) = true then
  some (.done (Sum.inl ()))
  else
  ck (InK .i64 (st1 + 1)) <| some (.next (st1 + 1))
  else
  some (.done (Sum.inr ()))
noncomputable def lineallaw09_DelayTurns (x0 : List (List (Int × Bool))) : Option Bool :=
  (lineallaw09_Long x0).bind fun v0 =>
  if v0 = true then
  (lineallaw09_Awake).bind fun v0_2 =>
  some v0_2
  else
  (linealref09_Valid x0).bind fun v0_3 =>
  if (!v0_3) = true then
  (lineallaw09_Awake).bind fun v0_4 =>
  some v0_4
  else
  (delay_Turned x0).bind fun v0_5 =>
  (delay_Turned v0_5.1).bind fun v0_6 =>
  if (!(decide (v0_5.2 = 0))) = true then
  some false
  else
  if (!(decide (v0_6.2 = 0))) = true then
  some false
  else
  (linealref09_SameAccesses v0_6.1 x0).bind fun v0_7 =>
  if (!v0_7) = true then
  some false
  else
  (linealref09_Valid v0_5.1).bind fun v0_8 =>
  if (!v0_8) = true then
  some false
  else
  (delay_Needed x0).bind fun v0_9 =>
  (delay_Needed v0_5.1).bind fun v0_10 =>
  (delay_Circles x0).bind fun v0_11 =>
  (delay_Circles v0_5.1).bind fun v0_12 =>
  if (!(decide (v0_9.2 = 0))) = true then
  some false
  else
  if (!(decide (v0_10.2 = 0))) = true then
  some false
  else
  if (!(decide (v0_11.2 = 0))) = true then
  some false
  else
  if (!(decide (v0_12.2 = 0))) = true then
  some false
  else
  if (!(decide ((v0_9.1.length : Int) = (v0_10.1.length : Int)))) = true then
  some false
  else
  if (!(decide (v0_11.1 = v0_12.1))) = true then
  some false
  else
  (whileO (lineallaw09_DelayTurns_b1 x0 v0_9 v0_10) 0).bind fun x => match x with
  | .inl _ => (some false)
  | .inr _ => (lineallaw09_DelayTurns_k1)

end Go.Proofs.Ytdicomoggfhbfaa
