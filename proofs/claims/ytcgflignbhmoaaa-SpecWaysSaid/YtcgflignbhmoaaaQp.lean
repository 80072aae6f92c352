/-
  Made by wip/tool/dc.py out of the print of the program: pure functions.
-/
import Derived.Test.YtcgflignbhmoaaaAvi
import Derived.Test.YtcgflignbhmoaaaBl
namespace Go.Proofs.Ytcgflignbhmoaaa
open Go.RowKit

set_option linter.unusedSimpArgs false
set_option linter.unusedVariables false
set_option linter.constructorNameAsVariable false

abbrev ZS : Type := List (Int × Int × (List (List Int)) × (List (List Int)))
abbrev ZH : Type := List (Int × Int × Int × Int × Int × Int)
abbrev ZM : Type := List (((Int × Int) × Int) × Int)
/- lineal/lineallaw01.wide -/
noncomputable def lineallaw01_wide_k1 (l : List (List Int)) : Option Bool :=
  some (decide (40 < (l.length : Int)))
noncomputable def lineallaw01_wide_b1 (l : List (List Int)) (st1 : Int) : Option (Step Int (Sum Unit Unit)) :=
  if (decide (st1 < (l.length : Int))) = true then
  ck (0 ≤ st1) <| ck (st1 < (l.length : Int)) <| if (decide (40 < ((l.getD st1.toNat []).length : Int))) = true then
  some (.done (Sum.inl ()))
  else
  ck (InK .i64 (st1 + 1)) <| some (.next (st1 + 1))
  else
  some (.done (Sum.inr ()))
noncomputable def lineallaw01_wide (l : List (List Int)) : Option Bool :=
  (whileO (lineallaw01_wide_b1 l) 0).bind fun x => match x with
  | .inl _ => (some true)
  | .inr _ => (lineallaw01_wide_k1 l)

/- lineal/lineallaw01.Long -/
noncomputable def lineallaw01_Long (s : Int × Int × (List (List Int)) × (List (List Int))) : Option Bool :=
  (lineallaw01_wide s.2.2.1).bind fun v0 =>
  if v0 = true then
  some true
  else
  (lineallaw01_wide s.2.2.2).bind fun v0_2 =>
  some v0_2

/- (lineal/spec.machine).isState -/
noncomputable def spec_machine_isState (m : Int × Int × (List (List Int)) × (List (List Int))) (n : Int) : Option Bool :=
  if (decide (0 ≤ n)) = true then
  some (decide (n < m.1))
  else
  some false

/- lineal/spec.all -/
noncomputable def spec_all_k1 : Option Bool :=
  some true
noncomputable def spec_all_b1 (is0 : Int × Int × (List (List Int)) × (List (List Int))) (numbers : List Int) (st1 : Int) : Option (Step Int (Sum Unit Unit)) :=
  if (decide (st1 < (numbers.length : Int))) = true then
  ck (0 ≤ st1) <| ck (st1 < (numbers.length : Int)) <| (spec_machine_isState is0 (numbers.getD st1.toNat 0)).bind fun v0 =>
  if (!v0) = true then
  some (.done (Sum.inl ()))
  else
  ck (InK .i64 (st1 + 1)) <| some (.next (st1 + 1))
  else
  some (.done (Sum.inr ()))
noncomputable def spec_all (is0 : Int × Int × (List (List Int)) × (List (List Int))) (numbers : List Int) : Option Bool :=
  (whileO (spec_all_b1 is0 numbers) 0).bind fun x => match x with
  | .inl _ => (some false)
  | .inr _ => (spec_all_k1)

/- (lineal/spec.machine).isTable -/
noncomputable def spec_machine_isTable_k1 : Option Bool :=
  some true
noncomputable def spec_machine_isTable_b1 (m : Int × Int × (List (List Int)) × (List (List Int))) (table : List (List Int)) (is0 : Int × Int × (List (List Int)) × (List (List Int))) (st1 : Int) : Option (Step Int (Sum Unit Unit)) :=
  if (decide (st1 < (table.length : Int))) = true then
  ck (0 ≤ st1) <| ck (st1 < (table.length : Int)) <| if (!(decide (((table.getD st1.toNat []).length : Int) = m.2.1))) = true then
  some (.done (Sum.inl ()))
  else
  (spec_all is0 (table.getD st1.toNat [])).bind fun v0 =>
  if (!v0) = true then
  some (.done (Sum.inl ()))
  else
  ck (InK .i64 (st1 + 1)) <| some (.next (st1 + 1))
  else
  some (.done (Sum.inr ()))
noncomputable def spec_machine_isTable (m : Int × Int × (List (List Int)) × (List (List Int))) (table : List (List Int)) (is0 : Int × Int × (List (List Int)) × (List (List Int))) : Option Bool :=
  if (!(decide ((table.length : Int) = m.1))) = true then
  some false
  else
  (whileO (spec_machine_isTable_b1 m table is0) 0).bind fun x => match x with
  | .inl _ => (some false)
  | .inr _ => (spec_machine_isTable_k1)

/- lineal/spec.isAnswer -/
noncomputable def spec_isAnswer (n : Int) : Option Bool :=
  if (decide (0 ≤ n)) = true then
  some (decide (n ≤ 5))
  else
  some false

/- lineal/spec.all -/
noncomputable def spec_all_2_k1 : Option Bool :=
  some true
noncomputable def spec_all_2_b1 (numbers : List Int) (st1 : Int) : Option (Step Int (Sum Unit Unit)) :=
  if (decide (st1 < (numbers.length : Int))) = true then
  ck (0 ≤ st1) <| ck (st1 < (numbers.length : Int)) <| (spec_isAnswer (numbers.getD st1.toNat 0)).bind fun v0 =>
  if (!v0) = true then
  some (.done (Sum.inl ()))
  else
  ck (InK .i64 (st1 + 1)) <| some (.next (st1 + 1))
  else
  some (.done (Sum.inr ()))
noncomputable def spec_all_2 (numbers : List Int) : Option Bool :=
  (whileO (spec_all_2_b1 numbers) 0).bind fun x => match x with
  | .inl _ => (some false)
  | .inr _ => (spec_all_2_k1)

/- (lineal/spec.machine).isTable -/
noncomputable def spec_machine_isTable_2_k1 : Option Bool :=
  some true
noncomputable def spec_machine_isTable_2_b1 (m : Int × Int × (List (List Int)) × (List (List Int))) (table : List (List Int)) (st1 : Int) : Option (Step Int (Sum Unit Unit)) :=
  if (decide (st1 < (table.length : Int))) = true then
  ck (0 ≤ st1) <| ck (st1 < (table.length : Int)) <| if (!(decide (((table.getD st1.toNat []).length : Int) = m.2.1))) = true then
  some (.done (Sum.inl ()))
  else
  (spec_all_2 (table.getD st1.toNat [])).bind fun v0 =>
  if (!v0) = true then
  some (.done (Sum.inl ()))
  else
  ck (InK .i64 (st1 + 1)) <| some (.next (st1 + 1))
  else
  some (.done (Sum.inr ()))
noncomputable def spec_machine_isTable_2 (m : Int × Int × (List (List Int)) × (List (List Int))) (table : List (List Int)) : Option Bool :=
  if (!(decide ((table.length : Int) = m.1))) = true then
  some false
  else
  (whileO (spec_machine_isTable_2_b1 m table) 0).bind fun x => match x with
  | .inl _ => (some false)
  | .inr _ => (spec_machine_isTable_2_k1)

/- lineal/spec.Valid -/
noncomputable def spec_Valid (s : Int × Int × (List (List Int)) × (List (List Int))) : Option Bool :=
  if (decide (s.1 < 1)) = true then
  some false
  else
  if (decide (8 < s.1)) = true then
  some false
  else
  if (decide (s.2.1 < 1)) = true then
  some false
  else
  if (decide (4 < s.2.1)) = true then
  some false
  else
  (spec_machine_isTable s s.2.2.1 s).bind fun v0 =>
  if v0 = true then
  (spec_machine_isTable_2 s s.2.2.2).bind fun v0_2 =>
  some v0_2
  else
  some false

/- lineal/spec.checked -/
noncomputable def spec_checked (s : Int × Int × (List (List Int)) × (List (List Int))) (states : List Int) : Option (Int × Int × (List (List Int)) × (List (List Int)) × Int) :=
  (spec_Valid s).bind fun v0 =>
  if (!v0) = true then
  some (0, 0, [], [], 10)
  else
  (spec_all s states).bind fun v0_2 =>
  if (!v0_2) = true then
  some (0, 0, [], [], 2)
  else
  some (s.1, s.2.1, s.2.2.1, s.2.2.2, 0)

/- lineal/spec.walk -/
noncomputable def spec_walk (m : Int × Int × (List (List Int)) × (List (List Int))) (n : Int × Int × (List (List Int)) × (List (List Int))) (from0 : Int × Int) : Option Unit :=
  some ()

/- slices.Clone[[]int,int] -/
noncomputable def slices_Clone (s : List Int) : Option ((List Int)) :=
  ck (s.length * 8 ≤ 140737488355328) <| some s

/- lineal/spec.longer -/
noncomputable def spec_longer (word : List Int) (op0 : Int) : Option ((List Int)) :=
  (slices_Clone word).bind fun v0 =>
  ck ((v0.length + 1) * 8 ≤ 140737488355328) <| some (v0 ++ [op0])

/- lineal/spec.walk$1 -/
noncomputable def spec_walk_1_k1 (S R : Type) (st1 : (List (Int × Int)) × (List (List Int)) × (List ((Int × Int) × Bool)) × Int × S) (b1 : (List (Int × Int)) × (List (List Int)) × (List ((Int × Int) × Bool)) × S) : Option (Step ((List (Int × Int)) × (List (List Int)) × (List ((Int × Int) × Bool)) × Int × S) (Sum R S)) :=
  ck (InK .i64 (st1.2.2.2.1 + 1)) <| some (.next (b1.1, b1.2.1, b1.2.2.1, (st1.2.2.2.1 + 1), b1.2.2.2))
noncomputable def spec_walk_1_b2 (S R : Type) (a2 : Int × Int × (List (List Int)) × (List (List Int))) (a3 : Int × Int × (List (List Int)) × (List (List Int))) (st1 : (List (Int × Int)) × (List (List Int)) × (List ((Int × Int) × Bool)) × Int × S) (st2 : (List (Int × Int)) × (List (List Int)) × (List ((Int × Int) × Bool)) × Int) : Option (Step ((List (Int × Int)) × (List (List Int)) × (List ((Int × Int) × Bool)) × Int) ((List (Int × Int)) × (List (List Int)) × (List ((Int × Int) × Bool)))) :=
  if (decide (st2.2.2.2 < a2.2.1)) = true then
  ck (0 ≤ (st1.1.getD st1.2.2.2.1.toNat (0, 0)).1) <| ck ((st1.1.getD st1.2.2.2.1.toNat (0, 0)).1 < (a2.2.2.1.length : Int)) <| ck (0 ≤ st2.2.2.2) <| ck (st2.2.2.2 < ((a2.2.2.1.getD (st1.1.getD st1.2.2.2.1.toNat (0, 0)).1.toNat []).length : Int)) <| ck (0 ≤ (st1.1.getD st1.2.2.2.1.toNat (0, 0)).2) <| ck ((st1.1.getD st1.2.2.2.1.toNat (0, 0)).2 < (a3.2.2.1.length : Int)) <| ck (0 ≤ st2.2.2.2) <| ck (st2.2.2.2 < ((a3.2.2.1.getD (st1.1.getD st1.2.2.2.1.toNat (0, 0)).2.toNat []).length : Int)) <| ck (InK .i64 ((a2.2.2.1.getD (st1.1.getD st1.2.2.2.1.toNat (0, 0)).1.toNat []).getD st2.2.2.2.toNat 0)) <| ck (InK .i64 ((a3.2.2.1.getD (st1.1.getD st1.2.2.2.1.toNat (0, 0)).2.toNat []).getD st2.2.2.2.toNat 0)) <| if (!(mget false st2.2.2.1 (((a2.2.2.1.getD (st1.1.getD st1.2.2.2.1.toNat (0, 0)).1.toNat []).getD st2.2.2.2.toNat 0), ((a3.2.2.1.getD (st1.1.getD st1.2.2.2.1.toNat (0, 0)).2.toNat []).getD st2.2.2.2.toNat 0)))) = true then
  ck (InK .i64 ((a2.2.2.1.getD (st1.1.getD st1.2.2.2.1.toNat (0, 0)).1.toNat []).getD st2.2.2.2.toNat 0)) <| ck (InK .i64 ((a3.2.2.1.getD (st1.1.getD st1.2.2.2.1.toNat (0, 0)).2.toNat []).getD st2.2.2.2.toNat 0)) <| ck ((st2.1.length + 1) * 16 ≤ 140737488355328) <| (spec_longer (st1.2.1.getD st1.2.2.2.1.toNat []) st2.2.2.2).bind fun v0 =>
  ck ((st2.2.1.length + 1) * 24 ≤ 140737488355328) <| ck (InK .i64 (st2.2.2.2 + 1)) <| some (.next ((st2.1 ++ [(((a2.2.2.1.getD (st1.1.getD st1.2.2.2.1.toNat (0, 0)).1.toNat []).getD st2.2.2.2.toNat 0), ((a3.2.2.1.getD (st1.1.getD st1.2.2.2.1.toNat (0, 0)).2.toNat []).getD st2.2.2.2.toNat 0))]), (st2.2.1 ++ [v0]), (mput st2.2.2.1 (((a2.2.2.1.getD (st1.1.getD st1.2.2.2.1.toNat (0, 0)).1.toNat []).getD st2.2.2.2.toNat 0), ((a3.2.2.1.getD (st1.1.getD st1.2.2.2.1.toNat (0, 0)).2.toNat []).getD st2.2.2.2.toNat 0)) true), (st2.2.2.2 + 1)))
  else
  ck (InK .i64 (st2.2.2.2 + 1)) <| some (.next (st2.1, st2.2.1, st2.2.2.1, (st2.2.2.2 + 1)))
  else
  some (.done (st2.1, st2.2.1, st2.2.2.1))
noncomputable def spec_walk_1_b1 (S R : Type) (a2 : Int × Int × (List (List Int)) × (List (List Int))) (a3 : Int × Int × (List (List Int)) × (List (List Int))) (yl : (Int × Int) × (List Int) → S → Option (Step S R)) (st1 : (List (Int × Int)) × (List (List Int)) × (List ((Int × Int) × Bool)) × Int × S) : Option (Step ((List (Int × Int)) × (List (List Int)) × (List ((Int × Int) × Bool)) × Int × S) (Sum R S)) :=
  if (decide (st1.2.2.2.1 < (st1.1.length : Int))) = true then
  ck (0 ≤ st1.2.2.2.1) <| ck (st1.2.2.2.1 < (st1.1.length : Int)) <| ck (0 ≤ st1.2.2.2.1) <| ck (st1.2.2.2.1 < (st1.2.1.length : Int)) <| (yl ((st1.1.getD st1.2.2.2.1.toNat (0, 0)), (st1.2.1.getD st1.2.2.2.1.toNat [])) st1.2.2.2.2).bind fun x => match x with
  | .next s => ((whileO (spec_walk_1_b2 S R a2 a3 st1) (st1.1, st1.2.1, st1.2.2.1, 0)).bind fun r2 =>
  spec_walk_1_k1 S R st1 (r2.1, r2.2.1, r2.2.2, s))
  | .done e => (some (.done (Sum.inl e)))
  else
  some (.done (Sum.inr st1.2.2.2.2))
noncomputable def spec_walk_1 (S R : Type) (a1 : Int × Int) (a2 : Int × Int × (List (List Int)) × (List (List Int))) (a3 : Int × Int × (List (List Int)) × (List (List Int))) (yl : (Int × Int) × (List Int) → S → Option (Step S R)) (s0 : S) : Option (Sum S R) :=
  ck (InK .i64 a1.1) <| ck (InK .i64 a1.2) <| (whileO (spec_walk_1_b1 S R a2 a3 yl) ([a1], [[]], (mput [] a1 true), 0, s0)).bind fun x => match x with
  | .inl r1 => (some (Sum.inr r1))
  | .inr r1_2 => (some (Sum.inl r1_2))

/- lineal/spec.apart -/
noncomputable def spec_apart_k1 : Option ((List Int) × Bool) :=
  some ([], false)
noncomputable def spec_apart_b2 (m : Int × Int × (List (List Int)) × (List (List Int))) (n : Int × Int × (List (List Int)) × (List (List Int))) (y1 : (Int × Int) × (List Int)) (st2 : Int) : Option (Step Int (Sum ((List Int)) Unit)) :=
  if (decide (st2 < m.2.1)) = true then
  ck (0 ≤ y1.1.1) <| ck (y1.1.1 < (m.2.2.2.length : Int)) <| ck (0 ≤ st2) <| ck (st2 < ((m.2.2.2.getD y1.1.1.toNat []).length : Int)) <| ck (0 ≤ y1.1.2) <| ck (y1.1.2 < (n.2.2.2.length : Int)) <| ck (0 ≤ st2) <| ck (st2 < ((n.2.2.2.getD y1.1.2.toNat []).length : Int)) <| if (!(decide (((m.2.2.2.getD y1.1.1.toNat []).getD st2.toNat 0) = ((n.2.2.2.getD y1.1.2.toNat []).getD st2.toNat 0)))) = true then
  (spec_longer y1.2 st2).bind fun v0_2 =>
  some (.done (Sum.inl v0_2))
  else
  ck (InK .i64 (st2 + 1)) <| some (.next (st2 + 1))
  else
  some (.done (Sum.inr ()))
noncomputable def spec_apart_y1 (m : Int × Int × (List (List Int)) × (List (List Int))) (n : Int × Int × (List (List Int)) × (List (List Int))) (y1 : (Int × Int) × (List Int)) (st1 : Unit) : Option (Step Unit ((List Int))) :=
  (whileO (spec_apart_b2 m n y1) 0).bind fun x => match x with
  | .inl r2 => (some (.done r2))
  | .inr _ => (some (.next ()))
noncomputable def spec_apart (m : Int × Int × (List (List Int)) × (List (List Int))) (n : Int × Int × (List (List Int)) × (List (List Int))) (from0 : Int × Int) : Option ((List Int) × Bool) :=
  (spec_walk m n from0).bind fun v0 =>
  (spec_walk_1 Unit ((List Int)) from0 m n (spec_apart_y1 m n) ()).bind fun x => match x with
  | .inl st1_2 => (spec_apart_k1)
  | .inr r1 => (some (r1, true))

/- lineal/spec.Word -/
noncomputable def spec_Word (s : Int × Int × (List (List Int)) × (List (List Int))) (a : Int) (b : Int) : Option ((List Int) × Int) :=
  (spec_checked s [a, b]).bind fun v0 =>
  if (!(decide (v0.2.2.2.2 = 0))) = true then
  some ([], v0.2.2.2.2)
  else
  (spec_apart (v0.1, v0.2.1, v0.2.2.1, v0.2.2.2.1) (v0.1, v0.2.1, v0.2.2.1, v0.2.2.2.1) (a, b)).bind fun v0_2 =>
  if (!v0_2.2) = true then
  some ([], 5)
  else
  some (v0_2.1, 0)

/- lineal/linealref01.SameInts -/
noncomputable def linealref01_SameInts_k1 : Option Bool :=
  some true
noncomputable def linealref01_SameInts_b1 (a : List Int) (b : List Int) (st1 : Int) : Option (Step Int (Sum Unit Unit)) :=
  if (decide (st1 < (a.length : Int))) = true then
  ck (0 ≤ st1) <| ck (st1 < (a.length : Int)) <| ck (0 ≤ st1) <| ck (st1 < (b.length : Int)) <| if (!(decide ((a.getD st1.toNat 0) = (b.getD st1.toNat 0)))) = true then
  some (.done (Sum.inl ()))
  else
  ck (InK .i64 (st1 + 1)) <| some (.next (st1 + 1))
  else
  some (.done (Sum.inr ()))
noncomputable def linealref01_SameInts (a : List Int) (b : List Int) : Option Bool :=
  if (!(decide ((a.length : Int) = (b.length : Int)))) = true then
  some false
  else
  (whileO (linealref01_SameInts_b1 a b) 0).bind fun x => match x with
  | .inl _ => (some false)
  | .inr _ => (linealref01_SameInts_k1)

/- lineal/lineallaw01.Awake -/
noncomputable def lineallaw01_Awake : Option Bool :=
  (spec_Word (2, 2, [[1, 0], [1, 1]], [[0, 0], [0, 1]]) 0 1).bind fun v0 =>
  if (decide (v0.2 = 0)) = true then
  (linealref01_SameInts v0.1 [1]).bind fun v0_2 =>
  some v0_2
  else
  some false

/- lineal/spec.Begun -/
noncomputable def spec_Begun_k2 (s : Int × Int × (List (List Int)) × (List (List Int))) (b4_3 : (List (List Int)) × (List (List Int))) : Option (Int × Int × (List (List Int)) × (List (List Int)) × Int) :=
  some (s.1, s.2.1, b4_3.1, b4_3.2, 0)
noncomputable def spec_Begun_k3 (st2 : (List (List Int)) × (List (List Int)) × Int) (b4_2 : (List (List Int)) × (List (List Int))) : Option (Step ((List (List Int)) × (List (List Int)) × Int) ((List (List Int)) × (List (List Int)))) :=
  ck (InK .i64 (st2.2.2 + 1)) <| some (.next (b4_2.1, b4_2.2, (st2.2.2 + 1)))
noncomputable def spec_Begun_k4 (s : Int × Int × (List (List Int)) × (List (List Int))) (state : Int) (b1 : (List Int)) (st2 : (List (List Int)) × (List (List Int)) × Int) (b4 : (List Int)) : Option (Step ((List (List Int)) × (List (List Int)) × Int) ((List (List Int)) × (List (List Int)))) :=
  ck ((st2.1.length + 1) * 24 ≤ 140737488355328) <| ck (0 ≤ (((b1.set 0 state).set state.toNat 0).getD st2.2.2.toNat 0)) <| ck ((((b1.set 0 state).set state.toNat 0).getD st2.2.2.toNat 0) < (s.2.2.2.length : Int)) <| (slices_Clone (s.2.2.2.getD (((b1.set 0 state).set state.toNat 0).getD st2.2.2.toNat 0).toNat [])).bind fun v0_2 =>
  ck ((st2.2.1.length + 1) * 24 ≤ 140737488355328) <| spec_Begun_k3 st2 ((st2.1 ++ [b4]), (st2.2.1 ++ [v0_2]))
noncomputable def spec_Begun_b3 (s : Int × Int × (List (List Int)) × (List (List Int))) (state : Int) (b1 : (List Int)) (st2 : (List (List Int)) × (List (List Int)) × Int) (st3 : (List Int) × Int) : Option (Step ((List Int) × Int) ((List Int))) :=
  if (decide (st3.2 < ((s.2.2.1.getD (((b1.set 0 state).set state.toNat 0).getD st2.2.2.toNat 0).toNat []).length : Int))) = true then
  ck (0 ≤ st3.2) <| ck (st3.2 < ((s.2.2.1.getD (((b1.set 0 state).set state.toNat 0).getD st2.2.2.toNat 0).toNat []).length : Int)) <| ck (0 ≤ ((s.2.2.1.getD (((b1.set 0 state).set state.toNat 0).getD st2.2.2.toNat 0).toNat []).getD st3.2.toNat 0)) <| ck (((s.2.2.1.getD (((b1.set 0 state).set state.toNat 0).getD st2.2.2.toNat 0).toNat []).getD st3.2.toNat 0) < (((b1.set 0 state).set state.toNat 0).length : Int)) <| ck (0 ≤ st3.2) <| ck (st3.2 < (st3.1.length : Int)) <| ck (InK .i64 (st3.2 + 1)) <| some (.next ((st3.1.set st3.2.toNat (((b1.set 0 state).set state.toNat 0).getD ((s.2.2.1.getD (((b1.set 0 state).set state.toNat 0).getD st2.2.2.toNat 0).toNat []).getD st3.2.toNat 0).toNat 0)), (st3.2 + 1)))
  else
  some (.done st3.1)
noncomputable def spec_Begun_b2 (s : Int × Int × (List (List Int)) × (List (List Int))) (state : Int) (b1 : (List Int)) (st2 : (List (List Int)) × (List (List Int)) × Int) : Option (Step ((List (List Int)) × (List (List Int)) × Int) ((List (List Int)) × (List (List Int)))) :=
  if (decide (st2.2.2 < (((b1.set 0 state).set state.toNat 0).length : Int))) = true then
  ck (0 ≤ st2.2.2) <| ck (st2.2.2 < (((b1.set 0 state).set state.toNat 0).length : Int)) <| ck (0 ≤ s.2.1) <| ck (8 * s.2.1 ≤ 281474976710656) <| ck (0 ≤ (((b1.set 0 state).set state.toNat 0).getD st2.2.2.toNat 0)) <| ck ((((b1.set 0 state).set state.toNat 0).getD st2.2.2.toNat 0) < (s.2.2.1.length : Int)) <| (whileO (spec_Begun_b3 s state b1 st2) ((List.replicate s.2.1.toNat (0 : Int)), 0)).bind fun r3 =>
  spec_Begun_k4 s state b1 st2 r3
  else
  some (.done (st2.1, st2.2.1))
noncomputable def spec_Begun_k1 (s : Int × Int × (List (List Int)) × (List (List Int))) (state : Int) (b1 : (List Int)) : Option (Int × Int × (List (List Int)) × (List (List Int)) × Int) :=
  ck (0 < (b1.length : Int)) <| ck (0 ≤ state) <| ck (state < ((b1.set 0 state).length : Int)) <| (whileO (spec_Begun_b2 s state b1) ([], [], 0)).bind fun r2 =>
  spec_Begun_k2 s r2
noncomputable def spec_Begun_b1 (s : Int × Int × (List (List Int)) × (List (List Int))) (st1 : (List Int) × Int) : Option (Step ((List Int) × Int) ((List Int))) :=
  if (decide (st1.2 < ((List.replicate s.1.toNat (0 : Int)).length : Int))) = true then
  ck (0 ≤ st1.2) <| ck (st1.2 < (st1.1.length : Int)) <| ck (InK .i64 (st1.2 + 1)) <| some (.next ((st1.1.set st1.2.toNat st1.2), (st1.2 + 1)))
  else
  some (.done st1.1)
noncomputable def spec_Begun (s : Int × Int × (List (List Int)) × (List (List Int))) (state : Int) : Option (Int × Int × (List (List Int)) × (List (List Int)) × Int) :=
  (spec_checked s [state]).bind fun v0 =>
  if (!(decide (v0.2.2.2.2 = 0))) = true then
  some (0, 0, [], [], v0.2.2.2.2)
  else
  ck (0 ≤ s.1) <| ck (8 * s.1 ≤ 281474976710656) <| (whileO (spec_Begun_b1 s) ((List.replicate s.1.toNat (0 : Int)), 0)).bind fun r1 =>
  spec_Begun_k1 s state r1

/- lineal/linealref01.isTable -/
noncomputable def linealref01_isTable_k1 : Option Bool :=
  some true
noncomputable def linealref01_isTable_k2 (st1 : Int) : Option (Step Int (Sum Unit Unit)) :=
  ck (InK .i64 (st1 + 1)) <| some (.next (st1 + 1))
noncomputable def linealref01_isTable_b2 (l : List (List Int)) (limit : Int) (st1 : Int) (st2 : Int) : Option (Step Int (Sum Unit Unit)) :=
  if (decide (st2 < ((l.getD st1.toNat []).length : Int))) = true then
  ck (0 ≤ st2) <| ck (st2 < ((l.getD st1.toNat []).length : Int)) <| if (decide (((l.getD st1.toNat []).getD st2.toNat 0) < 0)) = true then
  some (.done (Sum.inl ()))
  else
  if (decide (limit ≤ ((l.getD st1.toNat []).getD st2.toNat 0))) = true then
  some (.done (Sum.inl ()))
  else
  ck (InK .i64 (st2 + 1)) <| some (.next (st2 + 1))
  else
  some (.done (Sum.inr ()))
noncomputable def linealref01_isTable_b1 (s : Int × Int × (List (List Int)) × (List (List Int))) (l : List (List Int)) (limit : Int) (st1 : Int) : Option (Step Int (Sum Unit Unit)) :=
  if (decide (st1 < (l.length : Int))) = true then
  ck (0 ≤ st1) <| ck (st1 < (l.length : Int)) <| if (!(decide (((l.getD st1.toNat []).length : Int) = s.2.1))) = true then
  some (.done (Sum.inl ()))
  else
  (whileO (linealref01_isTable_b2 l limit st1) 0).bind fun x => match x with
  | .inl _ => (some (.done (Sum.inl ())))
  | .inr _ => (linealref01_isTable_k2 st1)
  else
  some (.done (Sum.inr ()))
noncomputable def linealref01_isTable (s : Int × Int × (List (List Int)) × (List (List Int))) (l : List (List Int)) (limit : Int) : Option Bool :=
  if (!(decide ((l.length : Int) = s.1))) = true then
  some false
  else
  (whileO (linealref01_isTable_b1 s l limit) 0).bind fun x => match x with
  | .inl _ => (some false)
  | .inr _ => (linealref01_isTable_k1)

/- lineal/linealref01.Valid -/
noncomputable def linealref01_Valid (s : Int × Int × (List (List Int)) × (List (List Int))) : Option Bool :=
  if (decide (1 ≤ s.1)) = true then
  if (decide (s.1 ≤ 8)) = true then
  if (decide (1 ≤ s.2.1)) = true then
  if (decide (s.2.1 ≤ 4)) = true then
  (linealref01_isTable s s.2.2.1 s.1).bind fun v0 =>
  if v0 = true then
  (linealref01_isTable s s.2.2.2 6).bind fun v0_2 =>
  some v0_2
  else
  some false
  else
  some false
  else
  some false
  else
  some false
  else
  some false

/- lineal/linealref01.IsState -/
noncomputable def linealref01_IsState (s : Int × Int × (List (List Int)) × (List (List Int))) (n : Int) : Option Bool :=
  if (decide (0 ≤ n)) = true then
  some (decide (n < s.1))
  else
  some false

/- lineal/linealref01.asked -/
noncomputable def linealref01_asked (s : Int × Int × (List (List Int)) × (List (List Int))) (a : Int) (b : Int) : Option Int :=
  (linealref01_Valid s).bind fun v0 =>
  if (!v0) = true then
  some 10
  else
  (linealref01_IsState s a).bind fun v0_2 =>
  if (!v0_2) = true then
  some 2
  else
  (linealref01_IsState s b).bind fun v0_3 =>
  if (!v0_3) = true then
  some 2
  else
  some 0

/- lineal/linealref01.exchanged -/
noncomputable def linealref01_exchanged (n : Int) (other : Int) : Option Int :=
  if (decide (n = 0)) = true then
  some other
  else
  if (decide (n = other)) = true then
  some 0
  else
  some n

/- lineal/linealref01.Begun -/
noncomputable def linealref01_Begun_k1 (s : Int × Int × (List (List Int)) × (List (List Int))) (b3_3 : (List (List Int)) × (List (List Int))) : Option (Int × Int × (List (List Int)) × (List (List Int)) × Int) :=
  some (s.1, s.2.1, b3_3.1, b3_3.2, 0)
noncomputable def linealref01_Begun_k2 (st1 : (List (List Int)) × (List (List Int)) × Int) (b3_2 : (List (List Int)) × (List (List Int))) : Option (Step ((List (List Int)) × (List (List Int)) × Int) ((List (List Int)) × (List (List Int)))) :=
  ck (InK .i64 (st1.2.2 + 1)) <| some (.next (b3_2.1, b3_2.2, (st1.2.2 + 1)))
noncomputable def linealref01_Begun_k3 (s : Int × Int × (List (List Int)) × (List (List Int))) (st1 : (List (List Int)) × (List (List Int)) × Int) (v0_2 : Int) (b3 : (List Int)) : Option (Step ((List (List Int)) × (List (List Int)) × Int) ((List (List Int)) × (List (List Int)))) :=
  ck ((st1.1.length + 1) * 24 ≤ 140737488355328) <| ck (0 ≤ v0_2) <| ck (v0_2 < (s.2.2.2.length : Int)) <| ck ((s.2.2.2.getD v0_2.toNat []).length * 8 ≤ 140737488355328) <| ck ((st1.2.1.length + 1) * 24 ≤ 140737488355328) <| linealref01_Begun_k2 st1 ((st1.1 ++ [b3]), (st1.2.1 ++ [(s.2.2.2.getD v0_2.toNat [])]))
noncomputable def linealref01_Begun_b2 (s : Int × Int × (List (List Int)) × (List (List Int))) (state : Int) (v0_2 : Int) (st2 : (List Int) × Int) : Option (Step ((List Int) × Int) ((List Int))) :=
  if (decide (st2.2 < ((s.2.2.1.getD v0_2.toNat []).length : Int))) = true then
  ck (0 ≤ st2.2) <| ck (st2.2 < ((s.2.2.1.getD v0_2.toNat []).length : Int)) <| (linealref01_exchanged ((s.2.2.1.getD v0_2.toNat []).getD st2.2.toNat 0) state).bind fun v0_3 =>
  ck ((st2.1.length + 1) * 8 ≤ 140737488355328) <| ck (InK .i64 (st2.2 + 1)) <| some (.next ((st2.1 ++ [v0_3]), (st2.2 + 1)))
  else
  some (.done st2.1)
noncomputable def linealref01_Begun_b1 (s : Int × Int × (List (List Int)) × (List (List Int))) (state : Int) (st1 : (List (List Int)) × (List (List Int)) × Int) : Option (Step ((List (List Int)) × (List (List Int)) × Int) ((List (List Int)) × (List (List Int)))) :=
  if (decide (st1.2.2 < s.1)) = true then
  (linealref01_exchanged st1.2.2 state).bind fun v0_2 =>
  ck (0 ≤ v0_2) <| ck (v0_2 < (s.2.2.1.length : Int)) <| (whileO (linealref01_Begun_b2 s state v0_2) ([], 0)).bind fun r2 =>
  linealref01_Begun_k3 s st1 v0_2 r2
  else
  some (.done (st1.1, st1.2.1))
noncomputable def linealref01_Begun (s : Int × Int × (List (List Int)) × (List (List Int))) (state : Int) : Option (Int × Int × (List (List Int)) × (List (List Int)) × Int) :=
  (linealref01_asked s state state).bind fun v0 =>
  if (!(decide (v0 = 0))) = true then
  some (0, 0, [], [], v0)
  else
  (whileO (linealref01_Begun_b1 s state) ([], [], 0)).bind fun r1 =>
  linealref01_Begun_k1 s r1

/- lineal/linealref01.SameLists -/
noncomputable def linealref01_SameLists_k1 : Option Bool :=
  some true
noncomputable def linealref01_SameLists_b1 (a : List (List Int)) (b : List (List Int)) (st1 : Int) : Option (Step Int (Sum Unit Unit)) :=
  if (decide (st1 < (a.length : Int))) = true then
  ck (0 ≤ st1) <| ck (st1 < (a.length : Int)) <| ck (0 ≤ st1) <| ck (st1 < (b.length : Int)) <| (linealref01_SameInts (a.getD st1.toNat []) (b.getD st1.toNat [])).bind fun v0 =>
  if (!v0) = true then
  some (.done (Sum.inl ()))
  else
  ck (InK .i64 (st1 + 1)) <| some (.next (st1 + 1))
  else
  some (.done (Sum.inr ()))
noncomputable def linealref01_SameLists (a : List (List Int)) (b : List (List Int)) : Option Bool :=
  if (!(decide ((a.length : Int) = (b.length : Int)))) = true then
  some false
  else
  (whileO (linealref01_SameLists_b1 a b) 0).bind fun x => match x with
  | .inl _ => (some false)
  | .inr _ => (linealref01_SameLists_k1)

/- lineal/linealref01.Equal -/
noncomputable def linealref01_Equal (a : Int × Int × (List (List Int)) × (List (List Int))) (b : Int × Int × (List (List Int)) × (List (List Int))) : Option Bool :=
  if (decide (a.1 = b.1)) = true then
  if (decide (a.2.1 = b.2.1)) = true then
  (linealref01_SameLists a.2.2.1 b.2.2.1).bind fun v0 =>
  if v0 = true then
  (linealref01_SameLists a.2.2.2 b.2.2.2).bind fun v0_2 =>
  some v0_2
  else
  some false
  else
  some false
  else
  some false

/- lineal/lineallaw01.SpecBegun -/
noncomputable def lineallaw01_SpecBegun (s : Int × Int × (List (List Int)) × (List (List Int))) (state : Int) : Option Bool :=
  (lineallaw01_Long s).bind fun v0 =>
  if v0 = true then
  (lineallaw01_Awake).bind fun v0_2 =>
  some v0_2
  else
  (spec_Begun s state).bind fun v0_3 =>
  (linealref01_Begun s state).bind fun v0_4 =>
  (linealref01_Equal (v0_3.1, v0_3.2.1, v0_3.2.2.1, v0_3.2.2.2.1) (v0_4.1, v0_4.2.1, v0_4.2.2.1, v0_4.2.2.2.1)).bind fun v0_5 =>
  if v0_5 = true then
  if (decide (v0_3.2.2.2.2 = v0_4.2.2.2.2)) = true then
  (lineallaw01_Awake).bind fun v0_6 =>
  some v0_6
  else
  some false
  else
  some false

/- lineal/linealref01.IsOp -/
noncomputable def linealref01_IsOp (s : Int × Int × (List (List Int)) × (List (List Int))) (n : Int) : Option Bool :=
  if (decide (0 ≤ n)) = true then
  some (decide (n < s.2.1))
  else
  some false

/- lineal/linealref01.IsWord -/
noncomputable def linealref01_IsWord_k1 (word : List Int) : Option Bool :=
  some (decide ((word.length : Int) ≤ 20))
noncomputable def linealref01_IsWord_b1 (s : Int × Int × (List (List Int)) × (List (List Int))) (word : List Int) (st1 : Int) : Option (Step Int (Sum Unit Unit)) :=
  if (decide (st1 < (word.length : Int))) = true then
  ck (0 ≤ st1) <| ck (st1 < (word.length : Int)) <| (linealref01_IsOp s (word.getD st1.toNat 0)).bind fun v0 =>
  if (!v0) = true then
  some (.done (Sum.inl ()))
  else
  ck (InK .i64 (st1 + 1)) <| some (.next (st1 + 1))
  else
  some (.done (Sum.inr ()))
noncomputable def linealref01_IsWord (s : Int × Int × (List (List Int)) × (List (List Int))) (word : List Int) : Option Bool :=
  (whileO (linealref01_IsWord_b1 s word) 0).bind fun x => match x with
  | .inl _ => (some false)
  | .inr _ => (linealref01_IsWord_k1 word)

/- (lineal/spec.machine).isCall -/
noncomputable def spec_machine_isCall (m : Int × Int × (List (List Int)) × (List (List Int))) (n : Int) : Option Bool :=
  if (decide (0 ≤ n)) = true then
  some (decide (n < m.2.1))
  else
  some false

/- lineal/spec.all -/
noncomputable def spec_all_3_k1 : Option Bool :=
  some true
noncomputable def spec_all_3_b1 (is0 : Int × Int × (List (List Int)) × (List (List Int))) (numbers : List Int) (st1 : Int) : Option (Step Int (Sum Unit Unit)) :=
  if (decide (st1 < (numbers.length : Int))) = true then
  ck (0 ≤ st1) <| ck (st1 < (numbers.length : Int)) <| (spec_machine_isCall is0 (numbers.getD st1.toNat 0)).bind fun v0 =>
  if (!v0) = true then
  some (.done (Sum.inl ()))
  else
  ck (InK .i64 (st1 + 1)) <| some (.next (st1 + 1))
  else
  some (.done (Sum.inr ()))
noncomputable def spec_all_3 (is0 : Int × Int × (List (List Int)) × (List (List Int))) (numbers : List Int) : Option Bool :=
  (whileO (spec_all_3_b1 is0 numbers) 0).bind fun x => match x with
  | .inl _ => (some false)
  | .inr _ => (spec_all_3_k1)

/- (lineal/spec.machine).isWord -/
noncomputable def spec_machine_isWord (m : Int × Int × (List (List Int)) × (List (List Int))) (word : List Int) : Option Bool :=
  if (decide ((word.length : Int) ≤ 20)) = true then
  (spec_all_3 m word).bind fun v0 =>
  some v0
  else
  some false

/- (lineal/spec.machine).run -/
noncomputable def spec_machine_run_k1 (b1 : (List Int) × Int) : Option ((List Int) × Int) :=
  some b1
noncomputable def spec_machine_run_b1 (m : Int × Int × (List (List Int)) × (List (List Int))) (word : List Int) (st1 : (List Int) × Int × Int) : Option (Step ((List Int) × Int × Int) ((List Int) × Int)) :=
  if (decide (st1.2.2 < (word.length : Int))) = true then
  ck (0 ≤ st1.2.2) <| ck (st1.2.2 < (word.length : Int)) <| ck (0 ≤ st1.2.1) <| ck (st1.2.1 < (m.2.2.2.length : Int)) <| ck (0 ≤ (word.getD st1.2.2.toNat 0)) <| ck ((word.getD st1.2.2.toNat 0) < ((m.2.2.2.getD st1.2.1.toNat []).length : Int)) <| ck ((st1.1.length + 1) * 8 ≤ 140737488355328) <| ck (0 ≤ st1.2.1) <| ck (st1.2.1 < (m.2.2.1.length : Int)) <| ck (0 ≤ (word.getD st1.2.2.toNat 0)) <| ck ((word.getD st1.2.2.toNat 0) < ((m.2.2.1.getD st1.2.1.toNat []).length : Int)) <| ck (InK .i64 (st1.2.2 + 1)) <| some (.next ((st1.1 ++ [((m.2.2.2.getD st1.2.1.toNat []).getD (word.getD st1.2.2.toNat 0).toNat 0)]), ((m.2.2.1.getD st1.2.1.toNat []).getD (word.getD st1.2.2.toNat 0).toNat 0), (st1.2.2 + 1)))
  else
  some (.done (st1.1, st1.2.1))
noncomputable def spec_machine_run (m : Int × Int × (List (List Int)) × (List (List Int))) (from0 : Int) (word : List Int) : Option ((List Int) × Int) :=
  (whileO (spec_machine_run_b1 m word) ([], from0, 0)).bind fun r1 =>
  spec_machine_run_k1 r1

/- lineal/spec.Run -/
noncomputable def spec_Run (s : Int × Int × (List (List Int)) × (List (List Int))) (from0 : Int) (word : List Int) : Option ((List Int) × Int × Int) :=
  (spec_checked s [from0]).bind fun v0 =>
  if (!(decide (v0.2.2.2.2 = 0))) = true then
  some ([], 0, v0.2.2.2.2)
  else
  (spec_machine_isWord (v0.1, v0.2.1, v0.2.2.1, v0.2.2.2.1) word).bind fun v0_2 =>
  if (!v0_2) = true then
  some ([], 0, 2)
  else
  (spec_machine_run (v0.1, v0.2.1, v0.2.2.1, v0.2.2.2.1) from0 word).bind fun v0_3 =>
  some (v0_3.1, v0_3.2, 0)

/- lineal/lineallaw01.SpecTurns -/
noncomputable def lineallaw01_SpecTurns_k1 (v0_10 : (List Int) × Int × Int) (b1 : Int) : Option Bool :=
  if (decide (b1 = v0_10.2.1)) = true then
  (lineallaw01_Awake).bind fun v0_13 =>
  some v0_13
  else
  some false
noncomputable def lineallaw01_SpecTurns (s : Int × Int × (List (List Int)) × (List (List Int))) (state : Int) (word : List Int) : Option Bool :=
  (lineallaw01_Long s).bind fun v0 =>
  if v0 = true then
  (lineallaw01_Awake).bind fun v0_2 =>
  some v0_2
  else
  (linealref01_Valid s).bind fun v0_3 =>
  if (!v0_3) = true then
  (lineallaw01_Awake).bind fun v0_4 =>
  some v0_4
  else
  (linealref01_IsWord s word).bind fun v0_5 =>
  if (!v0_5) = true then
  (lineallaw01_Awake).bind fun v0_6 =>
  some v0_6
  else
  ck (InK .i64 state) <| ck (0 ≤ state) <| ck (0 < s.1) <| (spec_Begun s (state % s.1)).bind fun v0_7 =>
  (spec_Begun (v0_7.1, v0_7.2.1, v0_7.2.2.1, v0_7.2.2.2.1) (state % s.1)).bind fun v0_8 =>
  (spec_Run s (state % s.1) word).bind fun v0_9 =>
  (spec_Run (v0_7.1, v0_7.2.1, v0_7.2.2.1, v0_7.2.2.2.1) 0 word).bind fun v0_10 =>
  if (!(decide (v0_7.2.2.2.2 = 0))) = true then
  some false
  else
  if (!(decide (v0_8.2.2.2.2 = 0))) = true then
  some false
  else
  if (!(decide (v0_9.2.2 = 0))) = true then
  some false
  else
  if (!(decide (v0_10.2.2 = 0))) = true then
  some false
  else
  (linealref01_Equal (v0_8.1, v0_8.2.1, v0_8.2.2.1, v0_8.2.2.2.1) s).bind fun v0_11 =>
  if (!v0_11) = true then
  some false
  else
  (linealref01_SameInts v0_9.1 v0_10.1).bind fun v0_12 =>
  if (!v0_12) = true then
  some false
  else
  if (decide (v0_9.2.1 = 0)) = true then
  lineallaw01_SpecTurns_k1 v0_10 (state % s.1)
  else
  if (decide (v0_9.2.1 = (state % s.1))) = true then
  lineallaw01_SpecTurns_k1 v0_10 0
  else
  lineallaw01_SpecTurns_k1 v0_10 v0_9.2.1

/- lineal/linealref01.run -/
noncomputable def linealref01_run_k1 (b1 : (List Int) × Int) : Option ((List Int) × Int) :=
  some b1
noncomputable def linealref01_run_b1 (s : Int × Int × (List (List Int)) × (List (List Int))) (word : List Int) (st1 : (List Int) × Int × Int) : Option (Step ((List Int) × Int × Int) ((List Int) × Int)) :=
  if (decide (st1.2.2 < (word.length : Int))) = true then
  ck (0 ≤ st1.2.2) <| ck (st1.2.2 < (word.length : Int)) <| ck (0 ≤ st1.2.1) <| ck (st1.2.1 < (s.2.2.2.length : Int)) <| ck (0 ≤ (word.getD st1.2.2.toNat 0)) <| ck ((word.getD st1.2.2.toNat 0) < ((s.2.2.2.getD st1.2.1.toNat []).length : Int)) <| ck ((st1.1.length + 1) * 8 ≤ 140737488355328) <| ck (0 ≤ st1.2.1) <| ck (st1.2.1 < (s.2.2.1.length : Int)) <| ck (0 ≤ (word.getD st1.2.2.toNat 0)) <| ck ((word.getD st1.2.2.toNat 0) < ((s.2.2.1.getD st1.2.1.toNat []).length : Int)) <| ck (InK .i64 (st1.2.2 + 1)) <| some (.next ((st1.1 ++ [((s.2.2.2.getD st1.2.1.toNat []).getD (word.getD st1.2.2.toNat 0).toNat 0)]), ((s.2.2.1.getD st1.2.1.toNat []).getD (word.getD st1.2.2.toNat 0).toNat 0), (st1.2.2 + 1)))
  else
  some (.done (st1.1, st1.2.1))
noncomputable def linealref01_run (s : Int × Int × (List (List Int)) × (List (List Int))) (from0 : Int) (word : List Int) : Option ((List Int) × Int) :=
  (whileO (linealref01_run_b1 s word) ([], from0, 0)).bind fun r1 =>
  linealref01_run_k1 r1

/- lineal/linealref01.Run -/
noncomputable def linealref01_Run (s : Int × Int × (List (List Int)) × (List (List Int))) (from0 : Int) (word : List Int) : Option ((List Int) × Int × Int) :=
  (linealref01_Valid s).bind fun v0 =>
  if (!v0) = true then
  some ([], 0, 10)
  else
  (linealref01_IsState s from0).bind fun v0_2 =>
  if (!v0_2) = true then
  some ([], 0, 2)
  else
  (linealref01_IsWord s word).bind fun v0_3 =>
  if (!v0_3) = true then
  some ([], 0, 2)
  else
  (linealref01_run s from0 word).bind fun v0_4 =>
  some (v0_4.1, v0_4.2, 0)

/- slices.Equal[[]int,int] -/
noncomputable def slices_Equal_k1 : Option Bool :=
  some true
noncomputable def slices_Equal_b1 (s1 : List Int) (s2 : List Int) (st1 : Int) : Option (Step Int (Sum Unit Unit)) :=
  if (decide (st1 < (s1.length : Int))) = true then
  ck (0 ≤ st1) <| ck (st1 < (s1.length : Int)) <| ck (0 ≤ st1) <| ck (st1 < (s2.length : Int)) <| if (!(decide ((s1.getD st1.toNat 0) = (s2.getD st1.toNat 0)))) = true then
  some (.done (Sum.inl ()))
  else
  ck (InK .i64 (st1 + 1)) <| some (.next (st1 + 1))
  else
  some (.done (Sum.inr ()))
noncomputable def slices_Equal (s1 : List Int) (s2 : List Int) : Option Bool :=
  if (!(decide ((s1.length : Int) = (s2.length : Int)))) = true then
  some false
  else
  (whileO (slices_Equal_b1 s1 s2) 0).bind fun x => match x with
  | .inl _ => (some false)
  | .inr _ => (slices_Equal_k1)

/- lineal/spec.Tells -/
noncomputable def spec_Tells (s : Int × Int × (List (List Int)) × (List (List Int))) (a : Int) (b : Int) (word : List Int) : Option (Bool × Int) :=
  (spec_checked s [a, b]).bind fun v0 =>
  if (!(decide (v0.2.2.2.2 = 0))) = true then
  some (false, v0.2.2.2.2)
  else
  (spec_machine_isWord (v0.1, v0.2.1, v0.2.2.1, v0.2.2.2.1) word).bind fun v0_2 =>
  if (!v0_2) = true then
  some (false, 2)
  else
  (spec_machine_run (v0.1, v0.2.1, v0.2.2.1, v0.2.2.2.1) a word).bind fun v0_3 =>
  (spec_machine_run (v0.1, v0.2.1, v0.2.2.1, v0.2.2.2.1) b word).bind fun v0_4 =>
  (slices_Equal v0_3.1 v0_4.1).bind fun v0_5 =>
  some ((!v0_5), 0)

/- lineal/linealref01.Tells -/
noncomputable def linealref01_Tells_k1 (s : Int × Int × (List (List Int)) × (List (List Int))) (a : Int) (b : Int) (word : List Int) (b1 : Int) : Option (Bool × Int) :=
  if (!(decide (b1 = 0))) = true then
  some (false, b1)
  else
  (linealref01_run s a word).bind fun v0_3 =>
  (linealref01_run s b word).bind fun v0_4 =>
  (linealref01_SameInts v0_3.1 v0_4.1).bind fun v0_5 =>
  some ((!v0_5), 0)
noncomputable def linealref01_Tells (s : Int × Int × (List (List Int)) × (List (List Int))) (a : Int) (b : Int) (word : List Int) : Option (Bool × Int) :=
  (linealref01_asked s a b).bind fun v0 =>
  if (decide (v0 = 0)) = true then
  (linealref01_IsWord s word).bind fun v0_2 =>
  if (!v0_2) = true then
  linealref01_Tells_k1 s a b word 2
  else
  linealref01_Tells_k1 s a b word v0
  else
  linealref01_Tells_k1 s a b word v0

/- lineal/lineallaw01.SpecRuns -/
noncomputable def lineallaw01_SpecRuns (s : Int × Int × (List (List Int)) × (List (List Int))) (a : Int) (b : Int) (word : List Int) : Option Bool :=
  (lineallaw01_Long s).bind fun v0 =>
  if v0 = true then
  (lineallaw01_Awake).bind fun v0_2 =>
  some v0_2
  else
  if (decide (100 < (word.length : Int))) = true then
  (lineallaw01_Awake).bind fun v0_3 =>
  some v0_3
  else
  (spec_Run s a word).bind fun v0_4 =>
  (linealref01_Run s a word).bind fun v0_5 =>
  (spec_Tells s a b word).bind fun v0_6 =>
  (linealref01_Tells s a b word).bind fun v0_7 =>
  (spec_Valid s).bind fun v0_8 =>
  (linealref01_Valid s).bind fun v0_9 =>
  if ((v0_8 == v0_9) != false) = true then
  (linealref01_SameInts v0_4.1 v0_5.1).bind fun v0_10 =>
  if v0_10 = true then
  if (decide (v0_4.2.1 = v0_5.2.1)) = true then
  if (decide (v0_4.2.2 = v0_5.2.2)) = true then
  if ((v0_6.1 == v0_7.1) != false) = true then
  if (decide (v0_6.2 = v0_7.2)) = true then
  (lineallaw01_Awake).bind fun v0_11 =>
  some v0_11
  else
  some false
  else
  some false
  else
  some false
  else
  some false
  else
  some false
  else
  some false

/- (lineal/spec.machine).same -/
noncomputable def spec_machine_same (m : Int × Int × (List (List Int)) × (List (List Int))) (a : Int) (b : Int) : Option Bool :=
  if (decide (a = b)) = true then
  some true
  else
  (spec_apart m m (a, b)).bind fun v0 =>
  some (!v0.2)

/- lineal/spec.Same -/
noncomputable def spec_Same (s : Int × Int × (List (List Int)) × (List (List Int))) (a : Int) (b : Int) : Option (Bool × Int) :=
  (spec_checked s [a, b]).bind fun v0 =>
  if (!(decide (v0.2.2.2.2 = 0))) = true then
  some (false, v0.2.2.2.2)
  else
  (spec_machine_same (v0.1, v0.2.1, v0.2.2.1, v0.2.2.2.1) a b).bind fun v0_2 =>
  some (v0_2, 0)

/- (lineal/spec.machine).classes -/
noncomputable def spec_machine_classes_k1 (b2_2 : (List Int)) : Option ((List Int)) :=
  some b2_2
noncomputable def spec_machine_classes_k2 (st1 : (List Int) × Int) (b2 : (List Int)) : Option (Step ((List Int) × Int) ((List Int))) :=
  ck (InK .i64 (st1.2 + 1)) <| some (.next (b2, (st1.2 + 1)))
noncomputable def spec_machine_classes_b2 (m : Int × Int × (List (List Int)) × (List (List Int))) (st1 : (List Int) × Int) (st2 : (List Int)) : Option (Step ((List Int)) ((List Int))) :=
  ck (0 ≤ st1.2) <| ck (st1.2 < (st2.length : Int)) <| (spec_machine_same m (st2.getD st1.2.toNat 0) st1.2).bind fun v0 =>
  if (!v0) = true then
  ck (0 ≤ st1.2) <| ck (st1.2 < (st2.length : Int)) <| ck (InK .i64 ((st2.getD st1.2.toNat 0) + 1)) <| ck (0 ≤ st1.2) <| ck (st1.2 < (st2.length : Int)) <| some (.next (st2.set st1.2.toNat ((st2.getD st1.2.toNat 0) + 1)))
  else
  some (.done st2)
noncomputable def spec_machine_classes_b1 (m : Int × Int × (List (List Int)) × (List (List Int))) (st1 : (List Int) × Int) : Option (Step ((List Int) × Int) ((List Int))) :=
  if (decide (st1.2 < ((List.replicate m.1.toNat (0 : Int)).length : Int))) = true then
  (whileO (spec_machine_classes_b2 m st1) st1.1).bind fun r2 =>
  spec_machine_classes_k2 st1 r2
  else
  some (.done st1.1)
noncomputable def spec_machine_classes (m : Int × Int × (List (List Int)) × (List (List Int))) : Option ((List Int)) :=
  ck (0 ≤ m.1) <| ck (8 * m.1 ≤ 281474976710656) <| (whileO (spec_machine_classes_b1 m) ((List.replicate m.1.toNat (0 : Int)), 0)).bind fun r1 =>
  spec_machine_classes_k1 r1

/- lineal/spec.Classes -/
noncomputable def spec_Classes (s : Int × Int × (List (List Int)) × (List (List Int))) : Option ((List Int) × Int) :=
  (spec_checked s []).bind fun v0 =>
  if (!(decide (v0.2.2.2.2 = 0))) = true then
  some ([], v0.2.2.2.2)
  else
  (spec_machine_classes (v0.1, v0.2.1, v0.2.2.1, v0.2.2.2.1)).bind fun v0_2 =>
  some (v0_2, 0)

/- lineal/lineallaw01.SpecTold -/
noncomputable def lineallaw01_SpecTold_k1 (s : Int × Int × (List (List Int)) × (List (List Int))) (x0 : Int) (y : Int) (v0_8 : (List Int) × Int) : Option Bool :=
  ck (InK .i64 ((v0_8.1.length : Int) - 1)) <| ck (0 ≤ ((v0_8.1.length : Int) - 1)) <| ck (((v0_8.1.length : Int) - 1) ≤ (v0_8.1.length : Int)) <| (spec_Tells s (x0 % s.1) (y % s.1) (v0_8.1.take ((v0_8.1.length : Int) - 1).toNat)).bind fun v0_14 =>
  if (decide (v0_14.2 = 0)) = true then
  if (!v0_14.1) = true then
  (lineallaw01_Awake).bind fun v0_15 =>
  some v0_15
  else
  some false
  else
  some false
noncomputable def lineallaw01_SpecTold (s : Int × Int × (List (List Int)) × (List (List Int))) (x0 : Int) (y : Int) (op0 : Int) (word : List Int) : Option Bool :=
  (lineallaw01_Long s).bind fun v0 =>
  if v0 = true then
  (lineallaw01_Awake).bind fun v0_2 =>
  some v0_2
  else
  (linealref01_Valid s).bind fun v0_3 =>
  if (!v0_3) = true then
  (lineallaw01_Awake).bind fun v0_4 =>
  some v0_4
  else
  (linealref01_IsWord s word).bind fun v0_5 =>
  if (!v0_5) = true then
  (lineallaw01_Awake).bind fun v0_6 =>
  some v0_6
  else
  ck (InK .i64 x0) <| ck (0 ≤ x0) <| ck (0 < s.1) <| ck (InK .i64 y) <| ck (0 ≤ y) <| ck (0 < s.1) <| ck (InK .i64 op0) <| ck (0 ≤ op0) <| ck (0 < s.2.1) <| (spec_Same s (x0 % s.1) (y % s.1)).bind fun v0_7 =>
  (spec_Word s (x0 % s.1) (y % s.1)).bind fun v0_8 =>
  (spec_Tells s (x0 % s.1) (y % s.1) word).bind fun v0_9 =>
  (spec_Classes s).bind fun v0_10 =>
  if (!(decide (v0_7.2 = 0))) = true then
  some false
  else
  if (!(decide (v0_9.2 = 0))) = true then
  some false
  else
  if (!(decide (v0_10.2 = 0))) = true then
  some false
  else
  if (!(decide ((v0_10.1.length : Int) = s.1))) = true then
  some false
  else
  if ((v0_7.1 == (decide (v0_8.2 = 5))) != true) = true then
  some false
  else
  ck (0 ≤ (x0 % s.1)) <| ck ((x0 % s.1) < (v0_10.1.length : Int)) <| ck (0 ≤ (y % s.1)) <| ck ((y % s.1) < (v0_10.1.length : Int)) <| if ((v0_7.1 == (decide ((v0_10.1.getD (x0 % s.1).toNat 0) = (v0_10.1.getD (y % s.1).toNat 0)))) != true) = true then
  some false
  else
  ck (0 ≤ (x0 % s.1)) <| ck ((x0 % s.1) < (v0_10.1.length : Int)) <| if (decide ((v0_10.1.getD (x0 % s.1).toNat 0) < 0)) = true then
  some false
  else
  ck (0 ≤ (x0 % s.1)) <| ck ((x0 % s.1) < (v0_10.1.length : Int)) <| if (decide ((x0 % s.1) < (v0_10.1.getD (x0 % s.1).toNat 0))) = true then
  some false
  else
  ck (0 ≤ (x0 % s.1)) <| ck ((x0 % s.1) < (v0_10.1.length : Int)) <| ck (0 ≤ (v0_10.1.getD (x0 % s.1).toNat 0)) <| ck ((v0_10.1.getD (x0 % s.1).toNat 0) < (v0_10.1.length : Int)) <| ck (0 ≤ (x0 % s.1)) <| ck ((x0 % s.1) < (v0_10.1.length : Int)) <| if (!(decide ((v0_10.1.getD (v0_10.1.getD (x0 % s.1).toNat 0).toNat 0) = (v0_10.1.getD (x0 % s.1).toNat 0)))) = true then
  some false
  else
  if v0_7.1 = true then
  ck (0 ≤ (x0 % s.1)) <| ck ((x0 % s.1) < (s.2.2.1.length : Int)) <| ck (0 ≤ (op0 % s.2.1)) <| ck ((op0 % s.2.1) < ((s.2.2.1.getD (x0 % s.1).toNat []).length : Int)) <| ck (0 ≤ (y % s.1)) <| ck ((y % s.1) < (s.2.2.1.length : Int)) <| ck (0 ≤ (op0 % s.2.1)) <| ck ((op0 % s.2.1) < ((s.2.2.1.getD (y % s.1).toNat []).length : Int)) <| (spec_Same s ((s.2.2.1.getD (x0 % s.1).toNat []).getD (op0 % s.2.1).toNat 0) ((s.2.2.1.getD (y % s.1).toNat []).getD (op0 % s.2.1).toNat 0)).bind fun v0_11 =>
  if (!v0_9.1) = true then
  if (decide ((v0_8.1.length : Int) = 0)) = true then
  if (decide (v0_11.2 = 0)) = true then
  if v0_11.1 = true then
  ck (0 ≤ (x0 % s.1)) <| ck ((x0 % s.1) < (s.2.2.2.length : Int)) <| ck (0 ≤ (op0 % s.2.1)) <| ck ((op0 % s.2.1) < ((s.2.2.2.getD (x0 % s.1).toNat []).length : Int)) <| ck (0 ≤ (y % s.1)) <| ck ((y % s.1) < (s.2.2.2.length : Int)) <| ck (0 ≤ (op0 % s.2.1)) <| ck ((op0 % s.2.1) < ((s.2.2.2.getD (y % s.1).toNat []).length : Int)) <| if (decide (((s.2.2.2.getD (x0 % s.1).toNat []).getD (op0 % s.2.1).toNat 0) = ((s.2.2.2.getD (y % s.1).toNat []).getD (op0 % s.2.1).toNat 0))) = true then
  (lineallaw01_Awake).bind fun v0_12 =>
  some v0_12
  else
  some false
  else
  some false
  else
  some false
  else
  some false
  else
  some false
  else
  (spec_Tells s (x0 % s.1) (y % s.1) v0_8.1).bind fun v0_13 =>
  if (!(decide (v0_8.2 = 0))) = true then
  some false
  else
  if (!(decide (v0_13.2 = 0))) = true then
  some false
  else
  if (!v0_13.1) = true then
  some false
  else
  if (decide ((v0_8.1.length : Int) = 0)) = true then
  some false
  else
  ck (InK .i64 (s.1 - 1)) <| if (decide ((s.1 - 1) < (v0_8.1.length : Int))) = true then
  some false
  else
  if v0_9.1 = true then
  if (decide ((word.length : Int) < (v0_8.1.length : Int))) = true then
  some false
  else
  lineallaw01_SpecTold_k1 s x0 y v0_8
  else
  lineallaw01_SpecTold_k1 s x0 y v0_8

/- (lineal/spec.machine).ways -/
noncomputable def spec_machine_ways (m : Int × Int × (List (List Int)) × (List (List Int))) : Option Unit :=
  some ()

/- (lineal/spec.machine).ways$1 -/
noncomputable def spec_machine_ways_1_y1 (S R : Type) (yl : Int × (List Int) → S → Option (Step S R)) (y1 : (Int × Int) × (List Int)) (st1 : S) : Option (Step S R) :=
  (yl (y1.1.1, y1.2) st1).bind fun x => match x with
  | .next s => (some (.next s))
  | .done e => (some (.done e))
noncomputable def spec_machine_ways_1 (S R : Type) (a1 : Int × Int × (List (List Int)) × (List (List Int))) (yl : Int × (List Int) → S → Option (Step S R)) (s0 : S) : Option (Sum S R) :=
  (spec_walk a1 a1 (0, 0)).bind fun v0 =>
  (spec_walk_1 S R (0, 0) a1 a1 (spec_machine_ways_1_y1 S R yl) s0).bind fun x => match x with
  | .inl st1_2 => (some (Sum.inl st1_2))
  | .inr r1 => (some (Sum.inr r1))

/- lineal/spec.Way -/
noncomputable def spec_Way_k1 : Option ((List Int) × Int) :=
  some ([], 5)
noncomputable def spec_Way_y1 (to0 : Int) (y1 : Int × (List Int)) (st1 : Unit) : Option (Step Unit ((List Int))) :=
  if (decide (y1.1 = to0)) = true then
  some (.done y1.2)
  else
  some (.next ())
noncomputable def spec_Way (s : Int × Int × (List (List Int)) × (List (List Int))) (to0 : Int) : Option ((List Int) × Int) :=
  (spec_checked s [to0]).bind fun v0 =>
  if (!(decide (v0.2.2.2.2 = 0))) = true then
  some ([], v0.2.2.2.2)
  else
  (spec_machine_ways (v0.1, v0.2.1, v0.2.2.1, v0.2.2.2.1)).bind fun v0_2 =>
  (spec_machine_ways_1 Unit ((List Int)) (v0.1, v0.2.1, v0.2.2.1, v0.2.2.2.1) (spec_Way_y1 to0) ()).bind fun x => match x with
  | .inl st1_2 => (spec_Way_k1)
  | .inr r1 => (some (r1, 0))

/- cmp.isNaN[int] -/
noncomputable def cmp_isNaN (x0 : Int) : Option Unit :=
  some ()

/- cmp.Less[int] -/
noncomputable def cmp_Less (x0 : Int) (y : Int) : Option Unit :=
  (cmp_isNaN x0).bind fun v0 =>
  some ()

/- slices.insertionSortOrdered[int] -/
noncomputable def slices_insertionSortOrdered_k1 (st1 : (List Int) × Int) (b1 : (List Int)) : Option (Step ((List Int) × Int) ((List Int))) :=
  ck (InK .i64 (st1.2 + 1)) <| some (.next (b1, (st1.2 + 1)))
noncomputable def slices_insertionSortOrdered_b2 (a : Int) (st2 : (List Int) × Int) : Option (Step ((List Int) × Int) ((List Int))) :=
  if (decide (a < st2.2)) = true then
  ck (0 ≤ st2.2) <| ck (st2.2 < (st2.1.length : Int)) <| ck (InK .i64 (st2.2 - 1)) <| ck (0 ≤ (st2.2 - 1)) <| ck ((st2.2 - 1) < (st2.1.length : Int)) <| (cmp_Less (st2.1.getD st2.2.toNat 0) (st2.1.getD (st2.2 - 1).toNat 0)).bind fun v0 =>
  if (decide ((st2.1.getD st2.2.toNat 0) < (st2.1.getD (st2.2 - 1).toNat 0))) = true then
  ck (InK .i64 (st2.2 - 1)) <| ck (InK .i64 (st2.2 - 1)) <| ck (0 ≤ (st2.2 - 1)) <| ck ((st2.2 - 1) < (st2.1.length : Int)) <| ck (0 ≤ st2.2) <| ck (st2.2 < (st2.1.length : Int)) <| ck (0 ≤ st2.2) <| ck (st2.2 < (st2.1.length : Int)) <| ck (0 ≤ (st2.2 - 1)) <| ck ((st2.2 - 1) < ((st2.1.set st2.2.toNat (st2.1.getD (st2.2 - 1).toNat 0)).length : Int)) <| ck (InK .i64 (st2.2 - 1)) <| some (.next (((st2.1.set st2.2.toNat (st2.1.getD (st2.2 - 1).toNat 0)).set (st2.2 - 1).toNat (st2.1.getD st2.2.toNat 0)), (st2.2 - 1)))
  else
  some (.done st2.1)
  else
  some (.done st2.1)
noncomputable def slices_insertionSortOrdered_b1 (a : Int) (b : Int) (st1 : (List Int) × Int) : Option (Step ((List Int) × Int) ((List Int))) :=
  if (decide (st1.2 < b)) = true then
  (whileO (slices_insertionSortOrdered_b2 a) st1).bind fun r2 =>
  slices_insertionSortOrdered_k1 st1 r2
  else
  some (.done st1.1)
noncomputable def slices_insertionSortOrdered (a : Int) (b : Int) (data : List Int) : Option ((List Int)) :=
  ck (InK .i64 (a + 1)) <| (whileO (slices_insertionSortOrdered_b1 a b) (data, (a + 1))).bind fun r1 =>
  some r1

/- slices.pdqsortOrdered[int] -/
noncomputable def slices_pdqsortOrdered_b1 (a : Int) (b : Int) (limit : Int) (data : List Int) (st1 : Unit) : Option (Step Unit ((List Int))) :=
  ck (InK .i64 (b - a)) <| if (decide ((b - a) ≤ 12)) = true then
  (slices_insertionSortOrdered a b data).bind fun v0 =>
  some (.done v0)
  else
  if (decide (limit = 0)) = true then
  none
  else
  none
noncomputable def slices_pdqsortOrdered (a : Int) (b : Int) (limit : Int) (data : List Int) : Option ((List Int)) :=
  (whileO (slices_pdqsortOrdered_b1 a b limit data) ()).bind fun r1 =>
  some r1

/- slices.Sort[[]int,int] -/
noncomputable def slices_Sort (x0 : List Int) : Option ((List Int)) :=
  ck (InK .u64 (x0.length : Int)) <| (math_bits_Len (x0.length : Int)).bind fun v0 =>
  (slices_pdqsortOrdered 0 (x0.length : Int) v0 x0).bind fun v0_2 =>
  some v0_2

/- (lineal/spec.machine).reached -/
noncomputable def spec_machine_reached_k1 (b1 : (List Int)) : Option ((List Int)) :=
  (slices_Sort b1).bind fun v0_2 =>
  some v0_2
noncomputable def spec_machine_reached_y1 (y1 : Int × (List Int)) (st1 : (List Int)) : Option (Step ((List Int)) Empty) :=
  ck ((st1.length + 1) * 8 ≤ 140737488355328) <| some (.next (st1 ++ [y1.1]))
noncomputable def spec_machine_reached (m : Int × Int × (List (List Int)) × (List (List Int))) : Option ((List Int)) :=
  (spec_machine_ways m).bind fun v0 =>
  (spec_machine_ways_1 ((List Int)) Empty m (spec_machine_reached_y1) []).bind fun x => match x with
  | .inl st1_2 => (spec_machine_reached_k1 st1_2)
  | .inr r => r.elim

/- lineal/spec.Reached -/
noncomputable def spec_Reached (s : Int × Int × (List (List Int)) × (List (List Int))) : Option ((List Int) × Int) :=
  (spec_checked s []).bind fun v0 =>
  if (!(decide (v0.2.2.2.2 = 0))) = true then
  some ([], v0.2.2.2.2)
  else
  (spec_machine_reached (v0.1, v0.2.1, v0.2.2.1, v0.2.2.2.1)).bind fun v0_2 =>
  some (v0_2, 0)

/- lineal/lineallaw01.SpecLed -/
noncomputable def lineallaw01_SpecLed_k3 (s : Int × Int × (List (List Int)) × (List (List Int))) (state : Int) (v0_7 : (List Int) × Int) (b2 : Bool) : Option Bool :=
  if (!b2) = true then
  if (decide ((v0_7.1.length : Int) = 0)) = true then
  (lineallaw01_Awake).bind fun v0_10 =>
  some v0_10
  else
  some false
  else
  (spec_Run s 0 v0_7.1).bind fun v0_11 =>
  if (decide (v0_11.2.2 = 0)) = true then
  if (decide (v0_11.2.1 = (state % s.1))) = true then
  if (decide ((v0_7.1.length : Int) < s.1)) = true then
  (lineallaw01_Awake).bind fun v0_12 =>
  some v0_12
  else
  some false
  else
  some false
  else
  some false
noncomputable def lineallaw01_SpecLed_k2 (s : Int × Int × (List (List Int)) × (List (List Int))) (state : Int) (word : List Int) (v0_7 : (List Int) × Int) (v0_9 : (List Int) × Int × Int) (b2 : Bool) : Option Bool :=
  if ((b2 == (decide (v0_7.2 = 0))) != true) = true then
  some false
  else
  if (decide (v0_9.2.1 = (state % s.1))) = true then
  if (!b2) = true then
  some false
  else
  if (decide ((word.length : Int) < (v0_7.1.length : Int))) = true then
  some false
  else
  lineallaw01_SpecLed_k3 s state v0_7 b2
  else
  lineallaw01_SpecLed_k3 s state v0_7 b2
noncomputable def lineallaw01_SpecLed_b1 (s : Int × Int × (List (List Int)) × (List (List Int))) (state : Int) (v0_8 : (List Int) × Int) (st1 : Bool × Int) : Option (Step (Bool × Int) Bool) :=
  if (decide (st1.2 < (v0_8.1.length : Int))) = true then
  ck (0 ≤ st1.2) <| ck (st1.2 < (v0_8.1.length : Int)) <| if st1.1 = true then
  ck (InK .i64 (st1.2 + 1)) <| some (.next (true, (st1.2 + 1)))
  else
  ck (InK .i64 (st1.2 + 1)) <| some (.next ((decide ((state % s.1) = (v0_8.1.getD st1.2.toNat 0))), (st1.2 + 1)))
  else
  some (.done st1.1)
noncomputable def lineallaw01_SpecLed_k1 (s : Int × Int × (List (List Int)) × (List (List Int))) (state : Int) (word : List Int) (v0_7 : (List Int) × Int) (v0_8 : (List Int) × Int) (v0_9 : (List Int) × Int × Int) : Option Bool :=
  (whileO (lineallaw01_SpecLed_b1 s state v0_8) (false, 0)).bind fun r1 =>
  lineallaw01_SpecLed_k2 s state word v0_7 v0_9 r1
noncomputable def lineallaw01_SpecLed (s : Int × Int × (List (List Int)) × (List (List Int))) (state : Int) (word : List Int) : Option Bool :=
  (lineallaw01_Long s).bind fun v0 =>
  if v0 = true then
  (lineallaw01_Awake).bind fun v0_2 =>
  some v0_2
  else
  (linealref01_Valid s).bind fun v0_3 =>
  if (!v0_3) = true then
  (lineallaw01_Awake).bind fun v0_4 =>
  some v0_4
  else
  (linealref01_IsWord s word).bind fun v0_5 =>
  if (!v0_5) = true then
  (lineallaw01_Awake).bind fun v0_6 =>
  some v0_6
  else
  ck (InK .i64 state) <| ck (0 ≤ state) <| ck (0 < s.1) <| (spec_Way s (state % s.1)).bind fun v0_7 =>
  (spec_Reached s).bind fun v0_8 =>
  (spec_Run s 0 word).bind fun v0_9 =>
  if (!(decide (v0_8.2 = 0))) = true then
  some false
  else
  if (!(decide (v0_9.2.2 = 0))) = true then
  some false
  else
  if (!(decide (v0_7.2 = 0))) = true then
  if (!(decide (v0_7.2 = 5))) = true then
  some false
  else
  lineallaw01_SpecLed_k1 s state word v0_7 v0_8 v0_9
  else
  lineallaw01_SpecLed_k1 s state word v0_7 v0_8 v0_9

/- slices.Index[[]int,int] -/
noncomputable def slices_Index_k1 : Option Int :=
  some (-1)
noncomputable def slices_Index_b1 (s : List Int) (v0 : Int) (st1 : Int) : Option (Step Int (Sum Int Unit)) :=
  if (decide (st1 < (s.length : Int))) = true then
  ck (0 ≤ st1) <| ck (st1 < (s.length : Int)) <| if (decide (v0 = (s.getD st1.toNat 0))) = true then
  some (.done (Sum.inl st1))
  else
  ck (InK .i64 (st1 + 1)) <| some (.next (st1 + 1))
  else
  some (.done (Sum.inr ()))
noncomputable def slices_Index (s : List Int) (v0 : Int) : Option Int :=
  (whileO (slices_Index_b1 s v0) 0).bind fun x => match x with
  | .inl r1 => (some r1)
  | .inr _ => (slices_Index_k1)

/- slices.Contains[[]int,int] -/
noncomputable def slices_Contains (s : List Int) (v0 : Int) : Option Bool :=
  (slices_Index s v0).bind fun v0_2 =>
  some (decide (0 ≤ v0_2))

/- lineal/spec.Least -/
noncomputable def spec_Least_k2 (s : Int × Int × (List (List Int)) × (List (List Int))) (b1 : (List Int)) (b4_3 : (List (List Int)) × (List (List Int))) : Option (Int × Int × (List (List Int)) × (List (List Int)) × Int) :=
  some ((b1.length : Int), s.2.1, b4_3.1, b4_3.2, 0)
noncomputable def spec_Least_k3 (st2 : (List (List Int)) × (List (List Int)) × Int) (b4_2 : (List (List Int)) × (List (List Int))) : Option (Step ((List (List Int)) × (List (List Int)) × Int) ((List (List Int)) × (List (List Int)))) :=
  ck (InK .i64 (st2.2.2 + 1)) <| some (.next (b4_2.1, b4_2.2, (st2.2.2 + 1)))
noncomputable def spec_Least_k4 (s : Int × Int × (List (List Int)) × (List (List Int))) (b1 : (List Int)) (st2 : (List (List Int)) × (List (List Int)) × Int) (b4 : (List Int)) : Option (Step ((List (List Int)) × (List (List Int)) × Int) ((List (List Int)) × (List (List Int)))) :=
  ck ((st2.1.length + 1) * 24 ≤ 140737488355328) <| ck (0 ≤ (b1.getD st2.2.2.toNat 0)) <| ck ((b1.getD st2.2.2.toNat 0) < (s.2.2.2.length : Int)) <| (slices_Clone (s.2.2.2.getD (b1.getD st2.2.2.toNat 0).toNat [])).bind fun v0_6 =>
  ck ((st2.2.1.length + 1) * 24 ≤ 140737488355328) <| spec_Least_k3 st2 ((st2.1 ++ [b4]), (st2.2.1 ++ [v0_6]))
noncomputable def spec_Least_b3 (s : Int × Int × (List (List Int)) × (List (List Int))) (v0_2 : (List Int)) (b1 : (List Int)) (st2 : (List (List Int)) × (List (List Int)) × Int) (st3 : (List Int) × Int) : Option (Step ((List Int) × Int) ((List Int))) :=
  if (decide (st3.2 < ((s.2.2.1.getD (b1.getD st2.2.2.toNat 0).toNat []).length : Int))) = true then
  ck (0 ≤ st3.2) <| ck (st3.2 < ((s.2.2.1.getD (b1.getD st2.2.2.toNat 0).toNat []).length : Int)) <| ck (0 ≤ ((s.2.2.1.getD (b1.getD st2.2.2.toNat 0).toNat []).getD st3.2.toNat 0)) <| ck (((s.2.2.1.getD (b1.getD st2.2.2.toNat 0).toNat []).getD st3.2.toNat 0) < (v0_2.length : Int)) <| (slices_Index b1 (v0_2.getD ((s.2.2.1.getD (b1.getD st2.2.2.toNat 0).toNat []).getD st3.2.toNat 0).toNat 0)).bind fun v0_5 =>
  ck (0 ≤ st3.2) <| ck (st3.2 < (st3.1.length : Int)) <| ck (InK .i64 (st3.2 + 1)) <| some (.next ((st3.1.set st3.2.toNat v0_5), (st3.2 + 1)))
  else
  some (.done st3.1)
noncomputable def spec_Least_b2 (s : Int × Int × (List (List Int)) × (List (List Int))) (v0_2 : (List Int)) (b1 : (List Int)) (st2 : (List (List Int)) × (List (List Int)) × Int) : Option (Step ((List (List Int)) × (List (List Int)) × Int) ((List (List Int)) × (List (List Int)))) :=
  if (decide (st2.2.2 < (b1.length : Int))) = true then
  ck (0 ≤ st2.2.2) <| ck (st2.2.2 < (b1.length : Int)) <| ck (0 ≤ s.2.1) <| ck (8 * s.2.1 ≤ 281474976710656) <| ck (0 ≤ (b1.getD st2.2.2.toNat 0)) <| ck ((b1.getD st2.2.2.toNat 0) < (s.2.2.1.length : Int)) <| (whileO (spec_Least_b3 s v0_2 b1 st2) ((List.replicate s.2.1.toNat (0 : Int)), 0)).bind fun r3 =>
  spec_Least_k4 s b1 st2 r3
  else
  some (.done (st2.1, st2.2.1))
noncomputable def spec_Least_k1 (s : Int × Int × (List (List Int)) × (List (List Int))) (v0_2 : (List Int)) (b1 : (List Int)) : Option (Int × Int × (List (List Int)) × (List (List Int)) × Int) :=
  (whileO (spec_Least_b2 s v0_2 b1) ([], [], 0)).bind fun r2 =>
  spec_Least_k2 s b1 r2
noncomputable def spec_Least_y1 (v0_2 : (List Int)) (y1 : Int × (List Int)) (st1 : (List Int)) : Option (Step ((List Int)) Empty) :=
  ck (0 ≤ y1.1) <| ck (y1.1 < (v0_2.length : Int)) <| (slices_Contains st1 (v0_2.getD y1.1.toNat 0)).bind fun v0_4 =>
  if (!v0_4) = true then
  ck (0 ≤ y1.1) <| ck (y1.1 < (v0_2.length : Int)) <| ck ((st1.length + 1) * 8 ≤ 140737488355328) <| some (.next (st1 ++ [(v0_2.getD y1.1.toNat 0)]))
  else
  some (.next st1)
noncomputable def spec_Least (s : Int × Int × (List (List Int)) × (List (List Int))) : Option (Int × Int × (List (List Int)) × (List (List Int)) × Int) :=
  (spec_checked s []).bind fun v0 =>
  if (!(decide (v0.2.2.2.2 = 0))) = true then
  some (0, 0, [], [], v0.2.2.2.2)
  else
  (spec_machine_classes (v0.1, v0.2.1, v0.2.2.1, v0.2.2.2.1)).bind fun v0_2 =>
  (spec_machine_ways (v0.1, v0.2.1, v0.2.2.1, v0.2.2.2.1)).bind fun v0_3 =>
  (spec_machine_ways_1 ((List Int)) Empty (v0.1, v0.2.1, v0.2.2.1, v0.2.2.2.1) (spec_Least_y1 v0_2) []).bind fun x => match x with
  | .inl st1_2 => (spec_Least_k1 s v0_2 st1_2)
  | .inr r => r.elim

/- lineal/spec.Unlike -/
noncomputable def spec_Unlike (s : Int × Int × (List (List Int)) × (List (List Int))) (t : Int × Int × (List (List Int)) × (List (List Int))) : Option ((List Int) × Int) :=
  (spec_Valid s).bind fun v0 =>
  if (!v0) = true then
  some ([], 10)
  else
  (spec_Valid t).bind fun v0_2 =>
  if (!v0_2) = true then
  some ([], 10)
  else
  if (!(decide (s.2.1 = t.2.1))) = true then
  some ([], 2)
  else
  (spec_apart s t (0, 0)).bind fun v0_3 =>
  if (!v0_3.2) = true then
  some ([], 5)
  else
  some (v0_3.1, 0)

/- lineal/spec.Alike -/
noncomputable def spec_Alike (s : Int × Int × (List (List Int)) × (List (List Int))) (t : Int × Int × (List (List Int)) × (List (List Int))) : Option (Bool × Int) :=
  (spec_Unlike s t).bind fun v0 =>
  if (decide (v0.2 = 10)) = true then
  some (false, v0.2)
  else
  some ((decide (v0.2 = 5)), 0)

/- lineal/lineallaw01.SpecLeast -/
noncomputable def lineallaw01_SpecLeast_k1 (s : Int × Int × (List (List Int)) × (List (List Int))) (t : Int × Int × (List (List Int)) × (List (List Int))) (v0_13 : Bool × Int) : Option Bool :=
  (spec_Unlike s t).bind fun v0_19 =>
  if (!(decide (s.2.1 = t.2.1))) = true then
  if (decide (v0_19.2 = 2)) = true then
  if (!v0_13.1) = true then
  (lineallaw01_Awake).bind fun v0_20 =>
  some v0_20
  else
  some false
  else
  some false
  else
  if v0_13.1 = true then
  if (decide (v0_19.2 = 5)) = true then
  if (decide ((v0_19.1.length : Int) = 0)) = true then
  (lineallaw01_Awake).bind fun v0_21 =>
  some v0_21
  else
  some false
  else
  some false
  else
  (spec_Run s 0 v0_19.1).bind fun v0_22 =>
  (spec_Run t 0 v0_19.1).bind fun v0_23 =>
  if (decide (v0_19.2 = 0)) = true then
  if (decide (v0_22.2.2 = 0)) = true then
  if (decide (v0_23.2.2 = 0)) = true then
  (linealref01_SameInts v0_22.1 v0_23.1).bind fun v0_24 =>
  if (!v0_24) = true then
  (lineallaw01_Awake).bind fun v0_25 =>
  some v0_25
  else
  some false
  else
  some false
  else
  some false
  else
  some false
noncomputable def lineallaw01_SpecLeast_b1 (v0_17 : (List Int) × Int) (st1 : Int) : Option (Step Int (Sum Unit Unit)) :=
  if (decide (st1 < (v0_17.1.length : Int))) = true then
  ck (0 ≤ st1) <| ck (st1 < (v0_17.1.length : Int)) <| if (!(decide (st1 = (v0_17.1.getD st1.toNat 0)))) = true then
  some (.done (Sum.inl ()))
  else
  ck (InK .i64 (st1 + 1)) <| some (.next (st1 + 1))
  else
  some (.done (Sum.inr ()))
noncomputable def lineallaw01_SpecLeast (s : Int × Int × (List (List Int)) × (List (List Int))) (t : Int × Int × (List (List Int)) × (List (List Int))) : Option Bool :=
  (lineallaw01_Long s).bind fun v0 =>
  if v0 = true then
  (lineallaw01_Awake).bind fun v0_2 =>
  some v0_2
  else
  (lineallaw01_Long t).bind fun v0_3 =>
  if v0_3 = true then
  (lineallaw01_Awake).bind fun v0_4 =>
  some v0_4
  else
  (linealref01_Valid s).bind fun v0_5 =>
  if (!v0_5) = true then
  (lineallaw01_Awake).bind fun v0_6 =>
  some v0_6
  else
  (linealref01_Valid t).bind fun v0_7 =>
  if (!v0_7) = true then
  (lineallaw01_Awake).bind fun v0_8 =>
  some v0_8
  else
  (spec_Least s).bind fun v0_9 =>
  (spec_Least t).bind fun v0_10 =>
  (spec_Least (v0_9.1, v0_9.2.1, v0_9.2.2.1, v0_9.2.2.2.1)).bind fun v0_11 =>
  (spec_Alike s (v0_9.1, v0_9.2.1, v0_9.2.2.1, v0_9.2.2.2.1)).bind fun v0_12 =>
  (spec_Alike s t).bind fun v0_13 =>
  if (!(decide (v0_9.2.2.2.2 = 0))) = true then
  some false
  else
  if (!(decide (v0_10.2.2.2.2 = 0))) = true then
  some false
  else
  if (!(decide (v0_11.2.2.2.2 = 0))) = true then
  some false
  else
  if (!(decide (v0_12.2 = 0))) = true then
  some false
  else
  if (!(decide (v0_13.2 = 0))) = true then
  some false
  else
  (linealref01_Valid (v0_9.1, v0_9.2.1, v0_9.2.2.1, v0_9.2.2.2.1)).bind fun v0_14 =>
  if (!v0_14) = true then
  some false
  else
  (linealref01_Equal (v0_11.1, v0_11.2.1, v0_11.2.2.1, v0_11.2.2.2.1) (v0_9.1, v0_9.2.1, v0_9.2.2.1, v0_9.2.2.2.1)).bind fun v0_15 =>
  if (!v0_15) = true then
  some false
  else
  if (!v0_12.1) = true then
  some false
  else
  if (decide (s.1 < v0_9.1)) = true then
  some false
  else
  (linealref01_Equal (v0_9.1, v0_9.2.1, v0_9.2.2.1, v0_9.2.2.2.1) (v0_10.1, v0_10.2.1, v0_10.2.2.1, v0_10.2.2.2.1)).bind fun v0_16 =>
  if ((v0_13.1 == v0_16) != true) = true then
  some false
  else
  (spec_Classes (v0_9.1, v0_9.2.1, v0_9.2.2.1, v0_9.2.2.2.1)).bind fun v0_17 =>
  (spec_Reached (v0_9.1, v0_9.2.1, v0_9.2.2.1, v0_9.2.2.2.1)).bind fun v0_18 =>
  if (!(decide (v0_17.2 = 0))) = true then
  some false
  else
  if (!(decide (v0_18.2 = 0))) = true then
  some false
  else
  if (!(decide ((v0_17.1.length : Int) = v0_9.1))) = true then
  some false
  else
  if (!(decide ((v0_18.1.length : Int) = v0_9.1))) = true then
  some false
  else
  (whileO (lineallaw01_SpecLeast_b1 v0_17) 0).bind fun x => match x with
  | .inl _ => (some false)
  | .inr _ => (lineallaw01_SpecLeast_k1 s t v0_13)

/- lineal/linealref01.far -/
noncomputable def linealref01_far_k2 (b5_4 : (List (List Int))) : Option ((List (List Int))) :=
  some b5_4
noncomputable def linealref01_far_k3 (st2 : (List (List Int)) × Int) (b5_3 : (List (List Int))) : Option (Step ((List (List Int)) × Int) ((List (List Int)))) :=
  ck (InK .i64 (st2.2 + 1)) <| some (.next (b5_3, (st2.2 + 1)))
noncomputable def linealref01_far_k4 (st3 : (List (List Int)) × Int) (b5_2 : (List (List Int))) : Option (Step ((List (List Int)) × Int) ((List (List Int)))) :=
  ck (InK .i64 (st3.2 + 1)) <| some (.next (b5_2, (st3.2 + 1)))
noncomputable def linealref01_far_k5 (st4 : (List (List Int)) × Int) (b5 : (List (List Int))) : Option (Step ((List (List Int)) × Int) ((List (List Int)))) :=
  ck (InK .i64 (st4.2 + 1)) <| some (.next (b5, (st4.2 + 1)))
noncomputable def linealref01_far_b5 (s : Int × Int × (List (List Int)) × (List (List Int))) (t : Int × Int × (List (List Int)) × (List (List Int))) (st2 : (List (List Int)) × Int) (st3 : (List (List Int)) × Int) (st4 : (List (List Int)) × Int) (st5 : (List (List Int)) × Int) : Option (Step ((List (List Int)) × Int) ((List (List Int)))) :=
  if (decide (st5.2 < s.2.1)) = true then
  ck (0 ≤ st3.2) <| ck (st3.2 < (s.2.2.1.length : Int)) <| ck (0 ≤ st5.2) <| ck (st5.2 < ((s.2.2.1.getD st3.2.toNat []).length : Int)) <| ck (0 ≤ ((s.2.2.1.getD st3.2.toNat []).getD st5.2.toNat 0)) <| ck (((s.2.2.1.getD st3.2.toNat []).getD st5.2.toNat 0) < (st5.1.length : Int)) <| ck (0 ≤ st4.2) <| ck (st4.2 < (t.2.2.1.length : Int)) <| ck (0 ≤ st5.2) <| ck (st5.2 < ((t.2.2.1.getD st4.2.toNat []).length : Int)) <| ck (0 ≤ ((t.2.2.1.getD st4.2.toNat []).getD st5.2.toNat 0)) <| ck (((t.2.2.1.getD st4.2.toNat []).getD st5.2.toNat 0) < ((st5.1.getD ((s.2.2.1.getD st3.2.toNat []).getD st5.2.toNat 0).toNat []).length : Int)) <| ck (0 ≤ st3.2) <| ck (st3.2 < (s.2.2.2.length : Int)) <| ck (0 ≤ st5.2) <| ck (st5.2 < ((s.2.2.2.getD st3.2.toNat []).length : Int)) <| ck (0 ≤ st4.2) <| ck (st4.2 < (t.2.2.2.length : Int)) <| ck (0 ≤ st5.2) <| ck (st5.2 < ((t.2.2.2.getD st4.2.toNat []).length : Int)) <| if (!(decide (((s.2.2.2.getD st3.2.toNat []).getD st5.2.toNat 0) = ((t.2.2.2.getD st4.2.toNat []).getD st5.2.toNat 0)))) = true then
  ck (0 ≤ st3.2) <| ck (st3.2 < (st5.1.length : Int)) <| ck (0 ≤ st4.2) <| ck (st4.2 < ((st5.1.getD st3.2.toNat []).length : Int)) <| ck (InK .i64 (st5.2 + 1)) <| some (.next ((st5.1.set st3.2.toNat ((st5.1.getD st3.2.toNat []).set st4.2.toNat st2.2)), (st5.2 + 1)))
  else
  if (decide (0 < ((st5.1.getD ((s.2.2.1.getD st3.2.toNat []).getD st5.2.toNat 0).toNat []).getD ((t.2.2.1.getD st4.2.toNat []).getD st5.2.toNat 0).toNat 0))) = true then
  ck (InK .i64 (st2.2 - 1)) <| if (decide (((st5.1.getD ((s.2.2.1.getD st3.2.toNat []).getD st5.2.toNat 0).toNat []).getD ((t.2.2.1.getD st4.2.toNat []).getD st5.2.toNat 0).toNat 0) = (st2.2 - 1))) = true then
  ck (0 ≤ st3.2) <| ck (st3.2 < (st5.1.length : Int)) <| ck (0 ≤ st4.2) <| ck (st4.2 < ((st5.1.getD st3.2.toNat []).length : Int)) <| ck (InK .i64 (st5.2 + 1)) <| some (.next ((st5.1.set st3.2.toNat ((st5.1.getD st3.2.toNat []).set st4.2.toNat st2.2)), (st5.2 + 1)))
  else
  ck (InK .i64 (st5.2 + 1)) <| some (.next (st5.1, (st5.2 + 1)))
  else
  ck (InK .i64 (st5.2 + 1)) <| some (.next (st5.1, (st5.2 + 1)))
  else
  some (.done st5.1)
noncomputable def linealref01_far_b4 (s : Int × Int × (List (List Int)) × (List (List Int))) (t : Int × Int × (List (List Int)) × (List (List Int))) (st2 : (List (List Int)) × Int) (st3 : (List (List Int)) × Int) (st4 : (List (List Int)) × Int) : Option (Step ((List (List Int)) × Int) ((List (List Int)))) :=
  if (decide (st4.2 < ((st3.1.getD st3.2.toNat []).length : Int))) = true then
  ck (0 ≤ st3.2) <| ck (st3.2 < (st4.1.length : Int)) <| ck (0 ≤ st4.2) <| ck (st4.2 < ((st4.1.getD st3.2.toNat []).length : Int)) <| if (decide (0 < ((st4.1.getD st3.2.toNat []).getD st4.2.toNat 0))) = true then
  linealref01_far_k5 st4 st4.1
  else
  (whileO (linealref01_far_b5 s t st2 st3 st4) (st4.1, 0)).bind fun r5 =>
  linealref01_far_k5 st4 r5
  else
  some (.done st4.1)
noncomputable def linealref01_far_b3 (s : Int × Int × (List (List Int)) × (List (List Int))) (t : Int × Int × (List (List Int)) × (List (List Int))) (st2 : (List (List Int)) × Int) (st3 : (List (List Int)) × Int) : Option (Step ((List (List Int)) × Int) ((List (List Int)))) :=
  if (decide (st3.2 < (st2.1.length : Int))) = true then
  ck (0 ≤ st3.2) <| ck (st3.2 < (st3.1.length : Int)) <| (whileO (linealref01_far_b4 s t st2 st3) (st3.1, 0)).bind fun r4 =>
  linealref01_far_k4 st3 r4
  else
  some (.done st3.1)
noncomputable def linealref01_far_b2 (s : Int × Int × (List (List Int)) × (List (List Int))) (t : Int × Int × (List (List Int)) × (List (List Int))) (st2 : (List (List Int)) × Int) : Option (Step ((List (List Int)) × Int) ((List (List Int)))) :=
  ck (InK .i64 (s.1 * t.1)) <| if (decide (st2.2 ≤ (s.1 * t.1))) = true then
  (whileO (linealref01_far_b3 s t st2) (st2.1, 0)).bind fun r3 =>
  linealref01_far_k3 st2 r3
  else
  some (.done st2.1)
noncomputable def linealref01_far_k1 (s : Int × Int × (List (List Int)) × (List (List Int))) (t : Int × Int × (List (List Int)) × (List (List Int))) (b1 : (List (List Int))) : Option ((List (List Int))) :=
  (whileO (linealref01_far_b2 s t) (b1, 1)).bind fun r2 =>
  linealref01_far_k2 r2
noncomputable def linealref01_far_b1 (s : Int × Int × (List (List Int)) × (List (List Int))) (t : Int × Int × (List (List Int)) × (List (List Int))) (st1 : (List (List Int)) × Int) : Option (Step ((List (List Int)) × Int) ((List (List Int)))) :=
  if (decide (st1.2 < ((List.replicate s.1.toNat ([] : List Int)).length : Int))) = true then
  ck (0 ≤ t.1) <| ck (8 * t.1 ≤ 281474976710656) <| ck (0 ≤ st1.2) <| ck (st1.2 < (st1.1.length : Int)) <| ck (InK .i64 (st1.2 + 1)) <| some (.next ((st1.1.set st1.2.toNat (List.replicate t.1.toNat (0 : Int))), (st1.2 + 1)))
  else
  some (.done st1.1)
noncomputable def linealref01_far (s : Int × Int × (List (List Int)) × (List (List Int))) (t : Int × Int × (List (List Int)) × (List (List Int))) : Option ((List (List Int))) :=
  ck (0 ≤ s.1) <| ck (24 * s.1 ≤ 281474976710656) <| ck (s.1 ≤ 9223372036854775807) <| (whileO (linealref01_far_b1 s t) ((List.replicate s.1.toNat ([] : List Int)), 0)).bind fun r1 =>
  linealref01_far_k1 s t r1

/- lineal/linealref01.same -/
noncomputable def linealref01_same (s : Int × Int × (List (List Int)) × (List (List Int))) (a : Int) (b : Int) : Option Bool :=
  (linealref01_far s s).bind fun v0 =>
  ck (0 ≤ a) <| ck (a < (v0.length : Int)) <| ck (0 ≤ b) <| ck (b < ((v0.getD a.toNat []).length : Int)) <| some (decide (((v0.getD a.toNat []).getD b.toNat 0) = 0))

/- lineal/linealref01.ways -/
noncomputable def linealref01_ways_k1 (b3_3 : (List (List Int)) × (List Bool)) : Option ((List (List Int)) × (List Bool)) :=
  some b3_3
noncomputable def linealref01_ways_k2 (b3_2 : (List (List Int)) × (List Bool) × (List Int)) : Option (Step ((List (List Int)) × (List Bool) × (List Int)) ((List (List Int)) × (List Bool))) :=
  some (.next b3_2)
noncomputable def linealref01_ways_k3 (st2 : (List (List Int)) × (List Bool) × (List Int) × Int) (b3 : (List (List Int)) × (List Bool) × (List Int)) : Option (Step ((List (List Int)) × (List Bool) × (List Int) × Int) ((List (List Int)) × (List Bool) × (List Int))) :=
  ck (InK .i64 (st2.2.2.2 + 1)) <| some (.next (b3.1, b3.2.1, b3.2.2, (st2.2.2.2 + 1)))
noncomputable def linealref01_ways_b3 (s : Int × Int × (List (List Int)) × (List (List Int))) (st1 : (List (List Int)) × (List Bool) × (List Int)) (st2 : (List (List Int)) × (List Bool) × (List Int) × Int) (st3 : (List (List Int)) × (List Bool) × (List Int) × Int) : Option (Step ((List (List Int)) × (List Bool) × (List Int) × Int) ((List (List Int)) × (List Bool) × (List Int))) :=
  if (decide (st3.2.2.2 < s.2.1)) = true then
  ck (0 ≤ (st1.2.2.getD st2.2.2.2.toNat 0)) <| ck ((st1.2.2.getD st2.2.2.2.toNat 0) < (s.2.2.1.length : Int)) <| ck (0 ≤ st3.2.2.2) <| ck (st3.2.2.2 < ((s.2.2.1.getD (st1.2.2.getD st2.2.2.2.toNat 0).toNat []).length : Int)) <| ck (0 ≤ ((s.2.2.1.getD (st1.2.2.getD st2.2.2.2.toNat 0).toNat []).getD st3.2.2.2.toNat 0)) <| ck (((s.2.2.1.getD (st1.2.2.getD st2.2.2.2.toNat 0).toNat []).getD st3.2.2.2.toNat 0) < (st3.2.1.length : Int)) <| if (!(st3.2.1.getD ((s.2.2.1.getD (st1.2.2.getD st2.2.2.2.toNat 0).toNat []).getD st3.2.2.2.toNat 0).toNat false)) = true then
  ck (0 ≤ ((s.2.2.1.getD (st1.2.2.getD st2.2.2.2.toNat 0).toNat []).getD st3.2.2.2.toNat 0)) <| ck (((s.2.2.1.getD (st1.2.2.getD st2.2.2.2.toNat 0).toNat []).getD st3.2.2.2.toNat 0) < (st3.2.1.length : Int)) <| ck (0 ≤ (st1.2.2.getD st2.2.2.2.toNat 0)) <| ck ((st1.2.2.getD st2.2.2.2.toNat 0) < (st3.1.length : Int)) <| ck ((st3.1.getD (st1.2.2.getD st2.2.2.2.toNat 0).toNat []).length * 8 ≤ 140737488355328) <| ck (((st3.1.getD (st1.2.2.getD st2.2.2.2.toNat 0).toNat []).length + 1) * 8 ≤ 140737488355328) <| ck (0 ≤ ((s.2.2.1.getD (st1.2.2.getD st2.2.2.2.toNat 0).toNat []).getD st3.2.2.2.toNat 0)) <| ck (((s.2.2.1.getD (st1.2.2.getD st2.2.2.2.toNat 0).toNat []).getD st3.2.2.2.toNat 0) < (st3.1.length : Int)) <| ck ((st3.2.2.1.length + 1) * 8 ≤ 140737488355328) <| ck (InK .i64 (st3.2.2.2 + 1)) <| some (.next ((st3.1.set ((s.2.2.1.getD (st1.2.2.getD st2.2.2.2.toNat 0).toNat []).getD st3.2.2.2.toNat 0).toNat ((st3.1.getD (st1.2.2.getD st2.2.2.2.toNat 0).toNat []) ++ [st3.2.2.2])), (st3.2.1.set ((s.2.2.1.getD (st1.2.2.getD st2.2.2.2.toNat 0).toNat []).getD st3.2.2.2.toNat 0).toNat true), (st3.2.2.1 ++ [((s.2.2.1.getD (st1.2.2.getD st2.2.2.2.toNat 0).toNat []).getD st3.2.2.2.toNat 0)]), (st3.2.2.2 + 1)))
  else
  ck (InK .i64 (st3.2.2.2 + 1)) <| some (.next (st3.1, st3.2.1, st3.2.2.1, (st3.2.2.2 + 1)))
  else
  some (.done (st3.1, st3.2.1, st3.2.2.1))
noncomputable def linealref01_ways_b2 (s : Int × Int × (List (List Int)) × (List (List Int))) (st1 : (List (List Int)) × (List Bool) × (List Int)) (st2 : (List (List Int)) × (List Bool) × (List Int) × Int) : Option (Step ((List (List Int)) × (List Bool) × (List Int) × Int) ((List (List Int)) × (List Bool) × (List Int))) :=
  if (decide (st2.2.2.2 < (st1.2.2.length : Int))) = true then
  ck (0 ≤ st2.2.2.2) <| ck (st2.2.2.2 < (st1.2.2.length : Int)) <| (whileO (linealref01_ways_b3 s st1 st2) (st2.1, st2.2.1, st2.2.2.1, 0)).bind fun r3 =>
  linealref01_ways_k3 st2 r3
  else
  some (.done (st2.1, st2.2.1, st2.2.2.1))
noncomputable def linealref01_ways_b1 (s : Int × Int × (List (List Int)) × (List (List Int))) (st1 : (List (List Int)) × (List Bool) × (List Int)) : Option (Step ((List (List Int)) × (List Bool) × (List Int)) ((List (List Int)) × (List Bool))) :=
  if (decide (0 < (st1.2.2.length : Int))) = true then
  (whileO (linealref01_ways_b2 s st1) (st1.1, st1.2.1, [], 0)).bind fun r2 =>
  linealref01_ways_k2 r2
  else
  some (.done (st1.1, st1.2.1))
noncomputable def linealref01_ways (s : Int × Int × (List (List Int)) × (List (List Int))) : Option ((List (List Int)) × (List Bool)) :=
  ck (0 ≤ s.1) <| ck (24 * s.1 ≤ 281474976710656) <| ck (0 ≤ s.1) <| ck (1 * s.1 ≤ 281474976710656) <| ck (0 < ((List.replicate s.1.toNat (false : Bool)).length : Int)) <| (whileO (linealref01_ways_b1 s) ((List.replicate s.1.toNat ([] : List Int)), ((List.replicate s.1.toNat (false : Bool)).set 0 true), [0])).bind fun r1 =>
  linealref01_ways_k1 r1

/- lineal/linealref01.reached -/
noncomputable def linealref01_reached_k1 (b1 : (List Int)) : Option ((List Int)) :=
  some b1
noncomputable def linealref01_reached_b1 (v0 : (List (List Int)) × (List Bool)) (st1 : (List Int) × Int) : Option (Step ((List Int) × Int) ((List Int))) :=
  if (decide (st1.2 < (v0.2.length : Int))) = true then
  ck (0 ≤ st1.2) <| ck (st1.2 < (v0.2.length : Int)) <| if (v0.2.getD st1.2.toNat false) = true then
  ck ((st1.1.length + 1) * 8 ≤ 140737488355328) <| ck (InK .i64 (st1.2 + 1)) <| some (.next ((st1.1 ++ [st1.2]), (st1.2 + 1)))
  else
  ck (InK .i64 (st1.2 + 1)) <| some (.next (st1.1, (st1.2 + 1)))
  else
  some (.done st1.1)
noncomputable def linealref01_reached (s : Int × Int × (List (List Int)) × (List (List Int))) : Option ((List Int)) :=
  (linealref01_ways s).bind fun v0 =>
  (whileO (linealref01_reached_b1 v0) ([], 0)).bind fun r1 =>
  linealref01_reached_k1 r1

/- lineal/linealref01.Same -/
noncomputable def linealref01_Same (s : Int × Int × (List (List Int)) × (List (List Int))) (a : Int) (b : Int) : Option (Bool × Int) :=
  (linealref01_asked s a b).bind fun v0 =>
  if (!(decide (v0 = 0))) = true then
  some (false, v0)
  else
  (linealref01_same s a b).bind fun v0_2 =>
  some (v0_2, 0)

/- lineal/linealref01.told -/
noncomputable def linealref01_told_k1 (s : Int × Int × (List (List Int)) × (List (List Int))) (t : Int × Int × (List (List Int)) × (List (List Int))) (v0 : (List (List Int))) (st1 : Int × Int × (List Int)) (b1 : Int) : Option (Step (Int × Int × (List Int)) ((List Int))) :=
  ck ((st1.2.2.length + 1) * 8 ≤ 140737488355328) <| if (decide (((v0.getD st1.1.toNat []).getD st1.2.1.toNat 0) = 1)) = true then
  some (.done (st1.2.2 ++ [b1]))
  else
  ck (0 ≤ st1.1) <| ck (st1.1 < (s.2.2.1.length : Int)) <| ck (0 ≤ b1) <| ck (b1 < ((s.2.2.1.getD st1.1.toNat []).length : Int)) <| ck (0 ≤ st1.2.1) <| ck (st1.2.1 < (t.2.2.1.length : Int)) <| ck (0 ≤ b1) <| ck (b1 < ((t.2.2.1.getD st1.2.1.toNat []).length : Int)) <| some (.next (((s.2.2.1.getD st1.1.toNat []).getD b1.toNat 0), ((t.2.2.1.getD st1.2.1.toNat []).getD b1.toNat 0), (st1.2.2 ++ [b1])))
noncomputable def linealref01_told_b2 (s : Int × Int × (List (List Int)) × (List (List Int))) (t : Int × Int × (List (List Int)) × (List (List Int))) (v0 : (List (List Int))) (st1 : Int × Int × (List Int)) (st2 : Int × Int) : Option (Step (Int × Int) Int) :=
  if (decide (0 ≤ st2.2)) = true then
  if (decide (((v0.getD st1.1.toNat []).getD st1.2.1.toNat 0) = 1)) = true then
  ck (0 ≤ st1.1) <| ck (st1.1 < (s.2.2.2.length : Int)) <| ck (0 ≤ st2.2) <| ck (st2.2 < ((s.2.2.2.getD st1.1.toNat []).length : Int)) <| ck (0 ≤ st1.2.1) <| ck (st1.2.1 < (t.2.2.2.length : Int)) <| ck (0 ≤ st2.2) <| ck (st2.2 < ((t.2.2.2.getD st1.2.1.toNat []).length : Int)) <| if (!(decide (((s.2.2.2.getD st1.1.toNat []).getD st2.2.toNat 0) = ((t.2.2.2.getD st1.2.1.toNat []).getD st2.2.toNat 0)))) = true then
  ck (InK .i64 (st2.2 - 1)) <| some (.next (st2.2, (st2.2 - 1)))
  else
  if (decide (1 < ((v0.getD st1.1.toNat []).getD st1.2.1.toNat 0))) = true then
  ck (0 ≤ st1.1) <| ck (st1.1 < (s.2.2.1.length : Int)) <| ck (0 ≤ st2.2) <| ck (st2.2 < ((s.2.2.1.getD st1.1.toNat []).length : Int)) <| ck (0 ≤ ((s.2.2.1.getD st1.1.toNat []).getD st2.2.toNat 0)) <| ck (((s.2.2.1.getD st1.1.toNat []).getD st2.2.toNat 0) < (v0.length : Int)) <| ck (0 ≤ st1.2.1) <| ck (st1.2.1 < (t.2.2.1.length : Int)) <| ck (0 ≤ st2.2) <| ck (st2.2 < ((t.2.2.1.getD st1.2.1.toNat []).length : Int)) <| ck (0 ≤ ((t.2.2.1.getD st1.2.1.toNat []).getD st2.2.toNat 0)) <| ck (((t.2.2.1.getD st1.2.1.toNat []).getD st2.2.toNat 0) < ((v0.getD ((s.2.2.1.getD st1.1.toNat []).getD st2.2.toNat 0).toNat []).length : Int)) <| ck (InK .i64 (((v0.getD st1.1.toNat []).getD st1.2.1.toNat 0) - 1)) <| if (decide (((v0.getD ((s.2.2.1.getD st1.1.toNat []).getD st2.2.toNat 0).toNat []).getD ((t.2.2.1.getD st1.2.1.toNat []).getD st2.2.toNat 0).toNat 0) = (((v0.getD st1.1.toNat []).getD st1.2.1.toNat 0) - 1))) = true then
  ck (InK .i64 (st2.2 - 1)) <| some (.next (st2.2, (st2.2 - 1)))
  else
  ck (InK .i64 (st2.2 - 1)) <| some (.next (st2.1, (st2.2 - 1)))
  else
  ck (InK .i64 (st2.2 - 1)) <| some (.next (st2.1, (st2.2 - 1)))
  else
  if (decide (1 < ((v0.getD st1.1.toNat []).getD st1.2.1.toNat 0))) = true then
  ck (0 ≤ st1.1) <| ck (st1.1 < (s.2.2.1.length : Int)) <| ck (0 ≤ st2.2) <| ck (st2.2 < ((s.2.2.1.getD st1.1.toNat []).length : Int)) <| ck (0 ≤ ((s.2.2.1.getD st1.1.toNat []).getD st2.2.toNat 0)) <| ck (((s.2.2.1.getD st1.1.toNat []).getD st2.2.toNat 0) < (v0.length : Int)) <| ck (0 ≤ st1.2.1) <| ck (st1.2.1 < (t.2.2.1.length : Int)) <| ck (0 ≤ st2.2) <| ck (st2.2 < ((t.2.2.1.getD st1.2.1.toNat []).length : Int)) <| ck (0 ≤ ((t.2.2.1.getD st1.2.1.toNat []).getD st2.2.toNat 0)) <| ck (((t.2.2.1.getD st1.2.1.toNat []).getD st2.2.toNat 0) < ((v0.getD ((s.2.2.1.getD st1.1.toNat []).getD st2.2.toNat 0).toNat []).length : Int)) <| ck (InK .i64 (((v0.getD st1.1.toNat []).getD st1.2.1.toNat 0) - 1)) <| if (decide (((v0.getD ((s.2.2.1.getD st1.1.toNat []).getD st2.2.toNat 0).toNat []).getD ((t.2.2.1.getD st1.2.1.toNat []).getD st2.2.toNat 0).toNat 0) = (((v0.getD st1.1.toNat []).getD st1.2.1.toNat 0) - 1))) = true then
  ck (InK .i64 (st2.2 - 1)) <| some (.next (st2.2, (st2.2 - 1)))
  else
  ck (InK .i64 (st2.2 - 1)) <| some (.next (st2.1, (st2.2 - 1)))
  else
  ck (InK .i64 (st2.2 - 1)) <| some (.next (st2.1, (st2.2 - 1)))
  else
  some (.done st2.1)
noncomputable def linealref01_told_b1 (s : Int × Int × (List (List Int)) × (List (List Int))) (t : Int × Int × (List (List Int)) × (List (List Int))) (v0 : (List (List Int))) (st1 : Int × Int × (List Int)) : Option (Step (Int × Int × (List Int)) ((List Int))) :=
  ck (0 ≤ st1.1) <| ck (st1.1 < (v0.length : Int)) <| ck (0 ≤ st1.2.1) <| ck (st1.2.1 < ((v0.getD st1.1.toNat []).length : Int)) <| ck (InK .i64 (s.2.1 - 1)) <| (whileO (linealref01_told_b2 s t v0 st1) ((-1), (s.2.1 - 1))).bind fun r2 =>
  linealref01_told_k1 s t v0 st1 r2
noncomputable def linealref01_told (s : Int × Int × (List (List Int)) × (List (List Int))) (t : Int × Int × (List (List Int)) × (List (List Int))) (a : Int) (b : Int) : Option ((List Int) × Bool) :=
  (linealref01_far s t).bind fun v0 =>
  ck (0 ≤ a) <| ck (a < (v0.length : Int)) <| ck (0 ≤ b) <| ck (b < ((v0.getD a.toNat []).length : Int)) <| if (decide (((v0.getD a.toNat []).getD b.toNat 0) = 0)) = true then
  some ([], false)
  else
  (whileO (linealref01_told_b1 s t v0) (a, b, [])).bind fun r1 =>
  some (r1, true)

/- lineal/linealref01.Word -/
noncomputable def linealref01_Word (s : Int × Int × (List (List Int)) × (List (List Int))) (a : Int) (b : Int) : Option ((List Int) × Int) :=
  (linealref01_asked s a b).bind fun v0 =>
  if (!(decide (v0 = 0))) = true then
  some ([], v0)
  else
  (linealref01_told s s a b).bind fun v0_2 =>
  if (!v0_2.2) = true then
  some ([], 5)
  else
  some (v0_2.1, 0)

/- lineal/linealref01.classes -/
noncomputable def linealref01_classes_k1 (b3_3 : (List Int)) : Option ((List Int)) :=
  some b3_3
noncomputable def linealref01_classes_k2 (st1 : (List Int) × Int) (b3_2 : (List Int)) : Option (Step ((List Int) × Int) ((List Int))) :=
  ck (InK .i64 (st1.2 + 1)) <| some (.next (b3_2, (st1.2 + 1)))
noncomputable def linealref01_classes_k3 (st1 : (List Int) × Int) (b3 : Int) : Option (Step ((List Int) × Int) ((List Int))) :=
  ck ((st1.1.length + 1) * 8 ≤ 140737488355328) <| linealref01_classes_k2 st1 (st1.1 ++ [b3])
noncomputable def linealref01_classes_b2 (v0 : (List (List Int))) (st1 : (List Int) × Int) (st2 : Int × Int) : Option (Step (Int × Int) Int) :=
  if (decide (0 ≤ st2.2)) = true then
  ck (0 ≤ st1.2) <| ck (st1.2 < (v0.length : Int)) <| ck (0 ≤ st2.2) <| ck (st2.2 < ((v0.getD st1.2.toNat []).length : Int)) <| if (decide (((v0.getD st1.2.toNat []).getD st2.2.toNat 0) = 0)) = true then
  ck (InK .i64 (st2.2 - 1)) <| some (.next (st2.2, (st2.2 - 1)))
  else
  ck (InK .i64 (st2.2 - 1)) <| some (.next (st2.1, (st2.2 - 1)))
  else
  some (.done st2.1)
noncomputable def linealref01_classes_b1 (s : Int × Int × (List (List Int)) × (List (List Int))) (v0 : (List (List Int))) (st1 : (List Int) × Int) : Option (Step ((List Int) × Int) ((List Int))) :=
  if (decide (st1.2 < s.1)) = true then
  (whileO (linealref01_classes_b2 v0 st1) (st1.2, st1.2)).bind fun r2 =>
  linealref01_classes_k3 st1 r2
  else
  some (.done st1.1)
noncomputable def linealref01_classes (s : Int × Int × (List (List Int)) × (List (List Int))) : Option ((List Int)) :=
  (linealref01_far s s).bind fun v0 =>
  (whileO (linealref01_classes_b1 s v0) ([], 0)).bind fun r1 =>
  linealref01_classes_k1 r1

/- lineal/linealref01.Classes -/
noncomputable def linealref01_Classes (s : Int × Int × (List (List Int)) × (List (List Int))) : Option ((List Int) × Int) :=
  (linealref01_Valid s).bind fun v0 =>
  if (!v0) = true then
  some ([], 10)
  else
  (linealref01_classes s).bind fun v0_2 =>
  some (v0_2, 0)

/- lineal/lineallaw01.SpecWords -/
noncomputable def lineallaw01_SpecWords (s : Int × Int × (List (List Int)) × (List (List Int))) (a : Int) (b : Int) : Option Bool :=
  (lineallaw01_Long s).bind fun v0 =>
  if v0 = true then
  (lineallaw01_Awake).bind fun v0_2 =>
  some v0_2
  else
  (spec_Same s a b).bind fun v0_3 =>
  (linealref01_Same s a b).bind fun v0_4 =>
  (spec_Word s a b).bind fun v0_5 =>
  (linealref01_Word s a b).bind fun v0_6 =>
  if ((v0_3.1 == v0_4.1) != true) = true then
  some false
  else
  if (!(decide (v0_3.2 = v0_4.2))) = true then
  some false
  else
  (linealref01_SameInts v0_5.1 v0_6.1).bind fun v0_7 =>
  if (!v0_7) = true then
  some false
  else
  if (!(decide (v0_5.2 = v0_6.2))) = true then
  some false
  else
  (spec_Classes s).bind fun v0_8 =>
  (linealref01_Classes s).bind fun v0_9 =>
  (linealref01_SameInts v0_8.1 v0_9.1).bind fun v0_10 =>
  if v0_10 = true then
  if (decide (v0_8.2 = v0_9.2)) = true then
  (lineallaw01_Awake).bind fun v0_11 =>
  some v0_11
  else
  some false
  else
  some false

/- lineal/linealref01.Reached -/
noncomputable def linealref01_Reached (s : Int × Int × (List (List Int)) × (List (List Int))) : Option ((List Int) × Int) :=
  (linealref01_Valid s).bind fun v0 =>
  if (!v0) = true then
  some ([], 10)
  else
  (linealref01_reached s).bind fun v0_2 =>
  some (v0_2, 0)

/- lineal/linealref01.Way -/
noncomputable def linealref01_Way (s : Int × Int × (List (List Int)) × (List (List Int))) (to0 : Int) : Option ((List Int) × Int) :=
  (linealref01_asked s to0 to0).bind fun v0 =>
  if (!(decide (v0 = 0))) = true then
  some ([], v0)
  else
  (linealref01_ways s).bind fun v0_2 =>
  ck (0 ≤ to0) <| ck (to0 < (v0_2.2.length : Int)) <| if (!(v0_2.2.getD to0.toNat false)) = true then
  some ([], 5)
  else
  ck (0 ≤ to0) <| ck (to0 < (v0_2.1.length : Int)) <| some ((v0_2.1.getD to0.toNat []), 0)

/- lineal/linealref01.number -/
noncomputable def linealref01_number_k1 : Option Int :=
  some (-1)
noncomputable def linealref01_number_b1 (class0 : List Int) (members : List Int) (a : Int) (st1 : Int) : Option (Step Int (Sum Int Unit)) :=
  if (decide (st1 < (members.length : Int))) = true then
  ck (0 ≤ st1) <| ck (st1 < (members.length : Int)) <| ck (0 ≤ a) <| ck (a < (class0.length : Int)) <| ck (0 ≤ (members.getD st1.toNat 0)) <| ck ((members.getD st1.toNat 0) < (class0.length : Int)) <| if (decide ((class0.getD a.toNat 0) = (class0.getD (members.getD st1.toNat 0).toNat 0))) = true then
  some (.done (Sum.inl st1))
  else
  ck (InK .i64 (st1 + 1)) <| some (.next (st1 + 1))
  else
  some (.done (Sum.inr ()))
noncomputable def linealref01_number (class0 : List Int) (members : List Int) (a : Int) : Option Int :=
  (whileO (linealref01_number_b1 class0 members a) 0).bind fun x => match x with
  | .inl r1 => (some r1)
  | .inr _ => (linealref01_number_k1)

/- lineal/linealref01.Least -/
noncomputable def linealref01_Least_k3 (s : Int × Int × (List (List Int)) × (List (List Int))) (b2_2 : (List Int)) (b5_3 : (List (List Int)) × (List (List Int))) : Option (Int × Int × (List (List Int)) × (List (List Int)) × Int) :=
  some ((b2_2.length : Int), s.2.1, b5_3.1, b5_3.2, 0)
noncomputable def linealref01_Least_k4 (s : Int × Int × (List (List Int)) × (List (List Int))) (b2_2 : (List Int)) (st3 : (List (List Int)) × (List (List Int)) × Int) (b5_2 : (List (List Int))) : Option (Step ((List (List Int)) × (List (List Int)) × Int) ((List (List Int)) × (List (List Int)))) :=
  ck (InK .i64 (st3.2.2 + 1)) <| some (.next (b5_2, (st3.2.1 ++ [(s.2.2.2.getD (b2_2.getD st3.2.2.toNat 0).toNat [])]), (st3.2.2 + 1)))
noncomputable def linealref01_Least_k5 (s : Int × Int × (List (List Int)) × (List (List Int))) (b2_2 : (List Int)) (st3 : (List (List Int)) × (List (List Int)) × Int) (b5 : (List Int)) : Option (Step ((List (List Int)) × (List (List Int)) × Int) ((List (List Int)) × (List (List Int)))) :=
  ck ((st3.1.length + 1) * 24 ≤ 140737488355328) <| ck (0 ≤ (b2_2.getD st3.2.2.toNat 0)) <| ck ((b2_2.getD st3.2.2.toNat 0) < (s.2.2.2.length : Int)) <| ck ((s.2.2.2.getD (b2_2.getD st3.2.2.toNat 0).toNat []).length * 8 ≤ 140737488355328) <| ck ((st3.2.1.length + 1) * 24 ≤ 140737488355328) <| linealref01_Least_k4 s b2_2 st3 (st3.1 ++ [b5])
noncomputable def linealref01_Least_b4 (s : Int × Int × (List (List Int)) × (List (List Int))) (v0_2 : (List Int)) (b2_2 : (List Int)) (st3 : (List (List Int)) × (List (List Int)) × Int) (st4 : (List Int) × Int) : Option (Step ((List Int) × Int) ((List Int))) :=
  if (decide (st4.2 < s.2.1)) = true then
  ck (0 ≤ (b2_2.getD st3.2.2.toNat 0)) <| ck ((b2_2.getD st3.2.2.toNat 0) < (s.2.2.1.length : Int)) <| ck (0 ≤ st4.2) <| ck (st4.2 < ((s.2.2.1.getD (b2_2.getD st3.2.2.toNat 0).toNat []).length : Int)) <| (linealref01_number v0_2 b2_2 ((s.2.2.1.getD (b2_2.getD st3.2.2.toNat 0).toNat []).getD st4.2.toNat 0)).bind fun v0_4 =>
  ck ((st4.1.length + 1) * 8 ≤ 140737488355328) <| ck (InK .i64 (st4.2 + 1)) <| some (.next ((st4.1 ++ [v0_4]), (st4.2 + 1)))
  else
  some (.done st4.1)
noncomputable def linealref01_Least_b3 (s : Int × Int × (List (List Int)) × (List (List Int))) (v0_2 : (List Int)) (b2_2 : (List Int)) (st3 : (List (List Int)) × (List (List Int)) × Int) : Option (Step ((List (List Int)) × (List (List Int)) × Int) ((List (List Int)) × (List (List Int)))) :=
  if (decide (st3.2.2 < (b2_2.length : Int))) = true then
  ck (0 ≤ st3.2.2) <| ck (st3.2.2 < (b2_2.length : Int)) <| (whileO (linealref01_Least_b4 s v0_2 b2_2 st3) ([], 0)).bind fun r4 =>
  linealref01_Least_k5 s b2_2 st3 r4
  else
  some (.done (st3.1, st3.2.1))
noncomputable def linealref01_Least_k1 (s : Int × Int × (List (List Int)) × (List (List Int))) (v0_2 : (List Int)) (b2_2 : (List Int)) : Option (Int × Int × (List (List Int)) × (List (List Int)) × Int) :=
  (whileO (linealref01_Least_b3 s v0_2 b2_2) ([], [], 0)).bind fun r3 =>
  linealref01_Least_k3 s b2_2 r3
noncomputable def linealref01_Least_k2 (st1 : (List Int) × Int) (b2 : (List Int)) : Option (Step ((List Int) × Int) ((List Int))) :=
  ck (InK .i64 (st1.2 + 1)) <| some (.next (b2, (st1.2 + 1)))
noncomputable def linealref01_Least_b2 (s : Int × Int × (List (List Int)) × (List (List Int))) (v0_2 : (List Int)) (st1 : (List Int) × Int) (st2 : (List Int) × Int) : Option (Step ((List Int) × Int) ((List Int))) :=
  if (decide (st2.2 < s.2.1)) = true then
  ck (0 ≤ st1.2) <| ck (st1.2 < (st2.1.length : Int)) <| ck (0 ≤ (st2.1.getD st1.2.toNat 0)) <| ck ((st2.1.getD st1.2.toNat 0) < (s.2.2.1.length : Int)) <| ck (0 ≤ st2.2) <| ck (st2.2 < ((s.2.2.1.getD (st2.1.getD st1.2.toNat 0).toNat []).length : Int)) <| (linealref01_number v0_2 st2.1 ((s.2.2.1.getD (st2.1.getD st1.2.toNat 0).toNat []).getD st2.2.toNat 0)).bind fun v0_3 =>
  if (decide (v0_3 < 0)) = true then
  ck ((st2.1.length + 1) * 8 ≤ 140737488355328) <| ck (InK .i64 (st2.2 + 1)) <| some (.next ((st2.1 ++ [((s.2.2.1.getD (st2.1.getD st1.2.toNat 0).toNat []).getD st2.2.toNat 0)]), (st2.2 + 1)))
  else
  ck (InK .i64 (st2.2 + 1)) <| some (.next (st2.1, (st2.2 + 1)))
  else
  some (.done st2.1)
noncomputable def linealref01_Least_b1 (s : Int × Int × (List (List Int)) × (List (List Int))) (v0_2 : (List Int)) (st1 : (List Int) × Int) : Option (Step ((List Int) × Int) ((List Int))) :=
  if (decide (st1.2 < (st1.1.length : Int))) = true then
  (whileO (linealref01_Least_b2 s v0_2 st1) (st1.1, 0)).bind fun r2 =>
  linealref01_Least_k2 st1 r2
  else
  some (.done st1.1)
noncomputable def linealref01_Least (s : Int × Int × (List (List Int)) × (List (List Int))) : Option (Int × Int × (List (List Int)) × (List (List Int)) × Int) :=
  (linealref01_Valid s).bind fun v0 =>
  if (!v0) = true then
  some (0, 0, [], [], 10)
  else
  (linealref01_classes s).bind fun v0_2 =>
  (whileO (linealref01_Least_b1 s v0_2) ([0], 0)).bind fun r1 =>
  linealref01_Least_k1 s v0_2 r1

/- lineal/lineallaw01.SpecWays -/
noncomputable def lineallaw01_SpecWays (s : Int × Int × (List (List Int)) × (List (List Int))) (to0 : Int) : Option Bool :=
  (lineallaw01_Long s).bind fun v0 =>
  if v0 = true then
  (lineallaw01_Awake).bind fun v0_2 =>
  some v0_2
  else
  (spec_Reached s).bind fun v0_3 =>
  (linealref01_Reached s).bind fun v0_4 =>
  (linealref01_SameInts v0_3.1 v0_4.1).bind fun v0_5 =>
  if (!v0_5) = true then
  some false
  else
  if (!(decide (v0_3.2 = v0_4.2))) = true then
  some false
  else
  (spec_Way s to0).bind fun v0_6 =>
  (linealref01_Way s to0).bind fun v0_7 =>
  (spec_Least s).bind fun v0_8 =>
  (linealref01_Least s).bind fun v0_9 =>
  (linealref01_SameInts v0_6.1 v0_7.1).bind fun v0_10 =>
  if v0_10 = true then
  if (decide (v0_6.2 = v0_7.2)) = true then
  (linealref01_Equal (v0_8.1, v0_8.2.1, v0_8.2.2.1, v0_8.2.2.2.1) (v0_9.1, v0_9.2.1, v0_9.2.2.1, v0_9.2.2.2.1)).bind fun v0_11 =>
  if v0_11 = true then
  if (decide (v0_8.2.2.2.2 = v0_9.2.2.2.2)) = true then
  (lineallaw01_Awake).bind fun v0_12 =>
  some v0_12
  else
  some false
  else
  some false
  else
  some false
  else
  some false

end Go.Proofs.Ytcgflignbhmoaaa
