/-
  Made by wip/tool/dc.py out of the print of the program: pure functions.
-/
import Derived.Test.YtlfpagicagmjgaaAvd
namespace Go.Proofs.Ytlfpagicagmjgaa
open Go.RowKit

set_option linter.unusedSimpArgs false
set_option linter.unusedVariables false
set_option linter.constructorNameAsVariable false

abbrev ZS : Type := List (Int × Int × (List (List Int)) × (List (List Int)))
abbrev ZH : Type := List (Int × Int × Int × Int × Int × Int)
abbrev ZM : Type := List (((Int × Int) × Int) × Int)
abbrev Y0 : Ty := (.pair (.int .i64) (.pair (.int .i64) (.pair (.sl (.sl (.int .i64))) (.sl (.sl (.int .i64))))))
attribute [go_sem] Y0
abbrev Y1 : Ty := (.pair (.int .i64) (.pair (.int .i64) (.pair (.int .i64) (.pair (.int .i64) (.pair (.int .i64) (.int .i64))))))
attribute [go_sem] Y1
abbrev Y2 : Ty := (.pair (.pair (.int .i64) (.int .i64)) (.int .u64))
attribute [go_sem] Y2
/- lineal/history.within -/
noncomputable def history_within (n : Int) (least : Int) (most : Int) : Option Bool :=
  if (decide (least ≤ n)) = true then
  some (decide (n ≤ most))
  else
  some false

/- (lineal/spec.machine).isState -/
noncomputable def spec_machine_isState (m : Int × Int × (List (List Int)) × (List (List Int))) (n : Int) : Option Bool :=
  if (decide (0 ≤ n)) = true then
  some (decide (n < m.1))
  else
  some false

/- lineal/spec.all -/
noncomputable def spec_all_k1 : Option Bool :=
  some true
noncomputable def spec_all_b1 (is0 : Int × Int × (List (List Int)) × (List (List Int))) (numbers : List Int) (st1 : Int) : Option (Step Int (Sum Unit Unit)) :=
  if (decide (st1 < (numbers.length : Int))) = true then
  ck (0 ≤ st1) <| ck (st1 < (numbers.length : Int)) <| (spec_machine_isState is0 (numbers.getD st1.toNat 0)).bind fun v0 =>
  if (!v0) = true then
  some (.done (Sum.inl ()))
  else
  ck (InK .i64 (st1 + 1)) <| some (.next (st1 + 1))
  else
  some (.done (Sum.inr ()))
noncomputable def spec_all (is0 : Int × Int × (List (List Int)) × (List (List Int))) (numbers : List Int) : Option Bool :=
  (whileO (spec_all_b1 is0 numbers) 0).bind fun x => match x with
  | .inl _ => (some false)
  | .inr _ => (spec_all_k1)

/- (lineal/spec.machine).isTable -/
noncomputable def spec_machine_isTable_k1 : Option Bool :=
  some true
noncomputable def spec_machine_isTable_b1 (m : Int × Int × (List (List Int)) × (List (List Int))) (table : List (List Int)) (is0 : Int × Int × (List (List Int)) × (List (List Int))) (st1 : Int) : Option (Step Int (Sum Unit Unit)) :=
  if (decide (st1 < (table.length : Int))) = true then
  ck (0 ≤ st1) <| ck (st1 < (table.length : Int)) <| if (!(decide (((table.getD st1.toNat []).length : Int) = m.2.1))) = true then
  some (.done (Sum.inl ()))
  else
  (spec_all is0 (table.getD st1.toNat [])).bind fun v0 =>
  if (!v0) = true then
  some (.done (Sum.inl ()))
  else
  ck (InK .i64 (st1 + 1)) <| some (.next (st1 + 1))
  else
  some (.done (Sum.inr ()))
noncomputable def spec_machine_isTable (m : Int × Int × (List (List Int)) × (List (List Int))) (table : List (List Int)) (is0 : Int × Int × (List (List Int)) × (List (List Int))) : Option Bool :=
  if (!(decide ((table.length : Int) = m.1))) = true then
  some false
  else
  (whileO (spec_machine_isTable_b1 m table is0) 0).bind fun x => match x with
  | .inl _ => (some false)
  | .inr _ => (spec_machine_isTable_k1)

/- lineal/spec.isAnswer -/
noncomputable def spec_isAnswer (n : Int) : Option Bool :=
  if (decide (0 ≤ n)) = true then
  some (decide (n ≤ 5))
  else
  some false

/- lineal/spec.all -/
noncomputable def spec_all_2_k1 : Option Bool :=
  some true
noncomputable def spec_all_2_b1 (numbers : List Int) (st1 : Int) : Option (Step Int (Sum Unit Unit)) :=
  if (decide (st1 < (numbers.length : Int))) = true then
  ck (0 ≤ st1) <| ck (st1 < (numbers.length : Int)) <| (spec_isAnswer (numbers.getD st1.toNat 0)).bind fun v0 =>
  if (!v0) = true then
  some (.done (Sum.inl ()))
  else
  ck (InK .i64 (st1 + 1)) <| some (.next (st1 + 1))
  else
  some (.done (Sum.inr ()))
noncomputable def spec_all_2 (numbers : List Int) : Option Bool :=
  (whileO (spec_all_2_b1 numbers) 0).bind fun x => match x with
  | .inl _ => (some false)
  | .inr _ => (spec_all_2_k1)

/- (lineal/spec.machine).isTable -/
noncomputable def spec_machine_isTable_2_k1 : Option Bool :=
  some true
noncomputable def spec_machine_isTable_2_b1 (m : Int × Int × (List (List Int)) × (List (List Int))) (table : List (List Int)) (st1 : Int) : Option (Step Int (Sum Unit Unit)) :=
  if (decide (st1 < (table.length : Int))) = true then
  ck (0 ≤ st1) <| ck (st1 < (table.length : Int)) <| if (!(decide (((table.getD st1.toNat []).length : Int) = m.2.1))) = true then
  some (.done (Sum.inl ()))
  else
  (spec_all_2 (table.getD st1.toNat [])).bind fun v0 =>
  if (!v0) = true then
  some (.done (Sum.inl ()))
  else
  ck (InK .i64 (st1 + 1)) <| some (.next (st1 + 1))
  else
  some (.done (Sum.inr ()))
noncomputable def spec_machine_isTable_2 (m : Int × Int × (List (List Int)) × (List (List Int))) (table : List (List Int)) : Option Bool :=
  if (!(decide ((table.length : Int) = m.1))) = true then
  some false
  else
  (whileO (spec_machine_isTable_2_b1 m table) 0).bind fun x => match x with
  | .inl _ => (some false)
  | .inr _ => (spec_machine_isTable_2_k1)

/- lineal/spec.Valid -/
noncomputable def spec_Valid (s : Int × Int × (List (List Int)) × (List (List Int))) : Option Bool :=
  if (decide (s.1 < 1)) = true then
  some false
  else
  if (decide (8 < s.1)) = true then
  some false
  else
  if (decide (s.2.1 < 1)) = true then
  some false
  else
  if (decide (4 < s.2.1)) = true then
  some false
  else
  (spec_machine_isTable s s.2.2.1 s).bind fun v0 =>
  if v0 = true then
  (spec_machine_isTable_2 s s.2.2.2).bind fun v0_2 =>
  some v0_2
  else
  some false

/- lineal/history.checkSpecs -/
noncomputable def history_checkSpecs_k1 : Option Int :=
  some 0
noncomputable def history_checkSpecs_b1 (specs : ZS) (st1 : Int) : Option (Step Int (Sum Unit Unit)) :=
  if (decide (st1 < (specs.length : Int))) = true then
  ck (0 ≤ st1) <| ck (st1 < (specs.length : Int)) <| (spec_Valid (specs.getD st1.toNat (0, 0, [], []))).bind fun v0_2 =>
  if (!v0_2) = true then
  some (.done (Sum.inl ()))
  else
  ck (InK .i64 (st1 + 1)) <| some (.next (st1 + 1))
  else
  some (.done (Sum.inr ()))
noncomputable def history_checkSpecs (specs : ZS) : Option Int :=
  (history_within (specs.length : Int) 1 2).bind fun v0 =>
  if (!v0) = true then
  some 10
  else
  (whileO (history_checkSpecs_b1 specs) 0).bind fun x => match x with
  | .inl _ => (some 10)
  | .inr _ => (history_checkSpecs_k1)

/- lineal/history.isCall -/
noncomputable def history_isCall_k2 (c : Int × Int × Int × Int × Int × Int) (b1 : Bool) (b2 : Bool) : Option Bool :=
  (history_within c.1 0 3).bind fun v0 =>
  if v0 = true then
  (history_within c.2.1 0 1).bind fun v0_2 =>
  if v0_2 = true then
  (history_within c.2.2.1 0 3).bind fun v0_3 =>
  if v0_3 = true then
  (history_within c.2.2.2.1 0 9).bind fun v0_4 =>
  if v0_4 = true then
  (history_within c.2.2.2.2.1 1 100).bind fun v0_5 =>
  if v0_5 = true then
  if b1 = true then
  some true
  else
  some b2
  else
  some false
  else
  some false
  else
  some false
  else
  some false
  else
  some false
noncomputable def history_isCall_k1 (c : Int × Int × Int × Int × Int × Int) (b1 : Bool) : Option Bool :=
  if (decide (c.2.2.2.2.1 < c.2.2.2.2.2)) = true then
  history_isCall_k2 c b1 (decide (c.2.2.2.2.2 ≤ 100))
  else
  history_isCall_k2 c b1 false
noncomputable def history_isCall (c : Int × Int × Int × Int × Int × Int) : Option Bool :=
  if (decide (c.2.2.2.2.2 = 0)) = true then
  history_isCall_k1 c (decide (c.2.2.2.1 = 0))
  else
  history_isCall_k1 c false

/- lineal/history.before -/
noncomputable def history_before (a : Int × Int × Int × Int × Int × Int) (b : Int × Int × Int × Int × Int × Int) : Option Bool :=
  if (!(decide (a.2.2.2.2.2 = 0))) = true then
  some (decide (a.2.2.2.2.2 < b.2.2.2.2.1))
  else
  some false

/- lineal/history.apart -/
noncomputable def history_apart_k1 (a : Int × Int × Int × Int × Int × Int) (b : Int × Int × Int × Int × Int × Int) : Option Bool :=
  if (!(decide (a.1 = b.1))) = true then
  some true
  else
  (history_before a b).bind fun v0 =>
  if v0 = true then
  some true
  else
  (history_before b a).bind fun v0_2 =>
  some v0_2
noncomputable def history_apart (a : Int × Int × Int × Int × Int × Int) (b : Int × Int × Int × Int × Int × Int) : Option Bool :=
  if (decide (a.2.2.2.2.1 = b.2.2.2.2.1)) = true then
  some false
  else
  if (decide (a.2.2.2.2.1 = b.2.2.2.2.2)) = true then
  some false
  else
  if (decide (a.2.2.2.2.2 = b.2.2.2.2.1)) = true then
  some false
  else
  if (decide (a.2.2.2.2.2 = b.2.2.2.2.2)) = true then
  if (!(decide (a.2.2.2.2.2 = 0))) = true then
  some false
  else
  history_apart_k1 a b
  else
  history_apart_k1 a b

/- lineal/history.Valid -/
noncomputable def history_Valid_k1 : Option Bool :=
  some true
noncomputable def history_Valid_k2 (st1 : Int) : Option (Step Int (Sum Unit Unit)) :=
  ck (InK .i64 (st1 + 1)) <| some (.next (st1 + 1))
noncomputable def history_Valid_b2 (h0 : ZH) (st1 : Int) (st2 : Int) : Option (Step Int (Sum Unit Unit)) :=
  if (decide (st2 < ((h0.take st1.toNat).length : Int))) = true then
  ck (0 ≤ st2) <| ck (st2 < ((h0.take st1.toNat).length : Int)) <| (history_apart (h0.getD st1.toNat (0, 0, 0, 0, 0, 0)) ((h0.take st1.toNat).getD st2.toNat (0, 0, 0, 0, 0, 0))).bind fun v0_2 =>
  if (!v0_2) = true then
  some (.done (Sum.inl ()))
  else
  ck (InK .i64 (st2 + 1)) <| some (.next (st2 + 1))
  else
  some (.done (Sum.inr ()))
noncomputable def history_Valid_b1 (h0 : ZH) (st1 : Int) : Option (Step Int (Sum Unit Unit)) :=
  if (decide (st1 < (h0.length : Int))) = true then
  ck (0 ≤ st1) <| ck (st1 < (h0.length : Int)) <| (history_isCall (h0.getD st1.toNat (0, 0, 0, 0, 0, 0))).bind fun v0 =>
  if (!v0) = true then
  some (.done (Sum.inl ()))
  else
  ck (0 ≤ st1) <| ck (st1 ≤ (h0.length : Int)) <| (whileO (history_Valid_b2 h0 st1) 0).bind fun x => match x with
  | .inl _ => (some (.done (Sum.inl ())))
  | .inr _ => (history_Valid_k2 st1)
  else
  some (.done (Sum.inr ()))
noncomputable def history_Valid (h0 : ZH) : Option Bool :=
  if (decide (8 < (h0.length : Int))) = true then
  some false
  else
  (whileO (history_Valid_b1 h0) 0).bind fun x => match x with
  | .inl _ => (some false)
  | .inr _ => (history_Valid_k1)

/- lineal/history.fits -/
noncomputable def history_fits_k1 : Option Bool :=
  some true
noncomputable def history_fits_b1 (specs : ZS) (h0 : ZH) (st1 : Int) : Option (Step Int (Sum Unit Unit)) :=
  if (decide (st1 < (h0.length : Int))) = true then
  ck (0 ≤ st1) <| ck (st1 < (h0.length : Int)) <| if (decide ((specs.length : Int) ≤ (h0.getD st1.toNat (0, 0, 0, 0, 0, 0)).2.1)) = true then
  some (.done (Sum.inl ()))
  else
  ck (0 ≤ (h0.getD st1.toNat (0, 0, 0, 0, 0, 0)).2.1) <| ck ((h0.getD st1.toNat (0, 0, 0, 0, 0, 0)).2.1 < (specs.length : Int)) <| if (decide ((specs.getD (h0.getD st1.toNat (0, 0, 0, 0, 0, 0)).2.1.toNat (0, 0, [], [])).2.1 ≤ (h0.getD st1.toNat (0, 0, 0, 0, 0, 0)).2.2.1)) = true then
  some (.done (Sum.inl ()))
  else
  ck (InK .i64 (st1 + 1)) <| some (.next (st1 + 1))
  else
  some (.done (Sum.inr ()))
noncomputable def history_fits (specs : ZS) (h0 : ZH) : Option Bool :=
  (whileO (history_fits_b1 specs h0) 0).bind fun x => match x with
  | .inl _ => (some false)
  | .inr _ => (history_fits_k1)

/- lineal/history.checkFor -/
noncomputable def history_checkFor (specs : ZS) (h0 : ZH) : Option Int :=
  (history_checkSpecs specs).bind fun v0 =>
  if (!(decide (v0 = 0))) = true then
  some v0
  else
  (history_Valid h0).bind fun v0_2 =>
  if (!v0_2) = true then
  some 20
  else
  (history_fits specs h0).bind fun v0_3 =>
  if (!v0_3) = true then
  some 20
  else
  some 0

/- lineal/history.newSearch -/
noncomputable def history_newSearch (specs : ZS) (h0 : ZH) : Option Unit :=
  some ()

/- lineal/history.Order$1 -/
noncomputable def history_Order_1 (a0 : ZS) (a1 : ZH) : Option Unit :=
  (history_newSearch a0 a1).bind fun v0 =>
  some ()

/- lineal/history.told[lineal/history.search] -/
noncomputable def history_told (c0 : ZS) (c1 : ZH) : Option Unit :=
  (history_Order_1 c0 c1).bind fun v0 =>
  some ()

/- lineal/history.told[lineal/history.search] -/
noncomputable def history_told_2 (err : Int) (c0 : ZS) (c1 : ZH) : Option Unit :=
  some ()

/- (lineal/history.place).has -/
noncomputable def history_place_has (p : (Int × Int) × Int) (call : Int) : Option Unit :=
  ck (0 ≤ call) <| some ()

/- (lineal/history.search).full -/
noncomputable def history_search_full_k1 : Option Bool :=
  some true
noncomputable def history_search_full_b1 (s_2 : ZH) (at0 : (Int × Int) × Int) (st1 : Int) : Option (Step Int (Sum Unit Unit)) :=
  if (decide (st1 < (s_2.length : Int))) = true then
  ck (0 ≤ st1) <| ck (st1 < (s_2.length : Int)) <| if (!(decide ((s_2.getD st1.toNat (0, 0, 0, 0, 0, 0)).2.2.2.2.2 = 0))) = true then
  (history_place_has at0 st1).bind fun v0 =>
  if (!(!(decide ((iand .u64 at0.2 (ishl .u64 1 st1)) = 0)))) = true then
  some (.done (Sum.inl ()))
  else
  ck (InK .i64 (st1 + 1)) <| some (.next (st1 + 1))
  else
  ck (InK .i64 (st1 + 1)) <| some (.next (st1 + 1))
  else
  some (.done (Sum.inr ()))
noncomputable def history_search_full (s : ZS) (s_2 : ZH) (at0 : (Int × Int) × Int) : Option Bool :=
  (whileO (history_search_full_b1 s_2 at0) 0).bind fun x => match x with
  | .inl _ => (some false)
  | .inr _ => (history_search_full_k1)

/- (lineal/history.search).steps -/
noncomputable def history_search_steps (s : ZS) (s_2 : ZH) (at0 : (Int × Int) × Int) : Option Unit :=
  some ()

/- lineal/history.inTime -/
noncomputable def history_inTime (a : Int × Int × Int × Int × Int × Int) (b : Int × Int × Int × Int × Int × Int) : Option Bool :=
  (history_before b a).bind fun v0 =>
  some v0

/- (lineal/history.search).ready -/
noncomputable def history_search_ready_k1 : Option Bool :=
  some true
noncomputable def history_search_ready_b1 (s_2 : ZH) (at0 : (Int × Int) × Int) (call : Int) (st1 : Int) : Option (Step Int (Sum Unit Unit)) :=
  if (decide (st1 < (s_2.length : Int))) = true then
  ck (0 ≤ st1) <| ck (st1 < (s_2.length : Int)) <| ck (0 ≤ call) <| ck (call < (s_2.length : Int)) <| (history_inTime (s_2.getD call.toNat (0, 0, 0, 0, 0, 0)) (s_2.getD st1.toNat (0, 0, 0, 0, 0, 0))).bind fun v0_2 =>
  if v0_2 = true then
  (history_place_has at0 st1).bind fun v0_3 =>
  if (!(!(decide ((iand .u64 at0.2 (ishl .u64 1 st1)) = 0)))) = true then
  some (.done (Sum.inl ()))
  else
  ck (InK .i64 (st1 + 1)) <| some (.next (st1 + 1))
  else
  ck (InK .i64 (st1 + 1)) <| some (.next (st1 + 1))
  else
  some (.done (Sum.inr ()))
noncomputable def history_search_ready (s : ZS) (s_2 : ZH) (at0 : (Int × Int) × Int) (call : Int) : Option Bool :=
  (history_place_has at0 call).bind fun v0 =>
  if (!(decide ((iand .u64 at0.2 (ishl .u64 1 call)) = 0))) = true then
  some false
  else
  (whileO (history_search_ready_b1 s_2 at0 call) 0).bind fun x => match x with
  | .inl _ => (some false)
  | .inr _ => (history_search_ready_k1)

/- (*lineal/history.states).answer -/
noncomputable def history_states_answer_k2 (c : Int × Int × Int × Int × Int × Int) (b1 : Int × Int × Int × (List (List Int)) × (List (List Int)) × Int) (b2 : Int × Int × Int) : Option (Int × Int × Int) :=
  ck (0 ≤ b1.2.2.2.2.2) <| ck (b1.2.2.2.2.2 < (b1.2.2.2.2.1.length : Int)) <| ck (0 ≤ c.2.2.1) <| ck (c.2.2.1 < ((b1.2.2.2.2.1.getD b1.2.2.2.2.2.toNat []).length : Int)) <| some (((b1.2.2.2.2.1.getD b1.2.2.2.2.2.toNat []).getD c.2.2.1.toNat 0), b2.2)
noncomputable def history_states_answer_k1 (c : Int × Int × Int × Int × Int × Int) (s : (Int × Int) × Int) (b1 : Int × Int × Int × (List (List Int)) × (List (List Int)) × Int) : Option (Int × Int × Int) :=
  ck (0 ≤ b1.2.2.2.2.2) <| ck (b1.2.2.2.2.2 < (b1.2.2.2.1.length : Int)) <| ck (0 ≤ c.2.2.1) <| ck (c.2.2.1 < ((b1.2.2.2.1.getD b1.2.2.2.2.2.toNat []).length : Int)) <| ck (0 ≤ b1.1) <| ck (b1.1 < 2) <| if (decide (b1.1 = 0)) = true then
  history_states_answer_k2 c b1 (0, ((b1.2.2.2.1.getD b1.2.2.2.2.2.toNat []).getD c.2.2.1.toNat 0), s.1.2)
  else
  history_states_answer_k2 c b1 (1, s.1.1, ((b1.2.2.2.1.getD b1.2.2.2.2.2.toNat []).getD c.2.2.1.toNat 0))
noncomputable def history_states_answer (specs : ZS) (c : Int × Int × Int × Int × Int × Int) (s : (Int × Int) × Int) : Option (Int × Int × Int) :=
  ck (0 ≤ c.2.1) <| ck (c.2.1 < (specs.length : Int)) <| ck (0 ≤ c.2.1) <| ck (c.2.1 < 2) <| if (decide (c.2.1 = 0)) = true then
  history_states_answer_k1 c s (0, (specs.getD 0 (0, 0, [], [])).1, (specs.getD 0 (0, 0, [], [])).2.1, (specs.getD 0 (0, 0, [], [])).2.2.1, (specs.getD 0 (0, 0, [], [])).2.2.2, s.1.1)
  else
  history_states_answer_k1 c s (1, (specs.getD 1 (0, 0, [], [])).1, (specs.getD 1 (0, 0, [], [])).2.1, (specs.getD 1 (0, 0, [], [])).2.2.1, (specs.getD 1 (0, 0, [], [])).2.2.2, s.1.2)

/- (*lineal/history.states).allow -/
noncomputable def history_states_allow (specs : ZS) (c : Int × Int × Int × Int × Int × Int) (s : (Int × Int) × Int) : Option (Bool × Int × Int) :=
  (history_states_answer specs c s).bind fun v0 =>
  if (decide (c.2.2.2.2.2 = 0)) = true then
  some (true, v0.2)
  else
  some ((decide (v0.1 = c.2.2.2.1)), v0.2)

/- (lineal/history.search).steps$1 -/
noncomputable def history_search_steps_1_b1 (S R : Type) (a1 : ZS) (a1_2 : ZH) (a2 : (Int × Int) × Int) (yl : Int × ((Int × Int) × Int) → S → Option (Step S R)) (st1 : Int × S) : Option (Step (Int × S) (Sum R S)) :=
  if (decide (st1.1 < (a1_2.length : Int))) = true then
  ck (0 ≤ st1.1) <| ck (st1.1 < (a1_2.length : Int)) <| (history_search_ready a1 a1_2 a2 st1.1).bind fun v0 =>
  if (!v0) = true then
  ck (InK .i64 (st1.1 + 1)) <| some (.next ((st1.1 + 1), st1.2))
  else
  (history_states_allow a1 (a1_2.getD st1.1.toNat (0, 0, 0, 0, 0, 0)) a2).bind fun v0_2 =>
  if (!v0_2.1) = true then
  ck (InK .i64 (st1.1 + 1)) <| some (.next ((st1.1 + 1), st1.2))
  else
  ck (0 ≤ st1.1) <| (yl (st1.1, v0_2.2, (ior .u64 a2.2 (ishl .u64 1 st1.1))) st1.2).bind fun x => match x with
  | .next s => (ck (InK .i64 (st1.1 + 1)) <| some (.next ((st1.1 + 1), s)))
  | .done e => (some (.done (Sum.inl e)))
  else
  some (.done (Sum.inr st1.2))
noncomputable def history_search_steps_1 (S R : Type) (a1 : ZS) (a1_2 : ZH) (a2 : (Int × Int) × Int) (yl : Int × ((Int × Int) × Int) → S → Option (Step S R)) (s0 : S) : Option (Sum S R) :=
  (whileO (history_search_steps_1_b1 S R a1 a1_2 a2 yl) (0, s0)).bind fun x => match x with
  | .inl r1 => (some (Sum.inr r1))
  | .inr r1_2 => (some (Sum.inl r1_2))

/- (lineal/history.search).count -/
noncomputable def history_search_count_k2 (at0 : (Int × Int) × Int) (b2 : ZM × Int) : Option (Int × ZM) :=
  ck (InK .i64 at0.1.1) <| ck (InK .i64 at0.1.2) <| ck (InK .u64 at0.2) <| some (b2.2, (mput b2.1 at0 b2.2))
noncomputable def history_search_count_y1 (slf : ZS → ZH → ((Int × Int) × Int) → ZM → Option (Int × ZM)) (s : ZS) (s_2 : ZH) (y1 : Int × ((Int × Int) × Int)) (st1 : ZM × Int) : Option (Step (ZM × Int) Empty) :=
  (slf s s_2 y1.2 st1.1).bind fun v0_3 =>
  ck (InK .i64 (st1.2 + v0_3.1)) <| some (.next (v0_3.2, (st1.2 + v0_3.1)))
noncomputable def history_search_count_k1 (slf : ZS → ZH → ((Int × Int) × Int) → ZM → Option (Int × ZM)) (s : ZS) (s_2 : ZH) (at0 : (Int × Int) × Int) (s_3 : ZM) (b1 : Int) : Option (Int × ZM) :=
  (history_search_steps s s_2 at0).bind fun v0_2 =>
  (history_search_steps_1 (ZM × Int) Empty s s_2 at0 (history_search_count_y1 slf s s_2) (s_3, b1)).bind fun x => match x with
  | .inl st1_2 => (history_search_count_k2 at0 st1_2)
  | .inr r => r.elim
noncomputable def history_search_countF (slf : ZS → ZH → ((Int × Int) × Int) → ZM → Option (Int × ZM)) (s : ZS) (s_2 : ZH) (at0 : (Int × Int) × Int) (s_3 : ZM) : Option (Int × ZM) :=
  ck (InK .i64 at0.1.1) <| ck (InK .i64 at0.1.2) <| ck (InK .u64 at0.2) <| if (mhas s_3 at0) = true then
  some ((mget 0 s_3 at0), s_3)
  else
  (history_search_full s s_2 at0).bind fun v0 =>
  if v0 = true then
  history_search_count_k1 slf s s_2 at0 s_3 1
  else
  history_search_count_k1 slf s s_2 at0 s_3 0
noncomputable def history_search_count (n : Nat) : ZS → ZH → ((Int × Int) × Int) → ZM → Option (Int × ZM) := Nat.rec (motive := fun _ => ZS → ZH → ((Int × Int) × Int) → ZM → Option (Int × ZM)) (fun _ _ _ _ => none) (fun _ slf => history_search_countF slf) n

/- (lineal/history.search).first -/
noncomputable def history_search_first_k1 (b1 : (List Int) × ZM) : Option ((List Int) × Bool × ZM) :=
  some (b1.1, true, b1.2)
noncomputable def history_search_first_y2 (s : ZS) (s_2 : ZH) (st1 : ZM × Int × Int × Int × (List Int)) (y2 : Int × ((Int × Int) × Int)) (st2 : ZM) : Option (Step (ZM) (ZM × Int × Int × Int × (List Int))) :=
  (history_search_count fuel s s_2 y2.2 st2).bind fun v0_4 =>
  if (decide (0 < v0_4.1)) = true then
  ck ((st1.2.2.2.2.length + 1) * 8 ≤ 140737488355328) <| some (.done (v0_4.2, y2.2.1.1, y2.2.1.2, y2.2.2, (st1.2.2.2.2 ++ [y2.1])))
  else
  some (.next v0_4.2)
noncomputable def history_search_first_b1 (s : ZS) (s_2 : ZH) (st1 : ZM × Int × Int × Int × (List Int)) : Option (Step (ZM × Int × Int × Int × (List Int)) ((List Int) × ZM)) :=
  (history_search_full s s_2 ((st1.2.1, st1.2.2.1), st1.2.2.2.1)).bind fun v0_2 =>
  if (!v0_2) = true then
  (history_search_steps s s_2 ((st1.2.1, st1.2.2.1), st1.2.2.2.1)).bind fun v0_3 =>
  (history_search_steps_1 (ZM) (ZM × Int × Int × Int × (List Int)) s s_2 ((st1.2.1, st1.2.2.1), st1.2.2.2.1) (history_search_first_y2 s s_2 st1) st1.1).bind fun x => match x with
  | .inl st2_2 => (some (.next (st2_2, st1.2)))
  | .inr r2 => (some (.next r2))
  else
  some (.done (st1.2.2.2.2, st1.1))
noncomputable def history_search_first (s : ZS) (s_2 : ZH) (s_3 : ZM) : Option ((List Int) × Bool × ZM) :=
  (history_search_count fuel s s_2 ((0, 0), 0) s_3).bind fun v0 =>
  if (decide (v0.1 = 0)) = true then
  some ([], false, v0.2)
  else
  (whileO (history_search_first_b1 s s_2) (v0.2, 0, 0, 0, [])).bind fun r1 =>
  history_search_first_k1 r1

/- lineal/history.Order -/
noncomputable def history_Order (specs : ZS) (h0 : ZH) : Option ((List Int) × Int) :=
  (history_checkFor specs h0).bind fun v0 =>
  if (decide (v0 = 0)) = true then
  (history_told specs h0).bind fun v0_2 =>
  (history_search_first specs h0 []).bind fun v0_3 =>
  if (!v0_3.2.1) = true then
  some ([], 5)
  else
  some (v0_3.1, 0)
  else
  (history_told_2 v0 specs h0).bind fun v0_4 =>
  some ([], v0)

/- lineal/linealref02.SameInts -/
noncomputable def linealref02_SameInts_k1 : Option Bool :=
  some true
noncomputable def linealref02_SameInts_b1 (a : List Int) (b : List Int) (st1 : Int) : Option (Step Int (Sum Unit Unit)) :=
  if (decide (st1 < (a.length : Int))) = true then
  ck (0 ≤ st1) <| ck (st1 < (a.length : Int)) <| ck (0 ≤ st1) <| ck (st1 < (b.length : Int)) <| if (!(decide ((a.getD st1.toNat 0) = (b.getD st1.toNat 0)))) = true then
  some (.done (Sum.inl ()))
  else
  ck (InK .i64 (st1 + 1)) <| some (.next (st1 + 1))
  else
  some (.done (Sum.inr ()))
noncomputable def linealref02_SameInts (a : List Int) (b : List Int) : Option Bool :=
  if (!(decide ((a.length : Int) = (b.length : Int)))) = true then
  some false
  else
  (whileO (linealref02_SameInts_b1 a b) 0).bind fun x => match x with
  | .inl _ => (some false)
  | .inr _ => (linealref02_SameInts_k1)

/- lineal/lineallaw02.Sane -/
noncomputable def lineallaw02_Sane : Option Bool :=
  (history_Order [(2, 2, [[1, 0], [1, 0]], [[1, 0], [0, 1]])] [(0, 0, 0, 1, 1, 6), (1, 0, 1, 0, 2, 5)]).bind fun v0 =>
  if (decide (v0.2 = 0)) = true then
  (linealref02_SameInts v0.1 [1, 0]).bind fun v0_2 =>
  some v0_2
  else
  some false

/- lineal/lineallaw02.Long -/
noncomputable def lineallaw02_Long (h0 : ZH) : Option Unit :=
  some ()

/- lineal/history.isIndex -/
noncomputable def history_isIndex (h0 : ZH) (call : Int) : Option Bool :=
  if (decide (0 ≤ call)) = true then
  some (decide (call < (h0.length : Int)))
  else
  some false

/- lineal/history.isOrder -/
noncomputable def history_isOrder_k2 : Option Bool :=
  some true
noncomputable def history_isOrder_b2 (h0 : ZH) (b1 : (List Bool)) (st2 : Int) : Option (Step Int (Sum Unit Unit)) :=
  if (decide (st2 < (h0.length : Int))) = true then
  ck (0 ≤ st2) <| ck (st2 < (h0.length : Int)) <| if (!(decide ((h0.getD st2.toNat (0, 0, 0, 0, 0, 0)).2.2.2.2.2 = 0))) = true then
  ck (0 ≤ st2) <| ck (st2 < (b1.length : Int)) <| if (!(b1.getD st2.toNat false)) = true then
  some (.done (Sum.inl ()))
  else
  ck (InK .i64 (st2 + 1)) <| some (.next (st2 + 1))
  else
  ck (InK .i64 (st2 + 1)) <| some (.next (st2 + 1))
  else
  some (.done (Sum.inr ()))
noncomputable def history_isOrder_k1 (h0 : ZH) (b1 : (List Bool)) : Option Bool :=
  (whileO (history_isOrder_b2 h0 b1) 0).bind fun x => match x with
  | .inl _ => (some false)
  | .inr _ => (history_isOrder_k2)
noncomputable def history_isOrder_b1 (h0 : ZH) (order : List Int) (st1 : (List Bool) × Int) : Option (Step ((List Bool) × Int) (Sum Unit ((List Bool)))) :=
  if (decide (st1.2 < (order.length : Int))) = true then
  ck (0 ≤ st1.2) <| ck (st1.2 < (order.length : Int)) <| (history_isIndex h0 (order.getD st1.2.toNat 0)).bind fun v0 =>
  if (!v0) = true then
  some (.done (Sum.inl ()))
  else
  ck (0 ≤ (order.getD st1.2.toNat 0)) <| ck ((order.getD st1.2.toNat 0) < (st1.1.length : Int)) <| if (st1.1.getD (order.getD st1.2.toNat 0).toNat false) = true then
  some (.done (Sum.inl ()))
  else
  ck (0 ≤ (order.getD st1.2.toNat 0)) <| ck ((order.getD st1.2.toNat 0) < (st1.1.length : Int)) <| ck (InK .i64 (st1.2 + 1)) <| some (.next ((st1.1.set (order.getD st1.2.toNat 0).toNat true), (st1.2 + 1)))
  else
  some (.done (Sum.inr st1.1))
noncomputable def history_isOrder (h0 : ZH) (order : List Int) : Option Bool :=
  ck (1 * (h0.length : Int) ≤ 281474976710656) <| (whileO (history_isOrder_b1 h0 order) ((List.replicate h0.length (false : Bool)), 0)).bind fun x => match x with
  | .inl _ => (some false)
  | .inr r1 => (history_isOrder_k1 h0 r1)

/- lineal/history.check -/
noncomputable def history_check (h0 : ZH) (arguments : Bool) : Option Int :=
  (history_Valid h0).bind fun v0 =>
  if (!v0) = true then
  some 20
  else
  if (!arguments) = true then
  some 2
  else
  some 0

/- lineal/history.keeps -/
noncomputable def history_keeps_k1 : Option Bool :=
  some true
noncomputable def history_keeps_k2 (st1 : Int) : Option (Step Int (Sum Unit Unit)) :=
  ck (InK .i64 (st1 + 1)) <| some (.next (st1 + 1))
noncomputable def history_keeps_b2 (h0 : ZH) (order : List Int) (st1 : Int) (st2 : Int) : Option (Step Int (Sum Unit Unit)) :=
  if (decide (st2 < ((order.take st1.toNat).length : Int))) = true then
  ck (0 ≤ st2) <| ck (st2 < ((order.take st1.toNat).length : Int)) <| ck (0 ≤ ((order.take st1.toNat).getD st2.toNat 0)) <| ck (((order.take st1.toNat).getD st2.toNat 0) < (h0.length : Int)) <| ck (0 ≤ (order.getD st1.toNat 0)) <| ck ((order.getD st1.toNat 0) < (h0.length : Int)) <| (history_inTime (h0.getD ((order.take st1.toNat).getD st2.toNat 0).toNat (0, 0, 0, 0, 0, 0)) (h0.getD (order.getD st1.toNat 0).toNat (0, 0, 0, 0, 0, 0))).bind fun v0 =>
  if v0 = true then
  some (.done (Sum.inl ()))
  else
  ck (InK .i64 (st2 + 1)) <| some (.next (st2 + 1))
  else
  some (.done (Sum.inr ()))
noncomputable def history_keeps_b1 (h0 : ZH) (order : List Int) (st1 : Int) : Option (Step Int (Sum Unit Unit)) :=
  if (decide (st1 < (order.length : Int))) = true then
  ck (0 ≤ st1) <| ck (st1 < (order.length : Int)) <| ck (0 ≤ st1) <| ck (st1 ≤ (order.length : Int)) <| (whileO (history_keeps_b2 h0 order st1) 0).bind fun x => match x with
  | .inl _ => (some (.done (Sum.inl ())))
  | .inr _ => (history_keeps_k2 st1)
  else
  some (.done (Sum.inr ()))
noncomputable def history_keeps (h0 : ZH) (order : List Int) : Option Bool :=
  (whileO (history_keeps_b1 h0 order) 0).bind fun x => match x with
  | .inl _ => (some false)
  | .inr _ => (history_keeps_k1)

/- lineal/history.inThread -/
noncomputable def history_inThread (a : Int × Int × Int × Int × Int × Int) (b : Int × Int × Int × Int × Int × Int) : Option Bool :=
  if (decide (a.1 = b.1)) = true then
  some (decide (b.2.2.2.2.1 < a.2.2.2.2.1))
  else
  some false

/- lineal/history.keeps -/
noncomputable def history_keeps_2_k1 : Option Bool :=
  some true
noncomputable def history_keeps_2_k2 (st1 : Int) : Option (Step Int (Sum Unit Unit)) :=
  ck (InK .i64 (st1 + 1)) <| some (.next (st1 + 1))
noncomputable def history_keeps_2_b2 (h0 : ZH) (order : List Int) (st1 : Int) (st2 : Int) : Option (Step Int (Sum Unit Unit)) :=
  if (decide (st2 < ((order.take st1.toNat).length : Int))) = true then
  ck (0 ≤ st2) <| ck (st2 < ((order.take st1.toNat).length : Int)) <| ck (0 ≤ ((order.take st1.toNat).getD st2.toNat 0)) <| ck (((order.take st1.toNat).getD st2.toNat 0) < (h0.length : Int)) <| ck (0 ≤ (order.getD st1.toNat 0)) <| ck ((order.getD st1.toNat 0) < (h0.length : Int)) <| (history_inThread (h0.getD ((order.take st1.toNat).getD st2.toNat 0).toNat (0, 0, 0, 0, 0, 0)) (h0.getD (order.getD st1.toNat 0).toNat (0, 0, 0, 0, 0, 0))).bind fun v0 =>
  if v0 = true then
  some (.done (Sum.inl ()))
  else
  ck (InK .i64 (st2 + 1)) <| some (.next (st2 + 1))
  else
  some (.done (Sum.inr ()))
noncomputable def history_keeps_2_b1 (h0 : ZH) (order : List Int) (st1 : Int) : Option (Step Int (Sum Unit Unit)) :=
  if (decide (st1 < (order.length : Int))) = true then
  ck (0 ≤ st1) <| ck (st1 < (order.length : Int)) <| ck (0 ≤ st1) <| ck (st1 ≤ (order.length : Int)) <| (whileO (history_keeps_2_b2 h0 order st1) 0).bind fun x => match x with
  | .inl _ => (some (.done (Sum.inl ())))
  | .inr _ => (history_keeps_2_k2 st1)
  else
  some (.done (Sum.inr ()))
noncomputable def history_keeps_2 (h0 : ZH) (order : List Int) : Option Bool :=
  (whileO (history_keeps_2_b1 h0 order) 0).bind fun x => match x with
  | .inl _ => (some false)
  | .inr _ => (history_keeps_2_k1)

/- lineal/history.Keeps$1 -/
noncomputable def history_Keeps_1 (a0 : ZH) (a1 : List Int) : Option (Bool × Bool) :=
  (history_keeps a0 a1).bind fun v0 =>
  (history_keeps_2 a0 a1).bind fun v0_2 =>
  some (v0, v0_2)

/- lineal/history.told[[2]bool] -/
noncomputable def history_told_3 (err : Int) (c0 : ZH) (c1 : List Int) : Option (Bool × Bool × Int) :=
  if (!(decide (err = 0))) = true then
  some (false, false, err)
  else
  (history_Keeps_1 c0 c1).bind fun v0 =>
  some (v0.1, v0.2, 0)

/- lineal/history.Keeps -/
noncomputable def history_Keeps (h0 : ZH) (order : List Int) : Option (Bool × Bool × Int) :=
  (history_isOrder h0 order).bind fun v0 =>
  (history_check h0 v0).bind fun v0_2 =>
  (history_told_3 v0_2 h0 order).bind fun v0_3 =>
  some v0_3

/- lineal/linealref02.within -/
noncomputable def linealref02_within (lo : Int) (n : Int) (hi : Int) : Option Bool :=
  if (decide (lo ≤ n)) = true then
  some (decide (n ≤ hi))
  else
  some false

/- lineal/linealref02.before -/
noncomputable def linealref02_before (c : Int × Int × Int × Int × Int × Int) (d : Int × Int × Int × Int × Int × Int) : Option Bool :=
  if (!(decide (c.2.2.2.2.2 = 0))) = true then
  some (decide (c.2.2.2.2.2 < d.2.2.2.2.1))
  else
  some false

/- lineal/linealref02.meets -/
noncomputable def linealref02_meets_k1 (c : Int × Int × Int × Int × Int × Int) (d : Int × Int × Int × Int × Int × Int) : Option Bool :=
  if (decide (c.1 = d.1)) = true then
  (linealref02_before c d).bind fun v0 =>
  if (!v0) = true then
  (linealref02_before d c).bind fun v0_2 =>
  some (!v0_2)
  else
  some false
  else
  some false
noncomputable def linealref02_meets (c : Int × Int × Int × Int × Int × Int) (d : Int × Int × Int × Int × Int × Int) : Option Bool :=
  if (decide (c.2.2.2.2.1 = d.2.2.2.2.1)) = true then
  some true
  else
  if (decide (c.2.2.2.2.1 = d.2.2.2.2.2)) = true then
  some true
  else
  if (decide (c.2.2.2.2.2 = d.2.2.2.2.1)) = true then
  some true
  else
  if (!(decide (c.2.2.2.2.2 = 0))) = true then
  if (decide (c.2.2.2.2.2 = d.2.2.2.2.2)) = true then
  some true
  else
  linealref02_meets_k1 c d
  else
  linealref02_meets_k1 c d

/- lineal/linealref02.Valid -/
noncomputable def linealref02_Valid_k1 : Option Bool :=
  some true
noncomputable def linealref02_Valid_k2 (st1 : Int) : Option (Step Int (Sum Unit Unit)) :=
  ck (InK .i64 (st1 + 1)) <| some (.next (st1 + 1))
noncomputable def linealref02_Valid_b2 (h0 : ZH) (st1 : Int) (st2 : Int) : Option (Step Int (Sum Unit Unit)) :=
  if (decide (st2 < st1)) = true then
  ck (0 ≤ st2) <| ck (st2 < (h0.length : Int)) <| (linealref02_meets (h0.getD st1.toNat (0, 0, 0, 0, 0, 0)) (h0.getD st2.toNat (0, 0, 0, 0, 0, 0))).bind fun v0_7 =>
  if v0_7 = true then
  some (.done (Sum.inl ()))
  else
  ck (InK .i64 (st2 + 1)) <| some (.next (st2 + 1))
  else
  some (.done (Sum.inr ()))
noncomputable def linealref02_Valid_k3 (h0 : ZH) (st1 : Int) : Option (Step Int (Sum Unit Unit)) :=
  (whileO (linealref02_Valid_b2 h0 st1) 0).bind fun x => match x with
  | .inl _ => (some (.done (Sum.inl ())))
  | .inr _ => (linealref02_Valid_k2 st1)
noncomputable def linealref02_Valid_b1 (h0 : ZH) (st1 : Int) : Option (Step Int (Sum Unit Unit)) :=
  if (decide (st1 < (h0.length : Int))) = true then
  ck (0 ≤ st1) <| ck (st1 < (h0.length : Int)) <| (linealref02_within 0 (h0.getD st1.toNat (0, 0, 0, 0, 0, 0)).1 3).bind fun v0 =>
  if (!v0) = true then
  some (.done (Sum.inl ()))
  else
  (linealref02_within 0 (h0.getD st1.toNat (0, 0, 0, 0, 0, 0)).2.1 1).bind fun v0_2 =>
  if (!v0_2) = true then
  some (.done (Sum.inl ()))
  else
  (linealref02_within 0 (h0.getD st1.toNat (0, 0, 0, 0, 0, 0)).2.2.1 3).bind fun v0_3 =>
  if (!v0_3) = true then
  some (.done (Sum.inl ()))
  else
  (linealref02_within 0 (h0.getD st1.toNat (0, 0, 0, 0, 0, 0)).2.2.2.1 9).bind fun v0_4 =>
  if (!v0_4) = true then
  some (.done (Sum.inl ()))
  else
  (linealref02_within 1 (h0.getD st1.toNat (0, 0, 0, 0, 0, 0)).2.2.2.2.1 100).bind fun v0_5 =>
  if (!v0_5) = true then
  some (.done (Sum.inl ()))
  else
  if (decide ((h0.getD st1.toNat (0, 0, 0, 0, 0, 0)).2.2.2.2.2 = 0)) = true then
  if (!(decide ((h0.getD st1.toNat (0, 0, 0, 0, 0, 0)).2.2.2.1 = 0))) = true then
  some (.done (Sum.inl ()))
  else
  linealref02_Valid_k3 h0 st1
  else
  ck (InK .i64 ((h0.getD st1.toNat (0, 0, 0, 0, 0, 0)).2.2.2.2.1 + 1)) <| (linealref02_within ((h0.getD st1.toNat (0, 0, 0, 0, 0, 0)).2.2.2.2.1 + 1) (h0.getD st1.toNat (0, 0, 0, 0, 0, 0)).2.2.2.2.2 100).bind fun v0_6 =>
  if (!v0_6) = true then
  some (.done (Sum.inl ()))
  else
  linealref02_Valid_k3 h0 st1
  else
  some (.done (Sum.inr ()))
noncomputable def linealref02_Valid (h0 : ZH) : Option Bool :=
  if (decide (8 < (h0.length : Int))) = true then
  some false
  else
  (whileO (linealref02_Valid_b1 h0) 0).bind fun x => match x with
  | .inl _ => (some false)
  | .inr _ => (linealref02_Valid_k1)

/- lineal/linealref02.isList -/
noncomputable def linealref02_isList_k2 : Option Bool :=
  some true
noncomputable def linealref02_isList_b2 (h0 : ZH) (b1 : (List Bool)) (st2 : Int) : Option (Step Int (Sum Unit Unit)) :=
  if (decide (st2 < (h0.length : Int))) = true then
  ck (0 ≤ st2) <| ck (st2 < (h0.length : Int)) <| if (!(decide ((h0.getD st2.toNat (0, 0, 0, 0, 0, 0)).2.2.2.2.2 = 0))) = true then
  ck (0 ≤ st2) <| ck (st2 < (b1.length : Int)) <| if (!(b1.getD st2.toNat false)) = true then
  some (.done (Sum.inl ()))
  else
  ck (InK .i64 (st2 + 1)) <| some (.next (st2 + 1))
  else
  ck (InK .i64 (st2 + 1)) <| some (.next (st2 + 1))
  else
  some (.done (Sum.inr ()))
noncomputable def linealref02_isList_k1 (h0 : ZH) (b1 : (List Bool)) : Option Bool :=
  (whileO (linealref02_isList_b2 h0 b1) 0).bind fun x => match x with
  | .inl _ => (some false)
  | .inr _ => (linealref02_isList_k2)
noncomputable def linealref02_isList_b1 (h0 : ZH) (l : List Int) (st1 : (List Bool) × Int) : Option (Step ((List Bool) × Int) (Sum Unit ((List Bool)))) :=
  if (decide (st1.2 < (l.length : Int))) = true then
  ck (0 ≤ st1.2) <| ck (st1.2 < (l.length : Int)) <| ck (InK .i64 ((h0.length : Int) - 1)) <| (linealref02_within 0 (l.getD st1.2.toNat 0) ((h0.length : Int) - 1)).bind fun v0 =>
  if (!v0) = true then
  some (.done (Sum.inl ()))
  else
  ck (0 ≤ st1.2) <| ck (st1.2 < (l.length : Int)) <| ck (0 ≤ (l.getD st1.2.toNat 0)) <| ck ((l.getD st1.2.toNat 0) < (st1.1.length : Int)) <| if (st1.1.getD (l.getD st1.2.toNat 0).toNat false) = true then
  some (.done (Sum.inl ()))
  else
  ck (0 ≤ st1.2) <| ck (st1.2 < (l.length : Int)) <| ck (0 ≤ (l.getD st1.2.toNat 0)) <| ck ((l.getD st1.2.toNat 0) < (st1.1.length : Int)) <| ck (InK .i64 (st1.2 + 1)) <| some (.next ((st1.1.set (l.getD st1.2.toNat 0).toNat true), (st1.2 + 1)))
  else
  some (.done (Sum.inr st1.1))
noncomputable def linealref02_isList (h0 : ZH) (l : List Int) : Option Bool :=
  if (decide ((h0.length : Int) < (l.length : Int))) = true then
  some false
  else
  ck (1 * (h0.length : Int) ≤ 281474976710656) <| (whileO (linealref02_isList_b1 h0 l) ((List.replicate h0.length (false : Bool)), 0)).bind fun x => match x with
  | .inl _ => (some false)
  | .inr r1 => (linealref02_isList_k1 h0 r1)

/- lineal/linealref02.keepsTime -/
noncomputable def linealref02_keepsTime_k1 : Option Bool :=
  some true
noncomputable def linealref02_keepsTime_k2 (st1 : Int) : Option (Step Int (Sum Unit Unit)) :=
  ck (InK .i64 (st1 + 1)) <| some (.next (st1 + 1))
noncomputable def linealref02_keepsTime_b2 (h0 : ZH) (l : List Int) (st1 : Int) (st2 : Int) : Option (Step Int (Sum Unit Unit)) :=
  if (decide (st2 < st1)) = true then
  ck (0 ≤ st1) <| ck (st1 < (l.length : Int)) <| ck (0 ≤ (l.getD st1.toNat 0)) <| ck ((l.getD st1.toNat 0) < (h0.length : Int)) <| ck (0 ≤ st2) <| ck (st2 < (l.length : Int)) <| ck (0 ≤ (l.getD st2.toNat 0)) <| ck ((l.getD st2.toNat 0) < (h0.length : Int)) <| (linealref02_before (h0.getD (l.getD st1.toNat 0).toNat (0, 0, 0, 0, 0, 0)) (h0.getD (l.getD st2.toNat 0).toNat (0, 0, 0, 0, 0, 0))).bind fun v0 =>
  if v0 = true then
  some (.done (Sum.inl ()))
  else
  ck (InK .i64 (st2 + 1)) <| some (.next (st2 + 1))
  else
  some (.done (Sum.inr ()))
noncomputable def linealref02_keepsTime_b1 (h0 : ZH) (l : List Int) (st1 : Int) : Option (Step Int (Sum Unit Unit)) :=
  if (decide (st1 < (l.length : Int))) = true then
  (whileO (linealref02_keepsTime_b2 h0 l st1) 0).bind fun x => match x with
  | .inl _ => (some (.done (Sum.inl ())))
  | .inr _ => (linealref02_keepsTime_k2 st1)
  else
  some (.done (Sum.inr ()))
noncomputable def linealref02_keepsTime (h0 : ZH) (l : List Int) : Option Bool :=
  (whileO (linealref02_keepsTime_b1 h0 l) 0).bind fun x => match x with
  | .inl _ => (some false)
  | .inr _ => (linealref02_keepsTime_k1)

/- lineal/linealref02.keepsThreads -/
noncomputable def linealref02_keepsThreads_k1 : Option Bool :=
  some true
noncomputable def linealref02_keepsThreads_k2 (st1 : Int) : Option (Step Int (Sum Unit Unit)) :=
  ck (InK .i64 (st1 + 1)) <| some (.next (st1 + 1))
noncomputable def linealref02_keepsThreads_b2 (h0 : ZH) (l : List Int) (st1 : Int) (st2 : Int) : Option (Step Int (Sum Unit Unit)) :=
  if (decide (st2 < st1)) = true then
  ck (0 ≤ st1) <| ck (st1 < (l.length : Int)) <| ck (0 ≤ (l.getD st1.toNat 0)) <| ck ((l.getD st1.toNat 0) < (h0.length : Int)) <| ck (0 ≤ st2) <| ck (st2 < (l.length : Int)) <| ck (0 ≤ (l.getD st2.toNat 0)) <| ck ((l.getD st2.toNat 0) < (h0.length : Int)) <| if (decide ((h0.getD (l.getD st1.toNat 0).toNat (0, 0, 0, 0, 0, 0)).1 = (h0.getD (l.getD st2.toNat 0).toNat (0, 0, 0, 0, 0, 0)).1)) = true then
  ck (0 ≤ st1) <| ck (st1 < (l.length : Int)) <| ck (0 ≤ (l.getD st1.toNat 0)) <| ck ((l.getD st1.toNat 0) < (h0.length : Int)) <| ck (0 ≤ st2) <| ck (st2 < (l.length : Int)) <| ck (0 ≤ (l.getD st2.toNat 0)) <| ck ((l.getD st2.toNat 0) < (h0.length : Int)) <| if (decide ((h0.getD (l.getD st1.toNat 0).toNat (0, 0, 0, 0, 0, 0)).2.2.2.2.1 < (h0.getD (l.getD st2.toNat 0).toNat (0, 0, 0, 0, 0, 0)).2.2.2.2.1)) = true then
  some (.done (Sum.inl ()))
  else
  ck (InK .i64 (st2 + 1)) <| some (.next (st2 + 1))
  else
  ck (InK .i64 (st2 + 1)) <| some (.next (st2 + 1))
  else
  some (.done (Sum.inr ()))
noncomputable def linealref02_keepsThreads_b1 (h0 : ZH) (l : List Int) (st1 : Int) : Option (Step Int (Sum Unit Unit)) :=
  if (decide (st1 < (l.length : Int))) = true then
  (whileO (linealref02_keepsThreads_b2 h0 l st1) 0).bind fun x => match x with
  | .inl _ => (some (.done (Sum.inl ())))
  | .inr _ => (linealref02_keepsThreads_k2 st1)
  else
  some (.done (Sum.inr ()))
noncomputable def linealref02_keepsThreads (h0 : ZH) (l : List Int) : Option Bool :=
  (whileO (linealref02_keepsThreads_b1 h0 l) 0).bind fun x => match x with
  | .inl _ => (some false)
  | .inr _ => (linealref02_keepsThreads_k1)

/- lineal/linealref02.Keeps -/
noncomputable def linealref02_Keeps (h0 : ZH) (l : List Int) : Option (Bool × Bool × Int) :=
  (linealref02_Valid h0).bind fun v0 =>
  if (!v0) = true then
  some (false, false, 20)
  else
  (linealref02_isList h0 l).bind fun v0_2 =>
  if (!v0_2) = true then
  some (false, false, 2)
  else
  (linealref02_keepsTime h0 l).bind fun v0_3 =>
  (linealref02_keepsThreads h0 l).bind fun v0_4 =>
  some (v0_3, v0_4, 0)

/- lineal/lineallaw02.HistoryKeeps -/
noncomputable def lineallaw02_HistoryKeeps (h0 : ZH) (l : List Int) : Option Bool :=
  (lineallaw02_Long h0).bind fun v0 =>
  if (decide (40 < (h0.length : Int))) = true then
  (lineallaw02_Sane).bind fun v0_2 =>
  some v0_2
  else
  if (decide (60 < (l.length : Int))) = true then
  (lineallaw02_Sane).bind fun v0_3 =>
  some v0_3
  else
  (history_Keeps h0 l).bind fun v0_4 =>
  (linealref02_Keeps h0 l).bind fun v0_5 =>
  if ((v0_4.1 == v0_5.1) != false) = true then
  if ((v0_4.2.1 == v0_5.2.1) != false) = true then
  if (decide (v0_4.2.2 = v0_5.2.2)) = true then
  (lineallaw02_Sane).bind fun v0_6 =>
  some v0_6
  else
  some false
  else
  some false
  else
  some false

/- lineal/lineallaw02.Large -/
noncomputable def lineallaw02_Large_k1 (specs : ZS) : Option Bool :=
  some (decide (5 < (specs.length : Int)))
noncomputable def lineallaw02_Large_k2 (st1 : Int) : Option (Step Int (Sum Unit Unit)) :=
  ck (InK .i64 (st1 + 1)) <| some (.next (st1 + 1))
noncomputable def lineallaw02_Large_b3 (specs : ZS) (st1 : Int) (st3 : Int) : Option (Step Int (Sum Unit Unit)) :=
  if (decide (st3 < ((specs.getD st1.toNat (0, 0, [], [])).2.2.2.length : Int))) = true then
  ck (0 ≤ st3) <| ck (st3 < ((specs.getD st1.toNat (0, 0, [], [])).2.2.2.length : Int)) <| if (decide (20 < (((specs.getD st1.toNat (0, 0, [], [])).2.2.2.getD st3.toNat []).length : Int))) = true then
  some (.done (Sum.inl ()))
  else
  ck (InK .i64 (st3 + 1)) <| some (.next (st3 + 1))
  else
  some (.done (Sum.inr ()))
noncomputable def lineallaw02_Large_k3 (specs : ZS) (st1 : Int) : Option (Step Int (Sum Unit Unit)) :=
  (whileO (lineallaw02_Large_b3 specs st1) 0).bind fun x => match x with
  | .inl _ => (some (.done (Sum.inl ())))
  | .inr _ => (lineallaw02_Large_k2 st1)
noncomputable def lineallaw02_Large_b2 (specs : ZS) (st1 : Int) (st2 : Int) : Option (Step Int (Sum Unit Unit)) :=
  if (decide (st2 < ((specs.getD st1.toNat (0, 0, [], [])).2.2.1.length : Int))) = true then
  ck (0 ≤ st2) <| ck (st2 < ((specs.getD st1.toNat (0, 0, [], [])).2.2.1.length : Int)) <| if (decide (20 < (((specs.getD st1.toNat (0, 0, [], [])).2.2.1.getD st2.toNat []).length : Int))) = true then
  some (.done (Sum.inl ()))
  else
  ck (InK .i64 (st2 + 1)) <| some (.next (st2 + 1))
  else
  some (.done (Sum.inr ()))
noncomputable def lineallaw02_Large_b1 (specs : ZS) (st1 : Int) : Option (Step Int (Sum Unit Unit)) :=
  if (decide (st1 < (specs.length : Int))) = true then
  ck (0 ≤ st1) <| ck (st1 < (specs.length : Int)) <| if (decide (20 < ((specs.getD st1.toNat (0, 0, [], [])).2.2.1.length : Int))) = true then
  some (.done (Sum.inl ()))
  else
  if (decide (20 < ((specs.getD st1.toNat (0, 0, [], [])).2.2.2.length : Int))) = true then
  some (.done (Sum.inl ()))
  else
  (whileO (lineallaw02_Large_b2 specs st1) 0).bind fun x => match x with
  | .inl _ => (some (.done (Sum.inl ())))
  | .inr _ => (lineallaw02_Large_k3 specs st1)
  else
  some (.done (Sum.inr ()))
noncomputable def lineallaw02_Large (specs : ZS) : Option Bool :=
  (whileO (lineallaw02_Large_b1 specs) 0).bind fun x => match x with
  | .inl _ => (some true)
  | .inr _ => (lineallaw02_Large_k1 specs)

/- lineal/linealref01.isTable -/
noncomputable def linealref01_isTable_k1 : Option Bool :=
  some true
noncomputable def linealref01_isTable_k2 (st1 : Int) : Option (Step Int (Sum Unit Unit)) :=
  ck (InK .i64 (st1 + 1)) <| some (.next (st1 + 1))
noncomputable def linealref01_isTable_b2 (l : List (List Int)) (limit : Int) (st1 : Int) (st2 : Int) : Option (Step Int (Sum Unit Unit)) :=
  if (decide (st2 < ((l.getD st1.toNat []).length : Int))) = true then
  ck (0 ≤ st2) <| ck (st2 < ((l.getD st1.toNat []).length : Int)) <| if (decide (((l.getD st1.toNat []).getD st2.toNat 0) < 0)) = true then
  some (.done (Sum.inl ()))
  else
  if (decide (limit ≤ ((l.getD st1.toNat []).getD st2.toNat 0))) = true then
  some (.done (Sum.inl ()))
  else
  ck (InK .i64 (st2 + 1)) <| some (.next (st2 + 1))
  else
  some (.done (Sum.inr ()))
noncomputable def linealref01_isTable_b1 (s : Int × Int × (List (List Int)) × (List (List Int))) (l : List (List Int)) (limit : Int) (st1 : Int) : Option (Step Int (Sum Unit Unit)) :=
  if (decide (st1 < (l.length : Int))) = true then
  ck (0 ≤ st1) <| ck (st1 < (l.length : Int)) <| if (!(decide (((l.getD st1.toNat []).length : Int) = s.2.1))) = true then
  some (.done (Sum.inl ()))
  else
  (whileO (linealref01_isTable_b2 l limit st1) 0).bind fun x => match x with
  | .inl _ => (some (.done (Sum.inl ())))
  | .inr _ => (linealref01_isTable_k2 st1)
  else
  some (.done (Sum.inr ()))
noncomputable def linealref01_isTable (s : Int × Int × (List (List Int)) × (List (List Int))) (l : List (List Int)) (limit : Int) : Option Bool :=
  if (!(decide ((l.length : Int) = s.1))) = true then
  some false
  else
  (whileO (linealref01_isTable_b1 s l limit) 0).bind fun x => match x with
  | .inl _ => (some false)
  | .inr _ => (linealref01_isTable_k1)

/- lineal/linealref01.Valid -/
noncomputable def linealref01_Valid (s : Int × Int × (List (List Int)) × (List (List Int))) : Option Bool :=
  if (decide (1 ≤ s.1)) = true then
  if (decide (s.1 ≤ 8)) = true then
  if (decide (1 ≤ s.2.1)) = true then
  if (decide (s.2.1 ≤ 4)) = true then
  (linealref01_isTable s s.2.2.1 s.1).bind fun v0 =>
  if v0 = true then
  (linealref01_isTable s s.2.2.2 6).bind fun v0_2 =>
  some v0_2
  else
  some false
  else
  some false
  else
  some false
  else
  some false
  else
  some false

/- lineal/linealref02.areSpecs -/
noncomputable def linealref02_areSpecs_k1 (specs : ZS) : Option Bool :=
  (linealref02_within 1 (specs.length : Int) 2).bind fun v0_2 =>
  some v0_2
noncomputable def linealref02_areSpecs_b1 (specs : ZS) (st1 : Int) : Option (Step Int (Sum Unit Unit)) :=
  if (decide (st1 < (specs.length : Int))) = true then
  ck (0 ≤ st1) <| ck (st1 < (specs.length : Int)) <| (linealref01_Valid (specs.getD st1.toNat (0, 0, [], []))).bind fun v0 =>
  if (!v0) = true then
  some (.done (Sum.inl ()))
  else
  ck (InK .i64 (st1 + 1)) <| some (.next (st1 + 1))
  else
  some (.done (Sum.inr ()))
noncomputable def linealref02_areSpecs (specs : ZS) : Option Bool :=
  (whileO (linealref02_areSpecs_b1 specs) 0).bind fun x => match x with
  | .inl _ => (some false)
  | .inr _ => (linealref02_areSpecs_k1 specs)

/- lineal/linealref02.isFor -/
noncomputable def linealref02_isFor_k1 : Option Bool :=
  some true
noncomputable def linealref02_isFor_b1 (specs : ZS) (h0 : ZH) (st1 : Int) : Option (Step Int (Sum Unit Unit)) :=
  if (decide (st1 < (h0.length : Int))) = true then
  ck (0 ≤ st1) <| ck (st1 < (h0.length : Int)) <| if (decide ((specs.length : Int) ≤ (h0.getD st1.toNat (0, 0, 0, 0, 0, 0)).2.1)) = true then
  some (.done (Sum.inl ()))
  else
  ck (0 ≤ st1) <| ck (st1 < (h0.length : Int)) <| ck (0 ≤ st1) <| ck (st1 < (h0.length : Int)) <| ck (0 ≤ (h0.getD st1.toNat (0, 0, 0, 0, 0, 0)).2.1) <| ck ((h0.getD st1.toNat (0, 0, 0, 0, 0, 0)).2.1 < (specs.length : Int)) <| if (decide ((specs.getD (h0.getD st1.toNat (0, 0, 0, 0, 0, 0)).2.1.toNat (0, 0, [], [])).2.1 ≤ (h0.getD st1.toNat (0, 0, 0, 0, 0, 0)).2.2.1)) = true then
  some (.done (Sum.inl ()))
  else
  ck (InK .i64 (st1 + 1)) <| some (.next (st1 + 1))
  else
  some (.done (Sum.inr ()))
noncomputable def linealref02_isFor (specs : ZS) (h0 : ZH) : Option Bool :=
  (linealref02_areSpecs specs).bind fun v0 =>
  if (!v0) = true then
  some false
  else
  (linealref02_Valid h0).bind fun v0_2 =>
  if (!v0_2) = true then
  some false
  else
  (whileO (linealref02_isFor_b1 specs h0) 0).bind fun x => match x with
  | .inl _ => (some false)
  | .inr _ => (linealref02_isFor_k1)

/- lineal/linealref02.For -/
noncomputable def linealref02_For (specs : ZS) (h0 : ZH) : Option (Bool × Int) :=
  (linealref02_areSpecs specs).bind fun v0 =>
  if (!v0) = true then
  some (false, 10)
  else
  (linealref02_isFor specs h0).bind fun v0_2 =>
  some (v0_2, 0)

/- lineal/history.width$1 -/
noncomputable def history_width_1 (c : Int × Int × Int × Int × Int × Int) (a1 : Int × Int × Int × Int × Int × Int) : Option Bool :=
  if (decide (c.2.2.2.2.1 ≤ a1.2.2.2.2.1)) = true then
  if (decide (c.2.2.2.2.2 = 0)) = true then
  some true
  else
  some (decide (a1.2.2.2.2.1 ≤ c.2.2.2.2.2))
  else
  some false

/- lineal/history.those -/
noncomputable def history_those_k1 (b1 : ZH) : Option (ZH) :=
  some b1
noncomputable def history_those_b1 (h0 : ZH) (c0 : Int × Int × Int × Int × Int × Int) (st1 : ZH × Int) : Option (Step (ZH × Int) (ZH)) :=
  if (decide (st1.2 < (h0.length : Int))) = true then
  ck (0 ≤ st1.2) <| ck (st1.2 < (h0.length : Int)) <| (history_width_1 (h0.getD st1.2.toNat (0, 0, 0, 0, 0, 0)) c0).bind fun v0 =>
  if v0 = true then
  ck ((st1.1.length + 1) * 48 ≤ 140737488355328) <| ck (InK .i64 (st1.2 + 1)) <| some (.next ((st1.1 ++ [(h0.getD st1.2.toNat (0, 0, 0, 0, 0, 0))]), (st1.2 + 1)))
  else
  ck (InK .i64 (st1.2 + 1)) <| some (.next (st1.1, (st1.2 + 1)))
  else
  some (.done st1.1)
noncomputable def history_those (h0 : ZH) (c0 : Int × Int × Int × Int × Int × Int) : Option (ZH) :=
  (whileO (history_those_b1 h0 c0) ([], 0)).bind fun r1 =>
  history_those_k1 r1

/- lineal/history.width -/
noncomputable def history_width_k1 (b1 : Int) : Option Int :=
  some b1
noncomputable def history_width_b1 (h0 : ZH) (st1 : Int × Int) : Option (Step (Int × Int) Int) :=
  if (decide (st1.2 < (h0.length : Int))) = true then
  ck (0 ≤ st1.2) <| ck (st1.2 < (h0.length : Int)) <| (history_those h0 (h0.getD st1.2.toNat (0, 0, 0, 0, 0, 0))).bind fun v0 =>
  ck (InK .i64 (st1.2 + 1)) <| some (.next ((max st1.1 (v0.length : Int)), (st1.2 + 1)))
  else
  some (.done st1.1)
noncomputable def history_width (h0 : ZH) : Option Int :=
  (whileO (history_width_b1 h0) (0, 0)).bind fun r1 =>
  history_width_k1 r1

/- lineal/history.Width$1 -/
noncomputable def history_Width_1 (a0 : ZH) : Option Int :=
  (history_width a0).bind fun v0 =>
  some v0

/- lineal/history.told[int] -/
noncomputable def history_told_8 (c0 : ZH) : Option Int :=
  (history_Width_1 c0).bind fun v0 =>
  some v0

/- lineal/history.told[int] -/
noncomputable def history_told_9 (err : Int) (c0 : ZH) : Option Unit :=
  some ()

/- lineal/history.Width -/
noncomputable def history_Width (h0 : ZH) : Option (Int × Int) :=
  (history_check h0 true).bind fun v0 =>
  if (decide (v0 = 0)) = true then
  (history_told_8 h0).bind fun v0_2 =>
  some (v0_2, 0)
  else
  (history_told_9 v0 h0).bind fun v0_3 =>
  some (0, v0)

/- lineal/linealref02.underWay -/
noncomputable def linealref02_underWay_k1 (b1 : Int) : Option Int :=
  some b1
noncomputable def linealref02_underWay_b1 (h0 : ZH) (moment : Int) (st1 : Int × Int) : Option (Step (Int × Int) Int) :=
  if (decide (st1.2 < (h0.length : Int))) = true then
  ck (0 ≤ st1.2) <| ck (st1.2 < (h0.length : Int)) <| if (decide ((h0.getD st1.2.toNat (0, 0, 0, 0, 0, 0)).2.2.2.2.1 ≤ moment)) = true then
  ck (0 ≤ st1.2) <| ck (st1.2 < (h0.length : Int)) <| if (decide ((h0.getD st1.2.toNat (0, 0, 0, 0, 0, 0)).2.2.2.2.2 = 0)) = true then
  ck (InK .i64 (st1.1 + 1)) <| ck (InK .i64 (st1.2 + 1)) <| some (.next ((st1.1 + 1), (st1.2 + 1)))
  else
  ck (0 ≤ st1.2) <| ck (st1.2 < (h0.length : Int)) <| if (decide (moment ≤ (h0.getD st1.2.toNat (0, 0, 0, 0, 0, 0)).2.2.2.2.2)) = true then
  ck (InK .i64 (st1.1 + 1)) <| ck (InK .i64 (st1.2 + 1)) <| some (.next ((st1.1 + 1), (st1.2 + 1)))
  else
  ck (InK .i64 (st1.2 + 1)) <| some (.next (st1.1, (st1.2 + 1)))
  else
  ck (InK .i64 (st1.2 + 1)) <| some (.next (st1.1, (st1.2 + 1)))
  else
  some (.done st1.1)
noncomputable def linealref02_underWay (h0 : ZH) (moment : Int) : Option Int :=
  (whileO (linealref02_underWay_b1 h0 moment) (0, 0)).bind fun r1 =>
  linealref02_underWay_k1 r1

/- lineal/linealref02.Width -/
noncomputable def linealref02_Width_k1 (b1 : Int) : Option (Int × Int) :=
  some (b1, 0)
noncomputable def linealref02_Width_b1 (h0 : ZH) (st1 : Int × Int) : Option (Step (Int × Int) Int) :=
  if (decide (st1.2 ≤ 100)) = true then
  (linealref02_underWay h0 st1.2).bind fun v0_2 =>
  ck (InK .i64 (st1.2 + 1)) <| some (.next ((max st1.1 v0_2), (st1.2 + 1)))
  else
  some (.done st1.1)
noncomputable def linealref02_Width (h0 : ZH) : Option (Int × Int) :=
  (linealref02_Valid h0).bind fun v0 =>
  if (!v0) = true then
  some (0, 20)
  else
  (whileO (linealref02_Width_b1 h0) (0, 1)).bind fun r1 =>
  linealref02_Width_k1 r1

/- lineal/history.Alone$1 -/
noncomputable def history_Alone_1 (a0 : ZH) : Option Bool :=
  (history_width a0).bind fun v0 =>
  some (decide (v0 ≤ 1))

/- lineal/history.told[bool] -/
noncomputable def history_told_10 (c0 : ZH) : Option Bool :=
  (history_Alone_1 c0).bind fun v0 =>
  some v0

/- lineal/history.told[bool] -/
noncomputable def history_told_11 (err : Int) (c0 : ZH) : Option Unit :=
  some ()

/- lineal/history.Alone -/
noncomputable def history_Alone (h0 : ZH) : Option (Bool × Int) :=
  (history_check h0 true).bind fun v0 =>
  if (decide (v0 = 0)) = true then
  (history_told_10 h0).bind fun v0_2 =>
  some (v0_2, 0)
  else
  (history_told_11 v0 h0).bind fun v0_3 =>
  some (false, v0)

/- lineal/linealref02.Alone -/
noncomputable def linealref02_Alone (h0 : ZH) : Option (Bool × Int) :=
  (linealref02_Width h0).bind fun v0 =>
  if (decide (v0.2 = 0)) = true then
  some ((decide (v0.1 ≤ 1)), v0.2)
  else
  some (false, v0.2)

/- lineal/lineallaw02.HistoryWidths -/
noncomputable def lineallaw02_HistoryWidths (h0 : ZH) : Option Bool :=
  (lineallaw02_Long h0).bind fun v0 =>
  if (decide (40 < (h0.length : Int))) = true then
  (lineallaw02_Sane).bind fun v0_2 =>
  some v0_2
  else
  (history_Width h0).bind fun v0_3 =>
  (linealref02_Width h0).bind fun v0_4 =>
  (history_Alone h0).bind fun v0_5 =>
  (linealref02_Alone h0).bind fun v0_6 =>
  if (decide (v0_3.1 = v0_4.1)) = true then
  if (decide (v0_3.2 = v0_4.2)) = true then
  if ((v0_5.1 == v0_6.1) != false) = true then
  if (decide (v0_5.2 = v0_6.2)) = true then
  (lineallaw02_Sane).bind fun v0_7 =>
  some v0_7
  else
  some false
  else
  some false
  else
  some false
  else
  some false

/- (*lineal/history.states).answer -/
noncomputable def history_states_answer_2_k2 (c : Int × Int × Int × Int × Int × Int) (b1 : Int × Int × Int × (List (List Int)) × (List (List Int)) × Int) (b2 : Int × Int × Int) : Option (Int × Int × Int) :=
  ck (0 ≤ b1.2.2.2.2.2) <| ck (b1.2.2.2.2.2 < (b1.2.2.2.2.1.length : Int)) <| ck (0 ≤ c.2.2.1) <| ck (c.2.2.1 < ((b1.2.2.2.2.1.getD b1.2.2.2.2.2.toNat []).length : Int)) <| some (((b1.2.2.2.2.1.getD b1.2.2.2.2.2.toNat []).getD c.2.2.1.toNat 0), b2.2)
noncomputable def history_states_answer_2_k1 (c : Int × Int × Int × Int × Int × Int) (s : Int × Int) (b1 : Int × Int × Int × (List (List Int)) × (List (List Int)) × Int) : Option (Int × Int × Int) :=
  ck (0 ≤ b1.2.2.2.2.2) <| ck (b1.2.2.2.2.2 < (b1.2.2.2.1.length : Int)) <| ck (0 ≤ c.2.2.1) <| ck (c.2.2.1 < ((b1.2.2.2.1.getD b1.2.2.2.2.2.toNat []).length : Int)) <| ck (0 ≤ b1.1) <| ck (b1.1 < 2) <| if (decide (b1.1 = 0)) = true then
  history_states_answer_2_k2 c b1 (0, ((b1.2.2.2.1.getD b1.2.2.2.2.2.toNat []).getD c.2.2.1.toNat 0), s.2)
  else
  history_states_answer_2_k2 c b1 (1, s.1, ((b1.2.2.2.1.getD b1.2.2.2.2.2.toNat []).getD c.2.2.1.toNat 0))
noncomputable def history_states_answer_2 (specs : ZS) (c : Int × Int × Int × Int × Int × Int) (s : Int × Int) : Option (Int × Int × Int) :=
  ck (0 ≤ c.2.1) <| ck (c.2.1 < (specs.length : Int)) <| ck (0 ≤ c.2.1) <| ck (c.2.1 < 2) <| if (decide (c.2.1 = 0)) = true then
  history_states_answer_2_k1 c s (0, (specs.getD 0 (0, 0, [], [])).1, (specs.getD 0 (0, 0, [], [])).2.1, (specs.getD 0 (0, 0, [], [])).2.2.1, (specs.getD 0 (0, 0, [], [])).2.2.2, s.1)
  else
  history_states_answer_2_k1 c s (1, (specs.getD 1 (0, 0, [], [])).1, (specs.getD 1 (0, 0, [], [])).2.1, (specs.getD 1 (0, 0, [], [])).2.2.1, (specs.getD 1 (0, 0, [], [])).2.2.2, s.2)

/- lineal/history.Orders$1 -/
noncomputable def history_Orders_1 (a0 : ZS) (a1 : ZH) : Option Int :=
  (history_newSearch a0 a1).bind fun v0 =>
  (history_search_count fuel a0 a1 ((0, 0), 0) []).bind fun v0_2 =>
  some v0_2.1

/- lineal/history.told[int] -/
noncomputable def history_told_19 (c0 : ZS) (c1 : ZH) : Option Int :=
  (history_Orders_1 c0 c1).bind fun v0 =>
  some v0

/- lineal/history.told[int] -/
noncomputable def history_told_20 (err : Int) (c0 : ZS) (c1 : ZH) : Option Unit :=
  some ()

/- lineal/history.Orders -/
noncomputable def history_Orders (specs : ZS) (h0 : ZH) : Option (Int × Int) :=
  (history_checkFor specs h0).bind fun v0 =>
  if (decide (v0 = 0)) = true then
  (history_told_19 specs h0).bind fun v0_2 =>
  some (v0_2, 0)
  else
  (history_told_20 v0 specs h0).bind fun v0_3 =>
  some (0, v0)

/- lineal/lineallaw02.isFor -/
noncomputable def lineallaw02_isFor (specs : ZS) (h0 : ZH) : Option Bool :=
  (linealref02_For specs h0).bind fun v0 =>
  if (decide (v0.2 = 0)) = true then
  some v0.1
  else
  some false

/- lineal/history.Linear$1 -/
noncomputable def history_Linear_1 (a0 : ZS) (a1 : ZH) : Option Bool :=
  (history_newSearch a0 a1).bind fun v0 =>
  (history_search_count fuel a0 a1 ((0, 0), 0) []).bind fun v0_2 =>
  some (decide (0 < v0_2.1))

/- lineal/history.told[bool] -/
noncomputable def history_told_21 (c0 : ZS) (c1 : ZH) : Option Bool :=
  (history_Linear_1 c0 c1).bind fun v0 =>
  some v0

/- lineal/history.told[bool] -/
noncomputable def history_told_22 (err : Int) (c0 : ZS) (c1 : ZH) : Option Unit :=
  some ()

/- lineal/history.Linear -/
noncomputable def history_Linear (specs : ZS) (h0 : ZH) : Option (Bool × Int) :=
  (history_checkFor specs h0).bind fun v0 =>
  if (decide (v0 = 0)) = true then
  (history_told_21 specs h0).bind fun v0_2 =>
  some (v0_2, 0)
  else
  (history_told_22 v0 specs h0).bind fun v0_3 =>
  some (false, v0)

/- lineal/linealref02.asked -/
noncomputable def linealref02_asked (specs : ZS) (h0 : ZH) : Option Int :=
  (linealref02_areSpecs specs).bind fun v0 =>
  if (!v0) = true then
  some 10
  else
  (linealref02_isFor specs h0).bind fun v0_2 =>
  if (!v0_2) = true then
  some 20
  else
  some 0

/- lineal/linealref02.allows -/
noncomputable def linealref02_allows_k1 : Option Bool :=
  some true
noncomputable def linealref02_allows_k2 (specs : ZS) (h0 : ZH) (l : List Int) (st1 : (List Int) × Int) : Option (Step ((List Int) × Int) (Sum Unit Unit)) :=
  ck (0 ≤ (h0.getD (l.getD st1.2.toNat 0).toNat (0, 0, 0, 0, 0, 0)).2.1) <| ck ((h0.getD (l.getD st1.2.toNat 0).toNat (0, 0, 0, 0, 0, 0)).2.1 < (st1.1.length : Int)) <| ck (0 ≤ (st1.1.getD (h0.getD (l.getD st1.2.toNat 0).toNat (0, 0, 0, 0, 0, 0)).2.1.toNat 0)) <| ck ((st1.1.getD (h0.getD (l.getD st1.2.toNat 0).toNat (0, 0, 0, 0, 0, 0)).2.1.toNat 0) < ((specs.getD (h0.getD (l.getD st1.2.toNat 0).toNat (0, 0, 0, 0, 0, 0)).2.1.toNat (0, 0, [], [])).2.2.1.length : Int)) <| ck (0 ≤ (h0.getD (l.getD st1.2.toNat 0).toNat (0, 0, 0, 0, 0, 0)).2.2.1) <| ck ((h0.getD (l.getD st1.2.toNat 0).toNat (0, 0, 0, 0, 0, 0)).2.2.1 < (((specs.getD (h0.getD (l.getD st1.2.toNat 0).toNat (0, 0, 0, 0, 0, 0)).2.1.toNat (0, 0, [], [])).2.2.1.getD (st1.1.getD (h0.getD (l.getD st1.2.toNat 0).toNat (0, 0, 0, 0, 0, 0)).2.1.toNat 0).toNat []).length : Int)) <| ck (0 ≤ (h0.getD (l.getD st1.2.toNat 0).toNat (0, 0, 0, 0, 0, 0)).2.1) <| ck ((h0.getD (l.getD st1.2.toNat 0).toNat (0, 0, 0, 0, 0, 0)).2.1 < (st1.1.length : Int)) <| ck (InK .i64 (st1.2 + 1)) <| some (.next ((st1.1.set (h0.getD (l.getD st1.2.toNat 0).toNat (0, 0, 0, 0, 0, 0)).2.1.toNat (((specs.getD (h0.getD (l.getD st1.2.toNat 0).toNat (0, 0, 0, 0, 0, 0)).2.1.toNat (0, 0, [], [])).2.2.1.getD (st1.1.getD (h0.getD (l.getD st1.2.toNat 0).toNat (0, 0, 0, 0, 0, 0)).2.1.toNat 0).toNat []).getD (h0.getD (l.getD st1.2.toNat 0).toNat (0, 0, 0, 0, 0, 0)).2.2.1.toNat 0)), (st1.2 + 1)))
noncomputable def linealref02_allows_b1 (specs : ZS) (h0 : ZH) (l : List Int) (st1 : (List Int) × Int) : Option (Step ((List Int) × Int) (Sum Unit Unit)) :=
  if (decide (st1.2 < (l.length : Int))) = true then
  ck (0 ≤ st1.2) <| ck (st1.2 < (l.length : Int)) <| ck (0 ≤ (l.getD st1.2.toNat 0)) <| ck ((l.getD st1.2.toNat 0) < (h0.length : Int)) <| ck (0 ≤ (h0.getD (l.getD st1.2.toNat 0).toNat (0, 0, 0, 0, 0, 0)).2.1) <| ck ((h0.getD (l.getD st1.2.toNat 0).toNat (0, 0, 0, 0, 0, 0)).2.1 < (specs.length : Int)) <| if (!(decide ((h0.getD (l.getD st1.2.toNat 0).toNat (0, 0, 0, 0, 0, 0)).2.2.2.2.2 = 0))) = true then
  ck (0 ≤ (h0.getD (l.getD st1.2.toNat 0).toNat (0, 0, 0, 0, 0, 0)).2.1) <| ck ((h0.getD (l.getD st1.2.toNat 0).toNat (0, 0, 0, 0, 0, 0)).2.1 < (st1.1.length : Int)) <| ck (0 ≤ (st1.1.getD (h0.getD (l.getD st1.2.toNat 0).toNat (0, 0, 0, 0, 0, 0)).2.1.toNat 0)) <| ck ((st1.1.getD (h0.getD (l.getD st1.2.toNat 0).toNat (0, 0, 0, 0, 0, 0)).2.1.toNat 0) < ((specs.getD (h0.getD (l.getD st1.2.toNat 0).toNat (0, 0, 0, 0, 0, 0)).2.1.toNat (0, 0, [], [])).2.2.2.length : Int)) <| ck (0 ≤ (h0.getD (l.getD st1.2.toNat 0).toNat (0, 0, 0, 0, 0, 0)).2.2.1) <| ck ((h0.getD (l.getD st1.2.toNat 0).toNat (0, 0, 0, 0, 0, 0)).2.2.1 < (((specs.getD (h0.getD (l.getD st1.2.toNat 0).toNat (0, 0, 0, 0, 0, 0)).2.1.toNat (0, 0, [], [])).2.2.2.getD (st1.1.getD (h0.getD (l.getD st1.2.toNat 0).toNat (0, 0, 0, 0, 0, 0)).2.1.toNat 0).toNat []).length : Int)) <| if (!(decide ((((specs.getD (h0.getD (l.getD st1.2.toNat 0).toNat (0, 0, 0, 0, 0, 0)).2.1.toNat (0, 0, [], [])).2.2.2.getD (st1.1.getD (h0.getD (l.getD st1.2.toNat 0).toNat (0, 0, 0, 0, 0, 0)).2.1.toNat 0).toNat []).getD (h0.getD (l.getD st1.2.toNat 0).toNat (0, 0, 0, 0, 0, 0)).2.2.1.toNat 0) = (h0.getD (l.getD st1.2.toNat 0).toNat (0, 0, 0, 0, 0, 0)).2.2.2.1))) = true then
  some (.done (Sum.inl ()))
  else
  linealref02_allows_k2 specs h0 l st1
  else
  linealref02_allows_k2 specs h0 l st1
  else
  some (.done (Sum.inr ()))
noncomputable def linealref02_allows (specs : ZS) (h0 : ZH) (l : List Int) : Option Bool :=
  ck (8 * (specs.length : Int) ≤ 281474976710656) <| (whileO (linealref02_allows_b1 specs h0 l) ((List.replicate specs.length (0 : Int)), 0)).bind fun x => match x with
  | .inl _ => (some false)
  | .inr _ => (linealref02_allows_k1)

/- lineal/linealref02.IsOrder -/
noncomputable def linealref02_IsOrder (specs : ZS) (h0 : ZH) (l : List Int) : Option (Bool × Int) :=
  (linealref02_asked specs h0).bind fun v0 =>
  if (!(decide (v0 = 0))) = true then
  some (false, v0)
  else
  (linealref02_isList h0 l).bind fun v0_2 =>
  if v0_2 = true then
  (linealref02_keepsTime h0 l).bind fun v0_3 =>
  if v0_3 = true then
  (linealref02_allows specs h0 l).bind fun v0_4 =>
  some (v0_4, 0)
  else
  some (false, 0)
  else
  some (false, 0)

/- (*lineal/history.states).allow -/
noncomputable def history_states_allow_2 (specs : ZS) (c : Int × Int × Int × Int × Int × Int) (s : Int × Int) : Option (Bool × Int × Int) :=
  (history_states_answer_2 specs c s).bind fun v0 =>
  if (decide (c.2.2.2.2.2 = 0)) = true then
  some (true, v0.2)
  else
  some ((decide (v0.1 = c.2.2.2.1)), v0.2)

/- lineal/history.allows -/
noncomputable def history_allows_k1 : Option Bool :=
  some true
noncomputable def history_allows_b1 (specs : ZS) (h0 : ZH) (order : List Int) (st1 : Int × Int × Int) : Option (Step (Int × Int × Int) (Sum Unit Unit)) :=
  if (decide (st1.2.2 < (order.length : Int))) = true then
  ck (0 ≤ st1.2.2) <| ck (st1.2.2 < (order.length : Int)) <| ck (0 ≤ (order.getD st1.2.2.toNat 0)) <| ck ((order.getD st1.2.2.toNat 0) < (h0.length : Int)) <| (history_states_allow_2 specs (h0.getD (order.getD st1.2.2.toNat 0).toNat (0, 0, 0, 0, 0, 0)) (st1.1, st1.2.1)).bind fun v0 =>
  if (!v0.1) = true then
  some (.done (Sum.inl ()))
  else
  ck (InK .i64 (st1.2.2 + 1)) <| some (.next (v0.2.1, v0.2.2, (st1.2.2 + 1)))
  else
  some (.done (Sum.inr ()))
noncomputable def history_allows (specs : ZS) (h0 : ZH) (order : List Int) : Option Bool :=
  (whileO (history_allows_b1 specs h0 order) (0, 0, 0)).bind fun x => match x with
  | .inl _ => (some false)
  | .inr _ => (history_allows_k1)

/- lineal/history.IsOrder$1 -/
noncomputable def history_IsOrder_1 (a0 : ZH) (a1 : List Int) (a2 : ZS) : Option Bool :=
  (history_isOrder a0 a1).bind fun v0 =>
  if v0 = true then
  (history_keeps a0 a1).bind fun v0_2 =>
  if v0_2 = true then
  (history_allows a2 a0 a1).bind fun v0_3 =>
  some v0_3
  else
  some false
  else
  some false

/- lineal/history.told[bool] -/
noncomputable def history_told_23 (c0 : ZH) (c1 : List Int) (c2 : ZS) : Option Bool :=
  (history_IsOrder_1 c0 c1 c2).bind fun v0 =>
  some v0

/- lineal/history.told[bool] -/
noncomputable def history_told_24 (err : Int) (c0 : ZH) (c1 : List Int) (c2 : ZS) : Option Unit :=
  some ()

/- lineal/history.IsOrder -/
noncomputable def history_IsOrder (specs : ZS) (h0 : ZH) (order : List Int) : Option (Bool × Int) :=
  (history_checkFor specs h0).bind fun v0 =>
  if (decide (v0 = 0)) = true then
  (history_told_23 h0 order specs).bind fun v0_2 =>
  some (v0_2, 0)
  else
  (history_told_24 v0 h0 order specs).bind fun v0_3 =>
  some (false, v0)

/- lineal/history.Allows$1 -/
noncomputable def history_Allows_1 (a0 : ZS) (a1 : ZH) (a2 : List Int) : Option Bool :=
  (history_allows a0 a1 a2).bind fun v0 =>
  some v0

/- lineal/history.told[bool] -/
noncomputable def history_told_25 (c0 : ZS) (c1 : ZH) (c2 : List Int) : Option Bool :=
  (history_Allows_1 c0 c1 c2).bind fun v0 =>
  some v0

/- lineal/history.told[bool] -/
noncomputable def history_told_26 (err : Int) (c0 : ZS) (c1 : ZH) (c2 : List Int) : Option Unit :=
  some ()

/- lineal/history.Allows -/
noncomputable def history_Allows_k1 (specs : ZS) (h0 : ZH) (order : List Int) (b1 : Int) : Option (Bool × Int) :=
  if (decide (b1 = 0)) = true then
  (history_told_25 specs h0 order).bind fun v0_3 =>
  some (v0_3, 0)
  else
  (history_told_26 b1 specs h0 order).bind fun v0_4 =>
  some (false, b1)
noncomputable def history_Allows (specs : ZS) (h0 : ZH) (order : List Int) : Option (Bool × Int) :=
  (history_checkFor specs h0).bind fun v0 =>
  if (decide (v0 = 0)) = true then
  (history_isOrder h0 order).bind fun v0_2 =>
  if (!v0_2) = true then
  history_Allows_k1 specs h0 order 2
  else
  history_Allows_k1 specs h0 order v0
  else
  history_Allows_k1 specs h0 order v0

/- lineal/linealref02.Allows -/
noncomputable def linealref02_Allows_k1 (specs : ZS) (h0 : ZH) (l : List Int) (b1 : Int) : Option (Bool × Int) :=
  if (!(decide (b1 = 0))) = true then
  some (false, b1)
  else
  (linealref02_allows specs h0 l).bind fun v0_3 =>
  some (v0_3, 0)
noncomputable def linealref02_Allows (specs : ZS) (h0 : ZH) (l : List Int) : Option (Bool × Int) :=
  (linealref02_asked specs h0).bind fun v0 =>
  if (decide (v0 = 0)) = true then
  (linealref02_isList h0 l).bind fun v0_2 =>
  if (!v0_2) = true then
  linealref02_Allows_k1 specs h0 l 2
  else
  linealref02_Allows_k1 specs h0 l v0
  else
  linealref02_Allows_k1 specs h0 l v0

/- lineal/linealref02.has -/
noncomputable def linealref02_has_k1 : Option Bool :=
  some false
noncomputable def linealref02_has_b1 (l : List Int) (n : Int) (st1 : Int) : Option (Step Int (Sum Unit Unit)) :=
  if (decide (st1 < (l.length : Int))) = true then
  ck (0 ≤ st1) <| ck (st1 < (l.length : Int)) <| if (decide ((l.getD st1.toNat 0) = n)) = true then
  some (.done (Sum.inl ()))
  else
  ck (InK .i64 (st1 + 1)) <| some (.next (st1 + 1))
  else
  some (.done (Sum.inr ()))
noncomputable def linealref02_has (l : List Int) (n : Int) : Option Bool :=
  (whileO (linealref02_has_b1 l n) 0).bind fun x => match x with
  | .inl _ => (some true)
  | .inr _ => (linealref02_has_k1)

/- (*lineal/linealref02.search).from -/
noncomputable def linealref02_search_from_2_k3 (slf : (List Int) → Bool → ZS → ZH → Bool → Int → (List Int) → Option (Bool × Int × (List Int))) (l : List Int) (s : ZS) (s_2 : ZH) (st1 : Bool × Int × (List Int) × Bool × Int) (b3 : Bool) : Option (Step (Bool × Int × (List Int) × Bool × Int) ((List Int) × Bool × Int)) :=
  ck (l.length * 8 ≤ 140737488355328) <| ck ((l.length + 1) * 8 ≤ 140737488355328) <| (linealref02_has l st1.2.2.2.2).bind fun v0_2 =>
  if (!v0_2) = true then
  (linealref02_allows s s_2 (l ++ [st1.2.2.2.2])).bind fun v0_3 =>
  if v0_3 = true then
  if st1.1 = true then
  (linealref02_keepsThreads s_2 (l ++ [st1.2.2.2.2])).bind fun v0_4 =>
  if v0_4 = true then
  (slf (l ++ [st1.2.2.2.2]) b3 s s_2 true st1.2.1 st1.2.2.1).bind fun v0_5 =>
  ck (InK .i64 (st1.2.2.2.2 + 1)) <| some (.next (v0_5.1, v0_5.2.1, v0_5.2.2, b3, (st1.2.2.2.2 + 1)))
  else
  ck (InK .i64 (st1.2.2.2.2 + 1)) <| some (.next (true, st1.2.1, st1.2.2.1, b3, (st1.2.2.2.2 + 1)))
  else
  (linealref02_keepsTime s_2 (l ++ [st1.2.2.2.2])).bind fun v0_6 =>
  if v0_6 = true then
  (slf (l ++ [st1.2.2.2.2]) b3 s s_2 false st1.2.1 st1.2.2.1).bind fun v0_7 =>
  ck (InK .i64 (st1.2.2.2.2 + 1)) <| some (.next (v0_7.1, v0_7.2.1, v0_7.2.2, b3, (st1.2.2.2.2 + 1)))
  else
  ck (InK .i64 (st1.2.2.2.2 + 1)) <| some (.next (false, st1.2.1, st1.2.2.1, b3, (st1.2.2.2.2 + 1)))
  else
  ck (InK .i64 (st1.2.2.2.2 + 1)) <| some (.next (st1.1, st1.2.1, st1.2.2.1, b3, (st1.2.2.2.2 + 1)))
  else
  ck (InK .i64 (st1.2.2.2.2 + 1)) <| some (.next (st1.1, st1.2.1, st1.2.2.1, b3, (st1.2.2.2.2 + 1)))
noncomputable def linealref02_search_from_2_b1 (slf : (List Int) → Bool → ZS → ZH → Bool → Int → (List Int) → Option (Bool × Int × (List Int))) (l : List Int) (s : ZS) (s_2 : ZH) (st1 : Bool × Int × (List Int) × Bool × Int) : Option (Step (Bool × Int × (List Int) × Bool × Int) ((List Int) × Bool × Int)) :=
  if (decide (st1.2.2.2.2 < (s_2.length : Int))) = true then
  if st1.2.2.2.1 = true then
  if (!(decide (0 < st1.2.1))) = true then
  linealref02_search_from_2_k3 slf l s s_2 st1 true
  else
  some (.done (st1.2.2.1, st1.1, st1.2.1))
  else
  linealref02_search_from_2_k3 slf l s s_2 st1 false
  else
  some (.done (st1.2.2.1, st1.1, st1.2.1))
noncomputable def linealref02_search_from_2_k1 (slf : (List Int) → Bool → ZS → ZH → Bool → Int → (List Int) → Option (Bool × Int × (List Int))) (l : List Int) (one : Bool) (s : ZS) (s_2 : ZH) (s_3 : Bool) (b2_2 : Int × (List Int)) : Option (Bool × Int × (List Int)) :=
  (whileO (linealref02_search_from_2_b1 slf l s s_2) (s_3, b2_2.1, b2_2.2, one, 0)).bind fun r1 =>
  some (r1.2.1, r1.2.2, r1.1)
noncomputable def linealref02_search_from_2_k2 (slf : (List Int) → Bool → ZS → ZH → Bool → Int → (List Int) → Option (Bool × Int × (List Int))) (l : List Int) (one : Bool) (s : ZS) (s_2 : ZH) (s_3 : Bool) (s_4 : Int) (b2 : (List Int)) : Option (Bool × Int × (List Int)) :=
  ck (InK .i64 (s_4 + 1)) <| linealref02_search_from_2_k1 slf l one s s_2 s_3 ((s_4 + 1), b2)
noncomputable def linealref02_search_from_2F (slf : (List Int) → Bool → ZS → ZH → Bool → Int → (List Int) → Option (Bool × Int × (List Int))) (l : List Int) (one : Bool) (s : ZS) (s_2 : ZH) (s_3 : Bool) (s_4 : Int) (s_5 : List Int) : Option (Bool × Int × (List Int)) :=
  (linealref02_isList s_2 l).bind fun v0 =>
  if v0 = true then
  if (decide (s_4 = 0)) = true then
  ck (l.length * 8 ≤ 140737488355328) <| linealref02_search_from_2_k2 slf l one s s_2 s_3 s_4 l
  else
  linealref02_search_from_2_k2 slf l one s s_2 s_3 s_4 s_5
  else
  linealref02_search_from_2_k1 slf l one s s_2 s_3 (s_4, s_5)
noncomputable def linealref02_search_from_2 (n : Nat) : (List Int) → Bool → ZS → ZH → Bool → Int → (List Int) → Option (Bool × Int × (List Int)) := Nat.rec (motive := fun _ => (List Int) → Bool → ZS → ZH → Bool → Int → (List Int) → Option (Bool × Int × (List Int))) (fun _ _ _ _ _ _ _ => none) (fun _ slf => linealref02_search_from_2F slf) n

/- (*lineal/linealref02.search).from -/
noncomputable def linealref02_search_from_k3 (l : List Int) (s : ZS) (s_2 : ZH) (st1 : Bool × Int × (List Int) × Bool × Int) (b3 : Bool) : Option (Step (Bool × Int × (List Int) × Bool × Int) ((List Int) × Bool × Int)) :=
  ck (l.length * 8 ≤ 140737488355328) <| ck ((l.length + 1) * 8 ≤ 140737488355328) <| (linealref02_has l st1.2.2.2.2).bind fun v0_2 =>
  if (!v0_2) = true then
  (linealref02_allows s s_2 (l ++ [st1.2.2.2.2])).bind fun v0_3 =>
  if v0_3 = true then
  if st1.1 = true then
  (linealref02_keepsThreads s_2 (l ++ [st1.2.2.2.2])).bind fun v0_4 =>
  if v0_4 = true then
  (linealref02_search_from_2 fuel (l ++ [st1.2.2.2.2]) b3 s s_2 true st1.2.1 st1.2.2.1).bind fun v0_5 =>
  ck (InK .i64 (st1.2.2.2.2 + 1)) <| some (.next (v0_5.1, v0_5.2.1, v0_5.2.2, b3, (st1.2.2.2.2 + 1)))
  else
  ck (InK .i64 (st1.2.2.2.2 + 1)) <| some (.next (true, st1.2.1, st1.2.2.1, b3, (st1.2.2.2.2 + 1)))
  else
  (linealref02_keepsTime s_2 (l ++ [st1.2.2.2.2])).bind fun v0_6 =>
  if v0_6 = true then
  (linealref02_search_from_2 fuel (l ++ [st1.2.2.2.2]) b3 s s_2 false st1.2.1 st1.2.2.1).bind fun v0_7 =>
  ck (InK .i64 (st1.2.2.2.2 + 1)) <| some (.next (v0_7.1, v0_7.2.1, v0_7.2.2, b3, (st1.2.2.2.2 + 1)))
  else
  ck (InK .i64 (st1.2.2.2.2 + 1)) <| some (.next (false, st1.2.1, st1.2.2.1, b3, (st1.2.2.2.2 + 1)))
  else
  ck (InK .i64 (st1.2.2.2.2 + 1)) <| some (.next (st1.1, st1.2.1, st1.2.2.1, b3, (st1.2.2.2.2 + 1)))
  else
  ck (InK .i64 (st1.2.2.2.2 + 1)) <| some (.next (st1.1, st1.2.1, st1.2.2.1, b3, (st1.2.2.2.2 + 1)))
noncomputable def linealref02_search_from_b1 (l : List Int) (s : ZS) (s_2 : ZH) (st1 : Bool × Int × (List Int) × Bool × Int) : Option (Step (Bool × Int × (List Int) × Bool × Int) ((List Int) × Bool × Int)) :=
  if (decide (st1.2.2.2.2 < (s_2.length : Int))) = true then
  if st1.2.2.2.1 = true then
  if (!(decide (0 < st1.2.1))) = true then
  linealref02_search_from_k3 l s s_2 st1 true
  else
  some (.done (st1.2.2.1, st1.1, st1.2.1))
  else
  linealref02_search_from_k3 l s s_2 st1 false
  else
  some (.done (st1.2.2.1, st1.1, st1.2.1))
noncomputable def linealref02_search_from_k1 (l : List Int) (one : Bool) (s : ZS) (s_2 : ZH) (s_3 : Bool) (b2_2 : Int × (List Int)) : Option (Bool × Int × (List Int)) :=
  (whileO (linealref02_search_from_b1 l s s_2) (s_3, b2_2.1, b2_2.2, one, 0)).bind fun r1 =>
  some (r1.2.1, r1.2.2, r1.1)
noncomputable def linealref02_search_from_k2 (l : List Int) (one : Bool) (s : ZS) (s_2 : ZH) (s_3 : Bool) (s_4 : Int) (b2 : (List Int)) : Option (Bool × Int × (List Int)) :=
  ck (InK .i64 (s_4 + 1)) <| linealref02_search_from_k1 l one s s_2 s_3 ((s_4 + 1), b2)
noncomputable def linealref02_search_from (l : List Int) (one : Bool) (s : ZS) (s_2 : ZH) (s_3 : Bool) (s_4 : Int) : Option (Bool × Int × (List Int)) :=
  (linealref02_isList s_2 l).bind fun v0 =>
  if v0 = true then
  if (decide (s_4 = 0)) = true then
  ck (l.length * 8 ≤ 140737488355328) <| linealref02_search_from_k2 l one s s_2 s_3 s_4 l
  else
  linealref02_search_from_k2 l one s s_2 s_3 s_4 []
  else
  linealref02_search_from_k1 l one s s_2 s_3 (s_4, [])

/- lineal/linealref02.Order -/
noncomputable def linealref02_Order (specs : ZS) (h0 : ZH) : Option ((List Int) × Int) :=
  (linealref02_asked specs h0).bind fun v0 =>
  if (!(decide (v0 = 0))) = true then
  some ([], v0)
  else
  (linealref02_search_from [] true specs h0 false 0).bind fun v0_2 =>
  if (decide (v0_2.2.1 = 0)) = true then
  some ([], 5)
  else
  some (v0_2.2.2, 0)

/- lineal/lineallaw02.HistoryOrders -/
noncomputable def lineallaw02_HistoryOrders (specs : ZS) (h0 : ZH) (l : List Int) : Option Bool :=
  (lineallaw02_Large specs).bind fun v0 =>
  if v0 = true then
  (lineallaw02_Sane).bind fun v0_2 =>
  some v0_2
  else
  (lineallaw02_Long h0).bind fun v0_3 =>
  if (decide (40 < (h0.length : Int))) = true then
  (lineallaw02_Sane).bind fun v0_4 =>
  some v0_4
  else
  if (decide (60 < (l.length : Int))) = true then
  (lineallaw02_Sane).bind fun v0_5 =>
  some v0_5
  else
  (history_IsOrder specs h0 l).bind fun v0_6 =>
  (linealref02_IsOrder specs h0 l).bind fun v0_7 =>
  (history_Allows specs h0 l).bind fun v0_8 =>
  (linealref02_Allows specs h0 l).bind fun v0_9 =>
  if ((v0_6.1 == v0_7.1) != true) = true then
  some false
  else
  if (!(decide (v0_6.2 = v0_7.2))) = true then
  some false
  else
  if ((v0_8.1 == v0_9.1) != true) = true then
  some false
  else
  if (!(decide (v0_8.2 = v0_9.2))) = true then
  some false
  else
  (history_Order specs h0).bind fun v0_10 =>
  (linealref02_Order specs h0).bind fun v0_11 =>
  (linealref02_SameInts v0_10.1 v0_11.1).bind fun v0_12 =>
  if v0_12 = true then
  if (decide (v0_10.2 = v0_11.2)) = true then
  (lineallaw02_Sane).bind fun v0_13 =>
  some v0_13
  else
  some false
  else
  some false

/- lineal/linealref02.Linear -/
noncomputable def linealref02_Linear (specs : ZS) (h0 : ZH) : Option (Bool × Int) :=
  (linealref02_Order specs h0).bind fun v0 =>
  if (decide (v0.2 = 5)) = true then
  some (false, 0)
  else
  some ((decide (v0.2 = 0)), v0.2)

/- lineal/history.newSearch -/
noncomputable def history_newSearch_2 (specs : ZS) (h0 : ZH) : Option Unit :=
  some ()

/- (lineal/history.search).full -/
noncomputable def history_search_full_2_k1 : Option Bool :=
  some true
noncomputable def history_search_full_2_b1 (s_2 : ZH) (at0 : (Int × Int) × Int) (st1 : Int) : Option (Step Int (Sum Unit Unit)) :=
  if (decide (st1 < (s_2.length : Int))) = true then
  ck (0 ≤ st1) <| ck (st1 < (s_2.length : Int)) <| if (!(decide ((s_2.getD st1.toNat (0, 0, 0, 0, 0, 0)).2.2.2.2.2 = 0))) = true then
  (history_place_has at0 st1).bind fun v0 =>
  if (!(!(decide ((iand .u64 at0.2 (ishl .u64 1 st1)) = 0)))) = true then
  some (.done (Sum.inl ()))
  else
  ck (InK .i64 (st1 + 1)) <| some (.next (st1 + 1))
  else
  ck (InK .i64 (st1 + 1)) <| some (.next (st1 + 1))
  else
  some (.done (Sum.inr ()))
noncomputable def history_search_full_2 (s : ZS) (s_2 : ZH) (at0 : (Int × Int) × Int) : Option Bool :=
  (whileO (history_search_full_2_b1 s_2 at0) 0).bind fun x => match x with
  | .inl _ => (some false)
  | .inr _ => (history_search_full_2_k1)

/- (lineal/history.search).steps -/
noncomputable def history_search_steps_2 (s : ZS) (s_2 : ZH) (at0 : (Int × Int) × Int) : Option Unit :=
  some ()

/- (lineal/history.search).ready -/
noncomputable def history_search_ready_2_k1 : Option Bool :=
  some true
noncomputable def history_search_ready_2_b1 (s_2 : ZH) (at0 : (Int × Int) × Int) (call : Int) (st1 : Int) : Option (Step Int (Sum Unit Unit)) :=
  if (decide (st1 < (s_2.length : Int))) = true then
  ck (0 ≤ st1) <| ck (st1 < (s_2.length : Int)) <| ck (0 ≤ call) <| ck (call < (s_2.length : Int)) <| (history_inThread (s_2.getD call.toNat (0, 0, 0, 0, 0, 0)) (s_2.getD st1.toNat (0, 0, 0, 0, 0, 0))).bind fun v0_2 =>
  if v0_2 = true then
  (history_place_has at0 st1).bind fun v0_3 =>
  if (!(!(decide ((iand .u64 at0.2 (ishl .u64 1 st1)) = 0)))) = true then
  some (.done (Sum.inl ()))
  else
  ck (InK .i64 (st1 + 1)) <| some (.next (st1 + 1))
  else
  ck (InK .i64 (st1 + 1)) <| some (.next (st1 + 1))
  else
  some (.done (Sum.inr ()))
noncomputable def history_search_ready_2 (s : ZS) (s_2 : ZH) (at0 : (Int × Int) × Int) (call : Int) : Option Bool :=
  (history_place_has at0 call).bind fun v0 =>
  if (!(decide ((iand .u64 at0.2 (ishl .u64 1 call)) = 0))) = true then
  some false
  else
  (whileO (history_search_ready_2_b1 s_2 at0 call) 0).bind fun x => match x with
  | .inl _ => (some false)
  | .inr _ => (history_search_ready_2_k1)

/- (lineal/history.search).steps$1 -/
noncomputable def history_search_steps_1_2_b1 (S R : Type) (a1 : ZS) (a1_2 : ZH) (a2 : (Int × Int) × Int) (yl : Int × ((Int × Int) × Int) → S → Option (Step S R)) (st1 : Int × S) : Option (Step (Int × S) (Sum R S)) :=
  if (decide (st1.1 < (a1_2.length : Int))) = true then
  ck (0 ≤ st1.1) <| ck (st1.1 < (a1_2.length : Int)) <| (history_search_ready_2 a1 a1_2 a2 st1.1).bind fun v0 =>
  if (!v0) = true then
  ck (InK .i64 (st1.1 + 1)) <| some (.next ((st1.1 + 1), st1.2))
  else
  (history_states_allow a1 (a1_2.getD st1.1.toNat (0, 0, 0, 0, 0, 0)) a2).bind fun v0_2 =>
  if (!v0_2.1) = true then
  ck (InK .i64 (st1.1 + 1)) <| some (.next ((st1.1 + 1), st1.2))
  else
  ck (0 ≤ st1.1) <| (yl (st1.1, v0_2.2, (ior .u64 a2.2 (ishl .u64 1 st1.1))) st1.2).bind fun x => match x with
  | .next s => (ck (InK .i64 (st1.1 + 1)) <| some (.next ((st1.1 + 1), s)))
  | .done e => (some (.done (Sum.inl e)))
  else
  some (.done (Sum.inr st1.2))
noncomputable def history_search_steps_1_2 (S R : Type) (a1 : ZS) (a1_2 : ZH) (a2 : (Int × Int) × Int) (yl : Int × ((Int × Int) × Int) → S → Option (Step S R)) (s0 : S) : Option (Sum S R) :=
  (whileO (history_search_steps_1_2_b1 S R a1 a1_2 a2 yl) (0, s0)).bind fun x => match x with
  | .inl r1 => (some (Sum.inr r1))
  | .inr r1_2 => (some (Sum.inl r1_2))

/- (lineal/history.search).count -/
noncomputable def history_search_count_2_k2 (at0 : (Int × Int) × Int) (b2 : ZM × Int) : Option (Int × ZM) :=
  ck (InK .i64 at0.1.1) <| ck (InK .i64 at0.1.2) <| ck (InK .u64 at0.2) <| some (b2.2, (mput b2.1 at0 b2.2))
noncomputable def history_search_count_2_y1 (slf : ZS → ZH → ((Int × Int) × Int) → ZM → Option (Int × ZM)) (s : ZS) (s_2 : ZH) (y1 : Int × ((Int × Int) × Int)) (st1 : ZM × Int) : Option (Step (ZM × Int) Empty) :=
  (slf s s_2 y1.2 st1.1).bind fun v0_3 =>
  ck (InK .i64 (st1.2 + v0_3.1)) <| some (.next (v0_3.2, (st1.2 + v0_3.1)))
noncomputable def history_search_count_2_k1 (slf : ZS → ZH → ((Int × Int) × Int) → ZM → Option (Int × ZM)) (s : ZS) (s_2 : ZH) (at0 : (Int × Int) × Int) (s_3 : ZM) (b1 : Int) : Option (Int × ZM) :=
  (history_search_steps_2 s s_2 at0).bind fun v0_2 =>
  (history_search_steps_1_2 (ZM × Int) Empty s s_2 at0 (history_search_count_2_y1 slf s s_2) (s_3, b1)).bind fun x => match x with
  | .inl st1_2 => (history_search_count_2_k2 at0 st1_2)
  | .inr r => r.elim
noncomputable def history_search_count_2F (slf : ZS → ZH → ((Int × Int) × Int) → ZM → Option (Int × ZM)) (s : ZS) (s_2 : ZH) (at0 : (Int × Int) × Int) (s_3 : ZM) : Option (Int × ZM) :=
  ck (InK .i64 at0.1.1) <| ck (InK .i64 at0.1.2) <| ck (InK .u64 at0.2) <| if (mhas s_3 at0) = true then
  some ((mget 0 s_3 at0), s_3)
  else
  (history_search_full_2 s s_2 at0).bind fun v0 =>
  if v0 = true then
  history_search_count_2_k1 slf s s_2 at0 s_3 1
  else
  history_search_count_2_k1 slf s s_2 at0 s_3 0
noncomputable def history_search_count_2 (n : Nat) : ZS → ZH → ((Int × Int) × Int) → ZM → Option (Int × ZM) := Nat.rec (motive := fun _ => ZS → ZH → ((Int × Int) × Int) → ZM → Option (Int × ZM)) (fun _ _ _ _ => none) (fun _ slf => history_search_count_2F slf) n

/- lineal/history.Orderly$1 -/
noncomputable def history_Orderly_1 (a0 : ZS) (a1 : ZH) : Option Bool :=
  (history_newSearch_2 a0 a1).bind fun v0 =>
  (history_search_count_2 fuel a0 a1 ((0, 0), 0) []).bind fun v0_2 =>
  some (decide (0 < v0_2.1))

/- lineal/history.told[bool] -/
noncomputable def history_told_27 (c0 : ZS) (c1 : ZH) : Option Bool :=
  (history_Orderly_1 c0 c1).bind fun v0 =>
  some v0

/- lineal/history.told[bool] -/
noncomputable def history_told_28 (err : Int) (c0 : ZS) (c1 : ZH) : Option Unit :=
  some ()

/- lineal/history.Orderly -/
noncomputable def history_Orderly (specs : ZS) (h0 : ZH) : Option (Bool × Int) :=
  (history_checkFor specs h0).bind fun v0 =>
  if (decide (v0 = 0)) = true then
  (history_told_27 specs h0).bind fun v0_2 =>
  some (v0_2, 0)
  else
  (history_told_28 v0 specs h0).bind fun v0_3 =>
  some (false, v0)

/- lineal/linealref02.Orderly -/
noncomputable def linealref02_Orderly (specs : ZS) (h0 : ZH) : Option (Bool × Int) :=
  (linealref02_asked specs h0).bind fun v0 =>
  if (!(decide (v0 = 0))) = true then
  some (false, v0)
  else
  (linealref02_search_from [] true specs h0 true 0).bind fun v0_2 =>
  some ((decide (0 < v0_2.2.1)), 0)

/- lineal/linealref02.Orders -/
noncomputable def linealref02_Orders (specs : ZS) (h0 : ZH) : Option (Int × Int) :=
  (linealref02_asked specs h0).bind fun v0 =>
  if (!(decide (v0 = 0))) = true then
  some (0, v0)
  else
  (linealref02_search_from [] false specs h0 false 0).bind fun v0_2 =>
  some (v0_2.2.1, 0)

/- lineal/lineallaw02.HistoryLinears -/
noncomputable def lineallaw02_HistoryLinears (specs : ZS) (h0 : ZH) : Option Bool :=
  (lineallaw02_Large specs).bind fun v0 =>
  if v0 = true then
  (lineallaw02_Sane).bind fun v0_2 =>
  some v0_2
  else
  (lineallaw02_Long h0).bind fun v0_3 =>
  if (decide (40 < (h0.length : Int))) = true then
  (lineallaw02_Sane).bind fun v0_4 =>
  some v0_4
  else
  (history_Linear specs h0).bind fun v0_5 =>
  (linealref02_Linear specs h0).bind fun v0_6 =>
  if ((v0_5.1 == v0_6.1) != true) = true then
  some false
  else
  if (!(decide (v0_5.2 = v0_6.2))) = true then
  some false
  else
  (history_Orderly specs h0).bind fun v0_7 =>
  (linealref02_Orderly specs h0).bind fun v0_8 =>
  (history_Orders specs h0).bind fun v0_9 =>
  (linealref02_Orders specs h0).bind fun v0_10 =>
  if ((v0_7.1 == v0_8.1) != false) = true then
  if (decide (v0_7.2 = v0_8.2)) = true then
  if (decide (v0_9.1 = v0_10.1)) = true then
  if (decide (v0_9.2 = v0_10.2)) = true then
  (lineallaw02_Sane).bind fun v0_11 =>
  some v0_11
  else
  some false
  else
  some false
  else
  some false
  else
  some false

/- lineal/lineallaw02.comes -/
noncomputable def lineallaw02_comes_k1 (a : List Int) (b : List Int) : Option Bool :=
  some (decide ((a.length : Int) < (b.length : Int)))
noncomputable def lineallaw02_comes_b1 (a : List Int) (b : List Int) (st1 : Int) : Option (Step Int (Sum Bool Unit)) :=
  if (decide (st1 < (a.length : Int))) = true then
  if (decide (st1 < (b.length : Int))) = true then
  ck (0 ≤ st1) <| ck (st1 < (a.length : Int)) <| ck (0 ≤ st1) <| ck (st1 < (b.length : Int)) <| if (!(decide ((a.getD st1.toNat 0) = (b.getD st1.toNat 0)))) = true then
  ck (0 ≤ st1) <| ck (st1 < (a.length : Int)) <| ck (0 ≤ st1) <| ck (st1 < (b.length : Int)) <| some (.done (Sum.inl (decide ((a.getD st1.toNat 0) < (b.getD st1.toNat 0)))))
  else
  ck (InK .i64 (st1 + 1)) <| some (.next (st1 + 1))
  else
  some (.done (Sum.inr ()))
  else
  some (.done (Sum.inr ()))
noncomputable def lineallaw02_comes (a : List Int) (b : List Int) : Option Bool :=
  (whileO (lineallaw02_comes_b1 a b) 0).bind fun x => match x with
  | .inl r1 => (some r1)
  | .inr _ => (lineallaw02_comes_k1 a b)

/- lineal/lineallaw02.HistoryFirsts -/
noncomputable def lineallaw02_HistoryFirsts_k4 (specs : ZS) (h0 : ZH) (l : List Int) (v0_11 : (List Int) × Int) (b1 : Bool) (b4 : Bool) : Option Bool :=
  if (!b1) = true then
  (lineallaw02_Sane).bind fun v0_14 =>
  some v0_14
  else
  (history_IsOrder specs h0 v0_11.1).bind fun v0_15 =>
  (history_Keeps h0 v0_11.1).bind fun v0_16 =>
  (history_Allows specs h0 v0_11.1).bind fun v0_17 =>
  if (decide (v0_15.2 = 0)) = true then
  if (decide (v0_16.2.2 = 0)) = true then
  if (decide (v0_17.2 = 0)) = true then
  if v0_15.1 = true then
  if v0_16.1 = true then
  if v0_16.2.1 = true then
  if v0_17.1 = true then
  if (!b4) = true then
  (lineallaw02_Sane).bind fun v0_18 =>
  some v0_18
  else
  (lineallaw02_comes l v0_11.1).bind fun v0_19 =>
  if (!v0_19) = true then
  (lineallaw02_Sane).bind fun v0_20 =>
  some v0_20
  else
  some false
  else
  some false
  else
  some false
  else
  some false
  else
  some false
  else
  some false
  else
  some false
  else
  some false
noncomputable def lineallaw02_HistoryFirsts_k3 (specs : ZS) (h0 : ZH) (l : List Int) (v0_11 : (List Int) × Int) (b1 : Bool) : Option Bool :=
  (history_IsOrder specs h0 l).bind fun v0_13 =>
  if (!(decide (v0_13.2 = 0))) = true then
  some false
  else
  if v0_13.1 = true then
  if (!b1) = true then
  some false
  else
  lineallaw02_HistoryFirsts_k4 specs h0 l v0_11 b1 true
  else
  lineallaw02_HistoryFirsts_k4 specs h0 l v0_11 b1 false
noncomputable def lineallaw02_HistoryFirsts_k2 (specs : ZS) (h0 : ZH) (l : List Int) (v0_10 : Int × Int) (v0_11 : (List Int) × Int) (v0_12 : Bool × Int) (b1 : Bool) (b2 : Bool) : Option Bool :=
  if v0_12.1 = true then
  if (!b2) = true then
  if (decide (1 < v0_10.1)) = true then
  some false
  else
  lineallaw02_HistoryFirsts_k3 specs h0 l v0_11 b1
  else
  lineallaw02_HistoryFirsts_k3 specs h0 l v0_11 b1
  else
  lineallaw02_HistoryFirsts_k3 specs h0 l v0_11 b1
noncomputable def lineallaw02_HistoryFirsts_b1 (h0 : ZH) (st1 : Bool × Int) : Option (Step (Bool × Int) Bool) :=
  if (decide (st1.2 < (h0.length : Int))) = true then
  if st1.1 = true then
  ck (InK .i64 (st1.2 + 1)) <| some (.next (true, (st1.2 + 1)))
  else
  ck (0 ≤ st1.2) <| ck (st1.2 < (h0.length : Int)) <| ck (InK .i64 (st1.2 + 1)) <| some (.next ((decide ((h0.getD st1.2.toNat (0, 0, 0, 0, 0, 0)).2.2.2.2.2 = 0)), (st1.2 + 1)))
  else
  some (.done st1.1)
noncomputable def lineallaw02_HistoryFirsts_k1 (specs : ZS) (h0 : ZH) (l : List Int) (v0_10 : Int × Int) (v0_11 : (List Int) × Int) (v0_12 : Bool × Int) (b1 : Bool) : Option Bool :=
  (whileO (lineallaw02_HistoryFirsts_b1 h0) (false, 0)).bind fun r1 =>
  lineallaw02_HistoryFirsts_k2 specs h0 l v0_10 v0_11 v0_12 b1 r1
noncomputable def lineallaw02_HistoryFirsts (specs : ZS) (h0 : ZH) (l : List Int) : Option Bool :=
  (lineallaw02_Large specs).bind fun v0 =>
  if v0 = true then
  (lineallaw02_Sane).bind fun v0_2 =>
  some v0_2
  else
  (lineallaw02_Long h0).bind fun v0_3 =>
  if (decide (40 < (h0.length : Int))) = true then
  (lineallaw02_Sane).bind fun v0_4 =>
  some v0_4
  else
  if (decide (60 < (l.length : Int))) = true then
  (lineallaw02_Sane).bind fun v0_5 =>
  some v0_5
  else
  (lineallaw02_isFor specs h0).bind fun v0_6 =>
  if (!v0_6) = true then
  (lineallaw02_Sane).bind fun v0_7 =>
  some v0_7
  else
  (history_Linear specs h0).bind fun v0_8 =>
  (history_Orderly specs h0).bind fun v0_9 =>
  (history_Orders specs h0).bind fun v0_10 =>
  (history_Order specs h0).bind fun v0_11 =>
  (history_Alone h0).bind fun v0_12 =>
  if (!(decide (v0_8.2 = 0))) = true then
  some false
  else
  if (!(decide (v0_9.2 = 0))) = true then
  some false
  else
  if (!(decide (v0_10.2 = 0))) = true then
  some false
  else
  if (!(decide (v0_12.2 = 0))) = true then
  some false
  else
  if (!(decide (v0_11.2 = 0))) = true then
  if (!(decide (v0_11.2 = 5))) = true then
  some false
  else
  if ((v0_8.1 == (decide (0 < v0_10.1))) != true) = true then
  some false
  else
  if ((v0_8.1 == (decide (v0_11.2 = 0))) != true) = true then
  some false
  else
  if v0_8.1 = true then
  if (!v0_9.1) = true then
  some false
  else
  lineallaw02_HistoryFirsts_k1 specs h0 l v0_10 v0_11 v0_12 true
  else
  lineallaw02_HistoryFirsts_k1 specs h0 l v0_10 v0_11 v0_12 false
  else
  if ((v0_8.1 == (decide (0 < v0_10.1))) != true) = true then
  some false
  else
  if ((v0_8.1 == (decide (v0_11.2 = 0))) != true) = true then
  some false
  else
  if v0_8.1 = true then
  if (!v0_9.1) = true then
  some false
  else
  lineallaw02_HistoryFirsts_k1 specs h0 l v0_10 v0_11 v0_12 true
  else
  lineallaw02_HistoryFirsts_k1 specs h0 l v0_10 v0_11 v0_12 false

end Go.Proofs.Ytlfpagicagmjgaa
