/-
  Made by wip/tool/twin.py: twins of pure functions that run a number of rounds, and what is reckoned by them.
-/
import Derived.Test.YtlfpagicagmjgaaHp
namespace Go.Proofs.Ytlfpagicagmjgaa
open Go.RowKit

set_option linter.unusedSimpArgs false
set_option linter.unusedVariables false
set_option linter.constructorNameAsVariable false

/-- What the one answers the other one answers. -/
def Lle {α : Type} (a b : Option α) : Prop := ∀ r, a = some r → b = some r
theorem Lle.refl {α : Type} (a : Option α) : Lle a a := fun _ h => h
theorem Lle.none {α : Type} (a : Option α) : Lle Option.none a := fun _ h => by cases h
theorem Lle.bind {α β : Type} {a b : Option α} {f g : α → Option β} (h : Lle a b) (k : ∀ x, Lle (f x) (g x)) : Lle (a.bind f) (b.bind g) := fun r hr => by
  obtain ⟨x, h1, h2⟩ := Option.bind_eq_some_iff.1 hr
  exact Option.bind_eq_some_iff.2 ⟨x, h x h1, k x r h2⟩
theorem Lle.ck {α : Type} {c : Prop} [Decidable c] {a b : Option α} (h : c → Lle a b) : Lle (ck c a) (ck c b) := fun r hr => by
  obtain ⟨hc, h1⟩ := ck_some.1 hr
  exact ck_some.2 ⟨hc, h hc r h1⟩
theorem Lle.ite {α : Type} {c : Bool} {a b a' b' : Option α} (h : Lle a a') (k : Lle b b') : Lle (if c = true then a else b) (if c = true then a' else b') := by
  split
  · exact h
  · exact k
theorem Lle.while {S R : Type} {f g : S → Option (Step S R)} (fu : Nat) (h : ∀ s, Lle (f s) (g s)) (s : S) : Lle (whileN f fu s) (whileO g s) := fun r hr => by
  have : ∀ (n : Nat) (s : S) (r : R), whileN f n s = some r → whileN g n s = some r := by
    intro n
    induction n with
    | zero => intro s r h; cases h
    | succ n ih =>
      intro s r hr
      unfold whileN at hr ⊢
      cases hf : f s with
      | none => rw [hf] at hr; cases hr
      | some x =>
        rw [hf] at hr
        rw [h s x hf]
        cases x with
        | next s' => exact ih s' r hr
        | done r' => exact hr
  exact whileO_of (this fu s r hr)

noncomputable def history_within_c (fu : Nat) (n : Int) (least : Int) (most : Int) : Option Bool :=
  if (decide (least ≤ n)) = true then
  some (decide (n ≤ most))
  else
  some false

theorem le_history_within (fu : Nat) (n : Int) (least : Int) (most : Int) : Lle (history_within_c fu n least most) (history_within n least most) := by
  unfold history_within_c history_within
  repeat' first | with_reducible exact Lle.refl _ | with_reducible exact Lle.none _ | (refine Lle.while fu (fun s => ?_) _) | (refine Lle.bind ?_ (fun x => ?_)) | (refine Lle.ck (fun _ => ?_)) | (refine Lle.ite ?_ ?_) | split | assumption

noncomputable def spec_machine_isState_c (fu : Nat) (m : Int × Int × (List (List Int)) × (List (List Int))) (n : Int) : Option Bool :=
  if (decide (0 ≤ n)) = true then
  some (decide (n < m.1))
  else
  some false

theorem le_spec_machine_isState (fu : Nat) (m : Int × Int × (List (List Int)) × (List (List Int))) (n : Int) : Lle (spec_machine_isState_c fu m n) (spec_machine_isState m n) := by
  unfold spec_machine_isState_c spec_machine_isState
  repeat' first | with_reducible exact Lle.refl _ | with_reducible exact Lle.none _ | (refine Lle.while fu (fun s => ?_) _) | (refine Lle.bind ?_ (fun x => ?_)) | (refine Lle.ck (fun _ => ?_)) | (refine Lle.ite ?_ ?_) | split | assumption

noncomputable def spec_all_k1_c (fu : Nat) : Option Bool :=
  some true

theorem le_spec_all_k1 (fu : Nat) : Lle (spec_all_k1_c fu ) (spec_all_k1 ) := by
  unfold spec_all_k1_c spec_all_k1
  repeat' first | with_reducible exact Lle.refl _ | with_reducible exact Lle.none _ | (refine Lle.while fu (fun s => ?_) _) | (refine Lle.bind ?_ (fun x => ?_)) | (refine Lle.ck (fun _ => ?_)) | (refine Lle.ite ?_ ?_) | split | assumption

noncomputable def spec_all_b1_c (fu : Nat) (is0 : Int × Int × (List (List Int)) × (List (List Int))) (numbers : List Int) (st1 : Int) : Option (Step Int (Sum Unit Unit)) :=
  if (decide (st1 < (numbers.length : Int))) = true then
  ck (0 ≤ st1) <| ck (st1 < (numbers.length : Int)) <| (spec_machine_isState_c fu is0 (numbers.getD st1.toNat 0)).bind fun v0 =>
  if (!v0) = true then
  some (.done (Sum.inl ()))
  else
  ck (InK .i64 (st1 + 1)) <| some (.next (st1 + 1))
  else
  some (.done (Sum.inr ()))

theorem le_spec_all_b1 (fu : Nat) (is0 : Int × Int × (List (List Int)) × (List (List Int))) (numbers : List Int) (st1 : Int) : Lle (spec_all_b1_c fu is0 numbers st1) (spec_all_b1 is0 numbers st1) := by
  unfold spec_all_b1_c spec_all_b1
  repeat' first | with_reducible exact Lle.refl _ | with_reducible exact Lle.none _ | (with_reducible apply le_spec_machine_isState <;> intros) | (refine Lle.while fu (fun s => ?_) _) | (refine Lle.bind ?_ (fun x => ?_)) | (refine Lle.ck (fun _ => ?_)) | (refine Lle.ite ?_ ?_) | split | assumption

noncomputable def spec_all_c (fu : Nat) (is0 : Int × Int × (List (List Int)) × (List (List Int))) (numbers : List Int) : Option Bool :=
  (whileN (spec_all_b1_c fu is0 numbers) fu 0).bind fun x => match x with
  | .inl _ => (some false)
  | .inr _ => (spec_all_k1_c fu)

theorem le_spec_all (fu : Nat) (is0 : Int × Int × (List (List Int)) × (List (List Int))) (numbers : List Int) : Lle (spec_all_c fu is0 numbers) (spec_all is0 numbers) := by
  unfold spec_all_c spec_all
  repeat' first | with_reducible exact Lle.refl _ | with_reducible exact Lle.none _ | (with_reducible apply le_spec_all_b1 <;> intros) | (with_reducible apply le_spec_all_k1 <;> intros) | (refine Lle.while fu (fun s => ?_) _) | (refine Lle.bind ?_ (fun x => ?_)) | (refine Lle.ck (fun _ => ?_)) | (refine Lle.ite ?_ ?_) | split | assumption

noncomputable def spec_machine_isTable_k1_c (fu : Nat) : Option Bool :=
  some true

theorem le_spec_machine_isTable_k1 (fu : Nat) : Lle (spec_machine_isTable_k1_c fu ) (spec_machine_isTable_k1 ) := by
  unfold spec_machine_isTable_k1_c spec_machine_isTable_k1
  repeat' first | with_reducible exact Lle.refl _ | with_reducible exact Lle.none _ | (refine Lle.while fu (fun s => ?_) _) | (refine Lle.bind ?_ (fun x => ?_)) | (refine Lle.ck (fun _ => ?_)) | (refine Lle.ite ?_ ?_) | split | assumption

noncomputable def spec_machine_isTable_b1_c (fu : Nat) (m : Int × Int × (List (List Int)) × (List (List Int))) (table : List (List Int)) (is0 : Int × Int × (List (List Int)) × (List (List Int))) (st1 : Int) : Option (Step Int (Sum Unit Unit)) :=
  if (decide (st1 < (table.length : Int))) = true then
  ck (0 ≤ st1) <| ck (st1 < (table.length : Int)) <| if (!(decide (((table.getD st1.toNat []).length : Int) = m.2.1))) = true then
  some (.done (Sum.inl ()))
  else
  (spec_all_c fu is0 (table.getD st1.toNat [])).bind fun v0 =>
  if (!v0) = true then
  some (.done (Sum.inl ()))
  else
  ck (InK .i64 (st1 + 1)) <| some (.next (st1 + 1))
  else
  some (.done (Sum.inr ()))

theorem le_spec_machine_isTable_b1 (fu : Nat) (m : Int × Int × (List (List Int)) × (List (List Int))) (table : List (List Int)) (is0 : Int × Int × (List (List Int)) × (List (List Int))) (st1 : Int) : Lle (spec_machine_isTable_b1_c fu m table is0 st1) (spec_machine_isTable_b1 m table is0 st1) := by
  unfold spec_machine_isTable_b1_c spec_machine_isTable_b1
  repeat' first | with_reducible exact Lle.refl _ | with_reducible exact Lle.none _ | (with_reducible apply le_spec_all <;> intros) | (refine Lle.while fu (fun s => ?_) _) | (refine Lle.bind ?_ (fun x => ?_)) | (refine Lle.ck (fun _ => ?_)) | (refine Lle.ite ?_ ?_) | split | assumption

noncomputable def spec_machine_isTable_c (fu : Nat) (m : Int × Int × (List (List Int)) × (List (List Int))) (table : List (List Int)) (is0 : Int × Int × (List (List Int)) × (List (List Int))) : Option Bool :=
  if (!(decide ((table.length : Int) = m.1))) = true then
  some false
  else
  (whileN (spec_machine_isTable_b1_c fu m table is0) fu 0).bind fun x => match x with
  | .inl _ => (some false)
  | .inr _ => (spec_machine_isTable_k1_c fu)

theorem le_spec_machine_isTable (fu : Nat) (m : Int × Int × (List (List Int)) × (List (List Int))) (table : List (List Int)) (is0 : Int × Int × (List (List Int)) × (List (List Int))) : Lle (spec_machine_isTable_c fu m table is0) (spec_machine_isTable m table is0) := by
  unfold spec_machine_isTable_c spec_machine_isTable
  repeat' first | with_reducible exact Lle.refl _ | with_reducible exact Lle.none _ | (with_reducible apply le_spec_machine_isTable_b1 <;> intros) | (with_reducible apply le_spec_machine_isTable_k1 <;> intros) | (refine Lle.while fu (fun s => ?_) _) | (refine Lle.bind ?_ (fun x => ?_)) | (refine Lle.ck (fun _ => ?_)) | (refine Lle.ite ?_ ?_) | split | assumption

noncomputable def spec_isAnswer_c (fu : Nat) (n : Int) : Option Bool :=
  if (decide (0 ≤ n)) = true then
  some (decide (n ≤ 5))
  else
  some false

theorem le_spec_isAnswer (fu : Nat) (n : Int) : Lle (spec_isAnswer_c fu n) (spec_isAnswer n) := by
  unfold spec_isAnswer_c spec_isAnswer
  repeat' first | with_reducible exact Lle.refl _ | with_reducible exact Lle.none _ | (refine Lle.while fu (fun s => ?_) _) | (refine Lle.bind ?_ (fun x => ?_)) | (refine Lle.ck (fun _ => ?_)) | (refine Lle.ite ?_ ?_) | split | assumption

noncomputable def spec_all_2_k1_c (fu : Nat) : Option Bool :=
  some true

theorem le_spec_all_2_k1 (fu : Nat) : Lle (spec_all_2_k1_c fu ) (spec_all_2_k1 ) := by
  unfold spec_all_2_k1_c spec_all_2_k1
  repeat' first | with_reducible exact Lle.refl _ | with_reducible exact Lle.none _ | (refine Lle.while fu (fun s => ?_) _) | (refine Lle.bind ?_ (fun x => ?_)) | (refine Lle.ck (fun _ => ?_)) | (refine Lle.ite ?_ ?_) | split | assumption

noncomputable def spec_all_2_b1_c (fu : Nat) (numbers : List Int) (st1 : Int) : Option (Step Int (Sum Unit Unit)) :=
  if (decide (st1 < (numbers.length : Int))) = true then
  ck (0 ≤ st1) <| ck (st1 < (numbers.length : Int)) <| (spec_isAnswer_c fu (numbers.getD st1.toNat 0)).bind fun v0 =>
  if (!v0) = true then
  some (.done (Sum.inl ()))
  else
  ck (InK .i64 (st1 + 1)) <| some (.next (st1 + 1))
  else
  some (.done (Sum.inr ()))

theorem le_spec_all_2_b1 (fu : Nat) (numbers : List Int) (st1 : Int) : Lle (spec_all_2_b1_c fu numbers st1) (spec_all_2_b1 numbers st1) := by
  unfold spec_all_2_b1_c spec_all_2_b1
  repeat' first | with_reducible exact Lle.refl _ | with_reducible exact Lle.none _ | (with_reducible apply le_spec_isAnswer <;> intros) | (refine Lle.while fu (fun s => ?_) _) | (refine Lle.bind ?_ (fun x => ?_)) | (refine Lle.ck (fun _ => ?_)) | (refine Lle.ite ?_ ?_) | split | assumption

noncomputable def spec_all_2_c (fu : Nat) (numbers : List Int) : Option Bool :=
  (whileN (spec_all_2_b1_c fu numbers) fu 0).bind fun x => match x with
  | .inl _ => (some false)
  | .inr _ => (spec_all_2_k1_c fu)

theorem le_spec_all_2 (fu : Nat) (numbers : List Int) : Lle (spec_all_2_c fu numbers) (spec_all_2 numbers) := by
  unfold spec_all_2_c spec_all_2
  repeat' first | with_reducible exact Lle.refl _ | with_reducible exact Lle.none _ | (with_reducible apply le_spec_all_2_b1 <;> intros) | (with_reducible apply le_spec_all_2_k1 <;> intros) | (refine Lle.while fu (fun s => ?_) _) | (refine Lle.bind ?_ (fun x => ?_)) | (refine Lle.ck (fun _ => ?_)) | (refine Lle.ite ?_ ?_) | split | assumption

noncomputable def spec_machine_isTable_2_k1_c (fu : Nat) : Option Bool :=
  some true

theorem le_spec_machine_isTable_2_k1 (fu : Nat) : Lle (spec_machine_isTable_2_k1_c fu ) (spec_machine_isTable_2_k1 ) := by
  unfold spec_machine_isTable_2_k1_c spec_machine_isTable_2_k1
  repeat' first | with_reducible exact Lle.refl _ | with_reducible exact Lle.none _ | (refine Lle.while fu (fun s => ?_) _) | (refine Lle.bind ?_ (fun x => ?_)) | (refine Lle.ck (fun _ => ?_)) | (refine Lle.ite ?_ ?_) | split | assumption

noncomputable def spec_machine_isTable_2_b1_c (fu : Nat) (m : Int × Int × (List (List Int)) × (List (List Int))) (table : List (List Int)) (st1 : Int) : Option (Step Int (Sum Unit Unit)) :=
  if (decide (st1 < (table.length : Int))) = true then
  ck (0 ≤ st1) <| ck (st1 < (table.length : Int)) <| if (!(decide (((table.getD st1.toNat []).length : Int) = m.2.1))) = true then
  some (.done (Sum.inl ()))
  else
  (spec_all_2_c fu (table.getD st1.toNat [])).bind fun v0 =>
  if (!v0) = true then
  some (.done (Sum.inl ()))
  else
  ck (InK .i64 (st1 + 1)) <| some (.next (st1 + 1))
  else
  some (.done (Sum.inr ()))

theorem le_spec_machine_isTable_2_b1 (fu : Nat) (m : Int × Int × (List (List Int)) × (List (List Int))) (table : List (List Int)) (st1 : Int) : Lle (spec_machine_isTable_2_b1_c fu m table st1) (spec_machine_isTable_2_b1 m table st1) := by
  unfold spec_machine_isTable_2_b1_c spec_machine_isTable_2_b1
  repeat' first | with_reducible exact Lle.refl _ | with_reducible exact Lle.none _ | (with_reducible apply le_spec_all_2 <;> intros) | (refine Lle.while fu (fun s => ?_) _) | (refine Lle.bind ?_ (fun x => ?_)) | (refine Lle.ck (fun _ => ?_)) | (refine Lle.ite ?_ ?_) | split | assumption

noncomputable def spec_machine_isTable_2_c (fu : Nat) (m : Int × Int × (List (List Int)) × (List (List Int))) (table : List (List Int)) : Option Bool :=
  if (!(decide ((table.length : Int) = m.1))) = true then
  some false
  else
  (whileN (spec_machine_isTable_2_b1_c fu m table) fu 0).bind fun x => match x with
  | .inl _ => (some false)
  | .inr _ => (spec_machine_isTable_2_k1_c fu)

theorem le_spec_machine_isTable_2 (fu : Nat) (m : Int × Int × (List (List Int)) × (List (List Int))) (table : List (List Int)) : Lle (spec_machine_isTable_2_c fu m table) (spec_machine_isTable_2 m table) := by
  unfold spec_machine_isTable_2_c spec_machine_isTable_2
  repeat' first | with_reducible exact Lle.refl _ | with_reducible exact Lle.none _ | (with_reducible apply le_spec_machine_isTable_2_b1 <;> intros) | (with_reducible apply le_spec_machine_isTable_2_k1 <;> intros) | (refine Lle.while fu (fun s => ?_) _) | (refine Lle.bind ?_ (fun x => ?_)) | (refine Lle.ck (fun _ => ?_)) | (refine Lle.ite ?_ ?_) | split | assumption

noncomputable def spec_Valid_c (fu : Nat) (s : Int × Int × (List (List Int)) × (List (List Int))) : Option Bool :=
  if (decide (s.1 < 1)) = true then
  some false
  else
  if (decide (8 < s.1)) = true then
  some false
  else
  if (decide (s.2.1 < 1)) = true then
  some false
  else
  if (decide (4 < s.2.1)) = true then
  some false
  else
  (spec_machine_isTable_c fu s s.2.2.1 s).bind fun v0 =>
  if v0 = true then
  (spec_machine_isTable_2_c fu s s.2.2.2).bind fun v0_2 =>
  some v0_2
  else
  some false

theorem le_spec_Valid (fu : Nat) (s : Int × Int × (List (List Int)) × (List (List Int))) : Lle (spec_Valid_c fu s) (spec_Valid s) := by
  unfold spec_Valid_c spec_Valid
  repeat' first | with_reducible exact Lle.refl _ | with_reducible exact Lle.none _ | (with_reducible apply le_spec_machine_isTable <;> intros) | (with_reducible apply le_spec_machine_isTable_2 <;> intros) | (refine Lle.while fu (fun s => ?_) _) | (refine Lle.bind ?_ (fun x => ?_)) | (refine Lle.ck (fun _ => ?_)) | (refine Lle.ite ?_ ?_) | split | assumption

noncomputable def history_checkSpecs_k1_c (fu : Nat) : Option Int :=
  some 0

theorem le_history_checkSpecs_k1 (fu : Nat) : Lle (history_checkSpecs_k1_c fu ) (history_checkSpecs_k1 ) := by
  unfold history_checkSpecs_k1_c history_checkSpecs_k1
  repeat' first | with_reducible exact Lle.refl _ | with_reducible exact Lle.none _ | (refine Lle.while fu (fun s => ?_) _) | (refine Lle.bind ?_ (fun x => ?_)) | (refine Lle.ck (fun _ => ?_)) | (refine Lle.ite ?_ ?_) | split | assumption

noncomputable def history_checkSpecs_b1_c (fu : Nat) (specs : List (Int × Int × (List (List Int)) × (List (List Int)))) (st1 : Int) : Option (Step Int (Sum Unit Unit)) :=
  if (decide (st1 < (specs.length : Int))) = true then
  ck (0 ≤ st1) <| ck (st1 < (specs.length : Int)) <| (spec_Valid_c fu (specs.getD st1.toNat (0, 0, [], []))).bind fun v0_2 =>
  if (!v0_2) = true then
  some (.done (Sum.inl ()))
  else
  ck (InK .i64 (st1 + 1)) <| some (.next (st1 + 1))
  else
  some (.done (Sum.inr ()))

theorem le_history_checkSpecs_b1 (fu : Nat) (specs : List (Int × Int × (List (List Int)) × (List (List Int)))) (st1 : Int) : Lle (history_checkSpecs_b1_c fu specs st1) (history_checkSpecs_b1 specs st1) := by
  unfold history_checkSpecs_b1_c history_checkSpecs_b1
  repeat' first | with_reducible exact Lle.refl _ | with_reducible exact Lle.none _ | (with_reducible apply le_spec_Valid <;> intros) | (refine Lle.while fu (fun s => ?_) _) | (refine Lle.bind ?_ (fun x => ?_)) | (refine Lle.ck (fun _ => ?_)) | (refine Lle.ite ?_ ?_) | split | assumption

noncomputable def history_checkSpecs_c (fu : Nat) (specs : List (Int × Int × (List (List Int)) × (List (List Int)))) : Option Int :=
  (history_within_c fu (specs.length : Int) 1 2).bind fun v0 =>
  if (!v0) = true then
  some 10
  else
  (whileN (history_checkSpecs_b1_c fu specs) fu 0).bind fun x => match x with
  | .inl _ => (some 10)
  | .inr _ => (history_checkSpecs_k1_c fu)

theorem le_history_checkSpecs (fu : Nat) (specs : List (Int × Int × (List (List Int)) × (List (List Int)))) : Lle (history_checkSpecs_c fu specs) (history_checkSpecs specs) := by
  unfold history_checkSpecs_c history_checkSpecs
  repeat' first | with_reducible exact Lle.refl _ | with_reducible exact Lle.none _ | (with_reducible apply le_history_within <;> intros) | (with_reducible apply le_history_checkSpecs_b1 <;> intros) | (with_reducible apply le_history_checkSpecs_k1 <;> intros) | (refine Lle.while fu (fun s => ?_) _) | (refine Lle.bind ?_ (fun x => ?_)) | (refine Lle.ck (fun _ => ?_)) | (refine Lle.ite ?_ ?_) | split | assumption

noncomputable def history_isCall_k2_c (fu : Nat) (c : Int × Int × Int × Int × Int × Int) (b1 : Bool) (b2 : Bool) : Option Bool :=
  (history_within_c fu c.1 0 3).bind fun v0 =>
  if v0 = true then
  (history_within_c fu c.2.1 0 1).bind fun v0_2 =>
  if v0_2 = true then
  (history_within_c fu c.2.2.1 0 3).bind fun v0_3 =>
  if v0_3 = true then
  (history_within_c fu c.2.2.2.1 0 9).bind fun v0_4 =>
  if v0_4 = true then
  (history_within_c fu c.2.2.2.2.1 1 100).bind fun v0_5 =>
  if v0_5 = true then
  if b1 = true then
  some true
  else
  some b2
  else
  some false
  else
  some false
  else
  some false
  else
  some false
  else
  some false

theorem le_history_isCall_k2 (fu : Nat) (c : Int × Int × Int × Int × Int × Int) (b1 : Bool) (b2 : Bool) : Lle (history_isCall_k2_c fu c b1 b2) (history_isCall_k2 c b1 b2) := by
  unfold history_isCall_k2_c history_isCall_k2
  repeat' first | with_reducible exact Lle.refl _ | with_reducible exact Lle.none _ | (with_reducible apply le_history_within <;> intros) | (refine Lle.while fu (fun s => ?_) _) | (refine Lle.bind ?_ (fun x => ?_)) | (refine Lle.ck (fun _ => ?_)) | (refine Lle.ite ?_ ?_) | split | assumption

noncomputable def history_isCall_k1_c (fu : Nat) (c : Int × Int × Int × Int × Int × Int) (b1 : Bool) : Option Bool :=
  if (decide (c.2.2.2.2.1 < c.2.2.2.2.2)) = true then
  history_isCall_k2_c fu c b1 (decide (c.2.2.2.2.2 ≤ 100))
  else
  history_isCall_k2_c fu c b1 false

theorem le_history_isCall_k1 (fu : Nat) (c : Int × Int × Int × Int × Int × Int) (b1 : Bool) : Lle (history_isCall_k1_c fu c b1) (history_isCall_k1 c b1) := by
  unfold history_isCall_k1_c history_isCall_k1
  repeat' first | with_reducible exact Lle.refl _ | with_reducible exact Lle.none _ | (with_reducible apply le_history_isCall_k2 <;> intros) | (refine Lle.while fu (fun s => ?_) _) | (refine Lle.bind ?_ (fun x => ?_)) | (refine Lle.ck (fun _ => ?_)) | (refine Lle.ite ?_ ?_) | split | assumption

noncomputable def history_isCall_c (fu : Nat) (c : Int × Int × Int × Int × Int × Int) : Option Bool :=
  if (decide (c.2.2.2.2.2 = 0)) = true then
  history_isCall_k1_c fu c (decide (c.2.2.2.1 = 0))
  else
  history_isCall_k1_c fu c false

theorem le_history_isCall (fu : Nat) (c : Int × Int × Int × Int × Int × Int) : Lle (history_isCall_c fu c) (history_isCall c) := by
  unfold history_isCall_c history_isCall
  repeat' first | with_reducible exact Lle.refl _ | with_reducible exact Lle.none _ | (with_reducible apply le_history_isCall_k1 <;> intros) | (refine Lle.while fu (fun s => ?_) _) | (refine Lle.bind ?_ (fun x => ?_)) | (refine Lle.ck (fun _ => ?_)) | (refine Lle.ite ?_ ?_) | split | assumption

noncomputable def history_before_c (fu : Nat) (a : Int × Int × Int × Int × Int × Int) (b : Int × Int × Int × Int × Int × Int) : Option Bool :=
  if (!(decide (a.2.2.2.2.2 = 0))) = true then
  some (decide (a.2.2.2.2.2 < b.2.2.2.2.1))
  else
  some false

theorem le_history_before (fu : Nat) (a : Int × Int × Int × Int × Int × Int) (b : Int × Int × Int × Int × Int × Int) : Lle (history_before_c fu a b) (history_before a b) := by
  unfold history_before_c history_before
  repeat' first | with_reducible exact Lle.refl _ | with_reducible exact Lle.none _ | (refine Lle.while fu (fun s => ?_) _) | (refine Lle.bind ?_ (fun x => ?_)) | (refine Lle.ck (fun _ => ?_)) | (refine Lle.ite ?_ ?_) | split | assumption

noncomputable def history_apart_k1_c (fu : Nat) (a : Int × Int × Int × Int × Int × Int) (b : Int × Int × Int × Int × Int × Int) : Option Bool :=
  if (!(decide (a.1 = b.1))) = true then
  some true
  else
  (history_before_c fu a b).bind fun v0 =>
  if v0 = true then
  some true
  else
  (history_before_c fu b a).bind fun v0_2 =>
  some v0_2

theorem le_history_apart_k1 (fu : Nat) (a : Int × Int × Int × Int × Int × Int) (b : Int × Int × Int × Int × Int × Int) : Lle (history_apart_k1_c fu a b) (history_apart_k1 a b) := by
  unfold history_apart_k1_c history_apart_k1
  repeat' first | with_reducible exact Lle.refl _ | with_reducible exact Lle.none _ | (with_reducible apply le_history_before <;> intros) | (refine Lle.while fu (fun s => ?_) _) | (refine Lle.bind ?_ (fun x => ?_)) | (refine Lle.ck (fun _ => ?_)) | (refine Lle.ite ?_ ?_) | split | assumption

noncomputable def history_apart_c (fu : Nat) (a : Int × Int × Int × Int × Int × Int) (b : Int × Int × Int × Int × Int × Int) : Option Bool :=
  if (decide (a.2.2.2.2.1 = b.2.2.2.2.1)) = true then
  some false
  else
  if (decide (a.2.2.2.2.1 = b.2.2.2.2.2)) = true then
  some false
  else
  if (decide (a.2.2.2.2.2 = b.2.2.2.2.1)) = true then
  some false
  else
  if (decide (a.2.2.2.2.2 = b.2.2.2.2.2)) = true then
  if (!(decide (a.2.2.2.2.2 = 0))) = true then
  some false
  else
  history_apart_k1_c fu a b
  else
  history_apart_k1_c fu a b

theorem le_history_apart (fu : Nat) (a : Int × Int × Int × Int × Int × Int) (b : Int × Int × Int × Int × Int × Int) : Lle (history_apart_c fu a b) (history_apart a b) := by
  unfold history_apart_c history_apart
  repeat' first | with_reducible exact Lle.refl _ | with_reducible exact Lle.none _ | (with_reducible apply le_history_apart_k1 <;> intros) | (refine Lle.while fu (fun s => ?_) _) | (refine Lle.bind ?_ (fun x => ?_)) | (refine Lle.ck (fun _ => ?_)) | (refine Lle.ite ?_ ?_) | split | assumption

noncomputable def history_Valid_k1_c (fu : Nat) : Option Bool :=
  some true

theorem le_history_Valid_k1 (fu : Nat) : Lle (history_Valid_k1_c fu ) (history_Valid_k1 ) := by
  unfold history_Valid_k1_c history_Valid_k1
  repeat' first | with_reducible exact Lle.refl _ | with_reducible exact Lle.none _ | (refine Lle.while fu (fun s => ?_) _) | (refine Lle.bind ?_ (fun x => ?_)) | (refine Lle.ck (fun _ => ?_)) | (refine Lle.ite ?_ ?_) | split | assumption

noncomputable def history_Valid_k2_c (fu : Nat) (st1 : Int) : Option (Step Int (Sum Unit Unit)) :=
  ck (InK .i64 (st1 + 1)) <| some (.next (st1 + 1))

theorem le_history_Valid_k2 (fu : Nat) (st1 : Int) : Lle (history_Valid_k2_c fu st1) (history_Valid_k2 st1) := by
  unfold history_Valid_k2_c history_Valid_k2
  repeat' first | with_reducible exact Lle.refl _ | with_reducible exact Lle.none _ | (refine Lle.while fu (fun s => ?_) _) | (refine Lle.bind ?_ (fun x => ?_)) | (refine Lle.ck (fun _ => ?_)) | (refine Lle.ite ?_ ?_) | split | assumption

noncomputable def history_Valid_b2_c (fu : Nat) (h0 : List (Int × Int × Int × Int × Int × Int)) (st1 : Int) (st2 : Int) : Option (Step Int (Sum Unit Unit)) :=
  if (decide (st2 < ((h0.take st1.toNat).length : Int))) = true then
  ck (0 ≤ st2) <| ck (st2 < ((h0.take st1.toNat).length : Int)) <| (history_apart_c fu (h0.getD st1.toNat (0, 0, 0, 0, 0, 0)) ((h0.take st1.toNat).getD st2.toNat (0, 0, 0, 0, 0, 0))).bind fun v0_2 =>
  if (!v0_2) = true then
  some (.done (Sum.inl ()))
  else
  ck (InK .i64 (st2 + 1)) <| some (.next (st2 + 1))
  else
  some (.done (Sum.inr ()))

theorem le_history_Valid_b2 (fu : Nat) (h0 : List (Int × Int × Int × Int × Int × Int)) (st1 : Int) (st2 : Int) : Lle (history_Valid_b2_c fu h0 st1 st2) (history_Valid_b2 h0 st1 st2) := by
  unfold history_Valid_b2_c history_Valid_b2
  repeat' first | with_reducible exact Lle.refl _ | with_reducible exact Lle.none _ | (with_reducible apply le_history_apart <;> intros) | (refine Lle.while fu (fun s => ?_) _) | (refine Lle.bind ?_ (fun x => ?_)) | (refine Lle.ck (fun _ => ?_)) | (refine Lle.ite ?_ ?_) | split | assumption

noncomputable def history_Valid_b1_c (fu : Nat) (h0 : List (Int × Int × Int × Int × Int × Int)) (st1 : Int) : Option (Step Int (Sum Unit Unit)) :=
  if (decide (st1 < (h0.length : Int))) = true then
  ck (0 ≤ st1) <| ck (st1 < (h0.length : Int)) <| (history_isCall_c fu (h0.getD st1.toNat (0, 0, 0, 0, 0, 0))).bind fun v0 =>
  if (!v0) = true then
  some (.done (Sum.inl ()))
  else
  ck (0 ≤ st1) <| ck (st1 ≤ (h0.length : Int)) <| (whileN (history_Valid_b2_c fu h0 st1) fu 0).bind fun x => match x with
  | .inl _ => (some (.done (Sum.inl ())))
  | .inr _ => (history_Valid_k2_c fu st1)
  else
  some (.done (Sum.inr ()))

theorem le_history_Valid_b1 (fu : Nat) (h0 : List (Int × Int × Int × Int × Int × Int)) (st1 : Int) : Lle (history_Valid_b1_c fu h0 st1) (history_Valid_b1 h0 st1) := by
  unfold history_Valid_b1_c history_Valid_b1
  repeat' first | with_reducible exact Lle.refl _ | with_reducible exact Lle.none _ | (with_reducible apply le_history_isCall <;> intros) | (with_reducible apply le_history_Valid_b2 <;> intros) | (with_reducible apply le_history_Valid_k2 <;> intros) | (refine Lle.while fu (fun s => ?_) _) | (refine Lle.bind ?_ (fun x => ?_)) | (refine Lle.ck (fun _ => ?_)) | (refine Lle.ite ?_ ?_) | split | assumption

noncomputable def history_Valid_c (fu : Nat) (h0 : List (Int × Int × Int × Int × Int × Int)) : Option Bool :=
  if (decide (8 < (h0.length : Int))) = true then
  some false
  else
  (whileN (history_Valid_b1_c fu h0) fu 0).bind fun x => match x with
  | .inl _ => (some false)
  | .inr _ => (history_Valid_k1_c fu)

theorem le_history_Valid (fu : Nat) (h0 : List (Int × Int × Int × Int × Int × Int)) : Lle (history_Valid_c fu h0) (history_Valid h0) := by
  unfold history_Valid_c history_Valid
  repeat' first | with_reducible exact Lle.refl _ | with_reducible exact Lle.none _ | (with_reducible apply le_history_Valid_b1 <;> intros) | (with_reducible apply le_history_Valid_k1 <;> intros) | (refine Lle.while fu (fun s => ?_) _) | (refine Lle.bind ?_ (fun x => ?_)) | (refine Lle.ck (fun _ => ?_)) | (refine Lle.ite ?_ ?_) | split | assumption

noncomputable def history_fits_k1_c (fu : Nat) : Option Bool :=
  some true

theorem le_history_fits_k1 (fu : Nat) : Lle (history_fits_k1_c fu ) (history_fits_k1 ) := by
  unfold history_fits_k1_c history_fits_k1
  repeat' first | with_reducible exact Lle.refl _ | with_reducible exact Lle.none _ | (refine Lle.while fu (fun s => ?_) _) | (refine Lle.bind ?_ (fun x => ?_)) | (refine Lle.ck (fun _ => ?_)) | (refine Lle.ite ?_ ?_) | split | assumption

noncomputable def history_fits_b1_c (fu : Nat) (specs : List (Int × Int × (List (List Int)) × (List (List Int)))) (h0 : List (Int × Int × Int × Int × Int × Int)) (st1 : Int) : Option (Step Int (Sum Unit Unit)) :=
  if (decide (st1 < (h0.length : Int))) = true then
  ck (0 ≤ st1) <| ck (st1 < (h0.length : Int)) <| if (decide ((specs.length : Int) ≤ (h0.getD st1.toNat (0, 0, 0, 0, 0, 0)).2.1)) = true then
  some (.done (Sum.inl ()))
  else
  ck (0 ≤ (h0.getD st1.toNat (0, 0, 0, 0, 0, 0)).2.1) <| ck ((h0.getD st1.toNat (0, 0, 0, 0, 0, 0)).2.1 < (specs.length : Int)) <| if (decide ((specs.getD (h0.getD st1.toNat (0, 0, 0, 0, 0, 0)).2.1.toNat (0, 0, [], [])).2.1 ≤ (h0.getD st1.toNat (0, 0, 0, 0, 0, 0)).2.2.1)) = true then
  some (.done (Sum.inl ()))
  else
  ck (InK .i64 (st1 + 1)) <| some (.next (st1 + 1))
  else
  some (.done (Sum.inr ()))

theorem le_history_fits_b1 (fu : Nat) (specs : List (Int × Int × (List (List Int)) × (List (List Int)))) (h0 : List (Int × Int × Int × Int × Int × Int)) (st1 : Int) : Lle (history_fits_b1_c fu specs h0 st1) (history_fits_b1 specs h0 st1) := by
  unfold history_fits_b1_c history_fits_b1
  repeat' first | with_reducible exact Lle.refl _ | with_reducible exact Lle.none _ | (refine Lle.while fu (fun s => ?_) _) | (refine Lle.bind ?_ (fun x => ?_)) | (refine Lle.ck (fun _ => ?_)) | (refine Lle.ite ?_ ?_) | split | assumption

noncomputable def history_fits_c (fu : Nat) (specs : List (Int × Int × (List (List Int)) × (List (List Int)))) (h0 : List (Int × Int × Int × Int × Int × Int)) : Option Bool :=
  (whileN (history_fits_b1_c fu specs h0) fu 0).bind fun x => match x with
  | .inl _ => (some false)
  | .inr _ => (history_fits_k1_c fu)

theorem le_history_fits (fu : Nat) (specs : List (Int × Int × (List (List Int)) × (List (List Int)))) (h0 : List (Int × Int × Int × Int × Int × Int)) : Lle (history_fits_c fu specs h0) (history_fits specs h0) := by
  unfold history_fits_c history_fits
  repeat' first | with_reducible exact Lle.refl _ | with_reducible exact Lle.none _ | (with_reducible apply le_history_fits_b1 <;> intros) | (with_reducible apply le_history_fits_k1 <;> intros) | (refine Lle.while fu (fun s => ?_) _) | (refine Lle.bind ?_ (fun x => ?_)) | (refine Lle.ck (fun _ => ?_)) | (refine Lle.ite ?_ ?_) | split | assumption

noncomputable def history_checkFor_c (fu : Nat) (specs : List (Int × Int × (List (List Int)) × (List (List Int)))) (h0 : List (Int × Int × Int × Int × Int × Int)) : Option Int :=
  (history_checkSpecs_c fu specs).bind fun v0 =>
  if (!(decide (v0 = 0))) = true then
  some v0
  else
  (history_Valid_c fu h0).bind fun v0_2 =>
  if (!v0_2) = true then
  some 20
  else
  (history_fits_c fu specs h0).bind fun v0_3 =>
  if (!v0_3) = true then
  some 20
  else
  some 0

theorem le_history_checkFor (fu : Nat) (specs : List (Int × Int × (List (List Int)) × (List (List Int)))) (h0 : List (Int × Int × Int × Int × Int × Int)) : Lle (history_checkFor_c fu specs h0) (history_checkFor specs h0) := by
  unfold history_checkFor_c history_checkFor
  repeat' first | with_reducible exact Lle.refl _ | with_reducible exact Lle.none _ | (with_reducible apply le_history_checkSpecs <;> intros) | (with_reducible apply le_history_Valid <;> intros) | (with_reducible apply le_history_fits <;> intros) | (refine Lle.while fu (fun s => ?_) _) | (refine Lle.bind ?_ (fun x => ?_)) | (refine Lle.ck (fun _ => ?_)) | (refine Lle.ite ?_ ?_) | split | assumption

noncomputable def history_newSearch_c (fu : Nat) (specs : List (Int × Int × (List (List Int)) × (List (List Int)))) (h0 : List (Int × Int × Int × Int × Int × Int)) : Option Unit :=
  some ()

theorem le_history_newSearch (fu : Nat) (specs : List (Int × Int × (List (List Int)) × (List (List Int)))) (h0 : List (Int × Int × Int × Int × Int × Int)) : Lle (history_newSearch_c fu specs h0) (history_newSearch specs h0) := by
  unfold history_newSearch_c history_newSearch
  repeat' first | with_reducible exact Lle.refl _ | with_reducible exact Lle.none _ | (refine Lle.while fu (fun s => ?_) _) | (refine Lle.bind ?_ (fun x => ?_)) | (refine Lle.ck (fun _ => ?_)) | (refine Lle.ite ?_ ?_) | split | assumption

noncomputable def history_Order_1_c (fu : Nat) (a0 : List (Int × Int × (List (List Int)) × (List (List Int)))) (a1 : List (Int × Int × Int × Int × Int × Int)) : Option Unit :=
  (history_newSearch_c fu a0 a1).bind fun v0 =>
  some ()

theorem le_history_Order_1 (fu : Nat) (a0 : List (Int × Int × (List (List Int)) × (List (List Int)))) (a1 : List (Int × Int × Int × Int × Int × Int)) : Lle (history_Order_1_c fu a0 a1) (history_Order_1 a0 a1) := by
  unfold history_Order_1_c history_Order_1
  repeat' first | with_reducible exact Lle.refl _ | with_reducible exact Lle.none _ | (with_reducible apply le_history_newSearch <;> intros) | (refine Lle.while fu (fun s => ?_) _) | (refine Lle.bind ?_ (fun x => ?_)) | (refine Lle.ck (fun _ => ?_)) | (refine Lle.ite ?_ ?_) | split | assumption

noncomputable def history_told_c (fu : Nat) (c0 : List (Int × Int × (List (List Int)) × (List (List Int)))) (c1 : List (Int × Int × Int × Int × Int × Int)) : Option Unit :=
  (history_Order_1_c fu c0 c1).bind fun v0 =>
  some ()

theorem le_history_told (fu : Nat) (c0 : List (Int × Int × (List (List Int)) × (List (List Int)))) (c1 : List (Int × Int × Int × Int × Int × Int)) : Lle (history_told_c fu c0 c1) (history_told c0 c1) := by
  unfold history_told_c history_told
  repeat' first | with_reducible exact Lle.refl _ | with_reducible exact Lle.none _ | (with_reducible apply le_history_Order_1 <;> intros) | (refine Lle.while fu (fun s => ?_) _) | (refine Lle.bind ?_ (fun x => ?_)) | (refine Lle.ck (fun _ => ?_)) | (refine Lle.ite ?_ ?_) | split | assumption

noncomputable def history_told_2_c (fu : Nat) (err : Int) (c0 : List (Int × Int × (List (List Int)) × (List (List Int)))) (c1 : List (Int × Int × Int × Int × Int × Int)) : Option Unit :=
  some ()

theorem le_history_told_2 (fu : Nat) (err : Int) (c0 : List (Int × Int × (List (List Int)) × (List (List Int)))) (c1 : List (Int × Int × Int × Int × Int × Int)) : Lle (history_told_2_c fu err c0 c1) (history_told_2 err c0 c1) := by
  unfold history_told_2_c history_told_2
  repeat' first | with_reducible exact Lle.refl _ | with_reducible exact Lle.none _ | (refine Lle.while fu (fun s => ?_) _) | (refine Lle.bind ?_ (fun x => ?_)) | (refine Lle.ck (fun _ => ?_)) | (refine Lle.ite ?_ ?_) | split | assumption

noncomputable def history_place_has_c (fu : Nat) (p : (Int × Int) × Int) (call : Int) : Option Unit :=
  ck (0 ≤ call) <| some ()

theorem le_history_place_has (fu : Nat) (p : (Int × Int) × Int) (call : Int) : Lle (history_place_has_c fu p call) (history_place_has p call) := by
  unfold history_place_has_c history_place_has
  repeat' first | with_reducible exact Lle.refl _ | with_reducible exact Lle.none _ | (refine Lle.while fu (fun s => ?_) _) | (refine Lle.bind ?_ (fun x => ?_)) | (refine Lle.ck (fun _ => ?_)) | (refine Lle.ite ?_ ?_) | split | assumption

noncomputable def history_search_full_k1_c (fu : Nat) : Option Bool :=
  some true

theorem le_history_search_full_k1 (fu : Nat) : Lle (history_search_full_k1_c fu ) (history_search_full_k1 ) := by
  unfold history_search_full_k1_c history_search_full_k1
  repeat' first | with_reducible exact Lle.refl _ | with_reducible exact Lle.none _ | (refine Lle.while fu (fun s => ?_) _) | (refine Lle.bind ?_ (fun x => ?_)) | (refine Lle.ck (fun _ => ?_)) | (refine Lle.ite ?_ ?_) | split | assumption

noncomputable def history_search_full_b1_c (fu : Nat) (s_2 : List (Int × Int × Int × Int × Int × Int)) (at0 : (Int × Int) × Int) (st1 : Int) : Option (Step Int (Sum Unit Unit)) :=
  if (decide (st1 < (s_2.length : Int))) = true then
  ck (0 ≤ st1) <| ck (st1 < (s_2.length : Int)) <| if (!(decide ((s_2.getD st1.toNat (0, 0, 0, 0, 0, 0)).2.2.2.2.2 = 0))) = true then
  (history_place_has_c fu at0 st1).bind fun v0 =>
  if (!(!(decide ((iand .u64 at0.2 (ishl .u64 1 st1)) = 0)))) = true then
  some (.done (Sum.inl ()))
  else
  ck (InK .i64 (st1 + 1)) <| some (.next (st1 + 1))
  else
  ck (InK .i64 (st1 + 1)) <| some (.next (st1 + 1))
  else
  some (.done (Sum.inr ()))

theorem le_history_search_full_b1 (fu : Nat) (s_2 : List (Int × Int × Int × Int × Int × Int)) (at0 : (Int × Int) × Int) (st1 : Int) : Lle (history_search_full_b1_c fu s_2 at0 st1) (history_search_full_b1 s_2 at0 st1) := by
  unfold history_search_full_b1_c history_search_full_b1
  repeat' first | with_reducible exact Lle.refl _ | with_reducible exact Lle.none _ | (with_reducible apply le_history_place_has <;> intros) | (refine Lle.while fu (fun s => ?_) _) | (refine Lle.bind ?_ (fun x => ?_)) | (refine Lle.ck (fun _ => ?_)) | (refine Lle.ite ?_ ?_) | split | assumption

noncomputable def history_search_full_c (fu : Nat) (s : List (Int × Int × (List (List Int)) × (List (List Int)))) (s_2 : List (Int × Int × Int × Int × Int × Int)) (at0 : (Int × Int) × Int) : Option Bool :=
  (whileN (history_search_full_b1_c fu s_2 at0) fu 0).bind fun x => match x with
  | .inl _ => (some false)
  | .inr _ => (history_search_full_k1_c fu)

theorem le_history_search_full (fu : Nat) (s : List (Int × Int × (List (List Int)) × (List (List Int)))) (s_2 : List (Int × Int × Int × Int × Int × Int)) (at0 : (Int × Int) × Int) : Lle (history_search_full_c fu s s_2 at0) (history_search_full s s_2 at0) := by
  unfold history_search_full_c history_search_full
  repeat' first | with_reducible exact Lle.refl _ | with_reducible exact Lle.none _ | (with_reducible apply le_history_search_full_b1 <;> intros) | (with_reducible apply le_history_search_full_k1 <;> intros) | (refine Lle.while fu (fun s => ?_) _) | (refine Lle.bind ?_ (fun x => ?_)) | (refine Lle.ck (fun _ => ?_)) | (refine Lle.ite ?_ ?_) | split | assumption

noncomputable def history_search_steps_c (fu : Nat) (s : List (Int × Int × (List (List Int)) × (List (List Int)))) (s_2 : List (Int × Int × Int × Int × Int × Int)) (at0 : (Int × Int) × Int) : Option Unit :=
  some ()

theorem le_history_search_steps (fu : Nat) (s : List (Int × Int × (List (List Int)) × (List (List Int)))) (s_2 : List (Int × Int × Int × Int × Int × Int)) (at0 : (Int × Int) × Int) : Lle (history_search_steps_c fu s s_2 at0) (history_search_steps s s_2 at0) := by
  unfold history_search_steps_c history_search_steps
  repeat' first | with_reducible exact Lle.refl _ | with_reducible exact Lle.none _ | (refine Lle.while fu (fun s => ?_) _) | (refine Lle.bind ?_ (fun x => ?_)) | (refine Lle.ck (fun _ => ?_)) | (refine Lle.ite ?_ ?_) | split | assumption

noncomputable def history_inTime_c (fu : Nat) (a : Int × Int × Int × Int × Int × Int) (b : Int × Int × Int × Int × Int × Int) : Option Bool :=
  (history_before_c fu b a).bind fun v0 =>
  some v0

theorem le_history_inTime (fu : Nat) (a : Int × Int × Int × Int × Int × Int) (b : Int × Int × Int × Int × Int × Int) : Lle (history_inTime_c fu a b) (history_inTime a b) := by
  unfold history_inTime_c history_inTime
  repeat' first | with_reducible exact Lle.refl _ | with_reducible exact Lle.none _ | (with_reducible apply le_history_before <;> intros) | (refine Lle.while fu (fun s => ?_) _) | (refine Lle.bind ?_ (fun x => ?_)) | (refine Lle.ck (fun _ => ?_)) | (refine Lle.ite ?_ ?_) | split | assumption

noncomputable def history_search_ready_k1_c (fu : Nat) : Option Bool :=
  some true

theorem le_history_search_ready_k1 (fu : Nat) : Lle (history_search_ready_k1_c fu ) (history_search_ready_k1 ) := by
  unfold history_search_ready_k1_c history_search_ready_k1
  repeat' first | with_reducible exact Lle.refl _ | with_reducible exact Lle.none _ | (refine Lle.while fu (fun s => ?_) _) | (refine Lle.bind ?_ (fun x => ?_)) | (refine Lle.ck (fun _ => ?_)) | (refine Lle.ite ?_ ?_) | split | assumption

noncomputable def history_search_ready_b1_c (fu : Nat) (s_2 : List (Int × Int × Int × Int × Int × Int)) (at0 : (Int × Int) × Int) (call : Int) (st1 : Int) : Option (Step Int (Sum Unit Unit)) :=
  if (decide (st1 < (s_2.length : Int))) = true then
  ck (0 ≤ st1) <| ck (st1 < (s_2.length : Int)) <| ck (0 ≤ call) <| ck (call < (s_2.length : Int)) <| (history_inTime_c fu (s_2.getD call.toNat (0, 0, 0, 0, 0, 0)) (s_2.getD st1.toNat (0, 0, 0, 0, 0, 0))).bind fun v0_2 =>
  if v0_2 = true then
  (history_place_has_c fu at0 st1).bind fun v0_3 =>
  if (!(!(decide ((iand .u64 at0.2 (ishl .u64 1 st1)) = 0)))) = true then
  some (.done (Sum.inl ()))
  else
  ck (InK .i64 (st1 + 1)) <| some (.next (st1 + 1))
  else
  ck (InK .i64 (st1 + 1)) <| some (.next (st1 + 1))
  else
  some (.done (Sum.inr ()))

theorem le_history_search_ready_b1 (fu : Nat) (s_2 : List (Int × Int × Int × Int × Int × Int)) (at0 : (Int × Int) × Int) (call : Int) (st1 : Int) : Lle (history_search_ready_b1_c fu s_2 at0 call st1) (history_search_ready_b1 s_2 at0 call st1) := by
  unfold history_search_ready_b1_c history_search_ready_b1
  repeat' first | with_reducible exact Lle.refl _ | with_reducible exact Lle.none _ | (with_reducible apply le_history_inTime <;> intros) | (with_reducible apply le_history_place_has <;> intros) | (refine Lle.while fu (fun s => ?_) _) | (refine Lle.bind ?_ (fun x => ?_)) | (refine Lle.ck (fun _ => ?_)) | (refine Lle.ite ?_ ?_) | split | assumption

noncomputable def history_search_ready_c (fu : Nat) (s : List (Int × Int × (List (List Int)) × (List (List Int)))) (s_2 : List (Int × Int × Int × Int × Int × Int)) (at0 : (Int × Int) × Int) (call : Int) : Option Bool :=
  (history_place_has_c fu at0 call).bind fun v0 =>
  if (!(decide ((iand .u64 at0.2 (ishl .u64 1 call)) = 0))) = true then
  some false
  else
  (whileN (history_search_ready_b1_c fu s_2 at0 call) fu 0).bind fun x => match x with
  | .inl _ => (some false)
  | .inr _ => (history_search_ready_k1_c fu)

theorem le_history_search_ready (fu : Nat) (s : List (Int × Int × (List (List Int)) × (List (List Int)))) (s_2 : List (Int × Int × Int × Int × Int × Int)) (at0 : (Int × Int) × Int) (call : Int) : Lle (history_search_ready_c fu s s_2 at0 call) (history_search_ready s s_2 at0 call) := by
  unfold history_search_ready_c history_search_ready
  repeat' first | with_reducible exact Lle.refl _ | with_reducible exact Lle.none _ | (with_reducible apply le_history_place_has <;> intros) | (with_reducible apply le_history_search_ready_b1 <;> intros) | (with_reducible apply le_history_search_ready_k1 <;> intros) | (refine Lle.while fu (fun s => ?_) _) | (refine Lle.bind ?_ (fun x => ?_)) | (refine Lle.ck (fun _ => ?_)) | (refine Lle.ite ?_ ?_) | split | assumption

noncomputable def history_states_answer_k2_c (fu : Nat) (c : Int × Int × Int × Int × Int × Int) (b1 : Int × Int × Int × (List (List Int)) × (List (List Int)) × Int) (b2 : Int × Int × Int) : Option (Int × Int × Int) :=
  ck (0 ≤ b1.2.2.2.2.2) <| ck (b1.2.2.2.2.2 < (b1.2.2.2.2.1.length : Int)) <| ck (0 ≤ c.2.2.1) <| ck (c.2.2.1 < ((b1.2.2.2.2.1.getD b1.2.2.2.2.2.toNat []).length : Int)) <| some (((b1.2.2.2.2.1.getD b1.2.2.2.2.2.toNat []).getD c.2.2.1.toNat 0), b2.2)

theorem le_history_states_answer_k2 (fu : Nat) (c : Int × Int × Int × Int × Int × Int) (b1 : Int × Int × Int × (List (List Int)) × (List (List Int)) × Int) (b2 : Int × Int × Int) : Lle (history_states_answer_k2_c fu c b1 b2) (history_states_answer_k2 c b1 b2) := by
  unfold history_states_answer_k2_c history_states_answer_k2
  repeat' first | with_reducible exact Lle.refl _ | with_reducible exact Lle.none _ | (refine Lle.while fu (fun s => ?_) _) | (refine Lle.bind ?_ (fun x => ?_)) | (refine Lle.ck (fun _ => ?_)) | (refine Lle.ite ?_ ?_) | split | assumption

noncomputable def history_states_answer_k1_c (fu : Nat) (c : Int × Int × Int × Int × Int × Int) (s : (Int × Int) × Int) (b1 : Int × Int × Int × (List (List Int)) × (List (List Int)) × Int) : Option (Int × Int × Int) :=
  ck (0 ≤ b1.2.2.2.2.2) <| ck (b1.2.2.2.2.2 < (b1.2.2.2.1.length : Int)) <| ck (0 ≤ c.2.2.1) <| ck (c.2.2.1 < ((b1.2.2.2.1.getD b1.2.2.2.2.2.toNat []).length : Int)) <| ck (0 ≤ b1.1) <| ck (b1.1 < 2) <| if (decide (b1.1 = 0)) = true then
  history_states_answer_k2_c fu c b1 (0, ((b1.2.2.2.1.getD b1.2.2.2.2.2.toNat []).getD c.2.2.1.toNat 0), s.1.2)
  else
  history_states_answer_k2_c fu c b1 (1, s.1.1, ((b1.2.2.2.1.getD b1.2.2.2.2.2.toNat []).getD c.2.2.1.toNat 0))

theorem le_history_states_answer_k1 (fu : Nat) (c : Int × Int × Int × Int × Int × Int) (s : (Int × Int) × Int) (b1 : Int × Int × Int × (List (List Int)) × (List (List Int)) × Int) : Lle (history_states_answer_k1_c fu c s b1) (history_states_answer_k1 c s b1) := by
  unfold history_states_answer_k1_c history_states_answer_k1
  repeat' first | with_reducible exact Lle.refl _ | with_reducible exact Lle.none _ | (with_reducible apply le_history_states_answer_k2 <;> intros) | (refine Lle.while fu (fun s => ?_) _) | (refine Lle.bind ?_ (fun x => ?_)) | (refine Lle.ck (fun _ => ?_)) | (refine Lle.ite ?_ ?_) | split | assumption

noncomputable def history_states_answer_c (fu : Nat) (specs : List (Int × Int × (List (List Int)) × (List (List Int)))) (c : Int × Int × Int × Int × Int × Int) (s : (Int × Int) × Int) : Option (Int × Int × Int) :=
  ck (0 ≤ c.2.1) <| ck (c.2.1 < (specs.length : Int)) <| ck (0 ≤ c.2.1) <| ck (c.2.1 < 2) <| if (decide (c.2.1 = 0)) = true then
  history_states_answer_k1_c fu c s (0, (specs.getD 0 (0, 0, [], [])).1, (specs.getD 0 (0, 0, [], [])).2.1, (specs.getD 0 (0, 0, [], [])).2.2.1, (specs.getD 0 (0, 0, [], [])).2.2.2, s.1.1)
  else
  history_states_answer_k1_c fu c s (1, (specs.getD 1 (0, 0, [], [])).1, (specs.getD 1 (0, 0, [], [])).2.1, (specs.getD 1 (0, 0, [], [])).2.2.1, (specs.getD 1 (0, 0, [], [])).2.2.2, s.1.2)

theorem le_history_states_answer (fu : Nat) (specs : List (Int × Int × (List (List Int)) × (List (List Int)))) (c : Int × Int × Int × Int × Int × Int) (s : (Int × Int) × Int) : Lle (history_states_answer_c fu specs c s) (history_states_answer specs c s) := by
  unfold history_states_answer_c history_states_answer
  repeat' first | with_reducible exact Lle.refl _ | with_reducible exact Lle.none _ | (with_reducible apply le_history_states_answer_k1 <;> intros) | (refine Lle.while fu (fun s => ?_) _) | (refine Lle.bind ?_ (fun x => ?_)) | (refine Lle.ck (fun _ => ?_)) | (refine Lle.ite ?_ ?_) | split | assumption

noncomputable def history_states_allow_c (fu : Nat) (specs : List (Int × Int × (List (List Int)) × (List (List Int)))) (c : Int × Int × Int × Int × Int × Int) (s : (Int × Int) × Int) : Option (Bool × Int × Int) :=
  (history_states_answer_c fu specs c s).bind fun v0 =>
  if (decide (c.2.2.2.2.2 = 0)) = true then
  some (true, v0.2)
  else
  some ((decide (v0.1 = c.2.2.2.1)), v0.2)

theorem le_history_states_allow (fu : Nat) (specs : List (Int × Int × (List (List Int)) × (List (List Int)))) (c : Int × Int × Int × Int × Int × Int) (s : (Int × Int) × Int) : Lle (history_states_allow_c fu specs c s) (history_states_allow specs c s) := by
  unfold history_states_allow_c history_states_allow
  repeat' first | with_reducible exact Lle.refl _ | with_reducible exact Lle.none _ | (with_reducible apply le_history_states_answer <;> intros) | (refine Lle.while fu (fun s => ?_) _) | (refine Lle.bind ?_ (fun x => ?_)) | (refine Lle.ck (fun _ => ?_)) | (refine Lle.ite ?_ ?_) | split | assumption

noncomputable def history_search_steps_1_b1_c (fu : Nat) (S R : Type) (a1 : List (Int × Int × (List (List Int)) × (List (List Int)))) (a1_2 : List (Int × Int × Int × Int × Int × Int)) (a2 : (Int × Int) × Int) (yl : Int × ((Int × Int) × Int) → S → Option (Step S R)) (st1 : Int × S) : Option (Step (Int × S) (Sum R S)) :=
  if (decide (st1.1 < (a1_2.length : Int))) = true then
  ck (0 ≤ st1.1) <| ck (st1.1 < (a1_2.length : Int)) <| (history_search_ready_c fu a1 a1_2 a2 st1.1).bind fun v0 =>
  if (!v0) = true then
  ck (InK .i64 (st1.1 + 1)) <| some (.next ((st1.1 + 1), st1.2))
  else
  (history_states_allow_c fu a1 (a1_2.getD st1.1.toNat (0, 0, 0, 0, 0, 0)) a2).bind fun v0_2 =>
  if (!v0_2.1) = true then
  ck (InK .i64 (st1.1 + 1)) <| some (.next ((st1.1 + 1), st1.2))
  else
  ck (0 ≤ st1.1) <| (yl (st1.1, v0_2.2, (ior .u64 a2.2 (ishl .u64 1 st1.1))) st1.2).bind fun x => match x with
  | .next s => (ck (InK .i64 (st1.1 + 1)) <| some (.next ((st1.1 + 1), s)))
  | .done e => (some (.done (Sum.inl e)))
  else
  some (.done (Sum.inr st1.2))

theorem le_history_search_steps_1_b1 (fu : Nat) (S : Type) (R : Type) (a1 : List (Int × Int × (List (List Int)) × (List (List Int)))) (a1_2 : List (Int × Int × Int × Int × Int × Int)) (a2 : (Int × Int) × Int) (ylc yl : Int × ((Int × Int) × Int) → S → Option (Step S R)) (st1 : Int × S) (hyl : ∀ y s, Lle (ylc y s) (yl y s)) : Lle (history_search_steps_1_b1_c fu S R a1 a1_2 a2 ylc st1) (history_search_steps_1_b1 S R a1 a1_2 a2 yl st1) := by
  unfold history_search_steps_1_b1_c history_search_steps_1_b1
  repeat' first | with_reducible exact Lle.refl _ | with_reducible exact Lle.none _ | (with_reducible apply le_history_search_ready <;> intros) | (with_reducible apply le_history_states_allow <;> intros) | exact hyl _ _ | (refine Lle.while fu (fun s => ?_) _) | (refine Lle.bind ?_ (fun x => ?_)) | (refine Lle.ck (fun _ => ?_)) | (refine Lle.ite ?_ ?_) | split | assumption

noncomputable def history_search_steps_1_c (fu : Nat) (S R : Type) (a1 : List (Int × Int × (List (List Int)) × (List (List Int)))) (a1_2 : List (Int × Int × Int × Int × Int × Int)) (a2 : (Int × Int) × Int) (yl : Int × ((Int × Int) × Int) → S → Option (Step S R)) (s0 : S) : Option (Sum S R) :=
  (whileN (history_search_steps_1_b1_c fu S R a1 a1_2 a2 yl) fu (0, s0)).bind fun x => match x with
  | .inl r1 => (some (Sum.inr r1))
  | .inr r1_2 => (some (Sum.inl r1_2))

theorem le_history_search_steps_1 (fu : Nat) (S : Type) (R : Type) (a1 : List (Int × Int × (List (List Int)) × (List (List Int)))) (a1_2 : List (Int × Int × Int × Int × Int × Int)) (a2 : (Int × Int) × Int) (ylc yl : Int × ((Int × Int) × Int) → S → Option (Step S R)) (s0 : S) (hyl : ∀ y s, Lle (ylc y s) (yl y s)) : Lle (history_search_steps_1_c fu S R a1 a1_2 a2 ylc s0) (history_search_steps_1 S R a1 a1_2 a2 yl s0) := by
  unfold history_search_steps_1_c history_search_steps_1
  repeat' first | with_reducible exact Lle.refl _ | with_reducible exact Lle.none _ | (with_reducible apply le_history_search_steps_1_b1 <;> intros) | exact hyl _ _ | (refine Lle.while fu (fun s => ?_) _) | (refine Lle.bind ?_ (fun x => ?_)) | (refine Lle.ck (fun _ => ?_)) | (refine Lle.ite ?_ ?_) | split | assumption

noncomputable def history_search_count_k2_c (fu : Nat) (at0 : (Int × Int) × Int) (b2 : (List (((Int × Int) × Int) × Int)) × Int) : Option (Int × (List (((Int × Int) × Int) × Int))) :=
  ck (InK .i64 at0.1.1) <| ck (InK .i64 at0.1.2) <| ck (InK .u64 at0.2) <| some (b2.2, (mput b2.1 at0 b2.2))

theorem le_history_search_count_k2 (fu : Nat) (at0 : (Int × Int) × Int) (b2 : (List (((Int × Int) × Int) × Int)) × Int) : Lle (history_search_count_k2_c fu at0 b2) (history_search_count_k2 at0 b2) := by
  unfold history_search_count_k2_c history_search_count_k2
  repeat' first | with_reducible exact Lle.refl _ | with_reducible exact Lle.none _ | (refine Lle.while fu (fun s => ?_) _) | (refine Lle.bind ?_ (fun x => ?_)) | (refine Lle.ck (fun _ => ?_)) | (refine Lle.ite ?_ ?_) | split | assumption

noncomputable def history_search_count_y1_c (fu : Nat) (slf : (List (Int × Int × (List (List Int)) × (List (List Int)))) → (List (Int × Int × Int × Int × Int × Int)) → ((Int × Int) × Int) → (List (((Int × Int) × Int) × Int)) → Option (Int × (List (((Int × Int) × Int) × Int)))) (s : List (Int × Int × (List (List Int)) × (List (List Int)))) (s_2 : List (Int × Int × Int × Int × Int × Int)) (y1 : Int × ((Int × Int) × Int)) (st1 : (List (((Int × Int) × Int) × Int)) × Int) : Option (Step ((List (((Int × Int) × Int) × Int)) × Int) Empty) :=
  (slf s s_2 y1.2 st1.1).bind fun v0_3 =>
  ck (InK .i64 (st1.2 + v0_3.1)) <| some (.next (v0_3.2, (st1.2 + v0_3.1)))

theorem le_history_search_count_y1 (fu : Nat) (slfc slf : (List (Int × Int × (List (List Int)) × (List (List Int)))) → (List (Int × Int × Int × Int × Int × Int)) → ((Int × Int) × Int) → (List (((Int × Int) × Int) × Int)) → Option (Int × (List (((Int × Int) × Int) × Int)))) (hslf : ∀ (z0 : (List (Int × Int × (List (List Int)) × (List (List Int))))) (z1 : (List (Int × Int × Int × Int × Int × Int))) (z2 : ((Int × Int) × Int)) (z3 : (List (((Int × Int) × Int) × Int))), Lle (slfc z0 z1 z2 z3) (slf z0 z1 z2 z3)) (s : List (Int × Int × (List (List Int)) × (List (List Int)))) (s_2 : List (Int × Int × Int × Int × Int × Int)) (y1 : Int × ((Int × Int) × Int)) (st1 : (List (((Int × Int) × Int) × Int)) × Int) : Lle (history_search_count_y1_c fu slfc s s_2 y1 st1) (history_search_count_y1 slf s s_2 y1 st1) := by
  unfold history_search_count_y1_c history_search_count_y1
  repeat' first | with_reducible exact Lle.refl _ | with_reducible exact Lle.none _ | (apply hslf <;> intros) | (refine Lle.while fu (fun s => ?_) _) | (refine Lle.bind ?_ (fun x => ?_)) | (refine Lle.ck (fun _ => ?_)) | (refine Lle.ite ?_ ?_) | split | assumption

noncomputable def history_search_count_k1_c (fu : Nat) (slf : (List (Int × Int × (List (List Int)) × (List (List Int)))) → (List (Int × Int × Int × Int × Int × Int)) → ((Int × Int) × Int) → (List (((Int × Int) × Int) × Int)) → Option (Int × (List (((Int × Int) × Int) × Int)))) (s : List (Int × Int × (List (List Int)) × (List (List Int)))) (s_2 : List (Int × Int × Int × Int × Int × Int)) (at0 : (Int × Int) × Int) (s_3 : List (((Int × Int) × Int) × Int)) (b1 : Int) : Option (Int × (List (((Int × Int) × Int) × Int))) :=
  (history_search_steps_c fu s s_2 at0).bind fun v0_2 =>
  (history_search_steps_1_c fu ((List (((Int × Int) × Int) × Int)) × Int) Empty s s_2 at0 (history_search_count_y1_c fu slf s s_2) (s_3, b1)).bind fun x => match x with
  | .inl st1_2 => (history_search_count_k2_c fu at0 st1_2)
  | .inr r => r.elim

theorem le_history_search_count_k1 (fu : Nat) (slfc slf : (List (Int × Int × (List (List Int)) × (List (List Int)))) → (List (Int × Int × Int × Int × Int × Int)) → ((Int × Int) × Int) → (List (((Int × Int) × Int) × Int)) → Option (Int × (List (((Int × Int) × Int) × Int)))) (hslf : ∀ (z0 : (List (Int × Int × (List (List Int)) × (List (List Int))))) (z1 : (List (Int × Int × Int × Int × Int × Int))) (z2 : ((Int × Int) × Int)) (z3 : (List (((Int × Int) × Int) × Int))), Lle (slfc z0 z1 z2 z3) (slf z0 z1 z2 z3)) (s : List (Int × Int × (List (List Int)) × (List (List Int)))) (s_2 : List (Int × Int × Int × Int × Int × Int)) (at0 : (Int × Int) × Int) (s_3 : List (((Int × Int) × Int) × Int)) (b1 : Int) : Lle (history_search_count_k1_c fu slfc s s_2 at0 s_3 b1) (history_search_count_k1 slf s s_2 at0 s_3 b1) := by
  unfold history_search_count_k1_c history_search_count_k1
  repeat' first | with_reducible exact Lle.refl _ | with_reducible exact Lle.none _ | (with_reducible apply le_history_search_steps <;> intros) | (with_reducible apply le_history_search_steps_1 <;> intros) | (with_reducible apply le_history_search_count_y1 <;> intros) | (with_reducible apply le_history_search_count_k2 <;> intros) | (apply hslf <;> intros) | (refine Lle.while fu (fun s => ?_) _) | (refine Lle.bind ?_ (fun x => ?_)) | (refine Lle.ck (fun _ => ?_)) | (refine Lle.ite ?_ ?_) | split | assumption

noncomputable def history_search_countF_c (fu : Nat) (slf : (List (Int × Int × (List (List Int)) × (List (List Int)))) → (List (Int × Int × Int × Int × Int × Int)) → ((Int × Int) × Int) → (List (((Int × Int) × Int) × Int)) → Option (Int × (List (((Int × Int) × Int) × Int)))) (s : List (Int × Int × (List (List Int)) × (List (List Int)))) (s_2 : List (Int × Int × Int × Int × Int × Int)) (at0 : (Int × Int) × Int) (s_3 : List (((Int × Int) × Int) × Int)) : Option (Int × (List (((Int × Int) × Int) × Int))) :=
  ck (InK .i64 at0.1.1) <| ck (InK .i64 at0.1.2) <| ck (InK .u64 at0.2) <| if (mhas s_3 at0) = true then
  some ((mget 0 s_3 at0), s_3)
  else
  (history_search_full_c fu s s_2 at0).bind fun v0 =>
  if v0 = true then
  history_search_count_k1_c fu slf s s_2 at0 s_3 1
  else
  history_search_count_k1_c fu slf s s_2 at0 s_3 0

theorem le_history_search_countF (fu : Nat) (slfc slf : (List (Int × Int × (List (List Int)) × (List (List Int)))) → (List (Int × Int × Int × Int × Int × Int)) → ((Int × Int) × Int) → (List (((Int × Int) × Int) × Int)) → Option (Int × (List (((Int × Int) × Int) × Int)))) (hslf : ∀ (z0 : (List (Int × Int × (List (List Int)) × (List (List Int))))) (z1 : (List (Int × Int × Int × Int × Int × Int))) (z2 : ((Int × Int) × Int)) (z3 : (List (((Int × Int) × Int) × Int))), Lle (slfc z0 z1 z2 z3) (slf z0 z1 z2 z3)) (s : List (Int × Int × (List (List Int)) × (List (List Int)))) (s_2 : List (Int × Int × Int × Int × Int × Int)) (at0 : (Int × Int) × Int) (s_3 : List (((Int × Int) × Int) × Int)) : Lle (history_search_countF_c fu slfc s s_2 at0 s_3) (history_search_countF slf s s_2 at0 s_3) := by
  unfold history_search_countF_c history_search_countF
  repeat' first | with_reducible exact Lle.refl _ | with_reducible exact Lle.none _ | (with_reducible apply le_history_search_full <;> intros) | (with_reducible apply le_history_search_count_k1 <;> intros) | (apply hslf <;> intros) | (refine Lle.while fu (fun s => ?_) _) | (refine Lle.bind ?_ (fun x => ?_)) | (refine Lle.ck (fun _ => ?_)) | (refine Lle.ite ?_ ?_) | split | assumption

noncomputable def history_search_count_c (fu : Nat) (n : Nat) : (List (Int × Int × (List (List Int)) × (List (List Int)))) → (List (Int × Int × Int × Int × Int × Int)) → ((Int × Int) × Int) → (List (((Int × Int) × Int) × Int)) → Option (Int × (List (((Int × Int) × Int) × Int))) := Nat.rec (motive := fun _ => (List (Int × Int × (List (List Int)) × (List (List Int)))) → (List (Int × Int × Int × Int × Int × Int)) → ((Int × Int) × Int) → (List (((Int × Int) × Int) × Int)) → Option (Int × (List (((Int × Int) × Int) × Int)))) (fun _ _ _ _ => none) (fun _ slf => history_search_countF_c fu slf) n

theorem le_history_search_count (fu : Nat) : ∀ (n : Nat) (s : List (Int × Int × (List (List Int)) × (List (List Int)))) (s_2 : List (Int × Int × Int × Int × Int × Int)) (at0 : (Int × Int) × Int) (s_3 : List (((Int × Int) × Int) × Int)), Lle (history_search_count_c fu n s s_2 at0 s_3) (history_search_count n s s_2 at0 s_3)
  | 0, _, _, _, _ => Lle.none _
  | n + 1, s, s_2, at0, s_3 => le_history_search_countF fu (history_search_count_c fu n) (history_search_count n) (le_history_search_count fu n) s s_2 at0 s_3

noncomputable def history_search_first_k1_c (fu : Nat) (b1 : (List Int) × (List (((Int × Int) × Int) × Int))) : Option ((List Int) × Bool × (List (((Int × Int) × Int) × Int))) :=
  some (b1.1, true, b1.2)

theorem le_history_search_first_k1 (fu : Nat) (b1 : (List Int) × (List (((Int × Int) × Int) × Int))) : Lle (history_search_first_k1_c fu b1) (history_search_first_k1 b1) := by
  unfold history_search_first_k1_c history_search_first_k1
  repeat' first | with_reducible exact Lle.refl _ | with_reducible exact Lle.none _ | (refine Lle.while fu (fun s => ?_) _) | (refine Lle.bind ?_ (fun x => ?_)) | (refine Lle.ck (fun _ => ?_)) | (refine Lle.ite ?_ ?_) | split | assumption

noncomputable def history_search_first_y2_c (fu : Nat) (s : List (Int × Int × (List (List Int)) × (List (List Int)))) (s_2 : List (Int × Int × Int × Int × Int × Int)) (st1 : (List (((Int × Int) × Int) × Int)) × Int × Int × Int × (List Int)) (y2 : Int × ((Int × Int) × Int)) (st2 : (List (((Int × Int) × Int) × Int))) : Option (Step ((List (((Int × Int) × Int) × Int))) ((List (((Int × Int) × Int) × Int)) × Int × Int × Int × (List Int))) :=
  (history_search_count_c fu fuel s s_2 y2.2 st2).bind fun v0_4 =>
  if (decide (0 < v0_4.1)) = true then
  ck ((st1.2.2.2.2.length + 1) * 8 ≤ 140737488355328) <| some (.done (v0_4.2, y2.2.1.1, y2.2.1.2, y2.2.2, (st1.2.2.2.2 ++ [y2.1])))
  else
  some (.next v0_4.2)

theorem le_history_search_first_y2 (fu : Nat) (s : List (Int × Int × (List (List Int)) × (List (List Int)))) (s_2 : List (Int × Int × Int × Int × Int × Int)) (st1 : (List (((Int × Int) × Int) × Int)) × Int × Int × Int × (List Int)) (y2 : Int × ((Int × Int) × Int)) (st2 : (List (((Int × Int) × Int) × Int))) : Lle (history_search_first_y2_c fu s s_2 st1 y2 st2) (history_search_first_y2 s s_2 st1 y2 st2) := by
  unfold history_search_first_y2_c history_search_first_y2
  repeat' first | with_reducible exact Lle.refl _ | with_reducible exact Lle.none _ | (with_reducible apply le_history_search_count <;> intros) | (refine Lle.while fu (fun s => ?_) _) | (refine Lle.bind ?_ (fun x => ?_)) | (refine Lle.ck (fun _ => ?_)) | (refine Lle.ite ?_ ?_) | split | assumption

noncomputable def history_search_first_b1_c (fu : Nat) (s : List (Int × Int × (List (List Int)) × (List (List Int)))) (s_2 : List (Int × Int × Int × Int × Int × Int)) (st1 : (List (((Int × Int) × Int) × Int)) × Int × Int × Int × (List Int)) : Option (Step ((List (((Int × Int) × Int) × Int)) × Int × Int × Int × (List Int)) ((List Int) × (List (((Int × Int) × Int) × Int)))) :=
  (history_search_full_c fu s s_2 ((st1.2.1, st1.2.2.1), st1.2.2.2.1)).bind fun v0_2 =>
  if (!v0_2) = true then
  (history_search_steps_c fu s s_2 ((st1.2.1, st1.2.2.1), st1.2.2.2.1)).bind fun v0_3 =>
  (history_search_steps_1_c fu ((List (((Int × Int) × Int) × Int))) ((List (((Int × Int) × Int) × Int)) × Int × Int × Int × (List Int)) s s_2 ((st1.2.1, st1.2.2.1), st1.2.2.2.1) (history_search_first_y2_c fu s s_2 st1) st1.1).bind fun x => match x with
  | .inl st2_2 => (some (.next (st2_2, st1.2)))
  | .inr r2 => (some (.next r2))
  else
  some (.done (st1.2.2.2.2, st1.1))

theorem le_history_search_first_b1 (fu : Nat) (s : List (Int × Int × (List (List Int)) × (List (List Int)))) (s_2 : List (Int × Int × Int × Int × Int × Int)) (st1 : (List (((Int × Int) × Int) × Int)) × Int × Int × Int × (List Int)) : Lle (history_search_first_b1_c fu s s_2 st1) (history_search_first_b1 s s_2 st1) := by
  unfold history_search_first_b1_c history_search_first_b1
  repeat' first | with_reducible exact Lle.refl _ | with_reducible exact Lle.none _ | (with_reducible apply le_history_search_full <;> intros) | (with_reducible apply le_history_search_steps <;> intros) | (with_reducible apply le_history_search_steps_1 <;> intros) | (with_reducible apply le_history_search_first_y2 <;> intros) | (refine Lle.while fu (fun s => ?_) _) | (refine Lle.bind ?_ (fun x => ?_)) | (refine Lle.ck (fun _ => ?_)) | (refine Lle.ite ?_ ?_) | split | assumption

noncomputable def history_search_first_c (fu : Nat) (s : List (Int × Int × (List (List Int)) × (List (List Int)))) (s_2 : List (Int × Int × Int × Int × Int × Int)) (s_3 : List (((Int × Int) × Int) × Int)) : Option ((List Int) × Bool × (List (((Int × Int) × Int) × Int))) :=
  (history_search_count_c fu fuel s s_2 ((0, 0), 0) s_3).bind fun v0 =>
  if (decide (v0.1 = 0)) = true then
  some ([], false, v0.2)
  else
  (whileN (history_search_first_b1_c fu s s_2) fu (v0.2, 0, 0, 0, [])).bind fun r1 =>
  history_search_first_k1_c fu r1

theorem le_history_search_first (fu : Nat) (s : List (Int × Int × (List (List Int)) × (List (List Int)))) (s_2 : List (Int × Int × Int × Int × Int × Int)) (s_3 : List (((Int × Int) × Int) × Int)) : Lle (history_search_first_c fu s s_2 s_3) (history_search_first s s_2 s_3) := by
  unfold history_search_first_c history_search_first
  repeat' first | with_reducible exact Lle.refl _ | with_reducible exact Lle.none _ | (with_reducible apply le_history_search_count <;> intros) | (with_reducible apply le_history_search_first_b1 <;> intros) | (with_reducible apply le_history_search_first_k1 <;> intros) | (refine Lle.while fu (fun s => ?_) _) | (refine Lle.bind ?_ (fun x => ?_)) | (refine Lle.ck (fun _ => ?_)) | (refine Lle.ite ?_ ?_) | split | assumption

noncomputable def history_Order_c (fu : Nat) (specs : List (Int × Int × (List (List Int)) × (List (List Int)))) (h0 : List (Int × Int × Int × Int × Int × Int)) : Option ((List Int) × Int) :=
  (history_checkFor_c fu specs h0).bind fun v0 =>
  if (decide (v0 = 0)) = true then
  (history_told_c fu specs h0).bind fun v0_2 =>
  (history_search_first_c fu specs h0 []).bind fun v0_3 =>
  if (!v0_3.2.1) = true then
  some ([], 5)
  else
  some (v0_3.1, 0)
  else
  (history_told_2_c fu v0 specs h0).bind fun v0_4 =>
  some ([], v0)

theorem le_history_Order (fu : Nat) (specs : List (Int × Int × (List (List Int)) × (List (List Int)))) (h0 : List (Int × Int × Int × Int × Int × Int)) : Lle (history_Order_c fu specs h0) (history_Order specs h0) := by
  unfold history_Order_c history_Order
  repeat' first | with_reducible exact Lle.refl _ | with_reducible exact Lle.none _ | (with_reducible apply le_history_checkFor <;> intros) | (with_reducible apply le_history_told <;> intros) | (with_reducible apply le_history_search_first <;> intros) | (with_reducible apply le_history_told_2 <;> intros) | (refine Lle.while fu (fun s => ?_) _) | (refine Lle.bind ?_ (fun x => ?_)) | (refine Lle.ck (fun _ => ?_)) | (refine Lle.ite ?_ ?_) | split | assumption

noncomputable def linealref02_SameInts_k1_c (fu : Nat) : Option Bool :=
  some true

theorem le_linealref02_SameInts_k1 (fu : Nat) : Lle (linealref02_SameInts_k1_c fu ) (linealref02_SameInts_k1 ) := by
  unfold linealref02_SameInts_k1_c linealref02_SameInts_k1
  repeat' first | with_reducible exact Lle.refl _ | with_reducible exact Lle.none _ | (refine Lle.while fu (fun s => ?_) _) | (refine Lle.bind ?_ (fun x => ?_)) | (refine Lle.ck (fun _ => ?_)) | (refine Lle.ite ?_ ?_) | split | assumption

noncomputable def linealref02_SameInts_b1_c (fu : Nat) (a : List Int) (b : List Int) (st1 : Int) : Option (Step Int (Sum Unit Unit)) :=
  if (decide (st1 < (a.length : Int))) = true then
  ck (0 ≤ st1) <| ck (st1 < (a.length : Int)) <| ck (0 ≤ st1) <| ck (st1 < (b.length : Int)) <| if (!(decide ((a.getD st1.toNat 0) = (b.getD st1.toNat 0)))) = true then
  some (.done (Sum.inl ()))
  else
  ck (InK .i64 (st1 + 1)) <| some (.next (st1 + 1))
  else
  some (.done (Sum.inr ()))

theorem le_linealref02_SameInts_b1 (fu : Nat) (a : List Int) (b : List Int) (st1 : Int) : Lle (linealref02_SameInts_b1_c fu a b st1) (linealref02_SameInts_b1 a b st1) := by
  unfold linealref02_SameInts_b1_c linealref02_SameInts_b1
  repeat' first | with_reducible exact Lle.refl _ | with_reducible exact Lle.none _ | (refine Lle.while fu (fun s => ?_) _) | (refine Lle.bind ?_ (fun x => ?_)) | (refine Lle.ck (fun _ => ?_)) | (refine Lle.ite ?_ ?_) | split | assumption

noncomputable def linealref02_SameInts_c (fu : Nat) (a : List Int) (b : List Int) : Option Bool :=
  if (!(decide ((a.length : Int) = (b.length : Int)))) = true then
  some false
  else
  (whileN (linealref02_SameInts_b1_c fu a b) fu 0).bind fun x => match x with
  | .inl _ => (some false)
  | .inr _ => (linealref02_SameInts_k1_c fu)

theorem le_linealref02_SameInts (fu : Nat) (a : List Int) (b : List Int) : Lle (linealref02_SameInts_c fu a b) (linealref02_SameInts a b) := by
  unfold linealref02_SameInts_c linealref02_SameInts
  repeat' first | with_reducible exact Lle.refl _ | with_reducible exact Lle.none _ | (with_reducible apply le_linealref02_SameInts_b1 <;> intros) | (with_reducible apply le_linealref02_SameInts_k1 <;> intros) | (refine Lle.while fu (fun s => ?_) _) | (refine Lle.bind ?_ (fun x => ?_)) | (refine Lle.ck (fun _ => ?_)) | (refine Lle.ite ?_ ?_) | split | assumption

noncomputable def lineallaw02_Sane_c (fu : Nat) : Option Bool :=
  (history_Order_c fu [(2, 2, [[1, 0], [1, 0]], [[1, 0], [0, 1]])] [(0, 0, 0, 1, 1, 6), (1, 0, 1, 0, 2, 5)]).bind fun v0 =>
  if (decide (v0.2 = 0)) = true then
  (linealref02_SameInts_c fu v0.1 [1, 0]).bind fun v0_2 =>
  some v0_2
  else
  some false

theorem le_lineallaw02_Sane (fu : Nat) : Lle (lineallaw02_Sane_c fu ) (lineallaw02_Sane ) := by
  unfold lineallaw02_Sane_c lineallaw02_Sane
  repeat' first | with_reducible exact Lle.refl _ | with_reducible exact Lle.none _ | (with_reducible apply le_history_Order <;> intros) | (with_reducible apply le_linealref02_SameInts <;> intros) | (refine Lle.while fu (fun s => ?_) _) | (refine Lle.bind ?_ (fun x => ?_)) | (refine Lle.ck (fun _ => ?_)) | (refine Lle.ite ?_ ?_) | split | assumption

theorem lineallaw02_Sane_run : lineallaw02_Sane = some (true) := le_lineallaw02_Sane 40 _ (by decide +kernel)

end Go.Proofs.Ytlfpagicagmjgaa
