/-
  Made by wip/tool/twin.py: twins of pure functions that run a number of rounds, and what is reckoned by them.
-/
import Derived.Test.YteclokkdgmacpaaGrp
namespace Go.Proofs.Yteclokkdgmacpaa
open Go.RowKit

set_option linter.unusedSimpArgs false
set_option linter.unusedVariables false
set_option linter.constructorNameAsVariable false

/-- What the one answers the other one answers. -/
def Lle {α : Type} (a b : Option α) : Prop := ∀ r, a = some r → b = some r
theorem Lle.refl {α : Type} (a : Option α) : Lle a a := fun _ h => h
theorem Lle.none {α : Type} (a : Option α) : Lle Option.none a := fun _ h => by cases h
theorem Lle.bind {α β : Type} {a b : Option α} {f g : α → Option β} (h : Lle a b) (k : ∀ x, Lle (f x) (g x)) : Lle (a.bind f) (b.bind g) := fun r hr => by
  obtain ⟨x, h1, h2⟩ := Option.bind_eq_some_iff.1 hr
  exact Option.bind_eq_some_iff.2 ⟨x, h x h1, k x r h2⟩
theorem Lle.ck {α : Type} {c : Prop} [Decidable c] {a b : Option α} (h : c → Lle a b) : Lle (ck c a) (ck c b) := fun r hr => by
  obtain ⟨hc, h1⟩ := ck_some.1 hr
  exact ck_some.2 ⟨hc, h hc r h1⟩
theorem Lle.ite {α : Type} {c : Bool} {a b a' b' : Option α} (h : Lle a a') (k : Lle b b') : Lle (if c = true then a else b) (if c = true then a' else b') := by
  split
  · exact h
  · exact k
theorem Lle.while {S R : Type} {f g : S → Option (Step S R)} (fu : Nat) (h : ∀ s, Lle (f s) (g s)) (s : S) : Lle (whileN f fu s) (whileO g s) := fun r hr => by
  have : ∀ (n : Nat) (s : S) (r : R), whileN f n s = some r → whileN g n s = some r := by
    intro n
    induction n with
    | zero => intro s r h; cases h
    | succ n ih =>
      intro s r hr
      unfold whileN at hr ⊢
      cases hf : f s with
      | none => rw [hf] at hr; cases hr
      | some x =>
        rw [hf] at hr
        rw [h s x hf]
        cases x with
        | next s' => exact ih s' r hr
        | done r' => exact hr
  exact whileO_of (this fu s r hr)

noncomputable def progress_isBelow_c (fu : Nat) (number : Int) (end0 : Int) : Option Bool :=
  if (decide (0 ≤ number)) = true then
  some (decide (number < end0))
  else
  some false

theorem le_progress_isBelow (fu : Nat) (number : Int) (end0 : Int) : Lle (progress_isBelow_c fu number end0) (progress_isBelow number end0) := by
  unfold progress_isBelow_c progress_isBelow
  repeat' first | with_reducible exact Lle.refl _ | with_reducible exact Lle.none _ | (refine Lle.while fu (fun s => ?_) _) | (refine Lle.bind ?_ (fun x => ?_)) | (refine Lle.ck (fun _ => ?_)) | (refine Lle.ite ?_ ?_) | split | assumption

noncomputable def progress_isThread_c (fu : Nat) (thread : Int) : Option Bool :=
  (progress_isBelow_c fu thread 3).bind fun v0 =>
  some v0

theorem le_progress_isThread (fu : Nat) (thread : Int) : Lle (progress_isThread_c fu thread) (progress_isThread thread) := by
  unfold progress_isThread_c progress_isThread
  repeat' first | with_reducible exact Lle.refl _ | with_reducible exact Lle.none _ | (with_reducible apply le_progress_isBelow <;> intros) | (refine Lle.while fu (fun s => ?_) _) | (refine Lle.bind ?_ (fun x => ?_)) | (refine Lle.ck (fun _ => ?_)) | (refine Lle.ite ?_ ?_) | split | assumption

noncomputable def slices_Index_k1_c (fu : Nat) : Option Int :=
  some (-1)

theorem le_slices_Index_k1 (fu : Nat) : Lle (slices_Index_k1_c fu ) (slices_Index_k1 ) := by
  unfold slices_Index_k1_c slices_Index_k1
  repeat' first | with_reducible exact Lle.refl _ | with_reducible exact Lle.none _ | (refine Lle.while fu (fun s => ?_) _) | (refine Lle.bind ?_ (fun x => ?_)) | (refine Lle.ck (fun _ => ?_)) | (refine Lle.ite ?_ ?_) | split | assumption

noncomputable def slices_Index_b1_c (fu : Nat) (s : List (Int × Int × Int × Bool)) (v0 : Int × Int × Int × Bool) (st1 : Int) : Option (Step Int (Sum Int Unit)) :=
  if (decide (st1 < (s.length : Int))) = true then
  ck (0 ≤ st1) <| ck (st1 < (s.length : Int)) <| ck (InK .i64 v0.1) <| ck (InK .i64 v0.2.1) <| ck (InK .i64 v0.2.2.1) <| ck (InK .i64 (s.getD st1.toNat (0, 0, 0, false)).1) <| ck (InK .i64 (s.getD st1.toNat (0, 0, 0, false)).2.1) <| ck (InK .i64 (s.getD st1.toNat (0, 0, 0, false)).2.2.1) <| if (decide (v0 = (s.getD st1.toNat (0, 0, 0, false)))) = true then
  some (.done (Sum.inl st1))
  else
  ck (InK .i64 (st1 + 1)) <| some (.next (st1 + 1))
  else
  some (.done (Sum.inr ()))

theorem le_slices_Index_b1 (fu : Nat) (s : List (Int × Int × Int × Bool)) (v0 : Int × Int × Int × Bool) (st1 : Int) : Lle (slices_Index_b1_c fu s v0 st1) (slices_Index_b1 s v0 st1) := by
  unfold slices_Index_b1_c slices_Index_b1
  repeat' first | with_reducible exact Lle.refl _ | with_reducible exact Lle.none _ | (refine Lle.while fu (fun s => ?_) _) | (refine Lle.bind ?_ (fun x => ?_)) | (refine Lle.ck (fun _ => ?_)) | (refine Lle.ite ?_ ?_) | split | assumption

noncomputable def slices_Index_c (fu : Nat) (s : List (Int × Int × Int × Bool)) (v0 : Int × Int × Int × Bool) : Option Int :=
  (whileN (slices_Index_b1_c fu s v0) fu 0).bind fun x => match x with
  | .inl r1 => (some r1)
  | .inr _ => (slices_Index_k1_c fu)

theorem le_slices_Index (fu : Nat) (s : List (Int × Int × Int × Bool)) (v0 : Int × Int × Int × Bool) : Lle (slices_Index_c fu s v0) (slices_Index s v0) := by
  unfold slices_Index_c slices_Index
  repeat' first | with_reducible exact Lle.refl _ | with_reducible exact Lle.none _ | (with_reducible apply le_slices_Index_b1 <;> intros) | (with_reducible apply le_slices_Index_k1 <;> intros) | (refine Lle.while fu (fun s => ?_) _) | (refine Lle.bind ?_ (fun x => ?_)) | (refine Lle.ck (fun _ => ?_)) | (refine Lle.ite ?_ ?_) | split | assumption

noncomputable def slices_Contains_c (fu : Nat) (s : List (Int × Int × Int × Bool)) (v0 : Int × Int × Int × Bool) : Option Bool :=
  (slices_Index_c fu s v0).bind fun v0_2 =>
  some (decide (0 ≤ v0_2))

theorem le_slices_Contains (fu : Nat) (s : List (Int × Int × Int × Bool)) (v0 : Int × Int × Int × Bool) : Lle (slices_Contains_c fu s v0) (slices_Contains s v0) := by
  unfold slices_Contains_c slices_Contains
  repeat' first | with_reducible exact Lle.refl _ | with_reducible exact Lle.none _ | (with_reducible apply le_slices_Index <;> intros) | (refine Lle.while fu (fun s => ?_) _) | (refine Lle.bind ?_ (fun x => ?_)) | (refine Lle.ck (fun _ => ?_)) | (refine Lle.ite ?_ ?_) | split | assumption

noncomputable def progress_Valid_k1_c (fu : Nat) : Option Bool :=
  some true

theorem le_progress_Valid_k1 (fu : Nat) : Lle (progress_Valid_k1_c fu ) (progress_Valid_k1 ) := by
  unfold progress_Valid_k1_c progress_Valid_k1
  repeat' first | with_reducible exact Lle.refl _ | with_reducible exact Lle.none _ | (refine Lle.while fu (fun s => ?_) _) | (refine Lle.bind ?_ (fun x => ?_)) | (refine Lle.ck (fun _ => ?_)) | (refine Lle.ite ?_ ?_) | split | assumption

noncomputable def progress_Valid_b1_c (fu : Nat) (g : Int × (List (Int × Int × Int × Bool))) (st1 : Int) : Option (Step Int (Sum Unit Unit)) :=
  if (decide (st1 < (g.2.length : Int))) = true then
  ck (0 ≤ st1) <| ck (st1 < (g.2.length : Int)) <| (progress_isBelow_c fu (g.2.getD st1.toNat (0, 0, 0, false)).1 g.1).bind fun v0 =>
  if (!v0) = true then
  some (.done (Sum.inl ()))
  else
  (progress_isBelow_c fu (g.2.getD st1.toNat (0, 0, 0, false)).2.2.1 g.1).bind fun v0_2 =>
  if (!v0_2) = true then
  some (.done (Sum.inl ()))
  else
  (progress_isThread_c fu (g.2.getD st1.toNat (0, 0, 0, false)).2.1).bind fun v0_3 =>
  if (!v0_3) = true then
  some (.done (Sum.inl ()))
  else
  ck (0 ≤ st1) <| ck (st1 ≤ (g.2.length : Int)) <| (slices_Contains_c fu (g.2.take st1.toNat) (g.2.getD st1.toNat (0, 0, 0, false))).bind fun v0_4 =>
  if v0_4 = true then
  some (.done (Sum.inl ()))
  else
  ck (InK .i64 (st1 + 1)) <| some (.next (st1 + 1))
  else
  some (.done (Sum.inr ()))

theorem le_progress_Valid_b1 (fu : Nat) (g : Int × (List (Int × Int × Int × Bool))) (st1 : Int) : Lle (progress_Valid_b1_c fu g st1) (progress_Valid_b1 g st1) := by
  unfold progress_Valid_b1_c progress_Valid_b1
  repeat' first | with_reducible exact Lle.refl _ | with_reducible exact Lle.none _ | (with_reducible apply le_progress_isBelow <;> intros) | (with_reducible apply le_progress_isThread <;> intros) | (with_reducible apply le_slices_Contains <;> intros) | (refine Lle.while fu (fun s => ?_) _) | (refine Lle.bind ?_ (fun x => ?_)) | (refine Lle.ck (fun _ => ?_)) | (refine Lle.ite ?_ ?_) | split | assumption

noncomputable def progress_Valid_c (fu : Nat) (g : Int × (List (Int × Int × Int × Bool))) : Option Bool :=
  if (decide (g.1 < 1)) = true then
  some false
  else
  if (decide (8 < g.1)) = true then
  some false
  else
  if (decide (20 < (g.2.length : Int))) = true then
  some false
  else
  (whileN (progress_Valid_b1_c fu g) fu 0).bind fun x => match x with
  | .inl _ => (some false)
  | .inr _ => (progress_Valid_k1_c fu)

theorem le_progress_Valid (fu : Nat) (g : Int × (List (Int × Int × Int × Bool))) : Lle (progress_Valid_c fu g) (progress_Valid g) := by
  unfold progress_Valid_c progress_Valid
  repeat' first | with_reducible exact Lle.refl _ | with_reducible exact Lle.none _ | (with_reducible apply le_progress_Valid_b1 <;> intros) | (with_reducible apply le_progress_Valid_k1 <;> intros) | (refine Lle.while fu (fun s => ?_) _) | (refine Lle.bind ?_ (fun x => ?_)) | (refine Lle.ck (fun _ => ?_)) | (refine Lle.ite ?_ ?_) | split | assumption

noncomputable def progress_graphOf_c (fu : Nat) (g : Int × (List (Int × Int × Int × Bool))) : Option (Int × (List (Int × Int × Int × Bool)) × Int) :=
  (progress_Valid_c fu g).bind fun v0 =>
  if (!v0) = true then
  some (0, [], 70)
  else
  some (g.1, g.2, 0)

theorem le_progress_graphOf (fu : Nat) (g : Int × (List (Int × Int × Int × Bool))) : Lle (progress_graphOf_c fu g) (progress_graphOf g) := by
  unfold progress_graphOf_c progress_graphOf
  repeat' first | with_reducible exact Lle.refl _ | with_reducible exact Lle.none _ | (with_reducible apply le_progress_Valid <;> intros) | (refine Lle.while fu (fun s => ?_) _) | (refine Lle.bind ?_ (fun x => ?_)) | (refine Lle.ck (fun _ => ?_)) | (refine Lle.ite ?_ ?_) | split | assumption

noncomputable def progress_statementOf_k1_c (fu : Nat) (claim : Int) (v0 : Int × (List (Int × Int × Int × Bool)) × Int) : Option (Sum Int (Sum (Int × (List (Int × Int × Int × Bool))) (Sum (Int × (List (Int × Int × Int × Bool))) (Int × (List (Int × Int × Int × Bool)))))) :=
  if (decide (claim = 0)) = true then
  some (Sum.inr (Sum.inl (v0.1, v0.2.1)))
  else
  if (decide (claim = 1)) = true then
  some (Sum.inr (Sum.inr (Sum.inl (v0.1, v0.2.1))))
  else
  some (Sum.inr (Sum.inr (Sum.inr (v0.1, v0.2.1))))

theorem le_progress_statementOf_k1 (fu : Nat) (claim : Int) (v0 : Int × (List (Int × Int × Int × Bool)) × Int) : Lle (progress_statementOf_k1_c fu claim v0) (progress_statementOf_k1 claim v0) := by
  unfold progress_statementOf_k1_c progress_statementOf_k1
  repeat' first | with_reducible exact Lle.refl _ | with_reducible exact Lle.none _ | (refine Lle.while fu (fun s => ?_) _) | (refine Lle.bind ?_ (fun x => ?_)) | (refine Lle.ck (fun _ => ?_)) | (refine Lle.ite ?_ ?_) | split | assumption

noncomputable def progress_statementOf_c (fu : Nat) (g : Int × (List (Int × Int × Int × Bool))) (claim : Int) (thread : Int) : Option (Sum Int (Sum (Int × (List (Int × Int × Int × Bool))) (Sum (Int × (List (Int × Int × Int × Bool))) (Int × (List (Int × Int × Int × Bool)))))) :=
  (progress_graphOf_c fu g).bind fun v0 =>
  if (!(decide (v0.2.2 = 0))) = true then
  some (Sum.inl v0.2.2)
  else
  (progress_isBelow_c fu claim 3).bind fun v0_2 =>
  if (!v0_2) = true then
  some (Sum.inl 2)
  else
  (progress_isThread_c fu thread).bind fun v0_3 =>
  if (!v0_3) = true then
  some (Sum.inl 2)
  else
  if (decide (claim = 0)) = true then
  if (!(decide (thread = 0))) = true then
  some (Sum.inl 2)
  else
  progress_statementOf_k1_c fu claim v0
  else
  progress_statementOf_k1_c fu claim v0

theorem le_progress_statementOf (fu : Nat) (g : Int × (List (Int × Int × Int × Bool))) (claim : Int) (thread : Int) : Lle (progress_statementOf_c fu g claim thread) (progress_statementOf g claim thread) := by
  unfold progress_statementOf_c progress_statementOf
  repeat' first | with_reducible exact Lle.refl _ | with_reducible exact Lle.none _ | (with_reducible apply le_progress_graphOf <;> intros) | (with_reducible apply le_progress_isBelow <;> intros) | (with_reducible apply le_progress_isThread <;> intros) | (with_reducible apply le_progress_statementOf_k1 <;> intros) | (refine Lle.while fu (fun s => ?_) _) | (refine Lle.bind ?_ (fun x => ?_)) | (refine Lle.ck (fun _ => ?_)) | (refine Lle.ite ?_ ?_) | split | assumption

noncomputable def progress_graph_paths_c (fu : Nat) (g : Int × (List (Int × Int × Int × Bool))) (from0 : Int) : Option Unit :=
  some ()

theorem le_progress_graph_paths (fu : Nat) (g : Int × (List (Int × Int × Int × Bool))) (from0 : Int) : Lle (progress_graph_paths_c fu g from0) (progress_graph_paths g from0) := by
  unfold progress_graph_paths_c progress_graph_paths
  repeat' first | with_reducible exact Lle.refl _ | with_reducible exact Lle.none _ | (refine Lle.while fu (fun s => ?_) _) | (refine Lle.bind ?_ (fun x => ?_)) | (refine Lle.ck (fun _ => ?_)) | (refine Lle.ite ?_ ?_) | split | assumption

noncomputable def progress_anyMove_c (fu : Nat) (a0 : Int × Int × Int × Bool) : Option Unit :=
  some ()

theorem le_progress_anyMove (fu : Nat) (a0 : Int × Int × Int × Bool) : Lle (progress_anyMove_c fu a0) (progress_anyMove a0) := by
  unfold progress_anyMove_c progress_anyMove
  repeat' first | with_reducible exact Lle.refl _ | with_reducible exact Lle.none _ | (refine Lle.while fu (fun s => ?_) _) | (refine Lle.bind ?_ (fun x => ?_)) | (refine Lle.ck (fun _ => ?_)) | (refine Lle.ite ?_ ?_) | split | assumption

noncomputable def slices_Index_2_k1_c (fu : Nat) : Option Int :=
  some (-1)

theorem le_slices_Index_2_k1 (fu : Nat) : Lle (slices_Index_2_k1_c fu ) (slices_Index_2_k1 ) := by
  unfold slices_Index_2_k1_c slices_Index_2_k1
  repeat' first | with_reducible exact Lle.refl _ | with_reducible exact Lle.none _ | (refine Lle.while fu (fun s => ?_) _) | (refine Lle.bind ?_ (fun x => ?_)) | (refine Lle.ck (fun _ => ?_)) | (refine Lle.ite ?_ ?_) | split | assumption

noncomputable def slices_Index_2_b1_c (fu : Nat) (s : List Int) (v0 : Int) (st1 : Int) : Option (Step Int (Sum Int Unit)) :=
  if (decide (st1 < (s.length : Int))) = true then
  ck (0 ≤ st1) <| ck (st1 < (s.length : Int)) <| if (decide (v0 = (s.getD st1.toNat 0))) = true then
  some (.done (Sum.inl st1))
  else
  ck (InK .i64 (st1 + 1)) <| some (.next (st1 + 1))
  else
  some (.done (Sum.inr ()))

theorem le_slices_Index_2_b1 (fu : Nat) (s : List Int) (v0 : Int) (st1 : Int) : Lle (slices_Index_2_b1_c fu s v0 st1) (slices_Index_2_b1 s v0 st1) := by
  unfold slices_Index_2_b1_c slices_Index_2_b1
  repeat' first | with_reducible exact Lle.refl _ | with_reducible exact Lle.none _ | (refine Lle.while fu (fun s => ?_) _) | (refine Lle.bind ?_ (fun x => ?_)) | (refine Lle.ck (fun _ => ?_)) | (refine Lle.ite ?_ ?_) | split | assumption

noncomputable def slices_Index_2_c (fu : Nat) (s : List Int) (v0 : Int) : Option Int :=
  (whileN (slices_Index_2_b1_c fu s v0) fu 0).bind fun x => match x with
  | .inl r1 => (some r1)
  | .inr _ => (slices_Index_2_k1_c fu)

theorem le_slices_Index_2 (fu : Nat) (s : List Int) (v0 : Int) : Lle (slices_Index_2_c fu s v0) (slices_Index_2 s v0) := by
  unfold slices_Index_2_c slices_Index_2
  repeat' first | with_reducible exact Lle.refl _ | with_reducible exact Lle.none _ | (with_reducible apply le_slices_Index_2_b1 <;> intros) | (with_reducible apply le_slices_Index_2_k1 <;> intros) | (refine Lle.while fu (fun s => ?_) _) | (refine Lle.bind ?_ (fun x => ?_)) | (refine Lle.ck (fun _ => ?_)) | (refine Lle.ite ?_ ?_) | split | assumption

noncomputable def slices_Contains_2_c (fu : Nat) (s : List Int) (v0 : Int) : Option Bool :=
  (slices_Index_2_c fu s v0).bind fun v0_2 =>
  some (decide (0 ≤ v0_2))

theorem le_slices_Contains_2 (fu : Nat) (s : List Int) (v0 : Int) : Lle (slices_Contains_2_c fu s v0) (slices_Contains_2 s v0) := by
  unfold slices_Contains_2_c slices_Contains_2
  repeat' first | with_reducible exact Lle.refl _ | with_reducible exact Lle.none _ | (with_reducible apply le_slices_Index_2 <;> intros) | (refine Lle.while fu (fun s => ?_) _) | (refine Lle.bind ?_ (fun x => ?_)) | (refine Lle.ck (fun _ => ?_)) | (refine Lle.ite ?_ ?_) | split | assumption

noncomputable def slices_Grow_c (fu : Nat) (n : Int) : Option Unit :=
  if (decide (n < 0)) = true then
  none
  else
  ck (InK .i64 (0 - 0)) <| ck (InK .i64 (n - (0 - 0))) <| if (decide (0 < (n - (0 - 0)))) = true then
  ck (0 < (n - (0 - 0))) <| ck ((n - (0 - 0)) ≤ 9223372036854775806) <| ck (8 * (n - (0 - 0)) ≤ 281474976710656) <| ck (0 ≤ 0) <| ck (0 ≤ ((List.replicate (n - (0 - 0)).toNat (0 : Int)).length : Int)) <| some ()
  else
  some ()

theorem le_slices_Grow (fu : Nat) (n : Int) : Lle (slices_Grow_c fu n) (slices_Grow n) := by
  unfold slices_Grow_c slices_Grow
  repeat' first | with_reducible exact Lle.refl _ | with_reducible exact Lle.none _ | (refine Lle.while fu (fun s => ?_) _) | (refine Lle.bind ?_ (fun x => ?_)) | (refine Lle.ck (fun _ => ?_)) | (refine Lle.ite ?_ ?_) | split | assumption

noncomputable def slices_Concat_k2_c (fu : Nat) (b2 : (List Int)) : Option ((List Int)) :=
  some b2

theorem le_slices_Concat_k2 (fu : Nat) (b2 : (List Int)) : Lle (slices_Concat_k2_c fu b2) (slices_Concat_k2 b2) := by
  unfold slices_Concat_k2_c slices_Concat_k2
  repeat' first | with_reducible exact Lle.refl _ | with_reducible exact Lle.none _ | (refine Lle.while fu (fun s => ?_) _) | (refine Lle.bind ?_ (fun x => ?_)) | (refine Lle.ck (fun _ => ?_)) | (refine Lle.ite ?_ ?_) | split | assumption

noncomputable def slices_Concat_b2_c (fu : Nat) (slices : List (List Int)) (st2 : (List Int) × Int) : Option (Step ((List Int) × Int) ((List Int))) :=
  if (decide (st2.2 < (slices.length : Int))) = true then
  ck (0 ≤ st2.2) <| ck (st2.2 < (slices.length : Int)) <| ck ((st2.1.length + (slices.getD st2.2.toNat []).length) * 8 ≤ 140737488355328) <| ck (InK .i64 (st2.2 + 1)) <| some (.next ((st2.1 ++ (slices.getD st2.2.toNat [])), (st2.2 + 1)))
  else
  some (.done st2.1)

theorem le_slices_Concat_b2 (fu : Nat) (slices : List (List Int)) (st2 : (List Int) × Int) : Lle (slices_Concat_b2_c fu slices st2) (slices_Concat_b2 slices st2) := by
  unfold slices_Concat_b2_c slices_Concat_b2
  repeat' first | with_reducible exact Lle.refl _ | with_reducible exact Lle.none _ | (refine Lle.while fu (fun s => ?_) _) | (refine Lle.bind ?_ (fun x => ?_)) | (refine Lle.ck (fun _ => ?_)) | (refine Lle.ite ?_ ?_) | split | assumption

noncomputable def slices_Concat_k1_c (fu : Nat) (slices : List (List Int)) (b1 : Int) : Option ((List Int)) :=
  (slices_Grow_c fu b1).bind fun v0 =>
  (whileN (slices_Concat_b2_c fu slices) fu ([], 0)).bind fun r2 =>
  slices_Concat_k2_c fu r2

theorem le_slices_Concat_k1 (fu : Nat) (slices : List (List Int)) (b1 : Int) : Lle (slices_Concat_k1_c fu slices b1) (slices_Concat_k1 slices b1) := by
  unfold slices_Concat_k1_c slices_Concat_k1
  repeat' first | with_reducible exact Lle.refl _ | with_reducible exact Lle.none _ | (with_reducible apply le_slices_Grow <;> intros) | (with_reducible apply le_slices_Concat_b2 <;> intros) | (with_reducible apply le_slices_Concat_k2 <;> intros) | (refine Lle.while fu (fun s => ?_) _) | (refine Lle.bind ?_ (fun x => ?_)) | (refine Lle.ck (fun _ => ?_)) | (refine Lle.ite ?_ ?_) | split | assumption

noncomputable def slices_Concat_b1_c (fu : Nat) (slices : List (List Int)) (st1 : Int × Int) : Option (Step (Int × Int) Int) :=
  if (decide (st1.2 < (slices.length : Int))) = true then
  ck (0 ≤ st1.2) <| ck (st1.2 < (slices.length : Int)) <| ck (InK .i64 (st1.1 + ((slices.getD st1.2.toNat []).length : Int))) <| if (decide ((st1.1 + ((slices.getD st1.2.toNat []).length : Int)) < 0)) = true then
  none
  else
  ck (InK .i64 (st1.2 + 1)) <| some (.next ((st1.1 + ((slices.getD st1.2.toNat []).length : Int)), (st1.2 + 1)))
  else
  some (.done st1.1)

theorem le_slices_Concat_b1 (fu : Nat) (slices : List (List Int)) (st1 : Int × Int) : Lle (slices_Concat_b1_c fu slices st1) (slices_Concat_b1 slices st1) := by
  unfold slices_Concat_b1_c slices_Concat_b1
  repeat' first | with_reducible exact Lle.refl _ | with_reducible exact Lle.none _ | (refine Lle.while fu (fun s => ?_) _) | (refine Lle.bind ?_ (fun x => ?_)) | (refine Lle.ck (fun _ => ?_)) | (refine Lle.ite ?_ ?_) | split | assumption

noncomputable def slices_Concat_c (fu : Nat) (slices : List (List Int)) : Option ((List Int)) :=
  (whileN (slices_Concat_b1_c fu slices) fu (0, 0)).bind fun r1 =>
  slices_Concat_k1_c fu slices r1

theorem le_slices_Concat (fu : Nat) (slices : List (List Int)) : Lle (slices_Concat_c fu slices) (slices_Concat slices) := by
  unfold slices_Concat_c slices_Concat
  repeat' first | with_reducible exact Lle.refl _ | with_reducible exact Lle.none _ | (with_reducible apply le_slices_Concat_b1 <;> intros) | (with_reducible apply le_slices_Concat_k1 <;> intros) | (refine Lle.while fu (fun s => ?_) _) | (refine Lle.bind ?_ (fun x => ?_)) | (refine Lle.ck (fun _ => ?_)) | (refine Lle.ite ?_ ?_) | split | assumption

noncomputable def progress_graph_paths_1_k1_c (fu : Nat) (S R : Type) (st1 : (List Int) × (List (List Int)) × Int × S) (b1 : (List Int) × (List (List Int)) × S) : Option (Step ((List Int) × (List (List Int)) × Int × S) (Sum R S)) :=
  ck (InK .i64 (st1.2.2.1 + 1)) <| some (.next (b1.1, b1.2.1, (st1.2.2.1 + 1), b1.2.2))

theorem le_progress_graph_paths_1_k1 (fu : Nat) (S : Type) (R : Type) (st1 : (List Int) × (List (List Int)) × Int × S) (b1 : (List Int) × (List (List Int)) × S) : Lle (progress_graph_paths_1_k1_c fu S R st1 b1) (progress_graph_paths_1_k1 S R st1 b1) := by
  unfold progress_graph_paths_1_k1_c progress_graph_paths_1_k1
  repeat' first | with_reducible exact Lle.refl _ | with_reducible exact Lle.none _ | (refine Lle.while fu (fun s => ?_) _) | (refine Lle.bind ?_ (fun x => ?_)) | (refine Lle.ck (fun _ => ?_)) | (refine Lle.ite ?_ ?_) | split | assumption

noncomputable def progress_graph_paths_1_b2_c (fu : Nat) (S R : Type) (a2 : Int × (List (Int × Int × Int × Bool))) (st1 : (List Int) × (List (List Int)) × Int × S) (st2 : (List Int) × (List (List Int)) × Int) : Option (Step ((List Int) × (List (List Int)) × Int) ((List Int) × (List (List Int)))) :=
  if (decide (st2.2.2 < (a2.2.length : Int))) = true then
  ck (0 ≤ st2.2.2) <| ck (st2.2.2 < (a2.2.length : Int)) <| ck (0 ≤ st1.2.2.1) <| ck (st1.2.2.1 < (st2.1.length : Int)) <| if (decide ((a2.2.getD st2.2.2.toNat (0, 0, 0, false)).1 = (st2.1.getD st1.2.2.1.toNat 0))) = true then
  (progress_anyMove_c fu (a2.2.getD st2.2.2.toNat (0, 0, 0, false))).bind fun v0 =>
  (slices_Contains_2_c fu st2.1 (a2.2.getD st2.2.2.toNat (0, 0, 0, false)).2.2.1).bind fun v0_2 =>
  if (!v0_2) = true then
  ck ((st2.1.length + 1) * 8 ≤ 140737488355328) <| ck (0 ≤ st1.2.2.1) <| ck (st1.2.2.1 < (st2.2.1.length : Int)) <| (slices_Concat_c fu [(st2.2.1.getD st1.2.2.1.toNat []), [st2.2.2]]).bind fun v0_3 =>
  ck ((st2.2.1.length + 1) * 24 ≤ 140737488355328) <| ck (InK .i64 (st2.2.2 + 1)) <| some (.next ((st2.1 ++ [(a2.2.getD st2.2.2.toNat (0, 0, 0, false)).2.2.1]), (st2.2.1 ++ [v0_3]), (st2.2.2 + 1)))
  else
  ck (InK .i64 (st2.2.2 + 1)) <| some (.next (st2.1, st2.2.1, (st2.2.2 + 1)))
  else
  ck (InK .i64 (st2.2.2 + 1)) <| some (.next (st2.1, st2.2.1, (st2.2.2 + 1)))
  else
  some (.done (st2.1, st2.2.1))

theorem le_progress_graph_paths_1_b2 (fu : Nat) (S : Type) (R : Type) (a2 : Int × (List (Int × Int × Int × Bool))) (st1 : (List Int) × (List (List Int)) × Int × S) (st2 : (List Int) × (List (List Int)) × Int) : Lle (progress_graph_paths_1_b2_c fu S R a2 st1 st2) (progress_graph_paths_1_b2 S R a2 st1 st2) := by
  unfold progress_graph_paths_1_b2_c progress_graph_paths_1_b2
  repeat' first | with_reducible exact Lle.refl _ | with_reducible exact Lle.none _ | (with_reducible apply le_progress_anyMove <;> intros) | (with_reducible apply le_slices_Contains_2 <;> intros) | (with_reducible apply le_slices_Concat <;> intros) | (refine Lle.while fu (fun s => ?_) _) | (refine Lle.bind ?_ (fun x => ?_)) | (refine Lle.ck (fun _ => ?_)) | (refine Lle.ite ?_ ?_) | split | assumption

noncomputable def progress_graph_paths_1_b1_c (fu : Nat) (S R : Type) (a2 : Int × (List (Int × Int × Int × Bool))) (yl : Int × (List Int) → S → Option (Step S R)) (st1 : (List Int) × (List (List Int)) × Int × S) : Option (Step ((List Int) × (List (List Int)) × Int × S) (Sum R S)) :=
  if (decide (st1.2.2.1 < (st1.1.length : Int))) = true then
  ck (0 ≤ st1.2.2.1) <| ck (st1.2.2.1 < (st1.1.length : Int)) <| ck (0 ≤ st1.2.2.1) <| ck (st1.2.2.1 < (st1.2.1.length : Int)) <| (yl ((st1.1.getD st1.2.2.1.toNat 0), (st1.2.1.getD st1.2.2.1.toNat [])) st1.2.2.2).bind fun x => match x with
  | .next s => ((whileN (progress_graph_paths_1_b2_c fu S R a2 st1) fu (st1.1, st1.2.1, 0)).bind fun r2 =>
  progress_graph_paths_1_k1_c fu S R st1 (r2.1, r2.2, s))
  | .done e => (some (.done (Sum.inl e)))
  else
  some (.done (Sum.inr st1.2.2.2))

theorem le_progress_graph_paths_1_b1 (fu : Nat) (S : Type) (R : Type) (a2 : Int × (List (Int × Int × Int × Bool))) (ylc yl : Int × (List Int) → S → Option (Step S R)) (st1 : (List Int) × (List (List Int)) × Int × S) (hyl : ∀ y s, Lle (ylc y s) (yl y s)) : Lle (progress_graph_paths_1_b1_c fu S R a2 ylc st1) (progress_graph_paths_1_b1 S R a2 yl st1) := by
  unfold progress_graph_paths_1_b1_c progress_graph_paths_1_b1
  repeat' first | with_reducible exact Lle.refl _ | with_reducible exact Lle.none _ | (with_reducible apply le_progress_graph_paths_1_b2 <;> intros) | (with_reducible apply le_progress_graph_paths_1_k1 <;> intros) | exact hyl _ _ | (refine Lle.while fu (fun s => ?_) _) | (refine Lle.bind ?_ (fun x => ?_)) | (refine Lle.ck (fun _ => ?_)) | (refine Lle.ite ?_ ?_) | split | assumption

noncomputable def progress_graph_paths_1_c (fu : Nat) (S R : Type) (a1 : Int) (a2 : Int × (List (Int × Int × Int × Bool))) (yl : Int × (List Int) → S → Option (Step S R)) (s0 : S) : Option (Sum S R) :=
  (whileN (progress_graph_paths_1_b1_c fu S R a2 yl) fu ([a1], [[]], 0, s0)).bind fun x => match x with
  | .inl r1 => (some (Sum.inr r1))
  | .inr r1_2 => (some (Sum.inl r1_2))

theorem le_progress_graph_paths_1 (fu : Nat) (S : Type) (R : Type) (a1 : Int) (a2 : Int × (List (Int × Int × Int × Bool))) (ylc yl : Int × (List Int) → S → Option (Step S R)) (s0 : S) (hyl : ∀ y s, Lle (ylc y s) (yl y s)) : Lle (progress_graph_paths_1_c fu S R a1 a2 ylc s0) (progress_graph_paths_1 S R a1 a2 yl s0) := by
  unfold progress_graph_paths_1_c progress_graph_paths_1
  repeat' first | with_reducible exact Lle.refl _ | with_reducible exact Lle.none _ | (with_reducible apply le_progress_graph_paths_1_b1 <;> intros) | exact hyl _ _ | (refine Lle.while fu (fun s => ?_) _) | (refine Lle.bind ?_ (fun x => ?_)) | (refine Lle.ck (fun _ => ?_)) | (refine Lle.ite ?_ ?_) | split | assumption

noncomputable def cmp_isNaN_c (fu : Nat) (x0 : Int) : Option Unit :=
  some ()

theorem le_cmp_isNaN (fu : Nat) (x0 : Int) : Lle (cmp_isNaN_c fu x0) (cmp_isNaN x0) := by
  unfold cmp_isNaN_c cmp_isNaN
  repeat' first | with_reducible exact Lle.refl _ | with_reducible exact Lle.none _ | (refine Lle.while fu (fun s => ?_) _) | (refine Lle.bind ?_ (fun x => ?_)) | (refine Lle.ck (fun _ => ?_)) | (refine Lle.ite ?_ ?_) | split | assumption

noncomputable def cmp_Less_c (fu : Nat) (x0 : Int) (y : Int) : Option Unit :=
  (cmp_isNaN_c fu x0).bind fun v0 =>
  some ()

theorem le_cmp_Less (fu : Nat) (x0 : Int) (y : Int) : Lle (cmp_Less_c fu x0 y) (cmp_Less x0 y) := by
  unfold cmp_Less_c cmp_Less
  repeat' first | with_reducible exact Lle.refl _ | with_reducible exact Lle.none _ | (with_reducible apply le_cmp_isNaN <;> intros) | (refine Lle.while fu (fun s => ?_) _) | (refine Lle.bind ?_ (fun x => ?_)) | (refine Lle.ck (fun _ => ?_)) | (refine Lle.ite ?_ ?_) | split | assumption

noncomputable def slices_insertionSortOrdered_k1_c (fu : Nat) (st1 : (List Int) × Int) (b1 : (List Int)) : Option (Step ((List Int) × Int) ((List Int))) :=
  ck (InK .i64 (st1.2 + 1)) <| some (.next (b1, (st1.2 + 1)))

theorem le_slices_insertionSortOrdered_k1 (fu : Nat) (st1 : (List Int) × Int) (b1 : (List Int)) : Lle (slices_insertionSortOrdered_k1_c fu st1 b1) (slices_insertionSortOrdered_k1 st1 b1) := by
  unfold slices_insertionSortOrdered_k1_c slices_insertionSortOrdered_k1
  repeat' first | with_reducible exact Lle.refl _ | with_reducible exact Lle.none _ | (refine Lle.while fu (fun s => ?_) _) | (refine Lle.bind ?_ (fun x => ?_)) | (refine Lle.ck (fun _ => ?_)) | (refine Lle.ite ?_ ?_) | split | assumption

noncomputable def slices_insertionSortOrdered_b2_c (fu : Nat) (a : Int) (st2 : (List Int) × Int) : Option (Step ((List Int) × Int) ((List Int))) :=
  if (decide (a < st2.2)) = true then
  ck (0 ≤ st2.2) <| ck (st2.2 < (st2.1.length : Int)) <| ck (InK .i64 (st2.2 - 1)) <| ck (0 ≤ (st2.2 - 1)) <| ck ((st2.2 - 1) < (st2.1.length : Int)) <| (cmp_Less_c fu (st2.1.getD st2.2.toNat 0) (st2.1.getD (st2.2 - 1).toNat 0)).bind fun v0 =>
  if (decide ((st2.1.getD st2.2.toNat 0) < (st2.1.getD (st2.2 - 1).toNat 0))) = true then
  ck (InK .i64 (st2.2 - 1)) <| ck (InK .i64 (st2.2 - 1)) <| ck (0 ≤ (st2.2 - 1)) <| ck ((st2.2 - 1) < (st2.1.length : Int)) <| ck (0 ≤ st2.2) <| ck (st2.2 < (st2.1.length : Int)) <| ck (0 ≤ st2.2) <| ck (st2.2 < (st2.1.length : Int)) <| ck (0 ≤ (st2.2 - 1)) <| ck ((st2.2 - 1) < ((st2.1.set st2.2.toNat (st2.1.getD (st2.2 - 1).toNat 0)).length : Int)) <| ck (InK .i64 (st2.2 - 1)) <| some (.next (((st2.1.set st2.2.toNat (st2.1.getD (st2.2 - 1).toNat 0)).set (st2.2 - 1).toNat (st2.1.getD st2.2.toNat 0)), (st2.2 - 1)))
  else
  some (.done st2.1)
  else
  some (.done st2.1)

theorem le_slices_insertionSortOrdered_b2 (fu : Nat) (a : Int) (st2 : (List Int) × Int) : Lle (slices_insertionSortOrdered_b2_c fu a st2) (slices_insertionSortOrdered_b2 a st2) := by
  unfold slices_insertionSortOrdered_b2_c slices_insertionSortOrdered_b2
  repeat' first | with_reducible exact Lle.refl _ | with_reducible exact Lle.none _ | (with_reducible apply le_cmp_Less <;> intros) | (refine Lle.while fu (fun s => ?_) _) | (refine Lle.bind ?_ (fun x => ?_)) | (refine Lle.ck (fun _ => ?_)) | (refine Lle.ite ?_ ?_) | split | assumption

noncomputable def slices_insertionSortOrdered_b1_c (fu : Nat) (a : Int) (b : Int) (st1 : (List Int) × Int) : Option (Step ((List Int) × Int) ((List Int))) :=
  if (decide (st1.2 < b)) = true then
  (whileN (slices_insertionSortOrdered_b2_c fu a) fu st1).bind fun r2 =>
  slices_insertionSortOrdered_k1_c fu st1 r2
  else
  some (.done st1.1)

theorem le_slices_insertionSortOrdered_b1 (fu : Nat) (a : Int) (b : Int) (st1 : (List Int) × Int) : Lle (slices_insertionSortOrdered_b1_c fu a b st1) (slices_insertionSortOrdered_b1 a b st1) := by
  unfold slices_insertionSortOrdered_b1_c slices_insertionSortOrdered_b1
  repeat' first | with_reducible exact Lle.refl _ | with_reducible exact Lle.none _ | (with_reducible apply le_slices_insertionSortOrdered_b2 <;> intros) | (with_reducible apply le_slices_insertionSortOrdered_k1 <;> intros) | (refine Lle.while fu (fun s => ?_) _) | (refine Lle.bind ?_ (fun x => ?_)) | (refine Lle.ck (fun _ => ?_)) | (refine Lle.ite ?_ ?_) | split | assumption

noncomputable def slices_insertionSortOrdered_c (fu : Nat) (a : Int) (b : Int) (data : List Int) : Option ((List Int)) :=
  ck (InK .i64 (a + 1)) <| (whileN (slices_insertionSortOrdered_b1_c fu a b) fu (data, (a + 1))).bind fun r1 =>
  some r1

theorem le_slices_insertionSortOrdered (fu : Nat) (a : Int) (b : Int) (data : List Int) : Lle (slices_insertionSortOrdered_c fu a b data) (slices_insertionSortOrdered a b data) := by
  unfold slices_insertionSortOrdered_c slices_insertionSortOrdered
  repeat' first | with_reducible exact Lle.refl _ | with_reducible exact Lle.none _ | (with_reducible apply le_slices_insertionSortOrdered_b1 <;> intros) | (refine Lle.while fu (fun s => ?_) _) | (refine Lle.bind ?_ (fun x => ?_)) | (refine Lle.ck (fun _ => ?_)) | (refine Lle.ite ?_ ?_) | split | assumption

noncomputable def slices_pdqsortOrdered_b1_c (fu : Nat) (a : Int) (b : Int) (limit : Int) (data : List Int) (st1 : Unit) : Option (Step Unit ((List Int))) :=
  ck (InK .i64 (b - a)) <| if (decide ((b - a) ≤ 12)) = true then
  (slices_insertionSortOrdered_c fu a b data).bind fun v0 =>
  some (.done v0)
  else
  if (decide (limit = 0)) = true then
  none
  else
  none

theorem le_slices_pdqsortOrdered_b1 (fu : Nat) (a : Int) (b : Int) (limit : Int) (data : List Int) (st1 : Unit) : Lle (slices_pdqsortOrdered_b1_c fu a b limit data st1) (slices_pdqsortOrdered_b1 a b limit data st1) := by
  unfold slices_pdqsortOrdered_b1_c slices_pdqsortOrdered_b1
  repeat' first | with_reducible exact Lle.refl _ | with_reducible exact Lle.none _ | (with_reducible apply le_slices_insertionSortOrdered <;> intros) | (refine Lle.while fu (fun s => ?_) _) | (refine Lle.bind ?_ (fun x => ?_)) | (refine Lle.ck (fun _ => ?_)) | (refine Lle.ite ?_ ?_) | split | assumption

noncomputable def slices_pdqsortOrdered_c (fu : Nat) (a : Int) (b : Int) (limit : Int) (data : List Int) : Option ((List Int)) :=
  (whileN (slices_pdqsortOrdered_b1_c fu a b limit data) fu ()).bind fun r1 =>
  some r1

theorem le_slices_pdqsortOrdered (fu : Nat) (a : Int) (b : Int) (limit : Int) (data : List Int) : Lle (slices_pdqsortOrdered_c fu a b limit data) (slices_pdqsortOrdered a b limit data) := by
  unfold slices_pdqsortOrdered_c slices_pdqsortOrdered
  repeat' first | with_reducible exact Lle.refl _ | with_reducible exact Lle.none _ | (with_reducible apply le_slices_pdqsortOrdered_b1 <;> intros) | (refine Lle.while fu (fun s => ?_) _) | (refine Lle.bind ?_ (fun x => ?_)) | (refine Lle.ck (fun _ => ?_)) | (refine Lle.ite ?_ ?_) | split | assumption

noncomputable def slices_Sort_c (fu : Nat) (x0 : List Int) : Option ((List Int)) :=
  ck (InK .u64 (x0.length : Int)) <| (math_bits_Len (x0.length : Int)).bind fun v0 =>
  (slices_pdqsortOrdered_c fu 0 (x0.length : Int) v0 x0).bind fun v0_2 =>
  some v0_2

theorem le_slices_Sort (fu : Nat) (x0 : List Int) : Lle (slices_Sort_c fu x0) (slices_Sort x0) := by
  unfold slices_Sort_c slices_Sort
  repeat' first | with_reducible exact Lle.refl _ | with_reducible exact Lle.none _ | (with_reducible apply le_slices_pdqsortOrdered <;> intros) | (refine Lle.while fu (fun s => ?_) _) | (refine Lle.bind ?_ (fun x => ?_)) | (refine Lle.ck (fun _ => ?_)) | (refine Lle.ite ?_ ?_) | split | assumption

noncomputable def progress_graph_reached_k1_c (fu : Nat) (b1 : (List Int)) : Option ((List Int)) :=
  (slices_Sort_c fu b1).bind fun v0_2 =>
  some v0_2

theorem le_progress_graph_reached_k1 (fu : Nat) (b1 : (List Int)) : Lle (progress_graph_reached_k1_c fu b1) (progress_graph_reached_k1 b1) := by
  unfold progress_graph_reached_k1_c progress_graph_reached_k1
  repeat' first | with_reducible exact Lle.refl _ | with_reducible exact Lle.none _ | (with_reducible apply le_slices_Sort <;> intros) | (refine Lle.while fu (fun s => ?_) _) | (refine Lle.bind ?_ (fun x => ?_)) | (refine Lle.ck (fun _ => ?_)) | (refine Lle.ite ?_ ?_) | split | assumption

noncomputable def progress_graph_reached_y1_c (fu : Nat) (y1 : Int × (List Int)) (st1 : (List Int)) : Option (Step ((List Int)) Empty) :=
  ck ((st1.length + 1) * 8 ≤ 140737488355328) <| some (.next (st1 ++ [y1.1]))

theorem le_progress_graph_reached_y1 (fu : Nat) (y1 : Int × (List Int)) (st1 : (List Int)) : Lle (progress_graph_reached_y1_c fu y1 st1) (progress_graph_reached_y1 y1 st1) := by
  unfold progress_graph_reached_y1_c progress_graph_reached_y1
  repeat' first | with_reducible exact Lle.refl _ | with_reducible exact Lle.none _ | (refine Lle.while fu (fun s => ?_) _) | (refine Lle.bind ?_ (fun x => ?_)) | (refine Lle.ck (fun _ => ?_)) | (refine Lle.ite ?_ ?_) | split | assumption

noncomputable def progress_graph_reached_c (fu : Nat) (g : Int × (List (Int × Int × Int × Bool))) : Option ((List Int)) :=
  (progress_graph_paths_c fu g 0).bind fun v0 =>
  (progress_graph_paths_1_c fu ((List Int)) Empty 0 g (progress_graph_reached_y1_c fu) []).bind fun x => match x with
  | .inl st1_2 => (progress_graph_reached_k1_c fu st1_2)
  | .inr r => r.elim

theorem le_progress_graph_reached (fu : Nat) (g : Int × (List (Int × Int × Int × Bool))) : Lle (progress_graph_reached_c fu g) (progress_graph_reached g) := by
  unfold progress_graph_reached_c progress_graph_reached
  repeat' first | with_reducible exact Lle.refl _ | with_reducible exact Lle.none _ | (with_reducible apply le_progress_graph_paths <;> intros) | (with_reducible apply le_progress_graph_paths_1 <;> intros) | (with_reducible apply le_progress_graph_reached_y1 <;> intros) | (with_reducible apply le_progress_graph_reached_k1 <;> intros) | (refine Lle.while fu (fun s => ?_) _) | (refine Lle.bind ?_ (fun x => ?_)) | (refine Lle.ck (fun _ => ?_)) | (refine Lle.ite ?_ ?_) | split | assumption

noncomputable def progress_statementOf_1_c (fu : Nat) (m : Int × Int × Int × Bool) : Option Unit :=
  some ()

theorem le_progress_statementOf_1 (fu : Nat) (m : Int × Int × Int × Bool) : Lle (progress_statementOf_1_c fu m) (progress_statementOf_1 m) := by
  unfold progress_statementOf_1_c progress_statementOf_1
  repeat' first | with_reducible exact Lle.refl _ | with_reducible exact Lle.none _ | (refine Lle.while fu (fun s => ?_) _) | (refine Lle.bind ?_ (fun x => ?_)) | (refine Lle.ck (fun _ => ?_)) | (refine Lle.ite ?_ ?_) | split | assumption

noncomputable def progress_statement_least_c (fu : Nat) (s : Int) (s_2 : List (Int × Int × Int × Bool)) (m : Int × Int × Int × Bool) (ranks : List Int) : Option Int :=
  (progress_statementOf_1_c fu m).bind fun v0 =>
  if (!m.2.2.2) = true then
  ck (0 ≤ m.2.2.1) <| ck (m.2.2.1 < (ranks.length : Int)) <| ck (InK .i64 ((ranks.getD m.2.2.1.toNat 0) + 1)) <| some ((ranks.getD m.2.2.1.toNat 0) + 1)
  else
  (progress_statementOf_1_c fu m).bind fun v0_2 =>
  if (!m.2.2.2) = true then
  ck (0 ≤ m.2.2.1) <| ck (m.2.2.1 < (ranks.length : Int)) <| some (ranks.getD m.2.2.1.toNat 0)
  else
  some 0

theorem le_progress_statement_least (fu : Nat) (s : Int) (s_2 : List (Int × Int × Int × Bool)) (m : Int × Int × Int × Bool) (ranks : List Int) : Lle (progress_statement_least_c fu s s_2 m ranks) (progress_statement_least s s_2 m ranks) := by
  unfold progress_statement_least_c progress_statement_least
  repeat' first | with_reducible exact Lle.refl _ | with_reducible exact Lle.none _ | (with_reducible apply le_progress_statementOf_1 <;> intros) | (refine Lle.while fu (fun s => ?_) _) | (refine Lle.bind ?_ (fun x => ?_)) | (refine Lle.ck (fun _ => ?_)) | (refine Lle.ite ?_ ?_) | split | assumption

noncomputable def progress_statement_broken_1_c (fu : Nat) (m : Int × Int × Int × Bool) (a2 : List Int) (a3 : Int) (a3_2 : List (Int × Int × Int × Bool)) (a1 : List Int) : Option Bool :=
  (slices_Contains_2_c fu a1 m.1).bind fun v0 =>
  if v0 = true then
  ck (0 ≤ m.1) <| ck (m.1 < (a2.length : Int)) <| (progress_statement_least_c fu a3 a3_2 m a2).bind fun v0_2 =>
  some (decide ((a2.getD m.1.toNat 0) < v0_2))
  else
  some false

theorem le_progress_statement_broken_1 (fu : Nat) (m : Int × Int × Int × Bool) (a2 : List Int) (a3 : Int) (a3_2 : List (Int × Int × Int × Bool)) (a1 : List Int) : Lle (progress_statement_broken_1_c fu m a2 a3 a3_2 a1) (progress_statement_broken_1 m a2 a3 a3_2 a1) := by
  unfold progress_statement_broken_1_c progress_statement_broken_1
  repeat' first | with_reducible exact Lle.refl _ | with_reducible exact Lle.none _ | (with_reducible apply le_slices_Contains_2 <;> intros) | (with_reducible apply le_progress_statement_least <;> intros) | (refine Lle.while fu (fun s => ?_) _) | (refine Lle.bind ?_ (fun x => ?_)) | (refine Lle.ck (fun _ => ?_)) | (refine Lle.ite ?_ ?_) | split | assumption

noncomputable def slices_IndexFunc_k1_c (fu : Nat) : Option Int :=
  some (-1)

theorem le_slices_IndexFunc_k1 (fu : Nat) : Lle (slices_IndexFunc_k1_c fu ) (slices_IndexFunc_k1 ) := by
  unfold slices_IndexFunc_k1_c slices_IndexFunc_k1
  repeat' first | with_reducible exact Lle.refl _ | with_reducible exact Lle.none _ | (refine Lle.while fu (fun s => ?_) _) | (refine Lle.bind ?_ (fun x => ?_)) | (refine Lle.ck (fun _ => ?_)) | (refine Lle.ite ?_ ?_) | split | assumption

noncomputable def slices_IndexFunc_b1_c (fu : Nat) (s : List (Int × Int × Int × Bool)) (c1 : List Int) (c2 : Int) (c2_2 : List (Int × Int × Int × Bool)) (c0 : List Int) (st1 : Int) : Option (Step Int (Sum Int Unit)) :=
  if (decide (st1 < (s.length : Int))) = true then
  ck (0 ≤ st1) <| ck (st1 < (s.length : Int)) <| (progress_statement_broken_1_c fu (s.getD st1.toNat (0, 0, 0, false)) c1 c2 c2_2 c0).bind fun v0 =>
  if v0 = true then
  some (.done (Sum.inl st1))
  else
  ck (InK .i64 (st1 + 1)) <| some (.next (st1 + 1))
  else
  some (.done (Sum.inr ()))

theorem le_slices_IndexFunc_b1 (fu : Nat) (s : List (Int × Int × Int × Bool)) (c1 : List Int) (c2 : Int) (c2_2 : List (Int × Int × Int × Bool)) (c0 : List Int) (st1 : Int) : Lle (slices_IndexFunc_b1_c fu s c1 c2 c2_2 c0 st1) (slices_IndexFunc_b1 s c1 c2 c2_2 c0 st1) := by
  unfold slices_IndexFunc_b1_c slices_IndexFunc_b1
  repeat' first | with_reducible exact Lle.refl _ | with_reducible exact Lle.none _ | (with_reducible apply le_progress_statement_broken_1 <;> intros) | (refine Lle.while fu (fun s => ?_) _) | (refine Lle.bind ?_ (fun x => ?_)) | (refine Lle.ck (fun _ => ?_)) | (refine Lle.ite ?_ ?_) | split | assumption

noncomputable def slices_IndexFunc_c (fu : Nat) (s : List (Int × Int × Int × Bool)) (c1 : List Int) (c2 : Int) (c2_2 : List (Int × Int × Int × Bool)) (c0 : List Int) : Option Int :=
  (whileN (slices_IndexFunc_b1_c fu s c1 c2 c2_2 c0) fu 0).bind fun x => match x with
  | .inl r1 => (some r1)
  | .inr _ => (slices_IndexFunc_k1_c fu)

theorem le_slices_IndexFunc (fu : Nat) (s : List (Int × Int × Int × Bool)) (c1 : List Int) (c2 : Int) (c2_2 : List (Int × Int × Int × Bool)) (c0 : List Int) : Lle (slices_IndexFunc_c fu s c1 c2 c2_2 c0) (slices_IndexFunc s c1 c2 c2_2 c0) := by
  unfold slices_IndexFunc_c slices_IndexFunc
  repeat' first | with_reducible exact Lle.refl _ | with_reducible exact Lle.none _ | (with_reducible apply le_slices_IndexFunc_b1 <;> intros) | (with_reducible apply le_slices_IndexFunc_k1 <;> intros) | (refine Lle.while fu (fun s => ?_) _) | (refine Lle.bind ?_ (fun x => ?_)) | (refine Lle.ck (fun _ => ?_)) | (refine Lle.ite ?_ ?_) | split | assumption

noncomputable def progress_statement_broken_c (fu : Nat) (s : Int) (s_2 : List (Int × Int × Int × Bool)) (ranks : List Int) : Option (Int × Int × Int × Bool × Bool) :=
  (progress_graph_reached_c fu (s, s_2)).bind fun v0 =>
  (slices_IndexFunc_c fu s_2 ranks s s_2 v0).bind fun v0_2 =>
  if (decide (v0_2 < 0)) = true then
  some (0, 0, 0, false, false)
  else
  ck (0 ≤ v0_2) <| ck (v0_2 < (s_2.length : Int)) <| some ((s_2.getD v0_2.toNat (0, 0, 0, false)).1, (s_2.getD v0_2.toNat (0, 0, 0, false)).2.1, (s_2.getD v0_2.toNat (0, 0, 0, false)).2.2.1, (s_2.getD v0_2.toNat (0, 0, 0, false)).2.2.2, true)

theorem le_progress_statement_broken (fu : Nat) (s : Int) (s_2 : List (Int × Int × Int × Bool)) (ranks : List Int) : Lle (progress_statement_broken_c fu s s_2 ranks) (progress_statement_broken s s_2 ranks) := by
  unfold progress_statement_broken_c progress_statement_broken
  repeat' first | with_reducible exact Lle.refl _ | with_reducible exact Lle.none _ | (with_reducible apply le_progress_graph_reached <;> intros) | (with_reducible apply le_slices_IndexFunc <;> intros) | (refine Lle.while fu (fun s => ?_) _) | (refine Lle.bind ?_ (fun x => ?_)) | (refine Lle.ck (fun _ => ?_)) | (refine Lle.ite ?_ ?_) | split | assumption

noncomputable def progress_statement_ranks_b1_c (fu : Nat) (s : Int) (s_2 : List (Int × Int × Int × Bool)) (st1 : (List Int)) : Option (Step ((List Int)) ((List Int) × Bool)) :=
  (progress_statement_broken_c fu s s_2 st1).bind fun v0 =>
  if (!v0.2.2.2.2) = true then
  some (.done (st1, true))
  else
  (progress_statement_least_c fu s s_2 (v0.1, v0.2.1, v0.2.2.1, v0.2.2.2.1) st1).bind fun v0_2 =>
  ck (0 ≤ v0.1) <| ck (v0.1 < (st1.length : Int)) <| ck (0 ≤ v0.1) <| ck (v0.1 < ((st1.set v0.1.toNat v0_2).length : Int)) <| if (decide (s ≤ ((st1.set v0.1.toNat v0_2).getD v0.1.toNat 0))) = true then
  some (.done ([], false))
  else
  some (.next (st1.set v0.1.toNat v0_2))

theorem le_progress_statement_ranks_b1 (fu : Nat) (s : Int) (s_2 : List (Int × Int × Int × Bool)) (st1 : (List Int)) : Lle (progress_statement_ranks_b1_c fu s s_2 st1) (progress_statement_ranks_b1 s s_2 st1) := by
  unfold progress_statement_ranks_b1_c progress_statement_ranks_b1
  repeat' first | with_reducible exact Lle.refl _ | with_reducible exact Lle.none _ | (with_reducible apply le_progress_statement_broken <;> intros) | (with_reducible apply le_progress_statement_least <;> intros) | (refine Lle.while fu (fun s => ?_) _) | (refine Lle.bind ?_ (fun x => ?_)) | (refine Lle.ck (fun _ => ?_)) | (refine Lle.ite ?_ ?_) | split | assumption

noncomputable def progress_statement_ranks_c (fu : Nat) (s : Int) (s_2 : List (Int × Int × Int × Bool)) : Option ((List Int) × Bool) :=
  ck (0 ≤ s) <| ck (8 * s ≤ 281474976710656) <| (whileN (progress_statement_ranks_b1_c fu s s_2) fu (List.replicate s.toNat (0 : Int))).bind fun r1 =>
  some r1

theorem le_progress_statement_ranks (fu : Nat) (s : Int) (s_2 : List (Int × Int × Int × Bool)) : Lle (progress_statement_ranks_c fu s s_2) (progress_statement_ranks s s_2) := by
  unfold progress_statement_ranks_c progress_statement_ranks
  repeat' first | with_reducible exact Lle.refl _ | with_reducible exact Lle.none _ | (with_reducible apply le_progress_statement_ranks_b1 <;> intros) | (refine Lle.while fu (fun s => ?_) _) | (refine Lle.bind ?_ (fun x => ?_)) | (refine Lle.ck (fun _ => ?_)) | (refine Lle.ite ?_ ?_) | split | assumption

noncomputable def progress_statementOf_2_c (fu : Nat) (m : Int × Int × Int × Bool) (a1 : Int) : Option Bool :=
  if (decide (m.2.1 = a1)) = true then
  some (!m.2.2.2)
  else
  some false

theorem le_progress_statementOf_2 (fu : Nat) (m : Int × Int × Int × Bool) (a1 : Int) : Lle (progress_statementOf_2_c fu m a1) (progress_statementOf_2 m a1) := by
  unfold progress_statementOf_2_c progress_statementOf_2
  repeat' first | with_reducible exact Lle.refl _ | with_reducible exact Lle.none _ | (refine Lle.while fu (fun s => ?_) _) | (refine Lle.bind ?_ (fun x => ?_)) | (refine Lle.ck (fun _ => ?_)) | (refine Lle.ite ?_ ?_) | split | assumption

noncomputable def progress_statementOf_3_c (fu : Nat) (m : Int × Int × Int × Bool) (a1 : Int) : Option Bool :=
  if (!(decide (m.2.1 = a1))) = true then
  some true
  else
  some (!m.2.2.2)

theorem le_progress_statementOf_3 (fu : Nat) (m : Int × Int × Int × Bool) (a1 : Int) : Lle (progress_statementOf_3_c fu m a1) (progress_statementOf_3 m a1) := by
  unfold progress_statementOf_3_c progress_statementOf_3
  repeat' first | with_reducible exact Lle.refl _ | with_reducible exact Lle.none _ | (refine Lle.while fu (fun s => ?_) _) | (refine Lle.bind ?_ (fun x => ?_)) | (refine Lle.ck (fun _ => ?_)) | (refine Lle.ite ?_ ?_) | split | assumption

noncomputable def progress_statement_least_2_c (fu : Nat) (s : Int) (s_2 : List (Int × Int × Int × Bool)) (c0 : Int) (c0_2 : Int) (m : Int × Int × Int × Bool) (ranks : List Int) : Option Int :=
  (progress_statementOf_2_c fu m c0_2).bind fun v0 =>
  if v0 = true then
  ck (0 ≤ m.2.2.1) <| ck (m.2.2.1 < (ranks.length : Int)) <| ck (InK .i64 ((ranks.getD m.2.2.1.toNat 0) + 1)) <| some ((ranks.getD m.2.2.1.toNat 0) + 1)
  else
  (progress_statementOf_3_c fu m c0).bind fun v0_2 =>
  if v0_2 = true then
  ck (0 ≤ m.2.2.1) <| ck (m.2.2.1 < (ranks.length : Int)) <| some (ranks.getD m.2.2.1.toNat 0)
  else
  some 0

theorem le_progress_statement_least_2 (fu : Nat) (s : Int) (s_2 : List (Int × Int × Int × Bool)) (c0 : Int) (c0_2 : Int) (m : Int × Int × Int × Bool) (ranks : List Int) : Lle (progress_statement_least_2_c fu s s_2 c0 c0_2 m ranks) (progress_statement_least_2 s s_2 c0 c0_2 m ranks) := by
  unfold progress_statement_least_2_c progress_statement_least_2
  repeat' first | with_reducible exact Lle.refl _ | with_reducible exact Lle.none _ | (with_reducible apply le_progress_statementOf_2 <;> intros) | (with_reducible apply le_progress_statementOf_3 <;> intros) | (refine Lle.while fu (fun s => ?_) _) | (refine Lle.bind ?_ (fun x => ?_)) | (refine Lle.ck (fun _ => ?_)) | (refine Lle.ite ?_ ?_) | split | assumption

noncomputable def progress_statement_broken_1_2_c (fu : Nat) (m : Int × Int × Int × Bool) (a2 : List Int) (a3 : Int) (a3_2 : List (Int × Int × Int × Bool)) (c0 : Int) (c0_2 : Int) (a1 : List Int) : Option Bool :=
  (slices_Contains_2_c fu a1 m.1).bind fun v0 =>
  if v0 = true then
  ck (0 ≤ m.1) <| ck (m.1 < (a2.length : Int)) <| (progress_statement_least_2_c fu a3 a3_2 c0 c0_2 m a2).bind fun v0_2 =>
  some (decide ((a2.getD m.1.toNat 0) < v0_2))
  else
  some false

theorem le_progress_statement_broken_1_2 (fu : Nat) (m : Int × Int × Int × Bool) (a2 : List Int) (a3 : Int) (a3_2 : List (Int × Int × Int × Bool)) (c0 : Int) (c0_2 : Int) (a1 : List Int) : Lle (progress_statement_broken_1_2_c fu m a2 a3 a3_2 c0 c0_2 a1) (progress_statement_broken_1_2 m a2 a3 a3_2 c0 c0_2 a1) := by
  unfold progress_statement_broken_1_2_c progress_statement_broken_1_2
  repeat' first | with_reducible exact Lle.refl _ | with_reducible exact Lle.none _ | (with_reducible apply le_slices_Contains_2 <;> intros) | (with_reducible apply le_progress_statement_least_2 <;> intros) | (refine Lle.while fu (fun s => ?_) _) | (refine Lle.bind ?_ (fun x => ?_)) | (refine Lle.ck (fun _ => ?_)) | (refine Lle.ite ?_ ?_) | split | assumption

noncomputable def slices_IndexFunc_2_k1_c (fu : Nat) : Option Int :=
  some (-1)

theorem le_slices_IndexFunc_2_k1 (fu : Nat) : Lle (slices_IndexFunc_2_k1_c fu ) (slices_IndexFunc_2_k1 ) := by
  unfold slices_IndexFunc_2_k1_c slices_IndexFunc_2_k1
  repeat' first | with_reducible exact Lle.refl _ | with_reducible exact Lle.none _ | (refine Lle.while fu (fun s => ?_) _) | (refine Lle.bind ?_ (fun x => ?_)) | (refine Lle.ck (fun _ => ?_)) | (refine Lle.ite ?_ ?_) | split | assumption

noncomputable def slices_IndexFunc_2_b1_c (fu : Nat) (s : List (Int × Int × Int × Bool)) (c1 : List Int) (c2 : Int) (c2_2 : List (Int × Int × Int × Bool)) (c0 : Int) (c0_2 : Int) (c0_3 : List Int) (st1 : Int) : Option (Step Int (Sum Int Unit)) :=
  if (decide (st1 < (s.length : Int))) = true then
  ck (0 ≤ st1) <| ck (st1 < (s.length : Int)) <| (progress_statement_broken_1_2_c fu (s.getD st1.toNat (0, 0, 0, false)) c1 c2 c2_2 c0 c0_2 c0_3).bind fun v0 =>
  if v0 = true then
  some (.done (Sum.inl st1))
  else
  ck (InK .i64 (st1 + 1)) <| some (.next (st1 + 1))
  else
  some (.done (Sum.inr ()))

theorem le_slices_IndexFunc_2_b1 (fu : Nat) (s : List (Int × Int × Int × Bool)) (c1 : List Int) (c2 : Int) (c2_2 : List (Int × Int × Int × Bool)) (c0 : Int) (c0_2 : Int) (c0_3 : List Int) (st1 : Int) : Lle (slices_IndexFunc_2_b1_c fu s c1 c2 c2_2 c0 c0_2 c0_3 st1) (slices_IndexFunc_2_b1 s c1 c2 c2_2 c0 c0_2 c0_3 st1) := by
  unfold slices_IndexFunc_2_b1_c slices_IndexFunc_2_b1
  repeat' first | with_reducible exact Lle.refl _ | with_reducible exact Lle.none _ | (with_reducible apply le_progress_statement_broken_1_2 <;> intros) | (refine Lle.while fu (fun s => ?_) _) | (refine Lle.bind ?_ (fun x => ?_)) | (refine Lle.ck (fun _ => ?_)) | (refine Lle.ite ?_ ?_) | split | assumption

noncomputable def slices_IndexFunc_2_c (fu : Nat) (s : List (Int × Int × Int × Bool)) (c1 : List Int) (c2 : Int) (c2_2 : List (Int × Int × Int × Bool)) (c0 : Int) (c0_2 : Int) (c0_3 : List Int) : Option Int :=
  (whileN (slices_IndexFunc_2_b1_c fu s c1 c2 c2_2 c0 c0_2 c0_3) fu 0).bind fun x => match x with
  | .inl r1 => (some r1)
  | .inr _ => (slices_IndexFunc_2_k1_c fu)

theorem le_slices_IndexFunc_2 (fu : Nat) (s : List (Int × Int × Int × Bool)) (c1 : List Int) (c2 : Int) (c2_2 : List (Int × Int × Int × Bool)) (c0 : Int) (c0_2 : Int) (c0_3 : List Int) : Lle (slices_IndexFunc_2_c fu s c1 c2 c2_2 c0 c0_2 c0_3) (slices_IndexFunc_2 s c1 c2 c2_2 c0 c0_2 c0_3) := by
  unfold slices_IndexFunc_2_c slices_IndexFunc_2
  repeat' first | with_reducible exact Lle.refl _ | with_reducible exact Lle.none _ | (with_reducible apply le_slices_IndexFunc_2_b1 <;> intros) | (with_reducible apply le_slices_IndexFunc_2_k1 <;> intros) | (refine Lle.while fu (fun s => ?_) _) | (refine Lle.bind ?_ (fun x => ?_)) | (refine Lle.ck (fun _ => ?_)) | (refine Lle.ite ?_ ?_) | split | assumption

noncomputable def progress_statement_broken_2_c (fu : Nat) (s : Int) (s_2 : List (Int × Int × Int × Bool)) (c0 : Int) (c0_2 : Int) (ranks : List Int) : Option (Int × Int × Int × Bool × Bool) :=
  (progress_graph_reached_c fu (s, s_2)).bind fun v0 =>
  (slices_IndexFunc_2_c fu s_2 ranks s s_2 c0 c0_2 v0).bind fun v0_2 =>
  if (decide (v0_2 < 0)) = true then
  some (0, 0, 0, false, false)
  else
  ck (0 ≤ v0_2) <| ck (v0_2 < (s_2.length : Int)) <| some ((s_2.getD v0_2.toNat (0, 0, 0, false)).1, (s_2.getD v0_2.toNat (0, 0, 0, false)).2.1, (s_2.getD v0_2.toNat (0, 0, 0, false)).2.2.1, (s_2.getD v0_2.toNat (0, 0, 0, false)).2.2.2, true)

theorem le_progress_statement_broken_2 (fu : Nat) (s : Int) (s_2 : List (Int × Int × Int × Bool)) (c0 : Int) (c0_2 : Int) (ranks : List Int) : Lle (progress_statement_broken_2_c fu s s_2 c0 c0_2 ranks) (progress_statement_broken_2 s s_2 c0 c0_2 ranks) := by
  unfold progress_statement_broken_2_c progress_statement_broken_2
  repeat' first | with_reducible exact Lle.refl _ | with_reducible exact Lle.none _ | (with_reducible apply le_progress_graph_reached <;> intros) | (with_reducible apply le_slices_IndexFunc_2 <;> intros) | (refine Lle.while fu (fun s => ?_) _) | (refine Lle.bind ?_ (fun x => ?_)) | (refine Lle.ck (fun _ => ?_)) | (refine Lle.ite ?_ ?_) | split | assumption

noncomputable def progress_statement_ranks_2_b1_c (fu : Nat) (s : Int) (s_2 : List (Int × Int × Int × Bool)) (c0 : Int) (c0_2 : Int) (st1 : (List Int)) : Option (Step ((List Int)) ((List Int) × Bool)) :=
  (progress_statement_broken_2_c fu s s_2 c0 c0_2 st1).bind fun v0 =>
  if (!v0.2.2.2.2) = true then
  some (.done (st1, true))
  else
  (progress_statement_least_2_c fu s s_2 c0 c0_2 (v0.1, v0.2.1, v0.2.2.1, v0.2.2.2.1) st1).bind fun v0_2 =>
  ck (0 ≤ v0.1) <| ck (v0.1 < (st1.length : Int)) <| ck (0 ≤ v0.1) <| ck (v0.1 < ((st1.set v0.1.toNat v0_2).length : Int)) <| if (decide (s ≤ ((st1.set v0.1.toNat v0_2).getD v0.1.toNat 0))) = true then
  some (.done ([], false))
  else
  some (.next (st1.set v0.1.toNat v0_2))

theorem le_progress_statement_ranks_2_b1 (fu : Nat) (s : Int) (s_2 : List (Int × Int × Int × Bool)) (c0 : Int) (c0_2 : Int) (st1 : (List Int)) : Lle (progress_statement_ranks_2_b1_c fu s s_2 c0 c0_2 st1) (progress_statement_ranks_2_b1 s s_2 c0 c0_2 st1) := by
  unfold progress_statement_ranks_2_b1_c progress_statement_ranks_2_b1
  repeat' first | with_reducible exact Lle.refl _ | with_reducible exact Lle.none _ | (with_reducible apply le_progress_statement_broken_2 <;> intros) | (with_reducible apply le_progress_statement_least_2 <;> intros) | (refine Lle.while fu (fun s => ?_) _) | (refine Lle.bind ?_ (fun x => ?_)) | (refine Lle.ck (fun _ => ?_)) | (refine Lle.ite ?_ ?_) | split | assumption

noncomputable def progress_statement_ranks_2_c (fu : Nat) (s : Int) (s_2 : List (Int × Int × Int × Bool)) (c0 : Int) (c0_2 : Int) : Option ((List Int) × Bool) :=
  ck (0 ≤ s) <| ck (8 * s ≤ 281474976710656) <| (whileN (progress_statement_ranks_2_b1_c fu s s_2 c0 c0_2) fu (List.replicate s.toNat (0 : Int))).bind fun r1 =>
  some r1

theorem le_progress_statement_ranks_2 (fu : Nat) (s : Int) (s_2 : List (Int × Int × Int × Bool)) (c0 : Int) (c0_2 : Int) : Lle (progress_statement_ranks_2_c fu s s_2 c0 c0_2) (progress_statement_ranks_2 s s_2 c0 c0_2) := by
  unfold progress_statement_ranks_2_c progress_statement_ranks_2
  repeat' first | with_reducible exact Lle.refl _ | with_reducible exact Lle.none _ | (with_reducible apply le_progress_statement_ranks_2_b1 <;> intros) | (refine Lle.while fu (fun s => ?_) _) | (refine Lle.bind ?_ (fun x => ?_)) | (refine Lle.ck (fun _ => ?_)) | (refine Lle.ite ?_ ?_) | split | assumption

noncomputable def progress_statement_least_3_c (fu : Nat) (s : Int) (s_2 : List (Int × Int × Int × Bool)) (c0 : Int) (c0_2 : Int) (m : Int × Int × Int × Bool) (ranks : List Int) : Option Int :=
  (progress_statementOf_2_c fu m c0_2).bind fun v0 =>
  if v0 = true then
  ck (0 ≤ m.2.2.1) <| ck (m.2.2.1 < (ranks.length : Int)) <| ck (InK .i64 ((ranks.getD m.2.2.1.toNat 0) + 1)) <| some ((ranks.getD m.2.2.1.toNat 0) + 1)
  else
  (progress_statementOf_2_c fu m c0).bind fun v0_2 =>
  if v0_2 = true then
  ck (0 ≤ m.2.2.1) <| ck (m.2.2.1 < (ranks.length : Int)) <| some (ranks.getD m.2.2.1.toNat 0)
  else
  some 0

theorem le_progress_statement_least_3 (fu : Nat) (s : Int) (s_2 : List (Int × Int × Int × Bool)) (c0 : Int) (c0_2 : Int) (m : Int × Int × Int × Bool) (ranks : List Int) : Lle (progress_statement_least_3_c fu s s_2 c0 c0_2 m ranks) (progress_statement_least_3 s s_2 c0 c0_2 m ranks) := by
  unfold progress_statement_least_3_c progress_statement_least_3
  repeat' first | with_reducible exact Lle.refl _ | with_reducible exact Lle.none _ | (with_reducible apply le_progress_statementOf_2 <;> intros) | (refine Lle.while fu (fun s => ?_) _) | (refine Lle.bind ?_ (fun x => ?_)) | (refine Lle.ck (fun _ => ?_)) | (refine Lle.ite ?_ ?_) | split | assumption

noncomputable def progress_statement_broken_1_3_c (fu : Nat) (m : Int × Int × Int × Bool) (a2 : List Int) (a3 : Int) (a3_2 : List (Int × Int × Int × Bool)) (c0 : Int) (c0_2 : Int) (a1 : List Int) : Option Bool :=
  (slices_Contains_2_c fu a1 m.1).bind fun v0 =>
  if v0 = true then
  ck (0 ≤ m.1) <| ck (m.1 < (a2.length : Int)) <| (progress_statement_least_3_c fu a3 a3_2 c0 c0_2 m a2).bind fun v0_2 =>
  some (decide ((a2.getD m.1.toNat 0) < v0_2))
  else
  some false

theorem le_progress_statement_broken_1_3 (fu : Nat) (m : Int × Int × Int × Bool) (a2 : List Int) (a3 : Int) (a3_2 : List (Int × Int × Int × Bool)) (c0 : Int) (c0_2 : Int) (a1 : List Int) : Lle (progress_statement_broken_1_3_c fu m a2 a3 a3_2 c0 c0_2 a1) (progress_statement_broken_1_3 m a2 a3 a3_2 c0 c0_2 a1) := by
  unfold progress_statement_broken_1_3_c progress_statement_broken_1_3
  repeat' first | with_reducible exact Lle.refl _ | with_reducible exact Lle.none _ | (with_reducible apply le_slices_Contains_2 <;> intros) | (with_reducible apply le_progress_statement_least_3 <;> intros) | (refine Lle.while fu (fun s => ?_) _) | (refine Lle.bind ?_ (fun x => ?_)) | (refine Lle.ck (fun _ => ?_)) | (refine Lle.ite ?_ ?_) | split | assumption

noncomputable def slices_IndexFunc_3_k1_c (fu : Nat) : Option Int :=
  some (-1)

theorem le_slices_IndexFunc_3_k1 (fu : Nat) : Lle (slices_IndexFunc_3_k1_c fu ) (slices_IndexFunc_3_k1 ) := by
  unfold slices_IndexFunc_3_k1_c slices_IndexFunc_3_k1
  repeat' first | with_reducible exact Lle.refl _ | with_reducible exact Lle.none _ | (refine Lle.while fu (fun s => ?_) _) | (refine Lle.bind ?_ (fun x => ?_)) | (refine Lle.ck (fun _ => ?_)) | (refine Lle.ite ?_ ?_) | split | assumption

noncomputable def slices_IndexFunc_3_b1_c (fu : Nat) (s : List (Int × Int × Int × Bool)) (c1 : List Int) (c2 : Int) (c2_2 : List (Int × Int × Int × Bool)) (c0 : Int) (c0_2 : Int) (c0_3 : List Int) (st1 : Int) : Option (Step Int (Sum Int Unit)) :=
  if (decide (st1 < (s.length : Int))) = true then
  ck (0 ≤ st1) <| ck (st1 < (s.length : Int)) <| (progress_statement_broken_1_3_c fu (s.getD st1.toNat (0, 0, 0, false)) c1 c2 c2_2 c0 c0_2 c0_3).bind fun v0 =>
  if v0 = true then
  some (.done (Sum.inl st1))
  else
  ck (InK .i64 (st1 + 1)) <| some (.next (st1 + 1))
  else
  some (.done (Sum.inr ()))

theorem le_slices_IndexFunc_3_b1 (fu : Nat) (s : List (Int × Int × Int × Bool)) (c1 : List Int) (c2 : Int) (c2_2 : List (Int × Int × Int × Bool)) (c0 : Int) (c0_2 : Int) (c0_3 : List Int) (st1 : Int) : Lle (slices_IndexFunc_3_b1_c fu s c1 c2 c2_2 c0 c0_2 c0_3 st1) (slices_IndexFunc_3_b1 s c1 c2 c2_2 c0 c0_2 c0_3 st1) := by
  unfold slices_IndexFunc_3_b1_c slices_IndexFunc_3_b1
  repeat' first | with_reducible exact Lle.refl _ | with_reducible exact Lle.none _ | (with_reducible apply le_progress_statement_broken_1_3 <;> intros) | (refine Lle.while fu (fun s => ?_) _) | (refine Lle.bind ?_ (fun x => ?_)) | (refine Lle.ck (fun _ => ?_)) | (refine Lle.ite ?_ ?_) | split | assumption

noncomputable def slices_IndexFunc_3_c (fu : Nat) (s : List (Int × Int × Int × Bool)) (c1 : List Int) (c2 : Int) (c2_2 : List (Int × Int × Int × Bool)) (c0 : Int) (c0_2 : Int) (c0_3 : List Int) : Option Int :=
  (whileN (slices_IndexFunc_3_b1_c fu s c1 c2 c2_2 c0 c0_2 c0_3) fu 0).bind fun x => match x with
  | .inl r1 => (some r1)
  | .inr _ => (slices_IndexFunc_3_k1_c fu)

theorem le_slices_IndexFunc_3 (fu : Nat) (s : List (Int × Int × Int × Bool)) (c1 : List Int) (c2 : Int) (c2_2 : List (Int × Int × Int × Bool)) (c0 : Int) (c0_2 : Int) (c0_3 : List Int) : Lle (slices_IndexFunc_3_c fu s c1 c2 c2_2 c0 c0_2 c0_3) (slices_IndexFunc_3 s c1 c2 c2_2 c0 c0_2 c0_3) := by
  unfold slices_IndexFunc_3_c slices_IndexFunc_3
  repeat' first | with_reducible exact Lle.refl _ | with_reducible exact Lle.none _ | (with_reducible apply le_slices_IndexFunc_3_b1 <;> intros) | (with_reducible apply le_slices_IndexFunc_3_k1 <;> intros) | (refine Lle.while fu (fun s => ?_) _) | (refine Lle.bind ?_ (fun x => ?_)) | (refine Lle.ck (fun _ => ?_)) | (refine Lle.ite ?_ ?_) | split | assumption

noncomputable def progress_statement_broken_3_c (fu : Nat) (s : Int) (s_2 : List (Int × Int × Int × Bool)) (c0 : Int) (c0_2 : Int) (ranks : List Int) : Option (Int × Int × Int × Bool × Bool) :=
  (progress_graph_reached_c fu (s, s_2)).bind fun v0 =>
  (slices_IndexFunc_3_c fu s_2 ranks s s_2 c0 c0_2 v0).bind fun v0_2 =>
  if (decide (v0_2 < 0)) = true then
  some (0, 0, 0, false, false)
  else
  ck (0 ≤ v0_2) <| ck (v0_2 < (s_2.length : Int)) <| some ((s_2.getD v0_2.toNat (0, 0, 0, false)).1, (s_2.getD v0_2.toNat (0, 0, 0, false)).2.1, (s_2.getD v0_2.toNat (0, 0, 0, false)).2.2.1, (s_2.getD v0_2.toNat (0, 0, 0, false)).2.2.2, true)

theorem le_progress_statement_broken_3 (fu : Nat) (s : Int) (s_2 : List (Int × Int × Int × Bool)) (c0 : Int) (c0_2 : Int) (ranks : List Int) : Lle (progress_statement_broken_3_c fu s s_2 c0 c0_2 ranks) (progress_statement_broken_3 s s_2 c0 c0_2 ranks) := by
  unfold progress_statement_broken_3_c progress_statement_broken_3
  repeat' first | with_reducible exact Lle.refl _ | with_reducible exact Lle.none _ | (with_reducible apply le_progress_graph_reached <;> intros) | (with_reducible apply le_slices_IndexFunc_3 <;> intros) | (refine Lle.while fu (fun s => ?_) _) | (refine Lle.bind ?_ (fun x => ?_)) | (refine Lle.ck (fun _ => ?_)) | (refine Lle.ite ?_ ?_) | split | assumption

noncomputable def progress_statement_ranks_3_b1_c (fu : Nat) (s : Int) (s_2 : List (Int × Int × Int × Bool)) (c0 : Int) (c0_2 : Int) (st1 : (List Int)) : Option (Step ((List Int)) ((List Int) × Bool)) :=
  (progress_statement_broken_3_c fu s s_2 c0 c0_2 st1).bind fun v0 =>
  if (!v0.2.2.2.2) = true then
  some (.done (st1, true))
  else
  (progress_statement_least_3_c fu s s_2 c0 c0_2 (v0.1, v0.2.1, v0.2.2.1, v0.2.2.2.1) st1).bind fun v0_2 =>
  ck (0 ≤ v0.1) <| ck (v0.1 < (st1.length : Int)) <| ck (0 ≤ v0.1) <| ck (v0.1 < ((st1.set v0.1.toNat v0_2).length : Int)) <| if (decide (s ≤ ((st1.set v0.1.toNat v0_2).getD v0.1.toNat 0))) = true then
  some (.done ([], false))
  else
  some (.next (st1.set v0.1.toNat v0_2))

theorem le_progress_statement_ranks_3_b1 (fu : Nat) (s : Int) (s_2 : List (Int × Int × Int × Bool)) (c0 : Int) (c0_2 : Int) (st1 : (List Int)) : Lle (progress_statement_ranks_3_b1_c fu s s_2 c0 c0_2 st1) (progress_statement_ranks_3_b1 s s_2 c0 c0_2 st1) := by
  unfold progress_statement_ranks_3_b1_c progress_statement_ranks_3_b1
  repeat' first | with_reducible exact Lle.refl _ | with_reducible exact Lle.none _ | (with_reducible apply le_progress_statement_broken_3 <;> intros) | (with_reducible apply le_progress_statement_least_3 <;> intros) | (refine Lle.while fu (fun s => ?_) _) | (refine Lle.bind ?_ (fun x => ?_)) | (refine Lle.ck (fun _ => ?_)) | (refine Lle.ite ?_ ?_) | split | assumption

noncomputable def progress_statement_ranks_3_c (fu : Nat) (s : Int) (s_2 : List (Int × Int × Int × Bool)) (c0 : Int) (c0_2 : Int) : Option ((List Int) × Bool) :=
  ck (0 ≤ s) <| ck (8 * s ≤ 281474976710656) <| (whileN (progress_statement_ranks_3_b1_c fu s s_2 c0 c0_2) fu (List.replicate s.toNat (0 : Int))).bind fun r1 =>
  some r1

theorem le_progress_statement_ranks_3 (fu : Nat) (s : Int) (s_2 : List (Int × Int × Int × Bool)) (c0 : Int) (c0_2 : Int) : Lle (progress_statement_ranks_3_c fu s s_2 c0 c0_2) (progress_statement_ranks_3 s s_2 c0 c0_2) := by
  unfold progress_statement_ranks_3_c progress_statement_ranks_3
  repeat' first | with_reducible exact Lle.refl _ | with_reducible exact Lle.none _ | (with_reducible apply le_progress_statement_ranks_3_b1 <;> intros) | (refine Lle.while fu (fun s => ?_) _) | (refine Lle.bind ?_ (fun x => ?_)) | (refine Lle.ck (fun _ => ?_)) | (refine Lle.ite ?_ ?_) | split | assumption

noncomputable def progress_Ranks_c (fu : Nat) (g : Int × (List (Int × Int × Int × Bool))) (claim : Int) (thread : Int) : Option ((List Int) × Int) :=
  (progress_statementOf_c fu g claim thread).bind fun v0 => match v0 with
  | .inl v0_2 => (if (!(decide (v0_2 = 0))) = true then
  some ([], v0_2)
  else
  none)
  | .inr (.inl v0_3) => ((progress_statement_ranks_c fu v0_3.1 v0_3.2).bind fun v0_6 =>
  if (!v0_6.2) = true then
  some ([], 5)
  else
  some (v0_6.1, 0))
  | .inr (.inr (.inl v0_4)) => ((progress_statement_ranks_2_c fu v0_4.1 v0_4.2 thread thread).bind fun v0_7 =>
  if (!v0_7.2) = true then
  some ([], 5)
  else
  some (v0_7.1, 0))
  | .inr (.inr (.inr v0_5)) => ((progress_statement_ranks_3_c fu v0_5.1 v0_5.2 thread thread).bind fun v0_8 =>
  if (!v0_8.2) = true then
  some ([], 5)
  else
  some (v0_8.1, 0))

theorem le_progress_Ranks (fu : Nat) (g : Int × (List (Int × Int × Int × Bool))) (claim : Int) (thread : Int) : Lle (progress_Ranks_c fu g claim thread) (progress_Ranks g claim thread) := by
  unfold progress_Ranks_c progress_Ranks
  repeat' first | with_reducible exact Lle.refl _ | with_reducible exact Lle.none _ | (with_reducible apply le_progress_statementOf <;> intros) | (with_reducible apply le_progress_statement_ranks <;> intros) | (with_reducible apply le_progress_statement_ranks_2 <;> intros) | (with_reducible apply le_progress_statement_ranks_3 <;> intros) | (refine Lle.while fu (fun s => ?_) _) | (refine Lle.bind ?_ (fun x => ?_)) | (refine Lle.ck (fun _ => ?_)) | (refine Lle.ite ?_ ?_) | split | assumption

noncomputable def linealref07_SameInts_k1_c (fu : Nat) : Option Bool :=
  some true

theorem le_linealref07_SameInts_k1 (fu : Nat) : Lle (linealref07_SameInts_k1_c fu ) (linealref07_SameInts_k1 ) := by
  unfold linealref07_SameInts_k1_c linealref07_SameInts_k1
  repeat' first | with_reducible exact Lle.refl _ | with_reducible exact Lle.none _ | (refine Lle.while fu (fun s => ?_) _) | (refine Lle.bind ?_ (fun x => ?_)) | (refine Lle.ck (fun _ => ?_)) | (refine Lle.ite ?_ ?_) | split | assumption

noncomputable def linealref07_SameInts_b1_c (fu : Nat) (a : List Int) (b : List Int) (st1 : Int) : Option (Step Int (Sum Unit Unit)) :=
  if (decide (st1 < (a.length : Int))) = true then
  ck (0 ≤ st1) <| ck (st1 < (a.length : Int)) <| ck (0 ≤ st1) <| ck (st1 < (b.length : Int)) <| if (!(decide ((a.getD st1.toNat 0) = (b.getD st1.toNat 0)))) = true then
  some (.done (Sum.inl ()))
  else
  ck (InK .i64 (st1 + 1)) <| some (.next (st1 + 1))
  else
  some (.done (Sum.inr ()))

theorem le_linealref07_SameInts_b1 (fu : Nat) (a : List Int) (b : List Int) (st1 : Int) : Lle (linealref07_SameInts_b1_c fu a b st1) (linealref07_SameInts_b1 a b st1) := by
  unfold linealref07_SameInts_b1_c linealref07_SameInts_b1
  repeat' first | with_reducible exact Lle.refl _ | with_reducible exact Lle.none _ | (refine Lle.while fu (fun s => ?_) _) | (refine Lle.bind ?_ (fun x => ?_)) | (refine Lle.ck (fun _ => ?_)) | (refine Lle.ite ?_ ?_) | split | assumption

noncomputable def linealref07_SameInts_c (fu : Nat) (a : List Int) (b : List Int) : Option Bool :=
  if (!(decide ((a.length : Int) = (b.length : Int)))) = true then
  some false
  else
  (whileN (linealref07_SameInts_b1_c fu a b) fu 0).bind fun x => match x with
  | .inl _ => (some false)
  | .inr _ => (linealref07_SameInts_k1_c fu)

theorem le_linealref07_SameInts (fu : Nat) (a : List Int) (b : List Int) : Lle (linealref07_SameInts_c fu a b) (linealref07_SameInts a b) := by
  unfold linealref07_SameInts_c linealref07_SameInts
  repeat' first | with_reducible exact Lle.refl _ | with_reducible exact Lle.none _ | (with_reducible apply le_linealref07_SameInts_b1 <;> intros) | (with_reducible apply le_linealref07_SameInts_k1 <;> intros) | (refine Lle.while fu (fun s => ?_) _) | (refine Lle.bind ?_ (fun x => ?_)) | (refine Lle.ck (fun _ => ?_)) | (refine Lle.ite ?_ ?_) | split | assumption

noncomputable def lineallaw07_Awake_c (fu : Nat) : Option Bool :=
  (progress_Ranks_c fu (2, [(0, 0, 1, false), (1, 1, 0, true)]) 0 0).bind fun v0 =>
  if (decide (v0.2 = 0)) = true then
  (linealref07_SameInts_c fu v0.1 [1, 0]).bind fun v0_2 =>
  some v0_2
  else
  some false

theorem le_lineallaw07_Awake (fu : Nat) : Lle (lineallaw07_Awake_c fu ) (lineallaw07_Awake ) := by
  unfold lineallaw07_Awake_c lineallaw07_Awake
  repeat' first | with_reducible exact Lle.refl _ | with_reducible exact Lle.none _ | (with_reducible apply le_progress_Ranks <;> intros) | (with_reducible apply le_linealref07_SameInts <;> intros) | (refine Lle.while fu (fun s => ?_) _) | (refine Lle.bind ?_ (fun x => ?_)) | (refine Lle.ck (fun _ => ?_)) | (refine Lle.ite ?_ ?_) | split | assumption

theorem lineallaw07_Awake_run : lineallaw07_Awake = some (true) := le_lineallaw07_Awake 40 _ (by decide +kernel)

end Go.Proofs.Yteclokkdgmacpaa
