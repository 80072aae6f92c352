/-
 Made by wip/tool/twin.py: twins of pure functions that run a number of rounds, and what is reckoned by them.
-/
import Derived.Test.YtifleoceebaooaaRfp
namespace Go.Proofs.Ytifleoceebaooaa
open Go.RowKit

set_option linter.unusedSimpArgs false
set_option linter.unusedVariables false
set_option linter.constructorNameAsVariable false

/-- What the one answers the other one answers. -/
def Lle {α : Type} (a b : Option α) : Prop := ∀ r, a = some r → b = some r
theorem Lle.refl {α : Type} (a : Option α) : Lle a a := fun _ h => h
theorem Lle.none {α : Type} (a : Option α) : Lle Option.none a := fun _ h => by cases h
theorem Lle.bind {α β : Type} {a b : Option α} {f g : α → Option β} (h : Lle a b) (k : ∀ x, Lle (f x) (g x)) : Lle (a.bind f) (b.bind g) := fun r hr => by
 obtain ⟨x, h1, h2⟩ := Option.bind_eq_some_iff.1 hr
 exact Option.bind_eq_some_iff.2 ⟨x, h x h1, k x r h2⟩
theorem Lle.ck {α : Type} {c : Prop} [Decidable c] {a b : Option α} (h : c → Lle a b) : Lle (ck c a) (ck c b) := fun r hr => by
 obtain ⟨hc, h1⟩ := ck_some.1 hr
 exact ck_some.2 ⟨hc, h hc r h1⟩
theorem Lle.ite {α : Type} {c : Bool} {a b a' b' : Option α} (h : Lle a a') (k : Lle b b') : Lle (if c = true then a else b) (if c = true then a' else b') := by
 split
 ·exact h
 ·exact k
theorem Lle.while {S R : Type} {f g : S → Option (Step S R)} (fu : Nat) (h : ∀ s, Lle (f s) (g s)) (s : S) : Lle (whileN f fu s) (whileO g s) := fun r hr => by
 have : ∀ (n : Nat) (s : S) (r : R), whileN f n s = some r → whileN g n s = some r := by
  intro n
  induction n with
  | zero => intro s r h; cases h
  | succ n ih =>
   intro s r hr
   unfold whileN at hr ⊢
   cases hf : f s with
   | none => rw [hf] at hr; cases hr
   | some x =>
    rw [hf] at hr
    rw [h s x hf]
    cases x with
    | next s' => exact ih s' r hr
    | done r' => exact hr
 exact whileO_of (this fu s r hr)

noncomputable def refine_isState_c (fu : Nat) (s : Int × (List (Int × Int × Int))) (state : Int) : Option Bool :=
 if (decide (0 ≤ state)) = true then
 some (decide (state < s.1))
 else
 some false

theorem le_refine_isState (fu : Nat) (s : Int × (List (Int × Int × Int))) (state : Int) : Lle (refine_isState_c fu s state) (refine_isState s state) := by
 unfold refine_isState_c refine_isState
 repeat' first | with_reducible exact Lle.refl _ | with_reducible exact Lle.none _ | (refine Lle.while fu (fun s => ?_) _) | (refine Lle.bind ?_ (fun x => ?_)) | (refine Lle.ck (fun _ => ?_)) | (refine Lle.ite ?_ ?_) | split | assumption

noncomputable def refine_isHidden_c (fu : Nat) (label : Int) : Option Unit :=
 some ()

theorem le_refine_isHidden (fu : Nat) (label : Int) : Lle (refine_isHidden_c fu label) (refine_isHidden label) := by
 unfold refine_isHidden_c refine_isHidden
 repeat' first | with_reducible exact Lle.refl _ | with_reducible exact Lle.none _ | (refine Lle.while fu (fun s => ?_) _) | (refine Lle.bind ?_ (fun x => ?_)) | (refine Lle.ck (fun _ => ?_)) | (refine Lle.ite ?_ ?_) | split | assumption

noncomputable def refine_isSeen_c (fu : Nat) (label : Int) : Option Bool :=
 if (decide (0 < label)) = true then
 some (decide (label ≤ 3))
 else
 some false

theorem le_refine_isSeen (fu : Nat) (label : Int) : Lle (refine_isSeen_c fu label) (refine_isSeen label) := by
 unfold refine_isSeen_c refine_isSeen
 repeat' first | with_reducible exact Lle.refl _ | with_reducible exact Lle.none _ | (refine Lle.while fu (fun s => ?_) _) | (refine Lle.bind ?_ (fun x => ?_)) | (refine Lle.ck (fun _ => ?_)) | (refine Lle.ite ?_ ?_) | split | assumption

noncomputable def refine_isLabel_c (fu : Nat) (label : Int) : Option Bool :=
 (refine_isHidden_c fu label).bind fun v0 =>
 if (decide (label = 0)) = true then
 some true
 else
 (refine_isSeen_c fu label).bind fun v0_2 =>
 some v0_2

theorem le_refine_isLabel (fu : Nat) (label : Int) : Lle (refine_isLabel_c fu label) (refine_isLabel label) := by
 unfold refine_isLabel_c refine_isLabel
 repeat' first | with_reducible exact Lle.refl _ | with_reducible exact Lle.none _ | (with_reducible apply le_refine_isHidden <;> intros) | (with_reducible apply le_refine_isSeen <;> intros) | (refine Lle.while fu (fun s => ?_) _) | (refine Lle.bind ?_ (fun x => ?_)) | (refine Lle.ck (fun _ => ?_)) | (refine Lle.ite ?_ ?_) | split | assumption

noncomputable def refine_isStep_c (fu : Nat) (s : Int × (List (Int × Int × Int))) (step : Int × Int × Int) : Option Bool :=
 (refine_isState_c fu s step.1).bind fun v0 =>
 if v0 = true then
 (refine_isLabel_c fu step.2.1).bind fun v0_2 =>
 if v0_2 = true then
 (refine_isState_c fu s step.2.2).bind fun v0_3 =>
 some v0_3
 else
 some false
 else
 some false

theorem le_refine_isStep (fu : Nat) (s : Int × (List (Int × Int × Int))) (step : Int × Int × Int) : Lle (refine_isStep_c fu s step) (refine_isStep s step) := by
 unfold refine_isStep_c refine_isStep
 repeat' first | with_reducible exact Lle.refl _ | with_reducible exact Lle.none _ | (with_reducible apply le_refine_isState <;> intros) | (with_reducible apply le_refine_isLabel <;> intros) | (refine Lle.while fu (fun s => ?_) _) | (refine Lle.bind ?_ (fun x => ?_)) | (refine Lle.ck (fun _ => ?_)) | (refine Lle.ite ?_ ?_) | split | assumption

noncomputable def slices_Index_k1_c (fu : Nat) : Option Int :=
 some (-1)

theorem le_slices_Index_k1 (fu : Nat) : Lle (slices_Index_k1_c fu ) (slices_Index_k1 ) := by
 unfold slices_Index_k1_c slices_Index_k1
 repeat' first | with_reducible exact Lle.refl _ | with_reducible exact Lle.none _ | (refine Lle.while fu (fun s => ?_) _) | (refine Lle.bind ?_ (fun x => ?_)) | (refine Lle.ck (fun _ => ?_)) | (refine Lle.ite ?_ ?_) | split | assumption

noncomputable def slices_Index_b1_c (fu : Nat) (s : List (Int × Int × Int)) (v0 : Int × Int × Int) (st1 : Int) : Option (Step Int (Sum Int Unit)) :=
 if (decide (st1 < (s.length : Int))) = true then
 ck (0 ≤ st1) <| ck (st1 < (s.length : Int)) <| ck (InK .i64 v0.1) <| ck (InK .i64 v0.2.1) <| ck (InK .i64 v0.2.2) <| ck (InK .i64 (s.getD st1.toNat (0, 0, 0)).1) <| ck (InK .i64 (s.getD st1.toNat (0, 0, 0)).2.1) <| ck (InK .i64 (s.getD st1.toNat (0, 0, 0)).2.2) <| if (decide (v0 = (s.getD st1.toNat (0, 0, 0)))) = true then
 some (.done (Sum.inl st1))
 else
 ck (InK .i64 (st1 + 1)) <| some (.next (st1 + 1))
 else
 some (.done (Sum.inr ()))

theorem le_slices_Index_b1 (fu : Nat) (s : List (Int × Int × Int)) (v0 : Int × Int × Int) (st1 : Int) : Lle (slices_Index_b1_c fu s v0 st1) (slices_Index_b1 s v0 st1) := by
 unfold slices_Index_b1_c slices_Index_b1
 repeat' first | with_reducible exact Lle.refl _ | with_reducible exact Lle.none _ | (refine Lle.while fu (fun s => ?_) _) | (refine Lle.bind ?_ (fun x => ?_)) | (refine Lle.ck (fun _ => ?_)) | (refine Lle.ite ?_ ?_) | split | assumption

noncomputable def slices_Index_c (fu : Nat) (s : List (Int × Int × Int)) (v0 : Int × Int × Int) : Option Int :=
 (whileN (slices_Index_b1_c fu s v0) fu 0).bind fun x => match x with
 | .inl r1 => (some r1)
 | .inr _ => (slices_Index_k1_c fu)

theorem le_slices_Index (fu : Nat) (s : List (Int × Int × Int)) (v0 : Int × Int × Int) : Lle (slices_Index_c fu s v0) (slices_Index s v0) := by
 unfold slices_Index_c slices_Index
 repeat' first | with_reducible exact Lle.refl _ | with_reducible exact Lle.none _ | (with_reducible apply le_slices_Index_b1 <;> intros) | (with_reducible apply le_slices_Index_k1 <;> intros) | (refine Lle.while fu (fun s => ?_) _) | (refine Lle.bind ?_ (fun x => ?_)) | (refine Lle.ck (fun _ => ?_)) | (refine Lle.ite ?_ ?_) | split | assumption

noncomputable def slices_Contains_c (fu : Nat) (s : List (Int × Int × Int)) (v0 : Int × Int × Int) : Option Bool :=
 (slices_Index_c fu s v0).bind fun v0_2 =>
 some (decide (0 ≤ v0_2))

theorem le_slices_Contains (fu : Nat) (s : List (Int × Int × Int)) (v0 : Int × Int × Int) : Lle (slices_Contains_c fu s v0) (slices_Contains s v0) := by
 unfold slices_Contains_c slices_Contains
 repeat' first | with_reducible exact Lle.refl _ | with_reducible exact Lle.none _ | (with_reducible apply le_slices_Index <;> intros) | (refine Lle.while fu (fun s => ?_) _) | (refine Lle.bind ?_ (fun x => ?_)) | (refine Lle.ck (fun _ => ?_)) | (refine Lle.ite ?_ ?_) | split | assumption

noncomputable def refine_Valid_k1_c (fu : Nat) : Option Bool :=
 some true

theorem le_refine_Valid_k1 (fu : Nat) : Lle (refine_Valid_k1_c fu ) (refine_Valid_k1 ) := by
 unfold refine_Valid_k1_c refine_Valid_k1
 repeat' first | with_reducible exact Lle.refl _ | with_reducible exact Lle.none _ | (refine Lle.while fu (fun s => ?_) _) | (refine Lle.bind ?_ (fun x => ?_)) | (refine Lle.ck (fun _ => ?_)) | (refine Lle.ite ?_ ?_) | split | assumption

noncomputable def refine_Valid_b1_c (fu : Nat) (s : Int × (List (Int × Int × Int))) (st1 : Int) : Option (Step Int (Sum Unit Unit)) :=
 if (decide (st1 < (s.2.length : Int))) = true then
 ck (0 ≤ st1) <| ck (st1 < (s.2.length : Int)) <| (refine_isStep_c fu s (s.2.getD st1.toNat (0, 0, 0))).bind fun v0 =>
 if (!v0) = true then
 some (.done (Sum.inl ()))
 else
 ck (0 ≤ st1) <| ck (st1 ≤ (s.2.length : Int)) <| (slices_Contains_c fu (s.2.take st1.toNat) (s.2.getD st1.toNat (0, 0, 0))).bind fun v0_2 =>
 if v0_2 = true then
 some (.done (Sum.inl ()))
 else
 ck (InK .i64 (st1 + 1)) <| some (.next (st1 + 1))
 else
 some (.done (Sum.inr ()))

theorem le_refine_Valid_b1 (fu : Nat) (s : Int × (List (Int × Int × Int))) (st1 : Int) : Lle (refine_Valid_b1_c fu s st1) (refine_Valid_b1 s st1) := by
 unfold refine_Valid_b1_c refine_Valid_b1
 repeat' first | with_reducible exact Lle.refl _ | with_reducible exact Lle.none _ | (with_reducible apply le_refine_isStep <;> intros) | (with_reducible apply le_slices_Contains <;> intros) | (refine Lle.while fu (fun s => ?_) _) | (refine Lle.bind ?_ (fun x => ?_)) | (refine Lle.ck (fun _ => ?_)) | (refine Lle.ite ?_ ?_) | split | assumption

noncomputable def refine_Valid_c (fu : Nat) (s : Int × (List (Int × Int × Int))) : Option Bool :=
 if (decide (s.1 < 1)) = true then
 some false
 else
 if (decide (6 < s.1)) = true then
 some false
 else
 if (decide (24 < (s.2.length : Int))) = true then
 some false
 else
 (whileN (refine_Valid_b1_c fu s) fu 0).bind fun x => match x with
 | .inl _ => (some false)
 | .inr _ => (refine_Valid_k1_c fu)

theorem le_refine_Valid (fu : Nat) (s : Int × (List (Int × Int × Int))) : Lle (refine_Valid_c fu s) (refine_Valid s) := by
 unfold refine_Valid_c refine_Valid
 repeat' first | with_reducible exact Lle.refl _ | with_reducible exact Lle.none _ | (with_reducible apply le_refine_Valid_b1 <;> intros) | (with_reducible apply le_refine_Valid_k1 <;> intros) | (refine Lle.while fu (fun s => ?_) _) | (refine Lle.bind ?_ (fun x => ?_)) | (refine Lle.ck (fun _ => ?_)) | (refine Lle.ite ?_ ?_) | split | assumption

noncomputable def refine_set_has_c (fu : Nat) (s : Int) (state : Int) : Option Unit :=
 ck (0 ≤ state) <| some ()

theorem le_refine_set_has (fu : Nat) (s : Int) (state : Int) : Lle (refine_set_has_c fu s state) (refine_set_has s state) := by
 unfold refine_set_has_c refine_set_has
 repeat' first | with_reducible exact Lle.refl _ | with_reducible exact Lle.none _ | (refine Lle.while fu (fun s => ?_) _) | (refine Lle.bind ?_ (fun x => ?_)) | (refine Lle.ck (fun _ => ?_)) | (refine Lle.ite ?_ ?_) | split | assumption

noncomputable def refine_frame_led_1_b1_c (fu : Nat) (slf : Int → Int → ((Int × (List (Int × Int × Int))) × (El T69)) → Option Int) (state : Int) (a2 : (Int × (List (Int × Int × Int))) × (El T69)) (st1 : Int × Int) : Option (Step (Int × Int) Int) :=
 if (decide (st1.2 < (a2.1.2.length : Int))) = true then
 ck (0 ≤ st1.2) <| ck (st1.2 < (a2.1.2.length : Int)) <| if (decide ((a2.1.2.getD st1.2.toNat (0, 0, 0)).1 = state)) = true then
 (refine_isHidden_c fu (a2.1.2.getD st1.2.toNat (0, 0, 0)).2.1).bind fun v0_2 =>
 if (decide ((a2.1.2.getD st1.2.toNat (0, 0, 0)).2.1 = 0)) = true then
 (slf (a2.1.2.getD st1.2.toNat (0, 0, 0)).2.2 st1.1 a2).bind fun v0_3 =>
 ck (InK .i64 (st1.2 + 1)) <| some (.next (v0_3, (st1.2 + 1)))
 else
 ck (InK .i64 (st1.2 + 1)) <| some (.next (st1.1, (st1.2 + 1)))
 else
 ck (InK .i64 (st1.2 + 1)) <| some (.next (st1.1, (st1.2 + 1)))
 else
 some (.done st1.1)

theorem le_refine_frame_led_1_b1 (fu : Nat) (slfc slf : Int → Int → ((Int × (List (Int × Int × Int))) × (El T69)) → Option Int) (hslf : ∀ (z0 : Int) (z1 : Int) (z2 : ((Int × (List (Int × Int × Int))) × (El T69))), Lle (slfc z0 z1 z2) (slf z0 z1 z2)) (state : Int) (a2 : (Int × (List (Int × Int × Int))) × (El T69)) (st1 : Int × Int) : Lle (refine_frame_led_1_b1_c fu slfc state a2 st1) (refine_frame_led_1_b1 slf state a2 st1) := by
 unfold refine_frame_led_1_b1_c refine_frame_led_1_b1
 repeat' first | with_reducible exact Lle.refl _ | with_reducible exact Lle.none _ | (with_reducible apply le_refine_isHidden <;> intros) | (apply hslf <;> intros) | (refine Lle.while fu (fun s => ?_) _) | (refine Lle.bind ?_ (fun x => ?_)) | (refine Lle.ck (fun _ => ?_)) | (refine Lle.ite ?_ ?_) | split | assumption

noncomputable def refine_frame_led_1F_c (fu : Nat) (slf : Int → Int → ((Int × (List (Int × Int × Int))) × (El T69)) → Option Int) (state : Int) (a1 : Int) (a2 : (Int × (List (Int × Int × Int))) × (El T69)) : Option Int :=
 (refine_set_has_c fu a1 state).bind fun v0 =>
 if (decide ((iand .u8 (ishr .u8 a1 state) 1) = 1)) = true then
 some a1
 else
 ck (0 ≤ state) <| (whileN (refine_frame_led_1_b1_c fu slf state a2) fu ((ior .u8 a1 (ishl .u8 1 state)), 0)).bind fun r1 =>
 some r1

theorem le_refine_frame_led_1F (fu : Nat) (slfc slf : Int → Int → ((Int × (List (Int × Int × Int))) × (El T69)) → Option Int) (hslf : ∀ (z0 : Int) (z1 : Int) (z2 : ((Int × (List (Int × Int × Int))) × (El T69))), Lle (slfc z0 z1 z2) (slf z0 z1 z2)) (state : Int) (a1 : Int) (a2 : (Int × (List (Int × Int × Int))) × (El T69)) : Lle (refine_frame_led_1F_c fu slfc state a1 a2) (refine_frame_led_1F slf state a1 a2) := by
 unfold refine_frame_led_1F_c refine_frame_led_1F
 repeat' first | with_reducible exact Lle.refl _ | with_reducible exact Lle.none _ | (with_reducible apply le_refine_set_has <;> intros) | (with_reducible apply le_refine_frame_led_1_b1 <;> intros) | (apply hslf <;> intros) | (refine Lle.while fu (fun s => ?_) _) | (refine Lle.bind ?_ (fun x => ?_)) | (refine Lle.ck (fun _ => ?_)) | (refine Lle.ite ?_ ?_) | split | assumption

noncomputable def refine_frame_led_1_c (fu : Nat) (n : Nat) : Int → Int → ((Int × (List (Int × Int × Int))) × (El T69)) → Option Int := Nat.rec (motive := fun _ => Int → Int → ((Int × (List (Int × Int × Int))) × (El T69)) → Option Int) (fun _ _ _ => none) (fun _ slf => refine_frame_led_1F_c fu slf) n

theorem le_refine_frame_led_1 (fu : Nat) : ∀ (n : Nat) (state : Int) (a1 : Int) (a2 : (Int × (List (Int × Int × Int))) × (El T69)), Lle (refine_frame_led_1_c fu n state a1 a2) (refine_frame_led_1 n state a1 a2)
 | 0, _, _, _ => Lle.none _
 | n + 1, state, a1, a2 => le_refine_frame_led_1F fu (refine_frame_led_1_c fu n) (refine_frame_led_1 n) (le_refine_frame_led_1 fu n) state a1 a2

noncomputable def refine_frame_led_c (fu : Nat) (f : (Int × (List (Int × Int × Int))) × (El T69)) (from0 : Int) : Option Int :=
 (refine_frame_led_1_c fu fuel from0 0 f).bind fun v0 =>
 some v0

theorem le_refine_frame_led (fu : Nat) (f : (Int × (List (Int × Int × Int))) × (El T69)) (from0 : Int) : Lle (refine_frame_led_c fu f from0) (refine_frame_led f from0) := by
 unfold refine_frame_led_c refine_frame_led
 repeat' first | with_reducible exact Lle.refl _ | with_reducible exact Lle.none _ | (with_reducible apply le_refine_frame_led_1 <;> intros) | (refine Lle.while fu (fun s => ?_) _) | (refine Lle.bind ?_ (fun x => ?_)) | (refine Lle.ck (fun _ => ?_)) | (refine Lle.ite ?_ ?_) | split | assumption

noncomputable def refine_frameOf_k2_c (fu : Nat) (s : Int × (List (Int × Int × Int))) (b3_2 : (El T69)) : Option (Int × (List (Int × Int × Int)) × (El T69) × Int) :=
 some (s.1, s.2, b3_2, 0)

theorem le_refine_frameOf_k2 (fu : Nat) (s : Int × (List (Int × Int × Int))) (b3_2 : (El T69)) : Lle (refine_frameOf_k2_c fu s b3_2) (refine_frameOf_k2 s b3_2) := by
 unfold refine_frameOf_k2_c refine_frameOf_k2
 repeat' first | with_reducible exact Lle.refl _ | with_reducible exact Lle.none _ | (refine Lle.while fu (fun s => ?_) _) | (refine Lle.bind ?_ (fun x => ?_)) | (refine Lle.ck (fun _ => ?_)) | (refine Lle.ite ?_ ?_) | split | assumption

noncomputable def refine_frameOf_k3_c (fu : Nat) (st2 : (El T69) × Int) (b3 : (El T69)) : Option (Step ((El T69) × Int) ((El T69))) :=
 ck (InK .i64 (st2.2 + 1)) <| some (.next (b3, (st2.2 + 1)))

theorem le_refine_frameOf_k3 (fu : Nat) (st2 : (El T69) × Int) (b3 : (El T69)) : Lle (refine_frameOf_k3_c fu st2 b3) (refine_frameOf_k3 st2 b3) := by
 unfold refine_frameOf_k3_c refine_frameOf_k3
 repeat' first | with_reducible exact Lle.refl _ | with_reducible exact Lle.none _ | (refine Lle.while fu (fun s => ?_) _) | (refine Lle.bind ?_ (fun x => ?_)) | (refine Lle.ck (fun _ => ?_)) | (refine Lle.ite ?_ ?_) | split | assumption

noncomputable def refine_frameOf_b3_c (fu : Nat) (s : Int × (List (Int × Int × Int))) (st2 : (El T69) × Int) (st3 : (El T69) × Int) : Option (Step ((El T69) × Int) ((El T69))) :=
 if (decide (st3.2 < s.1)) = true then
 (refine_isSeen_c fu (s.2.getD st2.2.toNat (0, 0, 0)).2.1).bind fun v0_3 =>
 if v0_3 = true then
 ck (0 ≤ st3.2) <| ck (st3.2 < 6) <| (refine_set_has_c fu (intAt T69 st3.1 ((st3.2.toNat * 4) + 0)) (s.2.getD st2.2.toNat (0, 0, 0)).1).bind fun v0_4 =>
 if (decide ((iand .u8 (ishr .u8 (intAt T69 st3.1 ((st3.2.toNat * 4) + 0)) (s.2.getD st2.2.toNat (0, 0, 0)).1) 1) = 1)) = true then
 ck (0 ≤ st3.2) <| ck (st3.2 < 6) <| ck (0 ≤ (s.2.getD st2.2.toNat (0, 0, 0)).2.1) <| ck ((s.2.getD st2.2.toNat (0, 0, 0)).2.1 < 4) <| ck (0 ≤ (s.2.getD st2.2.toNat (0, 0, 0)).2.2) <| ck ((s.2.getD st2.2.toNat (0, 0, 0)).2.2 < 6) <| ck (0 ≤ st3.2) <| ck (st3.2 < 6) <| ck (0 ≤ (s.2.getD st2.2.toNat (0, 0, 0)).2.1) <| ck ((s.2.getD st2.2.toNat (0, 0, 0)).2.1 < 4) <| ck (InK .i64 (st3.2 + 1)) <| some (.next ((setInt T69 st3.1 ((st3.2.toNat * 4) + (s.2.getD st2.2.toNat (0, 0, 0)).2.1.toNat * 1) (ior .u8 (intAt T69 st3.1 ((st3.2.toNat * 4) + (s.2.getD st2.2.toNat (0, 0, 0)).2.1.toNat * 1)) (intAt T69 st3.1 (((s.2.getD st2.2.toNat (0, 0, 0)).2.2.toNat * 4) + 0)))), (st3.2 + 1)))
 else
 ck (InK .i64 (st3.2 + 1)) <| some (.next (st3.1, (st3.2 + 1)))
 else
 ck (InK .i64 (st3.2 + 1)) <| some (.next (st3.1, (st3.2 + 1)))
 else
 some (.done st3.1)

theorem le_refine_frameOf_b3 (fu : Nat) (s : Int × (List (Int × Int × Int))) (st2 : (El T69) × Int) (st3 : (El T69) × Int) : Lle (refine_frameOf_b3_c fu s st2 st3) (refine_frameOf_b3 s st2 st3) := by
 unfold refine_frameOf_b3_c refine_frameOf_b3
 repeat' first | with_reducible exact Lle.refl _ | with_reducible exact Lle.none _ | (with_reducible apply le_refine_isSeen <;> intros) | (with_reducible apply le_refine_set_has <;> intros) | (refine Lle.while fu (fun s => ?_) _) | (refine Lle.bind ?_ (fun x => ?_)) | (refine Lle.ck (fun _ => ?_)) | (refine Lle.ite ?_ ?_) | split | assumption

noncomputable def refine_frameOf_b2_c (fu : Nat) (s : Int × (List (Int × Int × Int))) (st2 : (El T69) × Int) : Option (Step ((El T69) × Int) ((El T69))) :=
 if (decide (st2.2 < (s.2.length : Int))) = true then
 ck (0 ≤ st2.2) <| ck (st2.2 < (s.2.length : Int)) <| (whileN (refine_frameOf_b3_c fu s st2) fu (st2.1, 0)).bind fun r3 =>
 refine_frameOf_k3_c fu st2 r3
 else
 some (.done st2.1)

theorem le_refine_frameOf_b2 (fu : Nat) (s : Int × (List (Int × Int × Int))) (st2 : (El T69) × Int) : Lle (refine_frameOf_b2_c fu s st2) (refine_frameOf_b2 s st2) := by
 unfold refine_frameOf_b2_c refine_frameOf_b2
 repeat' first | with_reducible exact Lle.refl _ | with_reducible exact Lle.none _ | (with_reducible apply le_refine_frameOf_b3 <;> intros) | (with_reducible apply le_refine_frameOf_k3 <;> intros) | (refine Lle.while fu (fun s => ?_) _) | (refine Lle.bind ?_ (fun x => ?_)) | (refine Lle.ck (fun _ => ?_)) | (refine Lle.ite ?_ ?_) | split | assumption

noncomputable def refine_frameOf_k1_c (fu : Nat) (s : Int × (List (Int × Int × Int))) (b1 : (El T69)) : Option (Int × (List (Int × Int × Int)) × (El T69) × Int) :=
 (whileN (refine_frameOf_b2_c fu s) fu (b1, 0)).bind fun r2 =>
 refine_frameOf_k2_c fu s r2

theorem le_refine_frameOf_k1 (fu : Nat) (s : Int × (List (Int × Int × Int))) (b1 : (El T69)) : Lle (refine_frameOf_k1_c fu s b1) (refine_frameOf_k1 s b1) := by
 unfold refine_frameOf_k1_c refine_frameOf_k1
 repeat' first | with_reducible exact Lle.refl _ | with_reducible exact Lle.none _ | (with_reducible apply le_refine_frameOf_b2 <;> intros) | (with_reducible apply le_refine_frameOf_k2 <;> intros) | (refine Lle.while fu (fun s => ?_) _) | (refine Lle.bind ?_ (fun x => ?_)) | (refine Lle.ck (fun _ => ?_)) | (refine Lle.ite ?_ ?_) | split | assumption

noncomputable def refine_frameOf_b1_c (fu : Nat) (s : Int × (List (Int × Int × Int))) (st1 : (El T69) × Int) : Option (Step ((El T69) × Int) ((El T69))) :=
 if (decide (st1.2 < s.1)) = true then
 (refine_frame_led_c fu (s, st1.1) st1.2).bind fun v0_2 =>
 ck (0 ≤ st1.2) <| ck (st1.2 < 6) <| ck (InK .i64 (st1.2 + 1)) <| some (.next ((setInt T69 st1.1 ((st1.2.toNat * 4) + 0) v0_2), (st1.2 + 1)))
 else
 some (.done st1.1)

theorem le_refine_frameOf_b1 (fu : Nat) (s : Int × (List (Int × Int × Int))) (st1 : (El T69) × Int) : Lle (refine_frameOf_b1_c fu s st1) (refine_frameOf_b1 s st1) := by
 unfold refine_frameOf_b1_c refine_frameOf_b1
 repeat' first | with_reducible exact Lle.refl _ | with_reducible exact Lle.none _ | (with_reducible apply le_refine_frame_led <;> intros) | (refine Lle.while fu (fun s => ?_) _) | (refine Lle.bind ?_ (fun x => ?_)) | (refine Lle.ck (fun _ => ?_)) | (refine Lle.ite ?_ ?_) | split | assumption

noncomputable def refine_frameOf_c (fu : Nat) (s : Int × (List (Int × Int × Int))) : Option (Int × (List (Int × Int × Int)) × (El T69) × Int) :=
 (refine_Valid_c fu s).bind fun v0 =>
 if (!v0) = true then
 some (0, [], (Ty.dflt T69), 50)
 else
 (whileN (refine_frameOf_b1_c fu s) fu ((Ty.dflt T69), 0)).bind fun r1 =>
 refine_frameOf_k1_c fu s r1

theorem le_refine_frameOf (fu : Nat) (s : Int × (List (Int × Int × Int))) : Lle (refine_frameOf_c fu s) (refine_frameOf s) := by
 unfold refine_frameOf_c refine_frameOf
 repeat' first | with_reducible exact Lle.refl _ | with_reducible exact Lle.none _ | (with_reducible apply le_refine_Valid <;> intros) | (with_reducible apply le_refine_frameOf_b1 <;> intros) | (with_reducible apply le_refine_frameOf_k1 <;> intros) | (refine Lle.while fu (fun s => ?_) _) | (refine Lle.bind ?_ (fun x => ?_)) | (refine Lle.ck (fun _ => ?_)) | (refine Lle.ite ?_ ?_) | split | assumption

noncomputable def refine_twoOf_c (fu : Nat) (c : Int × (List (Int × Int × Int))) (a : Int × (List (Int × Int × Int))) : Option (Int × (List (Int × Int × Int)) × (El T69) × Int × (List (Int × Int × Int)) × (El T69) × Int) :=
 (refine_frameOf_c fu c).bind fun v0 =>
 if (!(decide (v0.2.2.2 = 0))) = true then
 some (0, [], (Ty.dflt T69), 0, [], (Ty.dflt T69), v0.2.2.2)
 else
 (refine_frameOf_c fu a).bind fun v0_2 =>
 if (!(decide (v0_2.2.2.2 = 0))) = true then
 some (0, [], (Ty.dflt T69), 0, [], (Ty.dflt T69), v0_2.2.2.2)
 else
 some (v0.1, v0.2.1, v0.2.2.1, v0_2.1, v0_2.2.1, v0_2.2.2.1, 0)

theorem le_refine_twoOf (fu : Nat) (c : Int × (List (Int × Int × Int))) (a : Int × (List (Int × Int × Int))) : Lle (refine_twoOf_c fu c a) (refine_twoOf c a) := by
 unfold refine_twoOf_c refine_twoOf
 repeat' first | with_reducible exact Lle.refl _ | with_reducible exact Lle.none _ | (with_reducible apply le_refine_frameOf <;> intros) | (refine Lle.while fu (fun s => ?_) _) | (refine Lle.bind ?_ (fun x => ?_)) | (refine Lle.ck (fun _ => ?_)) | (refine Lle.ite ?_ ?_) | split | assumption

noncomputable def refine_frame_begin_c (fu : Nat) (f : (Int × (List (Int × Int × Int))) × (El T69)) : Option Unit :=
 some ()

theorem le_refine_frame_begin (fu : Nat) (f : (Int × (List (Int × Int × Int))) × (El T69)) : Lle (refine_frame_begin_c fu f) (refine_frame_begin f) := by
 unfold refine_frame_begin_c refine_frame_begin
 repeat' first | with_reducible exact Lle.refl _ | with_reducible exact Lle.none _ | (refine Lle.while fu (fun s => ?_) _) | (refine Lle.bind ?_ (fun x => ?_)) | (refine Lle.ck (fun _ => ?_)) | (refine Lle.ite ?_ ?_) | split | assumption

noncomputable def refine_set_states_k1_c (fu : Nat) (b1 : (List Int)) : Option ((List Int)) :=
 some b1

theorem le_refine_set_states_k1 (fu : Nat) (b1 : (List Int)) : Lle (refine_set_states_k1_c fu b1) (refine_set_states_k1 b1) := by
 unfold refine_set_states_k1_c refine_set_states_k1
 repeat' first | with_reducible exact Lle.refl _ | with_reducible exact Lle.none _ | (refine Lle.while fu (fun s => ?_) _) | (refine Lle.bind ?_ (fun x => ?_)) | (refine Lle.ck (fun _ => ?_)) | (refine Lle.ite ?_ ?_) | split | assumption

noncomputable def refine_set_states_b1_c (fu : Nat) (s : Int) (st1 : (List Int) × Int) : Option (Step ((List Int) × Int) ((List Int))) :=
 if (decide (st1.2 < 6)) = true then
 (refine_set_has_c fu s st1.2).bind fun v0 =>
 if (decide ((iand .u8 (ishr .u8 s st1.2) 1) = 1)) = true then
 ck ((st1.1.length + 1) * 8 ≤ 140737488355328) <| ck (InK .i64 (st1.2 + 1)) <| some (.next ((st1.1 ++ [st1.2]), (st1.2 + 1)))
 else
 ck (InK .i64 (st1.2 + 1)) <| some (.next (st1.1, (st1.2 + 1)))
 else
 some (.done st1.1)

theorem le_refine_set_states_b1 (fu : Nat) (s : Int) (st1 : (List Int) × Int) : Lle (refine_set_states_b1_c fu s st1) (refine_set_states_b1 s st1) := by
 unfold refine_set_states_b1_c refine_set_states_b1
 repeat' first | with_reducible exact Lle.refl _ | with_reducible exact Lle.none _ | (with_reducible apply le_refine_set_has <;> intros) | (refine Lle.while fu (fun s => ?_) _) | (refine Lle.bind ?_ (fun x => ?_)) | (refine Lle.ck (fun _ => ?_)) | (refine Lle.ite ?_ ?_) | split | assumption

noncomputable def refine_set_states_c (fu : Nat) (s : Int) : Option ((List Int)) :=
 (whileN (refine_set_states_b1_c fu s) fu ([], 0)).bind fun r1 =>
 refine_set_states_k1_c fu r1

theorem le_refine_set_states (fu : Nat) (s : Int) : Lle (refine_set_states_c fu s) (refine_set_states s) := by
 unfold refine_set_states_c refine_set_states
 repeat' first | with_reducible exact Lle.refl _ | with_reducible exact Lle.none _ | (with_reducible apply le_refine_set_states_b1 <;> intros) | (with_reducible apply le_refine_set_states_k1 <;> intros) | (refine Lle.while fu (fun s => ?_) _) | (refine Lle.bind ?_ (fun x => ?_)) | (refine Lle.ck (fun _ => ?_)) | (refine Lle.ite ?_ ?_) | split | assumption

noncomputable def refine_frame_after_k1_c (fu : Nat) (b1 : Int) : Option Int :=
 some b1

theorem le_refine_frame_after_k1 (fu : Nat) (b1 : Int) : Lle (refine_frame_after_k1_c fu b1) (refine_frame_after_k1 b1) := by
 unfold refine_frame_after_k1_c refine_frame_after_k1
 repeat' first | with_reducible exact Lle.refl _ | with_reducible exact Lle.none _ | (refine Lle.while fu (fun s => ?_) _) | (refine Lle.bind ?_ (fun x => ?_)) | (refine Lle.ck (fun _ => ?_)) | (refine Lle.ite ?_ ?_) | split | assumption

noncomputable def refine_frame_after_b1_c (fu : Nat) (f : (Int × (List (Int × Int × Int))) × (El T69)) (label : Int) (v0 : (List Int)) (st1 : Int × Int) : Option (Step (Int × Int) Int) :=
 if (decide (st1.2 < (v0.length : Int))) = true then
 ck (0 ≤ st1.2) <| ck (st1.2 < (v0.length : Int)) <| ck (0 ≤ (v0.getD st1.2.toNat 0)) <| ck ((v0.getD st1.2.toNat 0) < 6) <| ck (0 ≤ label) <| ck (label < 4) <| ck (InK .i64 (st1.2 + 1)) <| some (.next ((ior .u8 st1.1 (intAt T69 f.2 (((v0.getD st1.2.toNat 0).toNat * 4) + label.toNat * 1))), (st1.2 + 1)))
 else
 some (.done st1.1)

theorem le_refine_frame_after_b1 (fu : Nat) (f : (Int × (List (Int × Int × Int))) × (El T69)) (label : Int) (v0 : (List Int)) (st1 : Int × Int) : Lle (refine_frame_after_b1_c fu f label v0 st1) (refine_frame_after_b1 f label v0 st1) := by
 unfold refine_frame_after_b1_c refine_frame_after_b1
 repeat' first | with_reducible exact Lle.refl _ | with_reducible exact Lle.none _ | (refine Lle.while fu (fun s => ?_) _) | (refine Lle.bind ?_ (fun x => ?_)) | (refine Lle.ck (fun _ => ?_)) | (refine Lle.ite ?_ ?_) | split | assumption

noncomputable def refine_frame_after_c (fu : Nat) (f : (Int × (List (Int × Int × Int))) × (El T69)) (from0 : Int) (label : Int) : Option Int :=
 (refine_set_states_c fu from0).bind fun v0 =>
 (whileN (refine_frame_after_b1_c fu f label v0) fu (0, 0)).bind fun r1 =>
 refine_frame_after_k1_c fu r1

theorem le_refine_frame_after (fu : Nat) (f : (Int × (List (Int × Int × Int))) × (El T69)) (from0 : Int) (label : Int) : Lle (refine_frame_after_c fu f from0 label) (refine_frame_after f from0 label) := by
 unfold refine_frame_after_c refine_frame_after
 repeat' first | with_reducible exact Lle.refl _ | with_reducible exact Lle.none _ | (with_reducible apply le_refine_set_states <;> intros) | (with_reducible apply le_refine_frame_after_b1 <;> intros) | (with_reducible apply le_refine_frame_after_k1 <;> intros) | (refine Lle.while fu (fun s => ?_) _) | (refine Lle.bind ?_ (fun x => ?_)) | (refine Lle.ck (fun _ => ?_)) | (refine Lle.ite ?_ ?_) | split | assumption

noncomputable def slices_Clone_c (fu : Nat) (s : List Int) : Option ((List Int)) :=
 ck (s.length * 8 ≤ 140737488355328) <| some s

theorem le_slices_Clone (fu : Nat) (s : List Int) : Lle (slices_Clone_c fu s) (slices_Clone s) := by
 unfold slices_Clone_c slices_Clone
 repeat' first | with_reducible exact Lle.refl _ | with_reducible exact Lle.none _ | (refine Lle.while fu (fun s => ?_) _) | (refine Lle.bind ?_ (fun x => ?_)) | (refine Lle.ck (fun _ => ?_)) | (refine Lle.ite ?_ ?_) | split | assumption

noncomputable def refine_longer_c (fu : Nat) (trace : List Int) (label : Int) : Option ((List Int)) :=
 (slices_Clone_c fu trace).bind fun v0 =>
 ck ((v0.length + 1) * 8 ≤ 140737488355328) <| some (v0 ++ [label])

theorem le_refine_longer (fu : Nat) (trace : List Int) (label : Int) : Lle (refine_longer_c fu trace label) (refine_longer trace label) := by
 unfold refine_longer_c refine_longer
 repeat' first | with_reducible exact Lle.refl _ | with_reducible exact Lle.none _ | (with_reducible apply le_slices_Clone <;> intros) | (refine Lle.while fu (fun s => ?_) _) | (refine Lle.bind ?_ (fun x => ?_)) | (refine Lle.ck (fun _ => ?_)) | (refine Lle.ite ?_ ?_) | split | assumption

noncomputable def refine_two_shows_k1_c (fu : Nat) : Option ((List Int) × Bool) :=
 some ([], false)

theorem le_refine_two_shows_k1 (fu : Nat) : Lle (refine_two_shows_k1_c fu ) (refine_two_shows_k1 ) := by
 unfold refine_two_shows_k1_c refine_two_shows_k1
 repeat' first | with_reducible exact Lle.refl _ | with_reducible exact Lle.none _ | (refine Lle.while fu (fun s => ?_) _) | (refine Lle.bind ?_ (fun x => ?_)) | (refine Lle.ck (fun _ => ?_)) | (refine Lle.ite ?_ ?_) | split | assumption

noncomputable def refine_two_shows_k2_c (fu : Nat) (st1 : (List (Int × Int)) × (List (List Int)) × (List ((Int × Int) × Bool)) × Int) (b2 : (List (Int × Int)) × (List (List Int)) × (List ((Int × Int) × Bool))) : Option (Step ((List (Int × Int)) × (List (List Int)) × (List ((Int × Int) × Bool)) × Int) (Sum ((List Int)) Unit)) :=
 ck (InK .i64 (st1.2.2.2 + 1)) <| some (.next (b2.1, b2.2.1, b2.2.2, (st1.2.2.2 + 1)))

theorem le_refine_two_shows_k2 (fu : Nat) (st1 : (List (Int × Int)) × (List (List Int)) × (List ((Int × Int) × Bool)) × Int) (b2 : (List (Int × Int)) × (List (List Int)) × (List ((Int × Int) × Bool))) : Lle (refine_two_shows_k2_c fu st1 b2) (refine_two_shows_k2 st1 b2) := by
 unfold refine_two_shows_k2_c refine_two_shows_k2
 repeat' first | with_reducible exact Lle.refl _ | with_reducible exact Lle.none _ | (refine Lle.while fu (fun s => ?_) _) | (refine Lle.bind ?_ (fun x => ?_)) | (refine Lle.ck (fun _ => ?_)) | (refine Lle.ite ?_ ?_) | split | assumption

noncomputable def refine_two_shows_b2_c (fu : Nat) (t : ((Int × (List (Int × Int × Int))) × (El T69)) × (Int × (List (Int × Int × Int))) × (El T69)) (st1 : (List (Int × Int)) × (List (List Int)) × (List ((Int × Int) × Bool)) × Int) (st2 : (List (Int × Int)) × (List (List Int)) × (List ((Int × Int) × Bool)) × Int) : Option (Step ((List (Int × Int)) × (List (List Int)) × (List ((Int × Int) × Bool)) × Int) (Sum ((List Int)) ((List (Int × Int)) × (List (List Int)) × (List ((Int × Int) × Bool))))) :=
 if (decide (st2.2.2.2 ≤ 3)) = true then
 ck (0 ≤ st1.2.2.2) <| ck (st1.2.2.2 < (st2.1.length : Int)) <| (refine_frame_after_c fu t.1 (st2.1.getD st1.2.2.2.toNat (0, 0)).1 st2.2.2.2).bind fun v0_3 =>
 ck (0 ≤ st1.2.2.2) <| ck (st1.2.2.2 < (st2.1.length : Int)) <| (refine_frame_after_c fu t.2 (st2.1.getD st1.2.2.2.toNat (0, 0)).2 st2.2.2.2).bind fun v0_4 =>
 if (decide (v0_3 = 0)) = true then
 ck (InK .i64 (st2.2.2.2 + 1)) <| some (.next (st2.1, st2.2.1, st2.2.2.1, (st2.2.2.2 + 1)))
 else
 ck (InK .u8 v0_3) <| ck (InK .u8 v0_4) <| if (mget false st2.2.2.1 (v0_3, v0_4)) = true then
 ck (InK .i64 (st2.2.2.2 + 1)) <| some (.next (st2.1, st2.2.1, st2.2.2.1, (st2.2.2.2 + 1)))
 else
 ck (0 ≤ st1.2.2.2) <| ck (st1.2.2.2 < (st2.2.1.length : Int)) <| (refine_longer_c fu (st2.2.1.getD st1.2.2.2.toNat []) st2.2.2.2).bind fun v0_5 =>
 if (decide (v0_4 = 0)) = true then
 some (.done (Sum.inl v0_5))
 else
 ck (InK .u8 v0_3) <| ck (InK .u8 v0_4) <| ck ((st2.1.length + 1) * 2 ≤ 140737488355328) <| ck ((st2.2.1.length + 1) * 24 ≤ 140737488355328) <| ck (InK .i64 (st2.2.2.2 + 1)) <| some (.next ((st2.1 ++ [(v0_3, v0_4)]), (st2.2.1 ++ [v0_5]), (mput st2.2.2.1 (v0_3, v0_4) true), (st2.2.2.2 + 1)))
 else
 some (.done (Sum.inr (st2.1, st2.2.1, st2.2.2.1)))

theorem le_refine_two_shows_b2 (fu : Nat) (t : ((Int × (List (Int × Int × Int))) × (El T69)) × (Int × (List (Int × Int × Int))) × (El T69)) (st1 : (List (Int × Int)) × (List (List Int)) × (List ((Int × Int) × Bool)) × Int) (st2 : (List (Int × Int)) × (List (List Int)) × (List ((Int × Int) × Bool)) × Int) : Lle (refine_two_shows_b2_c fu t st1 st2) (refine_two_shows_b2 t st1 st2) := by
 unfold refine_two_shows_b2_c refine_two_shows_b2
 repeat' first | with_reducible exact Lle.refl _ | with_reducible exact Lle.none _ | (with_reducible apply le_refine_frame_after <;> intros) | (with_reducible apply le_refine_longer <;> intros) | (refine Lle.while fu (fun s => ?_) _) | (refine Lle.bind ?_ (fun x => ?_)) | (refine Lle.ck (fun _ => ?_)) | (refine Lle.ite ?_ ?_) | split | assumption

noncomputable def refine_two_shows_b1_c (fu : Nat) (t : ((Int × (List (Int × Int × Int))) × (El T69)) × (Int × (List (Int × Int × Int))) × (El T69)) (st1 : (List (Int × Int)) × (List (List Int)) × (List ((Int × Int) × Bool)) × Int) : Option (Step ((List (Int × Int)) × (List (List Int)) × (List ((Int × Int) × Bool)) × Int) (Sum ((List Int)) Unit)) :=
 if (decide (st1.2.2.2 < (st1.1.length : Int))) = true then
 (whileN (refine_two_shows_b2_c fu t st1) fu (st1.1, st1.2.1, st1.2.2.1, 1)).bind fun x => match x with
 | .inl r2 => (some (.done (Sum.inl r2)))
 | .inr r2_2 => (refine_two_shows_k2_c fu st1 r2_2)
 else
 some (.done (Sum.inr ()))

theorem le_refine_two_shows_b1 (fu : Nat) (t : ((Int × (List (Int × Int × Int))) × (El T69)) × (Int × (List (Int × Int × Int))) × (El T69)) (st1 : (List (Int × Int)) × (List (List Int)) × (List ((Int × Int) × Bool)) × Int) : Lle (refine_two_shows_b1_c fu t st1) (refine_two_shows_b1 t st1) := by
 unfold refine_two_shows_b1_c refine_two_shows_b1
 repeat' first | with_reducible exact Lle.refl _ | with_reducible exact Lle.none _ | (with_reducible apply le_refine_two_shows_b2 <;> intros) | (with_reducible apply le_refine_two_shows_k2 <;> intros) | (refine Lle.while fu (fun s => ?_) _) | (refine Lle.bind ?_ (fun x => ?_)) | (refine Lle.ck (fun _ => ?_)) | (refine Lle.ite ?_ ?_) | split | assumption

noncomputable def refine_two_shows_c (fu : Nat) (t : ((Int × (List (Int × Int × Int))) × (El T69)) × (Int × (List (Int × Int × Int))) × (El T69)) : Option ((List Int) × Bool) :=
 (refine_frame_begin_c fu t.1).bind fun v0 =>
 (refine_frame_begin_c fu t.2).bind fun v0_2 =>
 ck (InK .u8 ([((intAt T69 t.1.2 0), (intAt T69 t.2.2 0))].getD 0 (0, 0)).1) <| ck (InK .u8 ([((intAt T69 t.1.2 0), (intAt T69 t.2.2 0))].getD 0 (0, 0)).2) <| (whileN (refine_two_shows_b1_c fu t) fu ([((intAt T69 t.1.2 0), (intAt T69 t.2.2 0))], [[]], (mput [] ([((intAt T69 t.1.2 0), (intAt T69 t.2.2 0))].getD 0 (0, 0)) true), 0)).bind fun x => match x with
 | .inl r1 => (some (r1, true))
 | .inr _ => (refine_two_shows_k1_c fu)

theorem le_refine_two_shows (fu : Nat) (t : ((Int × (List (Int × Int × Int))) × (El T69)) × (Int × (List (Int × Int × Int))) × (El T69)) : Lle (refine_two_shows_c fu t) (refine_two_shows t) := by
 unfold refine_two_shows_c refine_two_shows
 repeat' first | with_reducible exact Lle.refl _ | with_reducible exact Lle.none _ | (with_reducible apply le_refine_frame_begin <;> intros) | (with_reducible apply le_refine_two_shows_b1 <;> intros) | (with_reducible apply le_refine_two_shows_k1 <;> intros) | (refine Lle.while fu (fun s => ?_) _) | (refine Lle.bind ?_ (fun x => ?_)) | (refine Lle.ck (fun _ => ?_)) | (refine Lle.ite ?_ ?_) | split | assumption

noncomputable def refine_Shows_c (fu : Nat) (c : Int × (List (Int × Int × Int))) (a : Int × (List (Int × Int × Int))) : Option ((List Int) × Int) :=
 (refine_twoOf_c fu c a).bind fun v0 =>
 if (!(decide (v0.2.2.2.2.2.2 = 0))) = true then
 some ([], v0.2.2.2.2.2.2)
 else
 (refine_two_shows_c fu (((v0.1, v0.2.1), v0.2.2.1), (v0.2.2.2.1, v0.2.2.2.2.1), v0.2.2.2.2.2.1)).bind fun v0_2 =>
 if (!v0_2.2) = true then
 some ([], 5)
 else
 some (v0_2.1, 0)

theorem le_refine_Shows (fu : Nat) (c : Int × (List (Int × Int × Int))) (a : Int × (List (Int × Int × Int))) : Lle (refine_Shows_c fu c a) (refine_Shows c a) := by
 unfold refine_Shows_c refine_Shows
 repeat' first | with_reducible exact Lle.refl _ | with_reducible exact Lle.none _ | (with_reducible apply le_refine_twoOf <;> intros) | (with_reducible apply le_refine_two_shows <;> intros) | (refine Lle.while fu (fun s => ?_) _) | (refine Lle.bind ?_ (fun x => ?_)) | (refine Lle.ck (fun _ => ?_)) | (refine Lle.ite ?_ ?_) | split | assumption

noncomputable def linealref05_SameInts_k1_c (fu : Nat) : Option Bool :=
 some true

theorem le_linealref05_SameInts_k1 (fu : Nat) : Lle (linealref05_SameInts_k1_c fu ) (linealref05_SameInts_k1 ) := by
 unfold linealref05_SameInts_k1_c linealref05_SameInts_k1
 repeat' first | with_reducible exact Lle.refl _ | with_reducible exact Lle.none _ | (refine Lle.while fu (fun s => ?_) _) | (refine Lle.bind ?_ (fun x => ?_)) | (refine Lle.ck (fun _ => ?_)) | (refine Lle.ite ?_ ?_) | split | assumption

noncomputable def linealref05_SameInts_b1_c (fu : Nat) (a : List Int) (b : List Int) (st1 : Int) : Option (Step Int (Sum Unit Unit)) :=
 if (decide (st1 < (a.length : Int))) = true then
 ck (0 ≤ st1) <| ck (st1 < (a.length : Int)) <| ck (0 ≤ st1) <| ck (st1 < (b.length : Int)) <| if (!(decide ((a.getD st1.toNat 0) = (b.getD st1.toNat 0)))) = true then
 some (.done (Sum.inl ()))
 else
 ck (InK .i64 (st1 + 1)) <| some (.next (st1 + 1))
 else
 some (.done (Sum.inr ()))

theorem le_linealref05_SameInts_b1 (fu : Nat) (a : List Int) (b : List Int) (st1 : Int) : Lle (linealref05_SameInts_b1_c fu a b st1) (linealref05_SameInts_b1 a b st1) := by
 unfold linealref05_SameInts_b1_c linealref05_SameInts_b1
 repeat' first | with_reducible exact Lle.refl _ | with_reducible exact Lle.none _ | (refine Lle.while fu (fun s => ?_) _) | (refine Lle.bind ?_ (fun x => ?_)) | (refine Lle.ck (fun _ => ?_)) | (refine Lle.ite ?_ ?_) | split | assumption

noncomputable def linealref05_SameInts_c (fu : Nat) (a : List Int) (b : List Int) : Option Bool :=
 if (!(decide ((a.length : Int) = (b.length : Int)))) = true then
 some false
 else
 (whileN (linealref05_SameInts_b1_c fu a b) fu 0).bind fun x => match x with
 | .inl _ => (some false)
 | .inr _ => (linealref05_SameInts_k1_c fu)

theorem le_linealref05_SameInts (fu : Nat) (a : List Int) (b : List Int) : Lle (linealref05_SameInts_c fu a b) (linealref05_SameInts a b) := by
 unfold linealref05_SameInts_c linealref05_SameInts
 repeat' first | with_reducible exact Lle.refl _ | with_reducible exact Lle.none _ | (with_reducible apply le_linealref05_SameInts_b1 <;> intros) | (with_reducible apply le_linealref05_SameInts_k1 <;> intros) | (refine Lle.while fu (fun s => ?_) _) | (refine Lle.bind ?_ (fun x => ?_)) | (refine Lle.ck (fun _ => ?_)) | (refine Lle.ite ?_ ?_) | split | assumption

noncomputable def lineallaw05_Awake_c (fu : Nat) : Option Bool :=
 (refine_Shows_c fu (2, [(0, 1, 1), (1, 2, 0), (1, 3, 0)]) (2, [(0, 1, 1), (1, 2, 0)])).bind fun v0 =>
 if (decide (v0.2 = 0)) = true then
 (linealref05_SameInts_c fu v0.1 [1, 3]).bind fun v0_2 =>
 some v0_2
 else
 some false

theorem le_lineallaw05_Awake (fu : Nat) : Lle (lineallaw05_Awake_c fu ) (lineallaw05_Awake ) := by
 unfold lineallaw05_Awake_c lineallaw05_Awake
 repeat' first | with_reducible exact Lle.refl _ | with_reducible exact Lle.none _ | (with_reducible apply le_refine_Shows <;> intros) | (with_reducible apply le_linealref05_SameInts <;> intros) | (refine Lle.while fu (fun s => ?_) _) | (refine Lle.bind ?_ (fun x => ?_)) | (refine Lle.ck (fun _ => ?_)) | (refine Lle.ite ?_ ?_) | split | assumption

theorem lineallaw05_Awake_run : lineallaw05_Awake = some (true) := le_lineallaw05_Awake 40 _ (by decide +kernel)

end Go.Proofs.Ytifleoceebaooaa
