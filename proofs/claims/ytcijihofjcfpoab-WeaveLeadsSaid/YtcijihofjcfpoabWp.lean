/-
  Made by wip/tool/dc.py out of the print of the program: pure functions.
-/
import Derived.Test.YtcijihofjcfpoabTy3
namespace Go.Proofs.Ytcijihofjcfpoab
open Go.RowKit

set_option linter.unusedSimpArgs false
set_option linter.unusedVariables false
set_option linter.constructorNameAsVariable false

/- lineal/weave.tiesOf -/
noncomputable def weave_tiesOf_k2 (b2 : (El T59)) : Option ((El T59) × Bool) :=
  some (b2, true)
noncomputable def weave_tiesOf_b2 (l : Int × (List (Int × Int))) (st2 : (El T59) × Int) : Option (Step ((El T59) × Int) (Sum Unit ((El T59)))) :=
  if (decide (st2.2 < (l.2.length : Int))) = true then
  ck (0 ≤ st2.2) <| ck (st2.2 < (l.2.length : Int)) <| if (decide ((l.2.getD st2.2.toNat (0, 0)).1 < 0)) = true then
  some (.done (Sum.inl ()))
  else
  if (decide ((l.2.getD st2.2.toNat (0, 0)).2 ≤ (l.2.getD st2.2.toNat (0, 0)).1)) = true then
  some (.done (Sum.inl ()))
  else
  if (decide (l.1 ≤ (l.2.getD st2.2.toNat (0, 0)).2)) = true then
  some (.done (Sum.inl ()))
  else
  ck (0 ≤ (l.2.getD st2.2.toNat (0, 0)).1) <| ck ((l.2.getD st2.2.toNat (0, 0)).1 < 6) <| ck (0 ≤ (l.2.getD st2.2.toNat (0, 0)).2) <| ck ((l.2.getD st2.2.toNat (0, 0)).2 < 6) <| if (boolAt T59 st2.1 ((0 + (l.2.getD st2.2.toNat (0, 0)).1.toNat * 6) + (l.2.getD st2.2.toNat (0, 0)).2.toNat * 1)) = true then
  some (.done (Sum.inl ()))
  else
  ck (0 ≤ (l.2.getD st2.2.toNat (0, 0)).1) <| ck ((l.2.getD st2.2.toNat (0, 0)).1 < 6) <| ck (0 ≤ (l.2.getD st2.2.toNat (0, 0)).2) <| ck ((l.2.getD st2.2.toNat (0, 0)).2 < 6) <| ck (0 ≤ (l.2.getD st2.2.toNat (0, 0)).2) <| ck ((l.2.getD st2.2.toNat (0, 0)).2 < 6) <| ck (0 ≤ (l.2.getD st2.2.toNat (0, 0)).1) <| ck ((l.2.getD st2.2.toNat (0, 0)).1 < 6) <| ck (InK .i64 (st2.2 + 1)) <| some (.next ((setBool T59 (setBool T59 st2.1 ((0 + (l.2.getD st2.2.toNat (0, 0)).1.toNat * 6) + (l.2.getD st2.2.toNat (0, 0)).2.toNat * 1) true) ((0 + (l.2.getD st2.2.toNat (0, 0)).2.toNat * 6) + (l.2.getD st2.2.toNat (0, 0)).1.toNat * 1) true), (st2.2 + 1)))
  else
  some (.done (Sum.inr st2.1))
noncomputable def weave_tiesOf_k1 (l : Int × (List (Int × Int))) (b1 : (El T59)) : Option ((El T59) × Bool) :=
  (whileO (weave_tiesOf_b2 l) (b1, 0)).bind fun x => match x with
  | .inl _ => (some ((Ty.dflt T59), false))
  | .inr r2 => (weave_tiesOf_k2 r2)
noncomputable def weave_tiesOf_b1 (st1 : (El T59) × Int) : Option (Step ((El T59) × Int) ((El T59))) :=
  if (decide (st1.2 < 6)) = true then
  ck (0 ≤ st1.2) <| ck (st1.2 < 6) <| ck (0 ≤ st1.2) <| ck (st1.2 < 6) <| ck (InK .i64 (st1.2 + 1)) <| some (.next ((setBool T59 st1.1 ((0 + st1.2.toNat * 6) + st1.2.toNat * 1) true), (st1.2 + 1)))
  else
  some (.done st1.1)
noncomputable def weave_tiesOf (l : Int × (List (Int × Int))) : Option ((El T59) × Bool) :=
  if (decide (l.1 < 1)) = true then
  some ((Ty.dflt T59), false)
  else
  if (decide (6 < l.1)) = true then
  some ((Ty.dflt T59), false)
  else
  (whileO (weave_tiesOf_b1) ((Ty.dflt T59), 0)).bind fun r1 =>
  weave_tiesOf_k1 l r1

/- lineal/weave.isLetter -/
noncomputable def weave_isLetter (l : Int × (List (Int × Int))) (a : Int) : Option Bool :=
  if (decide (0 ≤ a)) = true then
  some (decide (a < l.1))
  else
  some false

/- lineal/weave.isWord -/
noncomputable def weave_isWord_k1 : Option Bool :=
  some true
noncomputable def weave_isWord_b1 (l : Int × (List (Int × Int))) (w : List Int) (st1 : Int) : Option (Step Int (Sum Unit Unit)) :=
  if (decide (st1 < (w.length : Int))) = true then
  ck (0 ≤ st1) <| ck (st1 < (w.length : Int)) <| (weave_isLetter l (w.getD st1.toNat 0)).bind fun v0 =>
  if (!v0) = true then
  some (.done (Sum.inl ()))
  else
  ck (InK .i64 (st1 + 1)) <| some (.next (st1 + 1))
  else
  some (.done (Sum.inr ()))
noncomputable def weave_isWord (l : Int × (List (Int × Int))) (w : List Int) : Option Bool :=
  if (decide (10 < (w.length : Int))) = true then
  some false
  else
  (whileO (weave_isWord_b1 l w) 0).bind fun x => match x with
  | .inl _ => (some false)
  | .inr _ => (weave_isWord_k1)

/- lineal/weave.checked -/
noncomputable def weave_checked_k1 (v0 : (El T59) × Bool) : Option ((El T59) × Int) :=
  some (v0.1, 0)
noncomputable def weave_checked_b1 (l : Int × (List (Int × Int))) (words : List (List Int)) (st1 : Int) : Option (Step Int (Sum Unit Unit)) :=
  if (decide (st1 < (words.length : Int))) = true then
  ck (0 ≤ st1) <| ck (st1 < (words.length : Int)) <| (weave_isWord l (words.getD st1.toNat [])).bind fun v0_2 =>
  if (!v0_2) = true then
  some (.done (Sum.inl ()))
  else
  ck (InK .i64 (st1 + 1)) <| some (.next (st1 + 1))
  else
  some (.done (Sum.inr ()))
noncomputable def weave_checked (l : Int × (List (Int × Int))) (words : List (List Int)) : Option ((El T59) × Int) :=
  (weave_tiesOf l).bind fun v0 =>
  if (!v0.2) = true then
  some ((Ty.dflt T59), 30)
  else
  (whileO (weave_checked_b1 l words) 0).bind fun x => match x with
  | .inl _ => (some ((Ty.dflt T59), 31))
  | .inr _ => (weave_checked_k1 v0)

/- lineal/weave.keyOf -/
noncomputable def weave_keyOf_k1 (b1 : (El T94)) : Option ((El T94)) :=
  some b1
noncomputable def weave_keyOf_b1 (w : List Int) (st1 : (El T94) × Int) : Option (Step ((El T94) × Int) ((El T94))) :=
  if (decide (st1.2 < (w.length : Int))) = true then
  ck (0 ≤ st1.2) <| ck (st1.2 < (w.length : Int)) <| ck (InK .i64 ((w.getD st1.2.toNat 0) + 1)) <| ck (0 ≤ st1.2) <| ck (st1.2 < 10) <| ck (InK .i64 (st1.2 + 1)) <| some (.next ((setInt T94 st1.1 (0 + st1.2.toNat * 1) ((w.getD st1.2.toNat 0) + 1)), (st1.2 + 1)))
  else
  some (.done st1.1)
noncomputable def weave_keyOf (w : List Int) : Option ((El T94)) :=
  (whileO (weave_keyOf_b1 w) ((Ty.dflt T94), 0)).bind fun r1 =>
  weave_keyOf_k1 r1

/- (lineal/weave.ties).starts -/
noncomputable def weave_ties_starts (t : (El T59)) (w : List Int) : Option Unit :=
  some ()

/- slices.Index[[]int,int] -/
noncomputable def slices_Index_k1 : Option Int :=
  some (-1)
noncomputable def slices_Index_b1 (s : List Int) (v0 : Int) (st1 : Int) : Option (Step Int (Sum Int Unit)) :=
  if (decide (st1 < (s.length : Int))) = true then
  ck (0 ≤ st1) <| ck (st1 < (s.length : Int)) <| if (decide (v0 = (s.getD st1.toNat 0))) = true then
  some (.done (Sum.inl st1))
  else
  ck (InK .i64 (st1 + 1)) <| some (.next (st1 + 1))
  else
  some (.done (Sum.inr ()))
noncomputable def slices_Index (s : List Int) (v0 : Int) : Option Int :=
  (whileO (slices_Index_b1 s v0) 0).bind fun x => match x with
  | .inl r1 => (some r1)
  | .inr _ => (slices_Index_k1)

/- (lineal/weave.ties).onAny -/
noncomputable def weave_ties_onAny_k1 : Option Bool :=
  some false
noncomputable def weave_ties_onAny_b1 (t : (El T59)) (letter : Int) (w : List Int) (st1 : Int) : Option (Step Int (Sum Unit Unit)) :=
  if (decide (st1 < (w.length : Int))) = true then
  ck (0 ≤ st1) <| ck (st1 < (w.length : Int)) <| ck (0 ≤ letter) <| ck (letter < 6) <| ck (0 ≤ (w.getD st1.toNat 0)) <| ck ((w.getD st1.toNat 0) < 6) <| if (boolAt T59 t ((0 + letter.toNat * 6) + (w.getD st1.toNat 0).toNat * 1)) = true then
  some (.done (Sum.inl ()))
  else
  ck (InK .i64 (st1 + 1)) <| some (.next (st1 + 1))
  else
  some (.done (Sum.inr ()))
noncomputable def weave_ties_onAny (t : (El T59)) (letter : Int) (w : List Int) : Option Bool :=
  (whileO (weave_ties_onAny_b1 t letter w) 0).bind fun x => match x with
  | .inl _ => (some true)
  | .inr _ => (weave_ties_onAny_k1)

/- slices.Grow[[]int,int] -/
noncomputable def slices_Grow (n : Int) : Option Unit :=
  if (decide (n < 0)) = true then
  none
  else
  ck (InK .i64 (0 - 0)) <| ck (InK .i64 (n - (0 - 0))) <| if (decide (0 < (n - (0 - 0)))) = true then
  ck (0 < (n - (0 - 0))) <| ck ((n - (0 - 0)) ≤ 9223372036854775806) <| ck (8 * (n - (0 - 0)) ≤ 281474976710656) <| ck (0 ≤ 0) <| ck (0 ≤ ((List.replicate (n - (0 - 0)).toNat (0 : Int)).length : Int)) <| some ()
  else
  some ()

/- slices.Concat[[]int,int] -/
noncomputable def slices_Concat_k2 (b2 : (List Int)) : Option ((List Int)) :=
  some b2
noncomputable def slices_Concat_b2 (slices : List (List Int)) (st2 : (List Int) × Int) : Option (Step ((List Int) × Int) ((List Int))) :=
  if (decide (st2.2 < (slices.length : Int))) = true then
  ck (0 ≤ st2.2) <| ck (st2.2 < (slices.length : Int)) <| ck ((st2.1.length + (slices.getD st2.2.toNat []).length) * 8 ≤ 140737488355328) <| ck (InK .i64 (st2.2 + 1)) <| some (.next ((st2.1 ++ (slices.getD st2.2.toNat [])), (st2.2 + 1)))
  else
  some (.done st2.1)
noncomputable def slices_Concat_k1 (slices : List (List Int)) (b1 : Int) : Option ((List Int)) :=
  (slices_Grow b1).bind fun v0 =>
  (whileO (slices_Concat_b2 slices) ([], 0)).bind fun r2 =>
  slices_Concat_k2 r2
noncomputable def slices_Concat_b1 (slices : List (List Int)) (st1 : Int × Int) : Option (Step (Int × Int) Int) :=
  if (decide (st1.2 < (slices.length : Int))) = true then
  ck (0 ≤ st1.2) <| ck (st1.2 < (slices.length : Int)) <| ck (InK .i64 (st1.1 + ((slices.getD st1.2.toNat []).length : Int))) <| if (decide ((st1.1 + ((slices.getD st1.2.toNat []).length : Int)) < 0)) = true then
  none
  else
  ck (InK .i64 (st1.2 + 1)) <| some (.next ((st1.1 + ((slices.getD st1.2.toNat []).length : Int)), (st1.2 + 1)))
  else
  some (.done st1.1)
noncomputable def slices_Concat (slices : List (List Int)) : Option ((List Int)) :=
  (whileO (slices_Concat_b1 slices) (0, 0)).bind fun r1 =>
  slices_Concat_k1 slices r1

/- (lineal/weave.ties).without -/
noncomputable def weave_ties_without (t : (El T59)) (w : List Int) (letter : Int) : Option ((List Int) × Bool) :=
  (slices_Index w letter).bind fun v0 =>
  if (decide (v0 < 0)) = true then
  some ([], false)
  else
  ck (0 ≤ v0) <| ck (v0 ≤ (w.length : Int)) <| (weave_ties_onAny t letter (w.take v0.toNat)).bind fun v0_2 =>
  if v0_2 = true then
  some ([], false)
  else
  ck (0 ≤ v0) <| ck (v0 ≤ (w.length : Int)) <| ck (InK .i64 (v0 + 1)) <| ck (0 ≤ (v0 + 1)) <| ck ((v0 + 1) ≤ (w.length : Int)) <| (slices_Concat [(w.take v0.toNat), (w.drop (v0 + 1).toNat)]).bind fun v0_3 =>
  some (v0_3, true)

/- (lineal/weave.ties).starts$1 -/
noncomputable def weave_ties_starts_1_b1 (S R : Type) (a1 : (El T59)) (a2 : List Int) (yl : Int × (List Int) → S → Option (Step S R)) (st1 : Int × S) : Option (Step (Int × S) (Sum R S)) :=
  if (decide (st1.1 < 6)) = true then
  (weave_ties_without a1 a2 st1.1).bind fun v0 =>
  if v0.2 = true then
  (yl (st1.1, v0.1) st1.2).bind fun x => match x with
  | .next s => (ck (InK .i64 (st1.1 + 1)) <| some (.next ((st1.1 + 1), s)))
  | .done e => (some (.done (Sum.inl e)))
  else
  ck (InK .i64 (st1.1 + 1)) <| some (.next ((st1.1 + 1), st1.2))
  else
  some (.done (Sum.inr st1.2))
noncomputable def weave_ties_starts_1 (S R : Type) (a1 : (El T59)) (a2 : List Int) (yl : Int × (List Int) → S → Option (Step S R)) (s0 : S) : Option (Sum S R) :=
  (whileO (weave_ties_starts_1_b1 S R a1 a2 yl) (0, s0)).bind fun x => match x with
  | .inl r1 => (some (Sum.inr r1))
  | .inr r1_2 => (some (Sum.inl r1_2))

/- (lineal/weave.ties).size -/
noncomputable def weave_ties_size_k1 (v0 : (El T94)) (b1 : (List ((El T94) × Int)) × Int) : Option (Int × (List ((El T94) × Int))) :=
  ck (okD T94 v0) <| some (b1.2, (mput b1.1 v0 b1.2))
noncomputable def weave_ties_size_y1 (slf : ((El T59)) → (List Int) → (List ((El T94) × Int)) → Option (Int × (List ((El T94) × Int)))) (t : (El T59)) (y1 : Int × (List Int)) (st1 : (List ((El T94) × Int)) × Int) : Option (Step ((List ((El T94) × Int)) × Int) Empty) :=
  (slf t y1.2 st1.1).bind fun v0_3 =>
  ck (InK .i64 (st1.2 + v0_3.1)) <| some (.next (v0_3.2, (st1.2 + v0_3.1)))
noncomputable def weave_ties_sizeF (slf : ((El T59)) → (List Int) → (List ((El T94) × Int)) → Option (Int × (List ((El T94) × Int)))) (t : (El T59)) (w : List Int) (known : List ((El T94) × Int)) : Option (Int × (List ((El T94) × Int))) :=
  if (decide ((w.length : Int) = 0)) = true then
  some (1, known)
  else
  (weave_keyOf w).bind fun v0 =>
  ck (okD T94 v0) <| if (mhas known v0) = true then
  some ((mget 0 known v0), known)
  else
  (weave_ties_starts t w).bind fun v0_2 =>
  (weave_ties_starts_1 ((List ((El T94) × Int)) × Int) Empty t w (weave_ties_size_y1 slf t) (known, 0)).bind fun x => match x with
  | .inl st1_2 => (weave_ties_size_k1 v0 st1_2)
  | .inr r => r.elim
noncomputable def weave_ties_size (n : Nat) : ((El T59)) → (List Int) → (List ((El T94) × Int)) → Option (Int × (List ((El T94) × Int))) := Nat.rec (motive := fun _ => ((El T59)) → (List Int) → (List ((El T94) × Int)) → Option (Int × (List ((El T94) × Int)))) (fun _ _ _ => none) (fun _ slf => weave_ties_sizeF slf) n

/- lineal/weave.Size -/
noncomputable def weave_Size (l : Int × (List (Int × Int))) (w : List Int) : Option (Int × Int) :=
  (weave_checked l [w]).bind fun v0 =>
  if (!(decide (v0.2 = 0))) = true then
  some (0, v0.2)
  else
  (weave_ties_size fuel v0.1 w []).bind fun v0_2 =>
  some (v0_2.1, 0)

/- lineal/lineallaw03.Awake -/
noncomputable def lineallaw03_Awake : Option Bool :=
  (weave_Size (3, [(0, 1)]) [2, 0, 1]).bind fun v0 =>
  if (decide (v0.2 = 0)) = true then
  some (decide (v0.1 = 3))
  else
  some false

/- lineal/lineallaw03.Long -/
noncomputable def lineallaw03_Long_k1 (l : Int × (List (Int × Int))) : Option Bool :=
  some (decide (60 < (l.2.length : Int)))
noncomputable def lineallaw03_Long_b1 (words : List (List Int)) (st1 : Int) : Option (Step Int (Sum Unit Unit)) :=
  if (decide (st1 < (words.length : Int))) = true then
  ck (0 ≤ st1) <| ck (st1 < (words.length : Int)) <| if (decide (60 < ((words.getD st1.toNat []).length : Int))) = true then
  some (.done (Sum.inl ()))
  else
  ck (InK .i64 (st1 + 1)) <| some (.next (st1 + 1))
  else
  some (.done (Sum.inr ()))
noncomputable def lineallaw03_Long (l : Int × (List (Int × Int))) (words : List (List Int)) : Option Bool :=
  (whileO (lineallaw03_Long_b1 words) 0).bind fun x => match x with
  | .inl _ => (some true)
  | .inr _ => (lineallaw03_Long_k1 l)

/- lineal/weave.Depend -/
noncomputable def weave_Depend (l : Int × (List (Int × Int))) (a : Int) (b : Int) : Option (Bool × Int) :=
  (weave_checked l []).bind fun v0 =>
  if (!(decide (v0.2 = 0))) = true then
  some (false, v0.2)
  else
  (weave_isLetter l a).bind fun v0_2 =>
  if (!v0_2) = true then
  some (false, 2)
  else
  (weave_isLetter l b).bind fun v0_3 =>
  if (!v0_3) = true then
  some (false, 2)
  else
  ck (0 ≤ a) <| ck (a < 6) <| ck (0 ≤ b) <| ck (b < 6) <| some ((boolAt T59 v0.1 ((0 + a.toNat * 6) + b.toNat * 1)), 0)

/- lineal/linealref03.Valid -/
noncomputable def linealref03_Valid_k1 : Option Bool :=
  some true
noncomputable def linealref03_Valid_k2 (st1 : Int) : Option (Step Int (Sum Unit Unit)) :=
  ck (InK .i64 (st1 + 1)) <| some (.next (st1 + 1))
noncomputable def linealref03_Valid_b2 (l : Int × (List (Int × Int))) (st1 : Int) (st2 : Int) : Option (Step Int (Sum Unit Unit)) :=
  if (decide (st2 < ((l.2.take st1.toNat).length : Int))) = true then
  ck (0 ≤ st2) <| ck (st2 < ((l.2.take st1.toNat).length : Int)) <| ck (InK .i64 (l.2.getD st1.toNat (0, 0)).1) <| ck (InK .i64 (l.2.getD st1.toNat (0, 0)).2) <| ck (InK .i64 ((l.2.take st1.toNat).getD st2.toNat (0, 0)).1) <| ck (InK .i64 ((l.2.take st1.toNat).getD st2.toNat (0, 0)).2) <| if (decide ((l.2.getD st1.toNat (0, 0)) = ((l.2.take st1.toNat).getD st2.toNat (0, 0)))) = true then
  some (.done (Sum.inl ()))
  else
  ck (InK .i64 (st2 + 1)) <| some (.next (st2 + 1))
  else
  some (.done (Sum.inr ()))
noncomputable def linealref03_Valid_b1 (l : Int × (List (Int × Int))) (st1 : Int) : Option (Step Int (Sum Unit Unit)) :=
  if (decide (st1 < (l.2.length : Int))) = true then
  ck (0 ≤ st1) <| ck (st1 < (l.2.length : Int)) <| if (decide ((l.2.getD st1.toNat (0, 0)).1 < 0)) = true then
  some (.done (Sum.inl ()))
  else
  if (decide ((l.2.getD st1.toNat (0, 0)).2 < 0)) = true then
  some (.done (Sum.inl ()))
  else
  if (decide (l.1 ≤ (l.2.getD st1.toNat (0, 0)).1)) = true then
  some (.done (Sum.inl ()))
  else
  if (decide (l.1 ≤ (l.2.getD st1.toNat (0, 0)).2)) = true then
  some (.done (Sum.inl ()))
  else
  if (decide ((l.2.getD st1.toNat (0, 0)).2 ≤ (l.2.getD st1.toNat (0, 0)).1)) = true then
  some (.done (Sum.inl ()))
  else
  ck (0 ≤ st1) <| ck (st1 ≤ (l.2.length : Int)) <| (whileO (linealref03_Valid_b2 l st1) 0).bind fun x => match x with
  | .inl _ => (some (.done (Sum.inl ())))
  | .inr _ => (linealref03_Valid_k2 st1)
  else
  some (.done (Sum.inr ()))
noncomputable def linealref03_Valid (l : Int × (List (Int × Int))) : Option Bool :=
  if (decide (l.1 < 1)) = true then
  some false
  else
  if (decide (6 < l.1)) = true then
  some false
  else
  (whileO (linealref03_Valid_b1 l) 0).bind fun x => match x with
  | .inl _ => (some false)
  | .inr _ => (linealref03_Valid_k1)

/- lineal/linealref03.IsLetter -/
noncomputable def linealref03_IsLetter (l : Int × (List (Int × Int))) (a : Int) : Option Bool :=
  if (decide (0 ≤ a)) = true then
  some (decide (a < l.1))
  else
  some false

/- lineal/linealref03.depend -/
noncomputable def linealref03_depend_k1 (b1 : Bool) : Option Bool :=
  some b1
noncomputable def linealref03_depend_b1 (l : Int × (List (Int × Int))) (a : Int) (b : Int) (st1 : Bool × Int) : Option (Step (Bool × Int) Bool) :=
  if (decide (st1.2 < (l.2.length : Int))) = true then
  ck (0 ≤ st1.2) <| ck (st1.2 < (l.2.length : Int)) <| if st1.1 = true then
  ck (InK .i64 (st1.2 + 1)) <| some (.next (true, (st1.2 + 1)))
  else
  if (decide ((l.2.getD st1.2.toNat (0, 0)).1 = a)) = true then
  if (decide ((l.2.getD st1.2.toNat (0, 0)).2 = b)) = true then
  ck (InK .i64 (st1.2 + 1)) <| some (.next (true, (st1.2 + 1)))
  else
  if (decide ((l.2.getD st1.2.toNat (0, 0)).1 = b)) = true then
  ck (InK .i64 (st1.2 + 1)) <| some (.next ((decide ((l.2.getD st1.2.toNat (0, 0)).2 = a)), (st1.2 + 1)))
  else
  ck (InK .i64 (st1.2 + 1)) <| some (.next (false, (st1.2 + 1)))
  else
  if (decide ((l.2.getD st1.2.toNat (0, 0)).1 = b)) = true then
  ck (InK .i64 (st1.2 + 1)) <| some (.next ((decide ((l.2.getD st1.2.toNat (0, 0)).2 = a)), (st1.2 + 1)))
  else
  ck (InK .i64 (st1.2 + 1)) <| some (.next (false, (st1.2 + 1)))
  else
  some (.done st1.1)
noncomputable def linealref03_depend (l : Int × (List (Int × Int))) (a : Int) (b : Int) : Option Bool :=
  (whileO (linealref03_depend_b1 l a b) ((decide (a = b)), 0)).bind fun r1 =>
  linealref03_depend_k1 r1

/- lineal/linealref03.Depend -/
noncomputable def linealref03_Depend (l : Int × (List (Int × Int))) (a : Int) (b : Int) : Option (Bool × Int) :=
  (linealref03_Valid l).bind fun v0 =>
  if (!v0) = true then
  some (false, 30)
  else
  (linealref03_IsLetter l a).bind fun v0_2 =>
  if (!v0_2) = true then
  some (false, 2)
  else
  (linealref03_IsLetter l b).bind fun v0_3 =>
  if (!v0_3) = true then
  some (false, 2)
  else
  (linealref03_depend l a b).bind fun v0_4 =>
  some (v0_4, 0)

/- lineal/weave.Valid -/
noncomputable def weave_Valid (l : Int × (List (Int × Int))) : Option Bool :=
  (weave_tiesOf l).bind fun v0 =>
  some v0.2

/- slices.Clone[[]int,int] -/
noncomputable def slices_Clone (s : List Int) : Option ((List Int)) :=
  ck (s.length * 8 ≤ 140737488355328) <| some s

/- (lineal/weave.ties).exchange -/
noncomputable def weave_ties_exchange (t : (El T59)) (at0 : Int) (w : List Int) : Option (Bool × (List Int)) :=
  if (decide (at0 < 0)) = true then
  some (false, w)
  else
  ck (InK .i64 ((w.length : Int) - 1)) <| if (decide (((w.length : Int) - 1) ≤ at0)) = true then
  some (false, w)
  else
  ck (0 ≤ at0) <| ck (at0 < (w.length : Int)) <| ck (InK .i64 (at0 + 1)) <| ck (0 ≤ (at0 + 1)) <| ck ((at0 + 1) < (w.length : Int)) <| ck (0 ≤ (w.getD at0.toNat 0)) <| ck ((w.getD at0.toNat 0) < 6) <| ck (0 ≤ (w.getD (at0 + 1).toNat 0)) <| ck ((w.getD (at0 + 1).toNat 0) < 6) <| if (boolAt T59 t ((0 + (w.getD at0.toNat 0).toNat * 6) + (w.getD (at0 + 1).toNat 0).toNat * 1)) = true then
  some (false, w)
  else
  ck (InK .i64 (at0 + 1)) <| ck (InK .i64 (at0 + 1)) <| ck (0 ≤ (at0 + 1)) <| ck ((at0 + 1) < (w.length : Int)) <| ck (0 ≤ at0) <| ck (at0 < (w.length : Int)) <| ck (0 ≤ at0) <| ck (at0 < (w.length : Int)) <| ck (0 ≤ (at0 + 1)) <| ck ((at0 + 1) < ((w.set at0.toNat (w.getD (at0 + 1).toNat 0)).length : Int)) <| some (true, ((w.set at0.toNat (w.getD (at0 + 1).toNat 0)).set (at0 + 1).toNat (w.getD at0.toNat 0)))

/- lineal/weave.Exchanged -/
noncomputable def weave_Exchanged (l : Int × (List (Int × Int))) (w : List Int) (at0 : Int) : Option ((List Int) × Int) :=
  (weave_checked l [w]).bind fun v0 =>
  if (!(decide (v0.2 = 0))) = true then
  some ([], v0.2)
  else
  (slices_Clone w).bind fun v0_2 =>
  (weave_ties_exchange v0.1 at0 v0_2).bind fun v0_3 =>
  if (!v0_3.1) = true then
  some ([], 2)
  else
  some (v0_3.2, 0)

/- lineal/linealref03.IsWord -/
noncomputable def linealref03_IsWord_k1 (w : List Int) : Option Bool :=
  some (decide ((w.length : Int) ≤ 10))
noncomputable def linealref03_IsWord_b1 (l : Int × (List (Int × Int))) (w : List Int) (st1 : Int) : Option (Step Int (Sum Unit Unit)) :=
  if (decide (st1 < (w.length : Int))) = true then
  ck (0 ≤ st1) <| ck (st1 < (w.length : Int)) <| (linealref03_IsLetter l (w.getD st1.toNat 0)).bind fun v0 =>
  if (!v0) = true then
  some (.done (Sum.inl ()))
  else
  ck (InK .i64 (st1 + 1)) <| some (.next (st1 + 1))
  else
  some (.done (Sum.inr ()))
noncomputable def linealref03_IsWord (l : Int × (List (Int × Int))) (w : List Int) : Option Bool :=
  (whileO (linealref03_IsWord_b1 l w) 0).bind fun x => match x with
  | .inl _ => (some false)
  | .inr _ => (linealref03_IsWord_k1 w)

/- lineal/linealref03.asked -/
noncomputable def linealref03_asked (l : Int × (List (Int × Int))) (w : List Int) (v0 : List Int) : Option Int :=
  (linealref03_Valid l).bind fun v0_2 =>
  if (!v0_2) = true then
  some 30
  else
  (linealref03_IsWord l w).bind fun v0_3 =>
  if (!v0_3) = true then
  some 31
  else
  (linealref03_IsWord l v0).bind fun v0_4 =>
  if (!v0_4) = true then
  some 31
  else
  some 0

/- lineal/linealref03.can -/
noncomputable def linealref03_can (l : Int × (List (Int × Int))) (w : List Int) (at0 : Int) : Option Bool :=
  if (decide (0 ≤ at0)) = true then
  ck (InK .i64 ((w.length : Int) - 1)) <| if (decide (at0 < ((w.length : Int) - 1))) = true then
  ck (0 ≤ at0) <| ck (at0 < (w.length : Int)) <| ck (InK .i64 (at0 + 1)) <| ck (0 ≤ (at0 + 1)) <| ck ((at0 + 1) < (w.length : Int)) <| (linealref03_depend l (w.getD at0.toNat 0) (w.getD (at0 + 1).toNat 0)).bind fun v0 =>
  some (!v0)
  else
  some false
  else
  some false

/- lineal/linealref03.exchanged -/
noncomputable def linealref03_exchanged (w : List Int) (at0 : Int) : Option Unit :=
  ck (w.length * 8 ≤ 140737488355328) <| ck (InK .i64 (at0 + 1)) <| ck (InK .i64 (at0 + 1)) <| ck (0 ≤ (at0 + 1)) <| ck ((at0 + 1) < (w.length : Int)) <| ck (0 ≤ at0) <| ck (at0 < (w.length : Int)) <| ck (0 ≤ at0) <| ck (at0 < (w.length : Int)) <| ck (0 ≤ (at0 + 1)) <| ck ((at0 + 1) < ((w.set at0.toNat (w.getD (at0 + 1).toNat 0)).length : Int)) <| some ()

/- lineal/linealref03.Exchanged -/
noncomputable def linealref03_Exchanged (l : Int × (List (Int × Int))) (w : List Int) (at0 : Int) : Option ((List Int) × Int) :=
  (linealref03_asked l w []).bind fun v0 =>
  if (!(decide (v0 = 0))) = true then
  some ([], v0)
  else
  (linealref03_can l w at0).bind fun v0_2 =>
  if (!v0_2) = true then
  some ([], 2)
  else
  (linealref03_exchanged w at0).bind fun v0_3 =>
  some (((w.set at0.toNat (w.getD (at0 + 1).toNat 0)).set (at0 + 1).toNat (w.getD at0.toNat 0)), 0)

/- lineal/linealref03.SameInts -/
noncomputable def linealref03_SameInts_k1 : Option Bool :=
  some true
noncomputable def linealref03_SameInts_b1 (a : List Int) (b : List Int) (st1 : Int) : Option (Step Int (Sum Unit Unit)) :=
  if (decide (st1 < (a.length : Int))) = true then
  ck (0 ≤ st1) <| ck (st1 < (a.length : Int)) <| ck (0 ≤ st1) <| ck (st1 < (b.length : Int)) <| if (!(decide ((a.getD st1.toNat 0) = (b.getD st1.toNat 0)))) = true then
  some (.done (Sum.inl ()))
  else
  ck (InK .i64 (st1 + 1)) <| some (.next (st1 + 1))
  else
  some (.done (Sum.inr ()))
noncomputable def linealref03_SameInts (a : List Int) (b : List Int) : Option Bool :=
  if (!(decide ((a.length : Int) = (b.length : Int)))) = true then
  some false
  else
  (whileO (linealref03_SameInts_b1 a b) 0).bind fun x => match x with
  | .inl _ => (some false)
  | .inr _ => (linealref03_SameInts_k1)

/- lineal/weave.Projection -/
noncomputable def weave_Projection_k1 (b1 : (List Int)) : Option ((List Int) × Int) :=
  some (b1, 0)
noncomputable def weave_Projection_b1 (w : List Int) (a : Int) (b : Int) (st1 : (List Int) × Int) : Option (Step ((List Int) × Int) ((List Int))) :=
  if (decide (st1.2 < (w.length : Int))) = true then
  ck (0 ≤ st1.2) <| ck (st1.2 < (w.length : Int)) <| if (decide ((w.getD st1.2.toNat 0) = a)) = true then
  ck ((st1.1.length + 1) * 8 ≤ 140737488355328) <| ck (InK .i64 (st1.2 + 1)) <| some (.next ((st1.1 ++ [(w.getD st1.2.toNat 0)]), (st1.2 + 1)))
  else
  if (decide ((w.getD st1.2.toNat 0) = b)) = true then
  ck ((st1.1.length + 1) * 8 ≤ 140737488355328) <| ck (InK .i64 (st1.2 + 1)) <| some (.next ((st1.1 ++ [(w.getD st1.2.toNat 0)]), (st1.2 + 1)))
  else
  ck (InK .i64 (st1.2 + 1)) <| some (.next (st1.1, (st1.2 + 1)))
  else
  some (.done st1.1)
noncomputable def weave_Projection (l : Int × (List (Int × Int))) (w : List Int) (a : Int) (b : Int) : Option ((List Int) × Int) :=
  (weave_checked l [w]).bind fun v0 =>
  if (!(decide (v0.2 = 0))) = true then
  some ([], v0.2)
  else
  (weave_isLetter l a).bind fun v0_2 =>
  if (!v0_2) = true then
  some ([], 2)
  else
  (weave_isLetter l b).bind fun v0_3 =>
  if (!v0_3) = true then
  some ([], 2)
  else
  (whileO (weave_Projection_b1 w a b) ([], 0)).bind fun r1 =>
  weave_Projection_k1 r1

/- lineal/linealref03.Projection -/
noncomputable def linealref03_Projection_k1 (b1 : (List Int)) : Option ((List Int) × Int) :=
  some (b1, 0)
noncomputable def linealref03_Projection_b1 (w : List Int) (a : Int) (b : Int) (st1 : (List Int) × Int) : Option (Step ((List Int) × Int) ((List Int))) :=
  if (decide (st1.2 < (w.length : Int))) = true then
  ck (0 ≤ st1.2) <| ck (st1.2 < (w.length : Int)) <| if (decide ((w.getD st1.2.toNat 0) = a)) = true then
  ck ((st1.1.length + 1) * 8 ≤ 140737488355328) <| ck (InK .i64 (st1.2 + 1)) <| some (.next ((st1.1 ++ [(w.getD st1.2.toNat 0)]), (st1.2 + 1)))
  else
  if (decide ((w.getD st1.2.toNat 0) = b)) = true then
  ck ((st1.1.length + 1) * 8 ≤ 140737488355328) <| ck (InK .i64 (st1.2 + 1)) <| some (.next ((st1.1 ++ [(w.getD st1.2.toNat 0)]), (st1.2 + 1)))
  else
  ck (InK .i64 (st1.2 + 1)) <| some (.next (st1.1, (st1.2 + 1)))
  else
  some (.done st1.1)
noncomputable def linealref03_Projection (l : Int × (List (Int × Int))) (w : List Int) (a : Int) (b : Int) : Option ((List Int) × Int) :=
  (linealref03_asked l w []).bind fun v0 =>
  if (!(decide (v0 = 0))) = true then
  some ([], v0)
  else
  (linealref03_IsLetter l a).bind fun v0_2 =>
  if (!v0_2) = true then
  some ([], 2)
  else
  (linealref03_IsLetter l b).bind fun v0_3 =>
  if (!v0_3) = true then
  some ([], 2)
  else
  (whileO (linealref03_Projection_b1 w a b) ([], 0)).bind fun r1 =>
  linealref03_Projection_k1 r1

/- lineal/lineallaw03.WeaveExchanges -/
noncomputable def lineallaw03_WeaveExchanges (l : Int × (List (Int × Int))) (w : List Int) (at0 : Int) (a : Int) (b : Int) : Option Bool :=
  (lineallaw03_Long l [w]).bind fun v0 =>
  if v0 = true then
  (lineallaw03_Awake).bind fun v0_2 =>
  some v0_2
  else
  (weave_Depend l a b).bind fun v0_3 =>
  (linealref03_Depend l a b).bind fun v0_4 =>
  (weave_Valid l).bind fun v0_5 =>
  (linealref03_Valid l).bind fun v0_6 =>
  if ((v0_5 == v0_6) != true) = true then
  some false
  else
  if ((v0_3.1 == v0_4.1) != true) = true then
  some false
  else
  if (!(decide (v0_3.2 = v0_4.2))) = true then
  some false
  else
  (weave_Exchanged l w at0).bind fun v0_7 =>
  (linealref03_Exchanged l w at0).bind fun v0_8 =>
  (linealref03_SameInts v0_7.1 v0_8.1).bind fun v0_9 =>
  if (!v0_9) = true then
  some false
  else
  if (!(decide (v0_7.2 = v0_8.2))) = true then
  some false
  else
  (weave_Projection l w a b).bind fun v0_10 =>
  (linealref03_Projection l w a b).bind fun v0_11 =>
  (linealref03_SameInts v0_10.1 v0_11.1).bind fun v0_12 =>
  if v0_12 = true then
  if (decide (v0_10.2 = v0_11.2)) = true then
  (lineallaw03_Awake).bind fun v0_13 =>
  some v0_13
  else
  some false
  else
  some false

/- (lineal/weave.ties).class -/
noncomputable def weave_ties_class (t : (El T59)) (w : List Int) : Option Unit :=
  some ()

/- (lineal/weave.ties).class$1 -/
noncomputable def weave_ties_class_1_y2 (S R : Type) (yl : (List Int) → S → Option (Step S R)) (y1 : Int × (List Int)) (y2 : (List Int)) (st2 : S) : Option (Step S R) :=
  ck ((1 + y2.length) * 8 ≤ 140737488355328) <| (yl (y1.1 :: y2) st2).bind fun x => match x with
  | .next s_2 => (some (.next s_2))
  | .done e_2 => (some (.done e_2))
noncomputable def weave_ties_class_1_y1 (S R : Type) (slf : ∀ (S R : Type), (List Int) → ((El T59)) → ((List Int) → S → Option (Step S R)) → S → Option (Sum S R)) (a2 : (El T59)) (yl : (List Int) → S → Option (Step S R)) (y1 : Int × (List Int)) (st1 : S) : Option (Step S R) :=
  (weave_ties_class a2 y1.2).bind fun v0_2 =>
  (slf S R y1.2 a2 (weave_ties_class_1_y2 S R yl y1) st1).bind fun x => match x with
  | .inl st2_2 => (some (.next st2_2))
  | .inr r2 => (some (.done r2))
noncomputable def weave_ties_class_1F (slf : ∀ (S R : Type), (List Int) → ((El T59)) → ((List Int) → S → Option (Step S R)) → S → Option (Sum S R)) (S R : Type) (a1 : List Int) (a2 : (El T59)) (yl : (List Int) → S → Option (Step S R)) (s0 : S) : Option (Sum S R) :=
  if (decide ((a1.length : Int) = 0)) = true then
  (yl [] s0).bind fun x => match x with
  | .next s => (some (Sum.inl s))
  | .done e => (some (Sum.inr e))
  else
  (weave_ties_starts a2 a1).bind fun v0 =>
  (weave_ties_starts_1 S R a2 a1 (weave_ties_class_1_y1 S R slf a2 yl) s0).bind fun x => match x with
  | .inl st1_2 => (some (Sum.inl st1_2))
  | .inr r1 => (some (Sum.inr r1))
noncomputable def weave_ties_class_1 (n : Nat) : ∀ (S R : Type), (List Int) → ((El T59)) → ((List Int) → S → Option (Step S R)) → S → Option (Sum S R) := Nat.rec (motive := fun _ => ∀ (S R : Type), (List Int) → ((El T59)) → ((List Int) → S → Option (Step S R)) → S → Option (Sum S R)) (fun _ _ _ _ _ _ => none) (fun _ slf => weave_ties_class_1F slf) n

/- (lineal/weave.ties).first -/
noncomputable def weave_ties_first_k1 : Option ((List Int)) :=
  some []
noncomputable def weave_ties_first_y1 (y1 : (List Int)) (st1 : Unit) : Option (Step Unit ((List Int))) :=
  some (.done y1)
noncomputable def weave_ties_first (t : (El T59)) (w : List Int) : Option ((List Int)) :=
  (weave_ties_class t w).bind fun v0 =>
  (weave_ties_class_1 fuel Unit ((List Int)) w t (weave_ties_first_y1) ()).bind fun x => match x with
  | .inl st1_2 => (weave_ties_first_k1)
  | .inr r1 => (some r1)

/- lineal/weave.Joined -/
noncomputable def weave_Joined (l : Int × (List (Int × Int))) (w : List Int) (v0 : List Int) : Option ((List Int) × Int) :=
  (weave_checked l [w, v0]).bind fun v0_2 =>
  if (!(decide (v0_2.2 = 0))) = true then
  some ([], v0_2.2)
  else
  ck (InK .i64 ((w.length : Int) + (v0.length : Int))) <| if (decide (10 < ((w.length : Int) + (v0.length : Int)))) = true then
  some ([], 4)
  else
  (slices_Concat [w, v0]).bind fun v0_3 =>
  (weave_ties_first v0_2.1 v0_3).bind fun v0_4 =>
  some (v0_4, 0)

/- lineal/linealref03.free -/
noncomputable def linealref03_free_k1 : Option Int :=
  some (-1)
noncomputable def linealref03_free_b1 (l : Int × (List (Int × Int))) (w : List Int) (a : Int) (st1 : Int) : Option (Step Int (Sum Int Unit)) :=
  if (decide (st1 < (w.length : Int))) = true then
  ck (0 ≤ st1) <| ck (st1 < (w.length : Int)) <| if (decide ((w.getD st1.toNat 0) = a)) = true then
  some (.done (Sum.inl st1))
  else
  (linealref03_depend l a (w.getD st1.toNat 0)).bind fun v0 =>
  if v0 = true then
  some (.done (Sum.inl (-1)))
  else
  ck (InK .i64 (st1 + 1)) <| some (.next (st1 + 1))
  else
  some (.done (Sum.inr ()))
noncomputable def linealref03_free (l : Int × (List (Int × Int))) (w : List Int) (a : Int) : Option Int :=
  (whileO (linealref03_free_b1 l w a) 0).bind fun x => match x with
  | .inl r1 => (some r1)
  | .inr _ => (linealref03_free_k1)

/- lineal/linealref03.starts -/
noncomputable def linealref03_starts_k1 (b1 : (List Int)) : Option ((List Int)) :=
  some b1
noncomputable def linealref03_starts_b1 (l : Int × (List (Int × Int))) (w : List Int) (st1 : (List Int) × Int) : Option (Step ((List Int) × Int) ((List Int))) :=
  if (decide (st1.2 < l.1)) = true then
  (linealref03_free l w st1.2).bind fun v0 =>
  if (decide (0 ≤ v0)) = true then
  ck ((st1.1.length + 1) * 8 ≤ 140737488355328) <| ck (InK .i64 (st1.2 + 1)) <| some (.next ((st1.1 ++ [st1.2]), (st1.2 + 1)))
  else
  ck (InK .i64 (st1.2 + 1)) <| some (.next (st1.1, (st1.2 + 1)))
  else
  some (.done st1.1)
noncomputable def linealref03_starts (l : Int × (List (Int × Int))) (w : List Int) : Option ((List Int)) :=
  (whileO (linealref03_starts_b1 l w) ([], 0)).bind fun r1 =>
  linealref03_starts_k1 r1

/- lineal/linealref03.without -/
noncomputable def linealref03_without (w : List Int) (at0 : Int) : Option Unit :=
  ck (0 ≤ at0) <| ck (at0 ≤ (w.length : Int)) <| ck ((w.take at0.toNat).length * 8 ≤ 140737488355328) <| ck (InK .i64 (at0 + 1)) <| ck (0 ≤ (at0 + 1)) <| ck ((at0 + 1) ≤ (w.length : Int)) <| ck (((w.take at0.toNat).length + (w.drop (at0 + 1).toNat).length) * 8 ≤ 140737488355328) <| some ()

/- lineal/linealref03.FirstForm -/
noncomputable def linealref03_FirstForm_k1 (b1 : (List Int)) : Option ((List Int)) :=
  some b1
noncomputable def linealref03_FirstForm_b1 (l : Int × (List (Int × Int))) (st1 : (List Int) × (List Int)) : Option (Step ((List Int) × (List Int)) ((List Int))) :=
  if (decide (0 < (st1.2.length : Int))) = true then
  (linealref03_starts l st1.2).bind fun v0 =>
  ck (0 < (v0.length : Int)) <| ck ((st1.1.length + 1) * 8 ≤ 140737488355328) <| (linealref03_free l st1.2 (v0.getD 0 0)).bind fun v0_2 =>
  (linealref03_without st1.2 v0_2).bind fun v0_3 =>
  some (.next ((st1.1 ++ [(v0.getD 0 0)]), ((st1.2.take v0_2.toNat) ++ (st1.2.drop (v0_2 + 1).toNat))))
  else
  some (.done st1.1)
noncomputable def linealref03_FirstForm (l : Int × (List (Int × Int))) (w : List Int) : Option ((List Int)) :=
  (whileO (linealref03_FirstForm_b1 l) ([], w)).bind fun r1 =>
  linealref03_FirstForm_k1 r1

/- lineal/linealref03.limited -/
noncomputable def linealref03_limited (l : Int × (List (Int × Int))) (w : List Int) : Option ((List Int) × Int) :=
  if (decide (10 < (w.length : Int))) = true then
  some ([], 4)
  else
  (linealref03_FirstForm l w).bind fun v0 =>
  some (v0, 0)

/- lineal/linealref03.Joined -/
noncomputable def linealref03_Joined (l : Int × (List (Int × Int))) (w : List Int) (v0 : List Int) : Option ((List Int) × Int) :=
  (linealref03_asked l w v0).bind fun v0_2 =>
  if (!(decide (v0_2 = 0))) = true then
  some ([], v0_2)
  else
  ck (w.length * 8 ≤ 140737488355328) <| ck ((w.length + v0.length) * 8 ≤ 140737488355328) <| (linealref03_limited l (w ++ v0)).bind fun v0_3 =>
  some v0_3

/- (lineal/weave.ties).rest -/
noncomputable def weave_ties_rest_k1 (b1 : (List Int)) : Option ((List Int) × Bool) :=
  some (b1, true)
noncomputable def weave_ties_rest_b1 (t : (El T59)) (begin : List Int) (st1 : (List Int) × Int) : Option (Step ((List Int) × Int) (Sum Unit ((List Int)))) :=
  if (decide (st1.2 < (begin.length : Int))) = true then
  ck (0 ≤ st1.2) <| ck (st1.2 < (begin.length : Int)) <| (weave_ties_without t st1.1 (begin.getD st1.2.toNat 0)).bind fun v0 =>
  if (!v0.2) = true then
  some (.done (Sum.inl ()))
  else
  ck (InK .i64 (st1.2 + 1)) <| some (.next (v0.1, (st1.2 + 1)))
  else
  some (.done (Sum.inr st1.1))
noncomputable def weave_ties_rest (t : (El T59)) (begin : List Int) (w : List Int) : Option ((List Int) × Bool) :=
  (whileO (weave_ties_rest_b1 t begin) (w, 0)).bind fun x => match x with
  | .inl _ => (some ([], false))
  | .inr r1 => (weave_ties_rest_k1 r1)

/- lineal/weave.Begins -/
noncomputable def weave_Begins (l : Int × (List (Int × Int))) (u : List Int) (w : List Int) : Option (Bool × Int) :=
  (weave_checked l [u, w]).bind fun v0 =>
  if (!(decide (v0.2 = 0))) = true then
  some (false, v0.2)
  else
  (weave_ties_rest v0.1 u w).bind fun v0_2 =>
  some (v0_2.2, 0)

/- lineal/linealref03.rest -/
noncomputable def linealref03_rest_k1 (b1 : (List Int)) : Option ((List Int) × Bool) :=
  some (b1, true)
noncomputable def linealref03_rest_b1 (l : Int × (List (Int × Int))) (u : List Int) (st1 : (List Int) × Int) : Option (Step ((List Int) × Int) (Sum Unit ((List Int)))) :=
  if (decide (st1.2 < (u.length : Int))) = true then
  ck (0 ≤ st1.2) <| ck (st1.2 < (u.length : Int)) <| (linealref03_free l st1.1 (u.getD st1.2.toNat 0)).bind fun v0 =>
  if (decide (v0 < 0)) = true then
  some (.done (Sum.inl ()))
  else
  (linealref03_without st1.1 v0).bind fun v0_2 =>
  ck (InK .i64 (st1.2 + 1)) <| some (.next (((st1.1.take v0.toNat) ++ (st1.1.drop (v0 + 1).toNat)), (st1.2 + 1)))
  else
  some (.done (Sum.inr st1.1))
noncomputable def linealref03_rest (l : Int × (List (Int × Int))) (u : List Int) (w : List Int) : Option ((List Int) × Bool) :=
  ck (w.length * 8 ≤ 140737488355328) <| (whileO (linealref03_rest_b1 l u) (w, 0)).bind fun x => match x with
  | .inl _ => (some ([], false))
  | .inr r1 => (linealref03_rest_k1 r1)

/- lineal/linealref03.Begins -/
noncomputable def linealref03_Begins (l : Int × (List (Int × Int))) (u : List Int) (w : List Int) : Option (Bool × Int) :=
  (linealref03_asked l u w).bind fun v0 =>
  if (!(decide (v0 = 0))) = true then
  some (false, v0)
  else
  (linealref03_rest l u w).bind fun v0_2 =>
  some (v0_2.2, 0)

/- lineal/weave.Rest -/
noncomputable def weave_Rest (l : Int × (List (Int × Int))) (u : List Int) (w : List Int) : Option ((List Int) × Int) :=
  (weave_checked l [u, w]).bind fun v0 =>
  if (!(decide (v0.2 = 0))) = true then
  some ([], v0.2)
  else
  (weave_ties_rest v0.1 u w).bind fun v0_2 =>
  if (!v0_2.2) = true then
  some ([], 5)
  else
  (weave_ties_first v0.1 v0_2.1).bind fun v0_3 =>
  some (v0_3, 0)

/- lineal/linealref03.Rest -/
noncomputable def linealref03_Rest (l : Int × (List (Int × Int))) (u : List Int) (w : List Int) : Option ((List Int) × Int) :=
  (linealref03_asked l u w).bind fun v0 =>
  if (!(decide (v0 = 0))) = true then
  some ([], v0)
  else
  (linealref03_rest l u w).bind fun v0_2 =>
  if (!v0_2.2) = true then
  some ([], 5)
  else
  (linealref03_FirstForm l v0_2.1).bind fun v0_3 =>
  some (v0_3, 0)

/- lineal/lineallaw03.WeaveRests -/
noncomputable def lineallaw03_WeaveRests (l : Int × (List (Int × Int))) (u : List Int) (w : List Int) : Option Bool :=
  (lineallaw03_Long l [u, w]).bind fun v0 =>
  if v0 = true then
  (lineallaw03_Awake).bind fun v0_2 =>
  some v0_2
  else
  (weave_Joined l u w).bind fun v0_3 =>
  (linealref03_Joined l u w).bind fun v0_4 =>
  (linealref03_SameInts v0_3.1 v0_4.1).bind fun v0_5 =>
  if (!v0_5) = true then
  some false
  else
  if (!(decide (v0_3.2 = v0_4.2))) = true then
  some false
  else
  (weave_Begins l u w).bind fun v0_6 =>
  (linealref03_Begins l u w).bind fun v0_7 =>
  (weave_Rest l u w).bind fun v0_8 =>
  (linealref03_Rest l u w).bind fun v0_9 =>
  if ((v0_6.1 == v0_7.1) != false) = true then
  if (decide (v0_6.2 = v0_7.2)) = true then
  (linealref03_SameInts v0_8.1 v0_9.1).bind fun v0_10 =>
  if v0_10 = true then
  if (decide (v0_8.2 = v0_9.2)) = true then
  (lineallaw03_Awake).bind fun v0_11 =>
  some v0_11
  else
  some false
  else
  some false
  else
  some false
  else
  some false

/- lineal/weave.Class -/
noncomputable def weave_Class_k1 (b1 : (List (List Int))) : Option ((List (List Int)) × Int) :=
  some (b1, 0)
noncomputable def weave_Class_y1 (most : Int) (y1 : (List Int)) (st1 : (List (List Int))) : Option (Step ((List (List Int))) ((List (List Int)))) :=
  if (decide ((st1.length : Int) = most)) = true then
  some (.done st1)
  else
  ck ((st1.length + 1) * 24 ≤ 140737488355328) <| some (.next (st1 ++ [y1]))
noncomputable def weave_Class (l : Int × (List (Int × Int))) (w : List Int) (most : Int) : Option ((List (List Int)) × Int) :=
  (weave_checked l [w]).bind fun v0 =>
  if (!(decide (v0.2 = 0))) = true then
  some ([], v0.2)
  else
  if (decide (most < 0)) = true then
  some ([], 2)
  else
  if (decide (1000 < most)) = true then
  some ([], 2)
  else
  (weave_ties_class v0.1 w).bind fun v0_2 =>
  (weave_ties_class_1 fuel ((List (List Int))) ((List (List Int))) w v0.1 (weave_Class_y1 most) []).bind fun x => match x with
  | .inl st1_2 => (weave_Class_k1 st1_2)
  | .inr r1 => (weave_Class_k1 r1)

/- lineal/linealref03.class -/
noncomputable def linealref03_class_k1 (b2_2 : (List (List Int))) : Option ((List (List Int))) :=
  some b2_2
noncomputable def linealref03_class_k2 (st1 : (List (List Int)) × Int) (b2 : (List (List Int))) : Option (Step ((List (List Int)) × Int) ((List (List Int)))) :=
  ck (InK .i64 (st1.2 + 1)) <| some (.next (b2, (st1.2 + 1)))
noncomputable def linealref03_class_b2 (v0 : (List Int)) (st1 : (List (List Int)) × Int) (v0_4 : (List (List Int))) (st2 : (List (List Int)) × Int) : Option (Step ((List (List Int)) × Int) ((List (List Int)))) :=
  if (decide (st2.2 < (v0_4.length : Int))) = true then
  ck (0 ≤ st2.2) <| ck (st2.2 < (v0_4.length : Int)) <| ck ((1 + (v0_4.getD st2.2.toNat []).length) * 8 ≤ 140737488355328) <| ck ((st2.1.length + 1) * 24 ≤ 140737488355328) <| ck (InK .i64 (st2.2 + 1)) <| some (.next ((st2.1 ++ [((v0.getD st1.2.toNat 0) :: (v0_4.getD st2.2.toNat []))]), (st2.2 + 1)))
  else
  some (.done st2.1)
noncomputable def linealref03_class_b1 (slf : (Int × (List (Int × Int))) → (List Int) → Int → Option ((List (List Int)))) (l : Int × (List (Int × Int))) (w : List Int) (most : Int) (v0 : (List Int)) (st1 : (List (List Int)) × Int) : Option (Step ((List (List Int)) × Int) ((List (List Int)))) :=
  if (decide (st1.2 < (v0.length : Int))) = true then
  ck (0 ≤ st1.2) <| ck (st1.2 < (v0.length : Int)) <| (linealref03_free l w (v0.getD st1.2.toNat 0)).bind fun v0_2 =>
  (linealref03_without w v0_2).bind fun v0_3 =>
  ck (InK .i64 (most - (st1.1.length : Int))) <| (slf l ((w.take v0_2.toNat) ++ (w.drop (v0_2 + 1).toNat)) (most - (st1.1.length : Int))).bind fun v0_4 =>
  (whileO (linealref03_class_b2 v0 st1 v0_4) (st1.1, 0)).bind fun r2 =>
  linealref03_class_k2 st1 r2
  else
  some (.done st1.1)
noncomputable def linealref03_classF (slf : (Int × (List (Int × Int))) → (List Int) → Int → Option ((List (List Int)))) (l : Int × (List (Int × Int))) (w : List Int) (most : Int) : Option ((List (List Int))) :=
  if (decide (most = 0)) = true then
  some []
  else
  if (decide ((w.length : Int) = 0)) = true then
  some [[]]
  else
  (linealref03_starts l w).bind fun v0 =>
  (whileO (linealref03_class_b1 slf l w most v0) ([], 0)).bind fun r1 =>
  linealref03_class_k1 r1
noncomputable def linealref03_class (n : Nat) : (Int × (List (Int × Int))) → (List Int) → Int → Option ((List (List Int))) := Nat.rec (motive := fun _ => (Int × (List (Int × Int))) → (List Int) → Int → Option ((List (List Int)))) (fun _ _ _ => none) (fun _ slf => linealref03_classF slf) n

/- lineal/linealref03.Class -/
noncomputable def linealref03_Class (l : Int × (List (Int × Int))) (w : List Int) (most : Int) : Option ((List (List Int)) × Int) :=
  (linealref03_asked l w []).bind fun v0 =>
  if (!(decide (v0 = 0))) = true then
  some ([], v0)
  else
  if (decide (most < 0)) = true then
  some ([], 2)
  else
  if (decide (1000 < most)) = true then
  some ([], 2)
  else
  (linealref03_class fuel l w most).bind fun v0_2 =>
  some (v0_2, 0)

/- lineal/linealref03.SameLists -/
noncomputable def linealref03_SameLists_k1 : Option Bool :=
  some true
noncomputable def linealref03_SameLists_b1 (a : List (List Int)) (b : List (List Int)) (st1 : Int) : Option (Step Int (Sum Unit Unit)) :=
  if (decide (st1 < (a.length : Int))) = true then
  ck (0 ≤ st1) <| ck (st1 < (a.length : Int)) <| ck (0 ≤ st1) <| ck (st1 < (b.length : Int)) <| (linealref03_SameInts (a.getD st1.toNat []) (b.getD st1.toNat [])).bind fun v0 =>
  if (!v0) = true then
  some (.done (Sum.inl ()))
  else
  ck (InK .i64 (st1 + 1)) <| some (.next (st1 + 1))
  else
  some (.done (Sum.inr ()))
noncomputable def linealref03_SameLists (a : List (List Int)) (b : List (List Int)) : Option Bool :=
  if (!(decide ((a.length : Int) = (b.length : Int)))) = true then
  some false
  else
  (whileO (linealref03_SameLists_b1 a b) 0).bind fun x => match x with
  | .inl _ => (some false)
  | .inr _ => (linealref03_SameLists_k1)

/- lineal/lineallaw03.WeaveClasses -/
noncomputable def lineallaw03_WeaveClasses_k1 (l : Int × (List (Int × Int))) (w : List Int) (most : Int) : Option Bool :=
  (weave_Class l w most).bind fun v0_4 =>
  (linealref03_Class l w most).bind fun v0_5 =>
  (linealref03_SameLists v0_4.1 v0_5.1).bind fun v0_6 =>
  if v0_6 = true then
  if (decide (v0_4.2 = v0_5.2)) = true then
  (lineallaw03_Awake).bind fun v0_7 =>
  some v0_7
  else
  some false
  else
  some false
noncomputable def lineallaw03_WeaveClasses (l : Int × (List (Int × Int))) (w : List Int) (most : Int) : Option Bool :=
  (lineallaw03_Long l [w]).bind fun v0 =>
  if v0 = true then
  (lineallaw03_Awake).bind fun v0_2 =>
  some v0_2
  else
  if (decide (100 < most)) = true then
  if (decide (most ≤ 1000)) = true then
  (lineallaw03_Awake).bind fun v0_3 =>
  some v0_3
  else
  lineallaw03_WeaveClasses_k1 l w most
  else
  lineallaw03_WeaveClasses_k1 l w most

/- (lineal/weave.ties).split -/
noncomputable def weave_ties_split_k1 (w : List Int) (v0 : List Int) : Option ((List Int) × (List Int) × (List Int)) :=
  some ([], w, v0)
noncomputable def weave_ties_split_y1 (slf : ((El T59)) → (List Int) → (List Int) → Option ((List Int) × (List Int) × (List Int))) (t : (El T59)) (v0 : List Int) (y1 : Int × (List Int)) (st1 : Unit) : Option (Step Unit ((List Int) × (List Int) × (List Int))) :=
  (weave_ties_without t v0 y1.1).bind fun v0_3 =>
  if v0_3.2 = true then
  (slf t y1.2 v0_3.1).bind fun v0_4 =>
  ck ((1 + v0_4.1.length) * 8 ≤ 140737488355328) <| some (.done ((y1.1 :: v0_4.1), v0_4.2))
  else
  some (.next ())
noncomputable def weave_ties_splitF (slf : ((El T59)) → (List Int) → (List Int) → Option ((List Int) × (List Int) × (List Int))) (t : (El T59)) (w : List Int) (v0 : List Int) : Option ((List Int) × (List Int) × (List Int)) :=
  (weave_ties_starts t w).bind fun v0_2 =>
  (weave_ties_starts_1 Unit ((List Int) × (List Int) × (List Int)) t w (weave_ties_split_y1 slf t v0) ()).bind fun x => match x with
  | .inl st1_2 => (weave_ties_split_k1 w v0)
  | .inr r1 => (some r1)
noncomputable def weave_ties_split (n : Nat) : ((El T59)) → (List Int) → (List Int) → Option ((List Int) × (List Int) × (List Int)) := Nat.rec (motive := fun _ => ((El T59)) → (List Int) → (List Int) → Option ((List Int) × (List Int) × (List Int))) (fun _ _ _ => none) (fun _ slf => weave_ties_splitF slf) n

/- lineal/weave.Common -/
noncomputable def weave_Common (l : Int × (List (Int × Int))) (w : List Int) (v0 : List Int) : Option ((List Int) × Int) :=
  (weave_checked l [w, v0]).bind fun v0_2 =>
  if (!(decide (v0_2.2 = 0))) = true then
  some ([], v0_2.2)
  else
  (weave_ties_split fuel v0_2.1 w v0).bind fun v0_3 =>
  (weave_ties_first v0_2.1 v0_3.1).bind fun v0_4 =>
  some (v0_4, 0)

/- lineal/linealref03.common -/
noncomputable def linealref03_common_k1 (b1 : (List Int) × (List Int) × (List Int)) : Option ((List Int) × (List Int) × (List Int)) :=
  some b1
noncomputable def linealref03_common_b1 (l : Int × (List (Int × Int))) (st1 : (List Int) × (List Int) × (List Int) × Int) : Option (Step ((List Int) × (List Int) × (List Int) × Int) ((List Int) × (List Int) × (List Int))) :=
  if (decide (st1.2.2.2 < l.1)) = true then
  (linealref03_free l st1.2.1 st1.2.2.2).bind fun v0_2 =>
  (linealref03_free l st1.2.2.1 st1.2.2.2).bind fun v0_3 =>
  if (decide (0 ≤ v0_2)) = true then
  if (decide (0 ≤ v0_3)) = true then
  ck ((st1.1.length + 1) * 8 ≤ 140737488355328) <| (linealref03_without st1.2.1 v0_2).bind fun v0_4 =>
  (linealref03_without st1.2.2.1 v0_3).bind fun v0_5 =>
  ck (InK .i64 ((-1) + 1)) <| some (.next ((st1.1 ++ [st1.2.2.2]), ((st1.2.1.take v0_2.toNat) ++ (st1.2.1.drop (v0_2 + 1).toNat)), ((st1.2.2.1.take v0_3.toNat) ++ (st1.2.2.1.drop (v0_3 + 1).toNat)), ((-1) + 1)))
  else
  ck (InK .i64 (st1.2.2.2 + 1)) <| some (.next (st1.1, st1.2.1, st1.2.2.1, (st1.2.2.2 + 1)))
  else
  ck (InK .i64 (st1.2.2.2 + 1)) <| some (.next (st1.1, st1.2.1, st1.2.2.1, (st1.2.2.2 + 1)))
  else
  some (.done (st1.1, st1.2.1, st1.2.2.1))
noncomputable def linealref03_common (l : Int × (List (Int × Int))) (w : List Int) (v0 : List Int) : Option ((List Int) × (List Int) × (List Int)) :=
  (whileO (linealref03_common_b1 l) ([], w, v0, 0)).bind fun r1 =>
  linealref03_common_k1 r1

/- lineal/linealref03.Common -/
noncomputable def linealref03_Common (l : Int × (List (Int × Int))) (w : List Int) (v0 : List Int) : Option ((List Int) × Int) :=
  (linealref03_asked l w v0).bind fun v0_2 =>
  if (!(decide (v0_2 = 0))) = true then
  some ([], v0_2)
  else
  (linealref03_common l w v0).bind fun v0_3 =>
  (linealref03_FirstForm l v0_3.1).bind fun v0_4 =>
  some (v0_4, 0)

/- lineal/weave.Both -/
noncomputable def weave_Both_k1 (v0_2 : (El T59) × Int) (v0_3 : (List Int) × (List Int) × (List Int)) : Option ((List Int) × Int) :=
  ck (InK .i64 ((v0_3.1.length : Int) + (v0_3.2.1.length : Int))) <| ck (InK .i64 (((v0_3.1.length : Int) + (v0_3.2.1.length : Int)) + (v0_3.2.2.length : Int))) <| if (decide (10 < (((v0_3.1.length : Int) + (v0_3.2.1.length : Int)) + (v0_3.2.2.length : Int)))) = true then
  some ([], 4)
  else
  (slices_Concat [v0_3.1, v0_3.2.1, v0_3.2.2]).bind fun v0_5 =>
  (weave_ties_first v0_2.1 v0_5).bind fun v0_6 =>
  some (v0_6, 0)
noncomputable def weave_Both_b1 (v0_2 : (El T59) × Int) (v0_3 : (List Int) × (List Int) × (List Int)) (st1 : Int) : Option (Step Int (Sum Unit Unit)) :=
  if (decide (st1 < (v0_3.2.1.length : Int))) = true then
  ck (0 ≤ st1) <| ck (st1 < (v0_3.2.1.length : Int)) <| (weave_ties_onAny v0_2.1 (v0_3.2.1.getD st1.toNat 0) v0_3.2.2).bind fun v0_4 =>
  if v0_4 = true then
  some (.done (Sum.inl ()))
  else
  ck (InK .i64 (st1 + 1)) <| some (.next (st1 + 1))
  else
  some (.done (Sum.inr ()))
noncomputable def weave_Both (l : Int × (List (Int × Int))) (w : List Int) (v0 : List Int) : Option ((List Int) × Int) :=
  (weave_checked l [w, v0]).bind fun v0_2 =>
  if (!(decide (v0_2.2 = 0))) = true then
  some ([], v0_2.2)
  else
  (weave_ties_split fuel v0_2.1 w v0).bind fun v0_3 =>
  (whileO (weave_Both_b1 v0_2 v0_3) 0).bind fun x => match x with
  | .inl _ => (some ([], 5))
  | .inr _ => (weave_Both_k1 v0_2 v0_3)

/- lineal/linealref03.Both -/
noncomputable def linealref03_Both_k1 (l : Int × (List (Int × Int))) (v0_3 : (List Int) × (List Int) × (List Int)) : Option ((List Int) × Int) :=
  ck ((v0_3.1.length + v0_3.2.1.length) * 8 ≤ 140737488355328) <| ck (((v0_3.1 ++ v0_3.2.1).length + v0_3.2.2.length) * 8 ≤ 140737488355328) <| (linealref03_limited l ((v0_3.1 ++ v0_3.2.1) ++ v0_3.2.2)).bind fun v0_5 =>
  some v0_5
noncomputable def linealref03_Both_k2 (st1 : Int) : Option (Step Int (Sum Unit Unit)) :=
  ck (InK .i64 (st1 + 1)) <| some (.next (st1 + 1))
noncomputable def linealref03_Both_b2 (l : Int × (List (Int × Int))) (v0_3 : (List Int) × (List Int) × (List Int)) (st1 : Int) (st2 : Int) : Option (Step Int (Sum Unit Unit)) :=
  if (decide (st2 < (v0_3.2.2.length : Int))) = true then
  ck (0 ≤ st2) <| ck (st2 < (v0_3.2.2.length : Int)) <| (linealref03_depend l (v0_3.2.1.getD st1.toNat 0) (v0_3.2.2.getD st2.toNat 0)).bind fun v0_4 =>
  if v0_4 = true then
  some (.done (Sum.inl ()))
  else
  ck (InK .i64 (st2 + 1)) <| some (.next (st2 + 1))
  else
  some (.done (Sum.inr ()))
noncomputable def linealref03_Both_b1 (l : Int × (List (Int × Int))) (v0_3 : (List Int) × (List Int) × (List Int)) (st1 : Int) : Option (Step Int (Sum Unit Unit)) :=
  if (decide (st1 < (v0_3.2.1.length : Int))) = true then
  ck (0 ≤ st1) <| ck (st1 < (v0_3.2.1.length : Int)) <| (whileO (linealref03_Both_b2 l v0_3 st1) 0).bind fun x => match x with
  | .inl _ => (some (.done (Sum.inl ())))
  | .inr _ => (linealref03_Both_k2 st1)
  else
  some (.done (Sum.inr ()))
noncomputable def linealref03_Both (l : Int × (List (Int × Int))) (w : List Int) (v0 : List Int) : Option ((List Int) × Int) :=
  (linealref03_asked l w v0).bind fun v0_2 =>
  if (!(decide (v0_2 = 0))) = true then
  some ([], v0_2)
  else
  (linealref03_common l w v0).bind fun v0_3 =>
  (whileO (linealref03_Both_b1 l v0_3) 0).bind fun x => match x with
  | .inl _ => (some ([], 5))
  | .inr _ => (linealref03_Both_k1 l v0_3)

/- lineal/lineallaw03.WeaveShares -/
noncomputable def lineallaw03_WeaveShares (l : Int × (List (Int × Int))) (w : List Int) (v0 : List Int) : Option Bool :=
  (lineallaw03_Long l [w, v0]).bind fun v0_2 =>
  if v0_2 = true then
  (lineallaw03_Awake).bind fun v0_3 =>
  some v0_3
  else
  (weave_Common l w v0).bind fun v0_4 =>
  (linealref03_Common l w v0).bind fun v0_5 =>
  (linealref03_SameInts v0_4.1 v0_5.1).bind fun v0_6 =>
  if (!v0_6) = true then
  some false
  else
  if (!(decide (v0_4.2 = v0_5.2))) = true then
  some false
  else
  (weave_Both l w v0).bind fun v0_7 =>
  (linealref03_Both l w v0).bind fun v0_8 =>
  (linealref03_SameInts v0_7.1 v0_8.1).bind fun v0_9 =>
  if v0_9 = true then
  if (decide (v0_7.2 = v0_8.2)) = true then
  (lineallaw03_Awake).bind fun v0_10 =>
  some v0_10
  else
  some false
  else
  some false

/- slices.Equal[[]int,int] -/
noncomputable def slices_Equal_k1 : Option Bool :=
  some true
noncomputable def slices_Equal_b1 (s1 : List Int) (s2 : List Int) (st1 : Int) : Option (Step Int (Sum Unit Unit)) :=
  if (decide (st1 < (s1.length : Int))) = true then
  ck (0 ≤ st1) <| ck (st1 < (s1.length : Int)) <| ck (0 ≤ st1) <| ck (st1 < (s2.length : Int)) <| if (!(decide ((s1.getD st1.toNat 0) = (s2.getD st1.toNat 0)))) = true then
  some (.done (Sum.inl ()))
  else
  ck (InK .i64 (st1 + 1)) <| some (.next (st1 + 1))
  else
  some (.done (Sum.inr ()))
noncomputable def slices_Equal (s1 : List Int) (s2 : List Int) : Option Bool :=
  if (!(decide ((s1.length : Int) = (s2.length : Int)))) = true then
  some false
  else
  (whileO (slices_Equal_b1 s1 s2) 0).bind fun x => match x with
  | .inl _ => (some false)
  | .inr _ => (slices_Equal_k1)

/- lineal/weave.Equal -/
noncomputable def weave_Equal (l : Int × (List (Int × Int))) (w : List Int) (v0 : List Int) : Option (Bool × Int) :=
  (weave_checked l [w, v0]).bind fun v0_2 =>
  if (!(decide (v0_2.2 = 0))) = true then
  some (false, v0_2.2)
  else
  (weave_ties_first v0_2.1 w).bind fun v0_3 =>
  (weave_ties_first v0_2.1 v0).bind fun v0_4 =>
  (slices_Equal v0_3 v0_4).bind fun v0_5 =>
  some (v0_5, 0)

/- lineal/linealref03.equal -/
noncomputable def linealref03_equal (l : Int × (List (Int × Int))) (w : List Int) (v0 : List Int) : Option Bool :=
  (linealref03_rest l w v0).bind fun v0_2 =>
  if v0_2.2 = true then
  some (decide ((v0_2.1.length : Int) = 0))
  else
  some false

/- lineal/linealref03.Equal -/
noncomputable def linealref03_Equal (l : Int × (List (Int × Int))) (w : List Int) (v0 : List Int) : Option (Bool × Int) :=
  (linealref03_asked l w v0).bind fun v0_2 =>
  if (!(decide (v0_2 = 0))) = true then
  some (false, v0_2)
  else
  (linealref03_equal l w v0).bind fun v0_3 =>
  some (v0_3, 0)

/- (lineal/weave.ties).path -/
noncomputable def weave_ties_path_k1 (b2_2 : (List Int)) : Option ((List Int) × Bool) :=
  some (b2_2, true)
noncomputable def weave_ties_path_k2 (st1 : (List Int) × (List Int) × Int) (b2 : (List Int) × (List Int)) : Option (Step ((List Int) × (List Int) × Int) (Sum Unit ((List Int)))) :=
  ck (InK .i64 (st1.2.2 + 1)) <| some (.next (b2.1, b2.2, (st1.2.2 + 1)))
noncomputable def weave_ties_path_b2 (t : (El T59)) (st1 : (List Int) × (List Int) × Int) (st2 : (List Int) × (List Int) × Int) : Option (Step ((List Int) × (List Int) × Int) (Sum Unit ((List Int) × (List Int)))) :=
  if (decide (st1.2.2 ≤ st2.2.2)) = true then
  (weave_ties_exchange t st2.2.2 st2.1).bind fun v0_3 =>
  if (!v0_3.1) = true then
  some (.done (Sum.inl ()))
  else
  ck ((st2.2.1.length + 1) * 8 ≤ 140737488355328) <| ck (InK .i64 (st2.2.2 - 1)) <| some (.next (v0_3.2, (st2.2.1 ++ [st2.2.2]), (st2.2.2 - 1)))
  else
  some (.done (Sum.inr (st2.1, st2.2.1)))
noncomputable def weave_ties_path_b1 (t : (El T59)) (to0 : List Int) (st1 : (List Int) × (List Int) × Int) : Option (Step ((List Int) × (List Int) × Int) (Sum Unit ((List Int)))) :=
  if (decide (st1.2.2 < (to0.length : Int))) = true then
  ck (0 ≤ st1.2.2) <| ck (st1.2.2 < (to0.length : Int)) <| ck (0 ≤ st1.2.2) <| ck (st1.2.2 ≤ (st1.1.length : Int)) <| (slices_Index ((st1.1.drop st1.2.2.toNat).take ((st1.1.length : Int) - st1.2.2).toNat) (to0.getD st1.2.2.toNat 0)).bind fun v0_2 =>
  if (decide (v0_2 < 0)) = true then
  some (.done (Sum.inl ()))
  else
  ck (InK .i64 (st1.2.2 + v0_2)) <| ck (InK .i64 ((st1.2.2 + v0_2) - 1)) <| (whileO (weave_ties_path_b2 t st1) (st1.1, st1.2.1, ((st1.2.2 + v0_2) - 1))).bind fun x => match x with
  | .inl _ => (some (.done (Sum.inl ())))
  | .inr r2 => (weave_ties_path_k2 st1 r2)
  else
  some (.done (Sum.inr st1.2.1))
noncomputable def weave_ties_path (t : (El T59)) (from0 : List Int) (to0 : List Int) : Option ((List Int) × Bool) :=
  if (!(decide ((from0.length : Int) = (to0.length : Int)))) = true then
  some ([], false)
  else
  (slices_Clone from0).bind fun v0 =>
  (whileO (weave_ties_path_b1 t to0) (v0, [], 0)).bind fun x => match x with
  | .inl _ => (some ([], false))
  | .inr r1 => (weave_ties_path_k1 r1)

/- lineal/weave.Path -/
noncomputable def weave_Path (l : Int × (List (Int × Int))) (w : List Int) (v0 : List Int) : Option ((List Int) × Int) :=
  (weave_checked l [w, v0]).bind fun v0_2 =>
  if (!(decide (v0_2.2 = 0))) = true then
  some ([], v0_2.2)
  else
  (weave_ties_path v0_2.1 w v0).bind fun v0_3 =>
  if (!v0_3.2) = true then
  some ([], 5)
  else
  some (v0_3.1, 0)

/- lineal/linealref03.IsPath -/
noncomputable def linealref03_IsPath_k1 (v0 : List Int) (b1 : (List Int)) : Option (Bool × Int) :=
  (linealref03_SameInts b1 v0).bind fun v0_5 =>
  some (v0_5, 0)
noncomputable def linealref03_IsPath_b1 (l : Int × (List (Int × Int))) (path : List Int) (st1 : (List Int) × Int) : Option (Step ((List Int) × Int) (Sum Unit ((List Int)))) :=
  if (decide (st1.2 < (path.length : Int))) = true then
  ck (0 ≤ st1.2) <| ck (st1.2 < (path.length : Int)) <| (linealref03_can l st1.1 (path.getD st1.2.toNat 0)).bind fun v0_3 =>
  if (!v0_3) = true then
  some (.done (Sum.inl ()))
  else
  (linealref03_exchanged st1.1 (path.getD st1.2.toNat 0)).bind fun v0_4 =>
  ck (InK .i64 (st1.2 + 1)) <| some (.next (((st1.1.set (path.getD st1.2.toNat 0).toNat (st1.1.getD ((path.getD st1.2.toNat 0) + 1).toNat 0)).set ((path.getD st1.2.toNat 0) + 1).toNat (st1.1.getD (path.getD st1.2.toNat 0).toNat 0)), (st1.2 + 1)))
  else
  some (.done (Sum.inr st1.1))
noncomputable def linealref03_IsPath (l : Int × (List (Int × Int))) (w : List Int) (v0 : List Int) (path : List Int) : Option (Bool × Int) :=
  (linealref03_asked l w v0).bind fun v0_2 =>
  if (!(decide (v0_2 = 0))) = true then
  some (false, v0_2)
  else
  if (decide (1000 < (path.length : Int))) = true then
  some (false, 0)
  else
  (whileO (linealref03_IsPath_b1 l path) (w, 0)).bind fun x => match x with
  | .inl _ => (some (false, 0))
  | .inr r1 => (linealref03_IsPath_k1 v0 r1)

/- lineal/weave.IsPath -/
noncomputable def weave_IsPath_k1 (v0 : List Int) (b1 : (List Int)) : Option (Bool × Int) :=
  (slices_Equal b1 v0).bind fun v0_5 =>
  some (v0_5, 0)
noncomputable def weave_IsPath_b1 (path : List Int) (v0_2 : (El T59) × Int) (st1 : (List Int) × Int) : Option (Step ((List Int) × Int) (Sum Unit ((List Int)))) :=
  if (decide (st1.2 < (path.length : Int))) = true then
  ck (0 ≤ st1.2) <| ck (st1.2 < (path.length : Int)) <| (weave_ties_exchange v0_2.1 (path.getD st1.2.toNat 0) st1.1).bind fun v0_4 =>
  if (!v0_4.1) = true then
  some (.done (Sum.inl ()))
  else
  ck (InK .i64 (st1.2 + 1)) <| some (.next (v0_4.2, (st1.2 + 1)))
  else
  some (.done (Sum.inr st1.1))
noncomputable def weave_IsPath (l : Int × (List (Int × Int))) (w : List Int) (v0 : List Int) (path : List Int) : Option (Bool × Int) :=
  (weave_checked l [w, v0]).bind fun v0_2 =>
  if (!(decide (v0_2.2 = 0))) = true then
  some (false, v0_2.2)
  else
  if (decide (1000 < (path.length : Int))) = true then
  some (false, 0)
  else
  (slices_Clone w).bind fun v0_3 =>
  (whileO (weave_IsPath_b1 path v0_2) (v0_3, 0)).bind fun x => match x with
  | .inl _ => (some (false, 0))
  | .inr r1 => (weave_IsPath_k1 v0 r1)

/- lineal/lineallaw03.WeavePaths -/
noncomputable def lineallaw03_WeavePaths_k1 (l : Int × (List (Int × Int))) (w : List Int) (v0 : List Int) (path : List Int) : Option Bool :=
  (weave_IsPath l w v0 path).bind fun v0_10 =>
  (linealref03_IsPath l w v0 path).bind fun v0_11 =>
  if ((v0_10.1 == v0_11.1) != false) = true then
  if (decide (v0_10.2 = v0_11.2)) = true then
  (lineallaw03_Awake).bind fun v0_12 =>
  some v0_12
  else
  some false
  else
  some false
noncomputable def lineallaw03_WeavePaths (l : Int × (List (Int × Int))) (w : List Int) (v0 : List Int) (path : List Int) : Option Bool :=
  (lineallaw03_Long l [w, v0]).bind fun v0_2 =>
  if v0_2 = true then
  (lineallaw03_Awake).bind fun v0_3 =>
  some v0_3
  else
  if (decide (1100 < (path.length : Int))) = true then
  (lineallaw03_Awake).bind fun v0_4 =>
  some v0_4
  else
  (weave_Equal l w v0).bind fun v0_5 =>
  (linealref03_Equal l w v0).bind fun v0_6 =>
  if ((v0_5.1 == v0_6.1) != true) = true then
  some false
  else
  if (!(decide (v0_5.2 = v0_6.2))) = true then
  some false
  else
  (weave_Path l w v0).bind fun v0_7 =>
  (linealref03_IsPath l w v0 v0_7.1).bind fun v0_8 =>
  if (!(decide (v0_5.2 = 0))) = true then
  if (decide (v0_7.2 = v0_5.2)) = true then
  if (decide ((v0_7.1.length : Int) = 0)) = true then
  (lineallaw03_Awake).bind fun v0_9 =>
  some v0_9
  else
  some false
  else
  some false
  else
  if v0_5.1 = true then
  if (!(decide (v0_7.2 = 0))) = true then
  some false
  else
  if (!(decide (v0_8.2 = 0))) = true then
  some false
  else
  if (!v0_8.1) = true then
  some false
  else
  if (decide (45 < (v0_7.1.length : Int))) = true then
  some false
  else
  lineallaw03_WeavePaths_k1 l w v0 path
  else
  if (!(decide (v0_7.2 = 5))) = true then
  some false
  else
  if (!(decide ((v0_7.1.length : Int) = 0))) = true then
  some false
  else
  lineallaw03_WeavePaths_k1 l w v0 path

/- lineal/lineallaw03.valid -/
noncomputable def lineallaw03_valid_k1 : Option Bool :=
  some true
noncomputable def lineallaw03_valid_b1 (l : Int × (List (Int × Int))) (words : List (List Int)) (st1 : Int) : Option (Step Int (Sum Unit Unit)) :=
  if (decide (st1 < (words.length : Int))) = true then
  ck (0 ≤ st1) <| ck (st1 < (words.length : Int)) <| (linealref03_IsWord l (words.getD st1.toNat [])).bind fun v0_3 =>
  if (!v0_3) = true then
  some (.done (Sum.inl ()))
  else
  ck (InK .i64 (st1 + 1)) <| some (.next (st1 + 1))
  else
  some (.done (Sum.inr ()))
noncomputable def lineallaw03_valid (l : Int × (List (Int × Int))) (words : List (List Int)) : Option Bool :=
  (lineallaw03_Long l words).bind fun v0 =>
  if v0 = true then
  some false
  else
  (linealref03_Valid l).bind fun v0_2 =>
  if (!v0_2) = true then
  some false
  else
  (whileO (lineallaw03_valid_b1 l words) 0).bind fun x => match x with
  | .inl _ => (some false)
  | .inr _ => (lineallaw03_valid_k1)

/- lineal/weave.First -/
noncomputable def weave_First (l : Int × (List (Int × Int))) (w : List Int) : Option ((List Int) × Int) :=
  (weave_checked l [w]).bind fun v0 =>
  if (!(decide (v0.2 = 0))) = true then
  some ([], v0.2)
  else
  (weave_ties_first v0.1 w).bind fun v0_2 =>
  some (v0_2, 0)

/- lineal/lineallaw03.WeaveBegins -/
noncomputable def lineallaw03_WeaveBegins_k2 (l : Int × (List (Int × Int))) (u : List Int) (w : List Int) (v0 : List Int) (v0_6 : (List Int) × Int) : Option Bool :=
  (weave_Joined l u w).bind fun v0_9 =>
  if (!(decide (v0_9.2 = 0))) = true then
  if (decide (v0_9.2 = 4)) = true then
  ck (InK .i64 ((u.length : Int) + (w.length : Int))) <| if (decide (10 < ((u.length : Int) + (w.length : Int)))) = true then
  (lineallaw03_Awake).bind fun v0_10 =>
  some v0_10
  else
  some false
  else
  some false
  else
  (weave_Begins l u v0_9.1).bind fun v0_11 =>
  (weave_Rest l u v0_9.1).bind fun v0_12 =>
  if (!(decide (v0_11.2 = 0))) = true then
  some false
  else
  if (!(decide (v0_12.2 = 0))) = true then
  some false
  else
  if (!v0_11.1) = true then
  some false
  else
  (linealref03_SameInts v0_12.1 v0_6.1).bind fun v0_13 =>
  if (!v0_13) = true then
  some false
  else
  (weave_Joined l w v0).bind fun v0_14 =>
  (weave_Joined l v0_9.1 v0).bind fun v0_15 =>
  if (!(decide (v0_14.2 = 0))) = true then
  if (decide (v0_14.2 = 0)) = true then
  if (decide (v0_15.2 = 0)) = true then
  (lineallaw03_Awake).bind fun v0_16 =>
  some v0_16
  else
  if (decide (v0_15.2 = 4)) = true then
  (lineallaw03_Awake).bind fun v0_17 =>
  some v0_17
  else
  some false
  else
  if (decide (v0_14.2 = 4)) = true then
  if (decide (v0_15.2 = 0)) = true then
  (lineallaw03_Awake).bind fun v0_18 =>
  some v0_18
  else
  if (decide (v0_15.2 = 4)) = true then
  (lineallaw03_Awake).bind fun v0_19 =>
  some v0_19
  else
  some false
  else
  some false
  else
  if (!(decide (v0_15.2 = 0))) = true then
  if (decide (v0_14.2 = 0)) = true then
  if (decide (v0_15.2 = 0)) = true then
  (lineallaw03_Awake).bind fun v0_20 =>
  some v0_20
  else
  if (decide (v0_15.2 = 4)) = true then
  (lineallaw03_Awake).bind fun v0_21 =>
  some v0_21
  else
  some false
  else
  if (decide (v0_14.2 = 4)) = true then
  if (decide (v0_15.2 = 0)) = true then
  (lineallaw03_Awake).bind fun v0_22 =>
  some v0_22
  else
  if (decide (v0_15.2 = 4)) = true then
  (lineallaw03_Awake).bind fun v0_23 =>
  some v0_23
  else
  some false
  else
  some false
  else
  (weave_Joined l u v0_14.1).bind fun v0_24 =>
  if (decide (v0_24.2 = 0)) = true then
  (linealref03_SameInts v0_15.1 v0_24.1).bind fun v0_25 =>
  if v0_25 = true then
  (lineallaw03_Awake).bind fun v0_26 =>
  some v0_26
  else
  some false
  else
  some false
noncomputable def lineallaw03_WeaveBegins_k1 (l : Int × (List (Int × Int))) (u : List Int) (w : List Int) (v0 : List Int) (v0_4 : Bool × Int) (v0_5 : (List Int) × Int) (v0_6 : (List Int) × Int) : Option Bool :=
  if v0_4.1 = true then
  (weave_Joined l u v0_5.1).bind fun v0_7 =>
  if (!(decide (v0_7.2 = 0))) = true then
  some false
  else
  (linealref03_SameInts v0_7.1 v0_6.1).bind fun v0_8 =>
  if (!v0_8) = true then
  some false
  else
  lineallaw03_WeaveBegins_k2 l u w v0 v0_6
  else
  lineallaw03_WeaveBegins_k2 l u w v0 v0_6
noncomputable def lineallaw03_WeaveBegins (l : Int × (List (Int × Int))) (u : List Int) (w : List Int) (v0 : List Int) : Option Bool :=
  (lineallaw03_valid l [u, w, v0]).bind fun v0_2 =>
  if (!v0_2) = true then
  (lineallaw03_Awake).bind fun v0_3 =>
  some v0_3
  else
  (weave_Begins l u w).bind fun v0_4 =>
  (weave_Rest l u w).bind fun v0_5 =>
  (weave_First l w).bind fun v0_6 =>
  if (!(decide (v0_4.2 = 0))) = true then
  some false
  else
  if (!(decide (v0_6.2 = 0))) = true then
  some false
  else
  if ((v0_4.1 == (decide (v0_5.2 = 0))) != true) = true then
  some false
  else
  if (!v0_4.1) = true then
  if (!(decide (v0_5.2 = 5))) = true then
  some false
  else
  lineallaw03_WeaveBegins_k1 l u w v0 v0_4 v0_5 v0_6
  else
  lineallaw03_WeaveBegins_k1 l u w v0 v0_4 v0_5 v0_6

/- lineal/lineallaw03.WeaveLeads -/
noncomputable def lineallaw03_WeaveLeads_k1 (l : Int × (List (Int × Int))) (w : List Int) (b1 : (List Int) × (List Int)) : Option Bool :=
  (weave_IsPath l w b1.1 b1.2).bind fun v0_6 =>
  (weave_Equal l w b1.1).bind fun v0_7 =>
  (weave_Path l w b1.1).bind fun v0_8 =>
  (weave_IsPath l w b1.1 v0_8.1).bind fun v0_9 =>
  if (decide (v0_6.2 = 0)) = true then
  if (decide (v0_7.2 = 0)) = true then
  if (decide (v0_8.2 = 0)) = true then
  if (decide (v0_9.2 = 0)) = true then
  if v0_6.1 = true then
  if v0_7.1 = true then
  if v0_9.1 = true then
  ck (InK .i64 ((v0_8.1.length : Int) - (b1.2.length : Int))) <| if (decide ((Int.tmod ((v0_8.1.length : Int) - (b1.2.length : Int)) 2) = 0)) = true then
  (lineallaw03_Awake).bind fun v0_10 =>
  some v0_10
  else
  some false
  else
  some false
  else
  some false
  else
  some false
  else
  some false
  else
  some false
  else
  some false
  else
  some false
noncomputable def lineallaw03_WeaveLeads_b1 (l : Int × (List (Int × Int))) (path : List Int) (st1 : (List Int) × (List Int) × Int) : Option (Step ((List Int) × (List Int) × Int) (Sum ((List Int) × (List Int)) Unit)) :=
  if (decide (st1.2.2 < (path.length : Int))) = true then
  ck (0 ≤ st1.2.2) <| ck (st1.2.2 < (path.length : Int)) <| if (decide ((st1.1.length : Int) < 2)) = true then
  some (.done (Sum.inl (st1.1, st1.2.1)))
  else
  ck (InK .i64 (path.getD st1.2.2.toNat 0)) <| ck (InK .i64 ((st1.1.length : Int) - 1)) <| ck (0 ≤ (path.getD st1.2.2.toNat 0)) <| ck (0 < ((st1.1.length : Int) - 1)) <| (weave_Exchanged l st1.1 ((path.getD st1.2.2.toNat 0) % ((st1.1.length : Int) - 1))).bind fun v0_4 =>
  ck (0 ≤ ((path.getD st1.2.2.toNat 0) % ((st1.1.length : Int) - 1))) <| ck (((path.getD st1.2.2.toNat 0) % ((st1.1.length : Int) - 1)) < (st1.1.length : Int)) <| ck (InK .i64 (((path.getD st1.2.2.toNat 0) % ((st1.1.length : Int) - 1)) + 1)) <| ck (0 ≤ (((path.getD st1.2.2.toNat 0) % ((st1.1.length : Int) - 1)) + 1)) <| ck ((((path.getD st1.2.2.toNat 0) % ((st1.1.length : Int) - 1)) + 1) < (st1.1.length : Int)) <| (weave_Depend l (st1.1.getD ((path.getD st1.2.2.toNat 0) % ((st1.1.length : Int) - 1)).toNat 0) (st1.1.getD (((path.getD st1.2.2.toNat 0) % ((st1.1.length : Int) - 1)) + 1).toNat 0)).bind fun v0_5 =>
  if (!(decide (v0_5.2 = 0))) = true then
  some (.done (Sum.inr ()))
  else
  if ((v0_5.1 == (decide (v0_4.2 = 2))) != true) = true then
  some (.done (Sum.inr ()))
  else
  if (!v0_5.1) = true then
  if (!(decide (v0_4.2 = 0))) = true then
  some (.done (Sum.inr ()))
  else
  if (decide (v0_4.2 = 0)) = true then
  if (!(decide ((v0_4.1.length : Int) = (st1.1.length : Int)))) = true then
  some (.done (Sum.inr ()))
  else
  ck ((st1.2.1.length + 1) * 8 ≤ 140737488355328) <| ck (InK .i64 (st1.2.2 + 1)) <| some (.next (v0_4.1, (st1.2.1 ++ [((path.getD st1.2.2.toNat 0) % ((st1.1.length : Int) - 1))]), (st1.2.2 + 1)))
  else
  ck (InK .i64 (st1.2.2 + 1)) <| some (.next (st1.1, st1.2.1, (st1.2.2 + 1)))
  else
  if (decide (v0_4.2 = 0)) = true then
  if (!(decide ((v0_4.1.length : Int) = (st1.1.length : Int)))) = true then
  some (.done (Sum.inr ()))
  else
  ck ((st1.2.1.length + 1) * 8 ≤ 140737488355328) <| ck (InK .i64 (st1.2.2 + 1)) <| some (.next (v0_4.1, (st1.2.1 ++ [((path.getD st1.2.2.toNat 0) % ((st1.1.length : Int) - 1))]), (st1.2.2 + 1)))
  else
  ck (InK .i64 (st1.2.2 + 1)) <| some (.next (st1.1, st1.2.1, (st1.2.2 + 1)))
  else
  some (.done (Sum.inl (st1.1, st1.2.1)))
noncomputable def lineallaw03_WeaveLeads (l : Int × (List (Int × Int))) (w : List Int) (path : List Int) (at0 : Int) : Option Bool :=
  (lineallaw03_valid l [w]).bind fun v0 =>
  if (!v0) = true then
  (lineallaw03_Awake).bind fun v0_2 =>
  some v0_2
  else
  if (decide (200 < (path.length : Int))) = true then
  (lineallaw03_Awake).bind fun v0_3 =>
  some v0_3
  else
  ck (w.length * 8 ≤ 140737488355328) <| (whileO (lineallaw03_WeaveLeads_b1 l path) (w, [], 0)).bind fun x => match x with
  | .inl r1 => (lineallaw03_WeaveLeads_k1 l w r1)
  | .inr _ => (some false)

/- lineal/weave.Starts -/
noncomputable def weave_Starts_k1 (b1 : (List Int)) : Option ((List Int) × Int) :=
  some (b1, 0)
noncomputable def weave_Starts_y1 (y1 : Int × (List Int)) (st1 : (List Int)) : Option (Step ((List Int)) Empty) :=
  ck ((st1.length + 1) * 8 ≤ 140737488355328) <| some (.next (st1 ++ [y1.1]))
noncomputable def weave_Starts (l : Int × (List (Int × Int))) (w : List Int) : Option ((List Int) × Int) :=
  (weave_checked l [w]).bind fun v0 =>
  if (!(decide (v0.2 = 0))) = true then
  some ([], v0.2)
  else
  (weave_ties_starts v0.1 w).bind fun v0_2 =>
  (weave_ties_starts_1 ((List Int)) Empty v0.1 w (weave_Starts_y1) []).bind fun x => match x with
  | .inl st1_2 => (weave_Starts_k1 st1_2)
  | .inr r => r.elim

/- slices.Reverse[[]int,int] -/
noncomputable def slices_Reverse_b1 (st1 : (List Int) × Int × Int) : Option (Step ((List Int) × Int × Int) ((List Int))) :=
  if (decide (st1.2.1 < st1.2.2)) = true then
  ck (0 ≤ st1.2.2) <| ck (st1.2.2 < (st1.1.length : Int)) <| ck (0 ≤ st1.2.1) <| ck (st1.2.1 < (st1.1.length : Int)) <| ck (0 ≤ st1.2.1) <| ck (st1.2.1 < (st1.1.length : Int)) <| ck (0 ≤ st1.2.2) <| ck (st1.2.2 < ((st1.1.set st1.2.1.toNat (st1.1.getD st1.2.2.toNat 0)).length : Int)) <| ck (InK .i64 (st1.2.1 + 1)) <| ck (InK .i64 (st1.2.2 - 1)) <| some (.next (((st1.1.set st1.2.1.toNat (st1.1.getD st1.2.2.toNat 0)).set st1.2.2.toNat (st1.1.getD st1.2.1.toNat 0)), (st1.2.1 + 1), (st1.2.2 - 1)))
  else
  some (.done st1.1)
noncomputable def slices_Reverse (s : List Int) : Option ((List Int)) :=
  ck (InK .i64 ((s.length : Int) - 1)) <| (whileO (slices_Reverse_b1) (s, 0, ((s.length : Int) - 1))).bind fun r1 =>
  some r1

/- lineal/weave.Turned -/
noncomputable def weave_Turned (l : Int × (List (Int × Int))) (w : List Int) : Option ((List Int) × Int) :=
  (weave_checked l [w]).bind fun v0 =>
  if (!(decide (v0.2 = 0))) = true then
  some ([], v0.2)
  else
  (slices_Clone w).bind fun v0_2 =>
  (slices_Reverse v0_2).bind fun v0_3 =>
  (weave_ties_first v0.1 v0_3).bind fun v0_4 =>
  some (v0_4, 0)

/- lineal/lineallaw03.before -/
noncomputable def lineallaw03_before_k1 (w : List Int) (v0 : List Int) : Option Bool :=
  some (decide ((w.length : Int) < (v0.length : Int)))
noncomputable def lineallaw03_before_b1 (w : List Int) (v0 : List Int) (st1 : Int) : Option (Step Int (Sum Bool Unit)) :=
  if (decide (st1 < (w.length : Int))) = true then
  if (decide (st1 < (v0.length : Int))) = true then
  ck (0 ≤ st1) <| ck (st1 < (w.length : Int)) <| ck (0 ≤ st1) <| ck (st1 < (v0.length : Int)) <| if (!(decide ((w.getD st1.toNat 0) = (v0.getD st1.toNat 0)))) = true then
  ck (0 ≤ st1) <| ck (st1 < (w.length : Int)) <| ck (0 ≤ st1) <| ck (st1 < (v0.length : Int)) <| some (.done (Sum.inl (decide ((w.getD st1.toNat 0) < (v0.getD st1.toNat 0)))))
  else
  ck (InK .i64 (st1 + 1)) <| some (.next (st1 + 1))
  else
  some (.done (Sum.inr ()))
  else
  some (.done (Sum.inr ()))
noncomputable def lineallaw03_before (w : List Int) (v0 : List Int) : Option Bool :=
  (whileO (lineallaw03_before_b1 w v0) 0).bind fun x => match x with
  | .inl r1 => (some r1)
  | .inr _ => (lineallaw03_before_k1 w v0)

/- lineal/lineallaw03.WeaveSizes -/
noncomputable def lineallaw03_WeaveSizes_k3 (l : Int × (List (Int × Int))) (w : List Int) (v0_7 : (List (List Int)) × Int) : Option Bool :=
  (weave_First l w).bind fun v0_12 =>
  if (decide (v0_12.2 = 0)) = true then
  if (decide ((v0_7.1.length : Int) = 0)) = true then
  (lineallaw03_Awake).bind fun v0_13 =>
  some v0_13
  else
  ck (0 < (v0_7.1.length : Int)) <| (linealref03_SameInts (v0_7.1.getD 0 []) v0_12.1).bind fun v0_14 =>
  if v0_14 = true then
  (lineallaw03_Awake).bind fun v0_15 =>
  some v0_15
  else
  some false
  else
  some false
noncomputable def lineallaw03_WeaveSizes_b2 (l : Int × (List (Int × Int))) (w : List Int) (v0_7 : (List (List Int)) × Int) (st2 : Int) : Option (Step Int (Sum Unit Unit)) :=
  if (decide (st2 < (v0_7.1.length : Int))) = true then
  ck (0 ≤ st2) <| ck (st2 < (v0_7.1.length : Int)) <| (weave_Equal l w (v0_7.1.getD st2.toNat [])).bind fun v0_10 =>
  if (!(decide (v0_10.2 = 0))) = true then
  some (.done (Sum.inl ()))
  else
  if (!v0_10.1) = true then
  some (.done (Sum.inl ()))
  else
  if (decide (0 < st2)) = true then
  ck (InK .i64 (st2 - 1)) <| ck (0 ≤ (st2 - 1)) <| ck ((st2 - 1) < (v0_7.1.length : Int)) <| (lineallaw03_before (v0_7.1.getD (st2 - 1).toNat []) (v0_7.1.getD st2.toNat [])).bind fun v0_11 =>
  if (!v0_11) = true then
  some (.done (Sum.inl ()))
  else
  ck (InK .i64 (st2 + 1)) <| some (.next (st2 + 1))
  else
  ck (InK .i64 (st2 + 1)) <| some (.next (st2 + 1))
  else
  some (.done (Sum.inr ()))
noncomputable def lineallaw03_WeaveSizes_k2 (l : Int × (List (Int × Int))) (w : List Int) (v0_7 : (List (List Int)) × Int) : Option Bool :=
  (whileO (lineallaw03_WeaveSizes_b2 l w v0_7) 0).bind fun x => match x with
  | .inl _ => (some false)
  | .inr _ => (lineallaw03_WeaveSizes_k3 l w v0_7)
noncomputable def lineallaw03_WeaveSizes_k1 (l : Int × (List (Int × Int))) (w : List Int) (v0_3 : Int × Int) (v0_7 : (List (List Int)) × Int) (b1 : Int) : Option Bool :=
  if (decide (0 < (w.length : Int))) = true then
  if (!(decide (b1 = v0_3.1))) = true then
  some false
  else
  if (decide ((w.length : Int) = 0)) = true then
  if (!(decide (v0_3.1 = 1))) = true then
  some false
  else
  lineallaw03_WeaveSizes_k2 l w v0_7
  else
  lineallaw03_WeaveSizes_k2 l w v0_7
  else
  if (decide ((w.length : Int) = 0)) = true then
  if (!(decide (v0_3.1 = 1))) = true then
  some false
  else
  lineallaw03_WeaveSizes_k2 l w v0_7
  else
  lineallaw03_WeaveSizes_k2 l w v0_7
noncomputable def lineallaw03_WeaveSizes_b1 (l : Int × (List (Int × Int))) (w : List Int) (v0_4 : (List Int) × Int) (st1 : Int × Int) : Option (Step (Int × Int) (Sum Unit Int)) :=
  if (decide (st1.2 < (v0_4.1.length : Int))) = true then
  ck (0 ≤ st1.2) <| ck (st1.2 < (v0_4.1.length : Int)) <| (weave_Rest l [(v0_4.1.getD st1.2.toNat 0)] w).bind fun v0_8 =>
  (weave_Size l v0_8.1).bind fun v0_9 =>
  if (!(decide (v0_8.2 = 0))) = true then
  some (.done (Sum.inl ()))
  else
  if (!(decide (v0_9.2 = 0))) = true then
  some (.done (Sum.inl ()))
  else
  ck (InK .i64 (st1.1 + v0_9.1)) <| ck (InK .i64 (st1.2 + 1)) <| some (.next ((st1.1 + v0_9.1), (st1.2 + 1)))
  else
  some (.done (Sum.inr st1.1))
noncomputable def lineallaw03_WeaveSizes (l : Int × (List (Int × Int))) (w : List Int) (most : Int) : Option Bool :=
  (lineallaw03_valid l [w]).bind fun v0 =>
  if (!v0) = true then
  (lineallaw03_Awake).bind fun v0_2 =>
  some v0_2
  else
  (weave_Size l w).bind fun v0_3 =>
  (weave_Starts l w).bind fun v0_4 =>
  (weave_Turned l w).bind fun v0_5 =>
  (weave_Size l v0_5.1).bind fun v0_6 =>
  ck (InK .i64 most) <| (weave_Class l w most).bind fun v0_7 =>
  if (!(decide (v0_3.2 = 0))) = true then
  some false
  else
  if (!(decide (v0_4.2 = 0))) = true then
  some false
  else
  if (!(decide (v0_5.2 = 0))) = true then
  some false
  else
  if (!(decide (v0_6.2 = 0))) = true then
  some false
  else
  if (!(decide (v0_7.2 = 0))) = true then
  some false
  else
  if (!(decide (v0_6.1 = v0_3.1))) = true then
  some false
  else
  ck (InK .i64 most) <| if (!(decide ((v0_7.1.length : Int) = (min v0_3.1 most)))) = true then
  some false
  else
  if (((decide ((v0_4.1.length : Int) = 0)) == (decide ((w.length : Int) = 0))) != true) = true then
  some false
  else
  (whileO (lineallaw03_WeaveSizes_b1 l w v0_4) (0, 0)).bind fun x => match x with
  | .inl _ => (some false)
  | .inr r1 => (lineallaw03_WeaveSizes_k1 l w v0_3 v0_7 r1)

/- lineal/lineallaw03.begins -/
noncomputable def lineallaw03_begins (l : Int × (List (Int × Int))) (u : List Int) (w : List Int) : Option Bool :=
  (weave_Begins l u w).bind fun v0 =>
  if (decide (v0.2 = 0)) = true then
  some v0.1
  else
  some false

/- lineal/lineallaw03.WeaveMeets -/
noncomputable def lineallaw03_WeaveMeets_k2 (l : Int × (List (Int × Int))) (w : List Int) (v0 : List Int) (other : List Int) (v0_4 : (List Int) × Int) (v0_12 : (List Int) × Int) (v0_13 : (List Int) × Int) (b2 : Bool) : Option Bool :=
  if (!(decide (v0_12.2 = v0_13.2))) = true then
  some false
  else
  (linealref03_SameInts v0_12.1 v0_13.1).bind fun v0_16 =>
  if (!v0_16) = true then
  some false
  else
  if (!(decide (v0_12.2 = 0))) = true then
  if (decide (v0_12.2 = 5)) = true then
  if (!b2) = true then
  (lineallaw03_Awake).bind fun v0_17 =>
  some v0_17
  else
  some false
  else
  if (decide (v0_12.2 = 4)) = true then
  ck (InK .i64 ((w.length : Int) + (v0.length : Int))) <| ck (InK .i64 (((w.length : Int) + (v0.length : Int)) - (v0_4.1.length : Int))) <| if (decide (10 < (((w.length : Int) + (v0.length : Int)) - (v0_4.1.length : Int)))) = true then
  if (!b2) = true then
  (lineallaw03_Awake).bind fun v0_18 =>
  some v0_18
  else
  some false
  else
  some false
  else
  some false
  else
  ck (InK .i64 ((v0_4.1.length : Int) + (v0_12.1.length : Int))) <| ck (InK .i64 ((w.length : Int) + (v0.length : Int))) <| if (decide (((v0_4.1.length : Int) + (v0_12.1.length : Int)) = ((w.length : Int) + (v0.length : Int)))) = true then
  (lineallaw03_begins l w v0_12.1).bind fun v0_19 =>
  if v0_19 = true then
  (lineallaw03_begins l v0 v0_12.1).bind fun v0_20 =>
  if v0_20 = true then
  if (!b2) = true then
  (lineallaw03_Awake).bind fun v0_21 =>
  some v0_21
  else
  (lineallaw03_begins l v0_12.1 other).bind fun v0_22 =>
  if v0_22 = true then
  (lineallaw03_Awake).bind fun v0_23 =>
  some v0_23
  else
  some false
  else
  some false
  else
  some false
  else
  some false
noncomputable def lineallaw03_WeaveMeets_k1 (l : Int × (List (Int × Int))) (w : List Int) (v0 : List Int) (other : List Int) (v0_4 : (List Int) × Int) : Option Bool :=
  (weave_Both l w v0).bind fun v0_12 =>
  (weave_Both l v0 w).bind fun v0_13 =>
  (lineallaw03_begins l w other).bind fun v0_14 =>
  if v0_14 = true then
  (lineallaw03_begins l v0 other).bind fun v0_15 =>
  lineallaw03_WeaveMeets_k2 l w v0 other v0_4 v0_12 v0_13 v0_15
  else
  lineallaw03_WeaveMeets_k2 l w v0 other v0_4 v0_12 v0_13 false
noncomputable def lineallaw03_WeaveMeets (l : Int × (List (Int × Int))) (w : List Int) (v0 : List Int) (other : List Int) : Option Bool :=
  (lineallaw03_valid l [w, v0, other]).bind fun v0_2 =>
  if (!v0_2) = true then
  (lineallaw03_Awake).bind fun v0_3 =>
  some v0_3
  else
  (weave_Common l w v0).bind fun v0_4 =>
  (weave_Common l v0 w).bind fun v0_5 =>
  if (!(decide (v0_4.2 = 0))) = true then
  some false
  else
  if (!(decide (v0_5.2 = 0))) = true then
  some false
  else
  (linealref03_SameInts v0_4.1 v0_5.1).bind fun v0_6 =>
  if (!v0_6) = true then
  some false
  else
  (lineallaw03_begins l v0_4.1 w).bind fun v0_7 =>
  if (!v0_7) = true then
  some false
  else
  (lineallaw03_begins l v0_4.1 v0).bind fun v0_8 =>
  if (!v0_8) = true then
  some false
  else
  (lineallaw03_begins l other w).bind fun v0_9 =>
  if v0_9 = true then
  (lineallaw03_begins l other v0).bind fun v0_10 =>
  if v0_10 = true then
  (lineallaw03_begins l other v0_4.1).bind fun v0_11 =>
  if (!v0_11) = true then
  some false
  else
  lineallaw03_WeaveMeets_k1 l w v0 other v0_4
  else
  lineallaw03_WeaveMeets_k1 l w v0 other v0_4
  else
  lineallaw03_WeaveMeets_k1 l w v0 other v0_4

end Go.Proofs.Ytcijihofjcfpoab
