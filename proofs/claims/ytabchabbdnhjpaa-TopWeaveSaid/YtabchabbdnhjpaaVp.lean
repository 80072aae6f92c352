/-
  Made by wip/tool/dc.py out of the print of the program: pure functions.
-/
import Derived.Test.YtabchabbdnhjpaaTy6
import Derived.Test.YtabchabbdnhjpaaBl6
namespace Go.Proofs.Ytabchabbdnhjpaa
open Go.RowKit

set_option linter.unusedSimpArgs false
set_option linter.unusedVariables false
set_option linter.constructorNameAsVariable false

abbrev ZS : Type := List (Int × Int × (List (List Int)) × (List (List Int)))
abbrev ZH : Type := List (Int × Int × Int × Int × Int × Int)
abbrev ZM : Type := List (((Int × Int) × Int) × Int)
/- lineal/weave.tiesOf -/
noncomputable def weave_tiesOf_k2 (b2 : (El T53)) : Option ((El T53) × Bool) :=
  some (b2, true)
noncomputable def weave_tiesOf_b2 (l : Int × (List (Int × Int))) (st2 : (El T53) × Int) : Option (Step ((El T53) × Int) (Sum Unit ((El T53)))) :=
  if (decide (st2.2 < (l.2.length : Int))) = true then
  ck (0 ≤ st2.2) <| ck (st2.2 < (l.2.length : Int)) <| if (decide ((l.2.getD st2.2.toNat (0, 0)).1 < 0)) = true then
  some (.done (Sum.inl ()))
  else
  if (decide ((l.2.getD st2.2.toNat (0, 0)).2 ≤ (l.2.getD st2.2.toNat (0, 0)).1)) = true then
  some (.done (Sum.inl ()))
  else
  if (decide (l.1 ≤ (l.2.getD st2.2.toNat (0, 0)).2)) = true then
  some (.done (Sum.inl ()))
  else
  ck (0 ≤ (l.2.getD st2.2.toNat (0, 0)).1) <| ck ((l.2.getD st2.2.toNat (0, 0)).1 < 6) <| ck (0 ≤ (l.2.getD st2.2.toNat (0, 0)).2) <| ck ((l.2.getD st2.2.toNat (0, 0)).2 < 6) <| if (boolAt T53 st2.1 ((0 + (l.2.getD st2.2.toNat (0, 0)).1.toNat * 6) + (l.2.getD st2.2.toNat (0, 0)).2.toNat * 1)) = true then
  some (.done (Sum.inl ()))
  else
  ck (0 ≤ (l.2.getD st2.2.toNat (0, 0)).1) <| ck ((l.2.getD st2.2.toNat (0, 0)).1 < 6) <| ck (0 ≤ (l.2.getD st2.2.toNat (0, 0)).2) <| ck ((l.2.getD st2.2.toNat (0, 0)).2 < 6) <| ck (0 ≤ (l.2.getD st2.2.toNat (0, 0)).2) <| ck ((l.2.getD st2.2.toNat (0, 0)).2 < 6) <| ck (0 ≤ (l.2.getD st2.2.toNat (0, 0)).1) <| ck ((l.2.getD st2.2.toNat (0, 0)).1 < 6) <| ck (InK .i64 (st2.2 + 1)) <| some (.next ((setBool T53 (setBool T53 st2.1 ((0 + (l.2.getD st2.2.toNat (0, 0)).1.toNat * 6) + (l.2.getD st2.2.toNat (0, 0)).2.toNat * 1) true) ((0 + (l.2.getD st2.2.toNat (0, 0)).2.toNat * 6) + (l.2.getD st2.2.toNat (0, 0)).1.toNat * 1) true), (st2.2 + 1)))
  else
  some (.done (Sum.inr st2.1))
noncomputable def weave_tiesOf_k1 (l : Int × (List (Int × Int))) (b1 : (El T53)) : Option ((El T53) × Bool) :=
  (whileO (weave_tiesOf_b2 l) (b1, 0)).bind fun x => match x with
  | .inl _ => (some ((Ty.dflt T53), false))
  | .inr r2 => (weave_tiesOf_k2 r2)
noncomputable def weave_tiesOf_b1 (st1 : (El T53) × Int) : Option (Step ((El T53) × Int) ((El T53))) :=
  if (decide (st1.2 < 6)) = true then
  ck (0 ≤ st1.2) <| ck (st1.2 < 6) <| ck (0 ≤ st1.2) <| ck (st1.2 < 6) <| ck (InK .i64 (st1.2 + 1)) <| some (.next ((setBool T53 st1.1 ((0 + st1.2.toNat * 6) + st1.2.toNat * 1) true), (st1.2 + 1)))
  else
  some (.done st1.1)
noncomputable def weave_tiesOf (l : Int × (List (Int × Int))) : Option ((El T53) × Bool) :=
  if (decide (l.1 < 1)) = true then
  some ((Ty.dflt T53), false)
  else
  if (decide (6 < l.1)) = true then
  some ((Ty.dflt T53), false)
  else
  (whileO (weave_tiesOf_b1) ((Ty.dflt T53), 0)).bind fun r1 =>
  weave_tiesOf_k1 l r1

/- lineal/weave.isLetter -/
noncomputable def weave_isLetter (l : Int × (List (Int × Int))) (a : Int) : Option Bool :=
  if (decide (0 ≤ a)) = true then
  some (decide (a < l.1))
  else
  some false

/- lineal/weave.isWord -/
noncomputable def weave_isWord_k1 : Option Bool :=
  some true
noncomputable def weave_isWord_b1 (l : Int × (List (Int × Int))) (w : List Int) (st1 : Int) : Option (Step Int (Sum Unit Unit)) :=
  if (decide (st1 < (w.length : Int))) = true then
  ck (0 ≤ st1) <| ck (st1 < (w.length : Int)) <| (weave_isLetter l (w.getD st1.toNat 0)).bind fun v0 =>
  if (!v0) = true then
  some (.done (Sum.inl ()))
  else
  ck (InK .i64 (st1 + 1)) <| some (.next (st1 + 1))
  else
  some (.done (Sum.inr ()))
noncomputable def weave_isWord (l : Int × (List (Int × Int))) (w : List Int) : Option Bool :=
  if (decide (10 < (w.length : Int))) = true then
  some false
  else
  (whileO (weave_isWord_b1 l w) 0).bind fun x => match x with
  | .inl _ => (some false)
  | .inr _ => (weave_isWord_k1)

/- lineal/weave.checked -/
noncomputable def weave_checked_k1 (v0 : (El T53) × Bool) : Option ((El T53) × Int) :=
  some (v0.1, 0)
noncomputable def weave_checked_b1 (l : Int × (List (Int × Int))) (words : List (List Int)) (st1 : Int) : Option (Step Int (Sum Unit Unit)) :=
  if (decide (st1 < (words.length : Int))) = true then
  ck (0 ≤ st1) <| ck (st1 < (words.length : Int)) <| (weave_isWord l (words.getD st1.toNat [])).bind fun v0_2 =>
  if (!v0_2) = true then
  some (.done (Sum.inl ()))
  else
  ck (InK .i64 (st1 + 1)) <| some (.next (st1 + 1))
  else
  some (.done (Sum.inr ()))
noncomputable def weave_checked (l : Int × (List (Int × Int))) (words : List (List Int)) : Option ((El T53) × Int) :=
  (weave_tiesOf l).bind fun v0 =>
  if (!v0.2) = true then
  some ((Ty.dflt T53), 30)
  else
  (whileO (weave_checked_b1 l words) 0).bind fun x => match x with
  | .inl _ => (some ((Ty.dflt T53), 31))
  | .inr _ => (weave_checked_k1 v0)

/- lineal/weave.keyOf -/
noncomputable def weave_keyOf_k1 (b1 : (El T85)) : Option ((El T85)) :=
  some b1
noncomputable def weave_keyOf_b1 (w : List Int) (st1 : (El T85) × Int) : Option (Step ((El T85) × Int) ((El T85))) :=
  if (decide (st1.2 < (w.length : Int))) = true then
  ck (0 ≤ st1.2) <| ck (st1.2 < (w.length : Int)) <| ck (InK .i64 ((w.getD st1.2.toNat 0) + 1)) <| ck (0 ≤ st1.2) <| ck (st1.2 < 10) <| ck (InK .i64 (st1.2 + 1)) <| some (.next ((setInt T85 st1.1 (0 + st1.2.toNat * 1) ((w.getD st1.2.toNat 0) + 1)), (st1.2 + 1)))
  else
  some (.done st1.1)
noncomputable def weave_keyOf (w : List Int) : Option ((El T85)) :=
  (whileO (weave_keyOf_b1 w) ((Ty.dflt T85), 0)).bind fun r1 =>
  weave_keyOf_k1 r1

/- (lineal/weave.ties).starts -/
noncomputable def weave_ties_starts (t : (El T53)) (w : List Int) : Option Unit :=
  some ()

/- slices.Index[[]int,int] -/
noncomputable def slices_Index_k1 : Option Int :=
  some (-1)
noncomputable def slices_Index_b1 (s : List Int) (v0 : Int) (st1 : Int) : Option (Step Int (Sum Int Unit)) :=
  if (decide (st1 < (s.length : Int))) = true then
  ck (0 ≤ st1) <| ck (st1 < (s.length : Int)) <| if (decide (v0 = (s.getD st1.toNat 0))) = true then
  some (.done (Sum.inl st1))
  else
  ck (InK .i64 (st1 + 1)) <| some (.next (st1 + 1))
  else
  some (.done (Sum.inr ()))
noncomputable def slices_Index (s : List Int) (v0 : Int) : Option Int :=
  (whileO (slices_Index_b1 s v0) 0).bind fun x => match x with
  | .inl r1 => (some r1)
  | .inr _ => (slices_Index_k1)

/- (lineal/weave.ties).onAny -/
noncomputable def weave_ties_onAny_k1 : Option Bool :=
  some false
noncomputable def weave_ties_onAny_b1 (t : (El T53)) (letter : Int) (w : List Int) (st1 : Int) : Option (Step Int (Sum Unit Unit)) :=
  if (decide (st1 < (w.length : Int))) = true then
  ck (0 ≤ st1) <| ck (st1 < (w.length : Int)) <| ck (0 ≤ letter) <| ck (letter < 6) <| ck (0 ≤ (w.getD st1.toNat 0)) <| ck ((w.getD st1.toNat 0) < 6) <| if (boolAt T53 t ((0 + letter.toNat * 6) + (w.getD st1.toNat 0).toNat * 1)) = true then
  some (.done (Sum.inl ()))
  else
  ck (InK .i64 (st1 + 1)) <| some (.next (st1 + 1))
  else
  some (.done (Sum.inr ()))
noncomputable def weave_ties_onAny (t : (El T53)) (letter : Int) (w : List Int) : Option Bool :=
  (whileO (weave_ties_onAny_b1 t letter w) 0).bind fun x => match x with
  | .inl _ => (some true)
  | .inr _ => (weave_ties_onAny_k1)

/- slices.Grow[[]int,int] -/
noncomputable def slices_Grow (n : Int) : Option Unit :=
  if (decide (n < 0)) = true then
  none
  else
  ck (InK .i64 (0 - 0)) <| ck (InK .i64 (n - (0 - 0))) <| if (decide (0 < (n - (0 - 0)))) = true then
  ck (0 < (n - (0 - 0))) <| ck ((n - (0 - 0)) ≤ 9223372036854775806) <| ck (8 * (n - (0 - 0)) ≤ 281474976710656) <| ck (0 ≤ 0) <| ck (0 ≤ ((List.replicate (n - (0 - 0)).toNat (0 : Int)).length : Int)) <| some ()
  else
  some ()

/- slices.Concat[[]int,int] -/
noncomputable def slices_Concat_k2 (b2 : (List Int)) : Option ((List Int)) :=
  some b2
noncomputable def slices_Concat_b2 (slices : List (List Int)) (st2 : (List Int) × Int) : Option (Step ((List Int) × Int) ((List Int))) :=
  if (decide (st2.2 < (slices.length : Int))) = true then
  ck (0 ≤ st2.2) <| ck (st2.2 < (slices.length : Int)) <| ck ((st2.1.length + (slices.getD st2.2.toNat []).length) * 8 ≤ 140737488355328) <| ck (InK .i64 (st2.2 + 1)) <| some (.next ((st2.1 ++ (slices.getD st2.2.toNat [])), (st2.2 + 1)))
  else
  some (.done st2.1)
noncomputable def slices_Concat_k1 (slices : List (List Int)) (b1 : Int) : Option ((List Int)) :=
  (slices_Grow b1).bind fun v0 =>
  (whileO (slices_Concat_b2 slices) ([], 0)).bind fun r2 =>
  slices_Concat_k2 r2
noncomputable def slices_Concat_b1 (slices : List (List Int)) (st1 : Int × Int) : Option (Step (Int × Int) Int) :=
  if (decide (st1.2 < (slices.length : Int))) = true then
  ck (0 ≤ st1.2) <| ck (st1.2 < (slices.length : Int)) <| ck (InK .i64 (st1.1 + ((slices.getD st1.2.toNat []).length : Int))) <| if (decide ((st1.1 + ((slices.getD st1.2.toNat []).length : Int)) < 0)) = true then
  none
  else
  ck (InK .i64 (st1.2 + 1)) <| some (.next ((st1.1 + ((slices.getD st1.2.toNat []).length : Int)), (st1.2 + 1)))
  else
  some (.done st1.1)
noncomputable def slices_Concat (slices : List (List Int)) : Option ((List Int)) :=
  (whileO (slices_Concat_b1 slices) (0, 0)).bind fun r1 =>
  slices_Concat_k1 slices r1

/- (lineal/weave.ties).without -/
noncomputable def weave_ties_without (t : (El T53)) (w : List Int) (letter : Int) : Option ((List Int) × Bool) :=
  (slices_Index w letter).bind fun v0 =>
  if (decide (v0 < 0)) = true then
  some ([], false)
  else
  ck (0 ≤ v0) <| ck (v0 ≤ (w.length : Int)) <| (weave_ties_onAny t letter (w.take v0.toNat)).bind fun v0_2 =>
  if v0_2 = true then
  some ([], false)
  else
  ck (0 ≤ v0) <| ck (v0 ≤ (w.length : Int)) <| ck (InK .i64 (v0 + 1)) <| ck (0 ≤ (v0 + 1)) <| ck ((v0 + 1) ≤ (w.length : Int)) <| (slices_Concat [(w.take v0.toNat), (w.drop (v0 + 1).toNat)]).bind fun v0_3 =>
  some (v0_3, true)

/- (lineal/weave.ties).starts$1 -/
noncomputable def weave_ties_starts_1_b1 (S R : Type) (a1 : (El T53)) (a2 : List Int) (yl : Int × (List Int) → S → Option (Step S R)) (st1 : Int × S) : Option (Step (Int × S) (Sum R S)) :=
  if (decide (st1.1 < 6)) = true then
  (weave_ties_without a1 a2 st1.1).bind fun v0 =>
  if v0.2 = true then
  (yl (st1.1, v0.1) st1.2).bind fun x => match x with
  | .next s => (ck (InK .i64 (st1.1 + 1)) <| some (.next ((st1.1 + 1), s)))
  | .done e => (some (.done (Sum.inl e)))
  else
  ck (InK .i64 (st1.1 + 1)) <| some (.next ((st1.1 + 1), st1.2))
  else
  some (.done (Sum.inr st1.2))
noncomputable def weave_ties_starts_1 (S R : Type) (a1 : (El T53)) (a2 : List Int) (yl : Int × (List Int) → S → Option (Step S R)) (s0 : S) : Option (Sum S R) :=
  (whileO (weave_ties_starts_1_b1 S R a1 a2 yl) (0, s0)).bind fun x => match x with
  | .inl r1 => (some (Sum.inr r1))
  | .inr r1_2 => (some (Sum.inl r1_2))

/- (lineal/weave.ties).size -/
noncomputable def weave_ties_size_k1 (v0 : (El T85)) (b1 : (List ((El T85) × Int)) × Int) : Option (Int × (List ((El T85) × Int))) :=
  ck (okD T85 v0) <| some (b1.2, (mput b1.1 v0 b1.2))
noncomputable def weave_ties_size_y1 (slf : ((El T53)) → (List Int) → (List ((El T85) × Int)) → Option (Int × (List ((El T85) × Int)))) (t : (El T53)) (y1 : Int × (List Int)) (st1 : (List ((El T85) × Int)) × Int) : Option (Step ((List ((El T85) × Int)) × Int) Empty) :=
  (slf t y1.2 st1.1).bind fun v0_3 =>
  ck (InK .i64 (st1.2 + v0_3.1)) <| some (.next (v0_3.2, (st1.2 + v0_3.1)))
noncomputable def weave_ties_sizeF (slf : ((El T53)) → (List Int) → (List ((El T85) × Int)) → Option (Int × (List ((El T85) × Int)))) (t : (El T53)) (w : List Int) (known : List ((El T85) × Int)) : Option (Int × (List ((El T85) × Int))) :=
  if (decide ((w.length : Int) = 0)) = true then
  some (1, known)
  else
  (weave_keyOf w).bind fun v0 =>
  ck (okD T85 v0) <| if (mhas known v0) = true then
  some ((mget 0 known v0), known)
  else
  (weave_ties_starts t w).bind fun v0_2 =>
  (weave_ties_starts_1 ((List ((El T85) × Int)) × Int) Empty t w (weave_ties_size_y1 slf t) (known, 0)).bind fun x => match x with
  | .inl st1_2 => (weave_ties_size_k1 v0 st1_2)
  | .inr r => r.elim
noncomputable def weave_ties_size (n : Nat) : ((El T53)) → (List Int) → (List ((El T85) × Int)) → Option (Int × (List ((El T85) × Int))) := Nat.rec (motive := fun _ => ((El T53)) → (List Int) → (List ((El T85) × Int)) → Option (Int × (List ((El T85) × Int)))) (fun _ _ _ => none) (fun _ slf => weave_ties_sizeF slf) n

/- lineal/weave.Size -/
noncomputable def weave_Size (l : Int × (List (Int × Int))) (w : List Int) : Option (Int × Int) :=
  (weave_checked l [w]).bind fun v0 =>
  if (!(decide (v0.2 = 0))) = true then
  some (0, v0.2)
  else
  (weave_ties_size fuel v0.1 w []).bind fun v0_2 =>
  some (v0_2.1, 0)

/- lineal/lineallaw03.Awake -/
noncomputable def lineallaw03_Awake : Option Bool :=
  (weave_Size (3, [(0, 1)]) [2, 0, 1]).bind fun v0 =>
  if (decide (v0.2 = 0)) = true then
  some (decide (v0.1 = 3))
  else
  some false

/- lineal/lineallaw03.Long -/
noncomputable def lineallaw03_Long_k1 (l : Int × (List (Int × Int))) : Option Bool :=
  some (decide (60 < (l.2.length : Int)))
noncomputable def lineallaw03_Long_b1 (words : List (List Int)) (st1 : Int) : Option (Step Int (Sum Unit Unit)) :=
  if (decide (st1 < (words.length : Int))) = true then
  ck (0 ≤ st1) <| ck (st1 < (words.length : Int)) <| if (decide (60 < ((words.getD st1.toNat []).length : Int))) = true then
  some (.done (Sum.inl ()))
  else
  ck (InK .i64 (st1 + 1)) <| some (.next (st1 + 1))
  else
  some (.done (Sum.inr ()))
noncomputable def lineallaw03_Long (l : Int × (List (Int × Int))) (words : List (List Int)) : Option Bool :=
  (whileO (lineallaw03_Long_b1 words) 0).bind fun x => match x with
  | .inl _ => (some true)
  | .inr _ => (lineallaw03_Long_k1 l)

/- lineal/linealref03.Valid -/
noncomputable def linealref03_Valid_k1 : Option Bool :=
  some true
noncomputable def linealref03_Valid_k2 (st1 : Int) : Option (Step Int (Sum Unit Unit)) :=
  ck (InK .i64 (st1 + 1)) <| some (.next (st1 + 1))
noncomputable def linealref03_Valid_b2 (l : Int × (List (Int × Int))) (st1 : Int) (st2 : Int) : Option (Step Int (Sum Unit Unit)) :=
  if (decide (st2 < ((l.2.take st1.toNat).length : Int))) = true then
  ck (0 ≤ st2) <| ck (st2 < ((l.2.take st1.toNat).length : Int)) <| ck (InK .i64 (l.2.getD st1.toNat (0, 0)).1) <| ck (InK .i64 (l.2.getD st1.toNat (0, 0)).2) <| ck (InK .i64 ((l.2.take st1.toNat).getD st2.toNat (0, 0)).1) <| ck (InK .i64 ((l.2.take st1.toNat).getD st2.toNat (0, 0)).2) <| if (decide ((l.2.getD st1.toNat (0, 0)) = ((l.2.take st1.toNat).getD st2.toNat (0, 0)))) = true then
  some (.done (Sum.inl ()))
  else
  ck (InK .i64 (st2 + 1)) <| some (.next (st2 + 1))
  else
  some (.done (Sum.inr ()))
noncomputable def linealref03_Valid_b1 (l : Int × (List (Int × Int))) (st1 : Int) : Option (Step Int (Sum Unit Unit)) :=
  if (decide (st1 < (l.2.length : Int))) = true then
  ck (0 ≤ st1) <| ck (st1 < (l.2.length : Int)) <| if (decide ((l.2.getD st1.toNat (0, 0)).1 < 0)) = true then
  some (.done (Sum.inl ()))
  else
  if (decide ((l.2.getD st1.toNat (0, 0)).2 < 0)) = true then
  some (.done (Sum.inl ()))
  else
  if (decide (l.1 ≤ (l.2.getD st1.toNat (0, 0)).1)) = true then
  some (.done (Sum.inl ()))
  else
  if (decide (l.1 ≤ (l.2.getD st1.toNat (0, 0)).2)) = true then
  some (.done (Sum.inl ()))
  else
  if (decide ((l.2.getD st1.toNat (0, 0)).2 ≤ (l.2.getD st1.toNat (0, 0)).1)) = true then
  some (.done (Sum.inl ()))
  else
  ck (0 ≤ st1) <| ck (st1 ≤ (l.2.length : Int)) <| (whileO (linealref03_Valid_b2 l st1) 0).bind fun x => match x with
  | .inl _ => (some (.done (Sum.inl ())))
  | .inr _ => (linealref03_Valid_k2 st1)
  else
  some (.done (Sum.inr ()))
noncomputable def linealref03_Valid (l : Int × (List (Int × Int))) : Option Bool :=
  if (decide (l.1 < 1)) = true then
  some false
  else
  if (decide (6 < l.1)) = true then
  some false
  else
  (whileO (linealref03_Valid_b1 l) 0).bind fun x => match x with
  | .inl _ => (some false)
  | .inr _ => (linealref03_Valid_k1)

/- lineal/linealref03.IsLetter -/
noncomputable def linealref03_IsLetter (l : Int × (List (Int × Int))) (a : Int) : Option Bool :=
  if (decide (0 ≤ a)) = true then
  some (decide (a < l.1))
  else
  some false

/- lineal/linealref03.IsWord -/
noncomputable def linealref03_IsWord_k1 (w : List Int) : Option Bool :=
  some (decide ((w.length : Int) ≤ 10))
noncomputable def linealref03_IsWord_b1 (l : Int × (List (Int × Int))) (w : List Int) (st1 : Int) : Option (Step Int (Sum Unit Unit)) :=
  if (decide (st1 < (w.length : Int))) = true then
  ck (0 ≤ st1) <| ck (st1 < (w.length : Int)) <| (linealref03_IsLetter l (w.getD st1.toNat 0)).bind fun v0 =>
  if (!v0) = true then
  some (.done (Sum.inl ()))
  else
  ck (InK .i64 (st1 + 1)) <| some (.next (st1 + 1))
  else
  some (.done (Sum.inr ()))
noncomputable def linealref03_IsWord (l : Int × (List (Int × Int))) (w : List Int) : Option Bool :=
  (whileO (linealref03_IsWord_b1 l w) 0).bind fun x => match x with
  | .inl _ => (some false)
  | .inr _ => (linealref03_IsWord_k1 w)

/- lineal/lineallaw03.valid -/
noncomputable def lineallaw03_valid_k1 : Option Bool :=
  some true
noncomputable def lineallaw03_valid_b1 (l : Int × (List (Int × Int))) (words : List (List Int)) (st1 : Int) : Option (Step Int (Sum Unit Unit)) :=
  if (decide (st1 < (words.length : Int))) = true then
  ck (0 ≤ st1) <| ck (st1 < (words.length : Int)) <| (linealref03_IsWord l (words.getD st1.toNat [])).bind fun v0_3 =>
  if (!v0_3) = true then
  some (.done (Sum.inl ()))
  else
  ck (InK .i64 (st1 + 1)) <| some (.next (st1 + 1))
  else
  some (.done (Sum.inr ()))
noncomputable def lineallaw03_valid (l : Int × (List (Int × Int))) (words : List (List Int)) : Option Bool :=
  (lineallaw03_Long l words).bind fun v0 =>
  if v0 = true then
  some false
  else
  (linealref03_Valid l).bind fun v0_2 =>
  if (!v0_2) = true then
  some false
  else
  (whileO (lineallaw03_valid_b1 l words) 0).bind fun x => match x with
  | .inl _ => (some false)
  | .inr _ => (lineallaw03_valid_k1)

/- cmp.isNaN[int] -/
noncomputable def cmp_isNaN (x0 : Int) : Option Unit :=
  some ()

/- cmp.Less[int] -/
noncomputable def cmp_Less (x0 : Int) (y : Int) : Option Unit :=
  (cmp_isNaN x0).bind fun v0 =>
  some ()

/- slices.insertionSortOrdered[int] -/
noncomputable def slices_insertionSortOrdered_k1 (st1 : (List Int) × Int) (b1 : (List Int)) : Option (Step ((List Int) × Int) ((List Int))) :=
  ck (InK .i64 (st1.2 + 1)) <| some (.next (b1, (st1.2 + 1)))
noncomputable def slices_insertionSortOrdered_b2 (a : Int) (st2 : (List Int) × Int) : Option (Step ((List Int) × Int) ((List Int))) :=
  if (decide (a < st2.2)) = true then
  ck (0 ≤ st2.2) <| ck (st2.2 < (st2.1.length : Int)) <| ck (InK .i64 (st2.2 - 1)) <| ck (0 ≤ (st2.2 - 1)) <| ck ((st2.2 - 1) < (st2.1.length : Int)) <| (cmp_Less (st2.1.getD st2.2.toNat 0) (st2.1.getD (st2.2 - 1).toNat 0)).bind fun v0 =>
  if (decide ((st2.1.getD st2.2.toNat 0) < (st2.1.getD (st2.2 - 1).toNat 0))) = true then
  ck (InK .i64 (st2.2 - 1)) <| ck (InK .i64 (st2.2 - 1)) <| ck (0 ≤ (st2.2 - 1)) <| ck ((st2.2 - 1) < (st2.1.length : Int)) <| ck (0 ≤ st2.2) <| ck (st2.2 < (st2.1.length : Int)) <| ck (0 ≤ st2.2) <| ck (st2.2 < (st2.1.length : Int)) <| ck (0 ≤ (st2.2 - 1)) <| ck ((st2.2 - 1) < ((st2.1.set st2.2.toNat (st2.1.getD (st2.2 - 1).toNat 0)).length : Int)) <| ck (InK .i64 (st2.2 - 1)) <| some (.next (((st2.1.set st2.2.toNat (st2.1.getD (st2.2 - 1).toNat 0)).set (st2.2 - 1).toNat (st2.1.getD st2.2.toNat 0)), (st2.2 - 1)))
  else
  some (.done st2.1)
  else
  some (.done st2.1)
noncomputable def slices_insertionSortOrdered_b1 (a : Int) (b : Int) (st1 : (List Int) × Int) : Option (Step ((List Int) × Int) ((List Int))) :=
  if (decide (st1.2 < b)) = true then
  (whileO (slices_insertionSortOrdered_b2 a) st1).bind fun r2 =>
  slices_insertionSortOrdered_k1 st1 r2
  else
  some (.done st1.1)
noncomputable def slices_insertionSortOrdered (a : Int) (b : Int) (data : List Int) : Option ((List Int)) :=
  ck (InK .i64 (a + 1)) <| (whileO (slices_insertionSortOrdered_b1 a b) (data, (a + 1))).bind fun r1 =>
  some r1

/- slices.pdqsortOrdered[int] -/
noncomputable def slices_pdqsortOrdered_b1 (a : Int) (b : Int) (limit : Int) (data : List Int) (st1 : Unit) : Option (Step Unit ((List Int))) :=
  ck (InK .i64 (b - a)) <| if (decide ((b - a) ≤ 12)) = true then
  (slices_insertionSortOrdered a b data).bind fun v0 =>
  some (.done v0)
  else
  if (decide (limit = 0)) = true then
  none
  else
  none
noncomputable def slices_pdqsortOrdered (a : Int) (b : Int) (limit : Int) (data : List Int) : Option ((List Int)) :=
  (whileO (slices_pdqsortOrdered_b1 a b limit data) ()).bind fun r1 =>
  some r1

/- slices.Sort[[]int,int] -/
noncomputable def slices_Sort (x0 : List Int) : Option ((List Int)) :=
  ck (InK .u64 (x0.length : Int)) <| (math_bits_Len (x0.length : Int)).bind fun v0 =>
  (slices_pdqsortOrdered 0 (x0.length : Int) v0 x0).bind fun v0_2 =>
  some v0_2

/- (lineal/weave.ties).layers -/
noncomputable def weave_ties_layers_k5 (b5 : (List (List Int))) : Option ((List (List Int))) :=
  some b5
noncomputable def weave_ties_layers_b3 (b4_3 : (List (List Int))) (st3 : (List (List Int)) × Int) : Option (Step ((List (List Int)) × Int) ((List (List Int)))) :=
  if (decide (st3.2 < (b4_3.length : Int))) = true then
  ck (0 ≤ st3.2) <| ck (st3.2 < (st3.1.length : Int)) <| (slices_Sort (st3.1.getD st3.2.toNat [])).bind fun v0_2 =>
  ck (InK .i64 (st3.2 + 1)) <| some (.next ((st3.1.set st3.2.toNat v0_2), (st3.2 + 1)))
  else
  some (.done st3.1)
noncomputable def weave_ties_layers_k1 (b4_3 : (List (List Int))) : Option ((List (List Int))) :=
  (whileO (weave_ties_layers_b3 b4_3) (b4_3, 0)).bind fun r3 =>
  weave_ties_layers_k5 r3
noncomputable def weave_ties_layers_k2 (st1 : (List (List Int)) × Int) (b4_2 : (List (List Int))) : Option (Step ((List (List Int)) × Int) ((List (List Int)))) :=
  ck (InK .i64 (st1.2 + 1)) <| some (.next (b4_2, (st1.2 + 1)))
noncomputable def weave_ties_layers_k4 (w : List Int) (st1 : (List (List Int)) × Int) (b3 : Int) (b4 : (List (List Int))) : Option (Step ((List (List Int)) × Int) ((List (List Int)))) :=
  ck (0 ≤ b3) <| ck (b3 < (b4.length : Int)) <| ck ((b3.toNat : Int) < (b4.length : Int)) <| ck (((b4.getD b3.toNat []).length + 1) * 8 ≤ 140737488355328) <| weave_ties_layers_k2 st1 (b4.set b3.toNat ((b4.getD b3.toNat []) ++ [(w.getD st1.2.toNat 0)]))
noncomputable def weave_ties_layers_k3 (w : List Int) (st1 : (List (List Int)) × Int) (b3 : Int) : Option (Step ((List (List Int)) × Int) ((List (List Int)))) :=
  if (decide (b3 = (st1.1.length : Int))) = true then
  ck ((st1.1.length + 1) * 24 ≤ 140737488355328) <| weave_ties_layers_k4 w st1 b3 (st1.1 ++ [[]])
  else
  weave_ties_layers_k4 w st1 b3 st1.1
noncomputable def weave_ties_layers_b2 (t : (El T53)) (w : List Int) (st1 : (List (List Int)) × Int) (st2 : Int) : Option (Step Int Int) :=
  if (decide (0 < st2)) = true then
  ck (InK .i64 (st2 - 1)) <| ck (0 ≤ (st2 - 1)) <| ck ((st2 - 1) < (st1.1.length : Int)) <| (weave_ties_onAny t (w.getD st1.2.toNat 0) (st1.1.getD (st2 - 1).toNat [])).bind fun v0 =>
  if (!v0) = true then
  ck (InK .i64 (st2 - 1)) <| some (.next (st2 - 1))
  else
  some (.done st2)
  else
  some (.done st2)
noncomputable def weave_ties_layers_b1 (t : (El T53)) (w : List Int) (st1 : (List (List Int)) × Int) : Option (Step ((List (List Int)) × Int) ((List (List Int)))) :=
  if (decide (st1.2 < (w.length : Int))) = true then
  ck (0 ≤ st1.2) <| ck (st1.2 < (w.length : Int)) <| (whileO (weave_ties_layers_b2 t w st1) (st1.1.length : Int)).bind fun r2 =>
  weave_ties_layers_k3 w st1 r2
  else
  some (.done st1.1)
noncomputable def weave_ties_layers (t : (El T53)) (w : List Int) : Option ((List (List Int))) :=
  (whileO (weave_ties_layers_b1 t w) (([] : List (List Int)), 0)).bind fun r1 =>
  weave_ties_layers_k1 r1

/- lineal/weave.Layers -/
noncomputable def weave_Layers (l : Int × (List (Int × Int))) (w : List Int) : Option ((List (List Int)) × Int) :=
  (weave_checked l [w]).bind fun v0 =>
  if (!(decide (v0.2 = 0))) = true then
  some ([], v0.2)
  else
  (weave_ties_layers v0.1 w).bind fun v0_2 =>
  some (v0_2, 0)

/- lineal/weave.Depend -/
noncomputable def weave_Depend (l : Int × (List (Int × Int))) (a : Int) (b : Int) : Option (Bool × Int) :=
  (weave_checked l []).bind fun v0 =>
  if (!(decide (v0.2 = 0))) = true then
  some (false, v0.2)
  else
  (weave_isLetter l a).bind fun v0_2 =>
  if (!v0_2) = true then
  some (false, 2)
  else
  (weave_isLetter l b).bind fun v0_3 =>
  if (!v0_3) = true then
  some (false, 2)
  else
  ck (0 ≤ a) <| ck (a < 6) <| ck (0 ≤ b) <| ck (b < 6) <| some ((boolAt T53 v0.1 ((0 + a.toNat * 6) + b.toNat * 1)), 0)

/- lineal/lineallaw03.depends -/
noncomputable def lineallaw03_depends (l : Int × (List (Int × Int))) (a : Int) (b : Int) : Option Bool :=
  (weave_Depend l a b).bind fun v0 =>
  if (decide (v0.2 = 0)) = true then
  some v0.1
  else
  some false

/- (lineal/weave.ties).class -/
noncomputable def weave_ties_class (t : (El T53)) (w : List Int) : Option Unit :=
  some ()

/- (lineal/weave.ties).class$1 -/
noncomputable def weave_ties_class_1_y2 (S R : Type) (yl : (List Int) → S → Option (Step S R)) (y1 : Int × (List Int)) (y2 : (List Int)) (st2 : S) : Option (Step S R) :=
  ck ((1 + y2.length) * 8 ≤ 140737488355328) <| (yl (y1.1 :: y2) st2).bind fun x => match x with
  | .next s_2 => (some (.next s_2))
  | .done e_2 => (some (.done e_2))
noncomputable def weave_ties_class_1_y1 (S R : Type) (slf : ∀ (S R : Type), (List Int) → ((El T53)) → ((List Int) → S → Option (Step S R)) → S → Option (Sum S R)) (a2 : (El T53)) (yl : (List Int) → S → Option (Step S R)) (y1 : Int × (List Int)) (st1 : S) : Option (Step S R) :=
  (weave_ties_class a2 y1.2).bind fun v0_2 =>
  (slf S R y1.2 a2 (weave_ties_class_1_y2 S R yl y1) st1).bind fun x => match x with
  | .inl st2_2 => (some (.next st2_2))
  | .inr r2 => (some (.done r2))
noncomputable def weave_ties_class_1F (slf : ∀ (S R : Type), (List Int) → ((El T53)) → ((List Int) → S → Option (Step S R)) → S → Option (Sum S R)) (S R : Type) (a1 : List Int) (a2 : (El T53)) (yl : (List Int) → S → Option (Step S R)) (s0 : S) : Option (Sum S R) :=
  if (decide ((a1.length : Int) = 0)) = true then
  (yl [] s0).bind fun x => match x with
  | .next s => (some (Sum.inl s))
  | .done e => (some (Sum.inr e))
  else
  (weave_ties_starts a2 a1).bind fun v0 =>
  (weave_ties_starts_1 S R a2 a1 (weave_ties_class_1_y1 S R slf a2 yl) s0).bind fun x => match x with
  | .inl st1_2 => (some (Sum.inl st1_2))
  | .inr r1 => (some (Sum.inr r1))
noncomputable def weave_ties_class_1 (n : Nat) : ∀ (S R : Type), (List Int) → ((El T53)) → ((List Int) → S → Option (Step S R)) → S → Option (Sum S R) := Nat.rec (motive := fun _ => ∀ (S R : Type), (List Int) → ((El T53)) → ((List Int) → S → Option (Step S R)) → S → Option (Sum S R)) (fun _ _ _ _ _ _ => none) (fun _ slf => weave_ties_class_1F slf) n

/- (lineal/weave.ties).first -/
noncomputable def weave_ties_first_k1 : Option ((List Int)) :=
  some []
noncomputable def weave_ties_first_y1 (y1 : (List Int)) (st1 : Unit) : Option (Step Unit ((List Int))) :=
  some (.done y1)
noncomputable def weave_ties_first (t : (El T53)) (w : List Int) : Option ((List Int)) :=
  (weave_ties_class t w).bind fun v0 =>
  (weave_ties_class_1 fuel Unit ((List Int)) w t (weave_ties_first_y1) ()).bind fun x => match x with
  | .inl st1_2 => (weave_ties_first_k1)
  | .inr r1 => (some r1)

/- slices.Equal[[]int,int] -/
noncomputable def slices_Equal_k1 : Option Bool :=
  some true
noncomputable def slices_Equal_b1 (s1 : List Int) (s2 : List Int) (st1 : Int) : Option (Step Int (Sum Unit Unit)) :=
  if (decide (st1 < (s1.length : Int))) = true then
  ck (0 ≤ st1) <| ck (st1 < (s1.length : Int)) <| ck (0 ≤ st1) <| ck (st1 < (s2.length : Int)) <| if (!(decide ((s1.getD st1.toNat 0) = (s2.getD st1.toNat 0)))) = true then
  some (.done (Sum.inl ()))
  else
  ck (InK .i64 (st1 + 1)) <| some (.next (st1 + 1))
  else
  some (.done (Sum.inr ()))
noncomputable def slices_Equal (s1 : List Int) (s2 : List Int) : Option Bool :=
  if (!(decide ((s1.length : Int) = (s2.length : Int)))) = true then
  some false
  else
  (whileO (slices_Equal_b1 s1 s2) 0).bind fun x => match x with
  | .inl _ => (some false)
  | .inr _ => (slices_Equal_k1)

/- lineal/weave.Equal -/
noncomputable def weave_Equal (l : Int × (List (Int × Int))) (w : List Int) (v0 : List Int) : Option (Bool × Int) :=
  (weave_checked l [w, v0]).bind fun v0_2 =>
  if (!(decide (v0_2.2 = 0))) = true then
  some (false, v0_2.2)
  else
  (weave_ties_first v0_2.1 w).bind fun v0_3 =>
  (weave_ties_first v0_2.1 v0).bind fun v0_4 =>
  (slices_Equal v0_3 v0_4).bind fun v0_5 =>
  some (v0_5, 0)

/- lineal/lineallaw03.WeaveLayers -/
noncomputable def lineallaw03_WeaveLayers_k1 (l : Int × (List (Int × Int))) (w : List Int) (b6 : (List Int)) : Option Bool :=
  (weave_Equal l w b6).bind fun v0_7 =>
  if (decide (v0_7.2 = 0)) = true then
  if v0_7.1 = true then
  (lineallaw03_Awake).bind fun v0_8 =>
  some v0_8
  else
  some false
  else
  some false
noncomputable def lineallaw03_WeaveLayers_k2 (v0_3 : (List (List Int)) × Int) (st1 : (List Int) × Int) : Option (Step ((List Int) × Int) (Sum Unit ((List Int)))) :=
  ck (InK .i64 (st1.2 + 1)) <| some (.next ((st1.1 ++ (v0_3.1.getD st1.2.toNat [])), (st1.2 + 1)))
noncomputable def lineallaw03_WeaveLayers_k3 (v0_3 : (List (List Int)) × Int) (st1 : (List Int) × Int) : Option (Step ((List Int) × Int) (Sum Unit ((List Int)))) :=
  ck ((st1.1.length + (v0_3.1.getD st1.2.toNat []).length) * 8 ≤ 140737488355328) <| lineallaw03_WeaveLayers_k2 v0_3 st1
noncomputable def lineallaw03_WeaveLayers_k4 (st2 : Int) : Option (Step Int (Sum Unit Unit)) :=
  ck (InK .i64 (st2 + 1)) <| some (.next (st2 + 1))
noncomputable def lineallaw03_WeaveLayers_b4 (l : Int × (List (Int × Int))) (v0_3 : (List (List Int)) × Int) (st1 : (List Int) × Int) (st2 : Int) (st4 : Int) : Option (Step Int (Sum Unit Unit)) :=
  if (decide (st4 < (((v0_3.1.getD st1.2.toNat []).take st2.toNat).length : Int))) = true then
  ck (0 ≤ st4) <| ck (st4 < (((v0_3.1.getD st1.2.toNat []).take st2.toNat).length : Int)) <| (lineallaw03_depends l ((v0_3.1.getD st1.2.toNat []).getD st2.toNat 0) (((v0_3.1.getD st1.2.toNat []).take st2.toNat).getD st4.toNat 0)).bind fun v0_6 =>
  if v0_6 = true then
  some (.done (Sum.inl ()))
  else
  ck (InK .i64 (st4 + 1)) <| some (.next (st4 + 1))
  else
  some (.done (Sum.inr ()))
noncomputable def lineallaw03_WeaveLayers_k6 (l : Int × (List (Int × Int))) (v0_3 : (List (List Int)) × Int) (st1 : (List Int) × Int) (st2 : Int) : Option (Step Int (Sum Unit Unit)) :=
  (whileO (lineallaw03_WeaveLayers_b4 l v0_3 st1 st2) 0).bind fun x => match x with
  | .inl _ => (some (.done (Sum.inl ())))
  | .inr _ => (lineallaw03_WeaveLayers_k4 st2)
noncomputable def lineallaw03_WeaveLayers_k5 (l : Int × (List (Int × Int))) (v0_3 : (List (List Int)) × Int) (st1 : (List Int) × Int) (st2 : Int) (b5 : Bool) : Option (Step Int (Sum Unit Unit)) :=
  if (!b5) = true then
  some (.done (Sum.inl ()))
  else
  if (decide (0 < st2)) = true then
  ck (InK .i64 (st2 - 1)) <| ck (0 ≤ (st2 - 1)) <| ck ((st2 - 1) < ((v0_3.1.getD st1.2.toNat []).length : Int)) <| if (decide (((v0_3.1.getD st1.2.toNat []).getD st2.toNat 0) ≤ ((v0_3.1.getD st1.2.toNat []).getD (st2 - 1).toNat 0))) = true then
  some (.done (Sum.inl ()))
  else
  ck (0 ≤ st2) <| ck (st2 ≤ ((v0_3.1.getD st1.2.toNat []).length : Int)) <| lineallaw03_WeaveLayers_k6 l v0_3 st1 st2
  else
  ck (0 ≤ st2) <| ck (st2 ≤ ((v0_3.1.getD st1.2.toNat []).length : Int)) <| lineallaw03_WeaveLayers_k6 l v0_3 st1 st2
noncomputable def lineallaw03_WeaveLayers_b3 (l : Int × (List (Int × Int))) (v0_3 : (List (List Int)) × Int) (st1 : (List Int) × Int) (st2 : Int) (st3 : Bool × Int) : Option (Step (Bool × Int) Bool) :=
  if (decide (st3.2 < ((v0_3.1.getD (st1.2 - 1).toNat []).length : Int))) = true then
  ck (0 ≤ st3.2) <| ck (st3.2 < ((v0_3.1.getD (st1.2 - 1).toNat []).length : Int)) <| if st3.1 = true then
  ck (InK .i64 (st3.2 + 1)) <| some (.next (true, (st3.2 + 1)))
  else
  (lineallaw03_depends l ((v0_3.1.getD st1.2.toNat []).getD st2.toNat 0) ((v0_3.1.getD (st1.2 - 1).toNat []).getD st3.2.toNat 0)).bind fun v0_5 =>
  ck (InK .i64 (st3.2 + 1)) <| some (.next (v0_5, (st3.2 + 1)))
  else
  some (.done st3.1)
noncomputable def lineallaw03_WeaveLayers_b2 (l : Int × (List (Int × Int))) (v0_3 : (List (List Int)) × Int) (st1 : (List Int) × Int) (st2 : Int) : Option (Step Int (Sum Unit Unit)) :=
  if (decide (st2 < ((v0_3.1.getD st1.2.toNat []).length : Int))) = true then
  ck (0 ≤ st2) <| ck (st2 < ((v0_3.1.getD st1.2.toNat []).length : Int)) <| if (decide (0 < st1.2)) = true then
  ck (InK .i64 (st1.2 - 1)) <| ck (0 ≤ (st1.2 - 1)) <| ck ((st1.2 - 1) < (v0_3.1.length : Int)) <| (whileO (lineallaw03_WeaveLayers_b3 l v0_3 st1 st2) ((decide (st1.2 = 0)), 0)).bind fun r3 =>
  lineallaw03_WeaveLayers_k5 l v0_3 st1 st2 r3
  else
  lineallaw03_WeaveLayers_k5 l v0_3 st1 st2 (decide (st1.2 = 0))
  else
  some (.done (Sum.inr ()))
noncomputable def lineallaw03_WeaveLayers_b1 (l : Int × (List (Int × Int))) (v0_3 : (List (List Int)) × Int) (st1 : (List Int) × Int) : Option (Step ((List Int) × Int) (Sum Unit ((List Int)))) :=
  if (decide (st1.2 < (v0_3.1.length : Int))) = true then
  ck (0 ≤ st1.2) <| ck (st1.2 < (v0_3.1.length : Int)) <| if (decide (((v0_3.1.getD st1.2.toNat []).length : Int) = 0)) = true then
  some (.done (Sum.inl ()))
  else
  (linealref03_IsWord l (v0_3.1.getD st1.2.toNat [])).bind fun v0_4 =>
  if (!v0_4) = true then
  some (.done (Sum.inl ()))
  else
  (whileO (lineallaw03_WeaveLayers_b2 l v0_3 st1) 0).bind fun x => match x with
  | .inl _ => (some (.done (Sum.inl ())))
  | .inr _ => (lineallaw03_WeaveLayers_k3 v0_3 st1)
  else
  some (.done (Sum.inr st1.1))
noncomputable def lineallaw03_WeaveLayers (l : Int × (List (Int × Int))) (w : List Int) : Option Bool :=
  (lineallaw03_valid l [w]).bind fun v0 =>
  if (!v0) = true then
  (lineallaw03_Awake).bind fun v0_2 =>
  some v0_2
  else
  (weave_Layers l w).bind fun v0_3 =>
  if (!(decide (v0_3.2 = 0))) = true then
  some false
  else
  (whileO (lineallaw03_WeaveLayers_b1 l v0_3) ([], 0)).bind fun x => match x with
  | .inl _ => (some false)
  | .inr r1 => (lineallaw03_WeaveLayers_k1 l w r1)

/- lineal/linealref03.asked -/
noncomputable def linealref03_asked (l : Int × (List (Int × Int))) (w : List Int) (v0 : List Int) : Option Int :=
  (linealref03_Valid l).bind fun v0_2 =>
  if (!v0_2) = true then
  some 30
  else
  (linealref03_IsWord l w).bind fun v0_3 =>
  if (!v0_3) = true then
  some 31
  else
  (linealref03_IsWord l v0).bind fun v0_4 =>
  if (!v0_4) = true then
  some 31
  else
  some 0

/- lineal/linealref03.depend -/
noncomputable def linealref03_depend_k1 (b1 : Bool) : Option Bool :=
  some b1
noncomputable def linealref03_depend_b1 (l : Int × (List (Int × Int))) (a : Int) (b : Int) (st1 : Bool × Int) : Option (Step (Bool × Int) Bool) :=
  if (decide (st1.2 < (l.2.length : Int))) = true then
  ck (0 ≤ st1.2) <| ck (st1.2 < (l.2.length : Int)) <| if st1.1 = true then
  ck (InK .i64 (st1.2 + 1)) <| some (.next (true, (st1.2 + 1)))
  else
  if (decide ((l.2.getD st1.2.toNat (0, 0)).1 = a)) = true then
  if (decide ((l.2.getD st1.2.toNat (0, 0)).2 = b)) = true then
  ck (InK .i64 (st1.2 + 1)) <| some (.next (true, (st1.2 + 1)))
  else
  if (decide ((l.2.getD st1.2.toNat (0, 0)).1 = b)) = true then
  ck (InK .i64 (st1.2 + 1)) <| some (.next ((decide ((l.2.getD st1.2.toNat (0, 0)).2 = a)), (st1.2 + 1)))
  else
  ck (InK .i64 (st1.2 + 1)) <| some (.next (false, (st1.2 + 1)))
  else
  if (decide ((l.2.getD st1.2.toNat (0, 0)).1 = b)) = true then
  ck (InK .i64 (st1.2 + 1)) <| some (.next ((decide ((l.2.getD st1.2.toNat (0, 0)).2 = a)), (st1.2 + 1)))
  else
  ck (InK .i64 (st1.2 + 1)) <| some (.next (false, (st1.2 + 1)))
  else
  some (.done st1.1)
noncomputable def linealref03_depend (l : Int × (List (Int × Int))) (a : Int) (b : Int) : Option Bool :=
  (whileO (linealref03_depend_b1 l a b) ((decide (a = b)), 0)).bind fun r1 =>
  linealref03_depend_k1 r1

/- lineal/linealref03.free -/
noncomputable def linealref03_free_k1 : Option Int :=
  some (-1)
noncomputable def linealref03_free_b1 (l : Int × (List (Int × Int))) (w : List Int) (a : Int) (st1 : Int) : Option (Step Int (Sum Int Unit)) :=
  if (decide (st1 < (w.length : Int))) = true then
  ck (0 ≤ st1) <| ck (st1 < (w.length : Int)) <| if (decide ((w.getD st1.toNat 0) = a)) = true then
  some (.done (Sum.inl st1))
  else
  (linealref03_depend l a (w.getD st1.toNat 0)).bind fun v0 =>
  if v0 = true then
  some (.done (Sum.inl (-1)))
  else
  ck (InK .i64 (st1 + 1)) <| some (.next (st1 + 1))
  else
  some (.done (Sum.inr ()))
noncomputable def linealref03_free (l : Int × (List (Int × Int))) (w : List Int) (a : Int) : Option Int :=
  (whileO (linealref03_free_b1 l w a) 0).bind fun x => match x with
  | .inl r1 => (some r1)
  | .inr _ => (linealref03_free_k1)

/- lineal/linealref03.starts -/
noncomputable def linealref03_starts_k1 (b1 : (List Int)) : Option ((List Int)) :=
  some b1
noncomputable def linealref03_starts_b1 (l : Int × (List (Int × Int))) (w : List Int) (st1 : (List Int) × Int) : Option (Step ((List Int) × Int) ((List Int))) :=
  if (decide (st1.2 < l.1)) = true then
  (linealref03_free l w st1.2).bind fun v0 =>
  if (decide (0 ≤ v0)) = true then
  ck ((st1.1.length + 1) * 8 ≤ 140737488355328) <| ck (InK .i64 (st1.2 + 1)) <| some (.next ((st1.1 ++ [st1.2]), (st1.2 + 1)))
  else
  ck (InK .i64 (st1.2 + 1)) <| some (.next (st1.1, (st1.2 + 1)))
  else
  some (.done st1.1)
noncomputable def linealref03_starts (l : Int × (List (Int × Int))) (w : List Int) : Option ((List Int)) :=
  (whileO (linealref03_starts_b1 l w) ([], 0)).bind fun r1 =>
  linealref03_starts_k1 r1

/- lineal/linealref03.without -/
noncomputable def linealref03_without (w : List Int) (at0 : Int) : Option Unit :=
  ck (0 ≤ at0) <| ck (at0 ≤ (w.length : Int)) <| ck ((w.take at0.toNat).length * 8 ≤ 140737488355328) <| ck (InK .i64 (at0 + 1)) <| ck (0 ≤ (at0 + 1)) <| ck ((at0 + 1) ≤ (w.length : Int)) <| ck (((w.take at0.toNat).length + (w.drop (at0 + 1).toNat).length) * 8 ≤ 140737488355328) <| some ()

/- lineal/linealref03.rest -/
noncomputable def linealref03_rest_k1 (b1 : (List Int)) : Option ((List Int) × Bool) :=
  some (b1, true)
noncomputable def linealref03_rest_b1 (l : Int × (List (Int × Int))) (u : List Int) (st1 : (List Int) × Int) : Option (Step ((List Int) × Int) (Sum Unit ((List Int)))) :=
  if (decide (st1.2 < (u.length : Int))) = true then
  ck (0 ≤ st1.2) <| ck (st1.2 < (u.length : Int)) <| (linealref03_free l st1.1 (u.getD st1.2.toNat 0)).bind fun v0 =>
  if (decide (v0 < 0)) = true then
  some (.done (Sum.inl ()))
  else
  (linealref03_without st1.1 v0).bind fun v0_2 =>
  ck (InK .i64 (st1.2 + 1)) <| some (.next (((st1.1.take v0.toNat) ++ (st1.1.drop (v0 + 1).toNat)), (st1.2 + 1)))
  else
  some (.done (Sum.inr st1.1))
noncomputable def linealref03_rest (l : Int × (List (Int × Int))) (u : List Int) (w : List Int) : Option ((List Int) × Bool) :=
  ck (w.length * 8 ≤ 140737488355328) <| (whileO (linealref03_rest_b1 l u) (w, 0)).bind fun x => match x with
  | .inl _ => (some ([], false))
  | .inr r1 => (linealref03_rest_k1 r1)

/- lineal/linealref03.Layers -/
noncomputable def linealref03_Layers_k1 (b1 : (List (List Int))) : Option ((List (List Int)) × Int) :=
  some (b1, 0)
noncomputable def linealref03_Layers_b1 (l : Int × (List (Int × Int))) (st1 : (List (List Int)) × (List Int)) : Option (Step ((List (List Int)) × (List Int)) ((List (List Int)))) :=
  if (decide (0 < (st1.2.length : Int))) = true then
  (linealref03_starts l st1.2).bind fun v0_2 =>
  ck ((st1.1.length + 1) * 24 ≤ 140737488355328) <| (linealref03_rest l v0_2 st1.2).bind fun v0_3 =>
  some (.next ((st1.1 ++ [v0_2]), v0_3.1))
  else
  some (.done st1.1)
noncomputable def linealref03_Layers (l : Int × (List (Int × Int))) (w : List Int) : Option ((List (List Int)) × Int) :=
  (linealref03_asked l w []).bind fun v0 =>
  if (!(decide (v0 = 0))) = true then
  some ([], v0)
  else
  (whileO (linealref03_Layers_b1 l) ([], w)).bind fun r1 =>
  linealref03_Layers_k1 r1

/- lineal/linealref03.SameInts -/
noncomputable def linealref03_SameInts_k1 : Option Bool :=
  some true
noncomputable def linealref03_SameInts_b1 (a : List Int) (b : List Int) (st1 : Int) : Option (Step Int (Sum Unit Unit)) :=
  if (decide (st1 < (a.length : Int))) = true then
  ck (0 ≤ st1) <| ck (st1 < (a.length : Int)) <| ck (0 ≤ st1) <| ck (st1 < (b.length : Int)) <| if (!(decide ((a.getD st1.toNat 0) = (b.getD st1.toNat 0)))) = true then
  some (.done (Sum.inl ()))
  else
  ck (InK .i64 (st1 + 1)) <| some (.next (st1 + 1))
  else
  some (.done (Sum.inr ()))
noncomputable def linealref03_SameInts (a : List Int) (b : List Int) : Option Bool :=
  if (!(decide ((a.length : Int) = (b.length : Int)))) = true then
  some false
  else
  (whileO (linealref03_SameInts_b1 a b) 0).bind fun x => match x with
  | .inl _ => (some false)
  | .inr _ => (linealref03_SameInts_k1)

/- lineal/linealref03.SameLists -/
noncomputable def linealref03_SameLists_k1 : Option Bool :=
  some true
noncomputable def linealref03_SameLists_b1 (a : List (List Int)) (b : List (List Int)) (st1 : Int) : Option (Step Int (Sum Unit Unit)) :=
  if (decide (st1 < (a.length : Int))) = true then
  ck (0 ≤ st1) <| ck (st1 < (a.length : Int)) <| ck (0 ≤ st1) <| ck (st1 < (b.length : Int)) <| (linealref03_SameInts (a.getD st1.toNat []) (b.getD st1.toNat [])).bind fun v0 =>
  if (!v0) = true then
  some (.done (Sum.inl ()))
  else
  ck (InK .i64 (st1 + 1)) <| some (.next (st1 + 1))
  else
  some (.done (Sum.inr ()))
noncomputable def linealref03_SameLists (a : List (List Int)) (b : List (List Int)) : Option Bool :=
  if (!(decide ((a.length : Int) = (b.length : Int)))) = true then
  some false
  else
  (whileO (linealref03_SameLists_b1 a b) 0).bind fun x => match x with
  | .inl _ => (some false)
  | .inr _ => (linealref03_SameLists_k1)

/- lineal/weave.First -/
noncomputable def weave_First (l : Int × (List (Int × Int))) (w : List Int) : Option ((List Int) × Int) :=
  (weave_checked l [w]).bind fun v0 =>
  if (!(decide (v0.2 = 0))) = true then
  some ([], v0.2)
  else
  (weave_ties_first v0.1 w).bind fun v0_2 =>
  some (v0_2, 0)

/- lineal/linealref03.FirstForm -/
noncomputable def linealref03_FirstForm_k1 (b1 : (List Int)) : Option ((List Int)) :=
  some b1
noncomputable def linealref03_FirstForm_b1 (l : Int × (List (Int × Int))) (st1 : (List Int) × (List Int)) : Option (Step ((List Int) × (List Int)) ((List Int))) :=
  if (decide (0 < (st1.2.length : Int))) = true then
  (linealref03_starts l st1.2).bind fun v0 =>
  ck (0 < (v0.length : Int)) <| ck ((st1.1.length + 1) * 8 ≤ 140737488355328) <| (linealref03_free l st1.2 (v0.getD 0 0)).bind fun v0_2 =>
  (linealref03_without st1.2 v0_2).bind fun v0_3 =>
  some (.next ((st1.1 ++ [(v0.getD 0 0)]), ((st1.2.take v0_2.toNat) ++ (st1.2.drop (v0_2 + 1).toNat))))
  else
  some (.done st1.1)
noncomputable def linealref03_FirstForm (l : Int × (List (Int × Int))) (w : List Int) : Option ((List Int)) :=
  (whileO (linealref03_FirstForm_b1 l) ([], w)).bind fun r1 =>
  linealref03_FirstForm_k1 r1

/- lineal/linealref03.First -/
noncomputable def linealref03_First (l : Int × (List (Int × Int))) (w : List Int) : Option ((List Int) × Int) :=
  (linealref03_asked l w []).bind fun v0 =>
  if (!(decide (v0 = 0))) = true then
  some ([], v0)
  else
  (linealref03_FirstForm l w).bind fun v0_2 =>
  some (v0_2, 0)

/- lineal/weave.Starts -/
noncomputable def weave_Starts_k1 (b1 : (List Int)) : Option ((List Int) × Int) :=
  some (b1, 0)
noncomputable def weave_Starts_y1 (y1 : Int × (List Int)) (st1 : (List Int)) : Option (Step ((List Int)) Empty) :=
  ck ((st1.length + 1) * 8 ≤ 140737488355328) <| some (.next (st1 ++ [y1.1]))
noncomputable def weave_Starts (l : Int × (List (Int × Int))) (w : List Int) : Option ((List Int) × Int) :=
  (weave_checked l [w]).bind fun v0 =>
  if (!(decide (v0.2 = 0))) = true then
  some ([], v0.2)
  else
  (weave_ties_starts v0.1 w).bind fun v0_2 =>
  (weave_ties_starts_1 ((List Int)) Empty v0.1 w (weave_Starts_y1) []).bind fun x => match x with
  | .inl st1_2 => (weave_Starts_k1 st1_2)
  | .inr r => r.elim

/- lineal/linealref03.Starts -/
noncomputable def linealref03_Starts (l : Int × (List (Int × Int))) (w : List Int) : Option ((List Int) × Int) :=
  (linealref03_asked l w []).bind fun v0 =>
  if (!(decide (v0 = 0))) = true then
  some ([], v0)
  else
  (linealref03_starts l w).bind fun v0_2 =>
  some (v0_2, 0)

/- slices.Clone[[]int,int] -/
noncomputable def slices_Clone (s : List Int) : Option ((List Int)) :=
  ck (s.length * 8 ≤ 140737488355328) <| some s

/- slices.Reverse[[]int,int] -/
noncomputable def slices_Reverse_b1 (st1 : (List Int) × Int × Int) : Option (Step ((List Int) × Int × Int) ((List Int))) :=
  if (decide (st1.2.1 < st1.2.2)) = true then
  ck (0 ≤ st1.2.2) <| ck (st1.2.2 < (st1.1.length : Int)) <| ck (0 ≤ st1.2.1) <| ck (st1.2.1 < (st1.1.length : Int)) <| ck (0 ≤ st1.2.1) <| ck (st1.2.1 < (st1.1.length : Int)) <| ck (0 ≤ st1.2.2) <| ck (st1.2.2 < ((st1.1.set st1.2.1.toNat (st1.1.getD st1.2.2.toNat 0)).length : Int)) <| ck (InK .i64 (st1.2.1 + 1)) <| ck (InK .i64 (st1.2.2 - 1)) <| some (.next (((st1.1.set st1.2.1.toNat (st1.1.getD st1.2.2.toNat 0)).set st1.2.2.toNat (st1.1.getD st1.2.1.toNat 0)), (st1.2.1 + 1), (st1.2.2 - 1)))
  else
  some (.done st1.1)
noncomputable def slices_Reverse (s : List Int) : Option ((List Int)) :=
  ck (InK .i64 ((s.length : Int) - 1)) <| (whileO (slices_Reverse_b1) (s, 0, ((s.length : Int) - 1))).bind fun r1 =>
  some r1

/- lineal/weave.Turned -/
noncomputable def weave_Turned (l : Int × (List (Int × Int))) (w : List Int) : Option ((List Int) × Int) :=
  (weave_checked l [w]).bind fun v0 =>
  if (!(decide (v0.2 = 0))) = true then
  some ([], v0.2)
  else
  (slices_Clone w).bind fun v0_2 =>
  (slices_Reverse v0_2).bind fun v0_3 =>
  (weave_ties_first v0.1 v0_3).bind fun v0_4 =>
  some (v0_4, 0)

/- lineal/linealref03.Turned -/
noncomputable def linealref03_Turned_k1 (l : Int × (List (Int × Int))) (b1 : (List Int)) : Option ((List Int) × Int) :=
  (linealref03_FirstForm l b1).bind fun v0_2 =>
  some (v0_2, 0)
noncomputable def linealref03_Turned_b1 (w : List Int) (st1 : (List Int) × Int) : Option (Step ((List Int) × Int) ((List Int))) :=
  if (decide (0 ≤ st1.2)) = true then
  ck (0 ≤ st1.2) <| ck (st1.2 < (w.length : Int)) <| ck ((st1.1.length + 1) * 8 ≤ 140737488355328) <| ck (InK .i64 (st1.2 - 1)) <| some (.next ((st1.1 ++ [(w.getD st1.2.toNat 0)]), (st1.2 - 1)))
  else
  some (.done st1.1)
noncomputable def linealref03_Turned (l : Int × (List (Int × Int))) (w : List Int) : Option ((List Int) × Int) :=
  (linealref03_asked l w []).bind fun v0 =>
  if (!(decide (v0 = 0))) = true then
  some ([], v0)
  else
  ck (InK .i64 ((w.length : Int) - 1)) <| (whileO (linealref03_Turned_b1 w) ([], ((w.length : Int) - 1))).bind fun r1 =>
  linealref03_Turned_k1 l r1

/- lineal/linealref03.sizes -/
noncomputable def linealref03_sizes_k3 (b4_2 : (List Int)) : Option Int :=
  ck (InK .i64 ((b4_2.length : Int) - 1)) <| ck (0 ≤ ((b4_2.length : Int) - 1)) <| ck (((b4_2.length : Int) - 1) < (b4_2.length : Int)) <| some (b4_2.getD ((b4_2.length : Int) - 1).toNat 0)
noncomputable def linealref03_sizes_k4 (st3 : (List Int) × Int) (b4 : (List Int)) : Option (Step ((List Int) × Int) ((List Int))) :=
  ck (InK .i64 (st3.2 + 1)) <| some (.next (b4, (st3.2 + 1)))
noncomputable def linealref03_sizes_b4 (w : List Int) (b2_2 : (List Int)) (st3 : (List Int) × Int) (st4 : (List Int) × Int) : Option (Step ((List Int) × Int) ((List Int))) :=
  if (decide (st4.2 < (w.length : Int))) = true then
  ck (0 ≤ st4.2) <| if (!(decide (st3.2 = (iandn .i64 st3.2 (ishl .i64 1 st4.2))))) = true then
  ck (0 ≤ st4.2) <| ck (st4.2 < (b2_2.length : Int)) <| ck (0 ≤ st4.2) <| ck (st4.2 < (b2_2.length : Int)) <| if (decide ((iand .i64 (iandn .i64 st3.2 (ishl .i64 1 st4.2)) (b2_2.getD st4.2.toNat 0)) = (b2_2.getD st4.2.toNat 0))) = true then
  ck (0 ≤ st3.2) <| ck (st3.2 < (st4.1.length : Int)) <| ck (0 ≤ (iandn .i64 st3.2 (ishl .i64 1 st4.2))) <| ck ((iandn .i64 st3.2 (ishl .i64 1 st4.2)) < (st4.1.length : Int)) <| ck (InK .i64 ((st4.1.getD st3.2.toNat 0) + (st4.1.getD (iandn .i64 st3.2 (ishl .i64 1 st4.2)).toNat 0))) <| ck (0 ≤ st3.2) <| ck (st3.2 < (st4.1.length : Int)) <| ck (InK .i64 (st4.2 + 1)) <| some (.next ((st4.1.set st3.2.toNat ((st4.1.getD st3.2.toNat 0) + (st4.1.getD (iandn .i64 st3.2 (ishl .i64 1 st4.2)).toNat 0))), (st4.2 + 1)))
  else
  ck (InK .i64 (st4.2 + 1)) <| some (.next (st4.1, (st4.2 + 1)))
  else
  ck (InK .i64 (st4.2 + 1)) <| some (.next (st4.1, (st4.2 + 1)))
  else
  some (.done st4.1)
noncomputable def linealref03_sizes_b3 (w : List Int) (b2_2 : (List Int)) (st3 : (List Int) × Int) : Option (Step ((List Int) × Int) ((List Int))) :=
  if (decide (st3.2 < (st3.1.length : Int))) = true then
  (whileO (linealref03_sizes_b4 w b2_2 st3) (st3.1, 0)).bind fun r4 =>
  linealref03_sizes_k4 st3 r4
  else
  some (.done st3.1)
noncomputable def linealref03_sizes_k1 (w : List Int) (b2_2 : (List Int)) : Option Int :=
  ck (0 ≤ (ishl .i64 1 (w.length : Int))) <| ck (8 * (ishl .i64 1 (w.length : Int)) ≤ 281474976710656) <| ck (0 < ((List.replicate (ishl .i64 1 (w.length : Int)).toNat (0 : Int)).length : Int)) <| (whileO (linealref03_sizes_b3 w b2_2) (((List.replicate (ishl .i64 1 (w.length : Int)).toNat (0 : Int)).set 0 1), 1)).bind fun r3 =>
  linealref03_sizes_k3 r3
noncomputable def linealref03_sizes_k2 (st1 : (List Int) × Int) (b2 : (List Int)) : Option (Step ((List Int) × Int) ((List Int))) :=
  ck (InK .i64 (st1.2 + 1)) <| some (.next (b2, (st1.2 + 1)))
noncomputable def linealref03_sizes_b2 (l : Int × (List (Int × Int))) (w : List Int) (st1 : (List Int) × Int) (st2 : (List Int) × Int) : Option (Step ((List Int) × Int) ((List Int))) :=
  if (decide (st2.2 < st1.2)) = true then
  ck (0 ≤ st1.2) <| ck (st1.2 < (w.length : Int)) <| ck (0 ≤ st2.2) <| ck (st2.2 < (w.length : Int)) <| (linealref03_depend l (w.getD st1.2.toNat 0) (w.getD st2.2.toNat 0)).bind fun v0 =>
  if v0 = true then
  ck (0 ≤ st1.2) <| ck (st1.2 < (st2.1.length : Int)) <| ck (0 ≤ st2.2) <| ck (0 ≤ st1.2) <| ck (st1.2 < (st2.1.length : Int)) <| ck (InK .i64 (st2.2 + 1)) <| some (.next ((st2.1.set st1.2.toNat (ior .i64 (st2.1.getD st1.2.toNat 0) (ishl .i64 1 st2.2))), (st2.2 + 1)))
  else
  ck (InK .i64 (st2.2 + 1)) <| some (.next (st2.1, (st2.2 + 1)))
  else
  some (.done st2.1)
noncomputable def linealref03_sizes_b1 (l : Int × (List (Int × Int))) (w : List Int) (st1 : (List Int) × Int) : Option (Step ((List Int) × Int) ((List Int))) :=
  if (decide (st1.2 < (w.length : Int))) = true then
  (whileO (linealref03_sizes_b2 l w st1) (st1.1, 0)).bind fun r2 =>
  linealref03_sizes_k2 st1 r2
  else
  some (.done st1.1)
noncomputable def linealref03_sizes (l : Int × (List (Int × Int))) (w : List Int) : Option Int :=
  ck (8 * (w.length : Int) ≤ 281474976710656) <| (whileO (linealref03_sizes_b1 l w) ((List.replicate w.length (0 : Int)), 0)).bind fun r1 =>
  linealref03_sizes_k1 w r1

/- lineal/linealref03.Size -/
noncomputable def linealref03_Size (l : Int × (List (Int × Int))) (w : List Int) : Option (Int × Int) :=
  (linealref03_asked l w []).bind fun v0 =>
  if (!(decide (v0 = 0))) = true then
  some (0, v0)
  else
  (linealref03_sizes l w).bind fun v0_2 =>
  some (v0_2, 0)

/- lineal/lineallaw03.WeaveForms -/
noncomputable def lineallaw03_WeaveForms (l : Int × (List (Int × Int))) (w : List Int) : Option Bool :=
  (lineallaw03_Long l [w]).bind fun v0 =>
  if v0 = true then
  (lineallaw03_Awake).bind fun v0_2 =>
  some v0_2
  else
  (weave_Layers l w).bind fun v0_3 =>
  (linealref03_Layers l w).bind fun v0_4 =>
  (linealref03_SameLists v0_3.1 v0_4.1).bind fun v0_5 =>
  if (!v0_5) = true then
  some false
  else
  if (!(decide (v0_3.2 = v0_4.2))) = true then
  some false
  else
  (weave_First l w).bind fun v0_6 =>
  (linealref03_First l w).bind fun v0_7 =>
  (linealref03_SameInts v0_6.1 v0_7.1).bind fun v0_8 =>
  if (!v0_8) = true then
  some false
  else
  if (!(decide (v0_6.2 = v0_7.2))) = true then
  some false
  else
  (weave_Starts l w).bind fun v0_9 =>
  (linealref03_Starts l w).bind fun v0_10 =>
  (linealref03_SameInts v0_9.1 v0_10.1).bind fun v0_11 =>
  if (!v0_11) = true then
  some false
  else
  if (!(decide (v0_9.2 = v0_10.2))) = true then
  some false
  else
  (weave_Turned l w).bind fun v0_12 =>
  (linealref03_Turned l w).bind fun v0_13 =>
  (weave_Size l w).bind fun v0_14 =>
  (linealref03_Size l w).bind fun v0_15 =>
  (linealref03_SameInts v0_12.1 v0_13.1).bind fun v0_16 =>
  if v0_16 = true then
  if (decide (v0_12.2 = v0_13.2)) = true then
  if (decide (v0_14.1 = v0_15.1)) = true then
  if (decide (v0_14.2 = v0_15.2)) = true then
  (lineallaw03_Awake).bind fun v0_17 =>
  some v0_17
  else
  some false
  else
  some false
  else
  some false
  else
  some false

/- lineal/weave.Projection -/
noncomputable def weave_Projection_k1 (b1 : (List Int)) : Option ((List Int) × Int) :=
  some (b1, 0)
noncomputable def weave_Projection_b1 (w : List Int) (a : Int) (b : Int) (st1 : (List Int) × Int) : Option (Step ((List Int) × Int) ((List Int))) :=
  if (decide (st1.2 < (w.length : Int))) = true then
  ck (0 ≤ st1.2) <| ck (st1.2 < (w.length : Int)) <| if (decide ((w.getD st1.2.toNat 0) = a)) = true then
  ck ((st1.1.length + 1) * 8 ≤ 140737488355328) <| ck (InK .i64 (st1.2 + 1)) <| some (.next ((st1.1 ++ [(w.getD st1.2.toNat 0)]), (st1.2 + 1)))
  else
  if (decide ((w.getD st1.2.toNat 0) = b)) = true then
  ck ((st1.1.length + 1) * 8 ≤ 140737488355328) <| ck (InK .i64 (st1.2 + 1)) <| some (.next ((st1.1 ++ [(w.getD st1.2.toNat 0)]), (st1.2 + 1)))
  else
  ck (InK .i64 (st1.2 + 1)) <| some (.next (st1.1, (st1.2 + 1)))
  else
  some (.done st1.1)
noncomputable def weave_Projection (l : Int × (List (Int × Int))) (w : List Int) (a : Int) (b : Int) : Option ((List Int) × Int) :=
  (weave_checked l [w]).bind fun v0 =>
  if (!(decide (v0.2 = 0))) = true then
  some ([], v0.2)
  else
  (weave_isLetter l a).bind fun v0_2 =>
  if (!v0_2) = true then
  some ([], 2)
  else
  (weave_isLetter l b).bind fun v0_3 =>
  if (!v0_3) = true then
  some ([], 2)
  else
  (whileO (weave_Projection_b1 w a b) ([], 0)).bind fun r1 =>
  weave_Projection_k1 r1

/- lineal/lineallaw03.WeaveTells -/
noncomputable def lineallaw03_WeaveTells_k1 (v0_4 : Bool × Int) (b2_2 : Bool) : Option Bool :=
  if ((v0_4.1 == b2_2) != false) = true then
  (lineallaw03_Awake).bind fun v0_15 =>
  some v0_15
  else
  some false
noncomputable def lineallaw03_WeaveTells_k2 (st1 : Bool × Int) (b2 : Bool) : Option (Step (Bool × Int) (Sum Unit Bool)) :=
  ck (InK .i64 (st1.2 + 1)) <| some (.next (b2, (st1.2 + 1)))
noncomputable def lineallaw03_WeaveTells_b2 (l : Int × (List (Int × Int))) (w : List Int) (v0 : List Int) (st1 : Bool × Int) (st2 : Bool × Int) : Option (Step (Bool × Int) (Sum Unit Bool)) :=
  if (decide (st2.2 < (st1.2 + 1))) = true then
  (weave_Depend l st1.2 st2.2).bind fun v0_11 =>
  (weave_Projection l w st1.2 st2.2).bind fun v0_12 =>
  (weave_Projection l v0 st1.2 st2.2).bind fun v0_13 =>
  if (!(decide (v0_11.2 = 0))) = true then
  some (.done (Sum.inl ()))
  else
  if (!(decide (v0_12.2 = 0))) = true then
  some (.done (Sum.inl ()))
  else
  if (!(decide (v0_13.2 = 0))) = true then
  some (.done (Sum.inl ()))
  else
  if st2.1 = true then
  if (!v0_11.1) = true then
  ck (InK .i64 (st2.2 + 1)) <| some (.next (true, (st2.2 + 1)))
  else
  (linealref03_SameInts v0_12.1 v0_13.1).bind fun v0_14 =>
  ck (InK .i64 (st2.2 + 1)) <| some (.next (v0_14, (st2.2 + 1)))
  else
  ck (InK .i64 (st2.2 + 1)) <| some (.next (false, (st2.2 + 1)))
  else
  some (.done (Sum.inr st2.1))
noncomputable def lineallaw03_WeaveTells_b1 (l : Int × (List (Int × Int))) (w : List Int) (v0 : List Int) (st1 : Bool × Int) : Option (Step (Bool × Int) (Sum Unit Bool)) :=
  if (decide (st1.2 < l.1)) = true then
  ck (InK .i64 (st1.2 + 1)) <| (whileO (lineallaw03_WeaveTells_b2 l w v0 st1) (st1.1, 0)).bind fun x => match x with
  | .inl _ => (some (.done (Sum.inl ())))
  | .inr r2 => (lineallaw03_WeaveTells_k2 st1 r2)
  else
  some (.done (Sum.inr st1.1))
noncomputable def lineallaw03_WeaveTells (l : Int × (List (Int × Int))) (w : List Int) (v0 : List Int) : Option Bool :=
  (lineallaw03_valid l [w, v0]).bind fun v0_2 =>
  if (!v0_2) = true then
  (lineallaw03_Awake).bind fun v0_3 =>
  some v0_3
  else
  (weave_Equal l w v0).bind fun v0_4 =>
  (weave_Layers l w).bind fun v0_5 =>
  (weave_Layers l v0).bind fun v0_6 =>
  (weave_First l w).bind fun v0_7 =>
  (weave_First l v0).bind fun v0_8 =>
  if (!(decide (v0_4.2 = 0))) = true then
  some false
  else
  if (!(decide (v0_5.2 = 0))) = true then
  some false
  else
  if (!(decide (v0_6.2 = 0))) = true then
  some false
  else
  if (!(decide (v0_7.2 = 0))) = true then
  some false
  else
  if (!(decide (v0_8.2 = 0))) = true then
  some false
  else
  (linealref03_SameLists v0_5.1 v0_6.1).bind fun v0_9 =>
  if ((v0_4.1 == v0_9) != true) = true then
  some false
  else
  (linealref03_SameInts v0_7.1 v0_8.1).bind fun v0_10 =>
  if ((v0_4.1 == v0_10) != true) = true then
  some false
  else
  (whileO (lineallaw03_WeaveTells_b1 l w v0) (true, 0)).bind fun x => match x with
  | .inl _ => (some false)
  | .inr r1 => (lineallaw03_WeaveTells_k1 v0_4 r1)

/- (lineal/weave.ties).exchange -/
noncomputable def weave_ties_exchange (t : (El T53)) (at0 : Int) (w : List Int) : Option (Bool × (List Int)) :=
  if (decide (at0 < 0)) = true then
  some (false, w)
  else
  ck (InK .i64 ((w.length : Int) - 1)) <| if (decide (((w.length : Int) - 1) ≤ at0)) = true then
  some (false, w)
  else
  ck (0 ≤ at0) <| ck (at0 < (w.length : Int)) <| ck (InK .i64 (at0 + 1)) <| ck (0 ≤ (at0 + 1)) <| ck ((at0 + 1) < (w.length : Int)) <| ck (0 ≤ (w.getD at0.toNat 0)) <| ck ((w.getD at0.toNat 0) < 6) <| ck (0 ≤ (w.getD (at0 + 1).toNat 0)) <| ck ((w.getD (at0 + 1).toNat 0) < 6) <| if (boolAt T53 t ((0 + (w.getD at0.toNat 0).toNat * 6) + (w.getD (at0 + 1).toNat 0).toNat * 1)) = true then
  some (false, w)
  else
  ck (InK .i64 (at0 + 1)) <| ck (InK .i64 (at0 + 1)) <| ck (0 ≤ (at0 + 1)) <| ck ((at0 + 1) < (w.length : Int)) <| ck (0 ≤ at0) <| ck (at0 < (w.length : Int)) <| ck (0 ≤ at0) <| ck (at0 < (w.length : Int)) <| ck (0 ≤ (at0 + 1)) <| ck ((at0 + 1) < ((w.set at0.toNat (w.getD (at0 + 1).toNat 0)).length : Int)) <| some (true, ((w.set at0.toNat (w.getD (at0 + 1).toNat 0)).set (at0 + 1).toNat (w.getD at0.toNat 0)))

/- (lineal/weave.ties).path -/
noncomputable def weave_ties_path_k1 (b2_2 : (List Int)) : Option ((List Int) × Bool) :=
  some (b2_2, true)
noncomputable def weave_ties_path_k2 (st1 : (List Int) × (List Int) × Int) (b2 : (List Int) × (List Int)) : Option (Step ((List Int) × (List Int) × Int) (Sum Unit ((List Int)))) :=
  ck (InK .i64 (st1.2.2 + 1)) <| some (.next (b2.1, b2.2, (st1.2.2 + 1)))
noncomputable def weave_ties_path_b2 (t : (El T53)) (st1 : (List Int) × (List Int) × Int) (st2 : (List Int) × (List Int) × Int) : Option (Step ((List Int) × (List Int) × Int) (Sum Unit ((List Int) × (List Int)))) :=
  if (decide (st1.2.2 ≤ st2.2.2)) = true then
  (weave_ties_exchange t st2.2.2 st2.1).bind fun v0_3 =>
  if (!v0_3.1) = true then
  some (.done (Sum.inl ()))
  else
  ck ((st2.2.1.length + 1) * 8 ≤ 140737488355328) <| ck (InK .i64 (st2.2.2 - 1)) <| some (.next (v0_3.2, (st2.2.1 ++ [st2.2.2]), (st2.2.2 - 1)))
  else
  some (.done (Sum.inr (st2.1, st2.2.1)))
noncomputable def weave_ties_path_b1 (t : (El T53)) (to0 : List Int) (st1 : (List Int) × (List Int) × Int) : Option (Step ((List Int) × (List Int) × Int) (Sum Unit ((List Int)))) :=
  if (decide (st1.2.2 < (to0.length : Int))) = true then
  ck (0 ≤ st1.2.2) <| ck (st1.2.2 < (to0.length : Int)) <| ck (0 ≤ st1.2.2) <| ck (st1.2.2 ≤ (st1.1.length : Int)) <| (slices_Index ((st1.1.drop st1.2.2.toNat).take ((st1.1.length : Int) - st1.2.2).toNat) (to0.getD st1.2.2.toNat 0)).bind fun v0_2 =>
  if (decide (v0_2 < 0)) = true then
  some (.done (Sum.inl ()))
  else
  ck (InK .i64 (st1.2.2 + v0_2)) <| ck (InK .i64 ((st1.2.2 + v0_2) - 1)) <| (whileO (weave_ties_path_b2 t st1) (st1.1, st1.2.1, ((st1.2.2 + v0_2) - 1))).bind fun x => match x with
  | .inl _ => (some (.done (Sum.inl ())))
  | .inr r2 => (weave_ties_path_k2 st1 r2)
  else
  some (.done (Sum.inr st1.2.1))
noncomputable def weave_ties_path (t : (El T53)) (from0 : List Int) (to0 : List Int) : Option ((List Int) × Bool) :=
  if (!(decide ((from0.length : Int) = (to0.length : Int)))) = true then
  some ([], false)
  else
  (slices_Clone from0).bind fun v0 =>
  (whileO (weave_ties_path_b1 t to0) (v0, [], 0)).bind fun x => match x with
  | .inl _ => (some ([], false))
  | .inr r1 => (weave_ties_path_k1 r1)

/- lineal/weave.Path -/
noncomputable def weave_Path (l : Int × (List (Int × Int))) (w : List Int) (v0 : List Int) : Option ((List Int) × Int) :=
  (weave_checked l [w, v0]).bind fun v0_2 =>
  if (!(decide (v0_2.2 = 0))) = true then
  some ([], v0_2.2)
  else
  (weave_ties_path v0_2.1 w v0).bind fun v0_3 =>
  if (!v0_3.2) = true then
  some ([], 5)
  else
  some (v0_3.1, 0)

/- lineal/weave.Class -/
noncomputable def weave_Class_k1 (b1 : (List (List Int))) : Option ((List (List Int)) × Int) :=
  some (b1, 0)
noncomputable def weave_Class_y1 (most : Int) (y1 : (List Int)) (st1 : (List (List Int))) : Option (Step ((List (List Int))) ((List (List Int)))) :=
  if (decide ((st1.length : Int) = most)) = true then
  some (.done st1)
  else
  ck ((st1.length + 1) * 24 ≤ 140737488355328) <| some (.next (st1 ++ [y1]))
noncomputable def weave_Class (l : Int × (List (Int × Int))) (w : List Int) (most : Int) : Option ((List (List Int)) × Int) :=
  (weave_checked l [w]).bind fun v0 =>
  if (!(decide (v0.2 = 0))) = true then
  some ([], v0.2)
  else
  if (decide (most < 0)) = true then
  some ([], 2)
  else
  if (decide (1000 < most)) = true then
  some ([], 2)
  else
  (weave_ties_class v0.1 w).bind fun v0_2 =>
  (weave_ties_class_1 fuel ((List (List Int))) ((List (List Int))) w v0.1 (weave_Class_y1 most) []).bind fun x => match x with
  | .inl st1_2 => (weave_Class_k1 st1_2)
  | .inr r1 => (weave_Class_k1 r1)

/- lineal/weave.IsPath -/
noncomputable def weave_IsPath_k1 (v0 : List Int) (b1 : (List Int)) : Option (Bool × Int) :=
  (slices_Equal b1 v0).bind fun v0_5 =>
  some (v0_5, 0)
noncomputable def weave_IsPath_b1 (path : List Int) (v0_2 : (El T53) × Int) (st1 : (List Int) × Int) : Option (Step ((List Int) × Int) (Sum Unit ((List Int)))) :=
  if (decide (st1.2 < (path.length : Int))) = true then
  ck (0 ≤ st1.2) <| ck (st1.2 < (path.length : Int)) <| (weave_ties_exchange v0_2.1 (path.getD st1.2.toNat 0) st1.1).bind fun v0_4 =>
  if (!v0_4.1) = true then
  some (.done (Sum.inl ()))
  else
  ck (InK .i64 (st1.2 + 1)) <| some (.next (v0_4.2, (st1.2 + 1)))
  else
  some (.done (Sum.inr st1.1))
noncomputable def weave_IsPath (l : Int × (List (Int × Int))) (w : List Int) (v0 : List Int) (path : List Int) : Option (Bool × Int) :=
  (weave_checked l [w, v0]).bind fun v0_2 =>
  if (!(decide (v0_2.2 = 0))) = true then
  some (false, v0_2.2)
  else
  if (decide (1000 < (path.length : Int))) = true then
  some (false, 0)
  else
  (slices_Clone w).bind fun v0_3 =>
  (whileO (weave_IsPath_b1 path v0_2) (v0_3, 0)).bind fun x => match x with
  | .inl _ => (some (false, 0))
  | .inr r1 => (weave_IsPath_k1 v0 r1)

/- (lineal/weave.ties).split -/
noncomputable def weave_ties_split_k1 (w : List Int) (v0 : List Int) : Option ((List Int) × (List Int) × (List Int)) :=
  some ([], w, v0)
noncomputable def weave_ties_split_y1 (slf : ((El T53)) → (List Int) → (List Int) → Option ((List Int) × (List Int) × (List Int))) (t : (El T53)) (v0 : List Int) (y1 : Int × (List Int)) (st1 : Unit) : Option (Step Unit ((List Int) × (List Int) × (List Int))) :=
  (weave_ties_without t v0 y1.1).bind fun v0_3 =>
  if v0_3.2 = true then
  (slf t y1.2 v0_3.1).bind fun v0_4 =>
  ck ((1 + v0_4.1.length) * 8 ≤ 140737488355328) <| some (.done ((y1.1 :: v0_4.1), v0_4.2))
  else
  some (.next ())
noncomputable def weave_ties_splitF (slf : ((El T53)) → (List Int) → (List Int) → Option ((List Int) × (List Int) × (List Int))) (t : (El T53)) (w : List Int) (v0 : List Int) : Option ((List Int) × (List Int) × (List Int)) :=
  (weave_ties_starts t w).bind fun v0_2 =>
  (weave_ties_starts_1 Unit ((List Int) × (List Int) × (List Int)) t w (weave_ties_split_y1 slf t v0) ()).bind fun x => match x with
  | .inl st1_2 => (weave_ties_split_k1 w v0)
  | .inr r1 => (some r1)
noncomputable def weave_ties_split (n : Nat) : ((El T53)) → (List Int) → (List Int) → Option ((List Int) × (List Int) × (List Int)) := Nat.rec (motive := fun _ => ((El T53)) → (List Int) → (List Int) → Option ((List Int) × (List Int) × (List Int))) (fun _ _ _ => none) (fun _ slf => weave_ties_splitF slf) n

/- lineal/weave.Common -/
noncomputable def weave_Common (l : Int × (List (Int × Int))) (w : List Int) (v0 : List Int) : Option ((List Int) × Int) :=
  (weave_checked l [w, v0]).bind fun v0_2 =>
  if (!(decide (v0_2.2 = 0))) = true then
  some ([], v0_2.2)
  else
  (weave_ties_split fuel v0_2.1 w v0).bind fun v0_3 =>
  (weave_ties_first v0_2.1 v0_3.1).bind fun v0_4 =>
  some (v0_4, 0)

/- (lineal/weave.ties).rest -/
noncomputable def weave_ties_rest_k1 (b1 : (List Int)) : Option ((List Int) × Bool) :=
  some (b1, true)
noncomputable def weave_ties_rest_b1 (t : (El T53)) (begin : List Int) (st1 : (List Int) × Int) : Option (Step ((List Int) × Int) (Sum Unit ((List Int)))) :=
  if (decide (st1.2 < (begin.length : Int))) = true then
  ck (0 ≤ st1.2) <| ck (st1.2 < (begin.length : Int)) <| (weave_ties_without t st1.1 (begin.getD st1.2.toNat 0)).bind fun v0 =>
  if (!v0.2) = true then
  some (.done (Sum.inl ()))
  else
  ck (InK .i64 (st1.2 + 1)) <| some (.next (v0.1, (st1.2 + 1)))
  else
  some (.done (Sum.inr st1.1))
noncomputable def weave_ties_rest (t : (El T53)) (begin : List Int) (w : List Int) : Option ((List Int) × Bool) :=
  (whileO (weave_ties_rest_b1 t begin) (w, 0)).bind fun x => match x with
  | .inl _ => (some ([], false))
  | .inr r1 => (weave_ties_rest_k1 r1)

/- lineal/weave.Rest -/
noncomputable def weave_Rest (l : Int × (List (Int × Int))) (u : List Int) (w : List Int) : Option ((List Int) × Int) :=
  (weave_checked l [u, w]).bind fun v0 =>
  if (!(decide (v0.2 = 0))) = true then
  some ([], v0.2)
  else
  (weave_ties_rest v0.1 u w).bind fun v0_2 =>
  if (!v0_2.2) = true then
  some ([], 5)
  else
  (weave_ties_first v0.1 v0_2.1).bind fun v0_3 =>
  some (v0_3, 0)

/- lineal/weave.Joined -/
noncomputable def weave_Joined (l : Int × (List (Int × Int))) (w : List Int) (v0 : List Int) : Option ((List Int) × Int) :=
  (weave_checked l [w, v0]).bind fun v0_2 =>
  if (!(decide (v0_2.2 = 0))) = true then
  some ([], v0_2.2)
  else
  ck (InK .i64 ((w.length : Int) + (v0.length : Int))) <| if (decide (10 < ((w.length : Int) + (v0.length : Int)))) = true then
  some ([], 4)
  else
  (slices_Concat [w, v0]).bind fun v0_3 =>
  (weave_ties_first v0_2.1 v0_3).bind fun v0_4 =>
  some (v0_4, 0)

/- lineal/weave.Both -/
noncomputable def weave_Both_k1 (v0_2 : (El T53) × Int) (v0_3 : (List Int) × (List Int) × (List Int)) : Option ((List Int) × Int) :=
  ck (InK .i64 ((v0_3.1.length : Int) + (v0_3.2.1.length : Int))) <| ck (InK .i64 (((v0_3.1.length : Int) + (v0_3.2.1.length : Int)) + (v0_3.2.2.length : Int))) <| if (decide (10 < (((v0_3.1.length : Int) + (v0_3.2.1.length : Int)) + (v0_3.2.2.length : Int)))) = true then
  some ([], 4)
  else
  (slices_Concat [v0_3.1, v0_3.2.1, v0_3.2.2]).bind fun v0_5 =>
  (weave_ties_first v0_2.1 v0_5).bind fun v0_6 =>
  some (v0_6, 0)
noncomputable def weave_Both_b1 (v0_2 : (El T53) × Int) (v0_3 : (List Int) × (List Int) × (List Int)) (st1 : Int) : Option (Step Int (Sum Unit Unit)) :=
  if (decide (st1 < (v0_3.2.1.length : Int))) = true then
  ck (0 ≤ st1) <| ck (st1 < (v0_3.2.1.length : Int)) <| (weave_ties_onAny v0_2.1 (v0_3.2.1.getD st1.toNat 0) v0_3.2.2).bind fun v0_4 =>
  if v0_4 = true then
  some (.done (Sum.inl ()))
  else
  ck (InK .i64 (st1 + 1)) <| some (.next (st1 + 1))
  else
  some (.done (Sum.inr ()))
noncomputable def weave_Both (l : Int × (List (Int × Int))) (w : List Int) (v0 : List Int) : Option ((List Int) × Int) :=
  (weave_checked l [w, v0]).bind fun v0_2 =>
  if (!(decide (v0_2.2 = 0))) = true then
  some ([], v0_2.2)
  else
  (weave_ties_split fuel v0_2.1 w v0).bind fun v0_3 =>
  (whileO (weave_Both_b1 v0_2 v0_3) 0).bind fun x => match x with
  | .inl _ => (some ([], 5))
  | .inr _ => (weave_Both_k1 v0_2 v0_3)

/- lineal/linealtop.TopWeave -/
noncomputable def linealtop_TopWeave_k1 (l : Int × (List (Int × Int))) (w : List Int) (v0 : List Int) (v0_10 : (List Int) × Int) (v0_11 : (List Int) × Int) : Option Bool :=
  (weave_Common l w v0).bind fun v0_23 =>
  (weave_Rest l v0_23.1 w).bind fun v0_24 =>
  (weave_Rest l v0_23.1 v0).bind fun v0_25 =>
  if (!(decide (v0_23.2 = 0))) = true then
  some false
  else
  if (!(decide (v0_24.2 = 0))) = true then
  some false
  else
  if (!(decide (v0_25.2 = 0))) = true then
  some false
  else
  (weave_Joined l v0_23.1 v0_24.1).bind fun v0_26 =>
  (weave_Joined l v0_23.1 v0_25.1).bind fun v0_27 =>
  (weave_Common l v0_24.1 v0_25.1).bind fun v0_28 =>
  if (!(decide (v0_26.2 = 0))) = true then
  some false
  else
  if (!(decide (v0_27.2 = 0))) = true then
  some false
  else
  if (!(decide (v0_28.2 = 0))) = true then
  some false
  else
  (linealref03_SameInts v0_26.1 v0_10.1).bind fun v0_29 =>
  if (!v0_29) = true then
  some false
  else
  (linealref03_SameInts v0_27.1 v0_11.1).bind fun v0_30 =>
  if (!v0_30) = true then
  some false
  else
  if (!(decide ((v0_28.1.length : Int) = 0))) = true then
  some false
  else
  (weave_Both l w v0).bind fun v0_31 =>
  if (!(decide (v0_31.2 = 0))) = true then
  if (decide (v0_31.2 = 5)) = true then
  (lineallaw03_Awake).bind fun v0_32 =>
  some v0_32
  else
  if (decide (v0_31.2 = 4)) = true then
  (lineallaw03_Awake).bind fun v0_33 =>
  some v0_33
  else
  some false
  else
  (weave_Joined l v0_26.1 v0_25.1).bind fun v0_34 =>
  if (decide (v0_34.2 = 0)) = true then
  (linealref03_SameInts v0_34.1 v0_31.1).bind fun v0_35 =>
  if v0_35 = true then
  (lineallaw03_Awake).bind fun v0_36 =>
  some v0_36
  else
  some false
  else
  some false
noncomputable def linealtop_TopWeave_b1 (l : Int × (List (Int × Int))) (w : List Int) (v0_10 : (List Int) × Int) (v0_15 : (List (List Int)) × Int) (st1 : Int) : Option (Step Int (Sum Unit Unit)) :=
  if (decide (st1 < (v0_15.1.length : Int))) = true then
  ck (0 ≤ st1) <| ck (st1 < (v0_15.1.length : Int)) <| (weave_First l (v0_15.1.getD st1.toNat [])).bind fun v0_16 =>
  (weave_Layers l (v0_15.1.getD st1.toNat [])).bind fun v0_17 =>
  (weave_Layers l w).bind fun v0_18 =>
  (weave_Path l w (v0_15.1.getD st1.toNat [])).bind fun v0_19 =>
  (weave_IsPath l w (v0_15.1.getD st1.toNat []) v0_19.1).bind fun v0_20 =>
  if (!(decide (v0_16.2 = 0))) = true then
  some (.done (Sum.inl ()))
  else
  if (!(decide (v0_17.2 = 0))) = true then
  some (.done (Sum.inl ()))
  else
  if (!(decide (v0_18.2 = 0))) = true then
  some (.done (Sum.inl ()))
  else
  if (!(decide (v0_19.2 = 0))) = true then
  some (.done (Sum.inl ()))
  else
  if (!(decide (v0_20.2 = 0))) = true then
  some (.done (Sum.inl ()))
  else
  (linealref03_SameInts v0_16.1 v0_10.1).bind fun v0_21 =>
  if (!v0_21) = true then
  some (.done (Sum.inl ()))
  else
  (linealref03_SameLists v0_17.1 v0_18.1).bind fun v0_22 =>
  if (!v0_22) = true then
  some (.done (Sum.inl ()))
  else
  if (!v0_20.1) = true then
  some (.done (Sum.inl ()))
  else
  ck (InK .i64 (st1 + 1)) <| some (.next (st1 + 1))
  else
  some (.done (Sum.inr ()))
noncomputable def linealtop_TopWeave (l : Int × (List (Int × Int))) (w : List Int) (v0 : List Int) (most : Int) : Option Bool :=
  (lineallaw03_Long l [w, v0]).bind fun v0_2 =>
  if v0_2 = true then
  (lineallaw03_Awake).bind fun v0_3 =>
  some v0_3
  else
  (linealref03_Valid l).bind fun v0_4 =>
  if (!v0_4) = true then
  (lineallaw03_Awake).bind fun v0_5 =>
  some v0_5
  else
  (linealref03_IsWord l w).bind fun v0_6 =>
  if (!v0_6) = true then
  (lineallaw03_Awake).bind fun v0_7 =>
  some v0_7
  else
  (linealref03_IsWord l v0).bind fun v0_8 =>
  if (!v0_8) = true then
  (lineallaw03_Awake).bind fun v0_9 =>
  some v0_9
  else
  (weave_First l w).bind fun v0_10 =>
  (weave_First l v0).bind fun v0_11 =>
  (weave_Equal l w v0).bind fun v0_12 =>
  (weave_Path l w v0).bind fun v0_13 =>
  if (!(decide (v0_10.2 = 0))) = true then
  some false
  else
  if (!(decide (v0_11.2 = 0))) = true then
  some false
  else
  if (!(decide (v0_12.2 = 0))) = true then
  some false
  else
  (linealref03_SameInts v0_10.1 v0_11.1).bind fun v0_14 =>
  if ((v0_12.1 == v0_14) != true) = true then
  some false
  else
  if ((v0_12.1 == (decide (v0_13.2 = 0))) != true) = true then
  some false
  else
  ck (InK .i64 most) <| (weave_Class l w most).bind fun v0_15 =>
  if (!(decide (v0_15.2 = 0))) = true then
  some false
  else
  ck (InK .i64 most) <| if (decide (most < (v0_15.1.length : Int))) = true then
  some false
  else
  (whileO (linealtop_TopWeave_b1 l w v0_10 v0_15) 0).bind fun x => match x with
  | .inl _ => (some false)
  | .inr _ => (linealtop_TopWeave_k1 l w v0 v0_10 v0_11)

end Go.Proofs.Ytabchabbdnhjpaa
