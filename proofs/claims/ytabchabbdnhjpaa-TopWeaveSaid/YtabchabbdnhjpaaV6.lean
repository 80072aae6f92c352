/-
  Layer 3, pure: a class's words in order; first forms; rests.
-/
import Derived.Test.YtabchabbdnhjpaaV5
namespace Go.Proofs.Ytabchabbdnhjpaa
open Go.RowKit

set_option linter.unusedVariables false
set_option linter.unusedSimpArgs false
set_option maxRecDepth 10000

/-- The words of a class, in order. -/
def cls (l : Ltr) : Nat → List Int → List (List Int)
  | 0, _ => []
  | n + 1, w => if w = [] then [[]] else (startsL l w).flatMap fun p => (cls l n p.2).map (p.1 :: ·)

theorem cls_len (l : Ltr) : ∀ (n : Nat) (w v : List Int), v ∈ cls l n w → v.length = w.length
  | 0, w, v, h => by simp [cls] at h
  | n + 1, w, v, h => by
    unfold cls at h
    split at h
    · rename_i e; simp at h; rw [h, e]
    · obtain ⟨p, hp, hv⟩ := List.mem_flatMap.1 h
      obtain ⟨u, hu, rfl⟩ := List.mem_map.1 hv
      have h1 := cls_len l n p.2 u hu
      have h2 := (wo_some l w p.1 p.2 (startsL_mem hp).1).1
      simp; omega

section
variable {S R Y Z : Type}
theorem foldY_append (yl : Y → S → Option (Step S R)) : ∀ (A B : List Y) (s : S), foldY yl (A ++ B) s = (foldY yl A s).bind fun x => match x with | .inl s' => foldY yl B s' | .inr e => some (.inr e)
  | [], B, s => rfl
  | y :: A, B, s => by
    simp only [List.cons_append, foldY]
    cases yl y s with
    | none => rfl
    | some x =>
      cases x with
      | next s' => simp only [Option.bind_some]; exact foldY_append yl A B s'
      | done e => rfl

theorem foldY_map (yl : Z → S → Option (Step S R)) (f : Y → Z) (yl' : Y → S → Option (Step S R)) : ∀ (A : List Y) (s : S), (∀ y ∈ A, ∀ s, yl' y s = yl (f y) s) → foldY yl' A s = foldY yl (A.map f) s
  | [], s, _ => rfl
  | y :: A, s, h => by
    simp only [List.map_cons, foldY, h y (by simp)]
    cases yl (f y) s with
    | none => rfl
    | some x =>
      cases x with
      | next s' => simp only [Option.bind_some]; exact foldY_map yl f yl' A s' fun y hy => h y (by simp [hy])
      | done e => rfl

/-- Rounds of rounds. -/
theorem foldY_flat (yl : Z → S → Option (Step S R)) (g : Y → List Z) (yl' : Y → S → Option (Step S R)) : ∀ (A : List Y) (s : S) (r : Sum S R),
    (∀ y ∈ A, ∀ s r, foldY yl (g y) s = some r → yl' y s = some (match r with | .inl s' => .next s' | .inr e => .done e)) → foldY yl (A.flatMap g) s = some r → foldY yl' A s = some r
  | [], s, r, _, h => h
  | y :: A, s, r, hy, h => by
    rw [List.flatMap_cons, foldY_append] at h
    cases hg : foldY yl (g y) s with
    | none => rw [hg] at h; cases h
    | some x =>
      rw [hg, Option.bind_some] at h
      simp only [foldY]
      rw [hy y (by simp) s x hg, Option.bind_some]
      cases x with
      | inl s' => simp only at h ⊢; exact foldY_flat yl g yl' A s' r (fun z hz => hy z (by simp [hz])) h
      | inr e => exact h
end

theorem class_ok {l : Ltr} (hl : okL l = true) {t : El T53} (ht : Ties l t) : ∀ (n : Nat) (S R : Type) (w : List Int) (yl : List Int → S → Option (Step S R)) (s : S) (r : Sum S R), w.length < n → isWd l w = true → foldY yl (cls l n w) s = some r →
    weave_ties_class_1 n S R w t yl s = some r
  | 0, _, _, w, _, _, _, h, _, _ => by omega
  | n + 1, S, R, w, yl, s, r, hn, hw, h => by
    have hlen := isWd_len hw
    have h6 := isWd_six hl hw
    show weave_ties_class_1F (weave_ties_class_1 n) S R w t yl s = some r
    unfold weave_ties_class_1F
    unfold cls at h
    by_cases hw0 : w = []
    · subst hw0
      rw [if_pos (by simp)]
      rw [if_pos rfl] at h
      simp only [foldY] at h
      cases hy : yl [] s with
      | none => rw [hy] at h; cases h
      | some x =>
        rw [hy, Option.bind_some] at h
        rw [Option.bind_some]
        cases x with
        | next s' => exact h
        | done e => exact h
    · rw [if_neg (by simp; exact hw0)]
      rw [if_neg hw0] at h
      have est : weave_ties_starts t w = some () := rfl
      rw [est, Option.bind_some]
      have hf : foldY (weave_ties_class_1_y1 S R (weave_ties_class_1 n) t yl) (startsL l w) s = some r := by
        refine foldY_flat yl (fun p => (cls l n p.2).map (p.1 :: ·)) _ (startsL l w) s r (fun p hp s1 r1 h1 => ?_) h
        have hwo := (startsL_mem hp).1
        have hp2 := wo_some l w p.1 p.2 hwo
        unfold weave_ties_class_1_y1
        have ec : weave_ties_class t p.2 = some () := rfl
        rw [ec, Option.bind_some]
        have hin : foldY (weave_ties_class_1_y2 S R yl p) (cls l n p.2) s1 = some r1 := by
          rw [foldY_map yl (p.1 :: ·) (weave_ties_class_1_y2 S R yl p) (cls l n p.2) s1 (fun v hv s2 => ?_)]
          · exact h1
          · have := cls_len l n p.2 v hv
            unfold weave_ties_class_1_y2
            rw [ck_pos (by omega)]
            cases yl (p.1 :: v) s2 with
            | none => rfl
            | some x => cases x <;> rfl
        rw [class_ok hl ht n S R p.2 _ s1 r1 (by omega) (isWd_wo hw hwo) hin, Option.bind_some]
        cases r1 <;> rfl
      rw [starts_ok ht h6 (by omega) _ s hf, Option.bind_some]
      cases r <;> rfl

/-- The first form. -/
def ff (l : Ltr) : Nat → List Int → List Int
  | 0, _ => []
  | n + 1, w => match startsL l w with
    | [] => []
    | p :: _ => p.1 :: ff l n p.2

theorem starts_some {l : Ltr} (hl : okL l = true) {w : List Int} (hw : isWd l w = true) (h0 : w ≠ []) : startsL l w ≠ [] := by
  obtain ⟨b, r, rfl⟩ := List.exists_cons_of_ne_nil h0
  have hb := isWd_six hl hw b (by simp)
  intro h
  have : (b, r) ∈ startsL l (b :: r) := by
    unfold startsL
    refine List.mem_filterMap.2 ⟨b.toNat, List.mem_range.2 (by omega), ?_⟩
    have e : ((b.toNat : Nat) : Int) = b := by omega
    rw [e]
    simp [wo]
  rw [h] at this; cases this

theorem startsL_nil (l : Ltr) : startsL l [] = [] := by
  unfold startsL
  rw [List.filterMap_eq_nil_iff]
  intro a _; rfl

theorem cls_head {l : Ltr} (hl : okL l = true) : ∀ (n : Nat) (w : List Int), w.length < n → isWd l w = true → (cls l n w).head? = some (ff l n w)
  | 0, w, h, _ => by omega
  | n + 1, w, hn, hw => by
    unfold cls ff
    by_cases hw0 : w = []
    · subst hw0; rw [if_pos rfl, startsL_nil]; rfl
    · rw [if_neg hw0]
      cases hs : startsL l w with
      | nil => exact absurd hs (starts_some hl hw hw0)
      | cons p r =>
        have hp : p ∈ startsL l w := by rw [hs]; simp
        have hwo := (startsL_mem hp).1
        have ih := cls_head hl n p.2 (by have := (wo_some l w p.1 p.2 hwo).1; omega) (isWd_wo hw hwo)
        simp only [List.flatMap_cons]
        cases hc : cls l n p.2 with
        | nil => rw [hc] at ih; cases ih
        | cons v vs => rw [hc] at ih; simp at ih; simp [ih]

/-- The first form of a word. -/
def FF (l : Ltr) (w : List Int) : List Int := ff l (w.length + 1) w

theorem ff_stable (l : Ltr) : ∀ (n m : Nat) (w : List Int), w.length < n → w.length < m → ff l n w = ff l m w
  | 0, _, _, h, _ => by omega
  | _, 0, _, _, h => by omega
  | n + 1, m + 1, w, hn, hm => by
    unfold ff
    cases hs : startsL l w with
    | nil => rfl
    | cons p r =>
      have hp : p ∈ startsL l w := by rw [hs]; simp
      have := (wo_some l w p.1 p.2 (startsL_mem hp).1).1
      simp only
      rw [ff_stable l n m p.2 (by omega) (by omega)]

theorem ff_len {l : Ltr} (hl : okL l = true) : ∀ (n : Nat) (w : List Int), w.length < n → isWd l w = true → (ff l n w).length = w.length := fun n w hn hw => by
  have h := cls_head hl n w hn hw
  exact cls_len l n w _ (List.mem_of_mem_head? (by rw [h]; rfl))

theorem first_eq {l : Ltr} (hl : okL l = true) {t : El T53} (ht : Ties l t) {w : List Int} (hw : isWd l w = true) : weave_ties_first t w = some (FF l w) := by
  have hlen := isWd_len hw
  unfold weave_ties_first
  have ec : weave_ties_class t w = some () := rfl
  rw [ec, Option.bind_some]
  have hh := cls_head hl fuel w (by unfold fuel; omega) hw
  have hf : foldY weave_ties_first_y1 (cls l fuel w) () = some (.inr (ff l fuel w)) := by
    cases hc : cls l fuel w with
    | nil => rw [hc] at hh; cases hh
    | cons v vs => rw [hc] at hh; simp at hh; subst hh; rfl
  rw [class_ok hl ht fuel Unit (List Int) w _ () _ (by unfold fuel; omega) hw hf, Option.bind_some]
  simp only
  unfold FF
  rw [ff_stable l fuel (w.length + 1) w (by unfold fuel; omega) (by omega)]

/-! ### The reference -/

/-- What is left behind a word that begins another one. -/
def rs (l : Ltr) : List Int → List Int → Option (List Int)
  | [], w => some w
  | a :: u, w => (wo l w a).bind (rs l u)

theorem rs_some (l : Ltr) : ∀ (u w v : List Int), rs l u w = some v → v.length + u.length = w.length ∧ ∀ x ∈ v, x ∈ w
  | [], w, v, h => by simp [rs] at h; subst h; exact ⟨by simp, fun x hx => hx⟩
  | a :: u, w, v, h => by
    unfold rs at h
    rw [Option.bind_eq_some_iff] at h
    obtain ⟨w1, h1, h2⟩ := h
    have := wo_some l w a w1 h1
    have ih := rs_some l u w1 v h2
    exact ⟨by simp; omega, fun x hx => this.2.1 x (ih.2 x hx)⟩

theorem rest_eq {l : Ltr} (hl : okL l = true) {t : El T53} (ht : Ties l t) {u w : List Int} (hu : isWd l u = true) (hw : isWd l w = true) : weave_ties_rest t u w = some (match rs l u w with | some v => (v, true) | none => ([], false)) := by
  unfold weave_ties_rest
  have hs := scan2 (R := Sum Unit (List Int)) u (fun k (s : List Int) => rs l u w = rs l (u.drop k) s ∧ isWd l s = true) (fun r => match r with | .inl _ => rs l u w = none | .inr v => rs l u w = some v) (body := weave_ties_rest_b1 t u) (s0 := w) ⟨rfl, hw⟩ ?_ ?_
  · obtain ⟨r, er, hr⟩ := hs
    rw [er, Option.bind_some]
    cases r with
    | inl x => simp only at hr; rw [hr]
    | inr v => simp only at hr; rw [hr]; rfl
  · rintro k x s hk ⟨h1, h2⟩
    obtain ⟨hlt, hin⟩ := few_in (few_of (isWd_len hu)) hk
    have hx := isWd_six hl hu x (List.mem_of_getElem? hk)
    have hs6 := isWd_six hl h2
    have hd : u.drop k = x :: u.drop (k + 1) := by
      rw [List.drop_eq_getElem_cons hlt]
      congr 1
      exact (List.getElem?_eq_some_iff.1 hk).2
    unfold weave_ties_rest_b1
    simp only
    rw [if_pos (by simpa using hlt), ck_pos (by simp), ck_pos (by simpa using hlt), Int.toNat_natCast, getD_of hk, without_eq ht hx hs6 (by have := isWd_len h2; omega), Option.bind_some]
    rw [hd, show rs l (x :: u.drop (k + 1)) s = (wo l s x).bind (rs l (u.drop (k + 1))) from rfl] at h1
    cases hwo : wo l s x with
    | none => rw [hwo] at h1; exact .inr ⟨_, rfl, h1⟩
    | some v =>
      rw [hwo, Option.bind_some] at h1
      simp only [Bool.not_true, Bool.false_eq_true, if_false]
      rw [ck_pos hin]
      exact .inl ⟨_, rfl, h1, isWd_wo h2 hwo⟩
  · rintro s ⟨h1, h2⟩
    rw [List.drop_length] at h1
    unfold weave_ties_rest_b1
    simp only
    rw [if_neg (by simp)]
    exact ⟨_, rfl, h1⟩

end Go.Proofs.Ytabchabbdnhjpaa
