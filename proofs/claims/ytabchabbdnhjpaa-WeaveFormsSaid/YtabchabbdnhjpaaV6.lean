/-
  Layer 3, pure: a class's words in order; first forms; rests.
-/
import Derived.Test.YtabchabbdnhjpaaV5
namespace Go.Proofs.Ytabchabbdnhjpaa
open Go.RowKit

set_option linter.unusedVariables false
set_option linter.unusedSimpArgs false
set_option maxRecDepth 10000

/-- The words of a class, in order. -/
def cls (l : Ltr) : Nat → List Int → List (List Int)
  | 0, _ => []
  | n + 1, w => if w = [] then [[]] else (startsL l w).flatMap fun p => (cls l n p.2).map (p.1 :: ·)

theorem cls_len (l : Ltr) : ∀ (n : Nat) (w v : List Int), v ∈ cls l n w → v.length = w.length
  | 0, w, v, h => by simp [cls] at h
  | n + 1, w, v, h => by
    unfold cls at h
    split at h
    · rename_i e; simp at h; rw [h, e]
    · obtain ⟨p, hp, hv⟩ := List.mem_flatMap.1 h
      obtain ⟨u, hu, rfl⟩ := List.mem_map.1 hv
      have h1 := cls_len l n p.2 u hu
      have h2 := (wo_some l w p.1 p.2 (startsL_mem hp).1).1
      simp; omega

section
variable {S R Y Z : Type}
theorem foldY_append (yl : Y → S → Option (Step S R)) : ∀ (A B : List Y) (s : S), foldY yl (A ++ B) s = (foldY yl A s).bind fun x => match x with | .inl s' => foldY yl B s' | .inr e => some (.inr e)
  | [], B, s => rfl
  | y :: A, B, s => by
    simp only [List.cons_append, foldY]
    cases yl y s with
    | none => rfl
    | some x =>
      cases x with
      | next s' => simp only [Option.bind_some]; exact foldY_append yl A B s'
      | done e => rfl

theorem foldY_map (yl : Z → S → Option (Step S R)) (f : Y → Z) (yl' : Y → S → Option (Step S R)) : ∀ (A : List Y) (s : S), (∀ y ∈ A, ∀ s, yl' y s = yl (f y) s) → foldY yl' A s = foldY yl (A.map f) s
  | [], s, _ => rfl
  | y :: A, s, h => by
    simp only [List.map_cons, foldY, h y (by simp)]
    cases yl (f y) s with
    | none => rfl
    | some x =>
      cases x with
      | next s' => simp only [Option.bind_some]; exact foldY_map yl f yl' A s' fun y hy => h y (by simp [hy])
      | done e => rfl

/-- Rounds of rounds. -/
theorem foldY_flat (yl : Z → S → Option (Step S R)) (g : Y → List Z) (yl' : Y → S → Option (Step S R)) : ∀ (A : List Y) (s : S) (r : Sum S R),
    (∀ y ∈ A, ∀ s r, foldY yl (g y) s = some r → yl' y s = some (match r with | .inl s' => .next s' | .inr e => .done e)) → foldY yl (A.flatMap g) s = some r → foldY yl' A s = some r
  | [], s, r, _, h => h
  | y :: A, s, r, hy, h => by
    rw [List.flatMap_cons, foldY_append] at h
    cases hg : foldY yl (g y) s with
    | none => rw [hg] at h; cases h
    | some x =>
      rw [hg, Option.bind_some] at h
      simp only [foldY]
      rw [hy y (by simp) s x hg, Option.bind_some]
      cases x with
      | inl s' => simp only at h ⊢; exact foldY_flat yl g yl' A s' r (fun z hz => hy z (by simp [hz])) h
      | inr e => exact h
end

theorem class_ok {l : Ltr} (hl : okL l = true) {t : El T53} (ht : Ties l t) : ∀ (n : Nat) (S R : Type) (w : List Int) (yl : List Int → S → Option (Step S R)) (s : S) (r : Sum S R), w.length < n → isWd l w = true → foldY yl (cls l n w) s = some r →
    weave_ties_class_1 n S R w t yl s = some r
  | 0, _, _, w, _, _, _, h, _, _ => by omega
  | n + 1, S, R, w, yl, s, r, hn, hw, h => by
    have hlen := isWd_len hw
    have h6 := isWd_six hl hw
    show weave_ties_class_1F (weave_ties_class_1 n) S R w t yl s = some r
    unfold weave_ties_class_1F
    unfold cls at h
    by_cases hw0 : w = []
    · subst hw0
      rw [if_pos (by simp)]
      rw [if_pos rfl] at h
      simp only [foldY] at h
      cases hy : yl [] s with
      | none => rw [hy] at h; cases h
      | some x =>
        rw [hy, Option.bind_some] at h
        rw [Option.bind_some]
        cases x with
        | next s' => exact h
        | done e => exact h
    · rw [if_neg (by simp; exact hw0)]
      rw [if_neg hw0] at h
      have est : weave_ties_starts t w = some () := rfl
      rw [est, Option.bind_some]
      have hf : foldY (weave_ties_class_1_y1 S R (weave_ties_class_1 n) t yl) (startsL l w) s = some r := by
        refine foldY_flat yl (fun p => (cls l n p.2).map (p.1 :: ·)) _ (startsL l w) s r (fun p hp s1 r1 h1 => ?_) h
        have hwo := (startsL_mem hp).1
        have hp2 := wo_some l w p.1 p.2 hwo
        unfold weave_ties_class_1_y1
        have ec : weave_ties_class t p.2 = some () := rfl
        rw [ec, Option.bind_some]
        have hin : foldY (weave_ties_class_1_y2 S R yl p) (cls l n p.2) s1 = some r1 := by
          rw [foldY_map yl (p.1 :: ·) (weave_ties_class_1_y2 S R yl p) (cls l n p.2) s1 (fun v hv s2 => ?_)]
          · exact h1
          · have := cls_len l n p.2 v hv
            unfold weave_ties_class_1_y2
            rw [ck_pos (by omega)]
            cases yl (p.1 :: v) s2 with
            | none => rfl
            | some x => cases x <;> rfl
        rw [class_ok hl ht n S R p.2 _ s1 r1 (by omega) (isWd_wo hw hwo) hin, Option.bind_some]
        cases r1 <;> rfl
      rw [starts_ok ht h6 (by omega) _ s hf, Option.bind_some]
      cases r <;> rfl

/-- The first form. -/
def ff (l : Ltr) : Nat → List Int → List Int
  | 0, _ => []
  | n + 1, w => match startsL l w with
    | [] => []
    | p :: _ => p.1 :: ff l n p.2

theorem starts_some {l : Ltr} (hl : okL l = true) {w : List Int} (hw : isWd l w = true) (h0 : w ≠ []) : startsL l w ≠ [] := by
  obtain ⟨b, r, rfl⟩ := List.exists_cons_of_ne_nil h0
  have hb := isWd_six hl hw b (by simp)
  intro h
  have : (b, r) ∈ startsL l (b :: r) := by
    unfold startsL
    refine List.mem_filterMap.2 ⟨b.toNat, List.mem_range.2 (by omega), ?_⟩
    have e : ((b.toNat : Nat) : Int) = b := by omega
    rw [e]
    simp [wo]
  rw [h] at this; cases this

theorem startsL_nil (l : Ltr) : startsL l [] = [] := by
  unfold startsL
  rw [List.filterMap_eq_nil_iff]
  intro a _; rfl

theorem cls_head {l : Ltr} (hl : okL l = true) : ∀ (n : Nat) (w : List Int), w.length < n → isWd l w = true → (cls l n w).head? = some (ff l n w)
  | 0, w, h, _ => by omega
  | n + 1, w, hn, hw => by
    unfold cls ff
    by_cases hw0 : w = []
    · subst hw0; rw [if_pos rfl, startsL_nil]; rfl
    · rw [if_neg hw0]
      cases hs : startsL l w with
      | nil => exact absurd hs (starts_some hl hw hw0)
      | cons p r =>
        have hp : p ∈ startsL l w := by rw [hs]; simp
        have hwo := (startsL_mem hp).1
        have ih := cls_head hl n p.2 (by have := (wo_some l w p.1 p.2 hwo).1; omega) (isWd_wo hw hwo)
        simp only [List.flatMap_cons]
        cases hc : cls l n p.2 with
        | nil => rw [hc] at ih; cases ih
        | cons v vs => rw [hc] at ih; simp at ih; simp [ih]

/-- The first form of a word. -/
def FF (l : Ltr) (w : List Int) : List Int := ff l (w.length + 1) w

theorem ff_stable (l : Ltr) : ∀ (n m : Nat) (w : List Int), w.length < n → w.length < m → ff l n w = ff l m w
  | 0, _, _, h, _ => by omega
  | _, 0, _, _, h => by omega
  | n + 1, m + 1, w, hn, hm => by
    unfold ff
    cases hs : startsL l w with
    | nil => rfl
    | cons p r =>
      have hp : p ∈ startsL l w := by rw [hs]; simp
      have := (wo_some l w p.1 p.2 (startsL_mem hp).1).1
      simp only
      rw [ff_stable l n m p.2 (by omega) (by omega)]

theorem ff_len {l : Ltr} (hl : okL l = true) : ∀ (n : Nat) (w : List Int), w.length < n → isWd l w = true → (ff l n w).length = w.length := fun n w hn hw => by
  have h := cls_head hl n w hn hw
  exact cls_len l n w _ (List.mem_of_mem_head? (by rw [h]; rfl))

theorem first_eq {l : Ltr} (hl : okL l = true) {t : El T53} (ht : Ties l t) {w : List Int} (hw : isWd l w = true) : weave_ties_first t w = some (FF l w) := by
  have hlen := isWd_len hw
  unfold weave_ties_first
  have ec : weave_ties_class t w = some () := rfl
  rw [ec, Option.bind_some]
  have hh := cls_head hl fuel w (by unfold fuel; omega) hw
  have hf : foldY weave_ties_first_y1 (cls l fuel w) () = some (.inr (ff l fuel w)) := by
    cases hc : cls l fuel w with
    | nil => rw [hc] at hh; cases hh
    | cons v vs => rw [hc] at hh; simp at hh; subst hh; rfl
  rw [class_ok hl ht fuel Unit (List Int) w _ () _ (by unfold fuel; omega) hw hf, Option.bind_some]
  simp only
  unfold FF
  rw [ff_stable l fuel (w.length + 1) w (by unfold fuel; omega) (by omega)]

/-! ### The reference -/

theorem wo_blocked (l : Ltr) : ∀ (w : List Int) (a : Int) (k : Nat) (x : Int), w[k]? = some x → x ≠ a → dep l a x = true → a ∉ w.take k → wo l w a = none
  | [], a, k, x, h, _, _, _ => by simp at h
  | b :: r, a, 0, x, h, hx, hd, _ => by
    simp at h; subst h
    unfold wo
    rw [if_neg hx, if_pos hd]
  | b :: r, a, k + 1, x, h, hx, hd, hn => by
    simp only [List.take_succ_cons, List.mem_cons, not_or] at hn
    unfold wo
    rw [if_neg (Ne.symm hn.1), wo_blocked l r a k x (by simpa using h) hx hd hn.2]
    split <;> rfl

theorem free_eq (l : Ltr) (w : List Int) (a : Int) (hl : few l.2) (hw : w.length ≤ 1000) : ∃ i, linealref03_free l w a = some i ∧ ((i = -1 ∧ wo l w a = none) ∨ ∃ k : Nat, i = (k : Int) ∧ k < w.length ∧ wo l w a = some (w.take k ++ w.drop (k + 1))) := by
  unfold linealref03_free
  have hs := scan1 (R := Sum Int Unit) w (fun k => a ∉ w.take k ∧ (w.take k).any (dep l a) = false) (fun r => match r with | .inl i => (i = -1 ∧ wo l w a = none) ∨ ∃ k : Nat, i = (k : Int) ∧ k < w.length ∧ wo l w a = some (w.take k ++ w.drop (k + 1)) | .inr _ => wo l w a = none) (body := linealref03_free_b1 l w a) (by simp) ?_ ?_
  · obtain ⟨r, er, hr⟩ := hs
    rw [er, Option.bind_some]
    cases r with
    | inl i => exact ⟨i, rfl, hr⟩
    | inr u => exact ⟨-1, rfl, .inl ⟨rfl, hr⟩⟩
  · rintro k x hk ⟨h1, h2⟩
    obtain ⟨hlt, hin⟩ := few_in (few_of hw) hk
    unfold linealref03_free_b1
    rw [if_pos (by simpa using hlt), ck_pos (by simp), ck_pos (by simpa using hlt), Int.toNat_natCast, getD_of hk]
    by_cases e : x = a
    · rw [if_pos (by simpa using e)]
      refine .inr ⟨_, rfl, .inr ⟨k, rfl, hlt, ?_⟩⟩
      rw [wo_at l w a k (by rw [hk, e]) h1, if_neg (by rw [h2]; simp)]
    · rw [if_neg (by simpa using e), depend_eq l a x hl, Option.bind_some]
      cases hd : dep l a x with
      | true => exact .inr ⟨_, rfl, .inl ⟨rfl, wo_blocked l w a k x hk e hd h1⟩⟩
      | false =>
        simp only [Bool.false_eq_true, if_false]
        rw [ck_pos hin]
        refine .inl ⟨rfl, ?_, ?_⟩
        · rw [take_one hk]; simp only [List.mem_append, List.mem_singleton, not_or]; exact ⟨h1, Ne.symm e⟩
        · rw [take_one hk, List.any_append, h2]; simp [hd]
  · rintro ⟨h1, h2⟩
    rw [List.take_length] at h1
    unfold linealref03_free_b1
    rw [if_neg (by simp)]
    exact ⟨_, rfl, wo_not l w a h1⟩

theorem rwithout_eq (w : List Int) (k : Nat) (hk : k < w.length) (hw : w.length ≤ 1000) : linealref03_without w (k : Int) = some () := by
  unfold linealref03_without
  have e1 : ((k : Int) + 1).toNat = k + 1 := by omega
  rw [ck_pos (by simp), ck_pos (by omega), ck_pos (by simp; omega), ck_pos (by rw [inK_i64]; omega), ck_pos (by omega), ck_pos (by omega), ck_pos (by rw [e1, Int.toNat_natCast]; simp; omega)]

theorem rstarts_eq {l : Ltr} (hl : okL l = true) (hf : few l.2) {w : List Int} (hw : isWd l w = true) : linealref03_starts l w = some ((startsL l w).map (·.1)) := by
  have hN := okL_N hl
  have hlen := isWd_len hw
  let F : Nat → Option (Int × List Int) := fun a => (wo l w (a : Int)).map fun u => ((a : Int), u)
  have h6 : startsL l w = (List.range l.1.toNat).filterMap F := by
    have e : List.range 6 = List.range l.1.toNat ++ (List.range' l.1.toNat (6 - l.1.toNat)) := by
      obtain ⟨N, hNe⟩ : ∃ N, N = l.1.toNat := ⟨_, rfl⟩
      rw [← hNe]
      have : N = 1 ∨ N = 2 ∨ N = 3 ∨ N = 4 ∨ N = 5 ∨ N = 6 := by omega
      rcases this with h | h | h | h | h | h <;> subst h <;> rfl
    show (List.range 6).filterMap F = _
    rw [e, List.filterMap_append]
    have : (List.range' l.1.toNat (6 - l.1.toNat)).filterMap F = [] := by
      rw [List.filterMap_eq_nil_iff]
      intro a ha
      have ha' := (List.mem_range'_1.1 ha).1
      have : wo l w (a : Int) = none := wo_not l w _ fun hm => by have := isWd_let hw hm; omega
      show (wo l w (a : Int)).map _ = none
      rw [this]; rfl
    rw [this, List.append_nil]
  unfold linealref03_starts
  have hs := scan2 (R := List Int) (List.range l.1.toNat) (fun k (u : List Int) => u = ((List.range k).filterMap F).map (·.1)) (fun r => r = (startsL l w).map (·.1)) (body := linealref03_starts_b1 l w) (s0 := []) (by simp) ?_ ?_
  · obtain ⟨r, er, hr⟩ := hs
    rw [er, Option.bind_some, hr]; rfl
  · rintro k x u hk hI
    have hlt : k < l.1.toNat := by have := (List.getElem?_eq_some_iff.1 hk).1; simpa using this
    have hin : InK .i64 ((k : Int) + 1) := by rw [inK_i64]; omega
    obtain ⟨i, ei, hi⟩ := free_eq l w (k : Int) hf (by omega)
    have hul : u.length ≤ 6 := by
      rw [hI, List.length_map]; exact Nat.le_trans (List.length_filterMap_le _ _) (by simp; omega)
    unfold linealref03_starts_b1
    simp only
    rw [if_pos (by simp; omega), ei, Option.bind_some]
    rcases hi with ⟨rfl, hn⟩ | ⟨j, rfl, hj, hj2⟩
    · rw [if_neg (by simp), ck_pos hin]
      refine .inl ⟨_, rfl, ?_⟩
      rw [List.range_succ, List.filterMap_append, List.map_append, hI]
      have : [k].filterMap F = [] := by
        rw [List.filterMap_eq_nil_iff]; intro a ha; simp at ha; subst ha
        show (wo l w (a : Int)).map _ = none
        rw [hn]; rfl
      rw [this]; simp
    · rw [if_pos (by simp), ck_pos (by omega), ck_pos hin]
      refine .inl ⟨_, rfl, ?_⟩
      rw [List.range_succ, List.filterMap_append, List.map_append, hI]
      have : [k].filterMap F = [((k : Int), w.take j ++ w.drop (j + 1))] := by
        rw [List.filterMap_cons]
        have : F k = some ((k : Int), w.take j ++ w.drop (j + 1)) := by
          show (wo l w (k : Int)).map _ = _
          rw [hj2]; rfl
        rw [this]; rfl
      rw [this]; rfl
  · intro u hI
    unfold linealref03_starts_b1
    simp only [List.length_range]
    rw [if_neg (by simp; omega)]
    refine ⟨_, rfl, ?_⟩
    rw [hI, h6, List.length_range]

theorem FirstForm_eq {l : Ltr} (hl : okL l = true) (hf : few l.2) {w : List Int} (hw : isWd l w = true) : linealref03_FirstForm l w = some (FF l w) := by
  have key : ∀ (n : Nat) (w out : List Int), w.length < n → isWd l w = true → out.length + w.length ≤ 10 → whileN (linealref03_FirstForm_b1 l) n (out, w) = some (out ++ ff l n w) := by
    intro n
    induction n with
    | zero => intro w out h; omega
    | succ n ih =>
      intro w out hn hw hout
      have hlen := isWd_len hw
      unfold whileN
      by_cases hw0 : w = []
      · subst hw0
        have eb : linealref03_FirstForm_b1 l (out, []) = some (.done out) := by unfold linealref03_FirstForm_b1; rw [if_neg (by simp)]
        rw [eb]
        unfold ff
        rw [startsL_nil]; simp
      · have hpos : 0 < w.length := List.length_pos_iff.2 hw0
        unfold ff
        cases hs : startsL l w with
        | nil => exact absurd hs (starts_some hl hw hw0)
        | cons p r =>
          have hp : p ∈ startsL l w := by rw [hs]; simp
          have hwo := (startsL_mem hp).1
          have hp2 := wo_some l w p.1 p.2 hwo
          obtain ⟨i, ei, hi⟩ := free_eq l w p.1 hf (by omega)
          have e0 : ((p :: r).map (·.1)).getD 0 0 = p.1 := rfl
          rcases hi with ⟨rfl, hno⟩ | ⟨j, rfl, hj, hj2⟩
          · rw [hno] at hwo; cases hwo
          · rw [hj2] at hwo
            injection hwo with hwo
            have e1 : ((j : Int) + 1).toNat = j + 1 := by omega
            have eb : linealref03_FirstForm_b1 l (out, w) = some (.next (out ++ [p.1], p.2)) := by
              unfold linealref03_FirstForm_b1
              simp only
              rw [if_pos (by simp; exact hpos), rstarts_eq hl hf hw, Option.bind_some, hs, ck_pos (by simp), ck_pos (by omega), e0, ei, Option.bind_some, rwithout_eq w j hj (by omega), Option.bind_some, Int.toNat_natCast, e1, hwo]
            rw [eb]
            simp only
            have hw' : isWd l p.2 = true := isWd_sub hw (by omega) hp2.2.1
            rw [ih p.2 (out ++ [p.1]) (by omega) hw' (by simp; omega)]
            simp
  unfold linealref03_FirstForm
  have h := whileO_of (key (w.length + 1) w [] (by omega) hw (by have := isWd_len hw; simp; omega))
  rw [h, Option.bind_some]; rfl

/-- What is left behind a word that begins another one. -/
def rs (l : Ltr) : List Int → List Int → Option (List Int)
  | [], w => some w
  | a :: u, w => (wo l w a).bind (rs l u)

theorem rs_some (l : Ltr) : ∀ (u w v : List Int), rs l u w = some v → v.length + u.length = w.length ∧ ∀ x ∈ v, x ∈ w
  | [], w, v, h => by simp [rs] at h; subst h; exact ⟨by simp, fun x hx => hx⟩
  | a :: u, w, v, h => by
    unfold rs at h
    rw [Option.bind_eq_some_iff] at h
    obtain ⟨w1, h1, h2⟩ := h
    have := wo_some l w a w1 h1
    have ih := rs_some l u w1 v h2
    exact ⟨by simp; omega, fun x hx => this.2.1 x (ih.2 x hx)⟩

theorem rrest_eq {l : Ltr} (hf : few l.2) {u w : List Int} (hu : u.length ≤ 1000) (hw : w.length ≤ 1000) : linealref03_rest l u w = some (match rs l u w with | some v => (v, true) | none => ([], false)) := by
  unfold linealref03_rest
  rw [ck_pos (by omega)]
  have hs := scan2 (R := Sum Unit (List Int)) u (fun k (s : List Int) => rs l u w = rs l (u.drop k) s ∧ s.length ≤ 1000) (fun r => match r with | .inl _ => rs l u w = none | .inr v => rs l u w = some v) (body := linealref03_rest_b1 l u) (s0 := w) ⟨rfl, hw⟩ ?_ ?_
  · obtain ⟨r, er, hr⟩ := hs
    rw [er, Option.bind_some]
    cases r with
    | inl x => simp only at hr; rw [hr]
    | inr v => simp only at hr; rw [hr]; rfl
  · rintro k x s hk ⟨h1, h2⟩
    obtain ⟨hlt, hin⟩ := few_in (few_of hu) hk
    have hd : u.drop k = x :: u.drop (k + 1) := by
      rw [List.drop_eq_getElem_cons hlt]
      congr 1
      exact (List.getElem?_eq_some_iff.1 hk).2
    obtain ⟨i, ei, hi⟩ := free_eq l s x hf h2
    unfold linealref03_rest_b1
    simp only
    rw [if_pos (by simpa using hlt), ck_pos (by simp), ck_pos (by simpa using hlt), Int.toNat_natCast, getD_of hk, ei, Option.bind_some]
    rw [hd, show rs l (x :: u.drop (k + 1)) s = (wo l s x).bind (rs l (u.drop (k + 1))) from rfl] at h1
    rcases hi with ⟨rfl, hno⟩ | ⟨j, rfl, hj, hj2⟩
    · rw [hno] at h1
      rw [if_pos (by simp)]
      exact .inr ⟨_, rfl, h1⟩
    · have e1 : ((j : Int) + 1).toNat = j + 1 := by omega
      rw [hj2, Option.bind_some] at h1
      rw [if_neg (by simp), rwithout_eq s j hj h2, Option.bind_some, ck_pos hin, Int.toNat_natCast, e1]
      exact .inl ⟨_, rfl, h1, by simp; omega⟩
  · rintro s ⟨h1, h2⟩
    rw [List.drop_length] at h1
    unfold linealref03_rest_b1
    simp only
    rw [if_neg (by simp)]
    exact ⟨_, rfl, h1⟩

end Go.Proofs.Ytabchabbdnhjpaa
