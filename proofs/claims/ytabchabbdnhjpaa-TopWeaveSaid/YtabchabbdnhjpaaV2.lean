/-
  Layer 3, pure: what is asked of letters and words, of both sides; dependence; lists held against each other.
-/
import Derived.Test.YtabchabbdnhjpaaV1
namespace Go.Proofs.Ytabchabbdnhjpaa
open Go.RowKit

set_option linter.unusedVariables false
set_option linter.unusedSimpArgs false
set_option maxRecDepth 10000

theorem few_of {α : Type} {xs : List α} {n : Nat} (h : xs.length ≤ n) (hn : n ≤ 17592186044416 := by omega) : few xs := Nat.le_trans h hn

theorem isLetter_eq (l : Ltr) (a : Int) : weave_isLetter l a = some (isLet l a) := by
  unfold weave_isLetter isLet
  by_cases h : 0 ≤ a
  · rw [if_pos (by simpa using h)]; simp [h]
  · rw [if_neg (by simpa using h)]; simp [h]
theorem rIsLetter_eq (l : Ltr) (a : Int) : linealref03_IsLetter l a = some (isLet l a) := isLetter_eq l a

theorem all_loop {α : Type} {xs : List α} {p : α → Bool} {d : α} (hf : few xs) {f : α → Option Bool} (hp : ∀ x, f x = some (p x)) {body : Int → Option (Step Int (Sum Unit Unit))}
    (hb : ∀ i : Int, body i = if (decide (i < (xs.length : Int))) = true then ck (0 ≤ i) <| ck (i < (xs.length : Int)) <| (f (xs.getD i.toNat d)).bind fun v => if (!v) = true then some (.done (Sum.inl ())) else ck (InK .i64 (i + 1)) <| some (.next (i + 1)) else some (.done (Sum.inr ()))) :
    whileO body 0 = some (if xs.all p = true then .inr () else .inl ()) := by
  refine whileO_all xs p (fun k x hk => ?_) ?_
  · obtain ⟨hlt, hin⟩ := few_in hf hk
    rw [hb, if_pos (by simpa using hlt), ck_pos (by simp), ck_pos (by simpa using hlt), Int.toNat_natCast, getD_of hk, hp, Option.bind_some]
    cases p x with
    | true => simp only [Bool.not_true, Bool.false_eq_true, if_false, if_true]; rw [ck_pos hin]
    | false => rfl
  · rw [hb, if_neg (by simp)]

theorem isWord_eq (l : Ltr) (w : List Int) (hf : few w) : weave_isWord l w = some (isWd l w) := by
  unfold weave_isWord isWd
  by_cases h : w.length ≤ 10
  · rw [if_neg (by simp; omega), all_loop (body := weave_isWord_b1 l w) hf (isLetter_eq l) (fun i => rfl), Option.bind_some]
    by_cases ha : w.all (isLet l) = true
    · rw [if_pos ha]; simp [h, ha, weave_isWord_k1]
    · rw [if_neg ha]; simp only [Bool.not_eq_true] at ha; simp [h, ha]
  · rw [if_pos (by simp; omega)]; simp [h]

theorem rIsWord_eq (l : Ltr) (w : List Int) (hf : few w) : linealref03_IsWord l w = some (isWd l w) := by
  unfold linealref03_IsWord isWd
  rw [all_loop (body := linealref03_IsWord_b1 l w) hf (rIsLetter_eq l) (fun i => rfl), Option.bind_some]
  by_cases ha : w.all (isLet l) = true
  · rw [if_pos ha]; simp only [linealref03_IsWord_k1, ha, Bool.and_true]
    congr 1
    rw [Bool.eq_iff_iff]; simp; omega
  · rw [if_neg ha]; simp only [Bool.not_eq_true] at ha; simp [ha]

/-- The error of letters and words. -/
def errW (l : Ltr) (ws : List (List Int)) : Int := if okL l = true then (if ws.all (isWd l) = true then 0 else 31) else 30

theorem checked_eq3 (l : Ltr) (ws : List (List Int)) (hl : few l.2) (hf : few ws) (hw : ∀ w ∈ ws, few w) : ∃ t : El T53, weave_checked l ws = some (t, errW l ws) ∧ (errW l ws = 0 → Ties l t) := by
  obtain ⟨r, e, h1, h2⟩ := tiesOf_eq l hl
  obtain ⟨t, ok⟩ := r
  simp only at h1 h2
  unfold weave_checked
  rw [e, Option.bind_some]
  unfold errW
  cases hok : okL l with
  | false =>
    rw [hok] at h1
    subst h1
    exact ⟨_, rfl, fun h => by simp at h⟩
  | true =>
    rw [hok] at h1
    subst h1
    simp only [Bool.not_true, Bool.false_eq_true, if_false, if_true]
    have hloop : whileO (weave_checked_b1 l ws) 0 = some (if ws.all (isWd l) = true then .inr () else .inl ()) := by
      refine whileO_all ws (isWd l) (fun k x hk => ?_) ?_
      · obtain ⟨hlt, hin⟩ := few_in hf hk
        unfold weave_checked_b1
        rw [if_pos (by simpa using hlt), ck_pos (by simp), ck_pos (by simpa using hlt), Int.toNat_natCast, getD_of hk, isWord_eq l x (hw x (List.mem_of_getElem? hk)), Option.bind_some]
        cases isWd l x with
        | true => simp only [Bool.not_true, Bool.false_eq_true, if_false, if_true]; rw [ck_pos hin]
        | false => rfl
      · unfold weave_checked_b1; rw [if_neg (by simp)]
    rw [hloop, Option.bind_some]
    by_cases ha : ws.all (isWd l) = true
    · rw [if_pos ha, if_pos ha]
      exact ⟨t, rfl, fun _ => h2 hok⟩
    · rw [if_neg ha, if_neg ha]
      exact ⟨_, rfl, fun h => by simp at h⟩

/-! ### The reference -/

theorem rValid_eq (l : Ltr) (hf : few l.2) : linealref03_Valid l = some (okL l) := by
  unfold linealref03_Valid
  by_cases h1 : l.1 < 1
  · rw [if_pos (by simpa using h1)]; unfold okL; simp; omega
  rw [if_neg (by simpa using h1)]
  by_cases h6 : 6 < l.1
  · rw [if_pos (by simpa using h6)]; unfold okL; simp; omega
  rw [if_neg (by simpa using h6)]
  have inner : ∀ (k : Nat) (p : Int × Int), l.2[k]? = some p → (∀ x ∈ l.2.take k, okPr l.1 x = true) → okPr l.1 p = true → ∃ r, whileO (linealref03_Valid_b2 l (k : Int)) 0 = some r ∧ (match r with | .inl _ => p ∈ l.2.take k | .inr _ => p ∉ l.2.take k) := by
    intro k p hk hall hpk
    obtain ⟨hlt, hin⟩ := few_in hf hk
    have hp : l.2.getD (k : Int).toNat (0, 0) = p := by rw [Int.toNat_natCast]; exact getD_of hk
    refine scan1 (l.2.take k) (fun j => p ∉ (l.2.take k).take j) _ (by simp) ?_ ?_
    · intro j q hj hI
      have hjl := (List.getElem?_eq_some_iff.1 hj).1
      have hfk : few (l.2.take k) := by unfold few at hf ⊢; simp; omega
      obtain ⟨_, hin'⟩ := few_in hfk hj
      have hq : okPr l.1 q = true := hall q (List.mem_of_getElem? hj)
      have bp := okPr_in (by omega) hpk
      have bq := okPr_in (by omega) hq
      have hqd : (l.2.take (k : Int).toNat).getD (j : Int).toNat (0, 0) = q := by rw [Int.toNat_natCast, Int.toNat_natCast]; exact getD_of hj
      have hjl' : (j : Int) < ((l.2.take (k : Int).toNat).length : Int) := by rw [Int.toNat_natCast]; omega
      unfold linealref03_Valid_b2
      simp only [hp, hqd]
      rw [if_pos (by simpa using hjl'), ck_pos (by simp), ck_pos hjl']
      have okp : okD (.pair (.int .i64) (.int .i64)) p := ⟨by show InK _ _; rw [inK_i64]; omega, by show InK _ _; rw [inK_i64]; omega⟩
      have okq : okD (.pair (.int .i64) (.int .i64)) q := ⟨by show InK _ _; rw [inK_i64]; omega, by show InK _ _; rw [inK_i64]; omega⟩
      rw [ck_pos (show InK .i64 p.1 from okp.1), ck_pos (show InK .i64 p.2 from okp.2), ck_pos (show InK .i64 q.1 from okq.1), ck_pos (show InK .i64 q.2 from okq.2)]
      by_cases e : p = q
      · rw [if_pos (by simpa using e)]
        exact .inr ⟨_, rfl, by simp only; rw [e]; exact List.mem_of_getElem? hj⟩
      · rw [if_neg (by simpa using e), ck_pos hin']
        refine .inl ⟨rfl, ?_⟩
        rw [take_one hj]
        simp only [List.mem_append, List.mem_singleton, not_or]
        exact ⟨hI, e⟩
    · intro hI
      rw [List.take_length] at hI
      unfold linealref03_Valid_b2
      rw [Int.toNat_natCast, if_neg (by simp)]
      exact ⟨_, rfl, hI⟩
  have hs := scan1 (R := Sum Unit Unit) l.2 (fun k => (l.2.take k).all (okPr l.1) = true ∧ (l.2.take k).Nodup) (fun r => match r with | .inl _ => okL l = false | .inr _ => okL l = true) (body := linealref03_Valid_b1 l) (by simp) ?_ ?_
  · obtain ⟨r, er, hr⟩ := hs
    rw [er, Option.bind_some]
    cases r with
    | inl u => simp only at hr; rw [hr]
    | inr u => simp only at hr; rw [hr]; rfl
  · rintro k p hk ⟨i1, i2⟩
    obtain ⟨hlt, hin⟩ := few_in hf hk
    have hp : l.2.getD (k : Int).toNat (0, 0) = p := by rw [Int.toNat_natCast]; exact getD_of hk
    unfold linealref03_Valid_b1
    simp only [hp]
    rw [if_pos (by simpa using hlt), ck_pos (by simp), ck_pos (by simpa using hlt)]
    have bad : okPr l.1 p = false → okL l = false := fun h => by
      unfold okL
      have : l.2.all (okPr l.1) = false := by
        rw [List.all_eq_false]; exact ⟨p, List.mem_of_getElem? hk, by rw [h]; simp⟩
      rw [this]; simp
    by_cases c1 : p.1 < 0
    · rw [if_pos (by simpa using c1)]
      exact .inr ⟨_, rfl, bad (by unfold okPr; simp; omega)⟩
    rw [if_neg (by simpa using c1)]
    by_cases c2 : p.2 < 0
    · rw [if_pos (by simpa using c2)]
      exact .inr ⟨_, rfl, bad (by unfold okPr; simp; omega)⟩
    rw [if_neg (by simpa using c2)]
    by_cases c3 : l.1 ≤ p.1
    · rw [if_pos (by simpa using c3)]
      exact .inr ⟨_, rfl, bad (by unfold okPr; simp; omega)⟩
    rw [if_neg (by simpa using c3)]
    by_cases c4 : l.1 ≤ p.2
    · rw [if_pos (by simpa using c4)]
      exact .inr ⟨_, rfl, bad (by unfold okPr; simp; omega)⟩
    rw [if_neg (by simpa using c4)]
    by_cases c5 : p.2 ≤ p.1
    · rw [if_pos (by simpa using c5)]
      exact .inr ⟨_, rfl, bad (by unfold okPr; simp; omega)⟩
    rw [if_neg (by simpa using c5), ck_pos (by simp), ck_pos (by omega)]
    have hpk : okPr l.1 p = true := by unfold okPr; simp; omega
    obtain ⟨r, er, hr⟩ := inner k p hk (fun x hx => List.all_eq_true.1 i1 x hx) hpk
    rw [er, Option.bind_some]
    cases r with
    | inl u =>
      simp only at hr
      refine .inr ⟨_, rfl, ?_⟩
      have : ¬ l.2.Nodup := fun hn => by
        have h1 : (l.2.take (k + 1)).Nodup := hn.sublist (List.take_sublist _ _)
        rw [take_one hk, List.nodup_append] at h1
        exact h1.2.2 p hr p (by simp) rfl
      simp only [okL, this, decide_false, Bool.and_false]
    | inr u =>
      simp only at hr
      simp only [linealref03_Valid_k2]
      rw [ck_pos hin]
      refine .inl ⟨rfl, ?_, ?_⟩
      · rw [take_one hk, List.all_append, i1]; simp [hpk]
      · rw [take_one hk, List.nodup_append]
        exact ⟨i2, by simp, fun a ha b hb => by simp at hb; subst hb; exact fun e => hr (e ▸ ha)⟩
  · rintro ⟨i1, i2⟩
    rw [List.take_length] at i1 i2
    unfold linealref03_Valid_b1
    rw [if_neg (by simp)]
    exact ⟨_, rfl, by unfold okL; rw [i1]; simp [i2]; omega⟩

theorem SameInts_eq3 (a b : List Int) (ha : few a) (hb : few b) : linealref03_SameInts a b = some (decide (a = b)) := by
  unfold linealref03_SameInts
  by_cases hl : a.length = b.length
  · rw [if_neg (by simp [hl])]
    have hloop : whileO (linealref03_SameInts_b1 a b) 0 = some (if (a.zip b).all (fun q => decide (q.1 = q.2)) = true then .inr () else .inl ()) := by
      have hz : (a.zip b).length = a.length := by simp [hl]
      refine whileO_all (a.zip b) _ (fun k x hk => ?_) ?_
      · have hk' := (List.getElem?_eq_some_iff.1 hk).1
        have hka : k < a.length := by omega
        obtain ⟨x1, x2⟩ := x
        rw [List.getElem?_zip_eq_some] at hk
        obtain ⟨_, hin⟩ := few_in ha hk.1
        unfold linealref03_SameInts_b1
        rw [if_pos (by simpa using hka), ck_pos (by simp), ck_pos (by simpa using hka), ck_pos (by simp), ck_pos (by omega), Int.toNat_natCast, getD_of hk.1, getD_of hk.2]
        by_cases e : x1 = x2
        · rw [if_neg (by simp [e]), ck_pos hin]; simp [e]
        · rw [if_pos (by simp [e])]; simp [e]
      · unfold linealref03_SameInts_b1; rw [hz, if_neg (by simp)]
    rw [hloop, all_zip_eq a b hl, Option.bind_some]
    by_cases e : a = b
    · simp [e, linealref03_SameInts_k1]
    · simp [e]
  · rw [if_pos (by simp; omega)]
    have : a ≠ b := fun e => hl (by rw [e])
    simp [this]

theorem Long3_eq (l : Ltr) (ws : List (List Int)) (hf : few ws) : lineallaw03_Long l ws = some (!(ws.all fun w => decide (w.length ≤ 60)) || decide (60 < l.2.length)) := by
  unfold lineallaw03_Long
  have hloop : whileO (lineallaw03_Long_b1 ws) 0 = some (if ws.all (fun w => decide (w.length ≤ 60)) = true then .inr () else .inl ()) := by
    refine whileO_all ws _ (fun k x hk => ?_) ?_
    · obtain ⟨hlt, hin⟩ := few_in hf hk
      unfold lineallaw03_Long_b1
      rw [if_pos (by simpa using hlt), ck_pos (by simp), ck_pos (by simpa using hlt), Int.toNat_natCast, getD_of hk]
      by_cases e : x.length ≤ 60
      · rw [if_neg (by simp; omega), ck_pos hin]; simp [e]
      · rw [if_pos (by simp; omega)]; simp [e]
    · unfold lineallaw03_Long_b1; rw [if_neg (by simp)]
  rw [hloop, Option.bind_some]
  by_cases ha : ws.all (fun w => decide (w.length ≤ 60)) = true
  · rw [if_pos ha, ha]; simp only [lineallaw03_Long_k1, Bool.not_true, Bool.false_or]
    congr 1; rw [Bool.eq_iff_iff]; simp; omega
  · rw [if_neg ha]; simp only [Bool.not_eq_true] at ha; rw [ha]; rfl

end Go.Proofs.Ytabchabbdnhjpaa
