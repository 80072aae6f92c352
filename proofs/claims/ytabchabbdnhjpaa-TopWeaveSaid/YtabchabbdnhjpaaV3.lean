/-
  Layer 3, pure: what is left without a letter, the letters in front, how many words a class has; the example.
-/
import Derived.Test.YtabchabbdnhjpaaV2
namespace Go.Proofs.Ytabchabbdnhjpaa
open Go.RowKit

set_option linter.unusedVariables false
set_option linter.unusedSimpArgs false
set_option maxRecDepth 10000

/-- What is left without the first occurrence of a letter, if a word of the class begins with it. -/
def wo (l : Ltr) : List Int → Int → Option (List Int)
  | [], _ => none
  | b :: r, a => if b = a then some r else if dep l a b = true then none else (wo l r a).map (b :: ·)

theorem wo_not (l : Ltr) : ∀ (w : List Int) (a : Int), a ∉ w → wo l w a = none
  | [], _, _ => rfl
  | b :: r, a, h => by
    simp only [List.mem_cons, not_or] at h
    unfold wo
    rw [if_neg (Ne.symm h.1), wo_not l r a h.2]
    split <;> rfl

theorem wo_at (l : Ltr) : ∀ (w : List Int) (a : Int) (k : Nat), w[k]? = some a → a ∉ w.take k → wo l w a = if (w.take k).any (dep l a) = true then none else some (w.take k ++ w.drop (k + 1))
  | [], a, k, h, _ => by simp at h
  | b :: r, a, 0, h, _ => by simp at h; unfold wo; rw [if_pos h]; simp
  | b :: r, a, k + 1, h, hn => by
    simp only [List.take_succ_cons, List.mem_cons, not_or] at hn
    have h' : r[k]? = some a := by simpa using h
    unfold wo
    rw [if_neg (Ne.symm hn.1), wo_at l r a k h' hn.2]
    simp only [List.take_succ_cons, List.any_cons, List.drop_succ_cons, List.cons_append]
    by_cases hd : dep l a b = true
    · rw [if_pos hd]; simp [hd]
    · rw [if_neg hd]
      simp only [Bool.not_eq_true] at hd
      rw [hd, Bool.false_or]
      split <;> rfl

theorem wo_some (l : Ltr) : ∀ (w : List Int) (a : Int) (u : List Int), wo l w a = some u → u.length + 1 = w.length ∧ (∀ x ∈ u, x ∈ w) ∧ a ∈ w
  | [], a, u, h => by simp [wo] at h
  | b :: r, a, u, h => by
    unfold wo at h
    split at h
    · rename_i e
      injection h with h
      subst h; subst e
      exact ⟨rfl, fun x hx => List.mem_cons_of_mem _ hx, List.mem_cons_self⟩
    · split at h
      · cases h
      · rw [Option.map_eq_some_iff] at h
        obtain ⟨v, hv, rfl⟩ := h
        obtain ⟨h1, h2, h3⟩ := wo_some l r a v hv
        refine ⟨by simp; omega, fun x hx => ?_, List.mem_cons_of_mem _ h3⟩
        rcases List.mem_cons.1 hx with rfl | hx
        · exact List.mem_cons_self
        · exact List.mem_cons_of_mem _ (h2 x hx)

theorem isWd_len {l : Ltr} {w : List Int} (h : isWd l w = true) : w.length ≤ 10 := by
  unfold isWd at h; simp only [Bool.and_eq_true, decide_eq_true_eq] at h; exact h.1
theorem isWd_let {l : Ltr} {w : List Int} (h : isWd l w = true) {x : Int} (hx : x ∈ w) : 0 ≤ x ∧ x < l.1 := by
  unfold isWd at h; simp only [Bool.and_eq_true, decide_eq_true_eq] at h
  have := List.all_eq_true.1 h.2 x hx
  unfold isLet at this
  simpa using this
theorem isWd_sub {l : Ltr} {w u : List Int} (h : isWd l w = true) (hl : u.length ≤ 10) (hu : ∀ x ∈ u, x ∈ w) : isWd l u = true := by
  unfold isWd at *
  simp only [Bool.and_eq_true, decide_eq_true_eq] at *
  exact ⟨hl, List.all_eq_true.2 fun x hx => List.all_eq_true.1 h.2 x (hu x hx)⟩
theorem isWd_wo {l : Ltr} {w u : List Int} {a : Int} (h : isWd l w = true) (hu : wo l w a = some u) : isWd l u = true := by
  obtain ⟨h1, h2, _⟩ := wo_some l w a u hu
  exact isWd_sub h (by have := isWd_len h; omega) h2
theorem okL_N {l : Ltr} (h : okL l = true) : 1 ≤ l.1 ∧ l.1 ≤ 6 := by
  unfold okL at h; simp only [Bool.and_eq_true, decide_eq_true_eq] at h; exact h.1.1

theorem Index_eq3 (w : List Int) (v : Int) (hf : few w) : ∃ i, slices_Index w v = some i ∧ ((i = -1 ∧ v ∉ w) ∨ ∃ k : Nat, i = (k : Int) ∧ w[k]? = some v ∧ v ∉ w.take k) := by
  unfold slices_Index
  have hs := scan1 (R := Sum Int Unit) w (fun k => v ∉ w.take k) (fun r => match r with | .inl i => ∃ k : Nat, i = (k : Int) ∧ w[k]? = some v ∧ v ∉ w.take k | .inr _ => v ∉ w) (body := slices_Index_b1 w v) (by simp) ?_ ?_
  · obtain ⟨r, er, hr⟩ := hs
    rw [er, Option.bind_some]
    cases r with
    | inl i => exact ⟨i, rfl, .inr hr⟩
    | inr u => exact ⟨-1, rfl, .inl ⟨rfl, hr⟩⟩
  · intro k x hk hI
    obtain ⟨hlt, hin⟩ := few_in hf hk
    unfold slices_Index_b1
    rw [if_pos (by simpa using hlt), ck_pos (by simp), ck_pos (by simpa using hlt), Int.toNat_natCast, getD_of hk]
    by_cases e : v = x
    · rw [if_pos (by simpa using e)]
      exact .inr ⟨_, rfl, k, rfl, by rw [hk, e], hI⟩
    · rw [if_neg (by simpa using e), ck_pos hin]
      refine .inl ⟨rfl, ?_⟩
      rw [take_one hk]
      simp only [List.mem_append, List.mem_singleton, not_or]
      exact ⟨hI, e⟩
  · intro hI
    rw [List.take_length] at hI
    unfold slices_Index_b1
    rw [if_neg (by simp)]
    exact ⟨_, rfl, hI⟩

theorem onAny_eq {l : Ltr} {t : El T53} (ht : Ties l t) {a : Int} (ha : 0 ≤ a ∧ a < 6) {w : List Int} (hw : ∀ x ∈ w, 0 ≤ x ∧ x < 6) (hf : few w) : weave_ties_onAny t a w = some (w.any (dep l a)) := by
  unfold weave_ties_onAny
  have hloop : whileO (weave_ties_onAny_b1 t a w) 0 = some (if w.all (fun x => !dep l a x) = true then .inr () else .inl ()) := by
    refine whileO_all w _ (fun k x hk => ?_) ?_
    · obtain ⟨hlt, hin⟩ := few_in hf hk
      have hx := hw x (List.mem_of_getElem? hk)
      unfold weave_ties_onAny_b1
      rw [if_pos (by simpa using hlt), ck_pos (by simp), ck_pos (by simpa using hlt), Int.toNat_natCast, getD_of hk, ck_pos ha.1, ck_pos ha.2, ck_pos hx.1, ck_pos hx.2]
      have e1 : boolAt T53 t ((0 + a.toNat * 6) + x.toNat * 1) = dep l a x := ht a x ha.1 ha.2 hx.1 hx.2
      rw [e1]
      cases dep l a x with
      | true => rfl
      | false => simp only [Bool.false_eq_true, if_false, Bool.not_false, if_true]; rw [ck_pos hin]
    · unfold weave_ties_onAny_b1; rw [if_neg (by simp)]
  rw [hloop, Option.bind_some]
  have : ∀ u : List Int, u.any (dep l a) = !(u.all fun x => !dep l a x) := by
    intro u
    induction u with
    | nil => rfl
    | cons x r ih => rw [List.any_cons, List.all_cons, ih]; cases dep l a x <;> simp
  rw [this]
  cases w.all (fun x => !dep l a x) <;> rfl

theorem Concat2_eq (x y : List Int) (hx : x.length ≤ 1000) (hy : y.length ≤ 1000) : slices_Concat [x, y] = some (x ++ y) := by
  unfold slices_Concat
  have h1 : whileO (slices_Concat_b1 [x, y]) (0, 0) = some ((x.length : Int) + (y.length : Int)) := by
    refine whileO_seq (body := slices_Concat_b1 [x, y]) (fun k : Nat => (match k with | 0 => (0, 0) | 1 => ((x.length : Int), 1) | _ => ((x.length : Int) + (y.length : Int), 2) : Int × Int)) 2 (fun k hk => ?_) ?_
    · rcases (show k = 0 ∨ k = 1 by omega) with rfl | rfl
      · unfold slices_Concat_b1
        simp only
        rw [if_pos (by simp), ck_pos (by simp), ck_pos (by simp), ck_pos (by rw [inK_i64]; first | (simp; done) | (simp; omega)), if_neg (by first | (simp; done) | (simp; omega)), ck_pos (by rw [inK_i64]; simp)]
        simp
      · unfold slices_Concat_b1
        simp only
        rw [if_pos (by simp), ck_pos (by simp), ck_pos (by simp), ck_pos (by rw [inK_i64]; first | (simp; done) | (simp; omega)), if_neg (by first | (simp; done) | (simp; omega)), ck_pos (by rw [inK_i64]; simp)]
        simp
    · unfold slices_Concat_b1
      simp only
      rw [if_neg (by simp)]
  rw [h1, Option.bind_some]
  unfold slices_Concat_k1
  have h2 : slices_Grow ((x.length : Int) + (y.length : Int)) = some () := by
    unfold slices_Grow
    rw [if_neg (by simp; omega), ck_pos (by rw [inK_i64]; omega), ck_pos (by rw [inK_i64]; omega)]
    by_cases h : 0 < ((x.length : Int) + (y.length : Int) - (0 - 0))
    · rw [if_pos (by simpa using h), ck_pos h, ck_pos (by omega), ck_pos (by omega), ck_pos (by omega), ck_pos (by omega)]
    · rw [if_neg (by simpa using h)]
  have h3 : whileO (slices_Concat_b2 [x, y]) ([], 0) = some (x ++ y) := by
    refine whileO_seq (body := slices_Concat_b2 [x, y]) (fun k : Nat => (match k with | 0 => ([], 0) | 1 => (x, 1) | _ => (x ++ y, 2) : List Int × Int)) 2 (fun k hk => ?_) ?_
    · rcases (show k = 0 ∨ k = 1 by omega) with rfl | rfl
      · unfold slices_Concat_b2
        simp only
        rw [if_pos (by simp), ck_pos (by simp), ck_pos (by simp), ck_pos (by simp; omega), ck_pos (by rw [inK_i64]; simp)]
        simp
      · unfold slices_Concat_b2
        simp only
        rw [if_pos (by simp), ck_pos (by simp), ck_pos (by simp), ck_pos (by simp; omega), ck_pos (by rw [inK_i64]; simp)]
        simp
    · unfold slices_Concat_b2
      simp only
      rw [if_neg (by simp)]
  rw [h2, Option.bind_some, h3, Option.bind_some]; rfl

theorem without_eq {l : Ltr} {t : El T53} (ht : Ties l t) {a : Int} (ha : 0 ≤ a ∧ a < 6) {w : List Int} (hw : ∀ x ∈ w, 0 ≤ x ∧ x < 6) (hl : w.length ≤ 1000) :
    weave_ties_without t w a = some (match wo l w a with | some u => (u, true) | none => ([], false)) := by
  unfold weave_ties_without
  obtain ⟨i, ei, hi⟩ := Index_eq3 w a (few_of hl)
  rw [ei, Option.bind_some]
  rcases hi with ⟨rfl, hn⟩ | ⟨k, rfl, hk, hn⟩
  · rw [if_pos (by simp), wo_not l w a hn]
  · have hlt := (List.getElem?_eq_some_iff.1 hk).1
    have hft : few (w.take k) := few_of (n := 1000) (by simp; omega)
    rw [if_neg (by simp), ck_pos (by simp), ck_pos (by omega), Int.toNat_natCast, onAny_eq ht ha (fun x hx => hw x (List.mem_of_mem_take hx)) hft, Option.bind_some, wo_at l w a k hk hn]
    by_cases hd : (w.take k).any (dep l a) = true
    · rw [if_pos hd, if_pos hd]
    · have e1 : ((k : Int) + 1).toNat = k + 1 := by omega
      rw [if_neg hd, if_neg hd, ck_pos (by simp), ck_pos (by omega), ck_pos (by rw [inK_i64]; omega), ck_pos (by omega), ck_pos (by omega), e1, Concat2_eq _ _ (by simp; omega) (by simp; omega), Option.bind_some]

/-- The letters with which a word of the class begins, each with what is left. -/
def startsL (l : Ltr) (w : List Int) : List (Int × List Int) := (List.range 6).filterMap fun (a : Nat) => (wo l w (a : Int)).map fun u => ((a : Int), u)

theorem startsL_mem {l : Ltr} {w : List Int} {p : Int × List Int} (h : p ∈ startsL l w) : wo l w p.1 = some p.2 ∧ 0 ≤ p.1 ∧ p.1 < 6 := by
  unfold startsL at h
  obtain ⟨a, ha, e⟩ := List.mem_filterMap.1 h
  rw [Option.map_eq_some_iff] at e
  obtain ⟨u, hu, rfl⟩ := e
  have := List.mem_range.1 ha
  exact ⟨hu, by simp, by simp; omega⟩

theorem starts_ok {S R : Type} {l : Ltr} {t : El T53} (ht : Ties l t) {w : List Int} (hw : ∀ x ∈ w, 0 ≤ x ∧ x < 6) (hl : w.length ≤ 1000) (yl : Int × List Int → S → Option (Step S R)) (s0 : S) {r : Sum S R} (h : foldY yl (startsL l w) s0 = some r) :
    weave_ties_starts_1 S R t w yl s0 = some r := by
  have key : ∀ (d k : Nat) (s : S), k + d = 6 → foldY yl ((List.range' k d).filterMap fun (a : Nat) => (wo l w (a : Int)).map fun u => ((a : Int), u)) s = some r →
      whileN (weave_ties_starts_1_b1 S R t w yl) (d + 1) ((k : Int), s) = some (match r with | .inl s' => .inr s' | .inr e => .inl e) := by
    intro d
    induction d with
    | zero =>
      intro k s hk hfo
      have : k = 6 := by omega
      subst this
      simp only [List.range'_zero, List.filterMap_nil, foldY, Option.some.injEq] at hfo
      subst hfo
      unfold whileN weave_ties_starts_1_b1
      rw [if_neg (by simp)]
    | succ d ih =>
      intro k s hk hfo
      rw [List.range'_succ, List.filterMap_cons] at hfo
      unfold whileN
      have hb : weave_ties_starts_1_b1 S R t w yl ((k : Int), s) = (match wo l w (k : Int) with
          | some u => (yl ((k : Int), u) s).bind fun x => match x with
            | .next s => some (.next (((k : Int) + 1), s))
            | .done e => some (.done (Sum.inl e))
          | none => some (.next (((k : Int) + 1), s))) := by
        unfold weave_ties_starts_1_b1
        have hin : InK .i64 ((k : Int) + 1) := by rw [inK_i64]; omega
        rw [if_pos (by simp; omega), without_eq ht ⟨by simp, by simp; omega⟩ hw hl, Option.bind_some]
        cases wo l w (k : Int) with
        | none => simp only [Bool.false_eq_true, if_false]; rw [ck_pos hin]
        | some u =>
          simp only [if_true]
          refine congrArg (Option.bind _) (funext fun x => ?_)
          cases x with
          | next s' => simp only; rw [ck_pos hin]
          | done e => rfl
      rw [hb]
      cases hwo : wo l w (k : Int) with
      | none =>
        rw [hwo] at hfo
        simp only [Option.map_none] at hfo ⊢
        have := ih (k + 1) s (by omega) hfo
        rwa [show ((k + 1 : Nat) : Int) = (k : Int) + 1 from Int.natCast_succ k] at this
      | some u =>
        rw [hwo] at hfo
        simp only [Option.map_some, foldY] at hfo ⊢
        cases hy : yl ((k : Int), u) s with
        | none => rw [hy] at hfo; cases hfo
        | some x =>
          rw [hy, Option.bind_some] at hfo
          simp only [Option.bind_some]
          cases x with
          | next s' =>
            simp only at hfo ⊢
            have := ih (k + 1) s' (by omega) hfo
            rwa [show ((k + 1 : Nat) : Int) = (k : Int) + 1 from Int.natCast_succ k] at this
          | done e =>
            simp only [Option.some.injEq] at hfo ⊢
            subst hfo; rfl
  have h0 := key 6 0 s0 rfl (by rw [← List.range_eq_range']; exact h)
  unfold weave_ties_starts_1
  have h1 := whileO_of h0
  rw [show (((0 : Nat) : Int), s0) = ((0 : Int), s0) from rfl] at h1
  rw [h1, Option.bind_some]
  cases r <;> rfl

/-- How many words a class has. -/
def cnt (l : Ltr) : Nat → List Int → Int
  | 0, _ => 0
  | n + 1, w => if w = [] then 1 else ((startsL l w).map fun p => cnt l n p.2).sum

def cntW (l : Ltr) (w : List Int) : Int := cnt l (w.length + 1) w

theorem cnt_stable (l : Ltr) : ∀ (n m : Nat) (w : List Int), w.length < n → w.length < m → cnt l n w = cnt l m w
  | 0, _, _, h, _ => by omega
  | _, 0, _, _, h => by omega
  | n + 1, m + 1, w, hn, hm => by
    unfold cnt
    split
    · rfl
    · congr 1
      refine List.map_congr_left fun p hp => ?_
      have := (wo_some l w p.1 p.2 (startsL_mem hp).1).1
      exact cnt_stable l n m p.2 (by omega) (by omega)

theorem cntW_eq (l : Ltr) (w : List Int) : cntW l w = if w = [] then 1 else ((startsL l w).map fun p => cntW l p.2).sum := by
  conv => lhs; unfold cntW cnt
  split
  · rfl
  · congr 1
    refine List.map_congr_left fun p hp => ?_
    have := (wo_some l w p.1 p.2 (startsL_mem hp).1).1
    exact cnt_stable l _ _ p.2 (by omega) (by omega)

theorem sum_le {α : Type} (f : α → Int) (B : Int) : ∀ (xs : List α), (∀ x ∈ xs, 0 ≤ f x ∧ f x ≤ B) → 0 ≤ (xs.map f).sum ∧ (xs.map f).sum ≤ xs.length * B
  | [], _ => by simp
  | x :: r, h => by
    have ih := sum_le f B r fun y hy => h y (by simp [hy])
    have hx := h x (by simp)
    simp only [List.map_cons, List.sum_cons, List.length_cons, Int.natCast_add, Int.add_mul]
    omega

theorem startsL_len (l : Ltr) (w : List Int) : (startsL l w).length ≤ 6 := by
  unfold startsL
  exact Nat.le_trans (List.length_filterMap_le _ _) (by simp)

theorem cntW_le (l : Ltr) : ∀ (n : Nat) (w : List Int), w.length = n → 0 ≤ cntW l w ∧ cntW l w ≤ 6 ^ n
  | n, w, h => by
    rw [cntW_eq]
    split
    · have : (1 : Int) ≤ 6 ^ n := Int.pow_pos (by omega : (0 : Int) < 6)
      omega
    · rename_i hne
      obtain ⟨m, rfl⟩ : ∃ m, n = m + 1 := ⟨n - 1, by have : w.length ≠ 0 := fun e => hne (List.eq_nil_of_length_eq_zero e); omega⟩
      have hs := sum_le (fun p : Int × List Int => cntW l p.2) (6 ^ m) (startsL l w) fun p hp => by
        have := (wo_some l w p.1 p.2 (startsL_mem hp).1).1
        exact cntW_le l m p.2 (by omega)
      have hl := startsL_len l w
      have hp : (0 : Int) ≤ 6 ^ m := Int.le_of_lt (Int.pow_pos (by omega))
      have : ((startsL l w).length : Int) * 6 ^ m ≤ 6 * 6 ^ m := Int.mul_le_mul_of_nonneg_right (by omega) hp
      rw [Int.pow_succ]
      omega
termination_by n => n

theorem pow6 {a b : Nat} (h : a ≤ b) : (6 : Int) ^ a ≤ 6 ^ b := by
  have : (6 : Nat) ^ a ≤ 6 ^ b := Nat.pow_le_pow_right (by omega) h
  exact_mod_cast this

theorem cntW_in {l : Ltr} {w : List Int} (h : w.length ≤ 10) : 0 ≤ cntW l w ∧ cntW l w ≤ 60466176 := by
  have h1 := cntW_le l _ w rfl
  have : (6 : Int) ^ w.length ≤ 6 ^ 10 := pow6 h
  omega

end Go.Proofs.Ytabchabbdnhjpaa
