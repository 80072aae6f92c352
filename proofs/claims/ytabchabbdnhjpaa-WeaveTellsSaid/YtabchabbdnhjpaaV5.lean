/-
  Layer 3, pure: WeaveExchanges.
-/
import Derived.Test.YtabchabbdnhjpaaV4
namespace Go.Proofs.Ytabchabbdnhjpaa
open Go.RowKit

set_option linter.unusedVariables false
set_option linter.unusedSimpArgs false
set_option maxRecDepth 10000

theorem errW_ok {l : Ltr} {ws : List (List Int)} (h : errW l ws = 0) : okL l = true ∧ ∀ w ∈ ws, isWd l w = true := by
  unfold errW at h
  by_cases h1 : okL l = true
  · rw [if_pos h1] at h
    by_cases h2 : ws.all (isWd l) = true
    · exact ⟨h1, List.all_eq_true.1 h2⟩
    · rw [if_neg h2] at h; cases h
  · rw [if_neg h1] at h; cases h

/-- Whether there is an exchange at a place. -/
def canX (l : Ltr) (w : List Int) (at0 : Int) : Bool := decide (0 ≤ at0) && decide (at0 < (w.length : Int) - 1) && !dep l (w.getD at0.toNat 0) (w.getD (at0 + 1).toNat 0)
def swp (w : List Int) (at0 : Int) : List Int := (w.set at0.toNat (w.getD (at0 + 1).toNat 0)).set (at0 + 1).toNat (w.getD at0.toNat 0)

theorem Depend_eq (l : Ltr) (a b : Int) (hl : few l.2) : weave_Depend l a b = some (if okL l = true then (if isLet l a = true ∧ isLet l b = true then (dep l a b, 0) else (false, 2)) else (false, 30)) := by
  unfold weave_Depend
  obtain ⟨t, e, ht⟩ := checked_eq3 l [] hl (by unfold few; simp) (fun u hu => by simp at hu)
  rw [e, Option.bind_some]
  have he : errW l [] = if okL l = true then 0 else 30 := by unfold errW; simp
  by_cases hok : okL l = true
  · have h0 : errW l [] = 0 := by rw [he, if_pos hok]
    rw [if_neg (by simp [h0]), isLetter_eq, Option.bind_some, if_pos hok]
    cases ha : isLet l a with
    | false => simp
    | true =>
      simp only [Bool.not_true, Bool.false_eq_true, if_false]
      rw [isLetter_eq, Option.bind_some]
      cases hb : isLet l b with
      | false => simp
      | true =>
        have hn := okL_N hok
        unfold isLet at ha hb
        simp only [Bool.and_eq_true, decide_eq_true_eq] at ha hb
        simp only [Bool.not_true, Bool.false_eq_true, if_false, and_self, if_true]
        rw [ck_pos ha.1, ck_pos (by omega), ck_pos hb.1, ck_pos (by omega)]
        have e1 : boolAt T53 t ((0 + a.toNat * 6) + b.toNat * 1) = dep l a b := ht h0 a b ha.1 (by omega) hb.1 (by omega)
        rw [e1]
  · rw [he, if_neg hok, if_pos (by simp), if_neg hok]

/-- The occurrences of two letters. -/
def proj (w : List Int) (a b : Int) : List Int := w.filter fun x => decide (x = a) || decide (x = b)

theorem proj_loop (w : List Int) (a b : Int) (hl : w.length ≤ 1000) : whileO (weave_Projection_b1 w a b) ([], 0) = some (proj w a b) := by
  have hs := scan2 (R := List Int) w (fun k (u : List Int) => u = proj (w.take k) a b) (fun r => r = proj w a b) (body := weave_Projection_b1 w a b) (s0 := []) (by simp [proj]) ?_ ?_
  · obtain ⟨r, e, h⟩ := hs
    rw [e, h]
  · rintro k x u hk hI
    obtain ⟨hlt, hin⟩ := few_in (few_of hl) hk
    have hul : u.length ≤ 1000 := by rw [hI]; unfold proj; exact Nat.le_trans (List.length_filter_le _ _) (by simp; omega)
    unfold weave_Projection_b1
    simp only
    rw [if_pos (by simpa using hlt), ck_pos (by simp), ck_pos (by simpa using hlt), Int.toNat_natCast, getD_of hk]
    have hp : proj (w.take (k + 1)) a b = proj (w.take k) a b ++ (if x = a ∨ x = b then [x] else []) := by
      rw [take_one hk]; unfold proj
      rw [List.filter_append]
      by_cases e1 : x = a <;> by_cases e2 : x = b <;> simp [e1, e2]
    by_cases e1 : x = a
    · rw [if_pos (by simpa using e1), ck_pos (by omega), ck_pos hin]
      exact .inl ⟨_, rfl, by rw [hp, if_pos (.inl e1), hI]⟩
    · rw [if_neg (by simpa using e1)]
      by_cases e2 : x = b
      · rw [if_pos (by simpa using e2), ck_pos (by omega), ck_pos hin]
        exact .inl ⟨_, rfl, by rw [hp, if_pos (.inr e2), hI]⟩
      · rw [if_neg (by simpa using e2), ck_pos hin]
        exact .inl ⟨_, rfl, by rw [hp, if_neg (by simp [e1, e2]), List.append_nil, hI]⟩
  · intro u hI
    rw [List.take_length] at hI
    unfold weave_Projection_b1
    rw [if_neg (by simp)]
    exact ⟨_, rfl, hI⟩

theorem Projection_eq (l : Ltr) (w : List Int) (a b : Int) (hl : few l.2) (hw : w.length ≤ 60) : weave_Projection l w a b = some (if errW l [w] = 0 then (if isLet l a = true ∧ isLet l b = true then (proj w a b, 0) else ([], 2)) else ([], errW l [w])) := by
  unfold weave_Projection
  obtain ⟨t, e, ht⟩ := checked_eq3 l [w] hl (by unfold few; simp) (fun u hu => by simp at hu; subst hu; exact few_of hw)
  rw [e, Option.bind_some]
  by_cases h0 : errW l [w] = 0
  · rw [if_neg (by simp [h0]), isLetter_eq, Option.bind_some, if_pos h0, isLetter_eq, Option.bind_some, proj_loop w a b (by omega), Option.bind_some]
    cases isLet l a <;> cases isLet l b <;> rfl
  · rw [if_pos (by simp [h0]), if_neg h0]

/-- What the memory's bound says of the letters that a law is given. -/
def okLt (l : Ltr) : Prop := few l.2

end Go.Proofs.Ytabchabbdnhjpaa
