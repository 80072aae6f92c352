/-
  Layer 3, pure: WeaveExchanges.
-/
import Derived.Test.YtabchabbdnhjpaaV4
namespace Go.Proofs.Ytabchabbdnhjpaa
open Go.RowKit

set_option linter.unusedVariables false
set_option linter.unusedSimpArgs false
set_option maxRecDepth 10000

theorem errW_ok {l : Ltr} {ws : List (List Int)} (h : errW l ws = 0) : okL l = true ∧ ∀ w ∈ ws, isWd l w = true := by
  unfold errW at h
  by_cases h1 : okL l = true
  · rw [if_pos h1] at h
    by_cases h2 : ws.all (isWd l) = true
    · exact ⟨h1, List.all_eq_true.1 h2⟩
    · rw [if_neg h2] at h; cases h
  · rw [if_neg h1] at h; cases h

/-- Whether there is an exchange at a place. -/
def canX (l : Ltr) (w : List Int) (at0 : Int) : Bool := decide (0 ≤ at0) && decide (at0 < (w.length : Int) - 1) && !dep l (w.getD at0.toNat 0) (w.getD (at0 + 1).toNat 0)
def swp (w : List Int) (at0 : Int) : List Int := (w.set at0.toNat (w.getD (at0 + 1).toNat 0)).set (at0 + 1).toNat (w.getD at0.toNat 0)

theorem Depend_eq (l : Ltr) (a b : Int) (hl : few l.2) : weave_Depend l a b = some (if okL l = true then (if isLet l a = true ∧ isLet l b = true then (dep l a b, 0) else (false, 2)) else (false, 30)) := by
  unfold weave_Depend
  obtain ⟨t, e, ht⟩ := checked_eq3 l [] hl (by unfold few; simp) (fun u hu => by simp at hu)
  rw [e, Option.bind_some]
  have he : errW l [] = if okL l = true then 0 else 30 := by unfold errW; simp
  by_cases hok : okL l = true
  · have h0 : errW l [] = 0 := by rw [he, if_pos hok]
    rw [if_neg (by simp [h0]), isLetter_eq, Option.bind_some, if_pos hok]
    cases ha : isLet l a with
    | false => simp
    | true =>
      simp only [Bool.not_true, Bool.false_eq_true, if_false]
      rw [isLetter_eq, Option.bind_some]
      cases hb : isLet l b with
      | false => simp
      | true =>
        have hn := okL_N hok
        unfold isLet at ha hb
        simp only [Bool.and_eq_true, decide_eq_true_eq] at ha hb
        simp only [Bool.not_true, Bool.false_eq_true, if_false, and_self, if_true]
        rw [ck_pos ha.1, ck_pos (by omega), ck_pos hb.1, ck_pos (by omega)]
        have e1 : boolAt T53 t ((0 + a.toNat * 6) + b.toNat * 1) = dep l a b := ht h0 a b ha.1 (by omega) hb.1 (by omega)
        rw [e1]
  · rw [he, if_neg hok, if_pos (by simp), if_neg hok]

/-- The occurrences of two letters. -/
def proj (w : List Int) (a b : Int) : List Int := w.filter fun x => decide (x = a) || decide (x = b)

/-- What the memory's bound says of the letters that a law is given. -/
def okLt (l : Ltr) : Prop := few l.2

end Go.Proofs.Ytabchabbdnhjpaa
