/-
  Layer 3, pure: WeaveRests.
-/
import Derived.Test.YtabchabbdnhjpaaV6
namespace Go.Proofs.Ytabchabbdnhjpaa
open Go.RowKit

set_option linter.unusedVariables false
set_option linter.unusedSimpArgs false
set_option maxRecDepth 10000

theorem errW_two {l : Ltr} {u w : List Int} (h : errW l [u, w] = 0) : okL l = true ∧ isWd l u = true ∧ isWd l w = true := by
  obtain ⟨h1, h2⟩ := errW_ok h
  exact ⟨h1, h2 u (by simp), h2 w (by simp)⟩

theorem isWd_append {l : Ltr} {u w : List Int} (hu : isWd l u = true) (hw : isWd l w = true) (hl : u.length + w.length ≤ 10) : isWd l (u ++ w) = true := by
  unfold isWd at *
  simp only [Bool.and_eq_true, decide_eq_true_eq] at *
  rw [List.all_append, hu.2, hw.2]
  exact ⟨by simp; omega, rfl⟩

theorem checked2 (l : Ltr) (u w : List Int) (hl : few l.2) (hu : u.length ≤ 60) (hw : w.length ≤ 60) : ∃ t : El T53, weave_checked l [u, w] = some (t, errW l [u, w]) ∧ (errW l [u, w] = 0 → Ties l t) :=
  checked_eq3 l [u, w] hl (by unfold few; simp) (fun x hx => by
    simp only [List.mem_cons, List.mem_singleton, List.not_mem_nil, or_false] at hx
    rcases hx with rfl | rfl
    · exact few_of hu
    · exact few_of hw)

/-- Joined. -/
def joinA (l : Ltr) (u w : List Int) : List Int × Int := if errW l [u, w] = 0 then (if u.length + w.length ≤ 10 then (FF l (u ++ w), 0) else ([], 4)) else ([], errW l [u, w])

theorem Joined_eq (l : Ltr) (u w : List Int) (hl : few l.2) (hu : u.length ≤ 60) (hw : w.length ≤ 60) : weave_Joined l u w = some (joinA l u w) := by
  unfold weave_Joined joinA
  obtain ⟨t, e, ht⟩ := checked2 l u w hl hu hw
  rw [e, Option.bind_some]
  by_cases h0 : errW l [u, w] = 0
  · obtain ⟨hok, ku, kw⟩ := errW_two h0
    rw [if_neg (by simp [h0]), ck_pos (by rw [inK_i64]; omega), if_pos h0]
    by_cases hc : u.length + w.length ≤ 10
    · rw [if_neg (by simp; omega), if_pos hc, Concat2_eq u w (by omega) (by omega), Option.bind_some, first_eq hok (ht h0) (isWd_append ku kw hc), Option.bind_some]
    · rw [if_pos (by simp; omega), if_neg hc]
  · rw [if_pos (by simp [h0]), if_neg h0]

/-- Begins. -/
def beginA (l : Ltr) (u w : List Int) : Bool × Int := if errW l [u, w] = 0 then ((rs l u w).isSome, 0) else (false, errW l [u, w])

/-- Rest. -/
def restA (l : Ltr) (u w : List Int) : List Int × Int := if errW l [u, w] = 0 then (match rs l u w with | some v => (FF l v, 0) | none => ([], 5)) else ([], errW l [u, w])

theorem isWd_rs {l : Ltr} {u w v : List Int} (hw : isWd l w = true) (h : rs l u w = some v) : isWd l v = true := by
  have := rs_some l u w v h
  exact isWd_sub hw (by have := isWd_len hw; omega) this.2

theorem Rest_eq (l : Ltr) (u w : List Int) (hl : few l.2) (hu : u.length ≤ 60) (hw : w.length ≤ 60) : weave_Rest l u w = some (restA l u w) := by
  unfold weave_Rest restA
  obtain ⟨t, e, ht⟩ := checked2 l u w hl hu hw
  rw [e, Option.bind_some]
  by_cases h0 : errW l [u, w] = 0
  · obtain ⟨hok, ku, kw⟩ := errW_two h0
    rw [if_neg (by simp [h0]), rest_eq hok (ht h0) ku kw, Option.bind_some, if_pos h0]
    cases hr : rs l u w with
    | none => rfl
    | some v =>
      simp only [Bool.not_true, Bool.false_eq_true, if_false]
      rw [first_eq hok (ht h0) (isWd_rs kw hr), Option.bind_some]
  · rw [if_pos (by simp [h0]), if_neg h0]

theorem FF_len {l : Ltr} (hl : okL l = true) {w : List Int} (hw : isWd l w = true) : (FF l w).length = w.length := ff_len hl _ w (by omega) hw

theorem long2 {l : Ltr} {u w : List Int} (h : ¬ (!([u, w].all fun u => decide (u.length ≤ 60)) || decide (60 < l.2.length)) = true) : u.length ≤ 60 ∧ w.length ≤ 60 := by
  simp only [Bool.not_eq_true, Bool.or_eq_false_iff, Bool.not_eq_false'] at h
  simpa using h.1

end Go.Proofs.Ytabchabbdnhjpaa
