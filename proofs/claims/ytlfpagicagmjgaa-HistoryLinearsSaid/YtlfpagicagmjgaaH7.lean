/-
  Layer 2, pure: HistoryKeeps.
-/
import Derived.Test.YtlfpagicagmjgaaH7a
namespace Go.Proofs.Ytlfpagicagmjgaa
open Go.RowKit

set_option linter.unusedVariables false
set_option linter.unusedSimpArgs false
set_option maxRecDepth 10000

def thrB (a b : HC6) : Bool := decide (a.1 = b.1) && decide (a.2.2.2.2.1 < b.2.2.2.2.1)

theorem inThread_eq (a b : HC6) : history_inThread a b = some (thrB b a) := by
  unfold history_inThread thrB
  by_cases h : a.1 = b.1
  · rw [if_pos (by simpa using h), decide_eq_true h.symm]; rfl
  · rw [if_neg (by simpa using h), decide_eq_false (fun e => h e.symm)]; rfl

theorem keepsThreads_in (h : List HC6) (l : List Int) (hl : l.length ≤ 1000) (hin : ∀ k, k < l.length → 0 ≤ l.getD k 0 ∧ l.getD k 0 < (h.length : Int)) : linealref02_keepsThreads h l = some (keepB thrB h l) := by
  unfold linealref02_keepsThreads keepB
  rw [loopB (body := linealref02_keepsThreads_b1 h l) l.length (fun i => allB i fun k => !thrB (atL h l i) (atL h l k)) (fun i hi => ?_) (by unfold linealref02_keepsThreads_b1; rw [if_neg (by simp)]), Option.bind_some]
  · cases allB l.length (fun i => allB i fun k => !thrB (atL h l i) (atL h l k)) <;> rfl
  · obtain ⟨p1, p2⟩ := hin i hi
    unfold linealref02_keepsThreads_b1
    rw [if_pos (by simpa using hi)]
    rw [loopB (body := linealref02_keepsThreads_b2 h l (i : Int)) i (fun k => !thrB (atL h l i) (atL h l k)) (fun k hk => ?_) (by unfold linealref02_keepsThreads_b2; rw [if_neg (by simp)]), Option.bind_some]
    · cases allB i (fun k => !thrB (atL h l i) (atL h l k)) with
      | false => rfl
      | true => simp only [if_true]; unfold linealref02_keepsThreads_k2; rw [ck_pos (inK_small (by omega))]
    · obtain ⟨q1, q2⟩ := hin k (by omega)
      unfold linealref02_keepsThreads_b2
      simp only [Int.toNat_natCast]
      rw [if_pos (by simpa using hk), ck_pos (by omega), ck_pos (by omega), ck_pos p1, ck_pos p2, ck_pos (by omega), ck_pos (by omega), ck_pos q1, ck_pos q2, ck_pos (by omega), ck_pos (by omega), ck_pos p1, ck_pos p2, ck_pos (by omega), ck_pos (by omega), ck_pos q1, ck_pos q2, ck_pos (inK_small (by omega))]
      unfold thrB atL
      by_cases e1 : (h.getD (l.getD i 0).toNat (0, 0, 0, 0, 0, 0)).1 = (h.getD (l.getD k 0).toNat (0, 0, 0, 0, 0, 0)).1
      · by_cases e2 : (h.getD (l.getD i 0).toNat (0, 0, 0, 0, 0, 0)).2.2.2.2.1 < (h.getD (l.getD k 0).toNat (0, 0, 0, 0, 0, 0)).2.2.2.2.1
        · simp only [decide_eq_true e1, decide_eq_true e2]; rfl
        · simp only [decide_eq_true e1, decide_eq_false e2]; rfl
      · simp only [decide_eq_false e1]; rfl

def keepsA (h : List HC6) (l : List Int) : Bool × Bool × Int := if okH h = true then (if ordB h l = true then (keepB bef h l, keepB thrB h l, 0) else (false, false, 2)) else (false, false, 20)

end Go.Proofs.Ytlfpagicagmjgaa
