/-
  Layer 2, pure: HistoryKeeps.
-/
import Derived.Test.YtlfpagicagmjgaaH7a
namespace Go.Proofs.Ytlfpagicagmjgaa
open Go.RowKit

set_option linter.unusedVariables false
set_option linter.unusedSimpArgs false
set_option maxRecDepth 10000

def thrB (a b : HC6) : Bool := decide (a.1 = b.1) && decide (a.2.2.2.2.1 < b.2.2.2.2.1)

theorem inThread_eq (a b : HC6) : history_inThread a b = some (thrB b a) := by
  unfold history_inThread thrB
  by_cases h : a.1 = b.1
  · rw [if_pos (by simpa using h), decide_eq_true h.symm]; rfl
  · rw [if_neg (by simpa using h), decide_eq_false (fun e => h e.symm)]; rfl

theorem keeps2_eq (h : List HC6) (l : List Int) (hl : l.length ≤ 1000) (ho : ordB h l = true) : history_keeps_2 h l = some (keepB thrB h l) := by
  unfold history_keeps_2 keepB
  rw [loopB (body := history_keeps_2_b1 h l) l.length (fun i => allB i fun k => !thrB (atL h l i) (atL h l k)) (fun i hi => ?_) (by unfold history_keeps_2_b1; rw [if_neg (by simp)]), Option.bind_some]
  · cases allB l.length (fun i => allB i fun k => !thrB (atL h l i) (atL h l k)) <;> rfl
  · obtain ⟨p1, p2⟩ := ordB_in ho hi
    unfold history_keeps_2_b1
    rw [if_pos (by simpa using hi), ck_pos (by omega), ck_pos (by omega), ck_pos (by omega), ck_pos (by omega)]
    have htl : (l.take i).length = i := by simp; omega
    rw [loopB (body := history_keeps_2_b2 h l (i : Int)) i (fun k => !thrB (atL h l i) (atL h l k)) (fun k hk => ?_) (by unfold history_keeps_2_b2; rw [if_neg (by rw [Int.toNat_natCast, htl]; simp)]), Option.bind_some]
    · cases allB i (fun k => !thrB (atL h l i) (atL h l k)) with
      | false => rfl
      | true => simp only [if_true]; unfold history_keeps_2_k2; rw [ck_pos (inK_small (by omega))]
    · obtain ⟨q1, q2⟩ := ordB_in ho (k := k) (by omega)
      unfold history_keeps_2_b2
      simp only [Int.toNat_natCast, htl, getD_take hk]
      rw [if_pos (by simpa using hk), ck_pos (by omega), ck_pos (by omega), ck_pos q1, ck_pos q2, ck_pos p1, ck_pos p2, inThread_eq, Option.bind_some, ck_pos (inK_small (by omega))]
      unfold atL
      cases thrB (h.getD (l.getD i 0).toNat (0, 0, 0, 0, 0, 0)) (h.getD (l.getD k 0).toNat (0, 0, 0, 0, 0, 0)) <;> rfl

def keepsA (h : List HC6) (l : List Int) : Bool × Bool × Int := if okH h = true then (if ordB h l = true then (keepB bef h l, keepB thrB h l, 0) else (false, false, 2)) else (false, false, 20)

theorem Keeps_eq (h : List HC6) (hh : h.length ≤ 1000) (l : List Int) (hl : l.length ≤ 1000) : history_Keeps h l = some (keepsA h l) := by
  unfold history_Keeps keepsA
  rw [isOrder_eq h hh l hl, Option.bind_some, check_eq, Option.bind_some]
  cases hok : okH h with
  | false => rfl
  | true =>
    simp only [if_true]
    cases ho : ordB h l with
    | false => rfl
    | true =>
      unfold history_told_3 history_Keeps_1
      simp only [if_true]
      rw [if_neg (by simp), keeps_eq h l hl ho, Option.bind_some, keeps2_eq h l hl ho]; rfl

end Go.Proofs.Ytlfpagicagmjgaa
