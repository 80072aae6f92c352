/-
  Layer 2, pure: the calls of an object, the program side.
-/
import Derived.Test.YtlfpagicagmjgaaH3f
namespace Go.Proofs.Ytlfpagicagmjgaa
open Go.RowKit

set_option linter.unusedVariables false
set_option linter.unusedSimpArgs false
set_option maxRecDepth 10000

def isObj (n : Int) (c : HC6) : Bool := decide (c.2.1 = n)

theorem those2_eq (h : List HC6) (n : Int) (hl : h.length ≤ 1000) : history_those_2 h n = some (h.filter (isObj n)) := by
  unfold history_those_2
  rw [flat_loop (keepIf (isObj n)) (keepIf_len _) h hl (fun k x s hk hs hlt hin => ?_) (fun s => by unfold history_those_2_b1; rw [if_neg (by simp)]), flat_keep]; rfl
  unfold history_those_2_b1 keepIf isObj
  simp only
  rw [if_pos (by simpa using hlt), ck_pos (by simp), ck_pos (by simpa using hlt), Int.toNat_natCast, getD_of hk]
  show (some ()).bind _ = _
  rw [Option.bind_some]
  cases decide (x.2.1 = n) with
  | true => simp only [if_true]; rw [ck_pos (by omega), ck_pos hin]
  | false => simp only [Bool.false_eq_true, if_false, List.append_nil]; rw [ck_pos hin]

theorem Of_eq (h : List HC6) (n : Int) (hl : h.length ≤ 1000) : history_Of h n = some (if okH h = true then (if inB 0 n 1 = true then (h.filter (isObj n), 0) else ([], 2)) else ([], 20)) := by
  unfold history_Of
  rw [within_eq, Option.bind_some, check_eq, Option.bind_some]
  unfold history_told_12 history_Of_1
  rw [those2_eq h n hl]
  show _ = some (if okH h = true then (if (decide (0 ≤ n) && decide (n ≤ 1)) = true then _ else _) else _)
  cases okH h <;> cases (decide (0 ≤ n) && decide (n ≤ 1)) <;> rfl

end Go.Proofs.Ytlfpagicagmjgaa
