/-
  Layer 2, pure: which histories are valid, of both sides.
-/
import Derived.Test.YtlfpagicagmjgaaHp
import Derived.Test.YtlfpagicagmjgaaGk
namespace Go.Proofs.Ytlfpagicagmjgaa
open Go.RowKit

set_option linter.unusedVariables false
set_option linter.unusedSimpArgs false
set_option maxRecDepth 10000

abbrev HC6 := Int × Int × Int × Int × Int × Int

theorem within_eq (n a b : Int) : history_within n a b = some (decide (a ≤ n) && decide (n ≤ b)) := by
  unfold history_within
  by_cases h : a ≤ n <;> simp [h]
def bef (c d : HC6) : Bool := !decide (c.2.2.2.2.2 = 0) && decide (c.2.2.2.2.2 < d.2.2.2.2.1)
theorem before_eq (c d : HC6) : history_before c d = some (bef c d) := by
  unfold history_before bef
  by_cases h : c.2.2.2.2.2 = 0 <;> simp [h]
def apartC (c d : HC6) : Bool := !decide (c.2.2.2.2.1 = d.2.2.2.2.1) && !decide (c.2.2.2.2.1 = d.2.2.2.2.2) && !decide (c.2.2.2.2.2 = d.2.2.2.2.1) && !(!decide (c.2.2.2.2.2 = 0) && decide (c.2.2.2.2.2 = d.2.2.2.2.2)) && (!decide (c.1 = d.1) || bef c d || bef d c)

theorem apart_k1 (c d : HC6) : history_apart_k1 c d = some (!decide (c.1 = d.1) || bef c d || bef d c) := by
  unfold history_apart_k1
  rw [before_eq, Option.bind_some, before_eq, Option.bind_some]
  by_cases h : c.1 = d.1 <;> simp [h]
  cases bef c d <;> simp
theorem apart_eq (c d : HC6) : history_apart c d = some (apartC c d) := by
  unfold history_apart apartC
  rw [apart_k1]
  generalize (!decide (c.1 = d.1) || bef c d || bef d c) = X
  cases decide (c.2.2.2.2.1 = d.2.2.2.2.1) <;> cases decide (c.2.2.2.2.1 = d.2.2.2.2.2) <;> cases decide (c.2.2.2.2.2 = d.2.2.2.2.1) <;> cases decide (c.2.2.2.2.2 = d.2.2.2.2.2) <;> cases decide (c.2.2.2.2.2 = 0) <;> simp
def inB (a n b : Int) : Bool := decide (a ≤ n) && decide (n ≤ b)
def okC (c : HC6) : Bool := inB 0 c.1 3 && inB 0 c.2.1 1 && inB 0 c.2.2.1 3 && inB 0 c.2.2.2.1 9 && inB 1 c.2.2.2.2.1 100 && ((decide (c.2.2.2.2.2 = 0) && decide (c.2.2.2.1 = 0)) || (decide (c.2.2.2.2.1 < c.2.2.2.2.2) && decide (c.2.2.2.2.2 ≤ 100)))

theorem isCall_k2 (c : HC6) (b1 b2 : Bool) : history_isCall_k2 c b1 b2 = some (inB 0 c.1 3 && inB 0 c.2.1 1 && inB 0 c.2.2.1 3 && inB 0 c.2.2.2.1 9 && inB 1 c.2.2.2.2.1 100 && (b1 || b2)) := by
  unfold history_isCall_k2
  simp only [within_eq, Option.bind_some]
  unfold inB
  cases (decide (0 ≤ c.1) && decide (c.1 ≤ 3)) <;> cases (decide (0 ≤ c.2.1) && decide (c.2.1 ≤ 1)) <;> cases (decide (0 ≤ c.2.2.1) && decide (c.2.2.1 ≤ 3)) <;> cases (decide (0 ≤ c.2.2.2.1) && decide (c.2.2.2.1 ≤ 9)) <;> cases (decide (1 ≤ c.2.2.2.2.1) && decide (c.2.2.2.2.1 ≤ 100)) <;> cases b1 <;> rfl
theorem isCall_eq (c : HC6) : history_isCall c = some (okC c) := by
  unfold history_isCall history_isCall_k1 okC
  simp only [isCall_k2]
  cases decide (c.2.2.2.2.2 = 0) <;> cases decide (c.2.2.2.2.1 < c.2.2.2.2.2) <;> simp

theorem okC_from {c : HC6} (h : okC c = true) : 1 ≤ c.2.2.2.2.1 ∧ c.2.2.2.2.1 ≤ 100 ∧ 0 ≤ c.2.2.2.2.2 ∧ c.2.2.2.2.2 ≤ 100 ∧ 0 ≤ c.2.1 ∧ c.2.1 ≤ 1 ∧ 0 ≤ c.2.2.1 ∧ c.2.2.1 ≤ 3 ∧ 0 ≤ c.1 ∧ c.1 ≤ 3 ∧ 0 ≤ c.2.2.2.1 ∧ c.2.2.2.1 ≤ 9 ∧ (c.2.2.2.2.2 = 0 ∨ c.2.2.2.2.1 < c.2.2.2.2.2) := by
  unfold okC inB at h
  simp only [Bool.and_eq_true, Bool.or_eq_true, decide_eq_true_eq] at h
  omega

def okAt (h : List HC6) (k : Nat) : Bool := okC (h.getD k (0, 0, 0, 0, 0, 0)) && allB k fun j => apartC (h.getD k (0, 0, 0, 0, 0, 0)) (h.getD j (0, 0, 0, 0, 0, 0))
/-- A valid history. -/
def okH (h : List HC6) : Bool := decide (h.length ≤ 8) && allB h.length (okAt h)

theorem HValid_eq (h : List HC6) : history_Valid h = some (okH h) := by
  unfold history_Valid okH
  by_cases hl : h.length ≤ 8
  · rw [if_neg (by simp; omega), loopB (body := history_Valid_b1 h) h.length (okAt h) (fun k hk => ?_) (by unfold history_Valid_b1; rw [if_neg (by simp)]), Option.bind_some]
    · cases hh : allB h.length (okAt h) <;> simp [hl, history_Valid_k1]
    · unfold history_Valid_b1 okAt
      rw [if_pos (by simpa using hk), ck_pos (by simp), ck_pos (by omega), Int.toNat_natCast, isCall_eq, Option.bind_some]
      cases hc : okC (h.getD k (0, 0, 0, 0, 0, 0)) with
      | false => simp
      | true =>
        simp only [Bool.not_true, Bool.false_eq_true, if_false, Bool.true_and]
        rw [ck_pos (by simp), ck_pos (by omega), loopB (body := history_Valid_b2 h (k : Int)) k (fun j => apartC (h.getD k (0, 0, 0, 0, 0, 0)) (h.getD j (0, 0, 0, 0, 0, 0))) (fun j hj => ?_) (by unfold history_Valid_b2; rw [if_neg (by simp; omega)]), Option.bind_some]
        · cases allB k (fun j => apartC (h.getD k (0, 0, 0, 0, 0, 0)) (h.getD j (0, 0, 0, 0, 0, 0))) with
          | false => rfl
          | true => simp only [if_true]; unfold history_Valid_k2; rw [ck_pos (inK_small (by omega))]
        · unfold history_Valid_b2
          rw [if_pos (by simp; omega), ck_pos (by simp), ck_pos (by simp; omega), Int.toNat_natCast, Int.toNat_natCast, getD_take hj, apart_eq, Option.bind_some]
          cases apartC (h.getD k (0, 0, 0, 0, 0, 0)) (h.getD j (0, 0, 0, 0, 0, 0)) with
          | false => rfl
          | true => simp only [Bool.not_true, Bool.false_eq_true, if_false, if_true]; rw [ck_pos (inK_small (by omega))]
  · rw [if_pos (by simp; omega)]; simp [hl]

end Go.Proofs.Ytlfpagicagmjgaa
