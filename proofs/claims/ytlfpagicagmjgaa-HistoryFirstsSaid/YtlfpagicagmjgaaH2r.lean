/-
  Layer 2, pure: what the reference calls a history.
-/
import Derived.Test.YtlfpagicagmjgaaH2c
import Derived.Test.YtlfpagicagmjgaaH1r
namespace Go.Proofs.Ytlfpagicagmjgaa
open Go.RowKit

set_option linter.unusedVariables false
set_option linter.unusedSimpArgs false
set_option maxRecDepth 10000

theorem rbefore_eq (c d : HC6) : linealref02_before c d = some (bef c d) := before_eq c d

theorem meets_k1 (c d : HC6) : linealref02_meets_k1 c d = some (!(!decide (c.1 = d.1) || bef c d || bef d c)) := by
  unfold linealref02_meets_k1
  rw [rbefore_eq, Option.bind_some, rbefore_eq, Option.bind_some]
  by_cases h : c.1 = d.1 <;> simp [h]
  cases bef c d <;> simp

theorem meets_eq (c d : HC6) : linealref02_meets c d = some (!apartC c d) := by
  unfold linealref02_meets apartC
  rw [meets_k1]
  generalize (!decide (c.1 = d.1) || bef c d || bef d c) = X
  cases decide (c.2.2.2.2.1 = d.2.2.2.2.1) <;> cases decide (c.2.2.2.2.1 = d.2.2.2.2.2) <;> cases decide (c.2.2.2.2.2 = d.2.2.2.2.1) <;> cases decide (c.2.2.2.2.2 = d.2.2.2.2.2) <;> cases decide (c.2.2.2.2.2 = 0) <;> simp

theorem rHValid_k3 (h : List HC6) (hl : h.length ≤ 8) (k : Nat) (hk : k < h.length) : linealref02_Valid_k3 h (k : Int) = some (if allB k (fun j => apartC (h.getD k (0, 0, 0, 0, 0, 0)) (h.getD j (0, 0, 0, 0, 0, 0))) = true then .next ((k : Int) + 1) else .done (.inl ())) := by
  unfold linealref02_Valid_k3
  rw [loopB (body := linealref02_Valid_b2 h (k : Int)) k (fun j => apartC (h.getD k (0, 0, 0, 0, 0, 0)) (h.getD j (0, 0, 0, 0, 0, 0))) (fun j hj => ?_) (by unfold linealref02_Valid_b2; rw [if_neg (by simp)]), Option.bind_some]
  · cases allB k (fun j => apartC (h.getD k (0, 0, 0, 0, 0, 0)) (h.getD j (0, 0, 0, 0, 0, 0))) with
    | false => rfl
    | true => simp only [if_true]; unfold linealref02_Valid_k2; rw [ck_pos (inK_small (by omega))]
  · unfold linealref02_Valid_b2
    rw [if_pos (by simp; omega), ck_pos (by simp), ck_pos (by omega), Int.toNat_natCast, Int.toNat_natCast, meets_eq, Option.bind_some]
    cases apartC (h.getD k (0, 0, 0, 0, 0, 0)) (h.getD j (0, 0, 0, 0, 0, 0)) with
    | false => rfl
    | true => simp only [Bool.not_true, Bool.false_eq_true, if_false, if_true]; rw [ck_pos (inK_small (by omega))]

theorem rHValid_eq (h : List HC6) : linealref02_Valid h = some (okH h) := by
  unfold linealref02_Valid okH
  by_cases hl : h.length ≤ 8
  · rw [if_neg (by simp; omega), loopB (body := linealref02_Valid_b1 h) h.length (okAt h) (fun k hk => ?_) (by unfold linealref02_Valid_b1; rw [if_neg (by simp)]), Option.bind_some]
    · cases hh : allB h.length (okAt h) <;> simp [hl, linealref02_Valid_k1]
    · unfold linealref02_Valid_b1 okAt okC
      rw [if_pos (by simpa using hk), ck_pos (by simp), ck_pos (by omega)]
      simp only [rwithin_eq, Option.bind_some, Int.toNat_natCast, rHValid_k3 h hl k hk]
      unfold inB
      obtain ⟨c, hc⟩ : ∃ c, c = h.getD k (0, 0, 0, 0, 0, 0) := ⟨_, rfl⟩
      simp only [← hc]
      cases h1 : (decide (0 ≤ c.1) && decide (c.1 ≤ 3)) with
      | false => simp
      | true =>
      cases h2 : (decide (0 ≤ c.2.1) && decide (c.2.1 ≤ 1)) with
      | false => simp
      | true =>
      cases h3 : (decide (0 ≤ c.2.2.1) && decide (c.2.2.1 ≤ 3)) with
      | false => simp
      | true =>
      cases h4 : (decide (0 ≤ c.2.2.2.1) && decide (c.2.2.2.1 ≤ 9)) with
      | false => simp
      | true =>
      cases h5 : (decide (1 ≤ c.2.2.2.2.1) && decide (c.2.2.2.2.1 ≤ 100)) with
      | false => simp
      | true =>
        simp only [Bool.and_eq_true, decide_eq_true_eq] at h5
        have hin : InK .i64 (c.2.2.2.2.1 + 1) := by rw [inK_i64]; omega
        simp only [ck_pos hin, Bool.not_true, Bool.false_eq_true, if_false, Bool.true_and]
        by_cases h6 : c.2.2.2.2.2 = 0
        · have h7 : ¬ c.2.2.2.2.1 < c.2.2.2.2.2 := by omega
          have e6 : decide (c.2.2.2.2.2 = 0) = true := by simpa using h6
          have e7 : decide (c.2.2.2.2.1 < c.2.2.2.2.2) = false := by simpa using h7
          rw [e6, e7]
          cases decide (c.2.2.2.1 = 0) <;> simp
        · have e1 : decide (c.2.2.2.2.1 + 1 ≤ c.2.2.2.2.2) = decide (c.2.2.2.2.1 < c.2.2.2.2.2) := decide_eq_decide.2 ⟨fun h => by omega, fun h => by omega⟩
          rw [e1]
          cases h8 : (decide (c.2.2.2.2.1 < c.2.2.2.2.2) && decide (c.2.2.2.2.2 ≤ 100)) <;> simp [h6, h8]
  · rw [if_pos (by simp; omega)]; simp [hl]

end Go.Proofs.Ytlfpagicagmjgaa
