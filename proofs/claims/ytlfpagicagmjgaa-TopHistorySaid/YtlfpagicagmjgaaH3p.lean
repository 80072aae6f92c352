/-
  Layer 2, pure: a longer call, the program side.
-/
import Derived.Test.YtlfpagicagmjgaaH2c
namespace Go.Proofs.Ytlfpagicagmjgaa
open Go.RowKit

set_option linter.unusedVariables false
set_option linter.unusedSimpArgs false
set_option maxRecDepth 10000

def put5 (c : HC6) (f : Int) : HC6 := (c.1, c.2.1, c.2.2.1, c.2.2.2.1, f, c.2.2.2.2.2)

def put6 (c : HC6) (t : Int) : HC6 := (c.1, c.2.1, c.2.2.1, c.2.2.2.1, c.2.2.2.2.1, t)

def lng (v : List HC6) (i : Nat) (f t : Int) : List HC6 := (v.set i (put5 (v.getD i (0, 0, 0, 0, 0, 0)) f)).set i (put6 ((v.set i (put5 (v.getD i (0, 0, 0, 0, 0, 0)) f)).getD i (0, 0, 0, 0, 0, 0)) t)

def lngA (h : List HC6) (b : Bool) (L : List HC6) : List HC6 × Int := if okH h = true then (if (b && okH L) = true then (L, 0) else ([], 2)) else ([], 20)

theorem Longer_k2 (h : List HC6) (b : Bool) (L : List HC6) : history_Longer_k2 h b L = some (lngA h b L) := by
  unfold history_Longer_k2 lngA
  rw [HValid_eq, Option.bind_some, check_eq, Option.bind_some, check_eq, Option.bind_some]
  cases b <;> cases okH L <;> cases okH h <;> rfl

/-- A call may be made longer so. -/
def lngB (h : List HC6) (i f t : Int) : Bool := (decide (0 ≤ i) && decide (i < (h.length : Int))) && (!decide ((h.getD i.toNat (0, 0, 0, 0, 0, 0)).2.2.2.2.2 = 0) && (decide (f ≤ (h.getD i.toNat (0, 0, 0, 0, 0, 0)).2.2.2.2.1) && decide ((h.getD i.toNat (0, 0, 0, 0, 0, 0)).2.2.2.2.2 ≤ t)))

theorem lngA_not (h : List HC6) (L L' : List HC6) : lngA h false L = lngA h false L' := rfl

theorem Longer_eq (h : List HC6) (i f t : Int) (hl : h.length ≤ 40) : history_Longer h i f t = some (lngA h (lngB h i f t) (lng h i.toNat f t)) := by
  unfold history_Longer lngB
  have hC : slices_Clone h = some h := by unfold slices_Clone; rw [ck_pos (by omega)]
  rw [hC, Option.bind_some]
  have hi : history_isIndex h i = some (decide (0 ≤ i) && decide (i < (h.length : Int))) := by
    unfold history_isIndex
    by_cases h0 : 0 ≤ i <;> simp [h0]
  rw [hi, Option.bind_some]
  have hk1 : history_Longer_k1 h i f t h false = some (lngA h false (lng h i.toNat f t)) := by
    unfold history_Longer_k1; rw [if_neg (by simp), Longer_k2]; rfl
  by_cases hin : 0 ≤ i ∧ i < (h.length : Int)
  · have hb : (decide (0 ≤ i) && decide (i < (h.length : Int))) = true := by simp; exact hin
    rw [hb]
    have hset : ∀ b : HC6, i < (((h.set i.toNat b).length : Nat) : Int) := fun b => by rw [List.length_set]; exact hin.2
    simp only [if_true, ck_pos hin.1, ck_pos hin.2, Bool.true_and]
    cases e1 : decide ((h.getD i.toNat (0, 0, 0, 0, 0, 0)).2.2.2.2.2 = 0) with
    | true => rw [if_neg (by simp), hk1]; rfl
    | false =>
      cases e2 : decide (f ≤ (h.getD i.toNat (0, 0, 0, 0, 0, 0)).2.2.2.2.1) with
      | false => simp only [Bool.not_false, if_true, Bool.false_eq_true, if_false, hk1]; rfl
      | true =>
        cases e3 : decide ((h.getD i.toNat (0, 0, 0, 0, 0, 0)).2.2.2.2.2 ≤ t) with
        | false => simp only [Bool.not_false, if_true, hk1]; rfl
        | true =>
          simp only [Bool.not_false, if_true]
          unfold history_Longer_k1
          rw [if_pos rfl, ck_pos hin.1, ck_pos hin.2, ck_pos hin.1, ck_pos (hset _)]
          exact Longer_k2 h true (lng h i.toNat f t)
  · have hb : (decide (0 ≤ i) && decide (i < (h.length : Int))) = false := by
      rw [Bool.eq_false_iff]; intro h; simp at h; exact hin h
    rw [hb, if_neg (by simp), hk1]; rfl

end Go.Proofs.Ytlfpagicagmjgaa
