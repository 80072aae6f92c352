/-
  Layer 2, pure: HistoryLongers.
-/
import Derived.Test.YtdkdkpenmgkdcaaH2s
namespace Go.Proofs.Ytdkdkpenmgkdcaa
open Go.RowKit

set_option linter.unusedVariables false
set_option linter.unusedSimpArgs false
set_option maxRecDepth 10000

/-! ### A longer call -/

def put5 (c : HC6) (f : Int) : HC6 := (c.1, c.2.1, c.2.2.1, c.2.2.2.1, f, c.2.2.2.2.2)
def put6 (c : HC6) (t : Int) : HC6 := (c.1, c.2.1, c.2.2.1, c.2.2.2.1, c.2.2.2.2.1, t)
def lng (v : List HC6) (i : Nat) (f t : Int) : List HC6 := (v.set i (put5 (v.getD i (0, 0, 0, 0, 0, 0)) f)).set i (put6 ((v.set i (put5 (v.getD i (0, 0, 0, 0, 0, 0)) f)).getD i (0, 0, 0, 0, 0, 0)) t)

def lngA (h : List HC6) (b : Bool) (L : List HC6) : List HC6 × Int := if okH h = true then (if (b && okH L) = true then (L, 0) else ([], 2)) else ([], 20)

theorem Longer_k2 (h : List HC6) (b : Bool) (L : List HC6) : history_Longer_k2 h b L = some (lngA h b L) := by
  unfold history_Longer_k2 lngA
  rw [HValid_eq, Option.bind_some, check_eq, Option.bind_some, check_eq, Option.bind_some]
  cases b <;> cases okH L <;> cases okH h <;> rfl

theorem rLonger_tail (L : List HC6) : ((linealref02_Valid L).bind fun v => if (!v) = true then some ([], (2 : Int)) else some (L, 0)) = some (if okH L = true then (L, 0) else ([], 2)) := by
  rw [rHValid_eq, Option.bind_some]
  cases okH L <;> rfl

theorem Longer_both (h : List HC6) (i f t : Int) (hl : h.length ≤ 40) : ∃ b L, history_Longer h i f t = some (lngA h b L) ∧ linealref02_Longer h i f t = some (lngA h b L) := by
  unfold history_Longer linealref02_Longer
  have hC : slices_Clone h = some h := by unfold slices_Clone; rw [ck_pos (by omega)]
  have hI : InK .i64 ((h.length : Int) - 1) := by rw [inK_i64]; omega
  rw [hC, Option.bind_some, rHValid_eq, Option.bind_some, rwithin_eq, Option.bind_some]
  simp only [ck_pos hI]
  have hi : history_isIndex h i = some (decide (0 ≤ i) && decide (i < (h.length : Int))) := by
    unfold history_isIndex
    by_cases h0 : 0 ≤ i <;> simp [h0]
  have hw : (decide (0 ≤ i) && decide (i ≤ (h.length : Int) - 1)) = (decide (0 ≤ i) && decide (i < (h.length : Int))) := by
    congr 1; exact decide_eq_decide.2 ⟨fun h => by omega, fun h => by omega⟩
  rw [hi, Option.bind_some, hw]
  have hk1 : history_Longer_k1 h i f t h false = some (lngA h false h) := by
    unfold history_Longer_k1; rw [if_neg (by simp), Longer_k2]
  have hnot : ∀ L, lngA h false L = if okH h = true then ([], 2) else ([], 20) := fun L => by unfold lngA; cases okH h <;> rfl
  by_cases hin : 0 ≤ i ∧ i < (h.length : Int)
  · have hb : (decide (0 ≤ i) && decide (i < (h.length : Int))) = true := by simp; exact hin
    rw [hb]
    have hset : ∀ b : HC6, i < (((h.set i.toNat b).length : Nat) : Int) := fun b => by rw [List.length_set]; exact hin.2
    have hbytes : h.length * 48 ≤ 140737488355328 := by omega
    simp only [if_true, Bool.not_true, Bool.false_eq_true, if_false, ck_pos hin.1, ck_pos hin.2, ck_pos hbytes, ck_pos (hset _)]
    by_cases h1 : (h.getD i.toNat (0, 0, 0, 0, 0, 0)).2.2.2.2.2 = 0
    · have e1 := decide_eq_true h1
      refine ⟨false, h, ?_, ?_⟩
      · rw [e1, if_neg (by simp), hk1]
      · rw [e1, hnot, if_pos rfl]; cases okH h <;> rfl
    · have e1 := decide_eq_false h1
      by_cases h2 : f ≤ (h.getD i.toNat (0, 0, 0, 0, 0, 0)).2.2.2.2.1
      · have e2 := decide_eq_true h2
        have e2' : decide ((h.getD i.toNat (0, 0, 0, 0, 0, 0)).2.2.2.2.1 < f) = false := decide_eq_false (by omega)
        by_cases h3 : (h.getD i.toNat (0, 0, 0, 0, 0, 0)).2.2.2.2.2 ≤ t
        · have e3 := decide_eq_true h3
          have e3' : decide (t < (h.getD i.toNat (0, 0, 0, 0, 0, 0)).2.2.2.2.2) = false := decide_eq_false (by omega)
          refine ⟨true, lng h i.toNat f t, ?_, ?_⟩
          · rw [e1, e2, e3]
            simp only [Bool.not_false, if_true]
            unfold history_Longer_k1
            rw [if_pos rfl, ck_pos hin.1, ck_pos hin.2, ck_pos hin.1, ck_pos (hset _)]
            exact Longer_k2 h true (lng h i.toNat f t)
          · rw [e1, e2', e3']
            simp only [Bool.false_eq_true, if_false]
            have ht := rLonger_tail (lng h i.toNat f t)
            cases hok : okH h with
            | false => simp [lngA, hok]
            | true =>
              simp only [Bool.not_true, Bool.false_eq_true, if_false]
              refine Eq.trans ht ?_
              simp [lngA, hok]
        · have e3 := decide_eq_false h3
          have e3' : decide (t < (h.getD i.toNat (0, 0, 0, 0, 0, 0)).2.2.2.2.2) = true := decide_eq_true (by omega)
          refine ⟨false, h, ?_, ?_⟩
          · rw [e1, e2, e3]
            simp only [Bool.not_false, if_true, hk1]
          · rw [e1, e2', e3', hnot]
            cases okH h <;> rfl
      · have e2 := decide_eq_false h2
        have e2' : decide ((h.getD i.toNat (0, 0, 0, 0, 0, 0)).2.2.2.2.1 < f) = true := decide_eq_true (by omega)
        refine ⟨false, h, ?_, ?_⟩
        · rw [e1, e2]
          simp only [Bool.not_false, if_true, Bool.false_eq_true, if_false, hk1]
        · rw [e1, e2', hnot]
          cases okH h <;> rfl
  · have hb : (decide (0 ≤ i) && decide (i < (h.length : Int))) = false := by
      rw [Bool.eq_false_iff]; intro h; simp at h; exact hin h
    rw [hb]
    refine ⟨false, h, ?_, ?_⟩
    · rw [if_neg (by simp), hk1]
    · rw [hnot]; cases okH h <;> rfl

theorem HistoryLongers_eq (h : List HC6) (i : Int) (p : Int × Int) : lineallaw02_HistoryLongers h i p = some true := by
  unfold lineallaw02_HistoryLongers
  rw [Long_eq2, Option.bind_some]
  by_cases hl : 40 < h.length
  · rw [if_pos (by simp; omega), Sane_eq]; rfl
  obtain ⟨b, L, e1, e2⟩ := Longer_both h i p.1 p.2 (by omega)
  rw [if_neg (by simp; omega), e1, Option.bind_some, e2, Option.bind_some]
  have : linealref02_Same (lngA h b L).1 (lngA h b L).1 = some true := by
    refine Same_self _ (fun c hc => ?_) ?_
    · unfold lngA at hc
      cases hok : okH h with
      | false => rw [hok] at hc; simp at hc
      | true =>
        cases hL : okH L with
        | false => rw [hok, hL] at hc; simp at hc
        | true =>
          cases b with
          | false => rw [hok] at hc; simp at hc
          | true => rw [hok, hL] at hc; exact okH_mem hL hc
    · unfold lngA
      cases hok : okH h with
      | false => simp
      | true =>
        cases hL : okH L with
        | false => cases b <;> simp
        | true =>
          have := okH_len hL
          cases b <;> simp; omega
  rw [this, Option.bind_some, if_pos rfl, if_pos (by simp), Sane_eq]; rfl

end Go.Proofs.Ytdkdkpenmgkdcaa
