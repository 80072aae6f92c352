/-
  Layer 2, pure: a history as it was at a moment, the program side.
-/
import Derived.Test.YtlfpagicagmjgaaH3f
namespace Go.Proofs.Ytlfpagicagmjgaa
open Go.RowKit

set_option linter.unusedVariables false
set_option linter.unusedSimpArgs false
set_option maxRecDepth 10000

def begun (m : Int) (c : HC6) : Bool := decide (c.2.2.2.2.1 ≤ m)

def cut (m : Int) (c : HC6) : HC6 := if m < c.2.2.2.2.2 then (c.1, c.2.1, c.2.2.1, 0, c.2.2.2.2.1, 0) else c

theorem those4_eq (h : List HC6) (n : Int) (hl : h.length ≤ 1000) : history_those_4 h n = some (h.filter (begun n)) := by
  unfold history_those_4
  rw [flat_loop (keepIf (begun n)) (keepIf_len _) h hl (fun k x s hk hs hlt hin => ?_) (fun s => by unfold history_those_4_b1; rw [if_neg (by simp)]), flat_keep]; rfl
  unfold history_those_4_b1 keepIf begun
  simp only
  rw [if_pos (by simpa using hlt), ck_pos (by simp), ck_pos (by simpa using hlt), Int.toNat_natCast, getD_of hk]
  show (some ()).bind _ = _
  rw [Option.bind_some]
  cases decide (x.2.2.2.2.1 ≤ n) with
  | true => simp only [if_true]; rw [ck_pos (by omega), ck_pos hin]
  | false => simp only [Bool.false_eq_true, if_false, List.append_nil]; rw [ck_pos hin]

theorem getD_len {α : Type} (p : List α) (a d : α) (s : List α) : (p ++ a :: s).getD p.length d = a := by
  rw [List.getD_eq_getElem?_getD, List.getElem?_append_right (by omega), Nat.sub_self]; rfl

theorem set_len {α : Type} (p : List α) (a b : α) (s : List α) : (p ++ a :: s).set p.length b = p ++ b :: s := by
  rw [List.set_append_right _ _ (by omega), Nat.sub_self]; rfl

theorem until_loop (m : Int) (v : List HC6) (hl : v.length ≤ 1000) : whileO (history_Until_1_b1 m v) (v, 0) = some (v.map (cut m)) := by
  obtain ⟨r, er, hr⟩ := scan2 (R := List HC6) v (fun k (s : List HC6) => s = (v.take k).map (cut m) ++ v.drop k) (fun r => r = v.map (cut m)) (body := history_Until_1_b1 m v) (s0 := v) (by simp) (fun k x s hk hI => by
    obtain ⟨hlt, hin⟩ := few_in (few_of hl) hk
    have hdv : v.drop k = x :: v.drop (k + 1) := by
      rw [List.drop_eq_getElem_cons hlt]
      congr 1
      exact (List.getElem?_eq_some_iff.1 hk).2
    rw [hdv] at hI
    have hpl : ((v.take k).map (cut m)).length = k := by simp; omega
    have hg : s.getD k (0, 0, 0, 0, 0, 0) = x := by
      have := getD_len ((v.take k).map (cut m)) x (0, 0, 0, 0, 0, 0) (v.drop (k + 1))
      rw [hpl, ← hI] at this
      exact this
    have hset : ∀ b, s.set k b = (v.take k).map (cut m) ++ b :: v.drop (k + 1) := fun b => by
      have := set_len ((v.take k).map (cut m)) x b (v.drop (k + 1))
      rw [hpl, ← hI] at this
      exact this
    have hset2 : ∀ b c, (s.set k b).set k c = (v.take k).map (cut m) ++ c :: v.drop (k + 1) := fun b c => by
      rw [hset]
      have := set_len ((v.take k).map (cut m)) b c (v.drop (k + 1))
      rw [hpl] at this
      exact this
    have hgs : ∀ b, (s.set k b).getD k (0, 0, 0, 0, 0, 0) = b := fun b => by
      rw [hset]
      have := getD_len ((v.take k).map (cut m)) b (0, 0, 0, 0, 0, 0) (v.drop (k + 1))
      rw [hpl] at this
      exact this
    have hsl : s.length = v.length := by rw [hI]; simp; omega
    have htk : (v.take (k + 1)).map (cut m) ++ v.drop (k + 1) = (v.take k).map (cut m) ++ cut m x :: v.drop (k + 1) := by rw [take_one hk]; simp
    refine .inl ⟨(v.take k).map (cut m) ++ cut m x :: v.drop (k + 1), ?_, htk.symm⟩
    unfold history_Until_1_b1
    simp only [Int.toNat_natCast, hg]
    rw [if_pos (by simpa using hlt), ck_pos (by simp), ck_pos (by omega)]
    by_cases h1 : m < x.2.2.2.2.2
    · rw [if_pos (by simpa using h1), ck_pos (by simp), ck_pos (by omega), ck_pos (by simp), ck_pos (by rw [List.length_set]; omega), ck_pos hin, hset2, hgs]
      unfold cut; rw [if_pos h1]
    · rw [if_neg (by simpa using h1), ck_pos hin]
      unfold cut; rw [if_neg h1, hI]; rfl) (fun s hI => by
    rw [List.take_length, List.drop_length, List.append_nil] at hI
    unfold history_Until_1_b1
    rw [if_neg (by simp)]
    exact ⟨_, rfl, hI⟩)
  rw [er, hr]

def untilA (h : List HC6) (m : Int) : List HC6 := (h.filter (begun m)).map (cut m)

theorem Until_eq (h : List HC6) (m : Int) (hl : h.length ≤ 1000) : history_Until h m = some (if okH h = true then (if inB 0 m 100 = true then (untilA h m, 0) else ([], 2)) else ([], 20)) := by
  unfold history_Until
  rw [within_eq, Option.bind_some, check_eq, Option.bind_some]
  unfold history_told_14 history_Until_1
  rw [those4_eq h m hl, Option.bind_some, until_loop m _ (Nat.le_trans (List.length_filter_le _ _) hl)]
  show _ = some (if okH h = true then (if (decide (0 ≤ m) && decide (m ≤ 100)) = true then _ else _) else _)
  cases okH h <;> cases (decide (0 ≤ m) && decide (m ≤ 100)) <;> rfl

theorem okC_cut {c : HC6} (h : okC c = true) (m : Int) : okC (cut m c) = true := by
  unfold cut
  split
  · have := okC_from h
    exact okC_mk ⟨by omega, by omega, by omega, by omega, by omega, .inl ⟨rfl, rfl⟩⟩
  · exact h

end Go.Proofs.Ytlfpagicagmjgaa
