/-
  Layer 2, pure: HistoryParts.
-/
import Derived.Test.YtdkdkpenmgkdcaaH2s
namespace Go.Proofs.Ytdkdkpenmgkdcaa
open Go.RowKit

set_option linter.unusedVariables false
set_option linter.unusedSimpArgs false
set_option maxRecDepth 10000

theorem flat_loop (g : HC6 → List HC6) (hg : ∀ c, (g c).length ≤ 1) (h : List HC6) (hl : h.length ≤ 1000) {body : List HC6 × Int → Option (Step (List HC6 × Int) (List HC6))}
    (hb : ∀ (k : Nat) (x : HC6) (s : List HC6), h[k]? = some x → s.length ≤ 1000 → k < h.length → InK .i64 ((k : Int) + 1) → body (s, (k : Int)) = some (.next (s ++ g x, (k : Int) + 1))) (hd : ∀ s, body (s, (h.length : Int)) = some (.done s)) : whileO body ([], 0) = some (h.flatMap g) := by
  have hfl : ∀ l : List HC6, (l.flatMap g).length ≤ l.length := by
    intro l
    induction l with
    | nil => simp
    | cons a r ih => have := hg a; simp only [List.flatMap_cons, List.length_append, List.length_cons]; omega
  obtain ⟨r, er, hr⟩ := scan2 (R := List HC6) h (fun k (s : List HC6) => s = (h.take k).flatMap g) (fun r => r = h.flatMap g) (body := body) (s0 := []) (by simp) (fun k x s hk hI => by
    obtain ⟨hlt, hin⟩ := few_in (few_of hl) hk
    have hsl : s.length ≤ 1000 := by rw [hI]; have := hfl (h.take k); rw [List.length_take] at this; omega
    refine .inl ⟨_, hb k x s hk hsl hlt hin, ?_⟩
    rw [take_one hk, List.flatMap_append, hI]; simp) (fun s hI => ⟨_, hd s, by rw [hI, List.take_length]⟩)
  rw [er, hr]

def keepIf (p : HC6 → Bool) (c : HC6) : List HC6 := if p c = true then [c] else []
theorem keepIf_len (p : HC6 → Bool) (c : HC6) : (keepIf p c).length ≤ 1 := by unfold keepIf; split <;> simp
theorem flat_keep (p : HC6 → Bool) : ∀ h : List HC6, h.flatMap (keepIf p) = h.filter p
  | [] => rfl
  | c :: r => by
    rw [List.flatMap_cons, flat_keep p r, List.filter_cons]
    unfold keepIf
    cases p c <;> rfl

def isObj (n : Int) (c : HC6) : Bool := decide (c.2.1 = n)
def isThr (n : Int) (c : HC6) : Bool := decide (c.1 = n)
def begun (m : Int) (c : HC6) : Bool := decide (c.2.2.2.2.1 ≤ m)
def cut (m : Int) (c : HC6) : HC6 := if m < c.2.2.2.2.2 then (c.1, c.2.1, c.2.2.1, 0, c.2.2.2.2.1, 0) else c

theorem those2_eq (h : List HC6) (n : Int) (hl : h.length ≤ 1000) : history_those_2 h n = some (h.filter (isObj n)) := by
  unfold history_those_2
  rw [flat_loop (keepIf (isObj n)) (keepIf_len _) h hl (fun k x s hk hs hlt hin => ?_) (fun s => by unfold history_those_2_b1; rw [if_neg (by simp)]), flat_keep]; rfl
  unfold history_those_2_b1 keepIf isObj
  simp only
  rw [if_pos (by simpa using hlt), ck_pos (by simp), ck_pos (by simpa using hlt), Int.toNat_natCast, getD_of hk]
  show (some ()).bind _ = _
  rw [Option.bind_some]
  cases decide (x.2.1 = n) with
  | true => simp only [if_true]; rw [ck_pos (by omega), ck_pos hin]
  | false => simp only [Bool.false_eq_true, if_false, List.append_nil]; rw [ck_pos hin]

theorem those3_eq (h : List HC6) (n : Int) (hl : h.length ≤ 1000) : history_those_3 h n = some (h.filter (isThr n)) := by
  unfold history_those_3
  rw [flat_loop (keepIf (isThr n)) (keepIf_len _) h hl (fun k x s hk hs hlt hin => ?_) (fun s => by unfold history_those_3_b1; rw [if_neg (by simp)]), flat_keep]; rfl
  unfold history_those_3_b1 keepIf isThr
  simp only
  rw [if_pos (by simpa using hlt), ck_pos (by simp), ck_pos (by simpa using hlt), Int.toNat_natCast, getD_of hk]
  show (some ()).bind _ = _
  rw [Option.bind_some]
  cases decide (x.1 = n) with
  | true => simp only [if_true]; rw [ck_pos (by omega), ck_pos hin]
  | false => simp only [Bool.false_eq_true, if_false, List.append_nil]; rw [ck_pos hin]

theorem those4_eq (h : List HC6) (n : Int) (hl : h.length ≤ 1000) : history_those_4 h n = some (h.filter (begun n)) := by
  unfold history_those_4
  rw [flat_loop (keepIf (begun n)) (keepIf_len _) h hl (fun k x s hk hs hlt hin => ?_) (fun s => by unfold history_those_4_b1; rw [if_neg (by simp)]), flat_keep]; rfl
  unfold history_those_4_b1 keepIf begun
  simp only
  rw [if_pos (by simpa using hlt), ck_pos (by simp), ck_pos (by simpa using hlt), Int.toNat_natCast, getD_of hk]
  show (some ()).bind _ = _
  rw [Option.bind_some]
  cases decide (x.2.2.2.2.1 ≤ n) with
  | true => simp only [if_true]; rw [ck_pos (by omega), ck_pos hin]
  | false => simp only [Bool.false_eq_true, if_false, List.append_nil]; rw [ck_pos hin]

theorem Of_eq (h : List HC6) (n : Int) (hl : h.length ≤ 1000) : history_Of h n = some (if okH h = true then (if inB 0 n 1 = true then (h.filter (isObj n), 0) else ([], 2)) else ([], 20)) := by
  unfold history_Of
  rw [within_eq, Option.bind_some, check_eq, Option.bind_some]
  unfold history_told_12 history_Of_1
  rw [those2_eq h n hl]
  show _ = some (if okH h = true then (if (decide (0 ≤ n) && decide (n ≤ 1)) = true then _ else _) else _)
  cases okH h <;> cases (decide (0 ≤ n) && decide (n ≤ 1)) <;> rfl

theorem rOf_eq (h : List HC6) (n : Int) (hl : h.length ≤ 1000) : linealref02_Of h n = some (if okH h = true then (if inB 0 n 1 = true then (h.filter (isObj n), 0) else ([], 2)) else ([], 20)) := by
  unfold linealref02_Of
  rw [rHValid_eq, Option.bind_some, rwithin_eq, Option.bind_some]
  rw [flat_loop (keepIf (isObj n)) (keepIf_len _) h hl (fun k x s hk hs hlt hin => ?_) (fun s => by unfold linealref02_Of_b1; rw [if_neg (by simp)]), flat_keep]
  · show _ = some (if okH h = true then (if (decide (0 ≤ n) && decide (n ≤ 1)) = true then _ else _) else _)
    cases okH h <;> cases (decide (0 ≤ n) && decide (n ≤ 1)) <;> rfl
  · unfold linealref02_Of_b1 keepIf isObj
    simp only
    rw [if_pos (by simpa using hlt), ck_pos (by simp), ck_pos (by simpa using hlt), Int.toNat_natCast, getD_of hk]
    cases decide (x.2.1 = n) with
    | true => simp only [if_true]; rw [ck_pos (by simp), ck_pos (by omega), ck_pos (by omega), ck_pos hin]
    | false => simp only [Bool.false_eq_true, if_false, List.append_nil]; rw [ck_pos hin]

theorem By_eq (h : List HC6) (n : Int) (hl : h.length ≤ 1000) : history_By h n = some (if okH h = true then (if inB 0 n 3 = true then (h.filter (isThr n), 0) else ([], 2)) else ([], 20)) := by
  unfold history_By
  rw [within_eq, Option.bind_some, check_eq, Option.bind_some]
  unfold history_told_13 history_By_1
  rw [those3_eq h n hl]
  show _ = some (if okH h = true then (if (decide (0 ≤ n) && decide (n ≤ 3)) = true then _ else _) else _)
  cases okH h <;> cases (decide (0 ≤ n) && decide (n ≤ 3)) <;> rfl

theorem rBy_eq (h : List HC6) (n : Int) (hl : h.length ≤ 1000) : linealref02_By h n = some (if okH h = true then (if inB 0 n 3 = true then (h.filter (isThr n), 0) else ([], 2)) else ([], 20)) := by
  unfold linealref02_By
  rw [rHValid_eq, Option.bind_some, rwithin_eq, Option.bind_some]
  rw [flat_loop (keepIf (isThr n)) (keepIf_len _) h hl (fun k x s hk hs hlt hin => ?_) (fun s => by unfold linealref02_By_b1; rw [if_neg (by simp)]), flat_keep]
  · show _ = some (if okH h = true then (if (decide (0 ≤ n) && decide (n ≤ 3)) = true then _ else _) else _)
    cases okH h <;> cases (decide (0 ≤ n) && decide (n ≤ 3)) <;> rfl
  · unfold linealref02_By_b1 keepIf isThr
    simp only
    rw [if_pos (by simpa using hlt), ck_pos (by simp), ck_pos (by simpa using hlt), Int.toNat_natCast, getD_of hk]
    cases decide (x.1 = n) with
    | true => simp only [if_true]; rw [ck_pos (by simp), ck_pos (by omega), ck_pos (by omega), ck_pos hin]
    | false => simp only [Bool.false_eq_true, if_false, List.append_nil]; rw [ck_pos hin]

theorem getD_len {α : Type} (p : List α) (a d : α) (s : List α) : (p ++ a :: s).getD p.length d = a := by
  rw [List.getD_eq_getElem?_getD, List.getElem?_append_right (by omega), Nat.sub_self]; rfl
theorem set_len {α : Type} (p : List α) (a b : α) (s : List α) : (p ++ a :: s).set p.length b = p ++ b :: s := by
  rw [List.set_append_right _ _ (by omega), Nat.sub_self]; rfl

theorem until_loop (m : Int) (v : List HC6) (hl : v.length ≤ 1000) : whileO (history_Until_1_b1 m v) (v, 0) = some (v.map (cut m)) := by
  obtain ⟨r, er, hr⟩ := scan2 (R := List HC6) v (fun k (s : List HC6) => s = (v.take k).map (cut m) ++ v.drop k) (fun r => r = v.map (cut m)) (body := history_Until_1_b1 m v) (s0 := v) (by simp) (fun k x s hk hI => by
    obtain ⟨hlt, hin⟩ := few_in (few_of hl) hk
    have hdv : v.drop k = x :: v.drop (k + 1) := by
      rw [List.drop_eq_getElem_cons hlt]
      congr 1
      exact (List.getElem?_eq_some_iff.1 hk).2
    rw [hdv] at hI
    have hpl : ((v.take k).map (cut m)).length = k := by simp; omega
    have hg : s.getD k (0, 0, 0, 0, 0, 0) = x := by
      have := getD_len ((v.take k).map (cut m)) x (0, 0, 0, 0, 0, 0) (v.drop (k + 1))
      rw [hpl, ← hI] at this
      exact this
    have hset : ∀ b, s.set k b = (v.take k).map (cut m) ++ b :: v.drop (k + 1) := fun b => by
      have := set_len ((v.take k).map (cut m)) x b (v.drop (k + 1))
      rw [hpl, ← hI] at this
      exact this
    have hset2 : ∀ b c, (s.set k b).set k c = (v.take k).map (cut m) ++ c :: v.drop (k + 1) := fun b c => by
      rw [hset]
      have := set_len ((v.take k).map (cut m)) b c (v.drop (k + 1))
      rw [hpl] at this
      exact this
    have hgs : ∀ b, (s.set k b).getD k (0, 0, 0, 0, 0, 0) = b := fun b => by
      rw [hset]
      have := getD_len ((v.take k).map (cut m)) b (0, 0, 0, 0, 0, 0) (v.drop (k + 1))
      rw [hpl] at this
      exact this
    have hsl : s.length = v.length := by rw [hI]; simp; omega
    have htk : (v.take (k + 1)).map (cut m) ++ v.drop (k + 1) = (v.take k).map (cut m) ++ cut m x :: v.drop (k + 1) := by rw [take_one hk]; simp
    refine .inl ⟨(v.take k).map (cut m) ++ cut m x :: v.drop (k + 1), ?_, htk.symm⟩
    unfold history_Until_1_b1
    simp only [Int.toNat_natCast, hg]
    rw [if_pos (by simpa using hlt), ck_pos (by simp), ck_pos (by omega)]
    by_cases h1 : m < x.2.2.2.2.2
    · rw [if_pos (by simpa using h1), ck_pos (by simp), ck_pos (by omega), ck_pos (by simp), ck_pos (by rw [List.length_set]; omega), ck_pos hin, hset2, hgs]
      unfold cut; rw [if_pos h1]
    · rw [if_neg (by simpa using h1), ck_pos hin]
      unfold cut; rw [if_neg h1, hI]; rfl) (fun s hI => by
    rw [List.take_length, List.drop_length, List.append_nil] at hI
    unfold history_Until_1_b1
    rw [if_neg (by simp)]
    exact ⟨_, rfl, hI⟩)
  rw [er, hr]

def untilA (h : List HC6) (m : Int) : List HC6 := (h.filter (begun m)).map (cut m)

theorem Until_eq (h : List HC6) (m : Int) (hl : h.length ≤ 1000) : history_Until h m = some (if okH h = true then (if inB 0 m 100 = true then (untilA h m, 0) else ([], 2)) else ([], 20)) := by
  unfold history_Until
  rw [within_eq, Option.bind_some, check_eq, Option.bind_some]
  unfold history_told_14 history_Until_1
  rw [those4_eq h m hl, Option.bind_some, until_loop m _ (Nat.le_trans (List.length_filter_le _ _) hl)]
  show _ = some (if okH h = true then (if (decide (0 ≤ m) && decide (m ≤ 100)) = true then _ else _) else _)
  cases okH h <;> cases (decide (0 ≤ m) && decide (m ≤ 100)) <;> rfl

def utl (m : Int) (c : HC6) : List HC6 := if m < c.2.2.2.2.1 then [] else [cut m c]
theorem utl_flat (m : Int) : ∀ h : List HC6, h.flatMap (utl m) = untilA h m
  | [] => rfl
  | c :: r => by
    have ih := utl_flat m r
    unfold untilA at ih ⊢
    rw [List.flatMap_cons, ih, List.filter_cons]
    unfold utl begun
    by_cases h1 : m < c.2.2.2.2.1
    · have h2 : decide (c.2.2.2.2.1 ≤ m) = false := by simp; omega
      rw [if_pos h1, h2]; rfl
    · have h2 : decide (c.2.2.2.2.1 ≤ m) = true := by simp; omega
      rw [if_neg h1, h2]; rfl

theorem rUntil_eq (h : List HC6) (m : Int) (hl : h.length ≤ 1000) : linealref02_Until h m = some (if okH h = true then (if inB 0 m 100 = true then (untilA h m, 0) else ([], 2)) else ([], 20)) := by
  unfold linealref02_Until
  rw [rHValid_eq, Option.bind_some, rwithin_eq, Option.bind_some]
  rw [flat_loop (utl m) (fun c => by unfold utl; split <;> simp) h hl (fun k x s hk hs hlt hin => ?_) (fun s => by unfold linealref02_Until_b1; rw [if_neg (by simp)]), utl_flat]
  · show _ = some (if okH h = true then (if (decide (0 ≤ m) && decide (m ≤ 100)) = true then _ else _) else _)
    cases okH h <;> cases (decide (0 ≤ m) && decide (m ≤ 100)) <;> rfl
  · unfold linealref02_Until_b1 utl cut
    simp only
    rw [if_pos (by simpa using hlt), ck_pos (by simp), ck_pos (by simpa using hlt), Int.toNat_natCast, getD_of hk]
    by_cases h1 : m < x.2.2.2.2.1
    · rw [if_pos (by simpa using h1), ck_pos hin, if_pos h1, List.append_nil]
    · rw [if_neg (by simpa using h1), if_neg h1]
      by_cases h2 : m < x.2.2.2.2.2
      · rw [if_pos (by simpa using h2), ck_pos (by omega), ck_pos hin, if_pos h2]
      · rw [if_neg (by simpa using h2), ck_pos (by omega), ck_pos hin, if_neg h2]

theorem okC_cut {c : HC6} (h : okC c = true) (m : Int) : okC (cut m c) = true := by
  unfold cut
  split
  · have := okC_from h
    exact okC_mk ⟨by omega, by omega, by omega, by omega, by omega, .inl ⟨rfl, rfl⟩⟩
  · exact h

theorem Same_if (h : List HC6) (b : Bool) (x : List HC6) (e1 e2 : Int) (hx : okH h = true → ∀ c ∈ x, okC c = true) (hl : x.length ≤ 1000) : linealref02_Same (if okH h = true then (if b = true then (x, (0 : Int)) else ([], e1)) else ([], e2)).1 (if okH h = true then (if b = true then (x, (0 : Int)) else ([], e1)) else ([], e2)).1 = some true := by
  refine Same_self _ (fun c hc => ?_) ?_
  · cases hok : okH h with
    | false => rw [hok] at hc; simp at hc
    | true =>
      rw [hok] at hc
      cases b with
      | false => simp at hc
      | true => exact hx hok c hc
  · cases okH h <;> cases b <;> first | simp; done | exact hl

theorem HistoryParts_eq (h : List HC6) (n m : Int) : lineallaw02_HistoryParts h n m = some true := by
  unfold lineallaw02_HistoryParts
  rw [Long_eq2, Option.bind_some]
  by_cases hl : 40 < h.length
  · rw [if_pos (by simp; omega), Sane_eq]; rfl
  have hl' : h.length ≤ 1000 := by omega
  have hfl : ∀ p : HC6 → Bool, (h.filter p).length ≤ 1000 := fun p => Nat.le_trans (List.length_filter_le _ _) hl'
  rw [if_neg (by simp; omega), Of_eq h n hl', Option.bind_some, rOf_eq h n hl', Option.bind_some, Same_if h _ _ _ _ (fun hok c hc => okH_mem hok (List.mem_filter.1 hc).1) (hfl _), Option.bind_some, if_neg (by simp), if_neg (by simp)]
  rw [By_eq h n hl', Option.bind_some, rBy_eq h n hl', Option.bind_some, Until_eq h m hl', Option.bind_some, rUntil_eq h m hl', Option.bind_some]
  rw [Same_if h _ _ _ _ (fun hok c hc => okH_mem hok (List.mem_filter.1 hc).1) (hfl _), Option.bind_some, if_pos rfl, if_pos (by simp)]
  rw [Same_if h _ _ _ _ (fun hok c hc => by
    unfold untilA at hc
    obtain ⟨d, hd, rfl⟩ := List.mem_map.1 hc
    exact okC_cut (okH_mem hok (List.mem_filter.1 hd).1) m) (by unfold untilA; rw [List.length_map]; exact hfl _), Option.bind_some, if_pos rfl, if_pos (by simp), Sane_eq]; rfl

end Go.Proofs.Ytdkdkpenmgkdcaa
