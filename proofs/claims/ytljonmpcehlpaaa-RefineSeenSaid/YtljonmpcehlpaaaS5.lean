/-
  Layer 5, pure: all short traces; the law about traces.
-/
import Derived.Test.YtljonmpcehlpaaaRdr
import Derived.Test.YtljonmpcehlpaaaRtw
import Derived.Test.YtljonmpcehlpaaaS4
namespace Go.Proofs.Ytljonmpcehlpaaa
open Go.RowKit

set_option linter.unusedVariables false
set_option linter.unusedSectionVars false
set_option linter.unusedSimpArgs false

theorem refInts_eq (a b : List Int) (h : a.length ≤ maxLen) : linealref05_SameInts a b = some (decide (a = b)) := by
  unfold linealref05_SameInts
  by_cases hl : a.length = b.length
  · have hz : (a.zip b).length = a.length := by simp [hl]
    rw [if_neg (by simp [hl]), whileO_all (a.zip b) (fun q => decide (q.1 = q.2)) (fun k x hk => ?_) ?_]
    · rw [all_zip_eq a b hl]
      by_cases e : a = b <;> simp [e, linealref05_SameInts_k1]
    · rw [hz]; unfold linealref05_SameInts_b1; rw [if_neg (by simp)]
    · obtain ⟨h1, h2⟩ := List.getElem?_zip_eq_some.1 hk
      have hlt := (List.getElem?_eq_some_iff.1 h1).1
      have hlt2 := (List.getElem?_eq_some_iff.1 h2).1
      unfold linealref05_SameInts_b1
      rw [if_pos (by simpa using hlt), ck_pos (by omega), ck_pos (by omega), ck_pos (by omega), ck_pos (by omega), Int.toNat_natCast, getD_of h1, getD_of h2]
      by_cases e : x.1 = x.2
      · simp [e, ck_pos (inK_nat hlt h)]
      · simp [e]
  · rw [if_pos (by simp; omega)]
    have : ¬ a = b := fun e => hl (by rw [e])
    simp [this]

def okL (l : List (List Int)) : Prop := l.length ≤ maxLen ∧ ∀ r ∈ l, r.length ≤ maxLen

theorem refLists_eq (a b : List (List Int)) (ha : okL a) : linealref05_SameLists a b = some (decide (a = b)) := by
  unfold linealref05_SameLists
  by_cases hl : a.length = b.length
  · have hz : (a.zip b).length = a.length := by simp [hl]
    rw [if_neg (by simp [hl]), whileO_all (a.zip b) (fun q => decide (q.1 = q.2)) (fun k x hk => ?_) ?_]
    · rw [all_zip_eq a b hl]
      by_cases e : a = b <;> simp [e, linealref05_SameLists_k1]
    · rw [hz]; unfold linealref05_SameLists_b1; rw [if_neg (by simp)]
    · obtain ⟨h1, h2⟩ := List.getElem?_zip_eq_some.1 hk
      have hlt := (List.getElem?_eq_some_iff.1 h1).1
      have hlt2 := (List.getElem?_eq_some_iff.1 h2).1
      unfold linealref05_SameLists_b1
      rw [if_pos (by simpa using hlt), ck_pos (by omega), ck_pos (by omega), ck_pos (by omega), ck_pos (by omega), Int.toNat_natCast, getD_of h1, getD_of h2, refInts_eq _ _ (ha.2 _ (List.mem_of_getElem? h1)), Option.bind_some]
      by_cases e : x.1 = x.2
      · simp [e, ck_pos (inK_nat hlt ha.1)]
      · simp [e]
  · rw [if_pos (by simp; omega)]
    have : ¬ a = b := fun e => hl (by rw [e])
    simp [this]

theorem while4 {S R : Type} {body : S → Option (Step S R)} {s0 s1 s2 s3 : S} {r : R} (h0 : body s0 = some (.next s1)) (h1 : body s1 = some (.next s2)) (h2 : body s2 = some (.next s3)) (h3 : body s3 = some (.done r)) : whileO body s0 = some r :=
  whileO_of (n := 4) (by simp [whileN, h0, h1, h2, h3])

theorem longer_eq (xs : List Int) (o : Int) (h : xs.length ≤ 1000000) : refine_longer xs o = some (xs ++ [o]) := by
  unfold refine_longer slices_Clone
  rw [ck_pos (by omega), Option.bind_some, ck_pos (by omega)]

theorem frameOf_eq (s : Sys) (hs : okZ s) : ∃ T, refine_frameOf s = some (if validB s = true then (s.1, s.2, T, 0) else (0, [], T, 50)) ∧ (validB s = true → Frm s T) := by
  unfold refine_frameOf
  rw [Valid_eq s hs, Option.bind_some]
  cases h : validB s
  · exact ⟨Ty.dflt T69, rfl, fun h => by cases h⟩
  · obtain ⟨T, e, hT⟩ := frame_tab (okS_valid h)
    refine ⟨T, ?_, fun _ => hT⟩
    rw [if_neg (by simp), e, if_pos rfl]

/-! ### Traces -/

def seenB (l : Int) : Bool := decide (0 < l ∧ l ≤ 3)
def isTrOf (s : Sys) (tr : List Int) : Bool × Int := if validB s = true then (if 1000 < (tr.length : Int) then (false, 2) else if tr.all seenB = true then (!decide (behM s tr = 0), 0) else (false, 2)) else (false, 50)

theorem unseen_eq (tr : List Int) (hl : tr.length ≤ 1000) : slices_ContainsFunc tr = some (!tr.all seenB) := by
  obtain ⟨r, e1, h⟩ := scan1 (R := Sum Int Unit) tr (fun k => ∀ j y, j < k → tr[j]? = some y → seenB y = true) (fun r => match r with | .inl i => 0 ≤ i ∧ tr.all seenB = false | .inr _ => tr.all seenB = true) (body := slices_IndexFunc_b1 tr) (fun j y hj => by omega)
    (fun k y hy hI => by
      have hlt := (List.getElem?_eq_some_iff.1 hy).1
      have hm := List.mem_of_getElem? hy
      have ki : InK .i64 ((k : Int) + 1) := by rw [inK_i64]; omega
      have e0 : tr.getD k 0 = y := getD_of hy
      have hu : refine_IsTrace_1 y = some (!seenB y) := by
        unfold refine_IsTrace_1
        rw [isSeen_eq, Option.bind_some]; rfl
      cases h : seenB y with
      | false =>
        refine .inr ⟨.inl (k : Int), ?_, by omega, ?_⟩
        · unfold slices_IndexFunc_b1
          simp only [Int.toNat_natCast, e0]
          rw [if_pos (by rw [decide_eq_true_eq]; omega), ck_pos (by omega), ck_pos (by omega), hu, Option.bind_some, h]
          rfl
        · cases ha : tr.all seenB with
          | false => rfl
          | true => rw [List.all_eq_true.1 ha y hm] at h; cases h
      | true =>
        refine .inl ⟨?_, fun j x hj hx => ?_⟩
        · unfold slices_IndexFunc_b1
          simp only [Int.toNat_natCast, e0]
          rw [if_pos (by rw [decide_eq_true_eq]; omega), ck_pos (by omega), ck_pos (by omega), hu, Option.bind_some, h, ck_pos ki]
          rfl
        · rcases Nat.lt_succ_iff_lt_or_eq.1 hj with hj | hj
          · exact hI j x hj hx
          · subst hj
            rw [hy] at hx
            have := Option.some.inj hx
            subst this
            exact h)
    (fun hI => by
      refine ⟨.inr (), ?_, ?_⟩
      · unfold slices_IndexFunc_b1
        rw [if_neg (by rw [decide_eq_true_eq]; omega)]
      · show tr.all seenB = true
        rw [List.all_eq_true]
        intro y hy
        obtain ⟨j, hj⟩ := List.getElem?_of_mem hy
        exact hI j y (List.getElem?_eq_some_iff.1 hj).1 hj)
  unfold slices_ContainsFunc slices_IndexFunc
  rw [e1, Option.bind_some]
  cases r with
  | inl i => simp only at h; simp only [Option.bind_some]; simp [h.1, h.2]
  | inr u => simp only at h; unfold slices_IndexFunc_k1; simp only [Option.bind_some]; simp [h]

theorem IsTrace_eq (s : Sys) (hs : okZ s) (tr : List Int) : refine_IsTrace s tr = some (isTrOf s tr) := by
  obtain ⟨T, e, hT⟩ := frameOf_eq s hs
  unfold refine_IsTrace isTrOf
  rw [e, Option.bind_some]
  cases h : validB s
  · rfl
  rw [if_pos rfl, if_pos rfl]
  simp only [decide_true, Bool.not_true, Bool.false_eq_true, if_false]
  by_cases hl : 1000 < (tr.length : Int)
  · rw [if_pos (by simpa using hl), if_pos hl]
  rw [if_neg (by simpa using hl), if_neg hl, unseen_eq tr (by omega), Option.bind_some]
  cases ha : tr.all seenB
  · rfl
  rw [if_pos rfl]
  simp only [Bool.not_true, Bool.false_eq_true, if_false]
  have := isTrace_eq (okS_valid h) (hT h) tr (by omega) (fun l hl => of_decide_eq_true (List.all_eq_true.1 ha l hl))
  have this' : refine_frame_isTrace ((s.1, s.2), T) tr = some (!decide (behM s tr = 0)) := this
  rw [this', Option.bind_some]

theorem refIsTrace_eq (s : Sys) (hs : okZ s) (tr : List Int) (hl : tr.length ≤ 17592186044416) : linealref05_IsTrace s tr = some (isTrOf s tr) := by
  unfold linealref05_IsTrace isTrOf
  rw [refValid_eq s hs, Option.bind_some]
  cases h : validB s
  · rfl
  rw [if_neg (by simp), if_pos rfl]
  have hloop := whileO_all (body := linealref05_IsTrace_b1 tr) tr seenB (fun k l hk => by
    obtain ⟨hlt, ki⟩ := few_in (xs := tr) hl hk
    have hu : linealref05_IsSeen l = some (seenB l) := by
      unfold linealref05_IsSeen seenB
      by_cases h1 : 1 ≤ l
      · rw [if_pos (by simpa using h1)]
        have : 0 < l := by omega
        simp [this]
      · rw [if_neg (by simpa using h1)]
        have : ¬ 0 < l := by omega
        simp [this]
    unfold linealref05_IsTrace_b1
    simp only [Int.toNat_natCast, getD_of hk]
    rw [if_pos (by rw [decide_eq_true_eq]; omega), ck_pos (by omega), ck_pos (by omega), hu, Option.bind_some, ck_pos ki]
    cases seenB l <;> rfl) (by
    unfold linealref05_IsTrace_b1
    rw [if_neg (by rw [decide_eq_true_eq]; omega)])
  rw [hloop, Option.bind_some]
  cases ha : tr.all seenB
  · simp
  · simp only [if_true]
    unfold linealref05_IsTrace_k1
    by_cases h1 : 1000 < (tr.length : Int)
    · rw [if_pos (by simpa using h1), if_pos h1]
    · rw [if_neg (by simpa using h1), if_neg h1, refbehind_eq (okS_valid h) tr hl, Option.bind_some]
      congr 3
      rw [decide_eq_decide]
      omega

/-- All traces that begin so, of at most so many further labels. -/
def trL (s : Sys) : Nat → List Int → Nat → List (List Int)
  | 0, tr, _ => [tr]
  | k + 1, tr, m => tr :: ((if coM s m 1 = 0 then [] else trL s k (tr ++ [1]) (coM s m 1)) ++ ((if coM s m 2 = 0 then [] else trL s k (tr ++ [2]) (coM s m 2)) ++ (if coM s m 3 = 0 then [] else trL s k (tr ++ [3]) (coM s m 3))))
def trS (s : Sys) (k : Nat) (tr : List Int) (m : Nat) (l : Int) : List (List Int) := if coM s m l = 0 then [] else trL s k (tr ++ [l]) (coM s m l)
theorem trL_succ (s : Sys) (k : Nat) (tr : List Int) (m : Nat) : trL s (k + 1) tr m = tr :: (trS s k tr m 1 ++ (trS s k tr m 2 ++ trS s k tr m 3)) := rfl

theorem trL_len (s : Sys) : ∀ (k : Nat) (tr : List Int) (m : Nat), (trL s k tr m).length ≤ 4 ^ k
  | 0, tr, m => by simp [trL]
  | k + 1, tr, m => by
    have h : ∀ l, (trS s k tr m l).length ≤ 4 ^ k := fun l => by
      unfold trS
      split
      · simp
      · exact trL_len s k _ _
    have h1 := h 1
    have h2 := h 2
    have h3 := h 3
    have h4 : 1 ≤ 4 ^ k := Nat.pow_pos (by omega)
    rw [trL_succ, List.length_cons, List.length_append, List.length_append, Nat.pow_succ]
    omega

theorem trS_len (s : Sys) (k : Nat) (tr : List Int) (m : Nat) (l : Int) : (trS s k tr m l).length ≤ 4 ^ k := by
  unfold trS
  split
  · simp
  · exact trL_len s k _ _

theorem trL_wl (s : Sys) : ∀ (k : Nat) (tr : List Int) (m : Nat), ∀ r ∈ trL s k tr m, r.length ≤ tr.length + k
  | 0, tr, m, r, h => by simp [trL] at h; subst h; omega
  | k + 1, tr, m, r, h => by
    have hs : ∀ l, ∀ r ∈ trS s k tr m l, r.length ≤ tr.length + (k + 1) := fun l r hr => by
      unfold trS at hr
      split at hr
      · simp at hr
      · have := trL_wl s k _ _ r hr
        simp at this; omega
    rw [trL_succ] at h
    rcases List.mem_cons.1 h with h | h
    · subst h; omega
    · rcases List.mem_append.1 h with h | h
      · exact hs 1 r h
      · rcases List.mem_append.1 h with h | h
        · exact hs 2 r h
        · exact hs 3 r h

section
variable {s : Sys} (hv : OkS s)
include hv

theorem tr_go {T : El T69} (hT : Frm s T) : ∀ (k n : Nat) (tr : List Int) (m : Nat) (most : Int) (acc : List (List Int)), k + 1 ≤ n → (tr.length : Int) + k = most → tr.length + k ≤ 100 → acc.length + 4 ^ k ≤ 100000 → m < 2 ^ s.1.toNat →
    refine_frame_traces_1_2 n tr (m : Int) most (s, T) acc = some (acc ++ trL s k tr m) := by
  intro k
  induction k with
  | zero =>
    intro n tr m most acc hn hmost htr hacc hm
    obtain ⟨n, rfl⟩ : ∃ n', n = n' + 1 := ⟨n - 1, by omega⟩
    show refine_frame_traces_1_2F (refine_frame_traces_1_2 n) tr (m : Int) most (s, T) acc = _
    unfold refine_frame_traces_1_2F
    rw [ck_pos (by omega), if_pos (by rw [decide_eq_true_eq]; omega)]
    rfl
  | succ k ih =>
    intro n tr m most acc hn hmost htr hacc hm
    obtain ⟨n, rfl⟩ : ∃ n', n = n' + 1 := ⟨n - 1, by omega⟩
    have h4 : 1 ≤ 4 ^ k := Nat.pow_pos (by omega)
    rw [Nat.pow_succ] at hacc
    have step : ∀ (l : Int) (A : List (List Int)), 1 ≤ l → l ≤ 3 → A.length + 4 ^ k ≤ 100000 → refine_frame_traces_1_2_b1 (refine_frame_traces_1_2 n) tr (m : Int) most (s, T) (A, l) = some (.next (A ++ trS s k tr m l, l + 1)) := fun l A h1 h3 hA => by
      have ki : InK .i64 (l + 1) := by rw [inK_i64]; omega
      unfold refine_frame_traces_1_2_b1
      simp only [ck_pos ki]
      rw [if_pos (by rw [decide_eq_true_eq]; exact h3), after_eq hv hT hm (by omega) h3, Option.bind_some]
      unfold trS
      by_cases h0 : coM s m l = 0
      · rw [if_neg (by simp [h0]), if_pos h0, List.append_nil]
      · rw [if_pos (by simp; omega), if_neg h0, longer_eq tr l (by omega), Option.bind_some, ih n (tr ++ [l]) (coM s m l) most A (by omega) (by simp; omega) (by simp; omega) hA (coM_lt hv hm l), Option.bind_some]
    have fin : ∀ A, refine_frame_traces_1_2_b1 (refine_frame_traces_1_2 n) tr (m : Int) most (s, T) (A, 4) = some (.done A) := fun A => by
      unfold refine_frame_traces_1_2_b1
      rw [if_neg (by simp)]
    have l1 := trS_len s k tr m 1
    have l2 := trS_len s k tr m 2
    have s1 := step 1 (acc ++ [tr]) (by omega) (by omega) (by simp; omega)
    have s2 := step 2 (acc ++ [tr] ++ trS s k tr m 1) (by omega) (by omega) (by simp; omega)
    have s3 := step 3 (acc ++ [tr] ++ trS s k tr m 1 ++ trS s k tr m 2) (by omega) (by omega) (by simp; omega)
    have hw := while4 s1 s2 s3 (fin _)
    show refine_frame_traces_1_2F (refine_frame_traces_1_2 n) tr (m : Int) most (s, T) acc = _
    unfold refine_frame_traces_1_2F
    rw [ck_pos (by omega), if_neg (by rw [decide_eq_true_eq]; omega), hw, Option.bind_some, trL_succ]
    simp

theorem traces_eq {T : El T69} (hT : Frm s T) {k : Nat} (hk : k ≤ 5) : refine_frame_traces (s, T) (k : Int) = some (trL s k [] (begM s)) := by
  have hm := begM_lt hv
  have h45 : 4 ^ k ≤ 4 ^ 5 := Nat.pow_le_pow_right (by omega) hk
  unfold refine_frame_traces refine_frame_begin
  rw [Option.bind_some]
  simp only
  rw [beg_eq hv hT]
  have main : refine_frame_traces_1 [] ((begM s : Nat) : Int) (k : Int) (s, T) = some (trL s k [] (begM s)) := by
    unfold refine_frame_traces_1
    cases k with
    | zero => rw [if_pos (by simp)]; rfl
    | succ k =>
      rw [if_neg (by simp; omega)]
      have h4 : 1 ≤ 4 ^ k := Nat.pow_pos (by omega)
      have h44 : 4 ^ k ≤ 1024 := Nat.le_trans (Nat.pow_le_pow_right (by omega) (by omega : k ≤ 5)) (by decide)
      have step : ∀ (l : Int) (A : List (List Int)), 1 ≤ l → l ≤ 3 → A.length + 4 ^ k ≤ 100000 → refine_frame_traces_1_b1 [] ((begM s : Nat) : Int) ((k + 1 : Nat) : Int) (s, T) (A, l) = some (.next (A ++ trS s k [] (begM s) l, l + 1)) := fun l A h1 h3 hA => by
        have ki : InK .i64 (l + 1) := by rw [inK_i64]; omega
        unfold refine_frame_traces_1_b1
        simp only [ck_pos ki]
        rw [if_pos (by rw [decide_eq_true_eq]; exact h3), after_eq hv hT hm (by omega) h3, Option.bind_some]
        unfold trS
        by_cases h0 : coM s (begM s) l = 0
        · rw [if_neg (by simp [h0]), if_pos h0, List.append_nil]
        · rw [if_pos (by simp; omega), if_neg h0, longer_eq [] l (by simp), Option.bind_some, tr_go hv hT k fuel ([] ++ [l]) (coM s (begM s) l) _ A (by unfold fuel; omega) (by simp; omega) (by simp; omega) hA (coM_lt hv hm l), Option.bind_some]
      have fin : ∀ A, refine_frame_traces_1_b1 [] ((begM s : Nat) : Int) ((k + 1 : Nat) : Int) (s, T) (A, 4) = some (.done A) := fun A => by
        unfold refine_frame_traces_1_b1
        rw [if_neg (by simp)]
      have l1 := trS_len s k [] (begM s) 1
      have l2 := trS_len s k [] (begM s) 2
      have s1 := step 1 [[]] (by omega) (by omega) (by simp; omega)
      have s2 := step 2 ([[]] ++ trS s k [] (begM s) 1) (by omega) (by omega) (by simp; omega)
      have s3 := step 3 ([[]] ++ trS s k [] (begM s) 1 ++ trS s k [] (begM s) 2) (by omega) (by omega) (by simp; omega)
      have hw := while4 s1 s2 s3 (fin _)
      rw [hw, Option.bind_some, trL_succ]
      simp
  rw [main, Option.bind_some]

theorem ref_go : ∀ (k n : Nat) (begin : List Int), k + 1 ≤ n → begin.length + k ≤ 100 → k ≤ 5 → linealref05_traces n s begin (k : Int) = some (if behM s begin = 0 then [] else trL s k begin (behM s begin)) := by
  intro k
  induction k with
  | zero =>
    intro n begin hn hb hk
    obtain ⟨n, rfl⟩ : ∃ n', n = n' + 1 := ⟨n - 1, by omega⟩
    show linealref05_tracesF (linealref05_traces n) s begin 0 = _
    unfold linealref05_tracesF
    rw [refbehind_eq hv begin (by omega), Option.bind_some]
    by_cases h0 : behM s begin = 0
    · rw [if_pos (by simp [h0]), if_pos h0]
    · rw [if_neg (by simp; omega), if_neg h0]
      have h1 : linealref05_traces_b1 (linealref05_traces n) s begin 0 ([begin], 1) = some (.done [begin]) := by
        unfold linealref05_traces_b1
        rw [if_pos (by simp), if_neg (by simp)]
      have hw : whileO (linealref05_traces_b1 (linealref05_traces n) s begin 0) ([begin], 1) = some [begin] := whileO_of (n := 1) (by simp [whileN, h1])
      rw [hw, Option.bind_some]
      rfl
  | succ k ih =>
    intro n begin hn hb hk
    obtain ⟨n, rfl⟩ : ∃ n', n = n' + 1 := ⟨n - 1, by omega⟩
    have h4 : 1 ≤ 4 ^ k := Nat.pow_pos (by omega)
    have h44 : 4 ^ k ≤ 1024 := Nat.le_trans (Nat.pow_le_pow_right (by omega) (by omega : k ≤ 5)) (by decide)
    have step : ∀ (l : Int) (A : List (List Int)), 1 ≤ l → l ≤ 3 → A.length ≤ 10000 → linealref05_traces_b1 (linealref05_traces n) s begin ((k + 1 : Nat) : Int) (A, l) = some (.next (A ++ trS s k begin (behM s begin) l, l + 1)) := fun l A h1 h3 hA => by
      have ki : InK .i64 (l + 1) := by rw [inK_i64]; omega
      have km : InK .i64 (((k + 1 : Nat) : Int) - 1) := by rw [inK_i64]; omega
      have e : ((k + 1 : Nat) : Int) - 1 = (k : Int) := by omega
      have hl := trS_len s k begin (behM s begin) l
      have hi : linealref05_traces n s (begin ++ [l]) (k : Int) = some (trS s k begin (behM s begin) l) := by
        rw [ih n (begin ++ [l]) (by omega) (by simp; omega) (by omega), behM_snoc hv]
        rfl
      unfold linealref05_traces_b1
      have kk : InK .i64 (k : Int) := by rw [inK_i64]; omega
      simp only [e]
      simp only [ck_pos ki, ck_pos kk]
      rw [if_pos (by rw [decide_eq_true_eq]; exact h3), if_pos (by rw [decide_eq_true_eq]; omega), ck_pos (by omega), ck_pos (by omega), hi, Option.bind_some, ck_pos (show (A.length + (trS s k begin (behM s begin) l).length) * 24 ≤ 140737488355328 by omega)]
    have fin : ∀ A, linealref05_traces_b1 (linealref05_traces n) s begin ((k + 1 : Nat) : Int) (A, 4) = some (.done A) := fun A => by
      unfold linealref05_traces_b1
      rw [if_neg (by simp)]
    show linealref05_tracesF (linealref05_traces n) s begin ((k + 1 : Nat) : Int) = _
    unfold linealref05_tracesF
    rw [refbehind_eq hv begin (by omega), Option.bind_some]
    by_cases h0 : behM s begin = 0
    · rw [if_pos (by simp [h0]), if_pos h0]
    · rw [if_neg (by simp; omega), if_neg h0]
      have l1 := trS_len s k begin (behM s begin) 1
      have l2 := trS_len s k begin (behM s begin) 2
      have s1 := step 1 [begin] (by omega) (by omega) (by simp)
      have s2 := step 2 ([begin] ++ trS s k begin (behM s begin) 1) (by omega) (by omega) (by simp; omega)
      have s3 := step 3 ([begin] ++ trS s k begin (behM s begin) 1 ++ trS s k begin (behM s begin) 2) (by omega) (by omega) (by simp; omega)
      have hw := while4 s1 s2 s3 (fin _)
      rw [hw, Option.bind_some, trL_succ]
      unfold linealref05_traces_k1
      simp

/-- The state 0 is always there. -/
theorem beg_ne : begM s ≠ 0 := fun h => by
  have : (begM s).testBit 0 = true := quM_sub hv 1 0 (by decide)
  rw [h] at this
  simp at this

end

def tracesOf (s : Sys) (most : Int) : List (List Int) × Int := if validB s = true then (if most < 0 then ([], 2) else if 5 < most then ([], 2) else (trL s most.toNat [] (begM s), 0)) else ([], 50)

theorem Traces_eq (s : Sys) (hs : okZ s) (most : Int) : refine_Traces s most = some (tracesOf s most) := by
  obtain ⟨T, e, hT⟩ := frameOf_eq s hs
  unfold refine_Traces tracesOf
  rw [e, Option.bind_some]
  cases h : validB s
  · rfl
  rw [if_pos rfl, if_pos rfl]
  simp only [decide_true, Bool.not_true, Bool.false_eq_true, if_false]
  by_cases h0 : most < 0
  · rw [if_pos (by simpa using h0), if_pos h0]
  rw [if_neg (by simpa using h0), if_neg h0]
  by_cases h5 : 5 < most
  · rw [if_pos (by simpa using h5), if_pos h5]
  rw [if_neg (by simpa using h5), if_neg h5]
  obtain ⟨k, rfl⟩ := Int.eq_ofNat_of_zero_le (show 0 ≤ most by omega)
  have := traces_eq (okS_valid h) (hT h) (k := k) (by omega)
  have this' : refine_frame_traces ((s.1, s.2), T) (k : Int) = some (trL s k [] (begM s)) := this
  rw [this', Option.bind_some, Int.toNat_natCast]

theorem refTraces_eq (s : Sys) (hs : okZ s) (most : Int) : linealref05_Traces s most = some (tracesOf s most) := by
  unfold linealref05_Traces tracesOf
  rw [refValid_eq s hs, Option.bind_some]
  cases h : validB s
  · rfl
  rw [if_neg (by simp), if_pos rfl]
  by_cases h0 : most < 0
  · rw [if_pos (by simpa using h0), if_pos h0]
  rw [if_neg (by simpa using h0), if_neg h0]
  by_cases h5 : 5 < most
  · rw [if_pos (by simpa using h5), if_pos h5]
  rw [if_neg (by simpa using h5), if_neg h5]
  obtain ⟨k, rfl⟩ := Int.eq_ofNat_of_zero_le (show 0 ≤ most by omega)
  rw [ref_go (okS_valid h) k fuel [] (by unfold fuel; omega) (by simp; omega) (by omega), Option.bind_some, Int.toNat_natCast, if_neg (show ¬ behM s [] = 0 from beg_ne (okS_valid h))]
  rfl

theorem tracesOf_ok (s : Sys) (most : Int) : okL (tracesOf s most).1 := by
  have e0 : okL ([] : List (List Int)) := ⟨by simp, fun r h => by simp at h⟩
  unfold tracesOf
  split
  · split
    · exact e0
    · split
      · exact e0
      · have h1 := trL_len s most.toNat [] (begM s)
        have h2 : 4 ^ most.toNat ≤ 4 ^ 5 := Nat.pow_le_pow_right (by omega) (by omega)
        refine ⟨by rw [maxLen_num]; simp only; omega, fun r hr => ?_⟩
        have := trL_wl s most.toNat [] (begM s) r hr
        rw [maxLen_num]
        simp at this
        omega
  · exact e0

theorem okZ_of {s : Sys} (h : okEl (.pair (.int .i64) (.sl (.pair (.int .i64) (.pair (.int .i64) (.int .i64))))) s) : okZ s := by
  refine ⟨?_, fun z hz => ?_⟩
  · have h1 : s.2.length * 24 ≤ 140737488351232 := h.2.1
    omega
  · have := h.2.2.2 z hz
    exact ⟨this.1, this.2.1, this.2.2⟩

theorem eqb_ne (b : Bool) : ((b == b) != false) = true := by cases b <;> rfl

/-- The law holds. -/
theorem RefineTraces_eq (s : Sys) (hs : okEl (.pair (.int .i64) (.sl (.pair (.int .i64) (.pair (.int .i64) (.int .i64))))) s) (tr : List Int) (hl : tr.length ≤ maxLen) (most : Int) : lineallaw05_RefineTraces s tr most = some true := by
  have hz := okZ_of hs
  unfold lineallaw05_RefineTraces lineallaw05_Long
  rw [Option.bind_some, lineallaw05_Awake_run]
  by_cases h1 : 100 < (s.2.length : Int)
  · rw [if_pos (by simpa using h1)]; rfl
  rw [if_neg (by simpa using h1)]
  by_cases h2 : 1100 < (tr.length : Int)
  · rw [if_pos (by simpa using h2)]; rfl
  rw [if_neg (by simpa using h2), IsTrace_eq s hz, Option.bind_some, refIsTrace_eq s hz tr (by omega), Option.bind_some, Traces_eq s hz, Option.bind_some, refTraces_eq s hz, Option.bind_some, eqb_ne, if_pos rfl, if_pos (by simp), refLists_eq _ _ (tracesOf_ok s most), Option.bind_some, if_pos (by simp), if_pos (by simp)]
  rfl
end Go.Proofs.Ytljonmpcehlpaaa
