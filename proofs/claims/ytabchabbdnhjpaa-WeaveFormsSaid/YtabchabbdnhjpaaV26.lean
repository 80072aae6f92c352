/-
  Layer 3, pure: the reference's size of a class; WeaveForms answers true.
-/
import Derived.Test.YtabchabbdnhjpaaV24
import Derived.Test.YtabchabbdnhjpaaV25
namespace Go.Proofs.Ytabchabbdnhjpaa
open Go.RowKit

set_option linter.unusedVariables false
set_option linter.unusedSimpArgs false
set_option linter.unusedSectionVars false
set_option maxRecDepth 10000

/-! ### What is in front of each occurrence -/

def msk (l : Ltr) (w : List Int) (i : Nat) : Nat → Nat
  | 0 => 0
  | k + 1 => if dep l (wAt w i) (wAt w k) = true then msk l w i k ||| 2 ^ k else msk l w i k
theorem msk_lt (l : Ltr) (w : List Int) (i : Nat) : ∀ k, msk l w i k < 2 ^ k
  | 0 => by simp [msk]
  | k + 1 => by
    unfold msk
    have h := msk_lt l w i k
    have h1 : 2 ^ k < 2 ^ (k + 1) := Nat.pow_lt_pow_right (by omega) (by omega)
    split
    · exact Nat.or_lt_two_pow (by omega) h1
    · omega
theorem msk_bit (l : Ltr) (w : List Int) (i : Nat) : ∀ k j, (msk l w i k).testBit j = (decide (j < k) && dep l (wAt w i) (wAt w j))
  | 0, j => by simp [msk]
  | k + 1, j => by
    have ih := msk_bit l w i k j
    unfold msk
    by_cases e : j = k
    · subst e
      split
      · rename_i h; rw [Nat.testBit_or, Nat.testBit_two_pow, h]; simp
      · rename_i h; rw [ih]; simp at h; simp [h]
    · have h1 : decide (j < k + 1) = decide (j < k) := decide_eq_decide.2 (by omega)
      rw [h1, ← ih]
      split
      · rw [Nat.testBit_or, Nat.testBit_two_pow]
        have : decide (k = j) = false := by rw [decide_eq_false_iff_not]; exact Ne.symm e
        rw [this, Bool.or_false]
      · rfl
theorem msk_frees {l : Ltr} {w : List Int} {S i : Nat} (hS : S < 2 ^ 62) (hi : i < 62) : (cut S i &&& msk l w i i = msk l w i i) ↔ frees l w S i = true := by
  rw [frees_iff]
  constructor
  · intro h k hk hd
    have := congrArg (fun x => Nat.testBit x k) h
    simp only [Nat.testBit_and, msk_bit, hd, cut_bit hS hi] at this
    have e : decide (k < i) = true := by simpa using hk
    rw [e] at this
    simp at this
    exact this.1
  · intro h
    refine Nat.eq_of_testBit_eq fun k => ?_
    rw [Nat.testBit_and, msk_bit, cut_bit hS hi]
    by_cases hk : k < i
    · cases hd : dep l (wAt w i) (wAt w k) with
      | false => simp
      | true => rw [h k hk hd]; simp [hk]; omega
    · simp [hk]

section
variable {l : Ltr} (hf : few l.2) {w : List Int} (hwl : w.length ≤ 10)
include hf hwl

theorem ahead_in (A : List Int) (hA : A.length = w.length) {i : Nat} (hi : i < w.length) (h0 : A.getD i 0 = 0) :
    whileO (linealref03_sizes_b2 l w (A, (i : Int))) (A, 0) = some (A.set i ((msk l w i i : Nat) : Int)) := by
  have hset : A.set i 0 = A := by
    refine List.ext_getElem? fun j => ?_
    rw [List.getElem?_set]
    by_cases e : i = j
    · subst e
      rw [if_pos rfl, if_pos (by omega)]
      rw [getD_of (List.getElem?_eq_getElem (by omega))] at h0
      rw [List.getElem?_eq_getElem (by omega), h0]
    · rw [if_neg e]
  have p2 : ∀ k, k ≤ 10 → (2 : Nat) ^ k ≤ 1024 := fun k hk => by
    have := Nat.pow_le_pow_right (n := 2) (by omega) hk
    simpa using this
  have key := whileO_iter (body := linealref03_sizes_b2 l w (A, (i : Int))) (fun (s : List Int) (k : Int) => (s, k)) i (fun k s => s.set i ((msk l w i (k + 1) : Nat) : Int)) id (fun k s => s = A.set i ((msk l w i k : Nat) : Int)) (s0 := A) (by simp [msk, hset])
    (fun k s hk hs => by
      have hsl : s.length = w.length := by rw [hs, List.length_set]; exact hA
      have hg : s.getD i 0 = ((msk l w i k : Nat) : Int) := by rw [hs, getD_sets (by omega), if_pos rfl]
      have hm := msk_lt l w i k
      have := p2 k (by omega)
      refine ⟨?_, by rw [hs, List.set_set]⟩
      unfold linealref03_sizes_b2
      simp only [Int.toNat_natCast]
      rw [if_pos (by rw [decide_eq_true_eq]; omega), ck_pos (by omega), ck_pos (by omega), ck_pos (by omega), ck_pos (by omega), depend_eq l _ _ hf, Option.bind_some]
      have e1 : w.getD i 0 = wAt w i := rfl
      have e2 : w.getD k 0 = wAt w k := rfl
      rw [e1, e2]
      cases hd : dep l (wAt w i) (wAt w k) with
      | true =>
        rw [if_pos rfl, ck_pos (by omega), ck_pos (by omega), ck_pos (by omega), ck_pos (by omega), ck_pos (by omega), ck_pos (by rw [inK_i64]; omega), hg, ishl_nat (by omega), ior_nat (by omega) (by omega)]
        have : msk l w i (k + 1) = msk l w i k ||| 2 ^ k := by rw [msk, if_pos hd]
        rw [this]
      | false =>
        rw [if_neg (by simp), ck_pos (by rw [inK_i64]; omega)]
        have : msk l w i (k + 1) = msk l w i k := by rw [msk, if_neg (by simp [hd])]
        rw [this, hs, List.set_set])
    (fun s hs => by
      unfold linealref03_sizes_b2
      rw [if_neg (by simp)]
      rfl)
  obtain ⟨k1, k2⟩ := key
  have k1' : whileO (linealref03_sizes_b2 l w (A, (i : Int))) (A, 0) = some _ := k1
  rw [k1']
  exact congrArg some k2

theorem ahead_out : ∃ A : List Int, whileO (linealref03_sizes_b1 l w) ((List.replicate w.length (0 : Int)), 0) = some A ∧ A.length = w.length ∧ ∀ i, i < w.length → A.getD i 0 = ((msk l w i i : Nat) : Int) := by
  have key := whileO_iter (body := linealref03_sizes_b1 l w) (fun (s : List Int) (k : Int) => (s, k)) w.length (fun k s => s.set k ((msk l w k k : Nat) : Int)) id
    (fun k s => s.length = w.length ∧ (∀ i, i < k → s.getD i 0 = ((msk l w i i : Nat) : Int)) ∧ ∀ i, k ≤ i → s.getD i 0 = 0) (s0 := List.replicate w.length (0 : Int)) ⟨by simp, fun i hi => absurd hi (Nat.not_lt_zero i), fun i _ => by simp [List.getD, List.getElem?_replicate]; split <;> rfl⟩
    (fun k s hk hp => by
      obtain ⟨p1, p2, p3⟩ := hp
      refine ⟨?_, by simpa using p1, fun i hi => ?_, fun i hi => ?_⟩
      · unfold linealref03_sizes_b1
        simp only
        rw [if_pos (by rw [decide_eq_true_eq]; omega), ahead_in hf hwl s p1 hk (p3 k (Nat.le_refl k)), Option.bind_some]
        unfold linealref03_sizes_k2
        simp only
        rw [ck_pos (by rw [inK_i64]; omega)]
      · rw [getD_sets (by omega)]
        by_cases e : i = k
        · subst e; rw [if_pos rfl]
        · rw [if_neg e]; exact p2 i (by omega)
      · rw [getD_sets (by omega), if_neg (by omega)]; exact p3 i (by omega))
    (fun s hp => by
      unfold linealref03_sizes_b1
      rw [if_neg (by simp)]
      rfl)
  obtain ⟨k1, k2, k3, _⟩ := key
  exact ⟨_, k1, k2, k3⟩

variable (hw6 : ∀ x ∈ w, 0 ≤ x ∧ x < 6) {A : List Int} (hA : A.length = w.length) (hAm : ∀ i, i < w.length → A.getD i 0 = ((msk l w i i : Nat) : Int))
include hw6 hA hAm

theorem ways_in_loop {S : Nat} (hS : S < 2 ^ w.length) (h0 : 0 < S) (W : List Int) (hW : W.length = 2 ^ w.length) (hlt : ∀ T, T < S → W.getD T 0 = ways l w T) (hz : W.getD S 0 = 0) :
    whileO (linealref03_sizes_b4 w A (W, (S : Int))) (W, 0) = some (W.set S (ways l w S)) := by
  have h62 : 2 ^ w.length ≤ 1024 := by
    have := Nat.pow_le_pow_right (n := 2) (by omega) hwl
    simpa using this
  have part : ∀ k, k ≤ 10 → 0 ≤ ((List.range k).map (term l w S)).sum ∧ ((List.range k).map (term l w S)).sum ≤ k * 60466176 := fun k hk => by
    have := sum_le (term l w S) 60466176 (List.range k) fun i _ => term_in hwl S i
    simpa using this
  have key := whileO_iter (body := linealref03_sizes_b4 w A (W, (S : Int))) (fun (s : List Int) (k : Int) => (s, k)) w.length (fun k s => s.set S ((List.range (k + 1)).map (term l w S)).sum) id (fun k s => s = W.set S ((List.range k).map (term l w S)).sum) (s0 := W) (by
      refine List.ext_getElem? fun j => ?_
      rw [List.getElem?_set]
      by_cases e : S = j
      · subst e
        rw [if_pos rfl, if_pos (by omega)]
        rw [getD_of (List.getElem?_eq_getElem (by omega))] at hz
        rw [List.getElem?_eq_getElem (by omega), hz]; rfl
      · rw [if_neg e])
    (fun k s hk hs => by
      have hsl : s.length = 2 ^ w.length := by rw [hs, List.length_set]; exact hW
      have hgS : s.getD S 0 = ((List.range k).map (term l w S)).sum := by rw [hs, getD_sets (by omega), if_pos rfl]
      have hr : ((List.range (k + 1)).map (term l w S)).sum = ((List.range k).map (term l w S)).sum + term l w S k := by rw [List.range_succ, List.map_append, List.sum_append]; simp
      have hcut := cut_le S k
      have hpk := part k (by omega)
      have hti := term_in (l := l) hwl S k
      have hmk := msk_lt l w k k
      have hp2 : 2 ^ k < 2 ^ 62 := Nat.pow_lt_pow_right (by omega) (by omega)
      refine ⟨?_, by rw [hs, List.set_set]⟩
      unfold linealref03_sizes_b4
      simp only [Int.toNat_natCast]
      rw [if_pos (by rw [decide_eq_true_eq]; omega), ck_pos (by omega), ishl_nat (by omega), iandn_nat (by omega) (by omega)]
      simp only [hAm k hk]
      by_cases hb : S.testBit k = true
      · have hne : cut S k ≠ S := fun e => by rw [cut_eq (by omega) (by omega), hb] at e; cases e
        rw [if_pos (by simp only [Bool.not_eq_true', decide_eq_false_iff_not]; omega), ck_pos (by omega), ck_pos (by omega), ck_pos (by omega), ck_pos (by omega), iand_nat (by omega) (by omega)]
        by_cases hfr : frees l w S k = true
        · have hm := (msk_frees (l := l) (w := w) (S := S) (i := k) (by omega) (by omega)).2 hfr
          have hgc : s.getD (cut S k) 0 = ways l w (cut S k) := by rw [hs, getD_sets (by omega), if_neg hne]; exact hlt _ (by omega)
          have htk : term l w S k = ways l w (cut S k) := by unfold term; rw [if_pos ⟨hb, hfr⟩]
          rw [if_pos (by rw [hm]; simp)]
          simp only [Int.toNat_natCast]
          rw [ck_pos (by omega), ck_pos (by omega), ck_pos (by omega), ck_pos (by omega)]
          simp only [hgS, hgc, ← htk, ← hr]
          rw [ck_pos (by rw [inK_i64, hr]; omega), ck_pos (by omega), ck_pos (by omega), ck_pos (by rw [inK_i64]; omega)]
        · have hm : ¬ (cut S k &&& msk l w k k = msk l w k k) := fun e => hfr ((msk_frees (by omega) (by omega)).1 e)
          rw [if_neg (by rw [decide_eq_true_eq]; intro e; exact hm (by exact_mod_cast e)), ck_pos (by rw [inK_i64]; omega)]
          have htk : term l w S k = 0 := by unfold term; rw [if_neg fun e => hfr e.2]
          rw [hr, htk, Int.add_zero, hs, List.set_set]
      · have hb' : S.testBit k = false := by simpa using hb
        have e : cut S k = S := (cut_eq (by omega) (by omega)).2 hb'
        rw [e, if_neg (by simp), ck_pos (by rw [inK_i64]; omega)]
        have htk : term l w S k = 0 := by unfold term; rw [if_neg fun e => hb e.1]
        rw [hr, htk, Int.add_zero, hs, List.set_set])
    (fun s hs => by
      unfold linealref03_sizes_b4
      rw [if_neg (by simp)]
      rfl)
  obtain ⟨k1, k2⟩ := key
  have k1' : whileO (linealref03_sizes_b4 w A (W, (S : Int))) (W, 0) = some _ := k1
  rw [k1', ways_sum hwl hw6 hS (by omega)]
  exact congrArg some k2

theorem ways_out : ∃ W : List Int, whileO (linealref03_sizes_b3 w A) (((List.replicate (2 ^ w.length) (0 : Int)).set 0 1), 1) = some W ∧ W.length = 2 ^ w.length ∧ ∀ T, T < 2 ^ w.length → W.getD T 0 = ways l w T := by
  have hpos : 0 < 2 ^ w.length := Nat.pow_pos (by omega)
  have h62 : 2 ^ w.length ≤ 1024 := by
    have := Nat.pow_le_pow_right (n := 2) (by omega) hwl
    simpa using this
  have key := whileO_iter (body := linealref03_sizes_b3 w A) (fun (s : List Int) (k : Int) => (s, k + 1)) (2 ^ w.length - 1) (fun k s => s.set (k + 1) (ways l w (k + 1))) id
    (fun k s => s.length = 2 ^ w.length ∧ (∀ T, T ≤ k → T < 2 ^ w.length → s.getD T 0 = ways l w T) ∧ ∀ T, k < T → s.getD T 0 = 0) (s0 := (List.replicate (2 ^ w.length) (0 : Int)).set 0 1) ⟨by simp, fun T hT _ => by
      have : T = 0 := by omega
      subst this
      rw [getD_sets (by simpa using hpos), if_pos rfl, ways_zero], fun T hT => by
      rw [getD_sets (by simpa using hpos), if_neg (by omega)]
      simp [List.getD, List.getElem?_replicate]; split <;> rfl⟩
    (fun k s hk hp => by
      obtain ⟨p1, p2, p3⟩ := hp
      have ek : ((k : Int) + 1) = ((k + 1 : Nat) : Int) := by omega
      refine ⟨?_, by simpa using p1, fun T hT hTl => ?_, fun T hT => ?_⟩
      · unfold linealref03_sizes_b3
        simp only
        rw [if_pos (by rw [decide_eq_true_eq, p1]; omega), ek, ways_in_loop hf hwl hw6 hA hAm (S := k + 1) (by omega) (by omega) s p1 (fun T hT => p2 T (by omega) (by omega)) (p3 _ (by omega)), Option.bind_some]
        unfold linealref03_sizes_k4
        simp only
        rw [ck_pos (by rw [inK_i64]; omega)]
      · rw [getD_sets (by omega)]
        by_cases e : T = k + 1
        · subst e; rw [if_pos rfl]
        · rw [if_neg e]; exact p2 T (by omega) hTl
      · rw [getD_sets (by omega), if_neg (by omega)]; exact p3 T (by omega))
    (fun s hp => by
      unfold linealref03_sizes_b3
      simp only
      rw [if_neg (by rw [decide_eq_true_eq, hp.1]; omega)]
      rfl)
  obtain ⟨k1, k2, k3, _⟩ := key
  exact ⟨_, k1, k2, fun T hT => k3 T (by omega) hT⟩
end

theorem sizes_eq {l : Ltr} (hl : okL l = true) (hf : few l.2) {w : List Int} (hw : isWd l w = true) : linealref03_sizes l w = some (cntW l w) := by
  have hwl := isWd_len hw
  have h62 : 2 ^ w.length ≤ 1024 := by
    have := Nat.pow_le_pow_right (n := 2) (by omega) hwl
    simpa using this
  have hpos : 0 < 2 ^ w.length := Nat.pow_pos (by omega)
  obtain ⟨A, a1, a2, a3⟩ := ahead_out hf hwl
  obtain ⟨W, w1, w2, w3⟩ := ways_out hf hwl (isWd_six hl hw) a2 a3
  unfold linealref03_sizes
  rw [ck_pos (by omega), a1, Option.bind_some]
  unfold linealref03_sizes_k1
  rw [ishl_nat (by omega), Int.toNat_natCast]
  generalize hN : 2 ^ w.length = N at *
  rw [ck_pos (by omega), ck_pos (by omega), ck_pos (by rw [List.length_replicate]; omega), w1, Option.bind_some]
  unfold linealref03_sizes_k3
  have e1 : ((W.length : Int) - 1).toNat = N - 1 := by omega
  rw [ck_pos (by rw [inK_i64]; omega), ck_pos (by omega), ck_pos (by omega), e1, w3 _ (by omega), ← hN, ways_full hl hw]

/-! ### The law -/

section
variable {l : Ltr} (hf : few l.2) {w : List Int} (hw : w.length ≤ 60)
include hf hw

theorem rSize_eq : linealref03_Size l w = some (if errW l [w] = 0 then (cntW l w, 0) else (0, errW l [w])) := by
  unfold linealref03_Size
  rw [asked_eq l w [] hf (few_of hw) (few_of (n := 0) (by simp)), Option.bind_some, errW_nil]
  by_cases e : errW l [w] = 0
  · obtain ⟨g1, g2⟩ := errW_ok e
    rw [if_neg (by simp [e]), if_pos e, sizes_eq g1 hf (g2 w (by simp)), Option.bind_some]
  · rw [if_pos (by simp [e]), if_neg e]
theorem rFirst_eq : linealref03_First l w = some (if errW l [w] = 0 then (FF l w, 0) else ([], errW l [w])) := by
  unfold linealref03_First
  rw [asked_eq l w [] hf (few_of hw) (few_of (n := 0) (by simp)), Option.bind_some, errW_nil]
  by_cases e : errW l [w] = 0
  · obtain ⟨g1, g2⟩ := errW_ok e
    rw [if_neg (by simp [e]), if_pos e, FirstForm_eq g1 hf (g2 w (by simp)), Option.bind_some]
  · rw [if_pos (by simp [e]), if_neg e]
theorem rStarts_eq : linealref03_Starts l w = some (if errW l [w] = 0 then ((startsL l w).map (·.1), 0) else ([], errW l [w])) := by
  unfold linealref03_Starts
  rw [asked_eq l w [] hf (few_of hw) (few_of (n := 0) (by simp)), Option.bind_some, errW_nil]
  by_cases e : errW l [w] = 0
  · obtain ⟨g1, g2⟩ := errW_ok e
    rw [if_neg (by simp [e]), if_pos e, rstarts_eq g1 hf (g2 w (by simp)), Option.bind_some]
  · rw [if_pos (by simp [e]), if_neg e]
theorem rTurned_eq : linealref03_Turned l w = some (if errW l [w] = 0 then (FF l w.reverse, 0) else ([], errW l [w])) := by
  unfold linealref03_Turned
  rw [asked_eq l w [] hf (few_of hw) (few_of (n := 0) (by simp)), Option.bind_some, errW_nil]
  by_cases e : errW l [w] = 0
  · obtain ⟨g1, g2⟩ := errW_ok e
    have gw := g2 w (by simp)
    rw [if_neg (by simp [e]), if_pos e, ck_pos (by rw [inK_i64]; omega)]
    have key := whileO_seq (body := linealref03_Turned_b1 w) (fun k => ((w.drop (w.length - k)).reverse, (((w.length : Int) - 1) - (k : Int)))) w.length (r := w.reverse) (fun k hk => by
      unfold linealref03_Turned_b1
      have e1 : (((w.length : Int) - 1) - (k : Int)).toNat = w.length - (k + 1) := by omega
      have hd : w.drop (w.length - (k + 1)) = w[w.length - (k + 1)]'(by omega) :: w.drop (w.length - k) := by
        rw [List.drop_eq_getElem_cons (by omega)]
        congr 2
        omega
      simp only
      rw [if_pos (by rw [decide_eq_true_eq]; omega), ck_pos (by omega), ck_pos (by omega), ck_pos (by simp; omega), ck_pos (by rw [inK_i64]; omega), e1, hd, List.reverse_cons, getD_of (List.getElem?_eq_getElem (show w.length - (k + 1) < w.length by omega))]
      have e2 : ((w.length : Int) - 1) - (k : Int) - 1 = ((w.length : Int) - 1) - ((k + 1 : Nat) : Int) := by omega
      rw [e2]) (by
      unfold linealref03_Turned_b1
      simp only
      rw [if_neg (by rw [decide_eq_true_eq]; omega), Nat.sub_self, List.drop_zero])
    have key' : whileO (linealref03_Turned_b1 w) ([], ((w.length : Int) - 1)) = some w.reverse := by
      have e0 : ((w.drop (w.length - 0)).reverse, (((w.length : Int) - 1) - ((0 : Nat) : Int))) = (([] : List Int), ((w.length : Int) - 1)) := by simp
      rw [← e0]; exact key
    rw [key', Option.bind_some]
    unfold linealref03_Turned_k1
    rw [FirstForm_eq g1 hf (isWd_reverse gw), Option.bind_some]
  · rw [if_pos (by simp [e]), if_neg e]

theorem First_eqA : weave_First l w = some (if errW l [w] = 0 then (FF l w, 0) else ([], errW l [w])) := by
  by_cases e : errW l [w] = 0
  · obtain ⟨g1, g2⟩ := errW_ok e
    rw [if_pos e, First_ok hf g1 (g2 w (by simp))]
  · obtain ⟨t, h1, _⟩ := checked1 l w hf hw
    unfold weave_First
    rw [h1, Option.bind_some, if_pos (by simp [e]), if_neg e]
theorem Starts_eqA : weave_Starts l w = some (if errW l [w] = 0 then ((startsL l w).map (·.1), 0) else ([], errW l [w])) := by
  by_cases e : errW l [w] = 0
  · obtain ⟨g1, g2⟩ := errW_ok e
    rw [if_pos e, Starts_ok hf g1 (g2 w (by simp))]
  · obtain ⟨t, h1, _⟩ := checked1 l w hf hw
    unfold weave_Starts
    rw [h1, Option.bind_some, if_pos (by simp [e]), if_neg e]
theorem Turned_eqA : weave_Turned l w = some (if errW l [w] = 0 then (FF l w.reverse, 0) else ([], errW l [w])) := by
  by_cases e : errW l [w] = 0
  · obtain ⟨g1, g2⟩ := errW_ok e
    rw [if_pos e, Turned_ok hf g1 (g2 w (by simp))]
  · obtain ⟨t, h1, _⟩ := checked1 l w hf hw
    unfold weave_Turned
    rw [h1, Option.bind_some, if_pos (by simp [e]), if_neg e]
theorem Size_eqA : weave_Size l w = some (if errW l [w] = 0 then (cntW l w, 0) else (0, errW l [w])) := by
  rw [Size_eq l w hf (few_of hw)]
  by_cases e : errW l [w] = 0
  · rw [if_pos e, if_pos e, e]
  · rw [if_neg e, if_neg e]
end

theorem WeaveForms_eq (l : Ltr) (hf : few l.2) (w : List Int) : lineallaw03_WeaveForms l w = some true := by
  unfold lineallaw03_WeaveForms
  rw [Long3_eq l [w] (few_of (n := 1) (by simp)), Option.bind_some]
  by_cases hlong : (!([w].all fun w => decide (w.length ≤ 60)) || decide (60 < l.2.length)) = true
  · rw [if_pos hlong, Awake3_eq]; rfl
  · rw [if_neg hlong]
    have hw : w.length ≤ 60 := by
      simp only [List.all_cons, List.all_nil, Bool.and_true, Bool.or_eq_true, Bool.not_eq_true', decide_eq_false_iff_not, decide_eq_true_eq, not_or] at hlong
      omega
    rw [Layers_eq l w hf hw, Option.bind_some, rLayers_eq l w hf hw, Option.bind_some, First_eqA hf hw, rFirst_eq hf hw, Starts_eqA hf hw, rStarts_eq hf hw, Turned_eqA hf hw, rTurned_eq hf hw, Size_eqA hf hw, rSize_eq hf hw]
    have same : ∀ x : List Int, x.length ≤ 1000 → linealref03_SameInts x x = some true := same_self
    by_cases e : errW l [w] = 0
    · obtain ⟨hl, g2⟩ := errW_ok e
      have gw := g2 w (by simp)
      have hwl := isWd_len gw
      have f1 : (FF l w).length ≤ 1000 := by rw [FF_len hl gw]; omega
      have f2 : (FF l w.reverse).length ≤ 1000 := by rw [FF_len hl (isWd_reverse gw), List.length_reverse]; omega
      have f3 : ((startsL l w).map (·.1)).length ≤ 1000 := by rw [List.length_map]; have := startsL_len l w; omega
      have hL : linealref03_SameLists (layA l w).1 (layA l w).1 = some true := by unfold layA; rw [if_pos e, SameLays_eq gw gw]; simp
      rw [hL]
      simp only [Option.bind_some, if_pos e]
      rw [same _ f1, same _ f2, same _ f3, Awake3_eq]
      simp
    · have hL : linealref03_SameLists (layA l w).1 (layA l w).1 = some true := by
        unfold layA; rw [if_neg e]
        rw [SameLists_eq3 _ _ (few_of (n := 0) (by simp)) (few_of (n := 0) (by simp)) (by simp) (by simp)]; simp
      rw [hL]
      simp only [Option.bind_some, if_neg e]
      rw [same [] (by simp), Awake3_eq]
      simp

end Go.Proofs.Ytabchabbdnhjpaa
