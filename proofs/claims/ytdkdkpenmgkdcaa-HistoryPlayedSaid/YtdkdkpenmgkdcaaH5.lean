/-
  Layer 2, pure: HistoryPlays.
-/
import Derived.Test.YtdkdkpenmgkdcaaH5a
namespace Go.Proofs.Ytdkdkpenmgkdcaa
open Go.RowKit

set_option linter.unusedVariables false
set_option linter.unusedSimpArgs false
set_option maxRecDepth 10000

/-- Calls one after the other. -/
def timed : Nat → List HC6 → List HC6
  | _, [] => []
  | k, c :: r => (c.1, c.2.1, c.2.2.1, c.2.2.2.1, 2 * (k : Int) + 1, 2 * (k : Int) + 2) :: timed (k + 1) r

theorem timed_len : ∀ (w : List HC6) (k : Nat), (timed k w).length = w.length
  | [], _ => rfl
  | c :: r, k => by simp [timed, timed_len r (k + 1)]

theorem timed_append : ∀ (a b : List HC6) (k : Nat), timed k (a ++ b) = timed k a ++ timed (k + a.length) b
  | [], b, k => rfl
  | c :: r, b, k => by
    have h := timed_append r b (k + 1)
    rw [show k + 1 + r.length = k + (c :: r).length by simp; omega] at h
    exact congrArg (List.cons _) h

theorem timed_get : ∀ (w : List HC6) (k j : Nat) (c : HC6), w[j]? = some c → (timed k w).getD j (0, 0, 0, 0, 0, 0) = (c.1, c.2.1, c.2.2.1, c.2.2.2.1, 2 * ((k + j : Nat) : Int) + 1, 2 * ((k + j : Nat) : Int) + 2)
  | [], k, j, c, h => by simp at h
  | d :: r, k, 0, c, h => by simp at h; subst h; rfl
  | d :: r, k, j + 1, c, h => by
    have := timed_get r (k + 1) j c (by simpa using h)
    unfold timed
    rw [show k + (j + 1) = k + 1 + j by omega, ← this]; rfl

def zeroC (c : HC6) : Bool := decide (c.2.2.2.1 = 0) && decide (c.2.2.2.2.1 = 0) && decide (c.2.2.2.2.2 = 0)

theorem getD_at {α : Type} (p : List α) (a d : α) (s : List α) : (p ++ a :: s).getD p.length d = a := by
  rw [List.getD_eq_getElem?_getD, List.getElem?_append_right (by omega), Nat.sub_self]; rfl
theorem set_at {α : Type} (p : List α) (a b : α) (s : List α) : (p ++ a :: s).set p.length b = p ++ b :: s := by
  rw [List.set_append_right _ _ (by omega), Nat.sub_self]; rfl

theorem play_loop (w : List HC6) (hl : w.length ≤ 1000) : whileO (history_Play_b1 w) (w, 0) = some (if w.all zeroC = true then .inr (timed 0 w) else .inl ()) := by
  obtain ⟨r, er, hr⟩ := scan2 (R := Sum Unit (List HC6)) w (fun k (s : List HC6) => s = timed 0 (w.take k) ++ w.drop k ∧ (w.take k).all zeroC = true) (fun r => r = if w.all zeroC = true then .inr (timed 0 w) else .inl ()) (body := history_Play_b1 w) (s0 := w) ⟨by simp [timed], by simp⟩ (fun k x s hk ⟨hI, hz⟩ => by
    obtain ⟨hlt, hin⟩ := few_in (few_of hl) hk
    have hdv : w.drop k = x :: w.drop (k + 1) := by
      rw [List.drop_eq_getElem_cons hlt]
      congr 1
      exact (List.getElem?_eq_some_iff.1 hk).2
    rw [hdv] at hI
    have hpl : (timed 0 (w.take k)).length = k := by rw [timed_len]; simp; omega
    have hg : s.getD k (0, 0, 0, 0, 0, 0) = x := by
      have := getD_at (timed 0 (w.take k)) x (0, 0, 0, 0, 0, 0) (w.drop (k + 1))
      rw [hpl, ← hI] at this
      exact this
    have hset : ∀ b, s.set k b = timed 0 (w.take k) ++ b :: w.drop (k + 1) := fun b => by
      have := set_at (timed 0 (w.take k)) x b (w.drop (k + 1))
      rw [hpl, ← hI] at this
      exact this
    have hset2 : ∀ b c, (s.set k b).set k c = timed 0 (w.take k) ++ c :: w.drop (k + 1) := fun b c => by
      rw [hset]
      have := set_at (timed 0 (w.take k)) b c (w.drop (k + 1))
      rw [hpl] at this
      exact this
    have hgs : ∀ b, (s.set k b).getD k (0, 0, 0, 0, 0, 0) = b := fun b => by
      rw [hset]
      have := getD_at (timed 0 (w.take k)) b (0, 0, 0, 0, 0, 0) (w.drop (k + 1))
      rw [hpl] at this
      exact this
    have hsl : s.length = w.length := by rw [hI]; simp [timed_len]; omega
    have no : zeroC x = false → w.all zeroC = false := fun h => by
      rw [List.all_eq_false]; exact ⟨x, List.mem_of_getElem? hk, by rw [h]; simp⟩
    unfold history_Play_b1
    simp only [Int.toNat_natCast, getD_of hk, hg]
    rw [if_pos (by simpa using hlt), ck_pos (by simp), ck_pos (by omega)]
    by_cases h1 : x.2.2.2.1 = 0
    · rw [if_neg (by rw [decide_eq_true h1]; simp)]
      by_cases h2 : x.2.2.2.2.1 = 0
      · rw [if_neg (by rw [decide_eq_true h2]; simp)]
        by_cases h3 : x.2.2.2.2.2 = 0
        · rw [if_neg (by rw [decide_eq_true h3]; simp), ck_pos (by rw [inK_i64]; omega), ck_pos (by rw [inK_i64]; omega), ck_pos (by rw [inK_i64]; omega), ck_pos (by rw [inK_i64]; omega), ck_pos (by simp), ck_pos (by omega), ck_pos (by simp), ck_pos (by rw [List.length_set]; omega), ck_pos hin, hset2, hgs]
          refine .inl ⟨_, rfl, ?_, ?_⟩
          · rw [take_one hk, timed_append]
            have : (w.take k).length = k := by simp; omega
            rw [this, Nat.zero_add]
            simp [timed]
          · rw [take_one hk, List.all_append, hz]
            simp [zeroC, h1, h2, h3]
        · rw [if_pos (by rw [decide_eq_false h3]; rfl)]
          exact .inr ⟨_, rfl, by rw [if_neg (by rw [no (by unfold zeroC; rw [decide_eq_false h3]; simp)]; simp)]⟩
      · rw [if_pos (by rw [decide_eq_false h2]; rfl)]
        exact .inr ⟨_, rfl, by rw [if_neg (by rw [no (by unfold zeroC; rw [decide_eq_false h2]; simp)]; simp)]⟩
    · rw [if_pos (by rw [decide_eq_false h1]; rfl)]
      exact .inr ⟨_, rfl, by rw [if_neg (by rw [no (by unfold zeroC; rw [decide_eq_false h1]; simp)]; simp)]⟩) (fun s ⟨hI, hz⟩ => by
    rw [List.take_length] at hI hz
    rw [List.drop_length, List.append_nil] at hI
    unfold history_Play_b1
    rw [if_neg (by simp)]
    exact ⟨_, rfl, by rw [if_pos hz, hI]⟩)
  rw [er, hr]

/-! ### What the specifications answer -/

theorem answer_eq {specs : List Tup} (hs : okSs specs = true) {c : HC6} (hc : canC specs c = true) {s : Int × Int} (h : okP2 specs s) :
    history_states_answer_2 specs c s = some (sayS (spAt specs c.2.1) (stOf s c.2.1) c.2.2.1, stTo s c.2.1 (nexS (spAt specs c.2.1) (stOf s c.2.1) c.2.2.1)) := by
  obtain ⟨_, ho, hp⟩ := canC_parts hc
  have hl2 := okSs_len hs
  obtain ⟨_, _, _, _, t1, t2⟩ := ok_parts (okSs_at hs ho)
  have hq := h c.2.1 ho.1 ho.2
  obtain ⟨n1, n2, n3⟩ := tab_at t1 hq hp
  obtain ⟨a1, a2, a3⟩ := tab_at t2 hq hp
  unfold history_states_answer_2
  rw [ck_pos ho.1, ck_pos ho.2, ck_pos ho.1, ck_pos (by omega)]
  by_cases h0 : c.2.1 = 0
  · rw [if_pos (by rw [decide_eq_true h0])]
    have e0 : spAt specs c.2.1 = specs.getD 0 (0, 0, [], []) := by unfold spAt; rw [h0]; rfl
    have e1 : stOf s c.2.1 = s.1 := by unfold stOf; rw [if_pos h0]
    rw [e0] at n1 a1
    rw [e0, e1] at n2 a2 hq ⊢
    have hop : c.2.2.1 < (specs.getD 0 (0, 0, [], [])).2.1 := by rw [← e0]; exact hp.2
    unfold history_states_answer_2_k1
    simp only
    rw [ck_pos hq.1, ck_pos (by omega), ck_pos hp.1, ck_pos (by omega), ck_pos (by omega), ck_pos (by omega), if_pos (by rfl)]
    unfold history_states_answer_2_k2
    simp only
    rw [ck_pos hq.1, ck_pos (by omega), ck_pos hp.1, ck_pos (by omega)]
    unfold stTo; rw [if_pos h0]; rfl
  · rw [if_neg (by rw [decide_eq_false h0]; simp)]
    have h1 : c.2.1 = 1 := by omega
    have e0 : spAt specs c.2.1 = specs.getD 1 (0, 0, [], []) := by unfold spAt; rw [h1]; rfl
    have e1 : stOf s c.2.1 = s.2 := by unfold stOf; rw [if_neg h0]
    rw [e0] at n1 a1
    rw [e0, e1] at n2 a2 hq ⊢
    have hop : c.2.2.1 < (specs.getD 1 (0, 0, [], [])).2.1 := by rw [← e0]; exact hp.2
    unfold history_states_answer_2_k1
    simp only
    rw [ck_pos hq.1, ck_pos (by omega), ck_pos hp.1, ck_pos (by omega), ck_pos (by omega), ck_pos (by omega), if_neg (by simp)]
    unfold history_states_answer_2_k2
    simp only
    rw [ck_pos hq.1, ck_pos (by omega), ck_pos hp.1, ck_pos (by omega)]
    unfold stTo; rw [if_neg h0]; rfl

/-- What is played. -/
def plA (specs : List Tup) : Nat → Int × Int → List HC6 → List HC6
  | _, _, [] => []
  | k, s, c :: r => (c.1, c.2.1, c.2.2.1, sayS (spAt specs c.2.1) (stOf s c.2.1) c.2.2.1, 2 * (k : Int) + 1, 2 * (k : Int) + 2) :: plA specs (k + 1) (stTo s c.2.1 (nexS (spAt specs c.2.1) (stOf s c.2.1) c.2.2.1)) r

theorem play1_loop {specs : List Tup} (hs : okSs specs = true) (w : List HC6) (hw : ∀ c ∈ w, canC specs c = true) (hl : w.length ≤ 1000) : ∀ (n k : Nat) (pre rest : List HC6) (s : Int × Int) (out : List HC6), rest.length = n → w = pre ++ rest → pre.length = k → out.length = k → okP2 specs s →
    ∀ a0 : List HC6, a0.length = w.length → whileN (history_Play_1_b1 specs a0) (n + 1) (out ++ timed k rest, s.1, s.2, (k : Int)) = some (out ++ plA specs k s rest)
  | 0, k, pre, rest, s, out, hn, hwd, hk, ho, hp, a0, ha => by
    have : rest = [] := List.eq_nil_of_length_eq_zero hn
    subst this
    have hkw : k = w.length := by rw [hwd]; simp [hk]
    unfold whileN
    have : history_Play_1_b1 specs a0 (out ++ timed k [], s.1, s.2, (k : Int)) = some (.done (out ++ timed k [])) := by
      unfold history_Play_1_b1
      rw [if_neg (by simp; omega)]
    rw [this]; rfl
  | n + 1, k, pre, c :: r, s, out, hn, hwd, hk, ho, hp, a0, ha => by
    have hc := hw c (by rw [hwd]; simp)
    have hkl : k < w.length := by rw [hwd]; simp; omega
    unfold whileN
    have ht : timed k (c :: r) = (c.1, c.2.1, c.2.2.1, c.2.2.2.1, 2 * (k : Int) + 1, 2 * (k : Int) + 2) :: timed (k + 1) r := rfl
    obtain ⟨c', hc'⟩ : ∃ c' : HC6, c' = (c.1, c.2.1, c.2.2.1, c.2.2.2.1, 2 * (k : Int) + 1, 2 * (k : Int) + 2) := ⟨_, rfl⟩
    have hg : (out ++ timed k (c :: r)).getD k (0, 0, 0, 0, 0, 0) = c' := by
      have := getD_at out c' (0, 0, 0, 0, 0, 0) (timed (k + 1) r)
      rw [ho] at this
      rw [ht, ← hc']; exact this
    have hset : ∀ b, (out ++ timed k (c :: r)).set k b = out ++ b :: timed (k + 1) r := fun b => by
      have := set_at out c' b (timed (k + 1) r)
      rw [ho] at this
      rw [ht, ← hc']; exact this
    have hcan' : canC specs c' = true := by rw [hc']; exact hc
    have hlen : (out ++ timed k (c :: r)).length = w.length := by rw [hwd]; simp [timed_len, ho, hk]
    have hb : history_Play_1_b1 specs a0 (out ++ timed k (c :: r), s.1, s.2, (k : Int)) = some (.next ((out ++ [(c.1, c.2.1, c.2.2.1, sayS (spAt specs c.2.1) (stOf s c.2.1) c.2.2.1, 2 * (k : Int) + 1, 2 * (k : Int) + 2)]) ++ timed (k + 1) r, (stTo s c.2.1 (nexS (spAt specs c.2.1) (stOf s c.2.1) c.2.2.1)).1, (stTo s c.2.1 (nexS (spAt specs c.2.1) (stOf s c.2.1) c.2.2.1)).2, ((k + 1 : Nat) : Int))) := by
      unfold history_Play_1_b1
      simp only [Int.toNat_natCast, hg]
      rw [if_pos (by simp; omega), ck_pos (by simp), ck_pos (by rw [hlen]; omega), answer_eq hs hcan' hp, Option.bind_some, ck_pos (by simp), ck_pos (by rw [hlen]; omega), ck_pos (by rw [inK_i64]; omega), hset]
      rw [hc']
      simp
    rw [hb]
    have hp' := okP2_to hs hc hp
    have := play1_loop hs w hw hl n (k + 1) (pre ++ [c]) r (stTo s c.2.1 (nexS (spAt specs c.2.1) (stOf s c.2.1) c.2.2.1)) (out ++ [(c.1, c.2.1, c.2.2.1, sayS (spAt specs c.2.1) (stOf s c.2.1) c.2.2.1, 2 * (k : Int) + 1, 2 * (k : Int) + 2)]) (by simpa using hn) (by rw [hwd]; simp) (by simp [hk]) (by simp [ho]) hp' a0 ha
    refine Eq.trans this ?_
    simp [plA]

theorem Play1_eq {specs : List Tup} (hs : okSs specs = true) (w : List HC6) (hw : ∀ c ∈ w, canC specs c = true) (hl : w.length ≤ 1000) : history_Play_1 specs (timed 0 w) = some (plA specs 0 (0, 0) w) := by
  unfold history_Play_1
  have := whileO_of (play1_loop hs w hw hl w.length 0 [] w (0, 0) [] rfl rfl rfl rfl (okP2_zero hs) (timed 0 w) (timed_len w 0))
  rw [List.nil_append, List.nil_append] at this
  rw [show ((0 : Nat) : Int) = 0 from rfl] at this
  rw [this]; rfl

/-! ### When what is played is a history for the specifications -/

theorem okH_timed {specs : List Tup} (hs : okSs specs = true) (w : List HC6) (hz : w.all zeroC = true) : (okH (timed 0 w) && fitsB specs (timed 0 w)) = (decide (w.length ≤ 8) && w.all (canC specs)) := by
  have hl2 := okSs_len hs
  rw [Bool.eq_iff_iff]
  simp only [Bool.and_eq_true, decide_eq_true_eq]
  have hget : ∀ k, (hk : k < w.length) → (timed 0 w).getD k (0, 0, 0, 0, 0, 0) = (w[k].1, w[k].2.1, w[k].2.2.1, w[k].2.2.2.1, 2 * (k : Int) + 1, 2 * (k : Int) + 2) := fun k hk => by
    have := timed_get w 0 k _ (List.getElem?_eq_getElem hk)
    rwa [Nat.zero_add] at this
  have hzero : ∀ k, (hk : k < w.length) → w[k].2.2.2.1 = 0 := fun k hk => by
    have := List.all_eq_true.1 hz _ (List.getElem_mem hk)
    unfold zeroC at this
    simp only [Bool.and_eq_true, decide_eq_true_eq] at this
    exact this.1.1
  constructor
  · rintro ⟨hok, hfit⟩
    have hl := okH_len hok
    rw [timed_len] at hl
    refine ⟨hl, List.all_eq_true.2 fun c hc => ?_⟩
    obtain ⟨k, hk, rfl⟩ := List.getElem_of_mem hc
    have h1 := okC_from (okH_getD hok (k := k) (by rw [timed_len]; exact hk))
    unfold fitsB at hfit
    have h2 := allB_iff.1 hfit k (by rw [timed_len]; exact hk)
    rw [hget k hk] at h1 h2
    unfold fitC at h2
    simp only [Bool.and_eq_true, decide_eq_true_eq] at h1 h2
    unfold canC inB spAt
    simp only [Bool.and_eq_true, decide_eq_true_eq]
    omega
  · rintro ⟨hl, hall⟩
    have hcan : ∀ k, (hk : k < w.length) → canC specs w[k] = true := fun k hk => List.all_eq_true.1 hall _ (List.getElem_mem hk)
    constructor
    · unfold okH
      simp only [Bool.and_eq_true, decide_eq_true_eq]
      refine ⟨by rw [timed_len]; exact hl, allB_iff.2 fun k hk => ?_⟩
      rw [timed_len] at hk
      obtain ⟨p1, p2, p3⟩ := canC_parts (hcan k hk)
      have p4 := ok_parts (okSs_at hs p2)
      unfold okAt
      rw [hget k hk]
      simp only [Bool.and_eq_true]
      refine ⟨okC_mk ⟨p1, by omega, by omega, by rw [hzero k hk]; omega, by omega, .inr (by omega)⟩, allB_iff.2 fun j hj => ?_⟩
      rw [hget j (by omega)]
      unfold apartC bef
      simp only
      have e1 : decide (2 * (k : Int) + 1 = 2 * (j : Int) + 1) = false := decide_eq_false (by omega)
      have e2 : decide (2 * (k : Int) + 1 = 2 * (j : Int) + 2) = false := decide_eq_false (by omega)
      have e3 : decide (2 * (k : Int) + 2 = 2 * (j : Int) + 1) = false := decide_eq_false (by omega)
      have e4 : decide (2 * (k : Int) + 2 = 2 * (j : Int) + 2) = false := decide_eq_false (by omega)
      have e5 : decide (2 * (j : Int) + 2 = 0) = false := decide_eq_false (by omega)
      have e6 : decide (2 * (j : Int) + 2 < 2 * (k : Int) + 1) = true := decide_eq_true (by omega)
      rw [e1, e2, e3, e4, e5, e6]
      simp
    · unfold fitsB
      refine allB_iff.2 fun k hk => ?_
      rw [timed_len] at hk
      obtain ⟨p1, p2, p3⟩ := canC_parts (hcan k hk)
      rw [hget k hk]
      unfold fitC
      unfold spAt at p3
      simp only [Bool.and_eq_true, decide_eq_true_eq]
      exact ⟨p2.2, p3.2⟩

def playA (specs : List Tup) (w : List HC6) : List HC6 × Int :=
  if okSs specs = true then (if (decide (w.length ≤ 8) && w.all fun c => zeroC c && canC specs c) = true then (plA specs 0 (0, 0) w, 0) else ([], 20)) else ([], 10)

theorem all_and {α : Type} (p q : α → Bool) : ∀ l : List α, (l.all fun c => p c && q c) = (l.all p && l.all q)
  | [] => rfl
  | a :: r => by rw [List.all_cons, List.all_cons, List.all_cons, all_and p q r]; cases p a <;> cases q a <;> simp

theorem Play_eq (specs : List Tup) (hs : ∀ s ∈ specs, okS s) (hl : specs.length ≤ 1000) (w : List HC6) (hw : w.length ≤ 40) : history_Play specs w = some (playA specs w) := by
  unfold history_Play playA
  rw [checkSpecs_eq specs hs hl, Option.bind_some]
  cases hok : okSs specs with
  | false => rfl
  | true =>
    have hC : slices_Clone w = some w := by unfold slices_Clone; rw [ck_pos (by omega)]
    simp only [if_true]
    rw [if_neg (by simp), hC, Option.bind_some, play_loop w (by omega), Option.bind_some, all_and]
    cases hz : w.all zeroC with
    | false => simp
    | true =>
      simp only [if_true, Bool.true_and]
      rw [← okH_timed hok w hz]
      unfold history_Play_k1 history_checkFor
      rw [checkSpecs_eq specs hs hl, hok, if_pos rfl, Option.bind_some, if_neg (by simp), HValid_eq]
      cases hh : okH (timed 0 w) with
      | false => rfl
      | true =>
        rw [Option.bind_some, if_neg (by simp), fits_eq specs _ hh]
        cases hfb : fitsB specs (timed 0 w) with
        | false => rfl
        | true =>
          have hall := okH_timed hok w hz
          rw [hh, hfb] at hall
          have h2 := (Bool.and_eq_true _ _ |>.mp hall.symm).2
          simp only [Option.bind_some, Bool.not_true, Bool.false_eq_true, if_false, decide_true, if_true, Bool.and_self]
          unfold history_told_15
          rw [Play1_eq hok w (fun c hc => List.all_eq_true.1 h2 c hc) (by omega)]; rfl

end Go.Proofs.Ytdkdkpenmgkdcaa
