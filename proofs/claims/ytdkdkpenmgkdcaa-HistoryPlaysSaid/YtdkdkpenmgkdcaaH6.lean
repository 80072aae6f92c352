/-
  Layer 2, pure: HistoryPlays, the reference; and the law.
-/
import Derived.Test.YtdkdkpenmgkdcaaH5
namespace Go.Proofs.Ytdkdkpenmgkdcaa
open Go.RowKit

set_option linter.unusedVariables false
set_option linter.unusedSimpArgs false
set_option maxRecDepth 10000

theorem scan3 {α S T R : Type} (xs : List α) (I : Nat → S → T → Prop) (G : R → Prop) {body : S × T × Int → Option (Step (S × T × Int) R)} {s0 : S} {t0 : T} (h0 : I 0 s0 t0)
    (h : ∀ (k : Nat) (x : α) (s : S) (t : T), xs[k]? = some x → I k s t → (∃ s' t', body (s, t, (k : Int)) = some (.next (s', t', (k : Int) + 1)) ∧ I (k + 1) s' t') ∨ ∃ r, body (s, t, (k : Int)) = some (.done r) ∧ G r)
    (hd : ∀ s t, I xs.length s t → ∃ r, body (s, t, (xs.length : Int)) = some (.done r) ∧ G r) : ∃ r, whileO body (s0, t0, 0) = some r ∧ G r := by
  refine whileO_inv (S := S × T × Int) (fun s : S × T × Int => ∃ k : Nat, s.2.2 = (k : Int) ∧ k ≤ xs.length ∧ I k s.1 s.2.1) (fun s : S × T × Int => xs.length - s.2.2.toNat) G ?_ (s0, t0, 0) ⟨0, rfl, Nat.zero_le _, h0⟩
  rintro ⟨s, t, q⟩ ⟨k, hq, hk, hI⟩
  simp only at hq hI
  subst hq
  by_cases hlt : k < xs.length
  · rcases h k _ s t (List.getElem?_eq_getElem hlt) hI with ⟨s', t', h1, h2⟩ | h1
    · exact .inl ⟨_, h1, ⟨k + 1, by simp, by omega, h2⟩, by simp; omega⟩
    · exact .inr h1
  · have : k = xs.length := by omega
    subst this
    exact .inr (hd s t hI)

/-- The states after the calls. -/
def stA (specs : List Tup) : Int × Int → List HC6 → Int × Int
  | s, [] => s
  | s, c :: r => stA specs (stTo s c.2.1 (nexS (spAt specs c.2.1) (stOf s c.2.1) c.2.2.1)) r

theorem stA_one (specs : List Tup) : ∀ (a : List HC6) (s : Int × Int) (c : HC6), stA specs s (a ++ [c]) = stTo (stA specs s a) c.2.1 (nexS (spAt specs c.2.1) (stOf (stA specs s a) c.2.1) c.2.2.1)
  | [], s, c => rfl
  | d :: r, s, c => stA_one specs r _ c

theorem plA_one (specs : List Tup) : ∀ (a : List HC6) (k : Nat) (s : Int × Int) (c : HC6), plA specs k s (a ++ [c]) = plA specs k s a ++ [(c.1, c.2.1, c.2.2.1, sayS (spAt specs c.2.1) (stOf (stA specs s a) c.2.1) c.2.2.1, 2 * ((k + a.length : Nat) : Int) + 1, 2 * ((k + a.length : Nat) : Int) + 2)]
  | [], k, s, c => rfl
  | d :: r, k, s, c => by
    have h := plA_one specs r (k + 1) (stTo s d.2.1 (nexS (spAt specs d.2.1) (stOf s d.2.1) d.2.2.1)) c
    rw [show k + 1 + r.length = k + (d :: r).length by simp; omega] at h
    exact congrArg (List.cons _) h

theorem stOf_to {s : Int × Int} {i j q : Int} (hi : 0 ≤ i ∧ i < 2) (hj : 0 ≤ j ∧ j < 2) : stOf (stTo s j q) i = if i = j then q else stOf s i := by
  unfold stOf stTo
  by_cases h0 : j = 0
  · by_cases h1 : i = 0
    · simp [h0, h1]
    · simp [h0, h1]
  · have : j = 1 := by omega
    by_cases h1 : i = 0
    · subst this; simp [h1]
    · have : i = 1 := by omega
      simp [*]

theorem plA_len (specs : List Tup) : ∀ (w : List HC6) (k : Nat) (s : Int × Int), (plA specs k s w).length = w.length
  | [], _, _ => rfl
  | c :: r, k, s => by simp [plA, plA_len specs r]

/-- What holds of the states' list. -/
def tabI (specs : List Tup) (tb : List Int) (s : Int × Int) : Prop := tb.length = specs.length ∧ ∀ i : Int, 0 ≤ i → i < (specs.length : Int) → tb.getD i.toNat 0 = stOf s i

theorem tabI_to {specs : List Tup} (hs : okSs specs = true) {tb : List Int} {s : Int × Int} (h : tabI specs tb s) {j q : Int} (hj : 0 ≤ j ∧ j < (specs.length : Int)) : tabI specs (tb.set j.toNat q) (stTo s j q) := by
  have hl2 := okSs_len hs
  refine ⟨by rw [List.length_set]; exact h.1, fun i h0 h1 => ?_⟩
  rw [stOf_to ⟨h0, by omega⟩ ⟨hj.1, by omega⟩]
  by_cases e : i = j
  · subst e
    rw [if_pos rfl, List.getD_eq_getElem?_getD, List.getElem?_set_self (by rw [h.1]; omega)]; rfl
  · rw [if_neg e, List.getD_eq_getElem?_getD, List.getElem?_set_ne (by omega), ← List.getD_eq_getElem?_getD]
    exact h.2 i h0 h1

theorem rplay_loop {specs : List Tup} (hs : okSs specs = true) (w : List HC6) (hl : w.length ≤ 8) :
    whileO (linealref02_Play_b1 specs w) (List.replicate specs.length (0 : Int), [], 0) = some (if (w.all fun c => zeroC c && canC specs c) = true then .inr (plA specs 0 (0, 0) w) else .inl ()) := by
  have hl2 := okSs_len hs
  obtain ⟨r, er, hr⟩ := scan3 (R := Sum Unit (List HC6)) w (fun k (tb : List Int) (out : List HC6) => ((w.take k).all fun c => zeroC c && canC specs c) = true ∧ out = plA specs 0 (0, 0) (w.take k) ∧ tabI specs tb (stA specs (0, 0) (w.take k)) ∧ okP2 specs (stA specs (0, 0) (w.take k)))
    (fun r => r = if (w.all fun c => zeroC c && canC specs c) = true then .inr (plA specs 0 (0, 0) w) else .inl ()) (body := linealref02_Play_b1 specs w) (s0 := List.replicate specs.length (0 : Int)) (t0 := [])
    ⟨by simp, by simp [plA], ⟨by simp, fun i h0 h1 => by
      have e : stOf (0, 0) i = 0 := by unfold stOf; split <;> rfl
      show (List.replicate specs.length (0 : Int)).getD i.toNat 0 = stOf (0, 0) i
      rw [e, List.getD_eq_getElem?_getD, List.getElem?_replicate]; split <;> rfl⟩, okP2_zero hs⟩
    (fun k x tb out hk ⟨hall, ho, htb, hp⟩ => by
      obtain ⟨hlt, hin⟩ := few_in (few_of hl) hk
      have no : (zeroC x && canC specs x) = false → (w.all fun c => zeroC c && canC specs c) = false := fun h => by
        rw [List.all_eq_false]; exact ⟨x, List.mem_of_getElem? hk, by rw [h]; simp⟩
      unfold linealref02_Play_b1
      simp only [Int.toNat_natCast, getD_of hk]
      rw [if_pos (by simpa using hlt), ck_pos (by omega), ck_pos (by omega), rwithin_eq, Option.bind_some]
      cases h1 : (decide (0 ≤ x.1) && decide (x.1 ≤ 3)) with
      | false =>
        rw [if_pos (by rfl)]
        exact .inr ⟨_, rfl, by rw [if_neg (by rw [no (by unfold canC inB; rw [h1]; simp)]; simp)]⟩
      | true =>
      rw [if_neg (by simp), ck_pos (by rw [inK_i64]; omega), rwithin_eq, Option.bind_some]
      cases h2 : (decide (0 ≤ x.2.1) && decide (x.2.1 ≤ (specs.length : Int) - 1)) with
      | false =>
        rw [if_pos (by rfl)]
        exact .inr ⟨_, rfl, by rw [if_neg (by rw [no (by unfold canC inB; rw [h2]; simp)]; simp)]⟩
      | true =>
      have h2' := h2
      simp only [Bool.and_eq_true, decide_eq_true_eq] at h2'
      have hmx : max (min x.2.1 ((specs.length : Int) - 1)) 0 = x.2.1 := by omega
      have hx : 0 ≤ x.2.1 ∧ x.2.1 < (specs.length : Int) := ⟨h2'.1, by omega⟩
      have hsp := ok_parts (okSs_at hs hx)
      have hsp2 : 1 ≤ (specs.getD x.2.1.toNat (0, 0, [], [])).2.1 ∧ (specs.getD x.2.1.toNat (0, 0, [], [])).2.1 ≤ 4 := ⟨hsp.2.2.1, hsp.2.2.2.1⟩
      rw [if_neg (by simp), ck_pos (by rw [inK_i64]; omega)]
      simp only [hmx]
      rw [ck_pos hx.1, ck_pos hx.2, ck_pos (by rw [inK_i64]; omega), rwithin_eq, Option.bind_some]
      cases h3 : (decide (0 ≤ x.2.2.1) && decide (x.2.2.1 ≤ (specs.getD x.2.1.toNat (0, 0, [], [])).2.1 - 1)) with
      | false =>
        rw [if_pos (by rfl)]
        exact .inr ⟨_, rfl, by rw [if_neg (by rw [no (by unfold canC inB spAt; rw [h3]; simp)]; simp)]⟩
      | true =>
      rw [if_neg (by simp)]
      by_cases z1 : x.2.2.2.1 = 0
      · rw [if_neg (by rw [decide_eq_true z1]; simp)]
        by_cases z2 : x.2.2.2.2.1 = 0
        · rw [if_neg (by rw [decide_eq_true z2]; simp)]
          by_cases z3 : x.2.2.2.2.2 = 0
          · rw [if_neg (by rw [decide_eq_true z3]; simp)]
            have hc : canC specs x = true := by unfold canC inB spAt; rw [h1, h2, h3]; rfl
            have hz : zeroC x = true := by unfold zeroC; rw [decide_eq_true z1, decide_eq_true z2, decide_eq_true z3]; rfl
            obtain ⟨_, _, hop⟩ := canC_parts hc
            have ht := htb.2 x.2.1 hx.1 hx.2
            have hq := hp x.2.1 hx.1 hx.2
            obtain ⟨n1, n2, n3⟩ := tab_at hsp.2.2.2.2.1 hq hop
            obtain ⟨a1, a2, a3⟩ := tab_at hsp.2.2.2.2.2 hq hop
            have htl := htb.1
            have hol : out.length = k := by rw [ho, plA_len]; simp; omega
            have hsx : spAt specs x.2.1 = specs.getD x.2.1.toNat (0, 0, [], []) := rfl
            rw [hsx] at n1 n2 a1 a2 hq hop
            rw [ht]
            rw [ck_pos hx.1, ck_pos hx.2, ck_pos hx.1, ck_pos (by rw [htl]; exact hx.2), ck_pos hq.1, ck_pos (by rw [a1]; exact hq.2), ck_pos hop.1, ck_pos (by rw [a2]; exact hop.2),
              ck_pos (by rw [inK_i64]; omega), ck_pos (by rw [inK_i64]; omega), ck_pos (by rw [inK_i64]; omega), ck_pos (by rw [inK_i64]; omega),
              ck_pos hx.1, ck_pos (by rw [htl]; exact hx.2), ck_pos hq.1, ck_pos (by rw [n1]; exact hq.2), ck_pos hop.1, ck_pos (by rw [n2]; exact hop.2),
              ck_pos hx.1, ck_pos (by rw [htl]; exact hx.2), ck_pos (by rw [hol]; omega), ck_pos hin]
            refine .inl ⟨_, _, rfl, ?_, ?_, ?_, ?_⟩
            · rw [take_one hk, List.all_append, hall]; simp [hz, hc]
            · rw [take_one hk, plA_one, ← ho]
              have : (w.take k).length = k := by simp; omega
              rw [this, Nat.zero_add]; rfl
            · rw [take_one hk, stA_one]; exact tabI_to hs htb hx
            · rw [take_one hk, stA_one]; exact okP2_to hs hc hp
          · rw [if_pos (by rw [decide_eq_false z3]; rfl)]
            exact .inr ⟨_, rfl, by rw [if_neg (by rw [no (by unfold zeroC; rw [decide_eq_false z3]; simp)]; simp)]⟩
        · rw [if_pos (by rw [decide_eq_false z2]; rfl)]
          exact .inr ⟨_, rfl, by rw [if_neg (by rw [no (by unfold zeroC; rw [decide_eq_false z2]; simp)]; simp)]⟩
      · rw [if_pos (by rw [decide_eq_false z1]; rfl)]
        exact .inr ⟨_, rfl, by rw [if_neg (by rw [no (by unfold zeroC; rw [decide_eq_false z1]; simp)]; simp)]⟩)
    (fun tb out ⟨hall, ho, _, _⟩ => by
      rw [List.take_length] at hall ho
      unfold linealref02_Play_b1
      rw [if_neg (by simp)]
      exact ⟨_, rfl, by rw [if_pos hall, ho]⟩)
  rw [er, hr]

theorem rPlay_eq (specs : List Tup) (hs : ∀ s ∈ specs, okS s) (hl : specs.length ≤ 1000) (w : List HC6) : linealref02_Play specs w = some (playA specs w) := by
  unfold linealref02_Play playA
  rw [areSpecs_eq specs hs hl, Option.bind_some]
  cases hok : okSs specs with
  | false => rfl
  | true =>
    rw [if_neg (by simp), if_pos rfl]
    by_cases h8 : w.length ≤ 8
    · rw [if_neg (by simp; omega), ck_pos (by omega), rplay_loop hok w h8, Option.bind_some, decide_eq_true h8, Bool.true_and]
      cases (w.all fun c => zeroC c && canC specs c) <;> rfl
    · rw [if_pos (by simp; omega), decide_eq_false h8, Bool.false_and, if_neg (by simp)]

/-- The calls played are calls. -/
theorem plA_ok {specs : List Tup} (hs : okSs specs = true) : ∀ (w : List HC6) (k : Nat) (s : Int × Int), (∀ c ∈ w, canC specs c = true) → okP2 specs s → k + w.length ≤ 8 → ∀ c ∈ plA specs k s w, okC c = true
  | [], k, s, _, _, _, c, h => by cases h
  | d :: r, k, s, hw, hp, hk, c, h => by
    have hd := hw d (List.mem_cons_self ..)
    obtain ⟨p1, p2, p3⟩ := canC_parts hd
    have hsp := ok_parts (okSs_at hs p2)
    have hl2 := okSs_len hs
    rw [List.length_cons] at hk
    rcases List.mem_cons.1 h with rfl | h
    · obtain ⟨_, _, a3⟩ := tab_at hsp.2.2.2.2.2 (hp _ p2.1 p2.2) p3
      unfold ansB at a3
      have a4 := of_decide_eq_true a3
      have : sayS (spAt specs d.2.1) (stOf s d.2.1) d.2.2.1 = (((spAt specs d.2.1).2.2.2.getD (stOf s d.2.1).toNat []).getD d.2.2.1.toNat 0) := rfl
      exact okC_mk ⟨p1, by omega, by omega, by omega, by omega, .inr (by omega)⟩
    · exact plA_ok hs r (k + 1) _ (fun c hc => hw c (List.mem_cons_of_mem _ hc)) (okP2_to hs hd hp) (by omega) c h

theorem playA_ok (specs : List Tup) (w : List HC6) : (∀ c ∈ (playA specs w).1, okC c = true) ∧ (playA specs w).1.length ≤ 1000 := by
  unfold playA
  by_cases hs : okSs specs = true
  · rw [if_pos hs]
    split
    · rename_i h
      simp only [Bool.and_eq_true, decide_eq_true_eq] at h
      refine ⟨plA_ok hs w 0 (0, 0) (fun c hc => ?_) (okP2_zero hs) (by omega), by rw [plA_len]; omega⟩
      have := List.all_eq_true.1 h.2 c hc
      simp only [Bool.and_eq_true] at this
      exact this.2
    · exact ⟨(fun c h => by cases h), by decide⟩
  · rw [if_neg hs]; exact ⟨(fun c h => by cases h), by decide⟩

theorem HistoryPlays_eq (specs : List Tup) (hf : fewS specs) (w : List HC6) : lineallaw02_HistoryPlays specs w = some true := by
  unfold lineallaw02_HistoryPlays
  rw [Large_eq specs hf, Option.bind_some]
  cases hlg : (allB specs.length (fun k => fit (specs.getD k (0, 0, [], []))) && decide (specs.length ≤ 5)) with
  | false => rw [if_pos (by simp), Sane_eq]; rfl
  | true =>
    simp only [Bool.and_eq_true, decide_eq_true_eq] at hlg
    have hs : ∀ s ∈ specs, okS s := fun s hs => by
      obtain ⟨k, hk, e⟩ := List.getElem_of_mem hs
      have := allB_iff.1 hlg.1 k hk
      have e2 : specs.getD k (0, 0, [], []) = s := by rw [List.getD_eq_getElem?_getD, List.getElem?_eq_getElem hk, e]; rfl
      rw [e2] at this
      exact okS_of s this
    rw [if_neg (by simp), Long_eq2, Option.bind_some]
    by_cases hl : 40 < w.length
    · rw [if_pos (by simp; omega), Sane_eq]; rfl
    obtain ⟨s1, s2⟩ := playA_ok specs w
    rw [if_neg (by simp; omega), Play_eq specs hs (by omega) w (by omega), Option.bind_some, rPlay_eq specs hs (by omega) w, Option.bind_some, Same_self _ s1 s2, Option.bind_some]
    rw [if_pos rfl, if_pos (by simp), Sane_eq]; rfl

end Go.Proofs.Ytdkdkpenmgkdcaa
