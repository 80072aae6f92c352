/-
  Layer 2, pure: the first order, along a path of least calls.
-/
import Derived.Test.YtlfpagicagmjgaaH10a
namespace Go.Proofs.Ytlfpagicagmjgaa
open Go.RowKit

set_option linter.unusedVariables false
set_option linter.unusedSimpArgs false
set_option maxRecDepth 10000

/-- The way from a place by the least calls from which orders go on. -/
inductive Path (specs : List Tup) (h : List HC6) (V : Pl → Nat) : Pl → List Nat → Prop
  | nil (p : Pl) (e : fullB h p.2 = true) : Path specs h V p []
  | cons (p q : Pl) (i : Nat) (l : List Nat) (e : fullB h p.2 = false) (hi : i < h.length) (hn : nxt specs h p i = some q) (hv : 0 < V q) (hl : ∀ j, j < i → ∀ q', nxt specs h p j = some q' → V q' = 0) (hp : Path specs h V q l) : Path specs h V p (i :: l)

theorem sumTo_pos {f : Nat → Nat} : ∀ {n : Nat}, 0 < sumTo f n → ∃ i, i < n ∧ 0 < f i ∧ ∀ j, j < i → f j = 0
  | 0, h => by simp [sumTo] at h
  | n + 1, h => by
    by_cases h0 : 0 < sumTo f n
    · obtain ⟨i, h1, h2, h3⟩ := sumTo_pos h0
      exact ⟨i, by omega, h2, h3⟩
    · have h1 : 0 < sumTo f n + f n := h
      refine ⟨n, by omega, by omega, fun j hj => ?_⟩
      have := sumTo_le f (k := j + 1) (n := n) (by omega)
      have e : sumTo f (j + 1) = sumTo f j + f j := rfl
      omega

section
variable {specs : List Tup} {h : List HC6}

theorem path_of (ok : Pl → Prop) (V μ : Pl → Nat) (hstep : ∀ p, ok p → ∀ i q, i < h.length → nxt specs h p i = some q → ok q ∧ μ q < μ p)
    (hV : ∀ p, ok p → V p = (if fullB h p.2 = true then 1 else 0) + sumTo (fun i => contrib V (nxt specs h p i)) h.length) : ∀ (m : Nat) (p : Pl), ok p → μ p ≤ m → 0 < V p → ∃ l, Path specs h V p l ∧ l.length ≤ m := by
  intro m
  induction m with
  | zero =>
    intro p hp hm hv
    cases hf : fullB h p.2 with
    | true => exact ⟨[], .nil p hf, Nat.le_refl _⟩
    | false =>
      have := hV p hp
      rw [hf] at this
      simp only [Bool.false_eq_true, if_false, Nat.zero_add] at this
      rw [this] at hv
      obtain ⟨i, h1, h2, _⟩ := sumTo_pos hv
      cases e : nxt specs h p i with
      | none => simp only [e, contrib] at h2; omega
      | some q => have := (hstep p hp i q h1 e).2; omega
  | succ m ih =>
    intro p hp hm hv
    cases hf : fullB h p.2 with
    | true => exact ⟨[], .nil p hf, Nat.zero_le _⟩
    | false =>
      have := hV p hp
      rw [hf] at this
      simp only [Bool.false_eq_true, if_false, Nat.zero_add] at this
      rw [this] at hv
      obtain ⟨i, h1, h2, h3⟩ := sumTo_pos hv
      cases e : nxt specs h p i with
      | none => simp only [e, contrib] at h2; omega
      | some q =>
        simp only [e, contrib] at h2
        obtain ⟨o1, o2⟩ := hstep p hp i q h1 e
        obtain ⟨l, p1, p2⟩ := ih q o1 (by omega) h2
        refine ⟨i :: l, .cons p q i l hf h1 e h2 (fun j hj q' hq' => ?_) p1, by rw [List.length_cons]; omega⟩
        have := h3 j hj
        rw [hq'] at this
        exact this

theorem first_path (hs : okSs specs = true) (hl : h.length ≤ 8) (hc : ∀ i, i < h.length → canC specs (hAt h i) = true) (ok : Pl → Prop) (V μ : Pl → Nat) (hok : ∀ p, ok p → okPl specs p)
    (hstep : ∀ p, ok p → ∀ i q, i < h.length → nxt specs h p i = some q → ok q ∧ μ q < μ p)
    (hV : ∀ p, ok p → V p = (if fullB h p.2 = true then 1 else 0) + sumTo (fun i => contrib V (nxt specs h p i)) h.length) (hb : ∀ p, ok p → V p ≤ 1000000000) (hμ : ∀ p, ok p → μ p < fuel)
    (l : List Nat) (hl8 : l.length ≤ 1000) (hp0 : ok ((0, 0), 0)) (hVp : V ((0, 0), 0) ≠ 0) (hpath : Path specs h V ((0, 0), 0) l) :
    ∃ M, history_search_first specs h [] = some (l.map fun (k : Nat) => (k : Int), true, M) := by
  have hM0 : Mem V [] := fun p hp => by cases hp
  obtain ⟨M1, e1, hM1⟩ := count_eq hs hl hc ok V μ hok hstep hV hb (μ ((0, 0), 0)) ((0, 0), 0) hp0 (Nat.le_refl _) fuel (hμ _ hp0) [] hM0
  have loop : ∃ r, whileO (history_search_first_b1 specs h) (M1, 0, 0, 0, []) = some r ∧ r.1 = l.map fun (k : Nat) => (k : Int) := by
    refine whileO_inv (S := List (Pl × Int) × Int × Int × Int × List Int) (fun s => ∃ l', Mem V s.1 ∧ ok ((s.2.1, s.2.2.1), s.2.2.2.1) ∧ Path specs h V ((s.2.1, s.2.2.1), s.2.2.2.1) l' ∧ s.2.2.2.2 ++ (l'.map fun (k : Nat) => (k : Int)) = l.map fun (k : Nat) => (k : Int)) (fun s => l.length - s.2.2.2.2.length) (fun r : List Int × List (Pl × Int) => r.1 = l.map fun (k : Nat) => (k : Int)) ?_ (M1, 0, 0, 0, []) ⟨l, hM1, hp0, hpath, rfl⟩
    rintro ⟨M, q1, q2, b, o⟩ ⟨l', hM, hokk, hP, ho⟩
    simp only at hM hokk hP ho
    unfold history_search_first_b1
    simp only
    rw [full_eq hl (hok _ hokk), Option.bind_some]
    generalize hp : (((q1, q2), b) : Pl) = p at hokk hP
    cases hP with
    | nil _ hf =>
      simp only [List.map_nil, List.append_nil] at ho
      rw [hf, if_neg (by simp)]
      exact .inr ⟨_, rfl, ho⟩
    | cons _ q i l2 hf hi hnx hv hleast hP2 =>
      rw [hf, if_pos (by rfl), show history_search_steps specs h p = some () from rfl, Option.bind_some]
      have hlen := congrArg List.length ho
      simp only [List.length_append, List.length_map, List.length_cons] at hlen
      obtain ⟨x, ex, hx⟩ := steps_scan (S := List (Pl × Int)) (R := List (Pl × Int) × Int × Int × Int × List Int) hs hl hc (hok _ hokk) (history_search_first_y2 specs h (M, q1, q2, b, o)) (fun j M => Mem V M ∧ j ≤ i) (fun r => Mem V r.1 ∧ ((r.2.1, r.2.2.1), r.2.2.2.1) = q ∧ r.2.2.2.2 = o ++ [(i : Int)]) (s0 := M) ⟨hM, Nat.zero_le _⟩
        (fun j hj s hn ⟨i1, i2⟩ => ⟨i1, by
          have : j ≠ i := fun e => by rw [e, hnx] at hn; cases hn
          omega⟩)
        (fun j hj s q' hn ⟨i1, i2⟩ => by
          obtain ⟨o1, o2⟩ := hstep _ hokk j q' hj hn
          obtain ⟨M', e, hM'⟩ := count_eq hs hl hc ok V μ hok hstep hV hb (μ q') q' o1 (Nat.le_refl _) fuel (hμ _ o1) s i1
          unfold history_search_first_y2
          simp only
          rw [e, Option.bind_some]
          simp only
          by_cases hjL : j < i
          · have hv0 := hleast j hjL q' hn
            rw [hv0, if_neg (by simp)]
            exact .inl ⟨_, rfl, hM', by omega⟩
          · have : j = i := by omega
            subst this
            rw [hnx] at hn
            injection hn with hn
            subst hn
            rw [if_pos (by simpa using hv), ck_pos (by omega)]
            exact .inr ⟨_, rfl, hM', rfl, rfl⟩)
      rw [ex, Option.bind_some]
      cases x with
      | inl s => exact absurd hx.2 (by omega)
      | inr r =>
        obtain ⟨x1, x2, x3⟩ := hx
        refine .inl ⟨r, rfl, ⟨l2, x1, by rw [x2]; exact (hstep _ hokk i q hi hnx).1, by rw [x2]; exact hP2, by rw [x3, ← ho, List.append_assoc]; rfl⟩, ?_⟩
        show l.length - r.2.2.2.2.length < l.length - o.length
        rw [x3, List.length_append]
        simp only [List.length_cons, List.length_nil]
        omega
  obtain ⟨r, er, hr⟩ := loop
  unfold history_search_first
  rw [e1, Option.bind_some]
  simp only
  rw [if_neg (by simpa using hVp), er, Option.bind_some]
  unfold history_search_first_k1
  rw [hr]
  exact ⟨_, rfl⟩

end

/-- The first order, if there is one. -/
theorem Order_eq {specs : List Tup} (hs : ∀ s ∈ specs, okS s) (hl : specs.length ≤ 1000) (hk : okSs specs = true) {h : List HC6} (h1 : okH h = true) (h2 : fitsB specs h = true) :
    (cntA specs h = 0 ∧ history_Order specs h = some ([], 5)) ∨ (0 < cntA specs h ∧ ∃ l, Path specs h (CF specs h 9) ((0, 0), 0) l ∧ history_Order specs h = some (l.map fun (k : Nat) => (k : Int), 0)) := by
  have hl8 := okH_len h1
  have hc : ∀ i, i < h.length → canC specs (hAt h i) = true := fun i hi => can_of h1 h2 hi
  have hV := CF_nine hk hl8 hc
  have hB := fun p => Nat.le_trans (CF_bound (specs := specs) (h := h) hl8 9 p) (show 9 ^ 9 ≤ 1000000000 by decide)
  have hstep : ∀ p, okPl specs p → ∀ i q, i < h.length → nxt specs h p i = some q → okPl specs q ∧ leftB q < leftB p := fun p hp i q hi e => ⟨nxt_ok hk hp (by omega) (hc i hi) e, nxt_left hp (by omega) e⟩
  unfold history_Order
  rw [checkFor_fit hs hl hk h1 h2, Option.bind_some, if_pos (by rfl), show history_told specs h = some () from rfl, Option.bind_some]
  by_cases h0 : cntA specs h = 0
  · refine .inl ⟨h0, ?_⟩
    obtain ⟨M, e⟩ := cnt_eq hk hl8 hc
    unfold history_search_first
    rw [e, h0, Option.bind_some]; rfl
  · refine .inr ⟨by omega, ?_⟩
    unfold cntA at h0
    generalize CF specs h 9 = V at hV hB h0
    obtain ⟨l, p1, p2⟩ := path_of (okPl specs) V leftB hstep hV 8 ((0, 0), 0) (okPl_zero hk) (leftB_le _) (by omega)
    obtain ⟨M, e⟩ := first_path hk hl8 hc (okPl specs) V leftB (fun _ h => h) hstep hV (fun p _ => hB p) (fun p _ => Nat.lt_of_le_of_lt (leftB_le p) (by decide)) l (by omega) (okPl_zero hk) h0 p1
    refine ⟨l, p1, ?_⟩
    rw [e]; rfl

end Go.Proofs.Ytlfpagicagmjgaa
