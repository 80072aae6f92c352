/-
  Layer 2, pure: the search for lists that keep threads: places, and the count; HistoryLinears.
-/
import Derived.Test.YtlfpagicagmjgaaH21
import Derived.Test.YtlfpagicagmjgaaH10o
namespace Go.Proofs.Ytlfpagicagmjgaa
open Go.RowKit

set_option linter.unusedVariables false
set_option linter.unusedSimpArgs false
set_option maxRecDepth 10000

section
variable {q : HC6 → HC6 → Bool} {specs : List Tup} {h : List HC6}


theorem nxtQ_ok (hs : okSs specs = true) {p p2 : Pl} (hp : okPl specs p) {i : Nat} (hi : i < 8) (hc : canC specs (hAt h i) = true) (e : nxtQ q specs h p i = some p2) : okPl specs p2 := by
  unfold nxtQ at e
  split at e
  · injection e with e
    subst e
    obtain ⟨_, ho, hop⟩ := canC_parts hc
    have hl2 := okSs_len hs
    have hsp := ok_parts (okSs_at hs ho)
    obtain ⟨_, _, n3⟩ := tab_at hsp.2.2.2.2.1 (hp.1 _ ho.1 ho.2) hop
    unfold inR at n3
    have n4 := of_decide_eq_true n3
    have n5 : 0 ≤ nexS (spAt specs (hAt h i).2.1) (stOf p.1 (hAt h i).2.1) (hAt h i).2.2.1 ∧ nexS (spAt specs (hAt h i).2.1) (stOf p.1 (hAt h i).2.1) (hAt h i).2.2.1 ≤ 8 := ⟨n4.1, by have := n4.2; unfold nexS; omega⟩
    refine ⟨okP2_to hs hc hp.1, putB_in hp.2.1 hi, ?_⟩
    unfold goOf stTo
    have := hp.2.2
    split <;> simp only <;> omega
  · cases e

theorem nxtQ_left {p p2 : Pl} (hp : okPl specs p) {i : Nat} (hi : i < 8) (e : nxtQ q specs h p i = some p2) : leftB p2 < leftB p := by
  unfold nxtQ at e
  split at e
  · rename_i hr
    injection e with e
    subst e
    unfold readyQ at hr
    simp only [Bool.and_eq_true, Bool.not_eq_true'] at hr
    exact left_put hp.2.1 hi hr.1.1
  · cases e

theorem CFQ_bound (hl : h.length ≤ 8) : ∀ (d : Nat) (p : Pl), CFQ q specs h d p ≤ 9 ^ d
  | 0, p => by simp [CFQ]
  | d + 1, p => by
    show (if fullB h p.2 = true then 1 else 0) + sumTo _ h.length ≤ 9 ^ (d + 1)
    have h1 : sumTo (fun i => contrib (CFQ q specs h d) (nxtQ q specs h p i)) h.length ≤ h.length * 9 ^ d := sumTo_bound fun i hi => by
      cases nxtQ q specs h p i with
      | none => exact Nat.zero_le _
      | some p2 => exact CFQ_bound hl d p2
    have h2 : h.length * 9 ^ d ≤ 8 * 9 ^ d := Nat.mul_le_mul_right _ hl
    have h3 : 0 < 9 ^ d := Nat.pow_pos (by omega)
    rw [Nat.pow_succ]
    split <;> omega

theorem CFQ_stable (hs : okSs specs = true) (hl : h.length ≤ 8) (hc : ∀ i, i < h.length → canC specs (hAt h i) = true) : ∀ (d d' : Nat) (p : Pl), okPl specs p → leftB p < d → leftB p < d' → CFQ q specs h d p = CFQ q specs h d' p
  | 0, _, _, _, hd, _ => by omega
  | d + 1, 0, _, _, _, hd => by omega
  | d + 1, d' + 1, p, hp, hd, hd' => by
    show _ + sumTo _ h.length = _ + sumTo _ h.length
    congr 1
    refine sumTo_same fun i hi => ?_
    cases e : nxtQ q specs h p i with
    | none => rfl
    | some p2 =>
      have := nxtQ_left hp (by omega) e
      exact CFQ_stable hs hl hc d d' p2 (nxtQ_ok hs hp (by omega) (hc i hi) e) (by omega) (by omega)

theorem CFQ_step (hs : okSs specs = true) (hl : h.length ≤ 8) (hc : ∀ i, i < h.length → canC specs (hAt h i) = true) (d : Nat) (p : Pl) (hp : okPl specs p) (hd : leftB p ≤ d) : CFQ q specs h (d + 1) p = (if fullB h p.2 = true then 1 else 0) + sumTo (fun i => contrib (CFQ q specs h (d + 1)) (nxtQ q specs h p i)) h.length := by
  have e1 : sumTo (fun i => contrib (CFQ q specs h d) (nxtQ q specs h p i)) h.length = sumTo (fun i => contrib (CFQ q specs h (d + 1)) (nxtQ q specs h p i)) h.length := sumTo_same fun i hi => by
    have key : ∀ o, nxtQ q specs h p i = o → contrib (CFQ q specs h d) o = contrib (CFQ q specs h (d + 1)) o := fun o e => by
      cases o with
      | none => rfl
      | some p2 =>
        have h1 := nxtQ_left hp (by omega) e
        exact CFQ_stable hs hl hc d (d + 1) p2 (nxtQ_ok hs hp (by omega) (hc i hi) e) (by omega) (by omega)
    exact key _ rfl
  rw [← e1]
  exact rfl

theorem CFQ_nine (hs : okSs specs = true) (hl : h.length ≤ 8) (hc : ∀ i, i < h.length → canC specs (hAt h i) = true) (p : Pl) (hp : okPl specs p) : CFQ q specs h 9 p = (if fullB h p.2 = true then 1 else 0) + sumTo (fun i => contrib (CFQ q specs h 9) (nxtQ q specs h p i)) h.length :=
  CFQ_step hs hl hc 8 p hp (leftB_le p)

end


section
variable {specs : List Tup} {h : List HC6}


theorem full_eq2 (hl : h.length ≤ 8) {p : Pl} (hp : okPl specs p) : history_search_full_2 specs h p = some (fullB h p.2) := by
  unfold history_search_full_2 fullB
  rw [loopB (body := history_search_full_2_b1 h p) h.length (fun j => decide ((hAt h j).2.2.2.2.2 = 0) || bitB p.2 j) (fun k hk => ?_) (by unfold history_search_full_2_b1; rw [if_neg (by simp)]), Option.bind_some]
  · cases allB h.length (fun j => decide ((hAt h j).2.2.2.2.2 = 0) || bitB p.2 j) <;> rfl
  · unfold history_search_full_2_b1
    rw [if_pos (by simpa using hk), ck_pos (by omega), ck_pos (by omega), Int.toNat_natCast]
    by_cases h0 : (h.getD k (0, 0, 0, 0, 0, 0)).2.2.2.2.2 = 0
    · rw [if_neg (by rw [decide_eq_true h0]; simp), ck_pos (inK_small (by omega))]
      unfold hAt; rw [decide_eq_true h0]; rfl
    · rw [if_pos (by rw [decide_eq_false h0]; rfl), place_has, Option.bind_some, iand_eq hp.2.1 (by omega)]
      unfold hAt; rw [decide_eq_false h0]
      cases hb : bitB p.2 k with
      | false => rfl
      | true => rw [if_neg (by simp), ck_pos (inK_small (by omega))]; rfl

theorem ready_eq2 (hl : h.length ≤ 8) {p : Pl} (hp : okPl specs p) {i : Nat} (hi : i < h.length) : history_search_ready_2 specs h p (i : Int) = some (readyQ thrB h p.2 i) := by
  unfold history_search_ready_2 readyQ
  rw [place_has, Option.bind_some, iand_eq hp.2.1 (by omega)]
  cases hb : bitB p.2 i with
  | true => rfl
  | false =>
    rw [if_neg (by simp)]
    rw [loopB (body := history_search_ready_2_b1 h p (i : Int)) h.length (fun j => !thrB (hAt h j) (hAt h i) || bitB p.2 j) (fun k hk => ?_) (by unfold history_search_ready_2_b1; rw [if_neg (by simp)]), Option.bind_some]
    · cases allB h.length (fun j => !thrB (hAt h j) (hAt h i) || bitB p.2 j) <;> rfl
    · unfold history_search_ready_2_b1
      rw [if_pos (by simpa using hk), ck_pos (by omega), ck_pos (by omega), ck_pos (by omega), ck_pos (by omega), Int.toNat_natCast, Int.toNat_natCast, inThread_eq, Option.bind_some]
      unfold hAt
      cases hbf : thrB (h.getD k (0, 0, 0, 0, 0, 0)) (h.getD i (0, 0, 0, 0, 0, 0)) with
      | false => rw [if_neg (by simp), ck_pos (inK_small (by omega))]; rfl
      | true =>
        rw [if_pos rfl, place_has, Option.bind_some, iand_eq hp.2.1 (by omega)]
        cases hb : bitB p.2 k with
        | false => rfl
        | true => rw [if_neg (by simp), ck_pos (inK_small (by omega))]; rfl

theorem steps_scan2 (hs : okSs specs = true) (hl : h.length ≤ 8) (hc : ∀ i, i < h.length → canC specs (hAt h i) = true) {p : Pl} (hp : okPl specs p) {S R : Type} (yl : Int × Pl → S → Option (Step S R)) (I : Nat → S → Prop) (G : R → Prop) {s0 : S} (h0 : I 0 s0)
    (hn : ∀ k, k < h.length → ∀ s, nxtQ thrB specs h p k = none → I k s → I (k + 1) s)
    (hy : ∀ k, k < h.length → ∀ s q, nxtQ thrB specs h p k = some q → I k s → (∃ s', yl ((k : Int), q) s = some (.next s') ∧ I (k + 1) s') ∨ ∃ r, yl ((k : Int), q) s = some (.done r) ∧ G r) :
    ∃ x, history_search_steps_1_2 S R specs h p yl s0 = some x ∧ match x with
      | .inl s => I h.length s
      | .inr r => G r := by
  obtain ⟨r, er, hr⟩ := scanI (R := Sum R S) h.length I (fun x : Sum R S => match x with
      | .inl r => G r
      | .inr s => I h.length s) (body := history_search_steps_1_2_b1 S R specs h p yl) (s0 := s0) h0 (fun k s hk hI => by
    unfold history_search_steps_1_2_b1
    simp only
    rw [if_pos (by simpa using hk), ck_pos (by omega), ck_pos (by omega), ready_eq2 hl hp hk, Option.bind_some, Int.toNat_natCast]
    cases hr : readyQ thrB h p.2 k with
    | false =>
      rw [if_pos (by rfl), ck_pos (inK_small (by omega))]
      exact .inl ⟨_, rfl, hn k hk s (by unfold nxtQ; rw [hr]; rfl) hI⟩
    | true =>
      have ha := allow_eq hs (hc k hk) hp.1
      rw [if_neg (by simp), show h.getD k (0, 0, 0, 0, 0, 0) = hAt h k from rfl, ha, Option.bind_some]
      cases hw : alwB specs p.1 (hAt h k) with
      | false =>
        simp only
        rw [if_pos (by rfl), ck_pos (inK_small (by omega))]
        exact .inl ⟨_, rfl, hn k hk s (by unfold nxtQ; rw [hr, hw]; rfl) hI⟩
      | true =>
        simp only
        rw [if_neg (by simp), ck_pos (by omega), ior_eq hp.2.1 (by omega)]
        rcases hy k hk s (goOf specs p.1 (hAt h k), putB p.2 k) (by unfold nxtQ; rw [hr, hw]; rfl) hI with ⟨s', e, hI'⟩ | ⟨r, e, hG⟩
        · rw [e, Option.bind_some]
          simp only
          rw [ck_pos (inK_small (by omega))]
          exact .inl ⟨_, rfl, hI'⟩
        · rw [e, Option.bind_some]
          exact .inr ⟨_, rfl, hG⟩) (fun s hI => by
    unfold history_search_steps_1_2_b1
    rw [if_neg (by simp)]
    exact ⟨_, rfl, hI⟩)
  unfold history_search_steps_1_2
  rw [er, Option.bind_some]
  cases r with
  | inl r => exact ⟨_, rfl, hr⟩
  | inr s => exact ⟨_, rfl, hr⟩

theorem count_eq2 (hs : okSs specs = true) (hl : h.length ≤ 8) (hc : ∀ i, i < h.length → canC specs (hAt h i) = true) (ok : Pl → Prop) (V μ : Pl → Nat) (hok : ∀ p, ok p → okPl specs p)
    (hstep : ∀ p, ok p → ∀ i q, i < h.length → nxtQ thrB specs h p i = some q → ok q ∧ μ q < μ p)
    (hV : ∀ p, ok p → V p = (if fullB h p.2 = true then 1 else 0) + sumTo (fun i => contrib V (nxtQ thrB specs h p i)) h.length) (hb : ∀ p, ok p → V p ≤ 1000000000) :
    ∀ (m : Nat) (p : Pl), ok p → μ p ≤ m → ∀ n, m < n → ∀ M, Mem V M → ∃ M', history_search_count_2 n specs h p M = some ((V p : Int), M') ∧ Mem V M' := by
  intro m
  induction m using Nat.strongRecOn with
  | _ m ih =>
    intro p hp hm n hn M hM
    obtain ⟨n, rfl⟩ : ∃ n', n = n' + 1 := ⟨n - 1, by omega⟩
    have hpl := hok p hp
    show ∃ M', history_search_count_2F (history_search_count_2 n) specs h p M = some ((V p : Int), M') ∧ Mem V M'
    have w := hpl.2
    have hi1 : InK .i64 p.1.1 := by rw [inK_i64]; omega
    have hi2 : InK .i64 p.1.2 := by rw [inK_i64]; omega
    have hi3 : InK .u64 p.2 := by rw [inK_u64]; omega
    unfold history_search_count_2F
    rw [ck_pos hi1, ck_pos hi2, ck_pos hi3]
    cases hh : mhas M p with
    | true =>
      rw [if_pos rfl]
      exact ⟨M, by rw [hM p hh], hM⟩
    | false =>
      rw [if_neg (by simp), full_eq2 hl hpl, Option.bind_some]
      have main : ∀ b0 : Nat, b0 = (if fullB h p.2 = true then 1 else 0) → ∃ M', history_search_count_2_k1 (history_search_count_2 n) specs h p M (b0 : Int) = some ((V p : Int), M') ∧ Mem V M' := by
        intro b0 hb0
        have hVp := hV p hp
        have hbp := hb p hp
        obtain ⟨x, ex, hx⟩ := steps_scan2 (S := List (Pl × Int) × Int) (R := Empty) hs hl hc hpl (history_search_count_2_y1 (history_search_count_2 n) specs h) (fun k s => Mem V s.1 ∧ s.2 = ((b0 + sumTo (fun i => contrib V (nxtQ thrB specs h p i)) k : Nat) : Int)) (fun _ => True) (s0 := (M, (b0 : Int))) ⟨hM, by simp [sumTo]⟩
          (fun k hk s hnx ⟨h1, h2⟩ => ⟨h1, by rw [h2]; show _ = ((b0 + (sumTo _ k + contrib V (nxtQ thrB specs h p k)) : Nat) : Int); rw [hnx]; rfl⟩)
          (fun k hk s q hnx ⟨h1, h2⟩ => by
            obtain ⟨o1, o2⟩ := hstep p hp k q hk hnx
            obtain ⟨M', e, hM'⟩ := ih (μ q) (by omega) q o1 (Nat.le_refl _) n (by omega) s.1 h1
            refine .inl ?_
            unfold history_search_count_2_y1
            simp only
            rw [e, Option.bind_some]
            simp only
            have hle := sumTo_le (fun i => contrib V (nxtQ thrB specs h p i)) (k := k + 1) (n := h.length) (by omega)
            have e1 : sumTo (fun i => contrib V (nxtQ thrB specs h p i)) (k + 1) = sumTo (fun i => contrib V (nxtQ thrB specs h p i)) k + V q := by
              show sumTo _ k + contrib V (nxtQ thrB specs h p k) = _
              rw [hnx]; rfl
            have e2 : s.2 + (V q : Int) = ((b0 + sumTo (fun i => contrib V (nxtQ thrB specs h p i)) (k + 1) : Nat) : Int) := by
              rw [h2, e1]; omega
            rw [e2]
            rw [ck_pos (by rw [inK_i64]; omega)]
            exact ⟨_, rfl, hM', rfl⟩)
        unfold history_search_count_2_k1
        rw [show history_search_steps_2 specs h p = some () from rfl, Option.bind_some, ex, Option.bind_some]
        cases x with
        | inr r => exact r.elim
        | inl s =>
          obtain ⟨h1, h2⟩ := hx
          have e3 : s.2 = (V p : Int) := by rw [h2, hVp, hb0]
          simp only
          unfold history_search_count_2_k2
          rw [ck_pos hi1, ck_pos hi2, ck_pos hi3, e3]
          exact ⟨_, rfl, h1.put p⟩
      cases hf : fullB h p.2 with
      | true => rw [if_pos rfl]; exact main 1 (by rw [hf]; rfl)
      | false => rw [if_neg (by simp)]; exact main 0 (by rw [hf]; rfl)

/-- A call of the same thread that is in front has returned. -/
theorem thr_bef (h1 : okH h = true) {i j : Nat} (hi : i < h.length) (hj : j < h.length) (ht : thrB (hAt h j) (hAt h i) = true) : bef (hAt h j) (hAt h i) = true := by
  unfold thrB at ht
  simp only [Bool.and_eq_true, decide_eq_true_eq] at ht
  have key : ∀ a b : Nat, a < b → b < h.length → apartC (hAt h b) (hAt h a) = true := fun a b hab hb => by
    have := okH_at h1 hb
    unfold okAt at this
    simp only [Bool.and_eq_true] at this
    exact allB_iff.1 this.2 a hab
  have c1 := okC_from (okH_getD h1 hi)
  have c2 := okC_from (okH_getD h1 hj)
  have hsplit : ∀ c d : HC6, apartC c d = true → c.1 = d.1 → bef c d = true ∨ bef d c = true := fun c d ha hcd => by
    unfold apartC at ha
    simp only [Bool.and_eq_true, Bool.or_eq_true, Bool.not_eq_true', decide_eq_false_iff_not] at ha
    rcases ha.2 with (h | h) | h
    · exact absurd hcd h
    · exact .inl h
    · exact .inr h
  have hno : ¬ bef (hAt h i) (hAt h j) = true := fun hb => by
    unfold bef at hb
    simp only [Bool.and_eq_true, Bool.not_eq_true', decide_eq_false_iff_not, decide_eq_true_eq] at hb
    have d1 : (hAt h i).2.2.2.2.2 = 0 ∨ (hAt h i).2.2.2.2.1 < (hAt h i).2.2.2.2.2 := c1.2.2.2.2.2.2.2.2.2.2.2.2.imp id fun z => z
    omega
  rcases Nat.lt_trichotomy i j with hij | hij | hij
  · rcases hsplit _ _ (key i j hij hj) ht.1 with hb | hb
    · exact hb
    · exact absurd hb hno
  · subst hij; omega
  · rcases hsplit _ _ (key j i hij hi) ht.1.symm with hb | hb
    · exact absurd hb hno
    · exact hb

theorem cnt2_eq (hs : okSs specs = true) (hl : h.length ≤ 8) (hc : ∀ i, i < h.length → canC specs (hAt h i) = true) : ∃ M, history_search_count_2 fuel specs h ((0, 0), 0) [] = some ((CFQ thrB specs h 9 ((0, 0), 0) : Int), M) := by
  have hV := fun p => CFQ_nine (q := thrB) hs hl hc p
  have hB := fun p => Nat.le_trans (CFQ_bound (q := thrB) (specs := specs) (h := h) hl 9 p) (show 9 ^ 9 ≤ 1000000000 by decide)
  generalize CFQ thrB specs h 9 = V at hV hB
  obtain ⟨M, e, _⟩ := count_eq2 hs hl hc (okPl specs) V leftB (fun _ h => h) (fun p hp i q hi e => ⟨nxtQ_ok hs hp (by omega) (hc i hi) e, nxtQ_left hp (by omega) e⟩)
    hV (fun p _ => hB p) 8 ((0, 0), 0) (okPl_zero hs) (leftB_le _) fuel (by decide) [] (fun p hp => by cases hp)
  exact ⟨M, e⟩

theorem Orderly_eq (hs : ∀ s ∈ specs, okS s) (hl : specs.length ≤ 1000) (hk : okSs specs = true) (h1 : okH h = true) (h2 : fitsB specs h = true) : history_Orderly specs h = some (decide (0 < CFQ thrB specs h 9 ((0, 0), 0)), 0) := by
  have e0 : errA specs h = 0 := by unfold errA; rw [hk, h1, h2]; rfl
  obtain ⟨M, e⟩ := cnt2_eq hk (okH_len h1) (fun i hi => can_of h1 h2 hi)
  unfold history_Orderly
  rw [checkFor_all hs hl, e0, Option.bind_some, if_pos (by rfl)]
  unfold history_told_27 history_Orderly_1
  rw [show history_newSearch_2 specs h = some () from rfl, Option.bind_some, e, Option.bind_some, Option.bind_some, Option.bind_some]
  congr 2
  exact decide_eq_decide.2 (by simp)

end

end Go.Proofs.Ytlfpagicagmjgaa
