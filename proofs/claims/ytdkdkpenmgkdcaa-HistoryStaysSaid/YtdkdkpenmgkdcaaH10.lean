/-
  Layer 2, pure: HistoryStays.
-/
import Derived.Test.YtdkdkpenmgkdcaaH10o
import Derived.Test.YtdkdkpenmgkdcaaH3p
namespace Go.Proofs.Ytdkdkpenmgkdcaa
open Go.RowKit

set_option linter.unusedVariables false
set_option linter.unusedSimpArgs false
set_option maxRecDepth 10000

/-! ### A longer call takes no order away -/

/-- The second history asks for no more than the first one. -/
structure Looser (h h' : List HC6) : Prop where
  len : h'.length = h.length
  call : ∀ i, i < h.length → (hAt h' i).2.1 = (hAt h i).2.1 ∧ (hAt h' i).2.2.1 = (hAt h i).2.2.1 ∧ (hAt h' i).2.2.2.1 = (hAt h i).2.2.2.1 ∧ ((hAt h' i).2.2.2.2.2 = 0 ↔ (hAt h i).2.2.2.2.2 = 0)
  less : ∀ i j, i < h.length → j < h.length → bef (hAt h' j) (hAt h' i) = true → bef (hAt h j) (hAt h i) = true

theorem full_loose {h h' : List HC6} (L : Looser h h') (b : Int) : fullB h' b = fullB h b := by
  unfold fullB
  rw [L.len]
  refine allB_congr fun j hj => ?_
  rw [decide_eq_decide.2 (L.call j hj).2.2.2]

theorem nxt_loose {specs : List Tup} {h h' : List HC6} (L : Looser h h') {p q : Pl} {i : Nat} (hi : i < h.length) (e : nxt specs h p i = some q) : nxt specs h' p i = some q := by
  obtain ⟨c1, c2, c3, c4⟩ := L.call i hi
  have hsay : sayOf specs p.1 (hAt h' i) = sayOf specs p.1 (hAt h i) := by unfold sayOf; rw [c1, c2]
  have hgo : goOf specs p.1 (hAt h' i) = goOf specs p.1 (hAt h i) := by unfold goOf; rw [c1, c2]
  have halw : alwB specs p.1 (hAt h' i) = alwB specs p.1 (hAt h i) := by
    unfold alwB
    rw [hsay, c3, decide_eq_decide.2 c4]
  unfold nxt at e ⊢
  split at e
  · rename_i hr
    simp only [Bool.and_eq_true] at hr
    have hr' : readyB h' p.2 i = true := by
      have h0 := hr.1
      unfold readyB at h0 ⊢
      simp only [Bool.and_eq_true] at h0 ⊢
      refine ⟨h0.1, allB_iff.2 fun j hj => ?_⟩
      rw [L.len] at hj
      have := allB_iff.1 h0.2 j hj
      cases hb : bef (hAt h' j) (hAt h' i) with
      | false => rfl
      | true => rw [L.less i j hi hj hb] at this; exact this
    rw [hr', halw, hr.2, hgo]
    exact e
  · cases e

theorem CF_loose {specs : List Tup} {h h' : List HC6} (L : Looser h h') : ∀ (d : Nat) (p : Pl), CF specs h d p ≤ CF specs h' d p
  | 0, p => Nat.le_refl _
  | d + 1, p => by
    show (if fullB h p.2 = true then 1 else 0) + sumTo _ h.length ≤ (if fullB h' p.2 = true then 1 else 0) + sumTo _ h'.length
    rw [full_loose L, L.len]
    refine Nat.add_le_add_left (sumTo_mono fun i hi => ?_) _
    cases e : nxt specs h p i with
    | none => exact Nat.zero_le _
    | some q => rw [nxt_loose L hi e]; exact CF_loose L d q

theorem lng_at {h : List HC6} {c : Nat} (hc : c < h.length) (f t : Int) (j : Nat) : hAt (lng h c f t) j = if j = c then ((hAt h c).1, (hAt h c).2.1, (hAt h c).2.2.1, (hAt h c).2.2.2.1, f, t) else hAt h j := by
  have g1 : ∀ (l : List HC6) (b : HC6), c < l.length → (l.set c b).getD c (0, 0, 0, 0, 0, 0) = b := fun l b hl => by
    rw [List.getD_eq_getElem?_getD, List.getElem?_set_self hl]; rfl
  have g2 : ∀ (l : List HC6) (b : HC6), j ≠ c → (l.set c b).getD j (0, 0, 0, 0, 0, 0) = l.getD j (0, 0, 0, 0, 0, 0) := fun l b hn => by
    rw [List.getD_eq_getElem?_getD, List.getElem?_set_ne (fun e => hn e.symm), ← List.getD_eq_getElem?_getD]
  unfold hAt lng
  by_cases e : j = c
  · subst e
    rw [if_pos rfl, g1 _ _ (by rw [List.length_set]; exact hc), g1 _ _ hc]; rfl
  · rw [if_neg e, g2 _ _ e, g2 _ _ e]

theorem lng_len (h : List HC6) (c : Nat) (f t : Int) : (lng h c f t).length = h.length := by
  unfold lng
  rw [List.length_set, List.length_set]

theorem lng_loose {h : List HC6} {c : Nat} (hc : c < h.length) {f t : Int} (h0 : ¬ (hAt h c).2.2.2.2.2 = 0) (hpos : 0 ≤ (hAt h c).2.2.2.2.2) (hf : f ≤ (hAt h c).2.2.2.2.1) (ht : (hAt h c).2.2.2.2.2 ≤ t) : Looser h (lng h c f t) := by
  refine ⟨lng_len h c f t, fun i hi => ?_, fun i j hi hj hb => ?_⟩
  · rw [lng_at hc]
    by_cases e : i = c
    · subst e
      rw [if_pos rfl]
      exact ⟨rfl, rfl, rfl, ⟨fun (k : t = 0) => by omega, fun k => absurd k h0⟩⟩
    · rw [if_neg e]; exact ⟨rfl, rfl, rfl, Iff.rfl⟩
  · rw [lng_at hc, lng_at hc] at hb
    unfold bef at hb ⊢
    simp only [Bool.and_eq_true, Bool.not_eq_true', decide_eq_true_eq, decide_eq_false_iff_not] at hb ⊢
    by_cases e1 : j = c
    · rw [if_pos e1] at hb
      rw [e1]
      by_cases e2 : i = c
      · rw [if_pos e2] at hb
        rw [e2]
        simp only at hb
        exact ⟨h0, by omega⟩
      · rw [if_neg e2] at hb
        simp only at hb
        exact ⟨h0, by omega⟩
    · rw [if_neg e1] at hb
      by_cases e2 : i = c
      · rw [if_pos e2] at hb
        rw [e2]
        simp only at hb
        exact ⟨hb.1, by omega⟩
      · rw [if_neg e2] at hb
        exact hb

theorem lng_fits {specs : List Tup} {h : List HC6} {c : Nat} (hc : c < h.length) (f t : Int) (h2 : fitsB specs h = true) : fitsB specs (lng h c f t) = true := by
  unfold fitsB at h2 ⊢
  rw [lng_len]
  refine allB_iff.2 fun k hk => ?_
  have := allB_iff.1 h2 k hk
  show fitC specs (hAt (lng h c f t) k) = true
  rw [lng_at hc]
  by_cases e : k = c
  · subst e; rw [if_pos rfl]; exact this
  · rw [if_neg e]; exact this

theorem HistoryStays_eq (specs : List Tup) (hf : fewS specs) (h : List HC6) (v : Int × Int × Int) (hv : okEl (.pair (.int .u8) (.pair (.int .u8) (.int .u8))) v) : lineallaw02_HistoryStays specs h v = some true := by
  obtain ⟨v1, v2, v3⟩ := hv
  have w1 := (inK_u8 _).1 v1
  have w2 := (inK_u8 _).1 v2
  have w3 := (inK_u8 _).1 v3
  unfold lineallaw02_HistoryStays
  rw [Large_eq specs hf, Option.bind_some]
  cases hlg : (allB specs.length (fun k => fit (specs.getD k (0, 0, [], []))) && decide (specs.length ≤ 5)) with
  | false => rw [if_pos (by simp), Sane_eq]; rfl
  | true =>
    simp only [Bool.and_eq_true, decide_eq_true_eq] at hlg
    have hs : ∀ s ∈ specs, okS s := fun s hs => by
      obtain ⟨k, hk, e⟩ := List.getElem_of_mem hs
      have := allB_iff.1 hlg.1 k hk
      have e2 : specs.getD k (0, 0, [], []) = s := by rw [List.getD_eq_getElem?_getD, List.getElem?_eq_getElem hk, e]; rfl
      rw [e2] at this
      exact okS_of s this
    have hsl : specs.length ≤ 1000 := by omega
    rw [if_neg (by simp), Long_eq2, Option.bind_some]
    by_cases hl : 40 < h.length
    · rw [if_pos (by simp; omega), Sane_eq]; rfl
    have hF : lineallaw02_isFor specs h = some (okSs specs && (okH h && fitsB specs h)) := by
      unfold lineallaw02_isFor
      rw [rFor_eq specs hs hsl h, Option.bind_some]
      cases okSs specs <;> rfl
    rw [if_neg (by simp; omega), hF, Option.bind_some]
    cases hall : (okSs specs && (okH h && fitsB specs h)) with
    | false => rw [if_pos (by rfl), Sane_eq]; rfl
    | true =>
      simp only [Bool.and_eq_true] at hall
      obtain ⟨hk, h1, h2⟩ := hall
      rw [if_neg (by simp)]
      by_cases hn : h.length = 0
      · rw [if_pos (by simp [hn]), Sane_eq]; rfl
      have hn0 : (0 : Int) < (h.length : Int) := by omega
      have m1 : 0 ≤ v.1 % (h.length : Int) := Int.emod_nonneg _ (by omega)
      have m2 : v.1 % (h.length : Int) < (h.length : Int) := Int.emod_lt_of_pos _ hn0
      have hclt : (v.1 % (h.length : Int)).toNat < h.length := by omega
      obtain ⟨c, hcd⟩ : ∃ c : Nat, c = (v.1 % (h.length : Int)).toNat := ⟨_, rfl⟩
      have hcI : v.1 % (h.length : Int) = (c : Int) := by omega
      rw [← hcd] at hclt
      have hok := okC_from (okH_getD h1 hclt)
      rw [if_neg (by rw [decide_eq_true_eq]; omega), hcI]
      simp only [Int.toNat_natCast]
      have d1 : 0 ≤ v.2.1 % 8 ∧ v.2.1 % 8 < 8 := ⟨Int.emod_nonneg _ (by omega), Int.emod_lt_of_pos _ (by omega)⟩
      have d2 : 0 ≤ v.2.2 % 8 ∧ v.2.2 % 8 < 8 := ⟨Int.emod_nonneg _ (by omega), Int.emod_lt_of_pos _ (by omega)⟩
      rw [ck_pos (by rw [inK_i64]; omega), ck_pos w1.1, ck_pos hn0, ck_pos (by omega), ck_pos (by omega), ck_pos (by rw [inK_i64]; omega), ck_pos w2.1, ck_pos (by rw [inK_i64]; omega), ck_pos (by omega), ck_pos (by omega), ck_pos (by rw [inK_i64]; omega), ck_pos w3.1, ck_pos (by rw [inK_i64]; omega)]
      rw [Linear_eq hs hsl hk h1 h2, Option.bind_some, Orders_eq hs hsl hk h1 h2, Option.bind_some, if_neg (by simp), if_neg (by simp), Longer_eq h _ _ _ (by omega), Option.bind_some]
      rw [Int.toNat_natCast]
      generalize hfd : max ((h.getD c (0, 0, 0, 0, 0, 0)).2.2.2.2.1 - v.2.1 % 8) 1 = f
      generalize htd : (h.getD c (0, 0, 0, 0, 0, 0)).2.2.2.2.2 + v.2.2 % 8 = t
      cases hb : (lngB h (c : Int) f t && okH (lng h c f t)) with
      | false =>
        have hA : lngA h (lngB h (c : Int) f t) (lng h c f t) = ([], 2) := by unfold lngA; rw [if_pos h1, hb]; rfl
        rw [hA, if_pos (by rfl), if_pos (by rfl), if_pos (by rfl), Sane_eq]; rfl
      | true =>
        have hb0 := hb
        simp only [Bool.and_eq_true] at hb
        obtain ⟨b1, b2⟩ := hb
        unfold lngB at b1
        simp only [Bool.and_eq_true, Bool.not_eq_true', decide_eq_true_eq, decide_eq_false_iff_not, Int.toNat_natCast] at b1
        obtain ⟨_, b3, b4, b5⟩ := b1
        have hL := lng_loose hclt (f := f) (t := t) b3 (show 0 ≤ (h.getD c (0, 0, 0, 0, 0, 0)).2.2.2.2.2 by omega) b4 b5
        have hle : cntA specs h ≤ cntA specs (lng h c f t) := CF_loose hL 9 _
        have hA : lngA h (lngB h (c : Int) f t) (lng h c f t) = (lng h c f t, 0) := by unfold lngA; rw [if_pos h1, hb0]; rfl
        rw [hA, if_neg (by simp), Linear_eq hs hsl hk b2 (lng_fits hclt f t h2), Option.bind_some, Orders_eq hs hsl hk b2 (lng_fits hclt f t h2), Option.bind_some, if_pos (by rfl), if_pos (by rfl)]
        have hle' : decide ((cntA specs h : Int) ≤ (cntA specs (lng h c f t) : Int)) = true := decide_eq_true (by omega)
        simp only
        by_cases h9 : 0 < cntA specs h
        · rw [decide_eq_true h9, decide_eq_true (show 0 < cntA specs (lng h c f t) by omega), if_neg (by simp), if_pos rfl, if_pos hle', Sane_eq]; rfl
        · rw [decide_eq_false h9, if_pos (by rfl), if_pos hle', Sane_eq]; rfl

end Go.Proofs.Ytdkdkpenmgkdcaa
