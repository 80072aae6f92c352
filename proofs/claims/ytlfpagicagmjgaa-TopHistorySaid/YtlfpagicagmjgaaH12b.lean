/-
  Layer 2, pure: a history as it was.
-/
import Derived.Test.YtlfpagicagmjgaaH12a
import Derived.Test.YtlfpagicagmjgaaH3u
namespace Go.Proofs.Ytlfpagicagmjgaa
open Go.RowKit

set_option linter.unusedVariables false
set_option linter.unusedSimpArgs false
set_option maxRecDepth 10000

/-! ### The calls that have begun -/

def keptI (h : List HC6) (m : Int) : List Nat := (List.range h.length).filter fun i => begun m (hAt h i)

theorem until_map (h : List HC6) (m : Int) : untilA h m = (keptI h m).map fun i => cut m (hAt h i) := by
  have e : h.filter (begun m) = (keptI h m).map (hAt h) := by
    conv => lhs; rw [← range_at h]
    rw [List.filter_map]; rfl
  unfold untilA
  rw [e, List.map_map]; rfl

theorem until_len (h : List HC6) (m : Int) : (untilA h m).length = (keptI h m).length := by rw [until_map, List.length_map]

def kAt (h : List HC6) (m : Int) (j : Nat) : Nat := (keptI h m).getD j 0

theorem kAt_get {h : List HC6} {m : Int} {j : Nat} (hj : j < (keptI h m).length) : kAt h m j = (keptI h m)[j] := by
  unfold kAt
  rw [List.getD_eq_getElem?_getD, List.getElem?_eq_getElem hj]; rfl

theorem kAt_in {h : List HC6} {m : Int} {j : Nat} (hj : j < (keptI h m).length) : kAt h m j < h.length ∧ begun m (hAt h (kAt h m j)) = true := by
  rw [kAt_get hj]
  have := List.mem_filter.1 (List.getElem_mem hj)
  exact ⟨by simpa using this.1, this.2⟩

theorem kAt_lt {h : List HC6} {m : Int} {j k : Nat} (hk : k < j) (hj : j < (keptI h m).length) : kAt h m k < kAt h m j := by
  rw [kAt_get hj, kAt_get (by omega)]
  have hp : (keptI h m).Pairwise (· < ·) := List.Pairwise.filter _ List.pairwise_lt_range
  exact List.pairwise_iff_getElem.1 hp k j (by omega) hj hk

theorem kAt_inj {h : List HC6} {m : Int} {j k : Nat} (hj : j < (keptI h m).length) (hk : k < (keptI h m).length) (e : kAt h m j = kAt h m k) : j = k := by
  rcases Nat.lt_trichotomy j k with h1 | h1 | h1
  · have := kAt_lt h1 hk; omega
  · exact h1
  · have := kAt_lt h1 hj; omega

theorem kAt_surj {h : List HC6} {m : Int} {i : Nat} (hi : i < h.length) (hb : begun m (hAt h i) = true) : ∃ j, j < (keptI h m).length ∧ kAt h m j = i := by
  have : i ∈ keptI h m := List.mem_filter.2 ⟨by simpa using hi, hb⟩
  obtain ⟨j, hj, e⟩ := List.getElem_of_mem this
  exact ⟨j, hj, by rw [kAt_get hj, e]⟩

theorem until_at {h : List HC6} {m : Int} {j : Nat} (hj : j < (keptI h m).length) : hAt (untilA h m) j = cut m (hAt h (kAt h m j)) := by
  rw [until_map, kAt_get hj]
  unfold hAt
  rw [List.getD_eq_getElem?_getD, List.getElem?_map, List.getElem?_eq_getElem hj]; rfl

/-! ### It is a history -/

theorem apart_iff (c d : HC6) : apartC c d = true ↔ c.2.2.2.2.1 ≠ d.2.2.2.2.1 ∧ c.2.2.2.2.1 ≠ d.2.2.2.2.2 ∧ c.2.2.2.2.2 ≠ d.2.2.2.2.1 ∧ ¬ (c.2.2.2.2.2 ≠ 0 ∧ c.2.2.2.2.2 = d.2.2.2.2.2) ∧ (c.1 ≠ d.1 ∨ (c.2.2.2.2.2 ≠ 0 ∧ c.2.2.2.2.2 < d.2.2.2.2.1) ∨ (d.2.2.2.2.2 ≠ 0 ∧ d.2.2.2.2.2 < c.2.2.2.2.1)) := by
  unfold apartC bef
  generalize c.2.2.2.2.1 = a
  generalize c.2.2.2.2.2 = b
  generalize d.2.2.2.2.1 = a'
  generalize d.2.2.2.2.2 = b'
  generalize c.1 = t
  generalize d.1 = t'
  by_cases e1 : a = a' <;> by_cases e2 : a = b' <;> by_cases e3 : b = a' <;> by_cases e4 : b = 0 <;> by_cases e5 : b = b' <;> by_cases e6 : t = t' <;> by_cases e7 : b < a' <;> by_cases e8 : b' = 0 <;> by_cases e9 : b' < a <;> simp [*]

theorem cut_parts (m : Int) (c : HC6) : (cut m c).1 = c.1 ∧ (cut m c).2.1 = c.2.1 ∧ (cut m c).2.2.1 = c.2.2.1 ∧ (cut m c).2.2.2.2.1 = c.2.2.2.2.1 ∧ ((m < c.2.2.2.2.2 ∧ (cut m c).2.2.2.2.2 = 0) ∨ (c.2.2.2.2.2 ≤ m ∧ cut m c = c)) := by
  unfold cut
  split
  · rename_i h; exact ⟨rfl, rfl, rfl, rfl, .inl ⟨h, rfl⟩⟩
  · exact ⟨rfl, rfl, rfl, rfl, .inr ⟨by omega, rfl⟩⟩

theorem begun_iff (m : Int) (c : HC6) : begun m c = true ↔ c.2.2.2.2.1 ≤ m := by unfold begun; simp

theorem apart_cut {c d : HC6} {m : Int} (h : apartC c d = true) (h1 : 1 ≤ c.2.2.2.2.1) (h2 : 1 ≤ d.2.2.2.2.1) (b1 : begun m c = true) (b2 : begun m d = true) : apartC (cut m c) (cut m d) = true := by
  rw [begun_iff] at b1 b2
  rw [apart_iff] at h ⊢
  obtain ⟨c1, _, _, c4, c5⟩ := cut_parts m c
  obtain ⟨d1, _, _, d4, d5⟩ := cut_parts m d
  rw [c1, c4, d1, d4]
  obtain ⟨x1, x2, x3, x4, x5⟩ := h
  rcases c5 with ⟨c5, c6⟩ | ⟨c5, c6⟩ <;> rcases d5 with ⟨d5, d6⟩ | ⟨d5, d6⟩
  · rw [c6, d6]
    refine ⟨x1, by omega, by omega, fun k => k.1 rfl, ?_⟩
    rcases x5 with x5 | x5 | x5
    · exact .inl x5
    · omega
    · omega
  · rw [c6, d6]
    refine ⟨x1, by omega, by omega, fun k => k.1 rfl, ?_⟩
    rcases x5 with x5 | x5 | x5
    · exact .inl x5
    · omega
    · exact .inr (.inr x5)
  · rw [c6, d6]
    refine ⟨x1, by omega, by omega, fun k => k.1 k.2, ?_⟩
    rcases x5 with x5 | x5 | x5
    · exact .inl x5
    · exact .inr (.inl x5)
    · omega
  · rw [c6, d6]
    exact ⟨x1, x2, x3, x4, x5⟩

theorem okH_until {h : List HC6} (hok : okH h = true) (m : Int) : okH (untilA h m) = true := by
  have h8 := okH_len hok
  have hkl : (keptI h m).length ≤ h.length := by
    unfold keptI
    exact Nat.le_trans (List.length_filter_le _ _) (by simp)
  unfold okH
  rw [until_len]
  simp only [Bool.and_eq_true, decide_eq_true_eq]
  refine ⟨by omega, allB_iff.2 fun j hj => ?_⟩
  obtain ⟨k1, k2⟩ := kAt_in hj
  have ha := okH_at hok k1
  unfold okAt at ha ⊢
  simp only [Bool.and_eq_true] at ha ⊢
  have e : ∀ i, (untilA h m).getD i (0, 0, 0, 0, 0, 0) = hAt (untilA h m) i := fun _ => rfl
  rw [e, until_at hj]
  refine ⟨okC_cut ha.1 m, allB_iff.2 fun k hk => ?_⟩
  rw [e, until_at (by omega)]
  obtain ⟨q1, q2⟩ := kAt_in (show k < (keptI h m).length by omega)
  have hap := allB_iff.1 ha.2 _ (kAt_lt hk hj)
  exact apart_cut hap (okC_from (okH_getD hok k1)).1 (okC_from (okH_getD hok q1)).1 k2 q2

theorem fits_until {specs : List Tup} {h : List HC6} (hf : fitsB specs h = true) (m : Int) : fitsB specs (untilA h m) = true := by
  unfold fitsB at hf ⊢
  rw [until_len]
  refine allB_iff.2 fun j hj => ?_
  obtain ⟨k1, _⟩ := kAt_in hj
  have := allB_iff.1 hf _ k1
  show fitC specs (hAt (untilA h m) j) = true
  rw [until_at hj]
  obtain ⟨_, c2, c3, _⟩ := cut_parts m (hAt h (kAt h m j))
  unfold fitC at this ⊢
  rw [c2, c3]
  exact this

/-! ### It was linearisable -/

section
variable {specs : List Tup} {h : List HC6} {m : Int}

/-- The place of the history as it was, for one of the history, of calls that have begun. -/
def atMoment (h : List HC6) (m : Int) (p p' : Pl) : Prop := p'.1 = p.1 ∧ (∀ j, j < (keptI h m).length → bitB p'.2 j = bitB p.2 (kAt h m j)) ∧ ∀ i, i < h.length → bitB p.2 i = true → begun m (hAt h i) = true

theorem go_cut (s : Int × Int) (c : HC6) : goOf specs s (cut m c) = goOf specs s c := by
  obtain ⟨_, c2, c3, _⟩ := cut_parts m c
  unfold goOf
  rw [c2, c3]

theorem alw_cut {s : Int × Int} {c : HC6} (hw : alwB specs s c = true) : alwB specs s (cut m c) = true := by
  obtain ⟨_, c2, c3, _, c5⟩ := cut_parts m c
  rcases c5 with ⟨_, c5⟩ | ⟨_, c5⟩
  · unfold alwB; rw [c5]; rfl
  · rw [c5]; exact hw

theorem bef_cut {c d : HC6} (hb : bef (cut m c) (cut m d) = true) : bef c d = true := by
  obtain ⟨_, _, _, c4, c5⟩ := cut_parts m c
  obtain ⟨_, _, _, d4, _⟩ := cut_parts m d
  unfold bef at hb ⊢
  rw [d4] at hb
  rcases c5 with ⟨_, c5⟩ | ⟨_, c5⟩
  · rw [c5] at hb; simp at hb
  · rw [c5] at hb; exact hb

theorem was_linear (hs : okSs specs = true) (h1 : okH h = true) (h2 : fitsB specs h = true) : ∀ (d : Nat) (p p' : Pl), okPl specs p → okPl specs p' → atMoment h m p p' → 0 < CF specs h d p → 0 < CF specs (untilA h m) 9 p'
  | 0, p, p', _, _, _, hc => by simp [CF] at hc
  | d + 1, p, p', hp, hp', ⟨r1, r2, r3⟩, hc => by
    have h8 := okH_len h1
    have u1 := okH_until h1 m
    have u2 := fits_until h2 m
    have u8 := okH_len u1
    have hul := until_len h m
    have e9 := CF_nine hs u8 (fun i hi => can_of u1 u2 hi) p' hp'
    have hfull : fullB (untilA h m) p'.2 = true → 0 < CF specs (untilA h m) 9 p' := fun hf => by
      rw [e9, hf, if_pos rfl]; omega
    rw [CF_succ] at hc
    cases hf : fullB h p.2 with
    | true =>
      refine hfull ?_
      unfold fullB at hf ⊢
      rw [hul]
      refine allB_iff.2 fun j hj => ?_
      obtain ⟨k1, k2⟩ := kAt_in hj
      have := allB_iff.1 hf _ k1
      rw [until_at hj, r2 j hj]
      obtain ⟨_, _, _, _, c5⟩ := cut_parts m (hAt h (kAt h m j))
      rcases c5 with ⟨_, c5⟩ | ⟨_, c5⟩
      · rw [c5]; rfl
      · rw [c5]; exact this
    | false =>
      rw [hf] at hc
      simp only [Bool.false_eq_true, if_false, Nat.zero_add] at hc
      obtain ⟨i, hi, hci⟩ := sumTo_some hc
      cases e : nxt specs h p i with
      | none => simp only [e, contrib] at hci; omega
      | some q =>
        simp only [e, contrib] at hci
        have hq := nxt_ok hs hp (by omega) (can_of h1 h2 hi) e
        have e0 := e
        unfold nxt at e
        split at e
        · rename_i hra
          injection e with e
          simp only [Bool.and_eq_true] at hra
          obtain ⟨hr, ha⟩ := hra
          unfold readyB at hr
          simp only [Bool.and_eq_true, Bool.not_eq_true'] at hr
          obtain ⟨hr1, hr2⟩ := hr
          by_cases hb : begun m (hAt h i) = true
          · obtain ⟨j, hj, hji⟩ := kAt_surj hi hb
            subst hji
            have hx : nxt specs (untilA h m) p' j = some (goOf specs p'.1 (hAt (untilA h m) j), putB p'.2 j) := by
              unfold nxt
              have w1 : readyB (untilA h m) p'.2 j = true := by
                unfold readyB
                rw [r2 j hj, hr1, hul]
                simp only [Bool.not_false, Bool.true_and]
                refine allB_iff.2 fun k hk => ?_
                rw [r2 k hk, until_at hk, until_at hj]
                obtain ⟨k1, _⟩ := kAt_in hk
                have := allB_iff.1 hr2 _ k1
                cases hbf : bef (cut m (hAt h (kAt h m k))) (cut m (hAt h (kAt h m j))) with
                | false => rfl
                | true => rw [bef_cut hbf] at this; exact this
              have w2 : alwB specs p'.1 (hAt (untilA h m) j) = true := by
                rw [until_at hj, r1]; exact alw_cut ha
              rw [w1, w2]; rfl
            have hxok := nxt_ok hs hp' (by omega) (can_of u1 u2 (by rw [hul]; exact hj)) hx
            have ih := was_linear hs h1 h2 d q (goOf specs p'.1 (hAt (untilA h m) j), putB p'.2 j) hq hxok (by
              subst e
              refine ⟨by rw [until_at hj, r1]; exact go_cut _ _, fun k hk => ?_, fun k hk hbk => ?_⟩
              · show bitB (putB p'.2 j) k = bitB (putB p.2 (kAt h m j)) (kAt h m k)
                rw [bit_put, bit_put, r2 k hk]
                congr 1
                exact decide_eq_decide.2 ⟨fun e => by rw [e], fun e => kAt_inj hj hk e⟩
              · have hbk' : bitB (putB p.2 (kAt h m j)) k = true := hbk
                rw [bit_put] at hbk'
                rcases Bool.or_eq_true_iff.1 hbk' with h9 | h9
                · exact r3 k hk h9
                · have := of_decide_eq_true h9
                  rw [← this]; exact hb) hci
            rw [e9]
            have := sumTo_at (f := fun i => contrib (CF specs (untilA h m) 9) (nxt specs (untilA h m) p' i)) (k := j) (n := (untilA h m).length) (by rw [hul]; exact hj)
            simp only [hx] at this
            have h9 : contrib (CF specs (untilA h m) 9) (some (goOf specs p'.1 (hAt (untilA h m) j), putB p'.2 j)) = CF specs (untilA h m) 9 (goOf specs p'.1 (hAt (untilA h m) j), putB p'.2 j) := rfl
            rw [h9] at this
            omega
          · refine hfull ?_
            rw [begun_iff] at hb
            unfold fullB
            rw [hul]
            refine allB_iff.2 fun j hj => ?_
            obtain ⟨k1, k2⟩ := kAt_in hj
            rw [until_at hj, r2 j hj]
            obtain ⟨_, _, _, _, c5⟩ := cut_parts m (hAt h (kAt h m j))
            rcases c5 with ⟨_, c5⟩ | ⟨c6, c5⟩
            · rw [c5]; rfl
            · rw [c5]
              have := allB_iff.1 hr2 _ k1
              by_cases ht : (hAt h (kAt h m j)).2.2.2.2.2 = 0
              · rw [decide_eq_true ht]; rfl
              · have hbf : bef (hAt h (kAt h m j)) (hAt h i) = true := by
                  unfold bef
                  rw [decide_eq_false ht, decide_eq_true (by omega)]; rfl
                rw [hbf] at this
                rw [decide_eq_false ht]; exact this
        · cases e

theorem was_cnt (hs : okSs specs = true) (h1 : okH h = true) (h2 : fitsB specs h = true) (hc : 0 < cntA specs h) : 0 < cntA specs (untilA h m) :=
  was_linear hs h1 h2 9 _ _ (okPl_zero hs) (okPl_zero hs) ⟨rfl, fun j hj => by
    have z : ∀ i, bitB 0 i = false := fun i => by unfold bitB; simp
    rw [z, z], fun i hi hb => by
    have z : bitB 0 i = false := by unfold bitB; simp
    rw [z] at hb; cases hb⟩ hc

end

/-! ### A history at a moment, at an earlier one -/

theorem until_cons (c : HC6) (r : List HC6) (m : Int) : untilA (c :: r) m = if begun m c = true then cut m c :: untilA r m else untilA r m := by
  unfold untilA
  rw [List.filter_cons]
  split <;> rfl

theorem until_until {a b : Int} (ha : 0 ≤ a) (hab : a ≤ b) : ∀ h : List HC6, untilA (untilA h b) a = untilA h a
  | [] => rfl
  | c :: r => by
    have ih := until_until ha hab r
    obtain ⟨_, _, _, c4, c5⟩ := cut_parts b c
    have hbc : begun a (cut b c) = begun a c := by unfold begun; rw [c4]
    have hcc : cut a (cut b c) = cut a c := by
      rcases c5 with ⟨c5, c6⟩ | ⟨c5, c6⟩
      · unfold cut
        rw [if_pos c5, if_neg (by simp only; omega), if_pos (by omega)]
      · rw [c6]
    rw [until_cons c r b, until_cons c r a]
    by_cases h1 : begun a c = true
    · have h2 : begun b c = true := by rw [begun_iff] at h1 ⊢; omega
      rw [if_pos h1, if_pos h2, until_cons, hbc, if_pos h1, hcc, ih]
    · rw [if_neg h1]
      by_cases h2 : begun b c = true
      · rw [if_pos h2, until_cons, hbc, if_neg h1, ih]
      · rw [if_neg h2, ih]

theorem until_all : ∀ h : List HC6, (∀ c ∈ h, okC c = true) → untilA h 100 = h
  | [], _ => rfl
  | c :: r, hc => by
    have h1 := okC_from (hc c (List.mem_cons_self ..))
    rw [until_cons, until_all r fun d hd => hc d (List.mem_cons_of_mem _ hd), if_pos ((begun_iff _ _).2 h1.2.1)]
    unfold cut
    rw [if_neg (by omega)]

end Go.Proofs.Ytlfpagicagmjgaa
