/-
  Layer 2, pure: a longer call takes no order away.
-/
import Derived.Test.YtlfpagicagmjgaaH10a
import Derived.Test.YtlfpagicagmjgaaH3p
namespace Go.Proofs.Ytlfpagicagmjgaa
open Go.RowKit

set_option linter.unusedVariables false
set_option linter.unusedSimpArgs false
set_option maxRecDepth 10000

/-! ### A longer call takes no order away -/

/-- The second history asks for no more than the first one. -/
structure Looser (h h' : List HC6) : Prop where
  len : h'.length = h.length
  call : ∀ i, i < h.length → (hAt h' i).2.1 = (hAt h i).2.1 ∧ (hAt h' i).2.2.1 = (hAt h i).2.2.1 ∧ (hAt h' i).2.2.2.1 = (hAt h i).2.2.2.1 ∧ ((hAt h' i).2.2.2.2.2 = 0 ↔ (hAt h i).2.2.2.2.2 = 0)
  less : ∀ i j, i < h.length → j < h.length → bef (hAt h' j) (hAt h' i) = true → bef (hAt h j) (hAt h i) = true

theorem full_loose {h h' : List HC6} (L : Looser h h') (b : Int) : fullB h' b = fullB h b := by
  unfold fullB
  rw [L.len]
  refine allB_congr fun j hj => ?_
  rw [decide_eq_decide.2 (L.call j hj).2.2.2]

theorem nxt_loose {specs : List Tup} {h h' : List HC6} (L : Looser h h') {p q : Pl} {i : Nat} (hi : i < h.length) (e : nxt specs h p i = some q) : nxt specs h' p i = some q := by
  obtain ⟨c1, c2, c3, c4⟩ := L.call i hi
  have hsay : sayOf specs p.1 (hAt h' i) = sayOf specs p.1 (hAt h i) := by unfold sayOf; rw [c1, c2]
  have hgo : goOf specs p.1 (hAt h' i) = goOf specs p.1 (hAt h i) := by unfold goOf; rw [c1, c2]
  have halw : alwB specs p.1 (hAt h' i) = alwB specs p.1 (hAt h i) := by
    unfold alwB
    rw [hsay, c3, decide_eq_decide.2 c4]
  unfold nxt at e ⊢
  split at e
  · rename_i hr
    simp only [Bool.and_eq_true] at hr
    have hr' : readyB h' p.2 i = true := by
      have h0 := hr.1
      unfold readyB at h0 ⊢
      simp only [Bool.and_eq_true] at h0 ⊢
      refine ⟨h0.1, allB_iff.2 fun j hj => ?_⟩
      rw [L.len] at hj
      have := allB_iff.1 h0.2 j hj
      cases hb : bef (hAt h' j) (hAt h' i) with
      | false => rfl
      | true => rw [L.less i j hi hj hb] at this; exact this
    rw [hr', halw, hr.2, hgo]
    exact e
  · cases e

theorem CF_loose {specs : List Tup} {h h' : List HC6} (L : Looser h h') : ∀ (d : Nat) (p : Pl), CF specs h d p ≤ CF specs h' d p
  | 0, p => Nat.le_refl _
  | d + 1, p => by
    show (if fullB h p.2 = true then 1 else 0) + sumTo _ h.length ≤ (if fullB h' p.2 = true then 1 else 0) + sumTo _ h'.length
    rw [full_loose L, L.len]
    refine Nat.add_le_add_left (sumTo_mono fun i hi => ?_) _
    cases e : nxt specs h p i with
    | none => exact Nat.zero_le _
    | some q => rw [nxt_loose L hi e]; exact CF_loose L d q

theorem lng_at {h : List HC6} {c : Nat} (hc : c < h.length) (f t : Int) (j : Nat) : hAt (lng h c f t) j = if j = c then ((hAt h c).1, (hAt h c).2.1, (hAt h c).2.2.1, (hAt h c).2.2.2.1, f, t) else hAt h j := by
  have g1 : ∀ (l : List HC6) (b : HC6), c < l.length → (l.set c b).getD c (0, 0, 0, 0, 0, 0) = b := fun l b hl => by
    rw [List.getD_eq_getElem?_getD, List.getElem?_set_self hl]; rfl
  have g2 : ∀ (l : List HC6) (b : HC6), j ≠ c → (l.set c b).getD j (0, 0, 0, 0, 0, 0) = l.getD j (0, 0, 0, 0, 0, 0) := fun l b hn => by
    rw [List.getD_eq_getElem?_getD, List.getElem?_set_ne (fun e => hn e.symm), ← List.getD_eq_getElem?_getD]
  unfold hAt lng
  by_cases e : j = c
  · subst e
    rw [if_pos rfl, g1 _ _ (by rw [List.length_set]; exact hc), g1 _ _ hc]; rfl
  · rw [if_neg e, g2 _ _ e, g2 _ _ e]

theorem lng_len (h : List HC6) (c : Nat) (f t : Int) : (lng h c f t).length = h.length := by
  unfold lng
  rw [List.length_set, List.length_set]

theorem lng_loose {h : List HC6} {c : Nat} (hc : c < h.length) {f t : Int} (h0 : ¬ (hAt h c).2.2.2.2.2 = 0) (hpos : 0 ≤ (hAt h c).2.2.2.2.2) (hf : f ≤ (hAt h c).2.2.2.2.1) (ht : (hAt h c).2.2.2.2.2 ≤ t) : Looser h (lng h c f t) := by
  refine ⟨lng_len h c f t, fun i hi => ?_, fun i j hi hj hb => ?_⟩
  · rw [lng_at hc]
    by_cases e : i = c
    · subst e
      rw [if_pos rfl]
      exact ⟨rfl, rfl, rfl, ⟨fun (k : t = 0) => by omega, fun k => absurd k h0⟩⟩
    · rw [if_neg e]; exact ⟨rfl, rfl, rfl, Iff.rfl⟩
  · rw [lng_at hc, lng_at hc] at hb
    unfold bef at hb ⊢
    simp only [Bool.and_eq_true, Bool.not_eq_true', decide_eq_true_eq, decide_eq_false_iff_not] at hb ⊢
    by_cases e1 : j = c
    · rw [if_pos e1] at hb
      rw [e1]
      by_cases e2 : i = c
      · rw [if_pos e2] at hb
        rw [e2]
        simp only at hb
        exact ⟨h0, by omega⟩
      · rw [if_neg e2] at hb
        simp only at hb
        exact ⟨h0, by omega⟩
    · rw [if_neg e1] at hb
      by_cases e2 : i = c
      · rw [if_pos e2] at hb
        rw [e2]
        simp only at hb
        exact ⟨hb.1, by omega⟩
      · rw [if_neg e2] at hb
        exact hb

theorem lng_fits {specs : List Tup} {h : List HC6} {c : Nat} (hc : c < h.length) (f t : Int) (h2 : fitsB specs h = true) : fitsB specs (lng h c f t) = true := by
  unfold fitsB at h2 ⊢
  rw [lng_len]
  refine allB_iff.2 fun k hk => ?_
  have := allB_iff.1 h2 k hk
  show fitC specs (hAt (lng h c f t) k) = true
  rw [lng_at hc]
  by_cases e : k = c
  · subst e; rw [if_pos rfl]; exact this
  · rw [if_neg e]; exact this

end Go.Proofs.Ytlfpagicagmjgaa
