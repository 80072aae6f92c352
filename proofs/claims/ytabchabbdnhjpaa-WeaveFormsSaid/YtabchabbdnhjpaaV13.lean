/-
  Layer 3, pure: WeaveSizes.
-/
import Derived.Test.YtabchabbdnhjpaaV11
namespace Go.Proofs.Ytabchabbdnhjpaa
open Go.RowKit

set_option linter.unusedVariables false
set_option linter.unusedSimpArgs false
set_option maxRecDepth 10000

variable {l : Ltr}

/-! ### Lists -/

theorem nodup_le {α : Type} [DecidableEq α] : ∀ {xs ys : List α}, xs.Nodup → (∀ x ∈ xs, x ∈ ys) → xs.length ≤ ys.length
  | [], _, _, _ => by simp
  | x :: xs, ys, hn, hs => by
    have hx := hs x (by simp)
    have hn' := List.nodup_cons.1 hn
    have ih := nodup_le (xs := xs) (ys := ys.erase x) hn'.2 (fun y hy => by
      have hne : y ≠ x := fun e => hn'.1 (e ▸ hy)
      exact (List.mem_erase_of_ne hne).2 (hs y (by simp [hy])))
    have := List.length_erase_of_mem hx
    have hpos := List.length_pos_of_mem hx
    simp only [List.length_cons]; omega

theorem getD_set (t : List Int) (a k : Nat) (x : Int) : (t.set a x).getD k 0 = if a = k ∧ a < t.length then x else t.getD k 0 := by
  rw [List.getD_eq_getElem?_getD, List.getD_eq_getElem?_getD, List.getElem?_set]
  by_cases e : a = k
  · subst e
    by_cases h : a < t.length
    · simp [h]
    · simp [h]
  · simp [e]

theorem getD_ext {s t : List Int} (hl : s.length = t.length) (h : ∀ k, k < s.length → s.getD k 0 = t.getD k 0) : s = t := by
  refine List.ext_getElem hl fun k h1 h2 => ?_
  have := h k h1
  rw [List.getD_eq_getElem?_getD, List.getD_eq_getElem?_getD, List.getElem?_eq_getElem h1, List.getElem?_eq_getElem h2] at this
  exact this

theorem Reverse_eq (s : List Int) (hs : s.length ≤ 1000) : slices_Reverse s = some s.reverse := by
  unfold slices_Reverse
  rw [ck_pos (by rw [inK_i64]; omega)]
  have hs := whileO_inv (S := List Int × Int × Int) (R := List Int) (body := slices_Reverse_b1)
    (fun st => 0 ≤ st.2.1 ∧ st.2.1 + st.2.2 = (s.length : Int) - 1 ∧ st.2.1 ≤ st.2.2 + 1 ∧ st.1.length = s.length ∧ ∀ k : Nat, k < s.length → st.1.getD k 0 = if (k : Int) < st.2.1 ∨ st.2.2 < (k : Int) then s.getD (s.length - 1 - k) 0 else s.getD k 0)
    (fun st => (st.2.2 - st.2.1 + 1).toNat) (fun r => r = s.reverse) ?_ (s, 0, (s.length : Int) - 1) ⟨by simp, by simp, by simp, rfl, fun k hk => by
      simp only
      rw [if_neg (by omega)]⟩
  · obtain ⟨r, er, hr⟩ := hs
    rw [er, Option.bind_some, hr]
  · rintro ⟨t, i, j⟩ ⟨h1, h2, h3, h4, h5⟩
    simp only at h1 h2 h3 h4 h5
    unfold slices_Reverse_b1
    simp only
    by_cases hij : i < j
    · rw [if_pos (by simpa using hij)]
      rw [ck_pos (by omega), ck_pos (by omega), ck_pos (by omega), ck_pos (by omega), ck_pos (by omega), ck_pos (by omega), ck_pos (by omega), ck_pos (by rw [List.length_set]; omega), ck_pos (by rw [inK_i64]; omega), ck_pos (by rw [inK_i64]; omega)]
      refine .inl ⟨_, rfl, ⟨by simp only; omega, by simp only; omega, by simp only; omega, by simp only [List.length_set]; exact h4, fun k hk => ?_⟩, by simp only; omega⟩
      simp only
      rw [getD_set, getD_set, List.length_set, h4]
      by_cases e1 : j.toNat = k
      · rw [if_pos ⟨e1, by omega⟩, if_pos (by omega), h5 i.toNat (by omega), if_neg (by omega)]
        congr 1; omega
      · rw [if_neg (fun h => e1 h.1)]
        by_cases e2 : i.toNat = k
        · rw [if_pos ⟨e2, by omega⟩, if_pos (by omega), h5 j.toNat (by omega), if_neg (by omega)]
          congr 1; omega
        · rw [if_neg (fun h => e2 h.1), h5 k hk]
          by_cases e3 : (k : Int) < i ∨ j < (k : Int)
          · rw [if_pos e3, if_pos (by omega)]
          · rw [if_neg e3, if_neg (by omega)]
    · rw [if_neg (by simpa using hij)]
      refine .inr ⟨_, rfl, ?_⟩
      refine getD_ext (by simp [h4]) fun k hk => ?_
      have hk' : k < s.length := by omega
      rw [h5 k hk']
      have er : s.reverse.getD k 0 = s.getD (s.length - 1 - k) 0 := by
        rw [List.getD_eq_getElem?_getD, List.getD_eq_getElem?_getD, List.getElem?_reverse hk']
      rw [er]
      split
      · rfl
      · congr 1; omega

/-! ### Classes -/

theorem cls_cnt (l : Ltr) : ∀ (n : Nat) (w : List Int), ((cls l n w).length : Int) = cnt l n w
  | 0, w => rfl
  | n + 1, w => by
    unfold cls cnt
    split
    · rfl
    · have : ∀ L : List (Int × List Int), (((L.flatMap fun p => (cls l n p.2).map (p.1 :: ·)).length : Nat) : Int) = (L.map fun p => cnt l n p.2).sum := by
        intro L
        induction L with
        | nil => rfl
        | cons p L ih =>
          rw [List.flatMap_cons, List.length_append, List.length_map, List.map_cons, List.sum_cons, Int.natCast_add, ih, cls_cnt l n p.2]
      exact this _

theorem startsL_of {w : List Int} (hl : okL l = true) (hw : isWd l w = true) {a : Int} {u : List Int} (h : wo l w a = some u) : (a, u) ∈ startsL l w := by
  have ha := isWd_six hl hw a (wo_some l w a u h).2.2
  unfold startsL
  refine List.mem_filterMap.2 ⟨a.toNat, List.mem_range.2 (by omega), ?_⟩
  have e : ((a.toNat : Nat) : Int) = a := by omega
  rw [e, h]; rfl

theorem cls_mem (hl : okL l = true) : ∀ (n : Nat) (w v : List Int), w.length < n → isWd l w = true → (v ∈ cls l n w ↔ eqv l v w)
  | 0, w, v, h, _ => by omega
  | n + 1, w, v, hn, hw => by
    unfold cls
    by_cases h0 : w = []
    · subst h0
      rw [if_pos rfl]
      constructor
      · intro h; simp at h; subst h; exact eqv_refl l _
      · intro h
        have := eqv_len h
        have : v = [] := List.eq_nil_of_length_eq_zero this
        simp [this]
    · rw [if_neg h0]
      constructor
      · intro h
        obtain ⟨p, hp, hv⟩ := List.mem_flatMap.1 h
        obtain ⟨u, hu, rfl⟩ := List.mem_map.1 hv
        have hwo := (startsL_mem hp).1
        have := (wo_some l w p.1 p.2 hwo).1
        exact eqv_cons.2 ⟨p.2, hwo, (cls_mem hl n p.2 u (by omega) (isWd_wo hw hwo)).1 hu⟩
      · intro h
        cases v with
        | nil => exact absurd (List.eq_nil_of_length_eq_zero (eqv_len h).symm) h0
        | cons b r =>
          obtain ⟨u, h1, h2⟩ := eqv_cons.1 h
          have := (wo_some l w b u h1).1
          exact List.mem_flatMap.2 ⟨(b, u), startsL_of hl hw h1, List.mem_map.2 ⟨r, (cls_mem hl n u r (by omega) (isWd_wo hw h1)).2 h2, rfl⟩⟩

/-- Before, in the order of lists. -/
def lexLt (x y : List Int) : Prop := ∃ (p : List Int) (a b : Int) (s t : List Int), x = p ++ a :: s ∧ y = p ++ b :: t ∧ a < b

theorem lexLt_ne {x y : List Int} (h : lexLt x y) : x ≠ y := by
  obtain ⟨p, a, b, s, t, rfl, rfl, hab⟩ := h
  intro e
  have := List.append_cancel_left e
  injection this with h1 h2
  omega

theorem startsL_sorted (l : Ltr) (w : List Int) : (startsL l w).Pairwise fun p q => p.1 < q.1 := by
  unfold startsL
  rw [List.pairwise_filterMap]
  refine List.Pairwise.imp ?_ (List.pairwise_lt_range (n := 6))
  intro a b hab p hp q hq
  rw [Option.map_eq_some_iff] at hp hq
  obtain ⟨u, _, rfl⟩ := hp
  obtain ⟨v, _, rfl⟩ := hq
  simp only; omega

theorem cls_sorted (l : Ltr) : ∀ (n : Nat) (w : List Int), (cls l n w).Pairwise lexLt
  | 0, w => List.Pairwise.nil
  | n + 1, w => by
    unfold cls
    split
    · simp
    · rw [List.pairwise_flatMap]
      refine ⟨fun p hp => ?_, (startsL_sorted l w).imp ?_⟩
      · rw [List.pairwise_map]
        refine (cls_sorted l n p.2).imp ?_
        rintro x y ⟨q, a, b, s, t, rfl, rfl, hab⟩
        exact ⟨p.1 :: q, a, b, s, t, rfl, rfl, hab⟩
      · rintro p q hpq x hx y hy
        obtain ⟨s, _, rfl⟩ := List.mem_map.1 hx
        obtain ⟨t, _, rfl⟩ := List.mem_map.1 hy
        exact ⟨[], p.1, q.1, s, t, rfl, rfl, hpq⟩

theorem cls_nodup (l : Ltr) (n : Nat) (w : List Int) : (cls l n w).Nodup := (cls_sorted l n w).imp lexLt_ne

/-! ### How many -/

theorem wo_parts {a : Int} : ∀ {v v' : List Int}, wo l v a = some v' → ∃ p s, v = p ++ a :: s ∧ v' = p ++ s ∧ ∀ b ∈ p, dep l a b = false
  | [], v', h => by simp [wo] at h
  | b :: r, v', h => by
    by_cases e : b = a
    · subst e
      rw [wo_head] at h; injection h with h; subst h
      exact ⟨[], r, rfl, rfl, by simp⟩
    · obtain ⟨hd, u', hu, rfl⟩ := wo_skip_inv e h
      obtain ⟨p, s, rfl, rfl, hp⟩ := wo_parts hu
      exact ⟨b :: p, s, rfl, rfl, fun c hc => by
        rcases List.mem_cons.1 hc with rfl | hc
        · exact hd
        · exact hp c hc⟩

theorem wo_behind {a : Int} : ∀ {y x : List Int}, (∀ b ∈ y, dep l a b = false) → wo l (y ++ a :: x) a = some (y ++ x)
  | [], x, _ => wo_head l a x
  | b :: y, x, h => by
    have hb := h b (by simp)
    have hne : b ≠ a := fun e => by subst e; simp [dep] at hb
    rw [List.cons_append, wo_skip hne hb, wo_behind (fun c hc => h c (by simp [hc]))]; rfl

theorem eqv_reverse : ∀ {w v : List Int}, eqv l w v → eqv l w.reverse v.reverse
  | [], v, h => by
    have : v = [] := List.eq_nil_of_length_eq_zero (eqv_len h).symm
    subst this; exact eqv_refl l _
  | a :: r, v, h => by
    obtain ⟨v', h1, h2⟩ := eqv_cons.1 h
    obtain ⟨p, s, rfl, rfl, hp⟩ := wo_parts h1
    have ih := eqv_reverse h2
    have e1 : eqv l (r.reverse ++ [a]) ((p ++ s).reverse ++ [a]) := eqv_behind ih
    rw [List.reverse_cons]
    refine eqv_trans e1 ?_
    rw [List.reverse_append, List.reverse_append, List.reverse_cons, List.append_assoc, List.append_assoc]
    refine eqv_front ?_
    refine eqv_symm ?_
    show eqv l (a :: p.reverse) (p.reverse ++ [a])
    refine eqv_cons.2 ⟨p.reverse ++ [], wo_behind fun b hb => hp b (by simpa using hb), ?_⟩
    rw [List.append_nil]; exact eqv_refl l _

theorem isWd_reverse {w : List Int} (hw : isWd l w = true) : isWd l w.reverse = true := by
  refine isWd_sub hw (by have := isWd_len hw; simpa using this) (fun x hx => by simpa using hx)

theorem cntW_reverse_le (hl : okL l = true) {w : List Int} (hw : isWd l w = true) : cntW l w ≤ cntW l w.reverse := by
  unfold cntW
  rw [← cls_cnt, ← cls_cnt, List.length_reverse]
  have hr := isWd_reverse hw
  have h := nodup_le (xs := (cls l (w.length + 1) w).map List.reverse) (ys := cls l (w.length + 1) w.reverse) (by
      unfold List.Nodup
      rw [List.pairwise_map]
      exact (cls_nodup l _ w).imp fun h e => h (List.reverse_inj.1 e)) (fun x hx => by
      obtain ⟨v, hv, rfl⟩ := List.mem_map.1 hx
      have he := (cls_mem hl _ w v (by omega) hw).1 hv
      exact (cls_mem hl _ w.reverse v.reverse (by simp) hr).2 (eqv_reverse he))
  rw [List.length_map] at h
  exact_mod_cast h

theorem cntW_reverse (hl : okL l = true) {w : List Int} (hw : isWd l w = true) : cntW l w.reverse = cntW l w := by
  have h1 := cntW_reverse_le hl hw
  have h2 := cntW_reverse_le hl (isWd_reverse hw)
  rw [List.reverse_reverse] at h2
  omega

/-! ### The program -/

theorem Turned_ok {w : List Int} (hf : few l.2) (hl : okL l = true) (hw : isWd l w = true) : weave_Turned l w = some (FF l w.reverse, 0) := by
  unfold weave_Turned
  obtain ⟨t, e, ht⟩ := checked1 l w hf (len60 hw)
  have h0 := errW_of1 hl hw
  have hlen := isWd_len hw
  rw [e, Option.bind_some, h0, if_neg (by simp), Clone_eq3 w (by omega), Option.bind_some, Reverse_eq w (by omega), Option.bind_some, first_eq hl (ht h0) (isWd_reverse hw), Option.bind_some]

theorem Starts_ok {w : List Int} (hf : few l.2) (hl : okL l = true) (hw : isWd l w = true) : weave_Starts l w = some ((startsL l w).map (·.1), 0) := by
  unfold weave_Starts
  obtain ⟨t, e, ht⟩ := checked1 l w hf (len60 hw)
  have h0 := errW_of1 hl hw
  have hlen := isWd_len hw
  have est : weave_ties_starts t w = some () := rfl
  rw [e, Option.bind_some, h0, if_neg (by simp), est, Option.bind_some]
  have hfold : ∀ (L : List (Int × List Int)) (s : List Int), s.length + L.length ≤ 1000 → foldY weave_Starts_y1 L s = some (.inl (s ++ L.map (·.1))) := by
    intro L
    induction L with
    | nil => intro s _; simp [foldY]
    | cons p L ih =>
      intro s hs
      simp only [List.length_cons] at hs
      have e1 : weave_Starts_y1 p s = some (.next (s ++ [p.1])) := by unfold weave_Starts_y1; rw [ck_pos (by omega)]
      unfold foldY
      rw [e1, Option.bind_some]
      simp only
      rw [ih (s ++ [p.1]) (by simp; omega)]
      simp
  have hs6 := startsL_len l w
  rw [starts_ok (ht h0) (isWd_six hl hw) (by omega) weave_Starts_y1 [] (hfold (startsL l w) [] (by simp; omega)), Option.bind_some]
  simp only [List.nil_append]
  rfl

/-! ### The law -/

end Go.Proofs.Ytabchabbdnhjpaa
