/-
  Layer 3, pure: WeaveSizes.
-/
import Derived.Test.YtcijihofjcfpoabW11
namespace Go.Proofs.Ytcijihofjcfpoab
open Go.RowKit

set_option linter.unusedVariables false
set_option linter.unusedSimpArgs false
set_option maxRecDepth 10000

variable {l : Ltr}

/-! ### Lists -/

theorem nodup_le {α : Type} [DecidableEq α] : ∀ {xs ys : List α}, xs.Nodup → (∀ x ∈ xs, x ∈ ys) → xs.length ≤ ys.length
  | [], _, _, _ => by simp
  | x :: xs, ys, hn, hs => by
    have hx := hs x (by simp)
    have hn' := List.nodup_cons.1 hn
    have ih := nodup_le (xs := xs) (ys := ys.erase x) hn'.2 (fun y hy => by
      have hne : y ≠ x := fun e => hn'.1 (e ▸ hy)
      exact (List.mem_erase_of_ne hne).2 (hs y (by simp [hy])))
    have := List.length_erase_of_mem hx
    have hpos := List.length_pos_of_mem hx
    simp only [List.length_cons]; omega

theorem getD_set (t : List Int) (a k : Nat) (x : Int) : (t.set a x).getD k 0 = if a = k ∧ a < t.length then x else t.getD k 0 := by
  rw [List.getD_eq_getElem?_getD, List.getD_eq_getElem?_getD, List.getElem?_set]
  by_cases e : a = k
  · subst e
    by_cases h : a < t.length
    · simp [h]
    · simp [h]
  · simp [e]

theorem getD_ext {s t : List Int} (hl : s.length = t.length) (h : ∀ k, k < s.length → s.getD k 0 = t.getD k 0) : s = t := by
  refine List.ext_getElem hl fun k h1 h2 => ?_
  have := h k h1
  rw [List.getD_eq_getElem?_getD, List.getD_eq_getElem?_getD, List.getElem?_eq_getElem h1, List.getElem?_eq_getElem h2] at this
  exact this

theorem Reverse_eq (s : List Int) (hs : s.length ≤ 1000) : slices_Reverse s = some s.reverse := by
  unfold slices_Reverse
  rw [ck_pos (by rw [inK_i64]; omega)]
  have hs := whileO_inv (S := List Int × Int × Int) (R := List Int) (body := slices_Reverse_b1)
    (fun st => 0 ≤ st.2.1 ∧ st.2.1 + st.2.2 = (s.length : Int) - 1 ∧ st.2.1 ≤ st.2.2 + 1 ∧ st.1.length = s.length ∧ ∀ k : Nat, k < s.length → st.1.getD k 0 = if (k : Int) < st.2.1 ∨ st.2.2 < (k : Int) then s.getD (s.length - 1 - k) 0 else s.getD k 0)
    (fun st => (st.2.2 - st.2.1 + 1).toNat) (fun r => r = s.reverse) ?_ (s, 0, (s.length : Int) - 1) ⟨by simp, by simp, by simp, rfl, fun k hk => by
      simp only
      rw [if_neg (by omega)]⟩
  · obtain ⟨r, er, hr⟩ := hs
    rw [er, Option.bind_some, hr]
  · rintro ⟨t, i, j⟩ ⟨h1, h2, h3, h4, h5⟩
    simp only at h1 h2 h3 h4 h5
    unfold slices_Reverse_b1
    simp only
    by_cases hij : i < j
    · rw [if_pos (by simpa using hij)]
      rw [ck_pos (by omega), ck_pos (by omega), ck_pos (by omega), ck_pos (by omega), ck_pos (by omega), ck_pos (by omega), ck_pos (by omega), ck_pos (by rw [List.length_set]; omega), ck_pos (by rw [inK_i64]; omega), ck_pos (by rw [inK_i64]; omega)]
      refine .inl ⟨_, rfl, ⟨by simp only; omega, by simp only; omega, by simp only; omega, by simp only [List.length_set]; exact h4, fun k hk => ?_⟩, by simp only; omega⟩
      simp only
      rw [getD_set, getD_set, List.length_set, h4]
      by_cases e1 : j.toNat = k
      · rw [if_pos ⟨e1, by omega⟩, if_pos (by omega), h5 i.toNat (by omega), if_neg (by omega)]
        congr 1; omega
      · rw [if_neg (fun h => e1 h.1)]
        by_cases e2 : i.toNat = k
        · rw [if_pos ⟨e2, by omega⟩, if_pos (by omega), h5 j.toNat (by omega), if_neg (by omega)]
          congr 1; omega
        · rw [if_neg (fun h => e2 h.1), h5 k hk]
          by_cases e3 : (k : Int) < i ∨ j < (k : Int)
          · rw [if_pos e3, if_pos (by omega)]
          · rw [if_neg e3, if_neg (by omega)]
    · rw [if_neg (by simpa using hij)]
      refine .inr ⟨_, rfl, ?_⟩
      refine getD_ext (by simp [h4]) fun k hk => ?_
      have hk' : k < s.length := by omega
      rw [h5 k hk']
      have er : s.reverse.getD k 0 = s.getD (s.length - 1 - k) 0 := by
        rw [List.getD_eq_getElem?_getD, List.getD_eq_getElem?_getD, List.getElem?_reverse hk']
      rw [er]
      split
      · rfl
      · congr 1; omega

theorem sEqual_eq (a b : List Int) (ha : few a) (hb : few b) : slices_Equal a b = some (decide (a = b)) := by
  have := SameInts_eq3 a b ha hb
  exact this

/-! ### Classes -/

theorem cls_cnt (l : Ltr) : ∀ (n : Nat) (w : List Int), ((cls l n w).length : Int) = cnt l n w
  | 0, w => rfl
  | n + 1, w => by
    unfold cls cnt
    split
    · rfl
    · have : ∀ L : List (Int × List Int), (((L.flatMap fun p => (cls l n p.2).map (p.1 :: ·)).length : Nat) : Int) = (L.map fun p => cnt l n p.2).sum := by
        intro L
        induction L with
        | nil => rfl
        | cons p L ih =>
          rw [List.flatMap_cons, List.length_append, List.length_map, List.map_cons, List.sum_cons, Int.natCast_add, ih, cls_cnt l n p.2]
      exact this _

theorem startsL_of {w : List Int} (hl : okL l = true) (hw : isWd l w = true) {a : Int} {u : List Int} (h : wo l w a = some u) : (a, u) ∈ startsL l w := by
  have ha := isWd_six hl hw a (wo_some l w a u h).2.2
  unfold startsL
  refine List.mem_filterMap.2 ⟨a.toNat, List.mem_range.2 (by omega), ?_⟩
  have e : ((a.toNat : Nat) : Int) = a := by omega
  rw [e, h]; rfl

theorem cls_mem (hl : okL l = true) : ∀ (n : Nat) (w v : List Int), w.length < n → isWd l w = true → (v ∈ cls l n w ↔ eqv l v w)
  | 0, w, v, h, _ => by omega
  | n + 1, w, v, hn, hw => by
    unfold cls
    by_cases h0 : w = []
    · subst h0
      rw [if_pos rfl]
      constructor
      · intro h; simp at h; subst h; exact eqv_refl l _
      · intro h
        have := eqv_len h
        have : v = [] := List.eq_nil_of_length_eq_zero this
        simp [this]
    · rw [if_neg h0]
      constructor
      · intro h
        obtain ⟨p, hp, hv⟩ := List.mem_flatMap.1 h
        obtain ⟨u, hu, rfl⟩ := List.mem_map.1 hv
        have hwo := (startsL_mem hp).1
        have := (wo_some l w p.1 p.2 hwo).1
        exact eqv_cons.2 ⟨p.2, hwo, (cls_mem hl n p.2 u (by omega) (isWd_wo hw hwo)).1 hu⟩
      · intro h
        cases v with
        | nil => exact absurd (List.eq_nil_of_length_eq_zero (eqv_len h).symm) h0
        | cons b r =>
          obtain ⟨u, h1, h2⟩ := eqv_cons.1 h
          have := (wo_some l w b u h1).1
          exact List.mem_flatMap.2 ⟨(b, u), startsL_of hl hw h1, List.mem_map.2 ⟨r, (cls_mem hl n u r (by omega) (isWd_wo hw h1)).2 h2, rfl⟩⟩

/-- Before, in the order of lists. -/
def lexLt (x y : List Int) : Prop := ∃ (p : List Int) (a b : Int) (s t : List Int), x = p ++ a :: s ∧ y = p ++ b :: t ∧ a < b

theorem lexLt_ne {x y : List Int} (h : lexLt x y) : x ≠ y := by
  obtain ⟨p, a, b, s, t, rfl, rfl, hab⟩ := h
  intro e
  have := List.append_cancel_left e
  injection this with h1 h2
  omega

theorem startsL_sorted (l : Ltr) (w : List Int) : (startsL l w).Pairwise fun p q => p.1 < q.1 := by
  unfold startsL
  rw [List.pairwise_filterMap]
  refine List.Pairwise.imp ?_ (List.pairwise_lt_range (n := 6))
  intro a b hab p hp q hq
  rw [Option.map_eq_some_iff] at hp hq
  obtain ⟨u, _, rfl⟩ := hp
  obtain ⟨v, _, rfl⟩ := hq
  simp only; omega

theorem cls_sorted (l : Ltr) : ∀ (n : Nat) (w : List Int), (cls l n w).Pairwise lexLt
  | 0, w => List.Pairwise.nil
  | n + 1, w => by
    unfold cls
    split
    · simp
    · rw [List.pairwise_flatMap]
      refine ⟨fun p hp => ?_, (startsL_sorted l w).imp ?_⟩
      · rw [List.pairwise_map]
        refine (cls_sorted l n p.2).imp ?_
        rintro x y ⟨q, a, b, s, t, rfl, rfl, hab⟩
        exact ⟨p.1 :: q, a, b, s, t, rfl, rfl, hab⟩
      · rintro p q hpq x hx y hy
        obtain ⟨s, _, rfl⟩ := List.mem_map.1 hx
        obtain ⟨t, _, rfl⟩ := List.mem_map.1 hy
        exact ⟨[], p.1, q.1, s, t, rfl, rfl, hpq⟩

theorem cls_nodup (l : Ltr) (n : Nat) (w : List Int) : (cls l n w).Nodup := (cls_sorted l n w).imp lexLt_ne

/-! ### How many -/

theorem sum_match : ∀ (A B : List (Int × List Int)), starts_match l A B → (∀ p ∈ A, ∀ q, eqv l p.2 q → cntW l p.2 = cntW l q) → (A.map fun p => cntW l p.2).sum = (B.map fun p => cntW l p.2).sum
  | [], [], _, _ => rfl
  | p :: A, q :: B, h, hh => by
    rw [List.map_cons, List.map_cons, List.sum_cons, List.sum_cons, hh p (by simp) q.2 h.2.1, sum_match A B h.2.2 fun p hp => hh p (by simp [hp])]

theorem cntW_eqv : ∀ (n : Nat) (w v : List Int), w.length = n → eqv l w v → cntW l w = cntW l v := by
  intro n
  induction n using Nat.strongRecOn with
  | ind n ih =>
    intro w v hn h
    by_cases h0 : w = []
    · subst h0
      have : v = [] := List.eq_nil_of_length_eq_zero (eqv_len h).symm
      rw [this]
    · have hv0 : v ≠ [] := fun e => h0 (List.eq_nil_of_length_eq_zero (by rw [eqv_len h, e]; rfl))
      rw [cntW_eq l w, cntW_eq l v, if_neg h0, if_neg hv0]
      refine sum_match _ _ (startsL_match h) fun p hp q hq => ?_
      have := (wo_some l w p.1 p.2 (startsL_mem hp).1).1
      exact ih p.2.length (by omega) p.2 q rfl hq

theorem wo_parts {a : Int} : ∀ {v v' : List Int}, wo l v a = some v' → ∃ p s, v = p ++ a :: s ∧ v' = p ++ s ∧ ∀ b ∈ p, dep l a b = false
  | [], v', h => by simp [wo] at h
  | b :: r, v', h => by
    by_cases e : b = a
    · subst e
      rw [wo_head] at h; injection h with h; subst h
      exact ⟨[], r, rfl, rfl, by simp⟩
    · obtain ⟨hd, u', hu, rfl⟩ := wo_skip_inv e h
      obtain ⟨p, s, rfl, rfl, hp⟩ := wo_parts hu
      exact ⟨b :: p, s, rfl, rfl, fun c hc => by
        rcases List.mem_cons.1 hc with rfl | hc
        · exact hd
        · exact hp c hc⟩

theorem wo_behind {a : Int} : ∀ {y x : List Int}, (∀ b ∈ y, dep l a b = false) → wo l (y ++ a :: x) a = some (y ++ x)
  | [], x, _ => wo_head l a x
  | b :: y, x, h => by
    have hb := h b (by simp)
    have hne : b ≠ a := fun e => by subst e; simp [dep] at hb
    rw [List.cons_append, wo_skip hne hb, wo_behind (fun c hc => h c (by simp [hc]))]; rfl

theorem eqv_reverse : ∀ {w v : List Int}, eqv l w v → eqv l w.reverse v.reverse
  | [], v, h => by
    have : v = [] := List.eq_nil_of_length_eq_zero (eqv_len h).symm
    subst this; exact eqv_refl l _
  | a :: r, v, h => by
    obtain ⟨v', h1, h2⟩ := eqv_cons.1 h
    obtain ⟨p, s, rfl, rfl, hp⟩ := wo_parts h1
    have ih := eqv_reverse h2
    have e1 : eqv l (r.reverse ++ [a]) ((p ++ s).reverse ++ [a]) := eqv_behind ih
    rw [List.reverse_cons]
    refine eqv_trans e1 ?_
    rw [List.reverse_append, List.reverse_append, List.reverse_cons, List.append_assoc, List.append_assoc]
    refine eqv_front ?_
    refine eqv_symm ?_
    show eqv l (a :: p.reverse) (p.reverse ++ [a])
    refine eqv_cons.2 ⟨p.reverse ++ [], wo_behind fun b hb => hp b (by simpa using hb), ?_⟩
    rw [List.append_nil]; exact eqv_refl l _

theorem isWd_reverse {w : List Int} (hw : isWd l w = true) : isWd l w.reverse = true := by
  refine isWd_sub hw (by have := isWd_len hw; simpa using this) (fun x hx => by simpa using hx)

theorem cntW_reverse_le (hl : okL l = true) {w : List Int} (hw : isWd l w = true) : cntW l w ≤ cntW l w.reverse := by
  unfold cntW
  rw [← cls_cnt, ← cls_cnt, List.length_reverse]
  have hr := isWd_reverse hw
  have h := nodup_le (xs := (cls l (w.length + 1) w).map List.reverse) (ys := cls l (w.length + 1) w.reverse) (by
      unfold List.Nodup
      rw [List.pairwise_map]
      exact (cls_nodup l _ w).imp fun h e => h (List.reverse_inj.1 e)) (fun x hx => by
      obtain ⟨v, hv, rfl⟩ := List.mem_map.1 hx
      have he := (cls_mem hl _ w v (by omega) hw).1 hv
      exact (cls_mem hl _ w.reverse v.reverse (by simp) hr).2 (eqv_reverse he))
  rw [List.length_map] at h
  exact_mod_cast h

theorem cntW_reverse (hl : okL l = true) {w : List Int} (hw : isWd l w = true) : cntW l w.reverse = cntW l w := by
  have h1 := cntW_reverse_le hl hw
  have h2 := cntW_reverse_le hl (isWd_reverse hw)
  rw [List.reverse_reverse] at h2
  omega

/-! ### The program -/

theorem Size_ok {w : List Int} (hf : few l.2) (hl : okL l = true) (hw : isWd l w = true) : weave_Size l w = some (cntW l w, 0) := by
  rw [Size_eq l w hf (few_of (len60 hw)), errW_of1 hl hw]; rfl

theorem Turned_ok {w : List Int} (hf : few l.2) (hl : okL l = true) (hw : isWd l w = true) : weave_Turned l w = some (FF l w.reverse, 0) := by
  unfold weave_Turned
  obtain ⟨t, e, ht⟩ := checked1 l w hf (len60 hw)
  have h0 := errW_of1 hl hw
  have hlen := isWd_len hw
  rw [e, Option.bind_some, h0, if_neg (by simp), Clone_eq3 w (by omega), Option.bind_some, Reverse_eq w (by omega), Option.bind_some, first_eq hl (ht h0) (isWd_reverse hw), Option.bind_some]

theorem Starts_ok {w : List Int} (hf : few l.2) (hl : okL l = true) (hw : isWd l w = true) : weave_Starts l w = some ((startsL l w).map (·.1), 0) := by
  unfold weave_Starts
  obtain ⟨t, e, ht⟩ := checked1 l w hf (len60 hw)
  have h0 := errW_of1 hl hw
  have hlen := isWd_len hw
  have est : weave_ties_starts t w = some () := rfl
  rw [e, Option.bind_some, h0, if_neg (by simp), est, Option.bind_some]
  have hfold : ∀ (L : List (Int × List Int)) (s : List Int), s.length + L.length ≤ 1000 → foldY weave_Starts_y1 L s = some (.inl (s ++ L.map (·.1))) := by
    intro L
    induction L with
    | nil => intro s _; simp [foldY]
    | cons p L ih =>
      intro s hs
      simp only [List.length_cons] at hs
      have e1 : weave_Starts_y1 p s = some (.next (s ++ [p.1])) := by unfold weave_Starts_y1; rw [ck_pos (by omega)]
      unfold foldY
      rw [e1, Option.bind_some]
      simp only
      rw [ih (s ++ [p.1]) (by simp; omega)]
      simp
  have hs6 := startsL_len l w
  rw [starts_ok (ht h0) (isWd_six hl hw) (by omega) weave_Starts_y1 [] (hfold (startsL l w) [] (by simp; omega)), Option.bind_some]
  simp only [List.nil_append]
  rfl

theorem Equal_ok {w v : List Int} (hf : few l.2) (hl : okL l = true) (hw : isWd l w = true) (hv : isWd l v = true) : weave_Equal l w v = some (decide (FF l w = FF l v), 0) := by
  unfold weave_Equal
  obtain ⟨t, e, ht⟩ := checked2 l w v hf (len60 hw) (len60 hv)
  have h0 := errW_of2 hl hw hv
  have l1 := FF_len hl hw
  have l2 := FF_len hl hv
  have := isWd_len hw
  have := isWd_len hv
  rw [e, Option.bind_some, h0, if_neg (by simp), first_eq hl (ht h0) hw, Option.bind_some, first_eq hl (ht h0) hv, Option.bind_some, sEqual_eq _ _ (few_of (n := 10) (by omega)) (few_of (n := 10) (by omega)), Option.bind_some]

theorem before_ok {x y : List Int} (h : lexLt x y) (hx : x.length ≤ 1000) (hy : y.length ≤ 1000) : lineallaw03_before x y = some true := by
  obtain ⟨p, a, b, s, t, rfl, rfl, hab⟩ := h
  unfold lineallaw03_before
  simp only [List.length_append, List.length_cons] at hx hy
  have h3 : whileO (lineallaw03_before_b1 (p ++ a :: s) (p ++ b :: t)) 0 = some (.inl true) := by
    refine whileO_seq (body := lineallaw03_before_b1 (p ++ a :: s) (p ++ b :: t)) (fun k : Nat => (k : Int)) p.length (fun k hk => ?_) ?_
    · unfold lineallaw03_before_b1
      have e : (p ++ a :: s).getD k 0 = (p ++ b :: t).getD k 0 := by
        rw [List.getD_eq_getElem?_getD, List.getD_eq_getElem?_getD, List.getElem?_append_left hk, List.getElem?_append_left hk]
      rw [if_pos (by simp; omega), if_pos (by simp; omega), ck_pos (by omega), ck_pos (by simp; omega), ck_pos (by omega), ck_pos (by simp; omega), Int.toNat_natCast, e, if_neg (by simp), ck_pos (by rw [inK_i64]; omega)]
      rfl
    · unfold lineallaw03_before_b1
      have e1 : (p ++ a :: s).getD p.length 0 = a := by
        rw [List.getD_eq_getElem?_getD, List.getElem?_append_right (Nat.le_refl _)]; simp
      have e2 : (p ++ b :: t).getD p.length 0 = b := by
        rw [List.getD_eq_getElem?_getD, List.getElem?_append_right (Nat.le_refl _)]; simp
      have hc : (p.length : Int) < ((p ++ a :: s).length : Int) := by simp; omega
      have hd : (p.length : Int) < ((p ++ b :: t).length : Int) := by simp; omega
      rw [if_pos (by simpa using hc), if_pos (by simpa using hd), Int.toNat_natCast, e1, e2]
      rw [ck_pos (by omega), ck_pos hc, ck_pos (by omega), ck_pos hd, if_pos (by simp; omega), ck_pos (by omega), ck_pos hc, ck_pos (by omega), ck_pos hd]
      simp [hab]
  rw [h3, Option.bind_some]

theorem isWd_one {w : List Int} (hw : isWd l w = true) {a : Int} (ha : a ∈ w) : isWd l [a] = true := isWd_sub hw (by simp) (fun x hx => by simp at hx; subst hx; exact ha)

/-! ### The law -/

theorem Sizes_k3_ok {w : List Int} (hf : few l.2) (hl : okL l = true) (hw : isWd l w = true) (m : Nat) (e : Int) : lineallaw03_WeaveSizes_k3 l w ((cls l (w.length + 1) w).take m, e) = some true := by
  unfold lineallaw03_WeaveSizes_k3
  rw [First_ok hf hl hw, Option.bind_some, if_pos (by simp), Awake3_eq]
  cases hc : (cls l (w.length + 1) w).take m with
  | nil => rfl
  | cons v vs =>
    have hh := cls_head hl (w.length + 1) w (by omega) hw
    have hv : v = FF l w := by
      have h1 : ((cls l (w.length + 1) w).take m).head? = some v := by rw [hc]; rfl
      rw [List.head?_take] at h1
      split at h1
      · cases h1
      · rw [hh] at h1; injection h1 with h1; exact h1.symm
    subst hv
    simp only
    rw [if_neg (by simp only [List.length_cons, decide_eq_true_eq]; omega), ck_pos (by simp only [List.length_cons]; omega)]
    show (linealref03_SameInts (FF l w) (FF l w)).bind _ = _
    rw [same_FF hl hw rfl, Option.bind_some, if_pos rfl]; rfl

theorem Sizes_k2_ok {w : List Int} (hf : few l.2) (hl : okL l = true) (hw : isWd l w = true) (m : Nat) (hm : m ≤ 1000) (e : Int) : lineallaw03_WeaveSizes_k2 l w ((cls l (w.length + 1) w).take m, e) = some true := by
  unfold lineallaw03_WeaveSizes_k2
  have hwl := isWd_len hw
  have hsm : ((cls l (w.length + 1) w).take m).length ≤ 1000 := by simp; omega
  have hmem : ∀ x ∈ (cls l (w.length + 1) w).take m, eqv l x w := fun x hx => (cls_mem hl _ w x (by omega) hw).1 (List.mem_of_mem_take hx)
  have hsorted : ((cls l (w.length + 1) w).take m).Pairwise lexLt := (cls_sorted l _ w).sublist (List.take_sublist _ _)
  have hk3 := Sizes_k3_ok hf hl hw m e
  generalize (cls l (w.length + 1) w).take m = C at hsm hmem hsorted hk3 ⊢
  have hs := scan1 (R := Sum Unit Unit) C (fun _ => True) (fun r => r = .inr ()) (body := lineallaw03_WeaveSizes_b2 l w (C, e)) trivial ?_ ?_
  · obtain ⟨r, er, rfl⟩ := hs
    rw [er, Option.bind_some]
    exact hk3
  · intro k x hk _
    obtain ⟨hlt, hin⟩ := few_in (few_of hsm) hk
    have hx := hmem x (List.mem_of_getElem? hk)
    have kx := eqv_isWd hx hw
    refine .inl ⟨?_, trivial⟩
    unfold lineallaw03_WeaveSizes_b2
    simp only
    rw [if_pos (by simpa using hlt), ck_pos (by simp), ck_pos (by simpa using hlt), Int.toNat_natCast, getD_of hk, Equal_ok hf hl hw kx, Option.bind_some]
    have : FF l w = FF l x := FF_eq (eqv_symm hx)
    simp only [this, decide_true, Bool.not_true, Bool.false_eq_true, if_false]
    by_cases h0 : 0 < k
    · rw [if_pos (by simpa using h0), ck_pos (by rw [inK_i64]; omega), ck_pos (by omega), ck_pos (by omega)]
      have e1 : ((k : Int) - 1).toNat = k - 1 := by omega
      rw [e1]
      obtain ⟨y, hy⟩ : ∃ y, C[k - 1]? = some y := ⟨_, List.getElem?_eq_getElem (by omega)⟩
      have hyx : lexLt y x := by
        have g1 := (List.getElem?_eq_some_iff.1 hy)
        have g2 := (List.getElem?_eq_some_iff.1 hk)
        have := List.pairwise_iff_getElem.1 hsorted (k - 1) k g1.1 g2.1 (by omega)
        rw [g1.2, g2.2] at this; exact this
      have ky := eqv_isWd (hmem y (List.mem_of_getElem? hy)) hw
      have ly := isWd_len ky
      have lx := isWd_len kx
      rw [getD_of hy, before_ok hyx (by omega) (by omega), Option.bind_some]
      simp only [Bool.not_true, Bool.false_eq_true, if_false]
      rw [ck_pos hin]
    · rw [if_neg (by simpa using h0), ck_pos hin]
  · intro _
    unfold lineallaw03_WeaveSizes_b2
    simp only
    rw [if_neg (by simp)]
    exact ⟨_, rfl, rfl⟩

theorem Sizes_loop {w : List Int} (hf : few l.2) (hl : okL l = true) (hw : isWd l w = true) (e : Int) : whileO (lineallaw03_WeaveSizes_b1 l w ((startsL l w).map (·.1), e)) (0, 0) = some (.inr ((startsL l w).map fun p => cntW l p.2).sum) := by
  have hwl := isWd_len hw
  have hs6 := startsL_len l w
  have hcw : ∀ p ∈ startsL l w, 0 ≤ cntW l p.2 ∧ cntW l p.2 ≤ 60466176 := fun p hp => by
    have := (wo_some l w p.1 p.2 (startsL_mem hp).1).1
    exact cntW_in (by omega)
  have hs := scan2 (R := Sum Unit Int) (startsL l w) (fun k (s : Int) => s = (((startsL l w).take k).map fun p => cntW l p.2).sum) (fun r => r = .inr ((startsL l w).map fun p => cntW l p.2).sum) (body := lineallaw03_WeaveSizes_b1 l w ((startsL l w).map (·.1), e)) (s0 := 0) (by simp) ?_ ?_
  · obtain ⟨r, er, rfl⟩ := hs
    exact er
  · rintro k p s hk rfl
    obtain ⟨hlt, hin⟩ := few_in (few_of (n := 6) hs6) hk
    have hp := List.mem_of_getElem? hk
    have hwo := (startsL_mem hp).1
    have hpm := wo_some l w p.1 p.2 hwo
    have kp := isWd_wo hw hwo
    have k1 := isWd_one hw hpm.2.2
    have kF := FF_isWd hl kp
    have hk' : ((startsL l w).map (·.1))[k]? = some p.1 := by rw [List.getElem?_map, hk]; rfl
    have hr : rs l [p.1] w = some p.2 := by rw [rs_cons, hwo]; rfl
    have hsum := sum_le (fun p : Int × List Int => cntW l p.2) 60466176 ((startsL l w).take k) (fun x hx => hcw x (List.mem_of_mem_take hx))
    have htk : ((startsL l w).take k).length ≤ 6 := by simp; omega
    have hcp := hcw p hp
    refine .inl ⟨(((startsL l w).take k).map fun p => cntW l p.2).sum + cntW l p.2, ?_, ?_⟩
    · unfold lineallaw03_WeaveSizes_b1
      simp only
      rw [if_pos (by simpa using hlt), ck_pos (by simp), ck_pos (by simpa using hlt), Int.toNat_natCast, getD_of hk', Rest_ok hf hl k1 hw, hr, Option.bind_some]
      simp only
      rw [Size_ok hf hl kF, Option.bind_some, cntW_eqv _ _ _ rfl (FF_eqv hl kp)]
      simp only [decide_true, Bool.not_true, Bool.false_eq_true, if_false]
      rw [ck_pos (by rw [inK_i64]; omega), ck_pos hin]
    · rw [take_one hk, List.map_append, List.sum_append]; simp
  · rintro s rfl
    rw [List.take_length]
    unfold lineallaw03_WeaveSizes_b1
    simp only [List.length_map]
    rw [if_neg (by simp)]
    exact ⟨_, rfl, rfl⟩

theorem WeaveSizes_eq (l : Ltr) (hf : few l.2) (w : List Int) (most : Int) (hmost : InK .u8 most) : lineallaw03_WeaveSizes l w most = some true := by
  have hm : 0 ≤ most ∧ most ≤ 255 := by
    rw [inK_u8] at hmost; exact hmost
  unfold lineallaw03_WeaveSizes
  rcases valid_cases (l := l) [w] hf (by unfold few; simp) with h | ⟨h, hl, hws⟩
  · rw [h, Option.bind_some, Awake3_eq]; rfl
  rw [h, Option.bind_some]
  have hw := hws w (by simp)
  have hwl := isWd_len hw
  have hrv := isWd_reverse hw
  have kF := FF_isWd hl hrv
  have h0 := errW_of1 hl hw
  simp only [Bool.not_true, Bool.false_eq_true, if_false]
  rw [Size_ok hf hl hw, Option.bind_some, Starts_ok hf hl hw, Option.bind_some, Turned_ok hf hl hw, Option.bind_some, Size_ok hf hl kF, Option.bind_some, cntW_eqv _ _ _ rfl (FF_eqv hl hrv), cntW_reverse hl hw]
  have hin : InK .i64 most := by rw [inK_i64]; omega
  rw [ck_pos hin, Class_eq l w most hf (len60 hw), Option.bind_some]
  have eC : classA l w most = ((cls l (w.length + 1) w).take most.toNat, 0) := by
    unfold classA; rw [if_pos h0, if_pos (by omega)]
  rw [eC]
  have hlen : ((((cls l (w.length + 1) w).take most.toNat).length : Nat) : Int) = min (cntW l w) most := by
    have := cls_cnt l (w.length + 1) w
    rw [List.length_take]
    unfold cntW
    rw [← this]; omega
  simp only [decide_true, Bool.not_true, Bool.false_eq_true, if_false, hlen]
  rw [ck_pos hin]
  have hst : (decide ((((startsL l w).map (·.1)).length : Int) = 0)) = decide ((w.length : Int) = 0) := by
    rw [Bool.eq_iff_iff]
    simp only [decide_eq_true_eq, List.length_map]
    constructor
    · intro h
      cases hwn : w with
      | nil => rfl
      | cons b r =>
        have := starts_some hl hw (by rw [hwn]; simp)
        have h' : (startsL l w).length = 0 := by omega
        exact absurd (List.eq_nil_of_length_eq_zero h') this
    · intro h
      have : w = [] := List.eq_nil_of_length_eq_zero (by omega)
      subst this; rw [startsL_nil]; rfl
  rw [hst, if_neg (by simp), Sizes_loop hf hl hw 0, Option.bind_some]
  have hk2 := Sizes_k2_ok hf hl hw most.toNat (by omega) 0
  simp only
  unfold lineallaw03_WeaveSizes_k1
  by_cases hw0 : w = []
  · subst hw0
    have e1 : cntW l [] = 1 := by rw [cntW_eq]; rfl
    rw [if_neg (by simp), if_pos (by simp), e1, if_neg (by simp)]
    exact hk2
  · have hpos := List.length_pos_iff.2 hw0
    rw [if_pos (by simp; omega)]
    have e1 := cntW_eq l w
    rw [if_neg hw0] at e1
    rw [← e1, if_neg (by simp), if_neg (by simp; exact hw0)]
    exact hk2

end Go.Proofs.Ytcijihofjcfpoab
