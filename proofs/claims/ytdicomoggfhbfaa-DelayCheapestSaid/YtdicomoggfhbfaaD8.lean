/-
  What is found on circles; the pairs that are needed, on both sides.
-/
import Derived.Test.YtdicomoggfhbfaaD6
namespace Go.Proofs.Ytdicomoggfhbfaa
open Go.RowKit Go.Maps

set_option linter.unusedVariables false
set_option linter.unusedSimpArgs false

/-! ### All circles, as the reference finds them -/
def ref2 (x : Acs) (r s : Sta) : List (List Sta) := if (!decide (r.1 = s.1) && mts x r s) = true then (if isC x [r, s] = true then [[r, s]] else []) ++ (stas x).flatMap fun q => if isC x [r, s, q] = true then [[r, s, q]] else [] else []
def refCircs (x : Acs) : List (List Sta) := (stas x).flatMap fun r => (stas x).flatMap fun s => ref2 x r s

open Go.RowKit Go.Maps


/-- The pairs that are needed. -/
def need (x : Acs) : List Sta := (prs x).filter fun p => (circs x).any fun l => l.any fun s => decide (s = p)

theorem mem_need {x : Acs} {p : Sta} : p ∈ need x ↔ isPr x p = true ∧ ∃ l, isC x l = true ∧ p ∈ l := by
  unfold need
  rw [List.mem_filter, prs_mem, List.any_eq_true]
  constructor
  · rintro ⟨h1, l, hl, h2⟩
    obtain ⟨s, hs, e⟩ := List.any_eq_true.1 h2
    exact ⟨h1, l, mem_circs.1 hl, by rw [← of_decide_eq_true e]; exact hs⟩
  · rintro ⟨h1, l, hl, h2⟩
    exact ⟨h1, l, mem_circs.2 hl, List.any_eq_true.2 ⟨p, h2, by simp⟩⟩

theorem isC_st {x : Acs} {l : List Sta} (h : isC x l = true) : (∀ s ∈ l, isSt x s = true) ∧ 2 ≤ l.length ∧ l.length ≤ 3 := by
  unfold isC at h
  split at h
  · simp only [Bool.and_eq_true] at h
    exact ⟨fun s hs => by simp at hs; rcases hs with rfl | rfl; exact h.1; exact h.2.1, by simp, by simp⟩
  · simp only [Bool.and_eq_true] at h
    exact ⟨fun s hs => by simp at hs; rcases hs with rfl | rfl | rfl; exact h.1; exact h.2.1; exact h.2.2.1, by simp, by simp⟩
  · cases h

/-! ### The map of what is found -/
abbrev FMp : Type := List (Sta × List Sta)
/-- What the map holds when these circles have been gone over. -/
structure FP (m : FMp) (L : List (List Sta)) : Prop where
  has : ∀ k, mhas m k = true ↔ ∃ l ∈ L, k ∈ l
  get : ∀ k, mhas m k = true → mget [] m k ∈ L ∧ k ∈ mget [] m k

theorem mput_has {m : FMp} {k j : Sta} {v : List Sta} (h : mhas m k = false) : mhas (mput m k v) j = (decide (j = k) || mhas m j) := by
  have hk : k ∉ m.map (·.1) := fun hc => by rw [mhas_mem.2 hc] at h; cases h
  rw [mput_not hk]
  rw [Bool.eq_iff_iff, mhas_mem, Bool.or_eq_true, mhas_mem, List.map_append, List.mem_append]
  simp only [List.map_cons, List.map_nil, List.mem_singleton, decide_eq_true_eq]
  exact Or.comm
theorem mput_get : ∀ {m : FMp} {k j : Sta} {v : List Sta}, mhas m k = false → mget [] (mput m k v) j = if j = k then v else mget [] m j
  | [], k, j, v, _ => by
    simp only [mput, mget]
    by_cases h : k = j
    · rw [if_pos h, if_pos h.symm]
    · rw [if_neg h, if_neg fun e => h e.symm]
  | (a, w) :: m, k, j, v, h => by
    unfold mhas at h
    split at h
    · cases h
    · rename_i hak
      unfold mput
      rw [if_neg hak]
      unfold mget
      by_cases haj : a = j
      · rw [if_pos haj, if_pos haj, if_neg fun e => hak (by rw [haj, e])]
      · rw [if_neg haj, if_neg haj]
        exact mput_get h

theorem found_one {x : Acs} {m : FMp} {L : List (List Sta)} {l : List Sta} (hv : vld x = true) (hl : isC x l = true) (hL : ∀ y ∈ L, isC x y = true) (h : FP m L) : ∃ m', delay_accesses_found_y1 l m = some (.next m') ∧ FP m' (L ++ [l]) := by
  obtain ⟨hst, h2, h3⟩ := isC_st hl
  have hf : few l := few_of h3
  obtain ⟨r, e, hr⟩ := scan2 (S := FMp) (R := FMp) l (fun k m => (∀ j, mhas m j = true ↔ (∃ y ∈ L, j ∈ y) ∨ j ∈ l.take k) ∧ ∀ j, mhas m j = true → (mget [] m j ∈ L ∨ mget [] m j = l) ∧ j ∈ mget [] m j) (fun m => FP m (L ++ [l])) (body := delay_accesses_found_b2 l) (s0 := m) ⟨fun j => by rw [h.has j]; simp, fun j hj => ⟨.inl (h.get j hj).1, (h.get j hj).2⟩⟩
    (fun k s m hk hI => by
      obtain ⟨hlt, hik⟩ := few_in hf hk
      obtain ⟨f1, f2, f3⟩ := st_fit hv (hst s (List.mem_of_getElem? hk))
      obtain ⟨hI1, hI2⟩ := hI
      left
      unfold delay_accesses_found_b2
      dsimp only
      rw [Int.toNat_natCast, getD_of hk, if_pos (decide_eq_true (by omega)), ck_pos (by omega), ck_pos (by omega), ck_pos f1, ck_pos f2, ck_pos f3, ck_pos (by
        cases hm : mhas m s with
        | false => exact .inl rfl
        | true => exact .inr (List.length_pos_of_mem (hI2 s hm).2))]
      have hmem : s ∈ l := List.mem_of_getElem? hk
      cases hm : mhas m s with
      | true =>
        rw [if_neg (by simp), ck_pos hik]
        refine ⟨m, rfl, fun j => ?_, hI2⟩
        rw [take_one hk, List.mem_append, List.mem_singleton, hI1 j]
        constructor
        · rintro (h | h)
          · exact .inl h
          · exact .inr (.inl h)
        · rintro (h | h | h)
          · exact .inl h
          · exact .inr h
          · subst h; exact (hI1 j).1 hm
      | false =>
        rw [if_pos (show (!false) = true from rfl), ck_pos f1, ck_pos f2, ck_pos f3, ck_pos hik]
        refine ⟨_, rfl, fun j => ?_, fun j hj => ?_⟩
        · rw [mput_has hm, Bool.or_eq_true, decide_eq_true_eq, hI1 j, take_one hk, List.mem_append, List.mem_singleton]
          constructor
          · rintro (h | h | h)
            · exact .inr (.inr h)
            · exact .inl h
            · exact .inr (.inl h)
          · rintro (h | h | h)
            · exact .inr (.inl h)
            · exact .inr (.inr h)
            · exact .inl h
        · rw [mput_has hm, Bool.or_eq_true, decide_eq_true_eq] at hj
          rw [mput_get hm]
          by_cases e : j = s
          · rw [if_pos e, e]; exact ⟨.inr rfl, hmem⟩
          · rw [if_neg e]; exact hI2 j (hj.resolve_left e))
    (fun m hI => ⟨m, by unfold delay_accesses_found_b2; rw [if_neg (by simp)], ⟨fun k => by
      rw [hI.1 k, List.take_length]
      constructor
      · rintro (⟨y, hy, hk⟩ | hk)
        · exact ⟨y, by simp [hy], hk⟩
        · exact ⟨l, by simp, hk⟩
      · rintro ⟨y, hy, hk⟩
        rcases List.mem_append.1 hy with hy | hy
        · exact .inl ⟨y, hy, hk⟩
        · rw [List.mem_singleton.1 hy] at hk; exact .inr hk, fun k hk => ⟨by
        rcases (hI.2 k hk).1 with h | h
        · exact List.mem_append_left _ h
        · exact List.mem_append_right _ (by rw [h]; simp), (hI.2 k hk).2⟩⟩⟩)
  refine ⟨r, ?_, hr⟩
  unfold delay_accesses_found_y1
  rw [e]; rfl

theorem found_fold {x : Acs} (hv : vld x = true) : ∀ (M L : List (List Sta)) (m : FMp), (∀ y ∈ L, isC x y = true) → (∀ y ∈ M, isC x y = true) → FP m L → ∃ m', foldY delay_accesses_found_y1 M m = some (.inl m') ∧ FP m' (L ++ M)
  | [], L, m, _, _, h => ⟨m, rfl, by rw [List.append_nil]; exact h⟩
  | l :: M, L, m, hL, hM, h => by
    obtain ⟨m1, e1, h1⟩ := found_one hv (hM l (by simp)) hL h
    obtain ⟨m2, e2, h2⟩ := found_fold hv M (L ++ [l]) m1 (fun y hy => by
      rcases List.mem_append.1 hy with hy | hy
      · exact hL y hy
      · rw [List.mem_singleton.1 hy]; exact hM l (by simp)) (fun y hy => hM y (by simp [hy])) h1
    refine ⟨m2, ?_, by rw [List.append_assoc] at h2; exact h2⟩
    simp only [foldY]
    rw [e1, Option.bind_some]
    exact e2

theorem found_eq {x : Acs} (hv : vld x = true) : ∃ m, delay_accesses_found x = some m ∧ FP m (circs x) := by
  obtain ⟨m, e, h⟩ := found_fold hv (circs x) [] [] (fun y hy => by simp at hy) (fun y hy => mem_circs.1 hy) ⟨fun k => by simp [mhas], fun k hk => by simp [mhas] at hk⟩
  refine ⟨m, ?_, h⟩
  unfold delay_accesses_found
  have hf2 := circles_eq (R := Empty) hv _ e
  rw [hf2]; rfl

theorem fp_any {m : FMp} {L : List (List Sta)} (h : FP m L) (p : Sta) : mhas m p = L.any fun l => l.any fun s => decide (s = p) := by
  rw [Bool.eq_iff_iff, h.has p, List.any_eq_true]
  constructor
  · rintro ⟨l, hl, hp⟩; exact ⟨l, hl, List.any_eq_true.2 ⟨p, hp, by simp⟩⟩
  · rintro ⟨l, hl, hp⟩
    obtain ⟨s, hs, e⟩ := List.any_eq_true.1 hp
    exact ⟨l, hl, by rw [← of_decide_eq_true e]; exact hs⟩

theorem onCircles1_eq {x : Acs} (hv : vld x = true) {m : FMp} {L : List (List Sta)} (h : FP m L) {p : Sta} (hp : fitS p) : delay_accesses_onCircles_1 p m = some () := by
  unfold delay_accesses_onCircles_1
  rw [ck_pos hp.1, ck_pos hp.2.1, ck_pos hp.2.2, ck_pos (by
    cases hm : mhas m p with
    | false => exact .inl rfl
    | true => exact .inr (List.length_pos_of_mem (h.get p hm).2))]

theorem onCircles_eq {x : Acs} (hv : vld x = true) : delay_accesses_onCircles x = some (need x) := by
  unfold delay_accesses_onCircles
  obtain ⟨m, e, h⟩ := found_eq hv
  rw [e, Option.bind_some, pairs_eq hv, Option.bind_some]
  have hf := prs_few hv
  have hfit := prs_fit hv
  generalize hs : prs x = s at hf hfit
  have hidx : slices_IndexFunc_6 s m = some (idxI (fun p => !mhas m p) s) := by
    unfold slices_IndexFunc_6
    rw [whileO_first s (fun p => !mhas m p) (fun k a hk => by
      obtain ⟨hlt, hik⟩ := few_in hf hk
      unfold slices_IndexFunc_6_b1
      rw [if_pos (decide_eq_true (by omega)), ck_pos (by omega), ck_pos (by omega), Int.toNat_natCast, getD_of hk, onCircles1_eq hv h (hfit a (List.mem_of_getElem? hk)), Option.bind_some]
      cases mhas m a <;> simp [ck_pos hik]) (by unfold slices_IndexFunc_6_b1; rw [if_neg (by simp)]), Option.bind_some]
    unfold idxI slices_IndexFunc_6_k1
    cases s.findIdx? (fun p => !mhas m p) <;> rfl
  have hd2 : slices_DeleteFunc_2 s m = some (s.filter fun p => !!mhas m p) := by
    unfold slices_DeleteFunc_2
    refine delF s (fun p => !mhas m p) hf hidx (body := slices_DeleteFunc_2_b1 m) (k1 := slices_DeleteFunc_2_k1) (fun l i j y hl hij hj hy => ?_) (fun l i hl => ?_) (fun l i hi => ?_)
    · have hjl := (List.getElem?_eq_some_iff.1 hj).1
      have hf' : few l := by unfold few at *; omega
      obtain ⟨_, hik⟩ := few_in hf' hj
      unfold slices_DeleteFunc_2_b1
      dsimp only
      rw [Int.toNat_natCast, getD_of hj, if_pos (decide_eq_true (by omega)), ck_pos (by omega), ck_pos (by omega), onCircles1_eq hv h (hfit y hy), Option.bind_some]
      cases mhas m y with
      | false => rw [if_neg (by simp), ck_pos hik, if_pos (by simp)]
      | true => rw [if_pos (by simp), ck_pos (by omega), ck_pos (by omega), ck_pos (by rw [inK_i64] at *; omega), ck_pos hik, if_neg (by simp), Int.toNat_natCast]
    · unfold slices_DeleteFunc_2_b1
      dsimp only
      rw [if_neg (by simp [hl])]
    · unfold slices_DeleteFunc_2_k1
      dsimp only
      rw [Int.toNat_natCast, ck_pos (by omega), ck_pos (by omega), ck_pos (by omega), ck_pos (by omega), ck_pos (by omega), ck_pos (by simp only [List.length_append, List.length_take, List.length_replicate, List.length_drop]; omega), clear_take l _ (by omega)]
  rw [hd2, Option.bind_some]
  unfold need
  rw [hs]
  congr 1
  exact List.filter_congr fun p _ => by rw [Bool.not_not, fp_any h]

end Go.Proofs.Ytdicomoggfhbfaa
