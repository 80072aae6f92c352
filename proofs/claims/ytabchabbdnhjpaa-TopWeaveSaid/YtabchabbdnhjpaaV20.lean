/-
  Layer 3, pure: few numbers sorted are in ascending order, and there is one such order.
-/
import Derived.Test.YtabchabbdnhjpaaV13
import Derived.Test.YtabchabbdnhjpaaV12
namespace Go.Proofs.Ytabchabbdnhjpaa
open Go.RowKit

set_option linter.unusedVariables false
set_option linter.unusedSectionVars false
set_option linter.unusedSimpArgs false

theorem getD_sets {t : List Int} {a : Nat} {x : Int} (h : a < t.length) {k : Nat} : (t.set a x).getD k 0 = if k = a then x else t.getD k 0 := by
  rw [getD_set]
  by_cases e : a = k
  · rw [if_pos ⟨e, h⟩, if_pos e.symm]
  · rw [if_neg fun g => e g.1, if_neg fun g => e g.symm]

/-- The first k numbers ascend. -/
def ascK (k : Nat) (l : List Int) : Prop := ∀ p q, p < q → q < k → l.getD p 0 ≤ l.getD q 0

theorem ins_inner_asc (k : Nat) : ∀ (j : Nat) (l : List Int), j < k → k ≤ l.length → l.length ≤ 8 → (∀ p q, p < q → q < k → p ≠ j → q ≠ j → l.getD p 0 ≤ l.getD q 0) → (∀ q, j < q → q < k → l.getD j 0 ≤ l.getD q 0) →
    ∃ l', whileN (slices_insertionSortOrdered_b2 0) (j + 1) (l, (j : Int)) = some l' ∧ l'.Perm l ∧ ascK k l'
  | 0, l, hj, hk, hl, h1, h2 => by
    refine ⟨l, ?_, .refl _, fun p q hpq hq => ?_⟩
    · unfold whileN slices_insertionSortOrdered_b2
      rw [if_neg (by simp)]
    · by_cases e : p = 0
      · subst e; exact h2 q hpq hq
      · exact h1 p q hpq hq e (by omega)
  | j + 1, l, hj, hk, hl, h1, h2 => by
    have e1 : (((j + 1 : Nat) : Int) - 1) = (j : Int) := by omega
    unfold whileN slices_insertionSortOrdered_b2
    simp only [e1, Int.toNat_natCast]
    rw [if_pos (by rw [decide_eq_true_eq]; omega), ck_pos (by omega), ck_pos (by omega), ck_pos (by rw [inK_i64]; omega), ck_pos (by omega), ck_pos (by omega)]
    unfold cmp_Less cmp_isNaN
    simp only [Option.bind_some]
    by_cases hlt : l.getD (j + 1) 0 < l.getD j 0
    · rw [if_pos (by simpa using hlt), ck_pos (by rw [inK_i64]; omega), ck_pos (by rw [inK_i64]; omega), ck_pos (by omega), ck_pos (by omega), ck_pos (by omega), ck_pos (by omega), ck_pos (by omega), ck_pos (by omega), ck_pos (by omega), ck_pos (by rw [List.length_set]; omega), ck_pos (by rw [inK_i64]; omega)]
      have hg : ∀ q, ((l.set (j + 1) (l.getD j 0)).set j (l.getD (j + 1) 0)).getD q 0 = if q = j then l.getD (j + 1) 0 else if q = j + 1 then l.getD j 0 else l.getD q 0 := fun q => by
        rw [getD_sets (by rw [List.length_set]; omega), getD_sets (by omega)]
      obtain ⟨l', k1, k2, k3⟩ := ins_inner_asc k j ((l.set (j + 1) (l.getD j 0)).set j (l.getD (j + 1) 0)) (by omega) (by simp; omega) (by simpa using hl) (fun p q hpq hq hp hqj => by
        rw [hg, hg, if_neg hp, if_neg hqj]
        by_cases a1 : p = j + 1
        · rw [if_pos a1, if_neg (by omega)]; exact h1 j q (by omega) hq (by omega) (by omega)
        · rw [if_neg a1]
          by_cases a2 : q = j + 1
          · rw [if_pos a2]; exact h1 p j (by omega) (by omega) a1 (by omega)
          · rw [if_neg a2]; exact h1 p q hpq hq a1 a2) (fun q hq hqk => by
        rw [hg, hg, if_pos rfl, if_neg (by omega)]
        by_cases a2 : q = j + 1
        · rw [if_pos a2]; omega
        · rw [if_neg a2]; exact h2 q (by omega) hqk)
      have hperm : ((l.set (j + 1) (l.getD j 0)).set j (l.getD (j + 1) 0)).Perm l := by
        have g1 : l.getD (j + 1) 0 = l[j + 1] := getD_of (List.getElem?_eq_getElem (by omega))
        have g2 : l.getD j 0 = l[j] := getD_of (List.getElem?_eq_getElem (by omega))
        rw [g1, g2]
        exact List.set_set_perm (by omega) (by omega)
      exact ⟨l', k1, k2.trans hperm, k3⟩
    · rw [if_neg (by simpa using hlt)]
      refine ⟨l, rfl, .refl _, fun p q hpq hq => ?_⟩
      by_cases a2 : q = j + 1
      · subst a2
        by_cases a1 : p = j
        · subst a1; omega
        · have := h1 p j (by omega) (by omega) (by omega) (by omega)
          omega
      · by_cases a1 : p = j + 1
        · subst a1; exact h2 q hpq hq
        · exact h1 p q hpq hq a1 a2

theorem ins_outer_asc (n : Nat) (hn : n ≤ 8) : ∀ (d k : Nat) (l : List Int), n - k = d → k ≤ n → l.length = n → ascK k l → ∃ l', whileN (slices_insertionSortOrdered_b1 0 n) (d + 1) (l, (k : Int)) = some l' ∧ l'.Perm l ∧ ascK n l' := by
  intro d
  induction d with
  | zero =>
    intro k l hd hk hl ha
    have : k = n := by omega
    subst this
    refine ⟨l, ?_, .refl _, ha⟩
    unfold whileN slices_insertionSortOrdered_b1
    rw [if_neg (by rw [decide_eq_true_eq]; omega)]
  | succ d ih =>
    intro k l hd hk hl ha
    obtain ⟨l1, h1, h2, h3⟩ := ins_inner_asc (k + 1) k l (by omega) (by omega) (by omega) (fun p q hpq hq hp hqk => ha p q hpq (by omega)) (fun q hq hqk => by omega)
    obtain ⟨l', h4, h5, h6⟩ := ih (k + 1) l1 (by omega) (by omega) (by rw [h2.length_eq]; exact hl) h3
    refine ⟨l', ?_, h5.trans h2, h6⟩
    unfold whileN
    have hb : slices_insertionSortOrdered_b1 0 n (l, (k : Int)) = some (.next (l1, ((k + 1 : Nat) : Int))) := by
      unfold slices_insertionSortOrdered_b1
      rw [if_pos (by rw [decide_eq_true_eq]; omega), whileO_of h1, Option.bind_some]
      unfold slices_insertionSortOrdered_k1
      have hk' : InK .i64 ((k : Int) + 1) := by rw [inK_i64]; omega
      rw [ck_pos hk']
      rfl
    rw [hb]
    exact h4

theorem Sort_asc (xs : List Int) (h : xs.length ≤ 8) : ∃ ys, slices_Sort xs = some ys ∧ ys.Perm xs ∧ ys.Pairwise (· ≤ ·) := by
  have hins : ∃ ys, slices_insertionSortOrdered 0 (xs.length : Int) xs = some ys ∧ ys.Perm xs ∧ ascK xs.length ys := by
    cases hx : xs with
    | nil =>
      refine ⟨[], ?_, .refl _, fun p q hpq hq => by simp at hq⟩
      unfold slices_insertionSortOrdered
      have : whileO (slices_insertionSortOrdered_b1 0 (([] : List Int).length : Int)) ([], 0 + 1) = some [] := whileO_of (n := 1) (by
        unfold whileN slices_insertionSortOrdered_b1
        rw [if_neg (by simp)])
      rw [ck_pos (by rw [inK_i64]; omega), this, Option.bind_some]
    | cons x r =>
      rw [← hx]
      have hpos : 1 ≤ xs.length := by rw [hx]; simp
      obtain ⟨ys, h1, h2, h3⟩ := ins_outer_asc xs.length h (xs.length - 1) 1 xs (by omega) hpos rfl (fun p q hpq hq => by omega)
      refine ⟨ys, ?_, h2, h3⟩
      unfold slices_insertionSortOrdered
      have h1' : whileO (slices_insertionSortOrdered_b1 0 (xs.length : Int)) (xs, 0 + 1) = some ys := whileO_of h1
      rw [ck_pos (by rw [inK_i64]; omega), h1', Option.bind_some]
  obtain ⟨ys, h1, h2, h3⟩ := hins
  refine ⟨ys, ?_, h2, ?_⟩
  · unfold slices_Sort math_bits_Len
    rw [ck_pos (by unfold InK; simp [IntKind.min, IntKind.max, IntKind.signed, IntKind.bits]; omega), ck_pos (by omega), ck_pos (by omega), Option.bind_some]
    unfold slices_pdqsortOrdered
    have hb : ∀ v, slices_pdqsortOrdered_b1 0 (xs.length : Int) v xs () = some (.done ys) := by
      intro v
      unfold slices_pdqsortOrdered_b1
      rw [ck_pos (by rw [inK_i64]; omega), if_pos (by rw [decide_eq_true_eq]; omega), h1, Option.bind_some]
    rw [whileO_of (n := 1) (by unfold whileN; rw [hb])]
    rfl
  · rw [List.pairwise_iff_getElem]
    intro i j hi hj hij
    have := h3 i j hij (by rw [← h2.length_eq]; exact hj)
    rw [getD_of (List.getElem?_eq_getElem hi), getD_of (List.getElem?_eq_getElem hj)] at this
    exact this


/-- There is one ascending order. -/
theorem asc_perm : ∀ {x y : List Int}, x.Pairwise (· ≤ ·) → y.Pairwise (· ≤ ·) → x.Perm y → x = y
  | [], y, _, _, h => (List.Perm.nil_eq h)
  | a :: r, [], _, _, h => by have := h.length_eq; simp at this
  | a :: r, b :: s, hx, hy, h => by
    rw [List.pairwise_cons] at hx hy
    have e : a = b := by
      rcases List.mem_cons.1 (h.subset (List.mem_cons_self)) with e | hm
      · exact e
      rcases List.mem_cons.1 (h.symm.subset (List.mem_cons_self)) with e | hn
      · exact e.symm
      have := hx.1 b hn
      have := hy.1 a hm
      omega
    subst e
    rw [asc_perm hx.2 hy.2 h.cons_inv]

/-- A list in ascending order. -/
def srt (x : List Int) : List Int := x.mergeSort (fun a b => decide (a ≤ b))
theorem srt_perm (x : List Int) : (srt x).Perm x := List.mergeSort_perm x _
theorem srt_asc (x : List Int) : (srt x).Pairwise (· ≤ ·) := by
  have := List.pairwise_mergeSort (le := fun a b : Int => decide (a ≤ b)) (by intro a b c h1 h2; simp at *; omega) (by intro a b; simp; omega) x
  exact this.imp (by intro a b h; simpa using h)
theorem srt_eq {x y : List Int} (hy : y.Pairwise (· ≤ ·)) (h : y.Perm x) : srt x = y := asc_perm (srt_asc x) hy ((srt_perm x).trans h.symm)
theorem srt_congr {x y : List Int} (h : x.Perm y) : srt x = srt y := (srt_eq (srt_asc y) ((srt_perm y).trans h.symm))
theorem Sort_eq (x : List Int) (h : x.length ≤ 8) : slices_Sort x = some (srt x) := by
  obtain ⟨y, h1, h2, h3⟩ := Sort_asc x h
  rw [h1, srt_eq h3 h2]

end Go.Proofs.Ytabchabbdnhjpaa
