/-
  Layer 1, pure: the states that are reached, the ways to them.
-/
import Derived.Test.YtcgflignbhmoaaaP5
namespace Go.Proofs.Ytcgflignbhmoaaa
open Go.RowKit

set_option linter.unusedVariables false
set_option linter.unusedSectionVars false
set_option linter.unusedSimpArgs false

/-! ### Sorting few numbers -/

theorem ins_inner : ∀ (j : Nat) (l : List Int), j < l.length → l.length ≤ 8 → ∃ l', whileN (slices_insertionSortOrdered_b2 0) (j + 1) (l, (j : Int)) = some l' ∧ l'.Perm l
  | 0, l, hj, hl => by
    refine ⟨l, ?_, .refl _⟩
    unfold whileN slices_insertionSortOrdered_b2
    rw [if_neg (by simp)]
  | j + 1, l, hj, hl => by
    have e1 : (((j + 1 : Nat) : Int) - 1) = (j : Int) := by omega
    unfold whileN slices_insertionSortOrdered_b2
    simp only [e1, Int.toNat_natCast]
    rw [if_pos (by rw [decide_eq_true_eq]; omega), ck_pos (by omega), ck_pos (by omega), ck_pos (by rw [inK_i64]; omega), ck_pos (by omega), ck_pos (by omega)]
    unfold cmp_Less cmp_isNaN
    simp only [Option.bind_some]
    by_cases hlt : l.getD (j + 1) 0 < l.getD j 0
    · rw [if_pos (by simpa using hlt), ck_pos (by rw [inK_i64]; omega), ck_pos (by rw [inK_i64]; omega), ck_pos (by omega), ck_pos (by omega), ck_pos (by omega), ck_pos (by omega), ck_pos (by omega), ck_pos (by omega), ck_pos (by omega), ck_pos (by rw [List.length_set]; omega), ck_pos (by rw [inK_i64]; omega)]
      have g1 : l.getD (j + 1) 0 = l[j + 1] := getD_of (List.getElem?_eq_getElem hj)
      have g2 : l.getD j 0 = l[j] := getD_of (List.getElem?_eq_getElem (by omega))
      rw [g1, g2]
      obtain ⟨l', h1, h2⟩ := ins_inner j ((l.set (j + 1) l[j]).set j l[j + 1]) (by simp; omega) (by simpa using hl)
      exact ⟨l', h1, h2.trans (List.set_set_perm hj (by omega))⟩
    · rw [if_neg (by simpa using hlt)]
      exact ⟨l, rfl, .refl _⟩

theorem ins_step (n : Nat) (hn : n ≤ 8) (k : Nat) (l : List Int) (hk : k < n) (hl : l.length = n) : ∃ l1, slices_insertionSortOrdered_b1 0 n (l, (k : Int)) = some (.next (l1, ((k + 1 : Nat) : Int))) ∧ l1.Perm l := by
  obtain ⟨l1, h1, h2⟩ := ins_inner k l (by omega) (by omega)
  refine ⟨l1, ?_, h2⟩
  unfold slices_insertionSortOrdered_b1
  rw [if_pos (by rw [decide_eq_true_eq]; omega), whileO_of h1, Option.bind_some]
  unfold slices_insertionSortOrdered_k1
  have hk' : InK .i64 ((k : Int) + 1) := by rw [inK_i64]; omega
  rw [ck_pos hk']
  rfl

theorem ins_outer (n : Nat) (hn : n ≤ 8) : ∀ (d k : Nat) (l : List Int), n - k = d → l.length = n → ∃ l', whileN (slices_insertionSortOrdered_b1 0 n) (d + 1) (l, (k : Int)) = some l' ∧ l'.Perm l := by
  intro d
  induction d with
  | zero =>
    intro k l hd hl
    refine ⟨l, ?_, .refl _⟩
    unfold whileN slices_insertionSortOrdered_b1
    rw [if_neg (by rw [decide_eq_true_eq]; omega)]
  | succ d ih =>
    intro k l hd hl
    obtain ⟨l1, h1, h2⟩ := ins_step n hn k l (by omega) hl
    obtain ⟨l', h3, h4⟩ := ih (k + 1) l1 (by omega) (by rw [h2.length_eq]; exact hl)
    refine ⟨l', ?_, h4.trans h2⟩
    unfold whileN
    rw [h1]
    exact h3

theorem Sort_eq (xs : List Int) (h : xs.length ≤ 8) : ∃ ys, slices_Sort xs = some ys ∧ ys.Perm xs := by
  have hins : ∃ ys, slices_insertionSortOrdered 0 (xs.length : Int) xs = some ys ∧ ys.Perm xs := by
    obtain ⟨ys, h1, h2⟩ := ins_outer xs.length h (xs.length - 1) 1 xs (by omega) rfl
    refine ⟨ys, ?_, h2⟩
    unfold slices_insertionSortOrdered
    have h1' : whileO (slices_insertionSortOrdered_b1 0 (xs.length : Int)) (xs, 0 + 1) = some ys := whileO_of h1
    rw [ck_pos (by rw [inK_i64]; omega), h1', Option.bind_some]
  obtain ⟨ys, h1, h2⟩ := hins
  refine ⟨ys, ?_, h2⟩
  unfold slices_Sort math_bits_Len
  rw [ck_pos (by unfold InK; simp [IntKind.min, IntKind.max, IntKind.signed, IntKind.bits]; omega), ck_pos (by omega), ck_pos (by omega), Option.bind_some]
  unfold slices_pdqsortOrdered
  have hb : ∀ v, slices_pdqsortOrdered_b1 0 (xs.length : Int) v xs () = some (.done ys) := by
    intro v
    unfold slices_pdqsortOrdered_b1
    rw [ck_pos (by rw [inK_i64]; omega), if_pos (by rw [decide_eq_true_eq]; omega), h1, Option.bind_some]
  rw [whileO_of (n := 1) (by unfold whileN; rw [hb])]
  rfl

/-! ### Ways -/

/-- The states that are reached, with their words. -/
def waysL (s : Tup) : List (Int × List Int) := (bfs (toSp s) (toSp s) (0, 0)).map fun e => (e.1.1, e.2)

theorem foldY_map {Y Z S R : Type} (g : Y → Z) (yl : Z → S → Option (Step S R)) (yl' : Y → S → Option (Step S R)) (h : ∀ y s, yl' y s = yl (g y) s) : ∀ (l : List Y) (s : S), foldY yl' l s = foldY yl (l.map g) s
  | [], s => rfl
  | y :: l, s => by
    simp only [foldY, List.map_cons, h]
    congr 1
    funext x
    cases x with
    | next s' => exact foldY_map g yl yl' h l s'
    | done e => rfl

theorem zero_ok {s : Tup} (hv : (toSp s).ok = true) : okP (toSp s) (toSp s) (0, 0) := by
  have := (Sp.okE hv).1
  exact ⟨by simp only [inR, decide_eq_true_eq]; omega, by simp only [inR, decide_eq_true_eq]; omega⟩

theorem ways_eq {S R : Type} {s : Tup} (hv : (toSp s).ok = true) (yl : Int × List Int → S → Option (Step S R)) (s0 : S) {r : Sum S R} (h : foldY yl (waysL s) s0 = some r) : spec_machine_ways_1 S R s yl s0 = some r := by
  unfold spec_machine_ways_1 spec_walk
  rw [Option.bind_some]
  have h1 : foldY (spec_machine_ways_1_y1 S R yl) (bfs (toSp s) (toSp s) (0, 0)) s0 = some r := by
    rw [foldY_map (fun e : Elt => (e.1.1, e.2)) yl (spec_machine_ways_1_y1 S R yl) (fun y st => ?_)]
    · exact h
    · unfold spec_machine_ways_1_y1
      cases yl (y.1.1, y.2) st with
      | none => rfl
      | some x => cases x <;> rfl
  rw [walk_eq S R (0, 0) s s hv hv rfl (zero_ok hv) _ s0 h1, Option.bind_some]
  cases r <;> rfl

theorem lead_diag (S : Sp) : ∀ (w : List Int) (q : Int), (lead S S (q, q) w).1 = (lead S S (q, q) w).2
  | [], q => rfl
  | o :: w, q => lead_diag S w (at2 S.nx q o.toNat)

section
variable {s : Tup} (hv : (toSp s).ok = true)
include hv

theorem diag {e : Elt} (he : e ∈ bfs (toSp s) (toSp s) (0, 0)) : e.1.1 = e.1.2 := by
  rw [← (bfs_lead hv hv rfl (zero_ok hv) he).1]
  exact lead_diag _ _ _

theorem ways_nodup : ((waysL s).map (·.1)).Nodup := by
  have h := (bfsK_fnd hv hv rfl (zero_ok hv) 64).nd
  unfold waysL
  rw [List.map_map]
  unfold List.Nodup at h ⊢
  rw [List.pairwise_map] at h ⊢
  refine List.Pairwise.imp_of_mem ?_ h
  intro a b ha hb hne e
  have h1 := diag hv ha
  have h2 := diag hv hb
  have e' : a.1.1 = b.1.1 := e
  exact hne (Prod.ext e' (by rw [← h1, ← h2, e']))

theorem ways_in {x : Int × List Int} (hx : x ∈ waysL s) : inR s.1 x.1 = true := by
  obtain ⟨e, he, rfl⟩ := List.mem_map.1 hx
  exact ((bfsK_fnd hv hv rfl (zero_ok hv) 64).ok e he).1

theorem ways_len : ((waysL s).length : Int) ≤ s.1 := by
  have hm := Sp.okE hv
  have h1 : 1 ≤ s.1 := hm.1
  have h := ways_nodup hv
  have : (((waysL s).map (·.1)).map Int.toNat).length ≤ s.1.toNat := by
    refine nodup_lt _ _ ?_ ?_
    · unfold List.Nodup at h ⊢
      rw [List.pairwise_map]
      refine List.Pairwise.imp_of_mem ?_ h
      intro a b ha hb hne e
      obtain ⟨x, hx, rfl⟩ := List.mem_map.1 ha
      obtain ⟨y, hy, rfl⟩ := List.mem_map.1 hb
      have h1 := ways_in hv hx
      have h2 := ways_in hv hy
      simp only [inR, decide_eq_true_eq] at h1 h2
      exact hne (by omega)
    · intro x hx
      obtain ⟨q, hq, rfl⟩ := List.mem_map.1 hx
      obtain ⟨y, hy, rfl⟩ := List.mem_map.1 hq
      have h2 := ways_in hv hy
      simp only [inR, decide_eq_true_eq] at h2
      omega
  simp only [List.length_map] at this
  omega

/-- The state behind a word. -/
theorem run_lead : ∀ (w acc : List Int) (q : Int), (w.foldl (runStep s) (acc, q)).2 = (lead (toSp s) (toSp s) (q, q) w).1
  | [], acc, q => rfl
  | o :: w, acc, q => by
    rw [List.foldl_cons]
    exact run_lead w _ (at2 s.2.2.1 q o.toNat)

theorem way_of {w : List Int} (hw : calls s.2.1 w) : ∃ x ∈ waysL s, x.1 = (runF s 0 w).2 ∧ x.2.length ≤ w.length := by
  obtain ⟨e, he, h1, h2⟩ := bfs_short hv hv rfl (zero_ok hv) (v := w) hw
  refine ⟨(e.1.1, e.2), List.mem_map.2 ⟨e, he, rfl⟩, ?_, h2⟩
  unfold runF
  rw [run_lead hv, ← h1]

theorem way_runs {x : Int × List Int} (hx : x ∈ waysL s) : calls s.2.1 x.2 ∧ (runF s 0 x.2).2 = x.1 ∧ (x.2.length : Int) < s.1 := by
  obtain ⟨e, he, rfl⟩ := List.mem_map.1 hx
  obtain ⟨h1, h2⟩ := bfs_lead hv hv rfl (zero_ok hv) he
  refine ⟨h2, ?_, ?_⟩
  · unfold runF
    rw [run_lead hv, h1]
  · obtain ⟨i, hi⟩ := List.getElem?_of_mem he
    have h3 := (bfs_shr hv hv rfl (zero_ok hv)).ix i e hi
    have h4 := lt_of_get hi
    have h5 := ways_len hv
    unfold waysL at h5
    rw [List.length_map] at h5
    simp only
    omega

theorem way_uniq {x y : Int × List Int} (hx : x ∈ waysL s) (hy : y ∈ waysL s) (h : x.1 = y.1) : x = y := by
  obtain ⟨i, hi⟩ := List.getElem?_of_mem hx
  obtain ⟨j, hj⟩ := List.getElem?_of_mem hy
  have hn := ways_nodup hv
  unfold List.Nodup at hn
  rw [List.pairwise_map, List.pairwise_iff_getElem] at hn
  obtain ⟨li, ei⟩ := List.getElem?_eq_some_iff.1 hi
  obtain ⟨lj, ej⟩ := List.getElem?_eq_some_iff.1 hj
  rcases Nat.lt_trichotomy i j with hlt | rfl | hlt
  · exact absurd (by rw [ei, ej]; exact h) (hn i j li lj hlt)
  · rw [hi] at hj; injection hj
  · exact absurd (by rw [ei, ej]; exact h.symm) (hn j i lj li hlt)

end

/-! ### The answers -/

theorem fold_find (to : Int) : ∀ (l : List (Int × List Int)), foldY (spec_Way_y1 to) l () = some (match l.find? (fun x => decide (x.1 = to)) with | some x => .inr x.2 | none => .inl ())
  | [] => rfl
  | x :: l => by
    simp only [foldY, List.find?_cons]
    unfold spec_Way_y1
    by_cases h : x.1 = to
    · simp [h]
    · simp only [h, decide_false, Bool.false_eq_true, if_false, Option.bind_some]
      exact fold_find to l

/-- The answer of Way. -/
def wayOf (s : Tup) (to : Int) : List Int × Int := match (waysL s).find? (fun x => decide (x.1 = to)) with | some x => (x.2, 0) | none => ([], 5)

theorem Way_eq (s : Tup) (hs : okS s) (to : Int) : spec_Way s to = some (if (toSp s).ok = true then (if inR s.1 to = true then wayOf s to else ([], 2)) else ([], 10)) := by
  unfold spec_Way wayOf
  rw [checked_eq s hs [to] (by rw [maxLen_num]; simp), Option.bind_some]
  cases hv : (toSp s).ok
  · simp
  simp only [if_true, List.all_cons, List.all_nil, Bool.and_true]
  cases ha : inR s.1 to
  · simp
  simp only [if_true, decide_true, Bool.not_true, Bool.false_eq_true, if_false]
  unfold spec_machine_ways
  rw [Option.bind_some, show ((s.1, s.2.1, s.2.2.1, s.2.2.2) : Tup) = s from rfl, ways_eq hv (spec_Way_y1 to) () (fold_find to (waysL s)), Option.bind_some]
  cases (waysL s).find? (fun x => decide (x.1 = to)) <;> rfl

theorem fold_app (n : Nat) : ∀ (l : List (Int × List Int)) (acc : List Int), acc.length + l.length ≤ 64 → foldY (R := Empty) spec_machine_reached_y1 l acc = some (.inl (acc ++ l.map (·.1)))
  | [], acc, _ => by simp [foldY]
  | x :: l, acc, h => by
    simp only [List.length_cons] at h
    simp only [foldY]
    unfold spec_machine_reached_y1
    rw [ck_pos (by omega), Option.bind_some]
    have := fold_app n l (acc ++ [x.1]) (by simp; omega)
    unfold spec_machine_reached_y1 at this
    simp only
    rw [this]; simp

theorem reached_eq {s : Tup} (hv : (toSp s).ok = true) : ∃ ys, spec_machine_reached s = some ys ∧ ys.Perm ((waysL s).map (·.1)) := by
  have h1 := ways_len hv
  have h2 : s.1 ≤ 8 := (Sp.okE hv).2.1
  obtain ⟨ys, h3, h4⟩ := Sort_eq ((waysL s).map (·.1)) (by rw [List.length_map]; omega)
  refine ⟨ys, ?_, h4⟩
  unfold spec_machine_reached spec_machine_ways
  rw [Option.bind_some, ways_eq (R := Empty) hv spec_machine_reached_y1 [] (fold_app 0 (waysL s) [] (by simp; omega)), Option.bind_some]
  simp only [List.nil_append]
  unfold spec_machine_reached_k1
  rw [h3, Option.bind_some]

theorem Reached_eq (s : Tup) (hs : okS s) (hv : (toSp s).ok = true) : ∃ ys, spec_Reached s = some (ys, 0) ∧ ys.Perm ((waysL s).map (·.1)) := by
  obtain ⟨ys, h1, h2⟩ := reached_eq hv
  refine ⟨ys, ?_, h2⟩
  unfold spec_Reached
  rw [checked_eq s hs [] (by rw [maxLen_num]; simp), Option.bind_some]
  simp only [hv, if_true, List.all_nil, decide_true, Bool.not_true, Bool.false_eq_true, if_false]
  rw [show ((s.1, s.2.1, s.2.2.1, s.2.2.2) : Tup) = s from rfl, h1, Option.bind_some]
end Go.Proofs.Ytcgflignbhmoaaa
