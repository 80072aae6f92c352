/-
  The program of accesses with fences, on both sides; DelayPrograms.
-/
import Derived.Test.YtdicomoggfhbfaaD16
import Derived.Test.YtdicomoggfhbfaaD14
namespace Go.Proofs.Ytdicomoggfhbfaa
open Go.RowKit

set_option linter.unusedVariables false
set_option linter.unusedSimpArgs false

/-- What an act or two add. -/
def actB (l : List Fen) (t : Int) (y : Int × Bool) (a : Nat) (w : Int) : List Sta := (if y.2 = true then [((2 : Int), y.1, w % 3 + 1)] else [((1 : Int), y.1, (0 : Int))]) ++ (if (t, (a : Int)) ∈ l then [((3 : Int), (0 : Int), (0 : Int))] else [])
def rowG (l : List Fen) (t : Int) (row : List (Int × Bool)) (k : Nat) (s : Int × List Sta) : Int × List Sta := (s.1 + (if (row.getD k (0, false)).2 = true then 1 else 0), s.2 ++ actB l t (row.getD k (0, false)) k s.1)
def rowP (l : List Fen) (t : Int) (row : List (Int × Bool)) (w : Int) : Int × List Sta := (List.range row.length).foldl (fun s k => rowG l t row k s) (w, [])
def prgG (x : Acs) (l : List Fen) (t : Nat) (s : List (List Sta) × Int) : List (List Sta) × Int := (s.1 ++ [(rowP l (t : Int) (x.getD t []) s.2).2], (rowP l (t : Int) (x.getD t []) s.2).1)
def prgP (x : Acs) (l : List Fen) : List (List Sta) × Int := (List.range x.length).foldl (fun s k => prgG x l k s) ([], 0)

/-- What is kept along a thread. -/
def rowI (w : Int) (k : Nat) (s : Int × List Sta) : Prop := w ≤ s.1 ∧ s.1 ≤ w + k ∧ s.2.length ≤ 2 * k ∧ ∀ a ∈ s.2, fitS a
theorem rowI_step {x : Acs} (hv : vld x = true) {l : List Fen} {t : Nat} (ht : t < x.length) {w : Int} (hw : 0 ≤ w ∧ w ≤ 1000) {k : Nat} (hk : k < (x.getD t []).length) {s : Int × List Sta} (h : rowI w k s) : rowI w (k + 1) (rowG l (t : Int) (x.getD t []) k s) := by
  obtain ⟨h1, h2, h3, h4⟩ := h
  have hr := vld_row hv t
  have hf := vld_fit hv _ (getD_in (d := []) ht) _ (getD_in (d := (0, false)) hk)
  have hi : ∀ z : Int, 0 ≤ z → z ≤ 10 → InK .i64 z := fun z a b => by rw [inK_i64]; omega
  unfold rowG rowI actB
  simp only
  refine ⟨by split <;> omega, by split <;> omega, ?_, fun a ha => ?_⟩
  · rw [List.length_append, List.length_append]
    have : (if ((x.getD t []).getD k (0, false)).2 = true then [((2 : Int), ((x.getD t []).getD k (0, false)).1, s.1 % 3 + 1)] else [((1 : Int), ((x.getD t []).getD k (0, false)).1, (0 : Int))]).length = 1 := by split <;> rfl
    have : (if ((t : Int), (k : Int)) ∈ l then [((3 : Int), (0 : Int), (0 : Int))] else []).length ≤ 1 := by split <;> simp
    omega
  · rcases List.mem_append.1 ha with ha | ha
    · exact h4 a ha
    · rcases List.mem_append.1 ha with ha | ha
      · split at ha
        · simp only [List.mem_singleton] at ha
          subst ha
          exact ⟨hi 2 (by decide) (by decide), hf, hi _ (by simp only; omega) (by simp only; omega)⟩
        · simp only [List.mem_singleton] at ha
          subst ha
          exact ⟨hi 1 (by decide) (by decide), hf, hi 0 (by decide) (by decide)⟩
      · split at ha
        · simp only [List.mem_singleton] at ha
          subst ha
          exact ⟨hi 3 (by decide) (by decide), hi 0 (by decide) (by decide), hi 0 (by decide) (by decide)⟩
        · simp at ha

theorem fold_range {S : Type} (g : Nat → S → S) (P : Nat → S → Prop) (n : Nat) {s0 : S} (h0 : P 0 s0) (h : ∀ k s, k < n → P k s → P (k + 1) (g k s)) : P n ((List.range n).foldl (fun s k => g k s) s0) := by
  induction n with
  | zero => exact h0
  | succ n ih =>
    rw [List.range_succ, List.foldl_append]
    exact h n _ (by omega) (ih fun k s hk => h k s (by omega))

theorem rowP_inv {x : Acs} (hv : vld x = true) (l : List Fen) {t : Nat} (ht : t < x.length) {w : Int} (hw : 0 ≤ w ∧ w ≤ 1000) : rowI w (x.getD t []).length (rowP l (t : Int) (x.getD t []) w) :=
  fold_range _ (rowI w) _ (s0 := (w, [])) ⟨by simp, by simp, by simp, by simp⟩ fun k s hk h => rowI_step hv ht hw hk h

def prgI (k : Nat) (s : List (List Sta) × Int) : Prop := 0 ≤ s.2 ∧ s.2 ≤ 4 * k ∧ s.1.length = k ∧ ∀ r ∈ s.1, r.length ≤ 8 ∧ ∀ a ∈ r, fitS a
theorem prgI_step {x : Acs} (hv : vld x = true) {l : List Fen} {t : Nat} (ht : t < x.length) {s : List (List Sta) × Int} (h : prgI t s) : prgI (t + 1) (prgG x l t s) := by
  obtain ⟨h1, h2, h3, h4⟩ := h
  have hlen := vld_len hv
  have hr := vld_row hv t
  obtain ⟨g1, g2, g3, g4⟩ := rowP_inv hv l ht (w := s.2) ⟨h1, by omega⟩
  unfold prgI prgG
  simp only
  refine ⟨by omega, by omega, by rw [List.length_append, h3]; rfl, fun r hr' => ?_⟩
  rcases List.mem_append.1 hr' with hr' | hr'
  · exact h4 r hr'
  · rw [List.mem_singleton] at hr'
    subst hr'
    exact ⟨by omega, g4⟩
theorem prgP_inv {x : Acs} (hv : vld x = true) (l : List Fen) : prgI x.length (prgP x l) :=
  fold_range _ prgI _ (s0 := ([], 0)) ⟨by simp, by simp, by simp, by simp⟩ fun k s hk h => prgI_step hv hk h

theorem Contains_eq {l : List Fen} (hl : few l) (hfit : ∀ f ∈ l, fitF f) {f : Fen} (hf : fitF f) : slices_Contains l f = some (decide (f ∈ l)) := by
  unfold slices_Contains
  rw [Index_eq hl hfit hf, Option.bind_some, idxI_any]
  congr 1
  rw [Bool.eq_iff_iff, List.any_eq_true, decide_eq_true_eq]
  constructor
  · rintro ⟨a, ha, e⟩; rw [of_decide_eq_true e]; exact ha
  · intro h; exact ⟨f, h, by simp⟩

theorem fit_nat {a b : Nat} (ha : a ≤ 1000) (hb : b ≤ 1000) : fitF ((a : Int), (b : Int)) := by
  unfold fitF; rw [inK_i64, inK_i64]; simp only; omega

theorem program_eq {x : Acs} (hv : vld x = true) {l : List Fen} (hl : few l) (hfit : ∀ f ∈ l, fitF f) : delay_accesses_program x l = some (prgP x l).1 := by
  unfold delay_accesses_program
  have hlen := vld_len hv
  have hr := vld_row hv
  have w2 : ∀ (t : Nat) (p : List (List Sta)) (w w' : Int), t < x.length → 0 ≤ w → w ≤ 100 → whileO (delay_accesses_program_b2 x l (p, w', (t : Int))) (w, [], 0) = some (rowP l (t : Int) (x.getD t []) w) := by
    intro t p w w' ht hw1 hw2
    have h4 := hr t
    refine (whileO_iter (R := Int × List Sta) (body := delay_accesses_program_b2 x l (p, w', (t : Int))) (fun (s : Int × List Sta) (i : Int) => (s.1, s.2, i)) (x.getD t []).length (fun k s => rowG l (t : Int) (x.getD t []) k s) (fun s => (s.1, s.2)) (rowI w) (s0 := (w, [])) ⟨by simp, by simp, by simp, by simp⟩ (fun k s hk h => ⟨?_, rowI_step hv ht ⟨hw1, by omega⟩ hk h⟩) (fun s h => ?_)).1
    · obtain ⟨h1, h2, h3, _⟩ := h
      have hcon := Contains_eq hl hfit (fit_nat (a := t) (b := k) (by omega) (by omega))
      have h9 : ∀ (b : Int × List Sta), b.2.length ≤ 100 → delay_accesses_program_k4 l (p, w', (t : Int)) (s.1, s.2, (k : Int)) b = some (.next (b.1, b.2 ++ (if ((t : Int), (k : Int)) ∈ l then [((3 : Int), (0 : Int), (0 : Int))] else []), (k : Int) + 1)) := fun b hb => by
        unfold delay_accesses_program_k4
        dsimp only
        rw [hcon, Option.bind_some]
        by_cases e : ((t : Int), (k : Int)) ∈ l
        · rw [if_pos (decide_eq_true e), if_pos e, ck_pos (by omega), ck_pos (inK_nat20 (by omega))]
        · rw [if_neg (by rw [decide_eq_true_eq]; exact e), if_neg e, ck_pos (inK_nat20 (by omega)), List.append_nil]
      unfold delay_accesses_program_b2 rowG actB
      dsimp only
      rw [Int.toNat_natCast, Int.toNat_natCast, if_pos (decide_eq_true (by omega)), ck_pos (by omega), ck_pos (by omega)]
      cases hy : ((x.getD t []).getD k (0, false)).2 with
      | true =>
        rw [if_pos rfl, if_pos rfl, if_pos rfl, ck_pos (by omega), ck_pos (by rw [inK_i64]; omega), ck_pos (by rw [inK_i64]; omega), ck_pos (by omega), h9 _ (by simp; omega)]
        simp only [List.append_assoc]
      | false =>
        rw [if_neg (by simp), if_neg (by simp), if_neg (by simp), ck_pos (by omega), h9 _ (by simp; omega)]
        simp only [List.append_assoc, Int.add_zero]
    · unfold delay_accesses_program_b2
      dsimp only
      rw [Int.toNat_natCast, if_neg (by simp)]
  have w1 := (whileO_iter (R := List (List Sta)) (body := delay_accesses_program_b1 x l) (fun (s : List (List Sta) × Int) (i : Int) => (s.1, s.2, i)) x.length (fun k s => prgG x l k s) (fun s => s.1) prgI (s0 := ([], 0)) ⟨by simp, by simp, by simp, by simp⟩ (fun k s hk h => ⟨by
    obtain ⟨h1, h2, h3, _⟩ := h
    unfold delay_accesses_program_b1
    dsimp only
    rw [if_pos (decide_eq_true (by omega)), ck_pos (by omega), ck_pos (by omega), w2 k s.1 s.2 s.2 hk h1 (by omega), Option.bind_some]
    unfold delay_accesses_program_k3 delay_accesses_program_k2
    dsimp only
    rw [ck_pos (by omega), ck_pos (inK_nat20 (by omega))]
    rfl, prgI_step hv hk h⟩) (fun s h => by
    unfold delay_accesses_program_b1
    dsimp only
    rw [if_neg (by simp)])).1
  have w1' : whileO (delay_accesses_program_b1 x l) ([], 0, 0) = some (prgP x l).1 := w1
  rw [w1', Option.bind_some]
  rfl

/-- How many accesses there are. -/
def totX (x : Acs) : Int := (x.map fun r => (r.length : Int)).sum

theorem Concat_eq {x : Acs} (hv : vld x = true) : ∃ c, slices_Concat x = some c ∧ (c.length : Int) = totX x := by
  have hlen := vld_len hv
  have hr := vld_row hv
  have hx3 : few x := few_of hlen.2.1
  obtain ⟨r, e, hr1⟩ := scan2 (S := Int) (R := Int) x (fun k a => a = totX (x.take k) ∧ 0 ≤ a ∧ a ≤ 4 * k) (fun a => a = totX x ∧ 0 ≤ a ∧ a ≤ 12) (body := slices_Concat_b1 x) (s0 := 0) ⟨by simp [totX], by omega, by omega⟩
    (fun k y a hk hI => by
      obtain ⟨hlt, hik⟩ := few_in hx3 hk
      have hy : y.length ≤ 4 := hlen.2.2 y (List.mem_of_getElem? hk)
      refine .inl ⟨a + (y.length : Int), ?_, ?_, by omega, by omega⟩
      · unfold slices_Concat_b1
        dsimp only
        rw [Int.toNat_natCast, getD_of hk, if_pos (decide_eq_true (by omega)), ck_pos (by omega), ck_pos (by omega), ck_pos (by rw [inK_i64]; omega), if_neg (by rw [decide_eq_true_eq]; omega), ck_pos hik]
      · rw [hI.1, take_one hk]; unfold totX; rw [List.map_append, List.sum_append]; simp)
    (fun a hI => ⟨a, by unfold slices_Concat_b1; rw [if_neg (by simp)], by rw [hI.1, List.take_length], hI.2.1, by have := hI.2.2; omega⟩)
  obtain ⟨hr1, hr2, hr3⟩ := hr1
  have hg : slices_Grow r = some () := by
    unfold slices_Grow
    rw [if_neg (by rw [decide_eq_true_eq]; omega), ck_pos (by rw [inK_i64]; omega), ck_pos (by rw [inK_i64]; omega)]
    by_cases h0 : (0 : Int) < r - (0 - 0)
    · rw [if_pos (decide_eq_true h0), ck_pos h0, ck_pos (by omega), ck_pos (by omega), ck_pos (by omega), ck_pos (by omega)]
    · rw [if_neg (by rw [decide_eq_true_eq]; exact h0)]
  have w2 := appL x 4 (fun y => y) (fun y hy => hlen.2.2 y hy) [] (body := slices_Concat_b2 x) (fun k y l hk hl => by
    obtain ⟨hlt, hik⟩ := few_in hx3 hk
    have hy : y.length ≤ 4 := hlen.2.2 y (List.mem_of_getElem? hk)
    simp only [List.length_nil] at hl
    unfold slices_Concat_b2
    dsimp only
    rw [Int.toNat_natCast, getD_of hk, if_pos (decide_eq_true (by omega)), ck_pos (by omega), ck_pos (by omega), ck_pos (by omega), ck_pos hik]) (fun l => by unfold slices_Concat_b2; rw [if_neg (by simp)])
  refine ⟨x.flatMap fun y => y, ?_, ?_⟩
  · unfold slices_Concat
    rw [e, Option.bind_some]
    unfold slices_Concat_k1
    rw [hg, Option.bind_some, w2, Option.bind_some]
    rfl
  · have : ∀ z : Acs, ((z.flatMap fun y => y).length : Int) = totX z := by
      intro z
      induction z with
      | nil => rfl
      | cons a z ih => rw [List.flatMap_cons, List.length_append]; unfold totX at *; rw [List.map_cons, List.sum_cons]; omega
    exact this x

theorem Program_eq (x : Acs) {l : List Fen} (hl : few l) (hfit : ∀ f ∈ l, fitF f) : delay_Program x l = some (if vld x = true then (if areF x l = true then (if 8 < totX x then ([], 2) else ((prgP x l).1, 0)) else ([], 2)) else ([], 90)) := by
  unfold delay_Program
  rw [fenced_eq x hl hfit, Option.bind_some]
  cases hv : vld x with
  | false => rfl
  | true =>
    simp only [if_true]
    cases ha : areF x l with
    | false => rfl
    | true =>
      simp only [if_true]
      obtain ⟨c, hc, hct⟩ := Concat_eq hv
      rw [if_neg (by simp), hc, Option.bind_some, hct]
      by_cases h8 : 8 < totX x
      · rw [if_pos (decide_eq_true h8), if_pos h8]
      · rw [if_neg (by rw [decide_eq_true_eq]; exact h8), if_neg h8, program_eq hv hl hfit]; rfl

/-- The fences behind an access: at most one. -/
theorem fence_loop {l : List Fen} (hl : few l) (hfit : ∀ f ∈ l, fitF f) (hn : l.Pairwise ltF) {t k : Nat} (ht : t ≤ 1000) (hk : k ≤ 1000) (st1 : List (List Sta) × Int × Int) (a w : Int) (m0 m : List Sta) (hm : m.length ≤ 1000) (hll : l.length ≤ 1000) :
    whileO (linealref09_Program_b3 l (st1.1, st1.2.1, st1.2.2, (t : Int)) (a, w, m0, (k : Int))) (m, 0) = some (m ++ (if ((t : Int), (k : Int)) ∈ l then [((3 : Int), (0 : Int), (0 : Int))] else [])) := by
  have ff := fit_nat (a := t) (b := k) ht hk
  rw [appL l 1 (fun f => if decide (f = ((t : Int), (k : Int))) = true then [((3 : Int), (0 : Int), (0 : Int))] else []) (fun y _ => by split <;> simp) m (body := linealref09_Program_b3 l (st1.1, st1.2.1, st1.2.2, (t : Int)) (a, w, m0, (k : Int))) (fun j f m' hj hm' => by
    obtain ⟨hlt, hik⟩ := few_in hl hj
    obtain ⟨f1, f2⟩ := hfit f (List.mem_of_getElem? hj)
    unfold linealref09_Program_b3
    dsimp only
    rw [Int.toNat_natCast, getD_of hj, if_pos (decide_eq_true (by omega)), ck_pos (by omega), ck_pos (by omega), ck_pos f1, ck_pos f2, ck_pos ff.1, ck_pos ff.2]
    by_cases e : f = ((t : Int), (k : Int))
    · rw [if_pos (decide_eq_true e), if_pos (decide_eq_true e), ck_pos (by omega), ck_pos hik]
    · rw [if_neg (by rw [decide_eq_true_eq]; exact e), if_neg (by rw [decide_eq_true_eq]; exact e), ck_pos hik, List.append_nil]) (fun m' => by
    unfold linealref09_Program_b3
    rw [if_neg (by simp)])]
  congr 2
  have : ∀ z : List Fen, z.Pairwise ltF → (z.flatMap fun f => if decide (f = ((t : Int), (k : Int))) = true then [((3 : Int), (0 : Int), (0 : Int))] else []) = if ((t : Int), (k : Int)) ∈ z then [((3 : Int), (0 : Int), (0 : Int))] else [] := by
    intro z
    induction z with
    | nil => intro _; rfl
    | cons f z ih =>
      intro hp
      rw [List.pairwise_cons] at hp
      rw [List.flatMap_cons, ih hp.2]
      by_cases e : f = ((t : Int), (k : Int))
      · have hno : ((t : Int), (k : Int)) ∉ z := fun hc => by have := hp.1 _ hc; rw [e] at this; exact ltF_irr this
        rw [if_pos (decide_eq_true e), if_neg hno, if_pos (by rw [e]; simp)]; rfl
      · rw [if_neg (by rw [decide_eq_true_eq]; exact e), List.nil_append]
        by_cases h2 : ((t : Int), (k : Int)) ∈ z
        · rw [if_pos h2, if_pos (List.mem_cons_of_mem _ h2)]
        · rw [if_neg h2, if_neg (by rw [List.mem_cons]; rintro (h3 | h3); exact e h3.symm; exact h2 h3)]
  exact this l hn

theorem refProgram_eq {x : Acs} (hx : x.length ≤ 20) {l : List Fen} (hll : l.length ≤ 1000) (hfit : ∀ f ∈ l, fitF f) : linealref09_Program x l = some (if vld x = true then (if areF x l = true then (if 8 < totX x then ([], 2) else ((prgP x l).1, 0)) else ([], 2)) else ([], 90)) := by
  have hl : few l := few_of hll
  unfold linealref09_Program
  rw [reffenced_eq hx hl, Option.bind_some]
  cases hv : vld x with
  | false => rfl
  | true =>
    simp only [if_true]
    cases ha : areF x l with
    | false => rfl
    | true =>
      simp only [if_true]
      have hn := (areF_iff.1 ha).2
      have hlen := vld_len hv
      have hr := vld_row hv
      rw [if_neg (by simp)]
      have w2 : ∀ (t : Nat) (p : List (List Sta)) (a a' w w' : Int), t < x.length → 0 ≤ w → w ≤ 100 → 0 ≤ a → a ≤ 100 → whileO (linealref09_Program_b2 x l (p, a', w', (t : Int))) (a, w, [], 0) = some (a + ((x.getD t []).length : Int), (rowP l (t : Int) (x.getD t []) w).1, (rowP l (t : Int) (x.getD t []) w).2) := by
        intro t p a a' w w' ht hw1 hw2 ha1 ha2
        have h4 := hr t
        have key := (whileO_iter (R := Int × Int × List Sta) (body := linealref09_Program_b2 x l (p, a', w', (t : Int))) (fun (s : Int × Int × List Sta) (i : Int) => (s.1, s.2.1, s.2.2, i)) (x.getD t []).length (fun k s => (s.1 + 1, rowG l (t : Int) (x.getD t []) k s.2)) (fun s => (s.1, s.2.1, s.2.2)) (fun k s => s.1 = a + k ∧ rowI w k s.2) (s0 := (a, w, [])) ⟨by simp, by simp, by simp, by simp, by simp⟩ (fun k s hk h => ⟨?_, by have := h.1; simp only; omega, rowI_step hv ht ⟨hw1, by omega⟩ hk h.2⟩) (fun s h => ?_))
        · obtain ⟨k1, k2⟩ := key
          have hfold : ∀ n (s0 : Int × Int × List Sta), (List.range n).foldl (fun s k => (s.1 + 1, rowG l (t : Int) (x.getD t []) k s.2)) s0 = (s0.1 + n, (List.range n).foldl (fun s k => rowG l (t : Int) (x.getD t []) k s) s0.2) := by
            intro n s0
            induction n with
            | zero => simp
            | succ n ih => rw [List.range_succ, List.foldl_append, List.foldl_append, ih]; simp; omega
          rw [hfold] at k1
          exact k1
        · obtain ⟨h0, h1, h2, h3, _⟩ := h
          have h9 : ∀ (b : Int × List Sta), b.2.length ≤ 100 → linealref09_Program_k5 l (p, a', w', (t : Int)) (s.1, s.2.1, s.2.2, (k : Int)) b = some (.next (s.1 + 1, b.1, b.2 ++ (if ((t : Int), (k : Int)) ∈ l then [((3 : Int), (0 : Int), (0 : Int))] else []), (k : Int) + 1)) := fun b hb => by
            unfold linealref09_Program_k5
            rw [fence_loop hl hfit hn (t := t) (k := k) (by omega) (by omega) (p, a', w') s.1 s.2.1 s.2.2 b.2 (by omega) hll, Option.bind_some]
            unfold linealref09_Program_k4
            dsimp only
            rw [ck_pos (inK_nat20 (by omega))]
          unfold linealref09_Program_b2 rowG actB
          dsimp only
          rw [Int.toNat_natCast, Int.toNat_natCast, if_pos (decide_eq_true (by omega)), ck_pos (by omega), ck_pos (by omega), ck_pos (by rw [inK_i64]; omega)]
          cases hy : ((x.getD t []).getD k (0, false)).2 with
          | true =>
            rw [if_pos rfl, if_pos rfl, if_pos rfl, ck_pos (by omega), ck_pos (by rw [inK_i64]; omega), ck_pos (by rw [inK_i64]; omega), ck_pos (by omega), h9 _ (by simp; omega), Int.add_comm 1]
            simp only [List.append_assoc]
          | false =>
            rw [if_neg (by simp), if_neg (by simp), if_neg (by simp), ck_pos (by omega), h9 _ (by simp; omega)]
            simp only [List.append_assoc, Int.add_zero]
        · unfold linealref09_Program_b2
          dsimp only
          rw [Int.toNat_natCast, if_neg (by simp)]
      have tot_take : ∀ k, k < x.length → totX (x.take (k + 1)) = totX (x.take k) + ((x.getD k []).length : Int) := fun k hk => by
        rw [take_one (List.getElem?_eq_getElem hk)]
        unfold totX
        rw [List.map_append, List.sum_append, getD_of (List.getElem?_eq_getElem hk)]; simp
      have key := (whileO_iter (R := List (List Sta) × Int) (body := linealref09_Program_b1 x l) (fun (s : List (List Sta) × Int × Int) (i : Int) => (s.1, s.2.2, s.2.1, i)) x.length (fun k s => ((prgG x l k (s.1, s.2.1)).1, (prgG x l k (s.1, s.2.1)).2, s.2.2 + ((x.getD k []).length : Int))) (fun s => (s.1, s.2.2)) (fun k s => prgI k (s.1, s.2.1) ∧ s.2.2 = totX (x.take k) ∧ 0 ≤ s.2.2 ∧ s.2.2 ≤ 4 * k) (s0 := ([], 0, 0)) ⟨⟨by simp, by simp, by simp, by simp⟩, by simp [totX], by simp, by simp⟩ (fun k s hk h => ⟨by
        obtain ⟨⟨h1, h2, h3, _⟩, h5, h6, h7⟩ := h
        simp only at h1 h2 h3
        unfold linealref09_Program_b1
        dsimp only
        rw [if_pos (decide_eq_true (by omega)), ck_pos (by omega), ck_pos (by omega), w2 k s.1 s.2.2 s.2.2 s.2.1 s.2.1 hk h1 (by omega) h6 (by omega), Option.bind_some]
        unfold linealref09_Program_k3 linealref09_Program_k2
        dsimp only
        rw [ck_pos (by omega), ck_pos (inK_nat20 (by omega))]
        rfl, prgI_step hv hk h.1, by rw [tot_take k hk, ← h.2.1], by have := h.2.2.1; simp only; omega, by have := h.2.2.2; have := hr k; simp only; omega⟩) (fun s h => by
        unfold linealref09_Program_b1
        dsimp only
        rw [if_neg (by simp)]))
      have hfold : ∀ n (s0 : List (List Sta) × Int × Int), ((List.range n).foldl (fun s k => ((prgG x l k (s.1, s.2.1)).1, (prgG x l k (s.1, s.2.1)).2, s.2.2 + ((x.getD k []).length : Int))) s0).1 = ((List.range n).foldl (fun s k => prgG x l k s) (s0.1, s0.2.1)).1 ∧ ((List.range n).foldl (fun s k => ((prgG x l k (s.1, s.2.1)).1, (prgG x l k (s.1, s.2.1)).2, s.2.2 + ((x.getD k []).length : Int))) s0).2.1 = ((List.range n).foldl (fun s k => prgG x l k s) (s0.1, s0.2.1)).2 := by
        intro n s0
        induction n with
        | zero => simp
        | succ n ih =>
          rw [List.range_succ, List.foldl_append, List.foldl_append]
          simp only [List.foldl_cons, List.foldl_nil]
          rw [ih.1, ih.2]; exact ⟨rfl, rfl⟩
      obtain ⟨k1, _, k2, _⟩ := key
      have hf1 := (hfold x.length ([], 0, 0)).1
      rw [List.take_length] at k2
      have k1' : whileO (linealref09_Program_b1 x l) ([], 0, 0, 0) = some ((prgP x l).1, totX x) := by
        have : whileO (linealref09_Program_b1 x l) ([], 0, 0, 0) = _ := k1
        rw [this, ← k2]
        congr 2
      rw [k1', Option.bind_some]
      unfold linealref09_Program_k1
      dsimp only
      by_cases h8 : 8 < totX x
      · rw [if_pos (decide_eq_true h8), if_pos h8]
      · rw [if_neg (by rw [decide_eq_true_eq]; exact h8), if_neg h8]

theorem SameActs_eq {p : List (List Sta)} (hf : few p) (hfl : ∀ l ∈ p, few l) (hx : ∀ l ∈ p, ∀ a ∈ l, fitS a) : linealref09_SameActs p p = some true := by
  unfold linealref09_SameActs
  rw [if_neg (by simp), whileO_all p (fun _ => true) (body := linealref09_SameActs_b1 p p) (fun k q hk => by
    obtain ⟨hlt, hik⟩ := few_in hf hk
    have m1 := List.mem_of_getElem? hk
    unfold linealref09_SameActs_b1
    rw [Int.toNat_natCast, getD_of hk, if_pos (decide_eq_true (by omega)), ck_pos (by omega), ck_pos (by omega), ck_pos (by omega), ck_pos (by omega), if_neg (by simp), ck_pos (by omega), ck_pos (by omega)]
    rw [whileO_all q (fun _ => true) (body := linealref09_SameActs_b2 p p (k : Int)) (fun j a hj => by
      obtain ⟨hlt2, hik2⟩ := few_in (hfl _ m1) hj
      obtain ⟨f1, f2, f3⟩ := hx _ m1 _ (List.mem_of_getElem? hj)
      unfold linealref09_SameActs_b2
      rw [Int.toNat_natCast, Int.toNat_natCast, getD_of hk, getD_of hj, if_pos (decide_eq_true (by omega)), ck_pos (by omega), ck_pos (by omega), ck_pos (by omega), ck_pos (by omega), ck_pos (by omega), ck_pos (by omega), ck_pos (by omega), ck_pos (by omega), ck_pos f1, ck_pos f2, ck_pos f3, ck_pos f1, ck_pos f2, ck_pos f3, if_neg (by simp), ck_pos hik2, if_pos rfl]) (by
        unfold linealref09_SameActs_b2
        rw [Int.toNat_natCast, getD_of hk, if_neg (by simp)]), Option.bind_some]
    simp [linealref09_SameActs_k2, ck_pos hik]) (by
    unfold linealref09_SameActs_b1
    rw [if_neg (by simp)]), Option.bind_some]
  simp [linealref09_SameActs_k1]

theorem DelayPrograms_eq (x : Acs) (hx : okEl (.sl (.sl (.pair (.int .i64) .bool))) x) (l : List Fen) (hfl : okEl (.sl (.pair (.int .i64) (.int .i64))) l) (th : List Int) : lineallaw09_DelayPrograms x l th = some true := by
  have hfit : ∀ f ∈ l, fitF f := hfl.2.2
  have hxf : few x := by
    have := hx.1
    simp only [Ty.bytes] at this
    unfold few; omega
  unfold lineallaw09_DelayPrograms
  rw [Long_eq hxf, Option.bind_some]
  cases hl : lngB x with
  | true => rw [if_pos rfl, Awake_eq]; rfl
  | false =>
    have hx20 := (lng_len hl).1
    rw [if_neg (by simp)]
    by_cases hc : 40 < l.length
    · rw [if_pos (decide_eq_true (by omega)), Awake_eq]; rfl
    · have hll : l.length ≤ 1000 := by omega
      rw [if_neg (by rw [decide_eq_true_eq]; omega)]
      by_cases hc2 : 40 < th.length
      · rw [if_pos (decide_eq_true (by omega)), Awake_eq]; rfl
      · rw [if_neg (by rw [decide_eq_true_eq]; omega), Program_eq x (few_of hll) hfit, refProgram_eq hx20 hll hfit]
        simp only [Option.bind_some]
        have hsame : ∀ (p : List (List Sta)), p = [] ∨ (vld x = true ∧ p = (prgP x l).1) → linealref09_SameActs p p = some true := by
          rintro p (rfl | ⟨hv, rfl⟩)
          · exact SameActs_eq (few_of (n := 0) (by simp)) (by simp) (by simp)
          · obtain ⟨_, _, h3, h4⟩ := prgP_inv hv l
            have := vld_len hv
            exact SameActs_eq (few_of (n := 3) (by omega)) (fun r hr => few_of (h4 r hr).1) (fun r hr => (h4 r hr).2)
        rw [hsame _ (by
          cases hv : vld x with
          | false => exact .inl rfl
          | true =>
            simp only [if_true]
            split
            · split
              · exact .inl rfl
              · exact .inr ⟨trivial, rfl⟩
            · exact .inl rfl), Option.bind_some, if_neg (by simp), if_neg (by simp), Turned_eq, refTurned_eq hx20, Option.bind_some, Option.bind_some]
        have hsm : ∀ (p : Acs), p = [] ∨ vld p = true → linealref09_SameAccesses p p = some true := by
          rintro p (rfl | hv)
          · rw [SameAccesses_eq (few_of (n := 0) (by simp)) (by simp) (by simp) (by simp)]; simp
          · have := vld_len hv
            rw [SameAccesses_eq (few_of this.2.1) (fun r hr => few_of (this.2.2 r hr)) (vld_fit hv) (vld_fit hv)]; simp
        rw [hsm _ (by
          cases hv : vld x with
          | false => exact .inl rfl
          | true => exact .inr (turn_vld hv)), Option.bind_some, if_neg (by simp), if_neg (by simp), Renamed_eq x (by omega), refRenamed_eq hx20 (by omega), Option.bind_some, Option.bind_some, hsm _ (by
          cases hv : vld x with
          | false => exact .inl rfl
          | true =>
            simp only [if_true]
            cases hb : thrB x.length th with
            | false => exact .inl rfl
            | true => exact .inr (ren_vld hv hb)), Option.bind_some, if_pos rfl, if_pos (by simp), Awake_eq]
        rfl

end Go.Proofs.Ytdicomoggfhbfaa
