/-
  Layer 7, pure: the program's ranks are the least ones; statements, Holds, Ranks, Prove of the program.
-/
import Derived.Test.YteclokkdgmacpaaU9
namespace Go.Proofs.Yteclokkdgmacpaa
open Go.RowKit

set_option linter.unusedVariables false
set_option linter.unusedSimpArgs false
set_option linter.unusedSectionVars false
set_option maxRecDepth 10000

/-- A move that ranks break. -/
def bk (C : Clm) (g : Gr) (r : List Int) (m : Mv) : Bool := decide (R0 g m.1) && decide (rAt r m.1 < lst C r m)
theorem bk_iff {C : Clm} {g : Gr} {r : List Int} {m : Mv} : bk C g r m = true ↔ R0 g m.1 ∧ rAt r m.1 < lst C r m := by unfold bk; simp
theorem bk_none {C : Clm} {g : Gr} {r : List Int} : g.2.findIdx? (bk C g r) = none ↔ Prv C g r := by
  rw [List.findIdx?_eq_none_iff]
  constructor
  · intro h m hm hr
    have := h m hm
    unfold bk at this
    rw [decide_eq_true hr, Bool.true_and, decide_eq_false_iff_not] at this
    omega
  · intro h m hm
    unfold bk
    by_cases hr : R0 g m.1
    · have := h m hm hr
      rw [decide_eq_true hr, Bool.true_and, decide_eq_false_iff_not]; omega
    · rw [decide_eq_false hr]; rfl

/-- Ranks as they come up. -/
def Rk (g : Gr) (r : List Int) : Prop := r.length = g.1.toNat ∧ ∀ x ∈ r, 0 ≤ x ∧ x ≤ 1000
theorem rAt_mem {r : List Int} {p : Int} (h0 : 0 ≤ p) (h : p.toNat < r.length) : rAt r p ∈ r := getD_in h
theorem Rk.at {g : Gr} {r : List Int} (h : Rk g r) {p : Int} (p1 : 0 ≤ p) (p2 : p < g.1) : 0 ≤ rAt r p ∧ rAt r p ≤ 1000 := h.2 _ (rAt_mem p1 (by have := h.1; omega))

theorem lst_c0 (t : Int) (r : List Int) (m : Mv) : lst (clm 0 t) r m = if k0 m = true then rAt r m.2.2.1 + 1 else if k0 m = true then rAt r m.2.2.1 else 0 := rfl
theorem lst_c1 (t : Int) (r : List Int) (m : Mv) : lst (clm 1 t) r m = if own t m = true then rAt r m.2.2.1 + 1 else if notOwn t m = true then rAt r m.2.2.1 else 0 := rfl
theorem lst_c2 (t : Int) (r : List Int) (m : Mv) : lst (clm 2 t) r m = if own t m = true then rAt r m.2.2.1 + 1 else if own t m = true then rAt r m.2.2.1 else 0 := rfl

def brkR (g : Gr) (o : Option Nat) : Int × Int × Int × Bool × Bool := match o with
  | none => (0, 0, 0, false, false)
  | some k => ((g.2.getD k (0, 0, 0, false)).1, (g.2.getD k (0, 0, 0, false)).2.1, (g.2.getD k (0, 0, 0, false)).2.2.1, (g.2.getD k (0, 0, 0, false)).2.2.2, true)

def brkT (m : Mv) : Int × Int × Int × Bool × Bool := (m.1, m.2.1, m.2.2.1, m.2.2.2, true)
theorem lst_in {C : Clm} {g : Gr} (hg : GOK g) {r : List Int} (hr : Rk g r) {m : Mv} (hm : m ∈ g.2) : 0 ≤ lst C r m ∧ lst C r m ≤ 1001 := by
  have ht := mv_to hg hm
  have := hr.at ht.1 ht.2
  unfold lst
  split
  · omega
  · split <;> omega

/-- Ranks are raised until they prove the claim or are too great. -/
theorem ranks_gen {C : Clm} {g : Gr} (hg : GOK g) {body : List Int → Option (Step (List Int) (List Int × Bool))} (h : ∀ r, Rk g r → body r = some (match g.2.findIdx? (bk C g r) with
    | none => .done (r, true)
    | some k => if g.1 ≤ lst C r (g.2.getD k (0, 0, 0, false)) then .done ([], false) else .next (r.set (g.2.getD k (0, 0, 0, false)).1.toNat (lst C r (g.2.getD k (0, 0, 0, false)))))) :
    whileO body (List.replicate g.1.toNat (0 : Int)) = some (rkR (rkA C g)) ∧ (Bad C g ∨ ∃ r, Least C g r) := by
  have hlo := hg.lo
  have hhi := hg.hi
  obtain ⟨r, e, hr⟩ := whileO_inv (body := body) (fun r : List Int => Low C g r ∧ ∀ x ∈ r, 0 ≤ x ∧ x < g.1) (fun r => (g.1 * g.1 - r.sum).toNat) (fun r => r = rkR (rkA C g) ∧ (Bad C g ∨ ∃ r, Least C g r)) (by
    rintro r ⟨hL, hx⟩
    have hRk : Rk g r := ⟨hL.len, fun x hxm => by have := hx x hxm; omega⟩
    have hb := h r hRk
    cases hf : g.2.findIdx? (bk C g r) with
    | none =>
      rw [hf] at hb
      have hle := hL.least hg (bk_none.1 hf)
      exact .inr ⟨_, hb, by rw [rkA_some hle]; rfl, .inr ⟨r, hle⟩⟩
    | some k =>
      rw [hf] at hb
      simp only at hb
      rw [List.findIdx?_eq_some_iff_getElem] at hf
      obtain ⟨hk, hbk, _⟩ := hf
      have em : g.2.getD k (0, 0, 0, false) = g.2[k] := getD_of (List.getElem?_eq_getElem hk)
      have hm : g.2[k] ∈ g.2 := List.getElem_mem hk
      rw [em] at hb
      generalize g.2[k] = m at *
      obtain ⟨b1, b2⟩ := bk_iff.1 hbk
      have hraise := hL.raise hg hm b1 b2
      have hf := mv_from hg hm
      have hlen := hL.len
      have hli := lst_in (C := C) hg hRk hm
      by_cases hge : g.1 ≤ lst C r m
      · rw [if_pos hge] at hb
        have hbad := hraise.bad hg hf.1 hf.2 (by rw [rAt_set ⟨hf.1, by omega⟩ hf.1, if_pos rfl]; exact hge)
        exact .inr ⟨_, hb, by rw [rkA_none hg hbad]; rfl, .inl hbad⟩
      · rw [if_neg hge] at hb
        have hx' : ∀ x ∈ r.set m.1.toNat (lst C r m), 0 ≤ x ∧ x < g.1 := fun x hxm => by
          rcases List.mem_or_eq_of_mem_set hxm with h1 | h1
          · exact hx x h1
          · rw [h1]; omega
        refine .inl ⟨_, hb, ⟨hraise, hx'⟩, ?_⟩
        have s1 := sum_set r m.1.toNat (lst C r m) (by omega)
        have s2 := sum_bound (r.set m.1.toNat (lst C r m)) g.1 fun x hxm => by have := hx' x hxm; omega
        rw [List.length_set, hlen, Int.toNat_of_nonneg (by omega)] at s2
        have b2' : r.getD m.1.toNat 0 < lst C r m := b2
        generalize g.1 * g.1 = q at *
        omega) (List.replicate g.1.toNat (0 : Int)) ⟨Low.zero, fun x hx => by rw [List.mem_replicate] at hx; omega⟩
  rw [e, hr.1]
  exact ⟨rfl, hr.2⟩

section
variable {g : Gr} (hg : GOK g)
include hg

theorem least_eq {r : List Int} (hr : Rk g r) {m : Mv} (hm : m ∈ g.2) : progress_statement_least g.1 g.2 m r = some (lst (clm 0 0) r m) := by
  have ht := mv_to hg hm
  have hin := hr.at ht.1 ht.2
  have hl := hr.1
  unfold rAt at hin
  rw [lst_c0]
  unfold progress_statement_least rAt
  have e1 : progress_statementOf_1 m = some () := rfl
  rw [e1, Option.bind_some]
  unfold k0
  by_cases h : m.2.2.2 = true
  · rw [h, if_neg (by simp), Option.bind_some, if_neg (by simp), if_neg (by simp), if_neg (by simp)]
  · have h : m.2.2.2 = false := by simpa using h
    rw [h, if_pos (by simp), ck_pos ht.1, ck_pos (by omega), ck_pos (by rw [inK_i64]; omega), if_pos (by simp)]

theorem broken1_eq {r : List Int} (hr : Rk g r) {m : Mv} (hm : m ∈ g.2) : progress_statement_broken_1 m r g.1 g.2 (reachL g) = some (bk (clm 0 0) g r m) := by
  have hf := mv_from hg hm
  have hl := hr.1
  unfold progress_statement_broken_1 bk
  rw [Contains2_eq _ _ (few_of (reachL_len hg)), Option.bind_some]
  by_cases h : R0 g m.1
  · rw [decide_eq_true h, decide_eq_true (reachL_mem.2 h), if_pos rfl, ck_pos hf.1, ck_pos (by omega), least_eq hg hr hm, Option.bind_some]
    rfl
  · rw [decide_eq_false h, decide_eq_false (fun hc => h (reachL_mem.1 hc)), if_neg (by simp)]
    rfl

theorem idx_eq {r : List Int} (hr : Rk g r) : slices_IndexFunc g.2 r g.1 g.2 (reachL g) = some (match g.2.findIdx? (bk (clm 0 0) g r) with | some k => (k : Int) | none => -1) := by
  have hgl := hg.len
  have key := whileO_first (body := slices_IndexFunc_b1 g.2 r g.1 g.2 (reachL g)) g.2 (bk (clm 0 0) g r) (fun k m hk => by
    have hlt := (List.getElem?_eq_some_iff.1 hk).1
    unfold slices_IndexFunc_b1
    simp only [Int.toNat_natCast, getD_of hk]
    rw [if_pos (by rw [decide_eq_true_eq]; omega), ck_pos (by omega), ck_pos (by omega), broken1_eq hg hr (List.mem_of_getElem? hk), Option.bind_some, ck_pos (by rw [inK_i64]; omega)]
    cases bk (clm 0 0) g r m <;> rfl) (by
    unfold slices_IndexFunc_b1
    rw [if_neg (by simp)])
  unfold slices_IndexFunc
  rw [key, Option.bind_some]
  cases g.2.findIdx? (bk (clm 0 0) g r) <;> rfl

theorem broken_eq {r : List Int} (hr : Rk g r) : progress_statement_broken g.1 g.2 r = some (brkR g (g.2.findIdx? (bk (clm 0 0) g r))) := by
  have hre : progress_graph_reached (g.1, g.2) = some (reachL g) := reached_eq hg
  unfold progress_statement_broken
  rw [hre, Option.bind_some, idx_eq hg hr, Option.bind_some]
  cases h : g.2.findIdx? (bk (clm 0 0) g r) with
  | none => rfl
  | some k =>
    have hk := (List.findIdx?_eq_some_iff_getElem.1 h).1
    simp only [Int.toNat_natCast]
    rw [if_neg (by rw [decide_eq_true_eq]; omega), ck_pos (by omega), ck_pos (by omega)]
    rfl

theorem ranksL : whileO (progress_statement_ranks_b1 g.1 g.2) (List.replicate g.1.toNat (0 : Int)) = some (rkR (rkA (clm 0 0) g)) ∧ (Bad (clm 0 0) g ∨ ∃ r, Least (clm 0 0) g r) := by
  refine ranks_gen hg fun r hr => ?_
  unfold progress_statement_ranks_b1
  rw [broken_eq hg hr, Option.bind_some]
  cases h : g.2.findIdx? (bk (clm 0 0) g r) with
  | none => rfl
  | some k =>
    have hk := (List.findIdx?_eq_some_iff_getElem.1 h).1
    have hm : g.2.getD k (0, 0, 0, false) ∈ g.2 := getD_in hk
    have hf := mv_from hg hm
    have hl := hr.1
    have hle := least_eq hg hr hm
    have e : brkR g (some k) = brkT (g.2.getD k (0, 0, 0, false)) := rfl
    rw [e]
    simp only []
    generalize g.2.getD k (0, 0, 0, false) = m at *
    refine (if_neg (show ¬ (!(brkT m).2.2.2.2) = true by simp [brkT])).trans ?_
    have e2 : ((brkT m).1, (brkT m).2.1, (brkT m).2.2.1, (brkT m).2.2.2.1) = m := rfl
    have e3 : (r.set (brkT m).1.toNat (lst (clm 0 0) r m)).getD (brkT m).1.toNat 0 = lst (clm 0 0) r m := (getD_setL (show m.1.toNat < r.length by omega)).trans (if_pos rfl)
    rw [e2, hle, Option.bind_some, ck_pos (c := 0 ≤ (brkT m).1) hf.1, ck_pos (c := (brkT m).1 < (r.length : Int)) (show m.1 < _ by omega), ck_pos (c := 0 ≤ (brkT m).1) hf.1, ck_pos (c := (brkT m).1 < ((r.set (brkT m).1.toNat (lst (clm 0 0) r m)).length : Int)) (show m.1 < _ by rw [List.length_set]; omega), e3]
    by_cases hge : g.1 ≤ lst (clm 0 0) r m
    · rw [if_pos (decide_eq_true hge), if_pos hge]
    · rw [if_neg (by rw [decide_eq_true_eq]; exact hge), if_neg hge]
      rfl

theorem ranks_eq : progress_statement_ranks g.1 g.2 = some (rkR (rkA (clm 0 0) g)) := by
  have hlo := hg.lo
  have hhi := hg.hi
  unfold progress_statement_ranks
  rw [ck_pos (by omega), ck_pos (by omega), (ranksL hg).1]
  rfl

theorem least_2_eq (t : Int) {r : List Int} (hr : Rk g r) {m : Mv} (hm : m ∈ g.2) : progress_statement_least_2 g.1 g.2 t t m r = some (lst (clm 1 t) r m) := by
  have ht := mv_to hg hm
  have hin := hr.at ht.1 ht.2
  have hl := hr.1
  unfold rAt at hin
  rw [lst_c1]
  unfold progress_statement_least_2 rAt
  rw [stOf2_eq, Option.bind_some]
  by_cases h : own t m = true
  · rw [if_pos h, if_pos h, ck_pos ht.1, ck_pos (by omega), ck_pos (by rw [inK_i64]; omega)]
  · rw [if_neg h, if_neg h, stOf3_eq, Option.bind_some]
    by_cases h2 : notOwn t m = true
    · rw [if_pos h2, if_pos h2, ck_pos ht.1, ck_pos (by omega)]
    · rw [if_neg h2, if_neg h2]

theorem broken1_2_eq (t : Int) {r : List Int} (hr : Rk g r) {m : Mv} (hm : m ∈ g.2) : progress_statement_broken_1_2 m r g.1 g.2 t t (reachL g) = some (bk (clm 1 t) g r m) := by
  have hf := mv_from hg hm
  have hl := hr.1
  unfold progress_statement_broken_1_2 bk
  rw [Contains2_eq _ _ (few_of (reachL_len hg)), Option.bind_some]
  by_cases h : R0 g m.1
  · rw [decide_eq_true h, decide_eq_true (reachL_mem.2 h), if_pos rfl, ck_pos hf.1, ck_pos (by omega), least_2_eq hg t hr hm, Option.bind_some]
    rfl
  · rw [decide_eq_false h, decide_eq_false (fun hc => h (reachL_mem.1 hc)), if_neg (by simp)]
    rfl

theorem idx_2_eq (t : Int) {r : List Int} (hr : Rk g r) : slices_IndexFunc_2 g.2 r g.1 g.2 t t (reachL g) = some (match g.2.findIdx? (bk (clm 1 t) g r) with | some k => (k : Int) | none => -1) := by
  have hgl := hg.len
  have key := whileO_first (body := slices_IndexFunc_2_b1 g.2 r g.1 g.2 t t (reachL g)) g.2 (bk (clm 1 t) g r) (fun k m hk => by
    have hlt := (List.getElem?_eq_some_iff.1 hk).1
    unfold slices_IndexFunc_2_b1
    simp only [Int.toNat_natCast, getD_of hk]
    rw [if_pos (by rw [decide_eq_true_eq]; omega), ck_pos (by omega), ck_pos (by omega), broken1_2_eq hg t hr (List.mem_of_getElem? hk), Option.bind_some, ck_pos (by rw [inK_i64]; omega)]
    cases bk (clm 1 t) g r m <;> rfl) (by
    unfold slices_IndexFunc_2_b1
    rw [if_neg (by simp)])
  unfold slices_IndexFunc_2
  rw [key, Option.bind_some]
  cases g.2.findIdx? (bk (clm 1 t) g r) <;> rfl

theorem broken_2_eq (t : Int) {r : List Int} (hr : Rk g r) : progress_statement_broken_2 g.1 g.2 t t r = some (brkR g (g.2.findIdx? (bk (clm 1 t) g r))) := by
  have hre : progress_graph_reached (g.1, g.2) = some (reachL g) := reached_eq hg
  unfold progress_statement_broken_2
  rw [hre, Option.bind_some, idx_2_eq hg t hr, Option.bind_some]
  cases h : g.2.findIdx? (bk (clm 1 t) g r) with
  | none => rfl
  | some k =>
    have hk := (List.findIdx?_eq_some_iff_getElem.1 h).1
    simp only [Int.toNat_natCast]
    rw [if_neg (by rw [decide_eq_true_eq]; omega), ck_pos (by omega), ck_pos (by omega)]
    rfl

theorem ranksL_2 (t : Int) : whileO (progress_statement_ranks_2_b1 g.1 g.2 t t) (List.replicate g.1.toNat (0 : Int)) = some (rkR (rkA (clm 1 t) g)) ∧ (Bad (clm 1 t) g ∨ ∃ r, Least (clm 1 t) g r) := by
  refine ranks_gen hg fun r hr => ?_
  unfold progress_statement_ranks_2_b1
  rw [broken_2_eq hg t hr, Option.bind_some]
  cases h : g.2.findIdx? (bk (clm 1 t) g r) with
  | none => rfl
  | some k =>
    have hk := (List.findIdx?_eq_some_iff_getElem.1 h).1
    have hm : g.2.getD k (0, 0, 0, false) ∈ g.2 := getD_in hk
    have hf := mv_from hg hm
    have hl := hr.1
    have hle := least_2_eq hg t hr hm
    have e : brkR g (some k) = brkT (g.2.getD k (0, 0, 0, false)) := rfl
    rw [e]
    simp only []
    generalize g.2.getD k (0, 0, 0, false) = m at *
    refine (if_neg (show ¬ (!(brkT m).2.2.2.2) = true by simp [brkT])).trans ?_
    have e2 : ((brkT m).1, (brkT m).2.1, (brkT m).2.2.1, (brkT m).2.2.2.1) = m := rfl
    have e3 : (r.set (brkT m).1.toNat (lst (clm 1 t) r m)).getD (brkT m).1.toNat 0 = lst (clm 1 t) r m := (getD_setL (show m.1.toNat < r.length by omega)).trans (if_pos rfl)
    rw [e2, hle, Option.bind_some, ck_pos (c := 0 ≤ (brkT m).1) hf.1, ck_pos (c := (brkT m).1 < (r.length : Int)) (show m.1 < _ by omega), ck_pos (c := 0 ≤ (brkT m).1) hf.1, ck_pos (c := (brkT m).1 < ((r.set (brkT m).1.toNat (lst (clm 1 t) r m)).length : Int)) (show m.1 < _ by rw [List.length_set]; omega), e3]
    by_cases hge : g.1 ≤ lst (clm 1 t) r m
    · rw [if_pos (decide_eq_true hge), if_pos hge]
    · rw [if_neg (by rw [decide_eq_true_eq]; exact hge), if_neg hge]
      rfl

theorem ranks_2_eq (t : Int) : progress_statement_ranks_2 g.1 g.2 t t = some (rkR (rkA (clm 1 t) g)) := by
  have hlo := hg.lo
  have hhi := hg.hi
  unfold progress_statement_ranks_2
  rw [ck_pos (by omega), ck_pos (by omega), (ranksL_2 hg t).1]
  rfl

theorem least_3_eq (t : Int) {r : List Int} (hr : Rk g r) {m : Mv} (hm : m ∈ g.2) : progress_statement_least_3 g.1 g.2 t t m r = some (lst (clm 2 t) r m) := by
  have ht := mv_to hg hm
  have hin := hr.at ht.1 ht.2
  have hl := hr.1
  unfold rAt at hin
  rw [lst_c2]
  unfold progress_statement_least_3 rAt
  rw [stOf2_eq, Option.bind_some]
  by_cases h : own t m = true
  · rw [if_pos h, if_pos h, ck_pos ht.1, ck_pos (by omega), ck_pos (by rw [inK_i64]; omega)]
  · rw [if_neg h, if_neg h, Option.bind_some]
    by_cases h2 : own t m = true
    · rw [if_pos h2, if_pos h2, ck_pos ht.1, ck_pos (by omega)]
    · rw [if_neg h2, if_neg h2]

theorem broken1_3_eq (t : Int) {r : List Int} (hr : Rk g r) {m : Mv} (hm : m ∈ g.2) : progress_statement_broken_1_3 m r g.1 g.2 t t (reachL g) = some (bk (clm 2 t) g r m) := by
  have hf := mv_from hg hm
  have hl := hr.1
  unfold progress_statement_broken_1_3 bk
  rw [Contains2_eq _ _ (few_of (reachL_len hg)), Option.bind_some]
  by_cases h : R0 g m.1
  · rw [decide_eq_true h, decide_eq_true (reachL_mem.2 h), if_pos rfl, ck_pos hf.1, ck_pos (by omega), least_3_eq hg t hr hm, Option.bind_some]
    rfl
  · rw [decide_eq_false h, decide_eq_false (fun hc => h (reachL_mem.1 hc)), if_neg (by simp)]
    rfl

theorem idx_3_eq (t : Int) {r : List Int} (hr : Rk g r) : slices_IndexFunc_3 g.2 r g.1 g.2 t t (reachL g) = some (match g.2.findIdx? (bk (clm 2 t) g r) with | some k => (k : Int) | none => -1) := by
  have hgl := hg.len
  have key := whileO_first (body := slices_IndexFunc_3_b1 g.2 r g.1 g.2 t t (reachL g)) g.2 (bk (clm 2 t) g r) (fun k m hk => by
    have hlt := (List.getElem?_eq_some_iff.1 hk).1
    unfold slices_IndexFunc_3_b1
    simp only [Int.toNat_natCast, getD_of hk]
    rw [if_pos (by rw [decide_eq_true_eq]; omega), ck_pos (by omega), ck_pos (by omega), broken1_3_eq hg t hr (List.mem_of_getElem? hk), Option.bind_some, ck_pos (by rw [inK_i64]; omega)]
    cases bk (clm 2 t) g r m <;> rfl) (by
    unfold slices_IndexFunc_3_b1
    rw [if_neg (by simp)])
  unfold slices_IndexFunc_3
  rw [key, Option.bind_some]
  cases g.2.findIdx? (bk (clm 2 t) g r) <;> rfl

theorem broken_3_eq (t : Int) {r : List Int} (hr : Rk g r) : progress_statement_broken_3 g.1 g.2 t t r = some (brkR g (g.2.findIdx? (bk (clm 2 t) g r))) := by
  have hre : progress_graph_reached (g.1, g.2) = some (reachL g) := reached_eq hg
  unfold progress_statement_broken_3
  rw [hre, Option.bind_some, idx_3_eq hg t hr, Option.bind_some]
  cases h : g.2.findIdx? (bk (clm 2 t) g r) with
  | none => rfl
  | some k =>
    have hk := (List.findIdx?_eq_some_iff_getElem.1 h).1
    simp only [Int.toNat_natCast]
    rw [if_neg (by rw [decide_eq_true_eq]; omega), ck_pos (by omega), ck_pos (by omega)]
    rfl

theorem ranksL_3 (t : Int) : whileO (progress_statement_ranks_3_b1 g.1 g.2 t t) (List.replicate g.1.toNat (0 : Int)) = some (rkR (rkA (clm 2 t) g)) ∧ (Bad (clm 2 t) g ∨ ∃ r, Least (clm 2 t) g r) := by
  refine ranks_gen hg fun r hr => ?_
  unfold progress_statement_ranks_3_b1
  rw [broken_3_eq hg t hr, Option.bind_some]
  cases h : g.2.findIdx? (bk (clm 2 t) g r) with
  | none => rfl
  | some k =>
    have hk := (List.findIdx?_eq_some_iff_getElem.1 h).1
    have hm : g.2.getD k (0, 0, 0, false) ∈ g.2 := getD_in hk
    have hf := mv_from hg hm
    have hl := hr.1
    have hle := least_3_eq hg t hr hm
    have e : brkR g (some k) = brkT (g.2.getD k (0, 0, 0, false)) := rfl
    rw [e]
    simp only []
    generalize g.2.getD k (0, 0, 0, false) = m at *
    refine (if_neg (show ¬ (!(brkT m).2.2.2.2) = true by simp [brkT])).trans ?_
    have e2 : ((brkT m).1, (brkT m).2.1, (brkT m).2.2.1, (brkT m).2.2.2.1) = m := rfl
    have e3 : (r.set (brkT m).1.toNat (lst (clm 2 t) r m)).getD (brkT m).1.toNat 0 = lst (clm 2 t) r m := (getD_setL (show m.1.toNat < r.length by omega)).trans (if_pos rfl)
    rw [e2, hle, Option.bind_some, ck_pos (c := 0 ≤ (brkT m).1) hf.1, ck_pos (c := (brkT m).1 < (r.length : Int)) (show m.1 < _ by omega), ck_pos (c := 0 ≤ (brkT m).1) hf.1, ck_pos (c := (brkT m).1 < ((r.set (brkT m).1.toNat (lst (clm 2 t) r m)).length : Int)) (show m.1 < _ by rw [List.length_set]; omega), e3]
    by_cases hge : g.1 ≤ lst (clm 2 t) r m
    · rw [if_pos (decide_eq_true hge), if_pos hge]
    · rw [if_neg (by rw [decide_eq_true_eq]; exact hge), if_neg hge]
      rfl

theorem ranks_3_eq (t : Int) : progress_statement_ranks_3 g.1 g.2 t t = some (rkR (rkA (clm 2 t) g)) := by
  have hlo := hg.lo
  have hhi := hg.hi
  unfold progress_statement_ranks_3
  rw [ck_pos (by omega), ck_pos (by omega), (ranksL_3 hg t).1]
  rfl

end

/-! ### The program's answers -/

/-- What is asked: 0, or the error. -/
def ask (g : Gr) (c t : Int) : Int := if okG g = true then (if isB c 3 = true ∧ isB t 3 = true ∧ (c = 0 → t = 0) then 0 else 2) else 70
theorem ask_ok {g : Gr} {c t : Int} (ho : okG g = true) (h1 : isB c 3 = true) (h2 : isB t 3 = true) (h3 : c = 0 → t = 0) : ask g c t = 0 := by
  unfold ask
  rw [if_pos ho, if_pos ⟨h1, h2, h3⟩]
theorem ask_two {g : Gr} {c t : Int} (ho : okG g = true) (h : ¬ (isB c 3 = true ∧ isB t 3 = true ∧ (c = 0 → t = 0))) : ask g c t = 2 := by
  unfold ask
  rw [if_pos ho, if_neg h]
theorem ask_bad {g : Gr} {c t : Int} (ho : ¬ okG g = true) : ask g c t = 70 := by
  unfold ask
  rw [if_neg ho]
theorem ask_zero {g : Gr} {c t : Int} : ask g c t = 0 ↔ GOK g ∧ (0 ≤ c ∧ c < 3) ∧ (0 ≤ t ∧ t < 3) ∧ (c = 0 → t = 0) := by
  by_cases ho : okG g = true
  · by_cases h : isB c 3 = true ∧ isB t 3 = true ∧ (c = 0 → t = 0)
    · rw [ask_ok ho h.1 h.2.1 h.2.2]
      exact ⟨fun _ => ⟨okG_iff.1 ho, isB_iff.1 h.1, isB_iff.1 h.2.1, h.2.2⟩, fun _ => rfl⟩
    · rw [ask_two ho h]
      exact ⟨fun hh => absurd hh (by decide), fun hh => absurd ⟨isB_iff.2 hh.2.1, isB_iff.2 hh.2.2.1, hh.2.2.2⟩ h⟩
  · rw [ask_bad ho]
    exact ⟨fun hh => absurd hh (by decide), fun hh => absurd (okG_iff.2 hh.1) ho⟩
theorem ask_cases {g : Gr} {c t : Int} (h : ask g c t = 0) : GOK g ∧ (c = 0 ∧ t = 0 ∨ c = 1 ∨ c = 2) := by
  obtain ⟨hg, hc, _, ht⟩ := ask_zero.1 h
  refine ⟨hg, ?_⟩
  have : c = 0 ∨ c = 1 ∨ c = 2 := by omega
  rcases this with rfl | rfl | rfl
  · exact .inl ⟨rfl, ht rfl⟩
  · exact .inr (.inl rfl)
  · exact .inr (.inr rfl)

def stm (g : Gr) (c : Int) : Sum Gr (Sum Gr Gr) := if c = 0 then .inl g else if c = 1 then .inr (.inl g) else .inr (.inr g)
def stmR (g : Gr) (c t : Int) : Sum Int (Sum Gr (Sum Gr Gr)) := if ask g c t = 0 then .inr (stm g c) else .inl (ask g c t)

theorem stOf_k1 (g : Gr) (c : Int) : progress_statementOf_k1 c (g.1, g.2, 0) = some (.inr (stm g c)) := by
  unfold progress_statementOf_k1 stm
  by_cases h0 : c = 0
  · rw [if_pos (decide_eq_true h0), if_pos h0]
  · rw [if_neg (by rw [decide_eq_true_eq]; exact h0), if_neg h0]
    by_cases h1 : c = 1
    · rw [if_pos (decide_eq_true h1), if_pos h1]
    · rw [if_neg (by rw [decide_eq_true_eq]; exact h1), if_neg h1]

theorem stmR_bad {g : Gr} {c t : Int} (h : ask g c t ≠ 0) : stmR g c t = .inl (ask g c t) := if_neg h
theorem stmR_ok {g : Gr} {c t : Int} (h : ask g c t = 0) : stmR g c t = .inr (stm g c) := if_pos h

theorem statementOf_eq (g : Gr) (hz : okZ g) (c t : Int) : progress_statementOf g c t = some (stmR g c t) := by
  unfold progress_statementOf
  rw [graphOf_eq g hz, Option.bind_some]
  by_cases ho : okG g = true
  · have two : ¬ (isB c 3 = true ∧ isB t 3 = true ∧ (c = 0 → t = 0)) → (some (.inl 2) : Option (Sum Int (Sum Gr (Sum Gr Gr)))) = some (stmR g c t) := fun h => by
      have := ask_two ho h
      rw [stmR_bad (by omega), this]
    rw [if_pos ho, if_neg (by simp), isBelow_eq, Option.bind_some]
    by_cases h1 : isB c 3 = true
    · rw [if_neg (by simp [h1]), isThread_eq, Option.bind_some]
      by_cases h2 : isB t 3 = true
      · rw [if_neg (by simp [h2])]
        by_cases h3 : c = 0
        · rw [if_pos (decide_eq_true h3)]
          by_cases h4 : t = 0
          · rw [if_neg (by simp [h4]), stOf_k1, stmR_ok (ask_ok ho h1 h2 fun _ => h4)]
          · rw [if_pos (by simp [h4])]
            exact two fun hh => h4 (hh.2.2 h3)
        · rw [if_neg (by rw [decide_eq_true_eq]; exact h3), stOf_k1, stmR_ok (ask_ok ho h1 h2 fun h => absurd h h3)]
      · rw [if_pos (by simp [h2])]
        exact two fun hh => h2 hh.2.1
    · rw [if_pos (by simp [h1])]
      exact two fun hh => h1 hh.1
  · rw [if_neg ho, if_pos (by simp), stmR_bad (by rw [ask_bad ho]; decide), ask_bad ho]

noncomputable def holR (g : Gr) (c t : Int) : Bool × Int := if ask g c t = 0 then ((rkR (rkA (clm c t) g)).2, 0) else (false, ask g c t)
noncomputable def rksR (g : Gr) (c t : Int) : List Int × Int := if ask g c t = 0 then (match rkA (clm c t) g with | some r => (r, 0) | none => ([], 5)) else ([], ask g c t)
def rk100 (g : Gr) (r : List Int) : Bool := decide ((r.length : Int) = g.1) && r.all fun x => isB x 101
instance (C : Clm) (g : Gr) (r : List Int) : Decidable (Prv C g r) := inferInstanceAs (Decidable (∀ m ∈ g.2, R0 g m.1 → lst C r m ≤ rAt r m.1))
def prvR (g : Gr) (c t : Int) (r : List Int) : Bool × Int := if ask g c t = 0 then (if rk100 g r = true then (decide (Prv (clm c t) g r), 0) else (false, 2)) else (false, ask g c t)


theorem Holds_eq (g : Gr) (hz : okZ g) (c t : Int) : progress_Holds g c t = some (holR g c t) := by
  unfold progress_Holds holR
  rw [statementOf_eq g hz, Option.bind_some]
  by_cases h : ask g c t = 0
  · rw [stmR_ok h, if_pos h]
    obtain ⟨hg, ⟨rfl, rfl⟩ | rfl | rfl⟩ := ask_cases h
    · have e := ranks_eq hg
      show (progress_statement_ranks g.1 g.2).bind _ = _
      rw [e]; rfl
    · have e := ranks_2_eq hg t
      show (progress_statement_ranks_2 g.1 g.2 t t).bind _ = _
      rw [e]; rfl
    · have e := ranks_3_eq hg t
      show (progress_statement_ranks_3 g.1 g.2 t t).bind _ = _
      rw [e]; rfl
  · rw [stmR_bad h, if_neg h]
    simp only
    rw [if_pos (by simp [h])]

theorem Ranks_eq (g : Gr) (hz : okZ g) (c t : Int) : progress_Ranks g c t = some (rksR g c t) := by
  unfold progress_Ranks rksR
  rw [statementOf_eq g hz, Option.bind_some]
  by_cases h : ask g c t = 0
  · rw [stmR_ok h, if_pos h]
    obtain ⟨hg, ⟨rfl, rfl⟩ | rfl | rfl⟩ := ask_cases h
    · have e := ranks_eq hg
      show (progress_statement_ranks g.1 g.2).bind _ = _
      rw [e]; cases rkA (clm 0 0) g <;> rfl
    · have e := ranks_2_eq hg t
      show (progress_statement_ranks_2 g.1 g.2 t t).bind _ = _
      rw [e]; cases rkA (clm 1 t) g <;> rfl
    · have e := ranks_3_eq hg t
      show (progress_statement_ranks_3 g.1 g.2 t t).bind _ = _
      rw [e]; cases rkA (clm 2 t) g <;> rfl
  · rw [stmR_bad h, if_neg h]
    simp only
    rw [if_pos (by simp [h])]

/-- A claim holds exactly if no circle refutes it; then there are least ranks. -/
theorem least_or {g : Gr} {c t : Int} (h : ask g c t = 0) : Bad (clm c t) g ∨ ∃ r, Least (clm c t) g r := by
  obtain ⟨hg, ⟨rfl, rfl⟩ | rfl | rfl⟩ := ask_cases h
  · exact (ranksL hg).2
  · exact (ranksL_2 hg t).2
  · exact (ranksL_3 hg t).2

end Go.Proofs.Yteclokkdgmacpaa
