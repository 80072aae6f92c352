/-
  Layer 2, pure: HistoryWidths.
-/
import Derived.Test.YtdkdkpenmgkdcaaH1
import Derived.Test.YtdkdkpenmgkdcaaHtw
namespace Go.Proofs.Ytdkdkpenmgkdcaa
open Go.RowKit

set_option linter.unusedVariables false
set_option linter.unusedSimpArgs false
set_option maxRecDepth 10000

theorem Sane_eq : lineallaw02_Sane = some true := lineallaw02_Sane_run

theorem Long_eq2 (h : List HC6) : lineallaw02_Long h = some () := rfl

theorem check_eq (h : List HC6) (b : Bool) : history_check h b = some (if okH h = true then (if b = true then 0 else 2) else 20) := by
  unfold history_check
  rw [HValid_eq, Option.bind_some]
  cases okH h <;> cases b <;> rfl

/-- A call is under way at a moment. -/
def wayB (m : Int) (c : HC6) : Bool := decide (c.2.2.2.2.1 ≤ m) && (decide (c.2.2.2.2.2 = 0) || decide (m ≤ c.2.2.2.2.2))
def uw (h : List HC6) (m : Int) : Int := ((h.filter (wayB m)).length : Nat)

theorem width1_eq (c d : HC6) : history_width_1 c d = some (wayB d.2.2.2.2.1 c) := by
  unfold history_width_1 wayB
  cases decide (c.2.2.2.2.1 ≤ d.2.2.2.2.1) <;> cases decide (c.2.2.2.2.2 = 0) <;> simp

theorem filter_take {α : Type} (p : α → Bool) {xs : List α} {k : Nat} {x : α} (hk : xs[k]? = some x) : (xs.take (k + 1)).filter p = (xs.take k).filter p ++ (if p x = true then [x] else []) := by
  rw [take_one hk, List.filter_append]
  congr 1
  cases h : p x <;> simp [List.filter_cons, h]

theorem those_eq (h : List HC6) (hl : h.length ≤ 1000) (d : HC6) : history_those h d = some (h.filter (wayB d.2.2.2.2.1)) := by
  unfold history_those
  have hs := scan2 (R := List HC6) h (fun k (s : List HC6) => s = (h.take k).filter (wayB d.2.2.2.2.1)) (fun r => r = h.filter (wayB d.2.2.2.2.1)) (body := history_those_b1 h d) (s0 := []) (by simp) ?_ ?_
  · obtain ⟨r, er, hr⟩ := hs
    rw [er, Option.bind_some, hr]; rfl
  · intro k x s hk hI
    obtain ⟨hlt, hin⟩ := few_in (few_of hl) hk
    have hsl : s.length ≤ 1000 := by rw [hI]; exact Nat.le_trans (List.length_filter_le _ _) (by simp; omega)
    unfold history_those_b1
    simp only
    rw [if_pos (by simpa using hlt), ck_pos (by simp), ck_pos (by simpa using hlt), Int.toNat_natCast, getD_of hk, width1_eq, Option.bind_some]
    have hf := filter_take (wayB d.2.2.2.2.1) hk
    cases hw : wayB d.2.2.2.2.1 x with
    | true =>
      rw [hw] at hf
      rw [if_pos rfl, ck_pos (by omega), ck_pos hin]
      exact .inl ⟨_, rfl, by rw [hf, hI]; rfl⟩
    | false =>
      rw [hw] at hf
      rw [if_neg (by simp), ck_pos hin]
      exact .inl ⟨_, rfl, by rw [hf, hI]; simp⟩
  · intro s hI
    rw [List.take_length] at hI
    unfold history_those_b1
    rw [if_neg (by simp)]
    exact ⟨_, rfl, hI⟩

theorem uw_le (h : List HC6) (m : Int) : 0 ≤ uw h m ∧ uw h m ≤ h.length := by
  unfold uw
  have := List.length_filter_le (wayB m) h
  omega

def maxL (l : List Int) : Int := l.foldl max 0

theorem foldl_max : ∀ (l : List Int) (a : Int), a ≤ l.foldl max a ∧ (∀ x ∈ l, x ≤ l.foldl max a) ∧ (l.foldl max a = a ∨ l.foldl max a ∈ l)
  | [], a => by simp
  | x :: r, a => by
    obtain ⟨h1, h2, h3⟩ := foldl_max r (max a x)
    rw [List.foldl_cons]
    refine ⟨by omega, fun y hy => ?_, ?_⟩
    · rcases List.mem_cons.1 hy with rfl | hy
      · omega
      · exact h2 y hy
    · rcases h3 with h3 | h3
      · by_cases h : a ≤ x
        · right; rw [h3]; simp; left; omega
        · left; rw [h3]; omega
      · right; exact List.mem_cons_of_mem _ h3

theorem maxL_le {l : List Int} {B : Int} (h0 : 0 ≤ B) (h : ∀ x ∈ l, x ≤ B) : maxL l ≤ B := by
  rcases (foldl_max l 0).2.2 with h1 | h1
  · unfold maxL; omega
  · exact h _ h1
theorem le_maxL {l : List Int} {x : Int} (h : x ∈ l) : x ≤ maxL l := (foldl_max l 0).2.1 x h
theorem maxL_nn (l : List Int) : 0 ≤ maxL l := (foldl_max l 0).1

theorem width_eq (h : List HC6) (hl : h.length ≤ 1000) : history_width h = some (maxL (h.map fun c => uw h c.2.2.2.2.1)) := by
  unfold history_width
  have hs := scan2 (R := Int) h (fun k (s : Int) => s = maxL ((h.take k).map fun c => uw h c.2.2.2.2.1)) (fun r => r = maxL (h.map fun c => uw h c.2.2.2.2.1)) (body := history_width_b1 h) (s0 := 0) (by simp [maxL]) ?_ ?_
  · obtain ⟨r, er, hr⟩ := hs
    rw [er, Option.bind_some, hr]; rfl
  · intro k x s hk hI
    obtain ⟨hlt, hin⟩ := few_in (few_of hl) hk
    unfold history_width_b1
    simp only
    rw [if_pos (by simpa using hlt), ck_pos (by simp), ck_pos (by simpa using hlt), Int.toNat_natCast, getD_of hk, those_eq h hl, Option.bind_some, ck_pos hin]
    refine .inl ⟨_, rfl, ?_⟩
    rw [take_one hk, List.map_append, hI]
    unfold maxL
    rw [List.foldl_append]; rfl
  · intro s hI
    rw [List.take_length] at hI
    unfold history_width_b1
    rw [if_neg (by simp)]
    exact ⟨_, rfl, hI⟩

theorem underWay_eq (h : List HC6) (hl : h.length ≤ 1000) (m : Int) : linealref02_underWay h m = some (uw h m) := by
  unfold linealref02_underWay
  have hs := scan2 (R := Int) h (fun k (s : Int) => s = uw (h.take k) m) (fun r => r = uw h m) (body := linealref02_underWay_b1 h m) (s0 := 0) (by simp [uw]) ?_ ?_
  · obtain ⟨r, er, hr⟩ := hs
    rw [er, Option.bind_some, hr]; rfl
  · intro k x s hk hI
    obtain ⟨hlt, hin⟩ := few_in (few_of hl) hk
    have hsl := uw_le (h.take k) m
    have htl : (h.take k).length ≤ 1000 := by simp; omega
    have hin2 : InK .i64 (s + 1) := by rw [inK_i64]; omega
    have hf := filter_take (wayB m) hk
    have hu : uw (h.take (k + 1)) m = s + (if wayB m x = true then 1 else 0) := by
      rw [hI]; unfold uw; rw [hf, List.length_append]
      cases wayB m x <;> simp
    unfold linealref02_underWay_b1
    simp only
    rw [if_pos (by simpa using hlt), ck_pos (by simp), ck_pos (by simpa using hlt), Int.toNat_natCast, getD_of hk]
    simp only [ck_pos (show (0 : Int) ≤ (k : Int) by simp), ck_pos (show (k : Int) < (h.length : Int) by omega), ck_pos hin, ck_pos hin2]
    refine .inl ⟨uw (h.take (k + 1)) m, ?_, rfl⟩
    rw [hu]
    unfold wayB
    cases decide (x.2.2.2.2.1 ≤ m) <;> cases decide (x.2.2.2.2.2 = 0) <;> cases decide (m ≤ x.2.2.2.2.2) <;> simp
  · intro s hI
    rw [List.take_length] at hI
    unfold linealref02_underWay_b1
    rw [if_neg (by simp)]
    exact ⟨_, rfl, hI⟩

theorem rWidth_loop (h : List HC6) (hl : h.length ≤ 1000) : whileO (linealref02_Width_b1 h) (0, 1) = some (maxL ((List.range 100).map fun (k : Nat) => uw h ((k : Int) + 1))) := by
  have := whileO_seq (body := linealref02_Width_b1 h) (fun k : Nat => (maxL ((List.range k).map fun (j : Nat) => uw h ((j : Int) + 1)), (k : Int) + 1)) 100 (fun k hk => by
    unfold linealref02_Width_b1
    simp only
    rw [if_pos (by simp; omega), underWay_eq h hl, Option.bind_some, ck_pos (by rw [inK_i64]; omega)]
    congr 3
    rw [List.range_succ, List.map_append]
    unfold maxL
    rw [List.foldl_append]; rfl) (r := maxL ((List.range 100).map fun (k : Nat) => uw h ((k : Int) + 1))) (by
    unfold linealref02_Width_b1
    simp only
    rw [if_neg (by simp)])
  simpa [maxL] using this

theorem width_same (h : List HC6) (hok : okH h = true) : maxL ((List.range 100).map fun (k : Nat) => uw h ((k : Int) + 1)) = maxL (h.map fun c => uw h c.2.2.2.2.1) := by
  have hcs : ∀ c ∈ h, okC c = true := fun c hc => by
    obtain ⟨k, hk, e⟩ := List.getElem_of_mem hc
    unfold okH at hok
    simp only [Bool.and_eq_true] at hok
    have := allB_iff.1 hok.2 k hk
    unfold okAt at this
    simp only [Bool.and_eq_true] at this
    have e2 : h.getD k (0, 0, 0, 0, 0, 0) = c := by rw [List.getD_eq_getElem?_getD, List.getElem?_eq_getElem hk, e]; rfl
    rw [e2] at this
    exact this.1
  apply Int.le_antisymm
  · refine maxL_le (maxL_nn _) fun x hx => ?_
    obtain ⟨k, hk, rfl⟩ := List.mem_map.1 hx
    -- the call that began last of those under way
    by_cases h0 : h.filter (wayB ((k : Int) + 1)) = []
    · have : uw h ((k : Int) + 1) = 0 := by unfold uw; rw [h0]; rfl
      rw [this]; exact maxL_nn _
    · obtain ⟨c, hc, hmax⟩ : ∃ c ∈ h.filter (wayB ((k : Int) + 1)), ∀ d ∈ h.filter (wayB ((k : Int) + 1)), d.2.2.2.2.1 ≤ c.2.2.2.2.1 := by
        have : ∀ l : List HC6, l ≠ [] → ∃ c ∈ l, ∀ d ∈ l, d.2.2.2.2.1 ≤ c.2.2.2.2.1 := by
          intro l
          induction l with
          | nil => intro h; exact absurd rfl h
          | cons a r ih =>
            intro _
            by_cases hr : r = []
            · subst hr; exact ⟨a, by simp, fun d hd => by simp at hd; subst hd; omega⟩
            · obtain ⟨c, hc, hm⟩ := ih hr
              by_cases hac : a.2.2.2.2.1 ≤ c.2.2.2.2.1
              · exact ⟨c, by simp [hc], fun d hd => by
                  rcases List.mem_cons.1 hd with rfl | hd
                  · exact hac
                  · exact hm d hd⟩
              · exact ⟨a, by simp, fun d hd => by
                  rcases List.mem_cons.1 hd with rfl | hd
                  · omega
                  · have := hm d hd; omega⟩
        exact this _ h0
      obtain ⟨hch, hcw⟩ := List.mem_filter.1 hc
      have hle : uw h ((k : Int) + 1) ≤ uw h c.2.2.2.2.1 := by
        unfold uw
        have : (h.filter (wayB ((k : Int) + 1))).length ≤ (h.filter (wayB c.2.2.2.2.1)).length := by
          rw [← List.countP_eq_length_filter, ← List.countP_eq_length_filter]
          refine List.countP_mono_left fun d hd hdw => ?_
          have hm := hmax d (List.mem_filter.2 ⟨hd, hdw⟩)
          unfold wayB at hdw hcw ⊢
          simp only [Bool.and_eq_true, Bool.or_eq_true, decide_eq_true_eq] at hdw hcw ⊢
          omega
        omega
      exact Int.le_trans hle (le_maxL (List.mem_map.2 ⟨c, hch, rfl⟩))
  · refine maxL_le (maxL_nn _) fun x hx => ?_
    obtain ⟨c, hc, rfl⟩ := List.mem_map.1 hx
    have := okC_from (hcs c hc)
    refine le_maxL (List.mem_map.2 ⟨(c.2.2.2.2.1 - 1).toNat, List.mem_range.2 (by omega), ?_⟩)
    congr 1
    omega

def widthA (h : List HC6) : Int := maxL (h.map fun c => uw h c.2.2.2.2.1)

theorem Width_eq (h : List HC6) (hl : h.length ≤ 1000) : history_Width h = some (if okH h = true then (widthA h, 0) else (0, 20)) := by
  unfold history_Width
  rw [check_eq, Option.bind_some]
  cases okH h with
  | true =>
    simp only [if_true, decide_true]
    unfold history_told_8 history_Width_1
    rw [width_eq h hl]; rfl
  | false => rfl

theorem rWidth_eq (h : List HC6) (hl : h.length ≤ 1000) : linealref02_Width h = some (if okH h = true then (widthA h, 0) else (0, 20)) := by
  unfold linealref02_Width
  rw [rHValid_eq, Option.bind_some]
  cases hok : okH h with
  | true =>
    simp only [Bool.not_true, Bool.false_eq_true, if_false, if_true]
    rw [rWidth_loop h hl, Option.bind_some, width_same h hok]; rfl
  | false => rfl

theorem Alone_eq (h : List HC6) (hl : h.length ≤ 1000) : history_Alone h = some (if okH h = true then (decide (widthA h ≤ 1), 0) else (false, 20)) := by
  unfold history_Alone
  rw [check_eq, Option.bind_some]
  cases okH h with
  | true =>
    simp only [if_true, decide_true]
    unfold history_told_10 history_Alone_1
    rw [width_eq h hl]; rfl
  | false => rfl

theorem rAlone_eq (h : List HC6) (hl : h.length ≤ 1000) : linealref02_Alone h = some (if okH h = true then (decide (widthA h ≤ 1), 0) else (false, 20)) := by
  unfold linealref02_Alone
  rw [rWidth_eq h hl, Option.bind_some]
  cases okH h <;> simp

theorem HistoryWidths_eq (h : List HC6) : lineallaw02_HistoryWidths h = some true := by
  unfold lineallaw02_HistoryWidths
  rw [Long_eq2, Option.bind_some]
  by_cases hl : 40 < h.length
  · rw [if_pos (by simp; omega), Sane_eq]; rfl
  rw [if_neg (by simp; omega), Width_eq h (by omega), Option.bind_some, rWidth_eq h (by omega), Option.bind_some, Alone_eq h (by omega), Option.bind_some, rAlone_eq h (by omega), Option.bind_some]
  rw [if_pos (by simp), if_pos (by simp), if_pos (by simp), if_pos (by simp), Sane_eq]; rfl

end Go.Proofs.Ytdkdkpenmgkdcaa
