/-
  Layer 2, pure: widths, the program side.
-/
import Derived.Test.YtlfpagicagmjgaaH2c
namespace Go.Proofs.Ytlfpagicagmjgaa
open Go.RowKit

set_option linter.unusedVariables false
set_option linter.unusedSimpArgs false
set_option maxRecDepth 10000

/-- A call is under way at a moment. -/
def wayB (m : Int) (c : HC6) : Bool := decide (c.2.2.2.2.1 ≤ m) && (decide (c.2.2.2.2.2 = 0) || decide (m ≤ c.2.2.2.2.2))

def uw (h : List HC6) (m : Int) : Int := ((h.filter (wayB m)).length : Nat)

theorem width1_eq (c d : HC6) : history_width_1 c d = some (wayB d.2.2.2.2.1 c) := by
  unfold history_width_1 wayB
  cases decide (c.2.2.2.2.1 ≤ d.2.2.2.2.1) <;> cases decide (c.2.2.2.2.2 = 0) <;> simp

theorem those_eq (h : List HC6) (hl : h.length ≤ 1000) (d : HC6) : history_those h d = some (h.filter (wayB d.2.2.2.2.1)) := by
  unfold history_those
  have hs := scan2 (R := List HC6) h (fun k (s : List HC6) => s = (h.take k).filter (wayB d.2.2.2.2.1)) (fun r => r = h.filter (wayB d.2.2.2.2.1)) (body := history_those_b1 h d) (s0 := []) (by simp) ?_ ?_
  · obtain ⟨r, er, hr⟩ := hs
    rw [er, Option.bind_some, hr]; rfl
  · intro k x s hk hI
    obtain ⟨hlt, hin⟩ := few_in (few_of hl) hk
    have hsl : s.length ≤ 1000 := by rw [hI]; exact Nat.le_trans (List.length_filter_le _ _) (by simp; omega)
    unfold history_those_b1
    simp only
    rw [if_pos (by simpa using hlt), ck_pos (by simp), ck_pos (by simpa using hlt), Int.toNat_natCast, getD_of hk, width1_eq, Option.bind_some]
    have hf := filter_take (wayB d.2.2.2.2.1) hk
    cases hw : wayB d.2.2.2.2.1 x with
    | true =>
      rw [hw] at hf
      rw [if_pos rfl, ck_pos (by omega), ck_pos hin]
      exact .inl ⟨_, rfl, by rw [hf, hI]; rfl⟩
    | false =>
      rw [hw] at hf
      rw [if_neg (by simp), ck_pos hin]
      exact .inl ⟨_, rfl, by rw [hf, hI]; simp⟩
  · intro s hI
    rw [List.take_length] at hI
    unfold history_those_b1
    rw [if_neg (by simp)]
    exact ⟨_, rfl, hI⟩

def maxL (l : List Int) : Int := l.foldl max 0

theorem foldl_max : ∀ (l : List Int) (a : Int), a ≤ l.foldl max a ∧ (∀ x ∈ l, x ≤ l.foldl max a) ∧ (l.foldl max a = a ∨ l.foldl max a ∈ l)
  | [], a => by simp
  | x :: r, a => by
    obtain ⟨h1, h2, h3⟩ := foldl_max r (max a x)
    rw [List.foldl_cons]
    refine ⟨by omega, fun y hy => ?_, ?_⟩
    · rcases List.mem_cons.1 hy with rfl | hy
      · omega
      · exact h2 y hy
    · rcases h3 with h3 | h3
      · by_cases h : a ≤ x
        · right; rw [h3]; simp; left; omega
        · left; rw [h3]; omega
      · right; exact List.mem_cons_of_mem _ h3

theorem le_maxL {l : List Int} {x : Int} (h : x ∈ l) : x ≤ maxL l := (foldl_max l 0).2.1 x h

theorem width_eq (h : List HC6) (hl : h.length ≤ 1000) : history_width h = some (maxL (h.map fun c => uw h c.2.2.2.2.1)) := by
  unfold history_width
  have hs := scan2 (R := Int) h (fun k (s : Int) => s = maxL ((h.take k).map fun c => uw h c.2.2.2.2.1)) (fun r => r = maxL (h.map fun c => uw h c.2.2.2.2.1)) (body := history_width_b1 h) (s0 := 0) (by simp [maxL]) ?_ ?_
  · obtain ⟨r, er, hr⟩ := hs
    rw [er, Option.bind_some, hr]; rfl
  · intro k x s hk hI
    obtain ⟨hlt, hin⟩ := few_in (few_of hl) hk
    unfold history_width_b1
    simp only
    rw [if_pos (by simpa using hlt), ck_pos (by simp), ck_pos (by simpa using hlt), Int.toNat_natCast, getD_of hk, those_eq h hl, Option.bind_some, ck_pos hin]
    refine .inl ⟨_, rfl, ?_⟩
    rw [take_one hk, List.map_append, hI]
    unfold maxL
    rw [List.foldl_append]; rfl
  · intro s hI
    rw [List.take_length] at hI
    unfold history_width_b1
    rw [if_neg (by simp)]
    exact ⟨_, rfl, hI⟩

def widthA (h : List HC6) : Int := maxL (h.map fun c => uw h c.2.2.2.2.1)

theorem Alone_eq (h : List HC6) (hl : h.length ≤ 1000) : history_Alone h = some (if okH h = true then (decide (widthA h ≤ 1), 0) else (false, 20)) := by
  unfold history_Alone
  rw [check_eq, Option.bind_some]
  cases okH h with
  | true =>
    simp only [if_true, decide_true]
    unfold history_told_10 history_Alone_1
    rw [width_eq h hl]; rfl
  | false => rfl

end Go.Proofs.Ytlfpagicagmjgaa
