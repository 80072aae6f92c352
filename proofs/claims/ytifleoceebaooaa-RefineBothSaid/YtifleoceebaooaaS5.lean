/-
  Layer 5, pure: all short traces; the law about traces.
-/
import Derived.Test.YtifleoceebaooaaRdr
import Derived.Test.YtifleoceebaooaaRtw
import Derived.Test.YtifleoceebaooaaS4
namespace Go.Proofs.Ytifleoceebaooaa
open Go.RowKit

set_option linter.unusedVariables false
set_option linter.unusedSectionVars false
set_option linter.unusedSimpArgs false

def okL (l : List (List Int)) : Prop := l.length ≤ maxLen ∧ ∀ r ∈ l, r.length ≤ maxLen

theorem frameOf_eq (s : Sys) (hs : okZ s) : ∃ T, refine_frameOf s = some (if validB s = true then (s.1, s.2, T, 0) else (0, [], T, 50)) ∧ (validB s = true → Frm s T) := by
  unfold refine_frameOf
  rw [Valid_eq s hs, Option.bind_some]
  cases h : validB s
  · exact ⟨Ty.dflt T69, rfl, fun h => by cases h⟩
  · obtain ⟨T, e, hT⟩ := frame_tab (okS_valid h)
    refine ⟨T, ?_, fun _ => hT⟩
    rw [if_neg (by simp), e, if_pos rfl]

/-! ### Traces -/

def seenB (l : Int) : Bool := decide (0 < l ∧ l ≤ 3)
def isTrOf (s : Sys) (tr : List Int) : Bool × Int := if validB s = true then (if 1000 < (tr.length : Int) then (false, 2) else if tr.all seenB = true then (!decide (behM s tr = 0), 0) else (false, 2)) else (false, 50)

theorem unseen_eq (tr : List Int) (hl : tr.length ≤ 1000) : slices_ContainsFunc tr = some (!tr.all seenB) := by
  obtain ⟨r, e1, h⟩ := scan1 (R := Sum Int Unit) tr (fun k => ∀ j y, j < k → tr[j]? = some y → seenB y = true) (fun r => match r with | .inl i => 0 ≤ i ∧ tr.all seenB = false | .inr _ => tr.all seenB = true) (body := slices_IndexFunc_b1 tr) (fun j y hj => by omega)
    (fun k y hy hI => by
      have hlt := (List.getElem?_eq_some_iff.1 hy).1
      have hm := List.mem_of_getElem? hy
      have ki : InK .i64 ((k : Int) + 1) := by rw [inK_i64]; omega
      have e0 : tr.getD k 0 = y := getD_of hy
      have hu : refine_IsTrace_1 y = some (!seenB y) := by
        unfold refine_IsTrace_1
        rw [isSeen_eq, Option.bind_some]; rfl
      cases h : seenB y with
      | false =>
        refine .inr ⟨.inl (k : Int), ?_, by omega, ?_⟩
        · unfold slices_IndexFunc_b1
          simp only [Int.toNat_natCast, e0]
          rw [if_pos (by rw [decide_eq_true_eq]; omega), ck_pos (by omega), ck_pos (by omega), hu, Option.bind_some, h]
          rfl
        · cases ha : tr.all seenB with
          | false => rfl
          | true => rw [List.all_eq_true.1 ha y hm] at h; cases h
      | true =>
        refine .inl ⟨?_, fun j x hj hx => ?_⟩
        · unfold slices_IndexFunc_b1
          simp only [Int.toNat_natCast, e0]
          rw [if_pos (by rw [decide_eq_true_eq]; omega), ck_pos (by omega), ck_pos (by omega), hu, Option.bind_some, h, ck_pos ki]
          rfl
        · rcases Nat.lt_succ_iff_lt_or_eq.1 hj with hj | hj
          · exact hI j x hj hx
          · subst hj
            rw [hy] at hx
            have := Option.some.inj hx
            subst this
            exact h)
    (fun hI => by
      refine ⟨.inr (), ?_, ?_⟩
      · unfold slices_IndexFunc_b1
        rw [if_neg (by rw [decide_eq_true_eq]; omega)]
      · show tr.all seenB = true
        rw [List.all_eq_true]
        intro y hy
        obtain ⟨j, hj⟩ := List.getElem?_of_mem hy
        exact hI j y (List.getElem?_eq_some_iff.1 hj).1 hj)
  unfold slices_ContainsFunc slices_IndexFunc
  rw [e1, Option.bind_some]
  cases r with
  | inl i => simp only at h; simp only [Option.bind_some]; simp [h.1, h.2]
  | inr u => simp only at h; unfold slices_IndexFunc_k1; simp only [Option.bind_some]; simp [h]

theorem IsTrace_eq (s : Sys) (hs : okZ s) (tr : List Int) : refine_IsTrace s tr = some (isTrOf s tr) := by
  obtain ⟨T, e, hT⟩ := frameOf_eq s hs
  unfold refine_IsTrace isTrOf
  rw [e, Option.bind_some]
  cases h : validB s
  · rfl
  rw [if_pos rfl, if_pos rfl]
  simp only [decide_true, Bool.not_true, Bool.false_eq_true, if_false]
  by_cases hl : 1000 < (tr.length : Int)
  · rw [if_pos (by simpa using hl), if_pos hl]
  rw [if_neg (by simpa using hl), if_neg hl, unseen_eq tr (by omega), Option.bind_some]
  cases ha : tr.all seenB
  · rfl
  rw [if_pos rfl]
  simp only [Bool.not_true, Bool.false_eq_true, if_false]
  have := isTrace_eq (okS_valid h) (hT h) tr (by omega) (fun l hl => of_decide_eq_true (List.all_eq_true.1 ha l hl))
  have this' : refine_frame_isTrace ((s.1, s.2), T) tr = some (!decide (behM s tr = 0)) := this
  rw [this', Option.bind_some]

/-- All traces that begin so, of at most so many further labels. -/
def trL (s : Sys) : Nat → List Int → Nat → List (List Int)
  | 0, tr, _ => [tr]
  | k + 1, tr, m => tr :: ((if coM s m 1 = 0 then [] else trL s k (tr ++ [1]) (coM s m 1)) ++ ((if coM s m 2 = 0 then [] else trL s k (tr ++ [2]) (coM s m 2)) ++ (if coM s m 3 = 0 then [] else trL s k (tr ++ [3]) (coM s m 3))))
def trS (s : Sys) (k : Nat) (tr : List Int) (m : Nat) (l : Int) : List (List Int) := if coM s m l = 0 then [] else trL s k (tr ++ [l]) (coM s m l)
section
variable {s : Sys} (hv : OkS s)
include hv

end

def tracesOf (s : Sys) (most : Int) : List (List Int) × Int := if validB s = true then (if most < 0 then ([], 2) else if 5 < most then ([], 2) else (trL s most.toNat [] (begM s), 0)) else ([], 50)

theorem okZ_of {s : Sys} (h : okEl (.pair (.int .i64) (.sl (.pair (.int .i64) (.pair (.int .i64) (.int .i64))))) s) : okZ s := by
  refine ⟨?_, fun z hz => ?_⟩
  · have h1 : s.2.length * 24 ≤ 140737488351232 := h.2.1
    omega
  · have := h.2.2.2 z hz
    exact ⟨this.1, this.2.1, this.2.2⟩

end Go.Proofs.Ytifleoceebaooaa
