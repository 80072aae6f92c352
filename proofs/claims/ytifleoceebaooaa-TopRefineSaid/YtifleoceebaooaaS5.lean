/-
 Layer 5, pure: all short traces; the law about traces.
-/
import Derived.Test.YtifleoceebaooaaRdr
import Derived.Test.YtifleoceebaooaaRtw
import Derived.Test.YtifleoceebaooaaS4
namespace Go.Proofs.Ytifleoceebaooaa
open Go.RowKit

set_option linter.unusedVariables false
set_option linter.unusedSectionVars false
set_option linter.unusedSimpArgs false

def okL (l : List (List Int)) : Prop := l.length ≤ maxLen ∧ ∀ r ∈ l, r.length ≤ maxLen

theorem longer_eq (xs : List Int) (o : Int) (h : xs.length ≤ 1000000) : refine_longer xs o = some (xs ++ [o]) := by
 unfold refine_longer slices_Clone
 rw [ck_pos (by omega), Option.bind_some, ck_pos (by omega)]

theorem frameOf_eq (s : Sys) (hs : okZ s) : ∃ T, refine_frameOf s = some (if validB s = true then (s.1, s.2, T, 0) else (0, [], T, 50)) ∧ (validB s = true → Frm s T) := by
 unfold refine_frameOf
 rw [Valid_eq s hs, Option.bind_some]
 cases h : validB s
 ·exact ⟨Ty.dflt T69, rfl, fun h => by cases h⟩
 ·obtain ⟨T, e, hT⟩ := frame_tab (okS_valid h)
  refine ⟨T, ?_, fun _ => hT⟩
  rw [if_neg (by simp), e, if_pos rfl]

/-! ### Traces -/

def seenB (l : Int) : Bool := decide (0 < l ∧ l ≤ 3)
def isTrOf (s : Sys) (tr : List Int) : Bool × Int := if validB s = true then (if 1000 < (tr.length : Int) then (false, 2) else if tr.all seenB = true then (!decide (behM s tr = 0), 0) else (false, 2)) else (false, 50)

/-- All traces that begin so, of at most so many further labels. -/
def trL (s : Sys) : Nat → List Int → Nat → List (List Int)
 | 0, tr, _ => [tr]
 | k + 1, tr, m => tr :: ((if coM s m 1 = 0 then [] else trL s k (tr ++ [1]) (coM s m 1)) ++ ((if coM s m 2 = 0 then [] else trL s k (tr ++ [2]) (coM s m 2)) ++ (if coM s m 3 = 0 then [] else trL s k (tr ++ [3]) (coM s m 3))))
def trS (s : Sys) (k : Nat) (tr : List Int) (m : Nat) (l : Int) : List (List Int) := if coM s m l = 0 then [] else trL s k (tr ++ [l]) (coM s m l)
section
variable {s : Sys} (hv : OkS s)
include hv

/-- The state 0 is always there. -/
theorem beg_ne : begM s ≠ 0 := fun h => by
 have : (begM s).testBit 0 = true := quM_sub hv 1 0 (by decide)
 rw [h] at this
 simp at this

end

def tracesOf (s : Sys) (most : Int) : List (List Int) × Int := if validB s = true then (if most < 0 then ([], 2) else if 5 < most then ([], 2) else (trL s most.toNat [] (begM s), 0)) else ([], 50)

theorem okZ_of {s : Sys} (h : okEl (.pair (.int .i64) (.sl (.pair (.int .i64) (.pair (.int .i64) (.int .i64))))) s) : okZ s := by
 refine ⟨?_, fun z hz => ?_⟩
 ·have h1 : s.2.length * 24 ≤ 140737488351232 := h.2.1
  omega
 ·have := h.2.2.2 z hz
  exact ⟨this.1, this.2.1, this.2.2⟩

end Go.Proofs.Ytifleoceebaooaa
