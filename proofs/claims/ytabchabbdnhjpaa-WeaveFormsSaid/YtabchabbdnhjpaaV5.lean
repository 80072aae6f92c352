/-
  Layer 3, pure: WeaveExchanges.
-/
import Derived.Test.YtabchabbdnhjpaaV4
namespace Go.Proofs.Ytabchabbdnhjpaa
open Go.RowKit

set_option linter.unusedVariables false
set_option linter.unusedSimpArgs false
set_option maxRecDepth 10000

theorem errW_ok {l : Ltr} {ws : List (List Int)} (h : errW l ws = 0) : okL l = true ∧ ∀ w ∈ ws, isWd l w = true := by
  unfold errW at h
  by_cases h1 : okL l = true
  · rw [if_pos h1] at h
    by_cases h2 : ws.all (isWd l) = true
    · exact ⟨h1, List.all_eq_true.1 h2⟩
    · rw [if_neg h2] at h; cases h
  · rw [if_neg h1] at h; cases h

theorem errW_nil {l : Ltr} {w : List Int} : errW l [w, []] = errW l [w] := by
  unfold errW
  have : isWd l [] = true := by simp [isWd]
  simp [this]

/-- Whether there is an exchange at a place. -/
def canX (l : Ltr) (w : List Int) (at0 : Int) : Bool := decide (0 ≤ at0) && decide (at0 < (w.length : Int) - 1) && !dep l (w.getD at0.toNat 0) (w.getD (at0 + 1).toNat 0)
def swp (w : List Int) (at0 : Int) : List Int := (w.set at0.toNat (w.getD (at0 + 1).toNat 0)).set (at0 + 1).toNat (w.getD at0.toNat 0)

theorem getD_mem {w : List Int} {i : Nat} (h : i < w.length) : w.getD i 0 ∈ w := by
  have := List.getElem?_eq_getElem h
  rw [getD_of this]; exact List.mem_of_getElem? this

theorem Clone_eq3 (w : List Int) (hl : w.length ≤ 1000) : slices_Clone w = some w := by
  unfold slices_Clone
  rw [ck_pos (by omega)]

/-- The occurrences of two letters. -/
def proj (w : List Int) (a b : Int) : List Int := w.filter fun x => decide (x = a) || decide (x = b)

/-- What the memory's bound says of the letters that a law is given. -/
def okLt (l : Ltr) : Prop := few l.2

end Go.Proofs.Ytabchabbdnhjpaa
