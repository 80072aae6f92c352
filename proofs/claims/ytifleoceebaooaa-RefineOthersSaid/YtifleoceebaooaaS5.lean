/-
  Layer 5, pure: all short traces; the law about traces.
-/
import Derived.Test.YtifleoceebaooaaRdr
import Derived.Test.YtifleoceebaooaaRtw
import Derived.Test.YtifleoceebaooaaS4
namespace Go.Proofs.Ytifleoceebaooaa
open Go.RowKit

set_option linter.unusedVariables false
set_option linter.unusedSectionVars false
set_option linter.unusedSimpArgs false

def okL (l : List (List Int)) : Prop := l.length ≤ maxLen ∧ ∀ r ∈ l, r.length ≤ maxLen

/-! ### Traces -/

def seenB (l : Int) : Bool := decide (0 < l ∧ l ≤ 3)
def isTrOf (s : Sys) (tr : List Int) : Bool × Int := if validB s = true then (if 1000 < (tr.length : Int) then (false, 2) else if tr.all seenB = true then (!decide (behM s tr = 0), 0) else (false, 2)) else (false, 50)

/-- All traces that begin so, of at most so many further labels. -/
def trL (s : Sys) : Nat → List Int → Nat → List (List Int)
  | 0, tr, _ => [tr]
  | k + 1, tr, m => tr :: ((if coM s m 1 = 0 then [] else trL s k (tr ++ [1]) (coM s m 1)) ++ ((if coM s m 2 = 0 then [] else trL s k (tr ++ [2]) (coM s m 2)) ++ (if coM s m 3 = 0 then [] else trL s k (tr ++ [3]) (coM s m 3))))
def trS (s : Sys) (k : Nat) (tr : List Int) (m : Nat) (l : Int) : List (List Int) := if coM s m l = 0 then [] else trL s k (tr ++ [l]) (coM s m l)
section
variable {s : Sys} (hv : OkS s)
include hv

end

def tracesOf (s : Sys) (most : Int) : List (List Int) × Int := if validB s = true then (if most < 0 then ([], 2) else if 5 < most then ([], 2) else (trL s most.toNat [] (begM s), 0)) else ([], 50)

theorem okZ_of {s : Sys} (h : okEl (.pair (.int .i64) (.sl (.pair (.int .i64) (.pair (.int .i64) (.int .i64))))) s) : okZ s := by
  refine ⟨?_, fun z hz => ?_⟩
  · have h1 : s.2.length * 24 ≤ 140737488351232 := h.2.1
    omega
  · have := h.2.2.2 z hz
    exact ⟨this.1, this.2.1, this.2.2⟩

end Go.Proofs.Ytifleoceebaooaa
