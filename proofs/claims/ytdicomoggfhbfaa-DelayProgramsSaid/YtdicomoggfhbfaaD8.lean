/-
  What is found on circles; the pairs that are needed, on both sides.
-/
import Derived.Test.YtdicomoggfhbfaaD7
import Derived.Test.YtdicomoggfhbfaaD5
namespace Go.Proofs.Ytdicomoggfhbfaa
open Go.RowKit Go.Maps

set_option linter.unusedVariables false
set_option linter.unusedSimpArgs false

/-- The pairs that are needed. -/
def need (x : Acs) : List Sta := (prs x).filter fun p => (circs x).any fun l => l.any fun s => decide (s = p)

/-! ### The map of what is found -/
abbrev FMp : Type := List (Sta × List Sta)
/-- What the map holds when these circles have been gone over. -/
structure FP (m : FMp) (L : List (List Sta)) : Prop where
  has : ∀ k, mhas m k = true ↔ ∃ l ∈ L, k ∈ l
  get : ∀ k, mhas m k = true → mget [] m k ∈ L ∧ k ∈ mget [] m k

end Go.Proofs.Ytdicomoggfhbfaa
