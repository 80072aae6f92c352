/-
  Layer 7, pure: the reference's ranks, round by round, are the least ones; ProgressRanks answers true.
-/
import Derived.Test.YteclokkdgmacpaaU10
import Derived.Test.YteclokkdgmacpaaU6
namespace Go.Proofs.Yteclokkdgmacpaa
open Go.RowKit

set_option linter.unusedVariables false
set_option linter.unusedSimpArgs false
set_option linter.unusedSectionVars false
set_option maxRecDepth 10000

/-- What the reference asks of a move. -/
structure Fal (C : Clm) (c t : Int) : Prop where
  f : ∀ m, ∃ by0, linealref07_falls m c t = some (by0, C.goes m) ∧ (C.goes m = true → by0 = wt C m)

/-- One move of a round. -/
def rlx (C : Clm) (g : Gr) (s : List Int × Bool) (k : Nat) : List Int × Bool :=
  if bk C g s.1 (g.2.getD k (0, 0, 0, false)) = true then (s.1.set (g.2.getD k (0, 0, 0, false)).1.toNat (lst C s.1 (g.2.getD k (0, 0, 0, false))), false) else s
/-- The first moves of a round. -/
def rlxs (C : Clm) (g : Gr) (r : List Int) (n : Nat) : List Int × Bool := (List.range n).foldl (rlx C g) (r, true)
section
variable {C : Clm} {g : Gr} (hg : GOK g) {r : List Int} (hL : Low C g r)
include hg hL

end

/-- Places whose ranks are not settled. -/
def uns (L r : List Int) (n : Nat) : List Nat := (List.range n).filter fun p => decide (rAt r (p : Int) < rAt L (p : Int))

section
variable {g : Gr} (hg : GOK g) {c t : Int} (ha : ask g c t = 0)
include hg ha

end

end Go.Proofs.Yteclokkdgmacpaa
