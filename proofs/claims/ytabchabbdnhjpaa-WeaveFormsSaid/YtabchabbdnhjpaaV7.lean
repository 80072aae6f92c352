/-
  Layer 3, pure: WeaveRests.
-/
import Derived.Test.YtabchabbdnhjpaaV6
namespace Go.Proofs.Ytabchabbdnhjpaa
open Go.RowKit

set_option linter.unusedVariables false
set_option linter.unusedSimpArgs false
set_option maxRecDepth 10000

/-- Joined. -/
def joinA (l : Ltr) (u w : List Int) : List Int × Int := if errW l [u, w] = 0 then (if u.length + w.length ≤ 10 then (FF l (u ++ w), 0) else ([], 4)) else ([], errW l [u, w])

/-- Begins. -/
def beginA (l : Ltr) (u w : List Int) : Bool × Int := if errW l [u, w] = 0 then ((rs l u w).isSome, 0) else (false, errW l [u, w])

/-- Rest. -/
def restA (l : Ltr) (u w : List Int) : List Int × Int := if errW l [u, w] = 0 then (match rs l u w with | some v => (FF l v, 0) | none => ([], 5)) else ([], errW l [u, w])

theorem isWd_rs {l : Ltr} {u w v : List Int} (hw : isWd l w = true) (h : rs l u w = some v) : isWd l v = true := by
  have := rs_some l u w v h
  exact isWd_sub hw (by have := isWd_len hw; omega) this.2

theorem FF_len {l : Ltr} (hl : okL l = true) {w : List Int} (hw : isWd l w = true) : (FF l w).length = w.length := ff_len hl _ w (by omega) hw

theorem same_self (x : List Int) (hx : x.length ≤ 1000) : linealref03_SameInts x x = some true := by
  rw [SameInts_eq3 _ _ (few_of hx) (few_of hx)]; simp

end Go.Proofs.Ytabchabbdnhjpaa
