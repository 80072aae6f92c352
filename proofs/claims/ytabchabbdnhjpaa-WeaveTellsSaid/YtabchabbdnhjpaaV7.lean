/-
  Layer 3, pure: WeaveRests.
-/
import Derived.Test.YtabchabbdnhjpaaV6
namespace Go.Proofs.Ytabchabbdnhjpaa
open Go.RowKit

set_option linter.unusedVariables false
set_option linter.unusedSimpArgs false
set_option maxRecDepth 10000

theorem checked2 (l : Ltr) (u w : List Int) (hl : few l.2) (hu : u.length ≤ 60) (hw : w.length ≤ 60) : ∃ t : El T53, weave_checked l [u, w] = some (t, errW l [u, w]) ∧ (errW l [u, w] = 0 → Ties l t) :=
  checked_eq3 l [u, w] hl (by unfold few; simp) (fun x hx => by
    simp only [List.mem_cons, List.mem_singleton, List.not_mem_nil, or_false] at hx
    rcases hx with rfl | rfl
    · exact few_of hu
    · exact few_of hw)

/-- Joined. -/
def joinA (l : Ltr) (u w : List Int) : List Int × Int := if errW l [u, w] = 0 then (if u.length + w.length ≤ 10 then (FF l (u ++ w), 0) else ([], 4)) else ([], errW l [u, w])

/-- Begins. -/
def beginA (l : Ltr) (u w : List Int) : Bool × Int := if errW l [u, w] = 0 then ((rs l u w).isSome, 0) else (false, errW l [u, w])

/-- Rest. -/
def restA (l : Ltr) (u w : List Int) : List Int × Int := if errW l [u, w] = 0 then (match rs l u w with | some v => (FF l v, 0) | none => ([], 5)) else ([], errW l [u, w])

theorem FF_len {l : Ltr} (hl : okL l = true) {w : List Int} (hw : isWd l w = true) : (FF l w).length = w.length := ff_len hl _ w (by omega) hw

end Go.Proofs.Ytabchabbdnhjpaa
