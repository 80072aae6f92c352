/-
  Layer 7, pure: the places from which no move leads; ProgressPaths answers true.
-/
import Derived.Test.YteclokkdgmacpaaU5
import Derived.Test.YteclokkdgmacpaaRdr
namespace Go.Proofs.Yteclokkdgmacpaa
open Go.RowKit

set_option linter.unusedVariables false
set_option linter.unusedSimpArgs false
set_option linter.unusedSectionVars false
set_option maxRecDepth 10000

/-- A move leads from a place. -/
def goB (g : Gr) (p : Int) : Bool := g.2.any fun m => decide (m.1 = p)
def endsL (g : Gr) : List Int := (reachL g).filter fun p => !goB g p

theorem Awake7 : lineallaw07_Awake = some true := lineallaw07_Awake_run

theorem okZ_of {g : Gr} (h : okEl (.pair (.int .i64) (.sl (.pair (.int .i64) (.pair (.int .i64) (.pair (.int .i64) .bool))))) g) : okZ g := by
  refine ⟨?_, fun m hm => ?_⟩
  · have h1 : g.2.length * 25 ≤ 140737488351232 := h.2.1
    unfold few
    omega
  · have := h.2.2.2 m hm
    exact ⟨this.1, this.2.1, this.2.2.1⟩

end Go.Proofs.Yteclokkdgmacpaa
