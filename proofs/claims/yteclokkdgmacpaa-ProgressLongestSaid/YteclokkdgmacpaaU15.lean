/-
  Layer 7, pure: a claim holds and has ranks, or it does not and has a circle: ProgressEither answers true.
-/
import Derived.Test.YteclokkdgmacpaaU14
namespace Go.Proofs.Yteclokkdgmacpaa
open Go.RowKit

set_option linter.unusedVariables false
set_option linter.unusedSimpArgs false
set_option linter.unusedSectionVars false
set_option maxRecDepth 10000

/-- What is so of a claim that is asked. -/
theorem either {g : Gr} {c t : Int} (h : ask g c t = 0) : (holB g c t = true ∧ (∃ r, Least (clm c t) g r ∧ rksR g c t = (r, 0)) ∧ lasR g c t = ([], [], 5)) ∨ (holB g c t = false ∧ rksR g c t = ([], 5) ∧ ∃ p q, lasR g c t = (p, q, 0) ∧ refB (clm c t) g p q = true ∧ p.length ≤ 8 ∧ q.length ≤ 8) := by
  have hg := (ask_cases h).1
  have hi := holB_iff h
  rcases lasA_or h with ⟨k1, k2⟩ | ⟨k1, p, q, k2⟩
  · left
    refine ⟨k1, ?_, by unfold lasR; rw [if_pos h, k2]⟩
    rcases least_or h with hb | ⟨r, hr⟩
    · exact absurd hb (hi.1 k1)
    · exact ⟨r, hr, rksR_some h (rkA_some hr)⟩
  · right
    obtain ⟨r1, r2, r3⟩ := lasA_some hg k2
    exact ⟨k1, rksR_none h (rkA_none hg (refB_bad hg r1)), p, q, by unfold lasR; rw [if_pos h, k2], r1, r2, r3⟩

section
variable {g : Gr} (hg : GOK g) (hz : okZ g)
include hg hz

end

end Go.Proofs.Yteclokkdgmacpaa
