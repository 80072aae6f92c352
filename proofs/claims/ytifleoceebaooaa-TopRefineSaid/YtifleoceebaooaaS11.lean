/-
 Layer 5, pure: the law of what is told holds.
-/
import Derived.Test.YtifleoceebaooaaS8
import Derived.Test.YtifleoceebaooaaS10
namespace Go.Proofs.Ytifleoceebaooaa
open Go.RowKit

set_option linter.unusedVariables false
set_option linter.unusedSectionVars false
set_option linter.unusedSimpArgs false

/-! ### Plain -/

def likeB (z y : Stp) : Bool := decide (y.1 = z.1) && decide (y.2.1 = z.2.1)

def plainK (l : List Stp) (k : Nat) : Bool := !(l.take k).any (likeB (l.getD k (0, 0, 0))) && !decide ((l.getD k (0, 0, 0)).2.1 = 0)

/-! ### Shows -/

theorem Shows_eq {c a : Sys} (hc : validB c = true) (ha : validB a = true) : (∃ u, refine_Shows c a = some (u, 0) ∧ Told c a u) ∨ (refine_Shows c a = some ([], 5) ∧ ∀ v : List Int, v.all seenB = true → behM c v ≠ 0 → behM a v ≠ 0) := by
 obtain ⟨Tc, e1, h1⟩ := frameOf_eq c (okZ_valid hc)
 obtain ⟨Ta, e2, h2⟩ := frameOf_eq a (okZ_valid ha)
 rw [if_pos hc] at e1
 rw [if_pos ha] at e2
 obtain ⟨r, e3, h3⟩ := shows_eq (okS_valid hc) (okS_valid ha) (h1 hc) (h2 ha)
 have e3' : refine_two_shows (((c.1, c.2), Tc), (a.1, a.2), Ta) = some r := e3
 have hs : refine_Shows c a = if (!r.2) = true then some ([], 5) else some (r.1, 0) := by
  unfold refine_Shows refine_twoOf
  rw [e1, Option.bind_some]
  simp only [decide_true, Bool.not_true, Bool.false_eq_true, if_false]
  rw [e2, Option.bind_some]
  simp only [decide_true, Bool.not_true, Bool.false_eq_true, if_false, Option.bind_some]
  rw [e3', Option.bind_some]
 rcases h3 with ⟨u, rfl, hu⟩ | ⟨rfl, hn⟩
 ·exact .inl ⟨u, by rw [hs]; rfl, hu⟩
 ·exact .inr ⟨by rw [hs]; rfl, hn⟩

section
variable {c a : Sys} (hc : validB c = true) (ha : validB a = true)
include hc ha

end

end Go.Proofs.Ytifleoceebaooaa
