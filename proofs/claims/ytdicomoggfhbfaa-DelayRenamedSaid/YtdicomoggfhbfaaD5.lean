/-
  Lists held against each other; the reference's pairs; DelayConflicts.
-/
import Derived.Test.YtdicomoggfhbfaaD4
import Derived.Test.YtdicomoggfhbfaaRdr
namespace Go.Proofs.Ytdicomoggfhbfaa
open Go.RowKit

set_option linter.unusedVariables false
set_option linter.unusedSimpArgs false

/-- Numbers that fit. -/
def fitS (s : Sta) : Prop := InK .i64 s.1 ∧ InK .i64 s.2.1 ∧ InK .i64 s.2.2
theorem st_fit {x : Acs} (hv : vld x = true) {s : Sta} (h : isSt x s = true) : fitS s := by
  obtain ⟨h1, h2, h3, h4⟩ := hasA_iff.1 (isSt_has h).1
  obtain ⟨_, _, k3, k4⟩ := hasA_iff.1 (isSt_has h).2
  have := vld_len hv
  have := vld_row hv s.1.toNat
  unfold fitS
  rw [inK_i64, inK_i64, inK_i64]; omega

theorem okX {x : Acs} (h : okEl (.sl (.sl (.pair (.int .i64) .bool))) x) : few x := by
  have := h.1
  simp only [Ty.bytes] at this
  unfold few; omega

theorem prs_mem {x : Acs} {s : Sta} : s ∈ prs x ↔ isPr x s = true := by
  unfold prs
  rw [List.mem_filter, mem_stas]
  unfold isSt oneB
  constructor
  · rintro ⟨h1, h2⟩
    simp only [Bool.or_eq_true, Bool.and_eq_true, decide_eq_true_eq, Bool.not_eq_true', decide_eq_false_iff_not] at h1 h2
    rcases h1 with h1 | h1
    · exact absurd h1.1 h2
    · exact h1
  · intro h
    have := isPr_lt h
    simp [h, show s.2.1 ≠ s.2.2 by omega]
theorem prs_fit {x : Acs} (hv : vld x = true) : ∀ s ∈ prs x, fitS s := fun s hs => st_fit hv (mem_stas.1 (List.mem_filter.1 hs).1)
theorem prs_few {x : Acs} (hv : vld x = true) : few (prs x) := few_of (Nat.le_trans (List.length_filter_le _ _) (stas_len hv))

end Go.Proofs.Ytdicomoggfhbfaa
