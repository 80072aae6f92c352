/-
  Layer 7, pure: Refutes of both sides; Lasso; ProgressLassos answers true.
-/
import Derived.Test.YteclokkdgmacpaaU13
namespace Go.Proofs.Yteclokkdgmacpaa
open Go.RowKit

set_option linter.unusedVariables false
set_option linter.unusedSimpArgs false
set_option linter.unusedSectionVars false
set_option maxRecDepth 10000

noncomputable def refR (g : Gr) (c t : Int) (path circle : List Int) : Bool × Int := if ask g c t = 0 then (refB (clm c t) g path circle, 0) else (false, ask g c t)

noncomputable def lasR (g : Gr) (c t : Int) : List Int × List Int × Int := if ask g c t = 0 then (match lasA (clm c t) g with | some (p, q) => (p, q, 0) | none => ([], [], 5)) else ([], [], ask g c t)

theorem pth_iff (g : Gr) {l : List Int} (h0 : l ≠ []) (p q : Int) : leadL g p l = some q ↔ isPth g l = true ∧ (mvAt g (l.getD 0 0)).1 = p ∧ (mvAt g (l.getD (l.length - 1) 0)).2.2.1 = q := by
  cases hl : l with
  | nil => exact absurd hl h0
  | cons i r =>
    obtain ⟨s, j, e, e2⟩ := last_of (l := i :: r) (by simp)
    have e0 : (i :: r).getD 0 0 = i := rfl
    rw [e0, e2, isPth_cons, Bool.and_eq_true]
    constructor
    · intro h
      have h' := h
      rw [leadL_cons] at h
      split at h
      · rename_i hc
        refine ⟨⟨hc.1, by rw [hc.2, h']; rfl⟩, hc.2, ?_⟩
        rw [e] at h'
        exact (lead_last g s p q j h').1.symm
      · cases h
    · rintro ⟨⟨h1, h2⟩, h3, h4⟩
      have h3' : (g.2.getD i.toNat (0, 0, 0, false)).1 = p := h3
      rw [h3'] at h2
      obtain ⟨q', hq⟩ := Option.isSome_iff_exists.1 h2
      have hq2 := hq
      rw [e] at hq2
      have := (lead_last g s p q' j hq2).1
      rw [hq, this]
      exact congrArg some h4

/-- Either the claim holds or a circle is found. -/
theorem lasA_or {g : Gr} {c t : Int} (h : ask g c t = 0) : (holB g c t = true ∧ lasA (clm c t) g = none) ∨ (holB g c t = false ∧ ∃ p q, lasA (clm c t) g = some (p, q)) := by
  have hg := (ask_cases h).1
  have hi := holB_iff h
  cases hl : lasA (clm c t) g with
  | none => exact .inl ⟨hi.2 (lasA_none hg hl), rfl⟩
  | some x =>
    refine .inr ⟨?_, x.1, x.2, rfl⟩
    rw [← Bool.not_eq_true]
    intro hh
    exact hi.1 hh (refB_bad hg (lasA_some hg (p := x.1) (c := x.2) hl).1)

end Go.Proofs.Yteclokkdgmacpaa
