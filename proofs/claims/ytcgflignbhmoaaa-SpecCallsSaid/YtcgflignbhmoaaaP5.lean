/-
  Layer 1, pure: states that are the same, classes; the word of two states.
-/
import Derived.Test.YtcgflignbhmoaaaP4
import Derived.Test.YtcgflignbhmoaaaMb
namespace Go.Proofs.Ytcgflignbhmoaaa
open Go.RowKit

set_option linter.unusedVariables false
set_option linter.unusedSimpArgs false

/-- Two states are the same. -/
def sameB (s : Tup) (a b : Int) : Bool := (apartP (toSp s) (toSp s) (a, b)).isNone

theorem same_iff {s : Tup} (hv : (toSp s).ok = true) {a b : Int} (ha : inR s.1 a = true) (hb : inR s.1 b = true) : sameB s a b = true ↔ ∀ w, calls s.2.1 w → ans (toSp s) a w = ans (toSp s) b w := by
  unfold sameB
  cases h : apartP (toSp s) (toSp s) (a, b) with
  | none => exact ⟨fun _ w hw => apart_none hv hv rfl (f := (a, b)) ⟨ha, hb⟩ h hw, fun _ => rfl⟩
  | some own =>
    obtain ⟨h1, _, h3, _⟩ := apart_some hv hv rfl (f := (a, b)) ⟨ha, hb⟩ h
    exact ⟨fun h => (by simp at h), fun hh => absurd (hh own h1) h3⟩

theorem same_refl {s : Tup} (hv : (toSp s).ok = true) {a : Int} (ha : inR s.1 a = true) : sameB s a a = true := (same_iff hv ha ha).2 fun _ _ => rfl
theorem machine_same_eq {s : Tup} (hv : (toSp s).ok = true) {a b : Int} (ha : inR s.1 a = true) (hb : inR s.1 b = true) : spec_machine_same s a b = some (sameB s a b) := by
  unfold spec_machine_same
  by_cases e : a = b
  · subst e
    rw [if_pos (by simp), same_refl hv ha]
  · rw [if_neg (by simp [e]), apart_eq s s hv hv rfl (f := (a, b)) ⟨ha, hb⟩, Option.bind_some]
    unfold sameB
    cases apartP (toSp s) (toSp s) (a, b) <;> rfl

/-! ### Classes -/

/-- The least state that is the same. -/
def leastF (s : Tup) (i : Nat) : Nat := ((List.range i).find? fun (j : Nat) => sameB s j i).getD i

/-- The classes. -/
def clsL (s : Tup) : List Int := (List.range s.1.toNat).map fun i => (leastF s i : Int)

theorem wordB_of {s : Tup} {w : List Int} (h : w.length ≤ 20) (hc : calls s.2.1 w) : wordB s w = true := by
  unfold wordB
  rw [Bool.and_eq_true, decide_eq_true_eq, List.all_eq_true]
  exact ⟨h, hc⟩

end Go.Proofs.Ytcgflignbhmoaaa
