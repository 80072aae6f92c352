/-
  Layer 1, pure: Least, Unlike, Alike.
-/
import Derived.Test.YtcgflignbhmoaaaP14
namespace Go.Proofs.Ytcgflignbhmoaaa
open Go.RowKit

set_option linter.unusedVariables false
set_option linter.unusedSectionVars false
set_option linter.unusedSimpArgs false
attribute [local irreducible] kL leastF waysL sameB kp clsL

theorem tab_okT {st op : Int} {p : Int → Bool} {rs : List (List Int)} (h : tab st op p rs = true) (h1 : st ≤ 8) (h2 : op ≤ 8) : okT rs := by
  obtain ⟨a1, a2⟩ := tab_row h
  refine ⟨by omega, fun r hr => ?_⟩
  obtain ⟨i, hi⟩ := List.getElem?_of_mem hr
  have := (a2 i r hi).1
  omega

theorem ok_small {s : Tup} (hv : (toSp s).ok = true) : okS s := by
  have hm := Sp.okE hv
  have h2 : s.1 ≤ 8 := hm.2.1
  have h4 : s.2.1 ≤ 4 := hm.2.2.2.1
  exact ⟨tab_okT hm.2.2.2.2.1 h2 (by show s.2.1 ≤ 8; omega), tab_okT hm.2.2.2.2.2 h2 (by show s.2.1 ≤ 8; omega)⟩

/-! ### Index, Contains -/

/-! ### Least -/

section
variable {s : Tup} (hv : (toSp s).ok = true)
include hv

end

/-! ### Alike -/

def unlikeOf (s t : Tup) : List Int × Int := if s.2.1 = t.2.1 then (match apartP (toSp s) (toSp t) (0, 0) with | some w => (w, 0) | none => ([], 5)) else ([], 2)

section
variable {s t : Tup} (hv : (toSp s).ok = true) (hw : (toSp t).ok = true)
include hv hw

theorem Unlike_eq : spec_Unlike s t = some (unlikeOf s t) := by
  unfold spec_Unlike unlikeOf
  rw [Valid_eq s (ok_small hv), Option.bind_some, Valid_eq t (ok_small hw), hv, hw, Option.bind_some]
  simp only [Bool.not_true, Bool.false_eq_true, if_false]
  by_cases e : s.2.1 = t.2.1
  · rw [if_neg (by simp [e]), if_pos e, apart_eq s t hv hw e (f := (0, 0)) ⟨(zero_ok hv).1, (zero_ok hw).1⟩, Option.bind_some]
    cases apartP (toSp s) (toSp t) (0, 0) <;> simp
  · rw [if_pos (by simp [e]), if_neg e]

theorem unlike_code : (unlikeOf s t).2 ≠ 10 ∧ ((unlikeOf s t).2 = 5 ↔ alikeP s t) ∧ ((unlikeOf s t).2 = 5 → (unlikeOf s t).1 = []) ∧ (s.2.1 ≠ t.2.1 → (unlikeOf s t).2 = 2) ∧ (s.2.1 = t.2.1 → ¬ alikeP s t → (unlikeOf s t).2 = 0 ∧ calls s.2.1 (unlikeOf s t).1 ∧ ans (toSp s) 0 (unlikeOf s t).1 ≠ ans (toSp t) 0 (unlikeOf s t).1) := by
  unfold unlikeOf
  by_cases e : s.2.1 = t.2.1
  · rw [if_pos e]
    cases h : apartP (toSp s) (toSp t) (0, 0) with
    | none =>
      have ha : alikeP s t := ⟨e, fun u hu => apart_none hv hw e (f := (0, 0)) ⟨(zero_ok hv).1, (zero_ok hw).1⟩ h hu⟩
      exact ⟨by decide, ⟨fun _ => ha, fun _ => rfl⟩, fun _ => rfl, fun h => absurd e h, fun _ h => absurd ha h⟩
    | some w =>
      obtain ⟨h1, _, h3, _⟩ := apart_some hv hw e (f := (0, 0)) ⟨(zero_ok hv).1, (zero_ok hw).1⟩ h
      exact ⟨by simp, ⟨fun h => by simp at h, fun ha => absurd (ha.2 w h1) h3⟩, fun h => by simp at h, fun h => absurd e h, fun _ _ => ⟨rfl, h1, h3⟩⟩
  · rw [if_neg e]
    exact ⟨by decide, ⟨fun h => by simp at h, fun ha => absurd ha.1 e⟩, fun h => by simp at h, fun _ => rfl, fun h => absurd h e⟩

theorem Alike_eq : spec_Alike s t = some (decide ((unlikeOf s t).2 = 5), 0) := by
  unfold spec_Alike
  rw [Unlike_eq hv hw, Option.bind_some, if_neg (by simpa using (unlike_code hv hw).1)]

end
end Go.Proofs.Ytcgflignbhmoaaa
