/-
  Layer 7, pure: everybody, longest, bound (ProgressNumbers); classes of claims (ProgressClasses); names (ProgressNames); fewer moves (ProgressLess).
-/
import Derived.Test.YteclokkdgmacpaaU11
import Derived.Test.YteclokkdgmacpaaU7
namespace Go.Proofs.Yteclokkdgmacpaa
open Go.RowKit

set_option linter.unusedVariables false
set_option linter.unusedSimpArgs false
set_option linter.unusedSectionVars false
set_option maxRecDepth 10000

/-- A claim holds. -/
noncomputable def holB (g : Gr) (c t : Int) : Bool := (rkR (rkA (clm c t) g)).2
theorem holB_iff {g : Gr} {c t : Int} (h : ask g c t = 0) : holB g c t = true ↔ ¬ Bad (clm c t) g := by
  unfold holB
  rcases least_or h with hb | ⟨r, hr⟩
  · rw [rkA_none (ask_cases h).1 hb]
    exact ⟨fun hh => (by cases hh), fun hh => absurd hb hh⟩
  · rw [rkA_some hr]
    exact ⟨fun _ => prv_good (ask_cases h).1 hr.prv, fun _ => rfl⟩
theorem ask_of {g : Gr} (hg : GOK g) {c t : Int} (hc : 0 ≤ c ∧ c < 3) (ht : 0 ≤ t ∧ t < 3) (h : c = 0 → t = 0) : ask g c t = 0 := ask_zero.2 ⟨hg, hc, ht, h⟩

noncomputable def evB (g : Gr) : Bool := holB g 1 0 && holB g 1 1 && holB g 1 2
noncomputable def evR (g : Gr) : Bool × Int := if okG g = true then (evB g, 0) else (false, 70)

theorem max_loop (xs : List Int) {body : Int × Int → Option (Step (Int × Int) Int)} (h : ∀ (k : Nat) (x m : Int), xs[k]? = some x → body (m, (k : Int)) = some (.next (max m x, (k : Int) + 1))) (he : ∀ m, body (m, (xs.length : Int)) = some (.done m)) : ∀ (d k : Nat) (m : Int), xs.length - k = d → k ≤ xs.length → whileO body (m, (k : Int)) = some ((xs.drop k).foldl max m) := by
  intro d
  induction d with
  | zero =>
    intro k m h1 h2
    have : k = xs.length := by omega
    subst this
    rw [List.drop_length]
    exact whileO_end (he m)
  | succ d ih =>
    intro k m h1 h2
    have hlt : k < xs.length := by omega
    rw [List.drop_eq_getElem_cons hlt, List.foldl_cons]
    refine whileO_on (h k _ m (List.getElem?_eq_getElem hlt)) ?_
    have e : ((k : Int) + 1) = ((k + 1 : Nat) : Int) := by omega
    rw [e]
    exact ih (k + 1) _ (by omega) (by omega)

def maxL (r : List Int) : Int := r.foldl max 0
noncomputable def grR (g : Gr) (c t : Int) : Int × Int := if (rksR g c t).2 = 0 then (maxL (rksR g c t).1, 0) else (0, (rksR g c t).2)

theorem rksR_some {g : Gr} {c t : Int} (h : ask g c t = 0) {r : List Int} (hr : rkA (clm c t) g = some r) : rksR g c t = (r, 0) := by unfold rksR; rw [if_pos h, hr]
theorem rksR_none {g : Gr} {c t : Int} (h : ask g c t = 0) (hr : rkA (clm c t) g = none) : rksR g c t = ([], 5) := by unfold rksR; rw [if_pos h, hr]
theorem rksR_bad {g : Gr} {c t : Int} (h : ask g c t ≠ 0) : rksR g c t = ([], ask g c t) := if_neg h

theorem Max_eq {x : Int} {r : List Int} (hx : 0 ≤ x) (hl : (x :: r).length ≤ 1000) : slices_Max (x :: r) = some (maxL (x :: r)) := by
  have key := max_loop (x :: r) (body := slices_Max_b1 (x :: r)) (fun k y m hk => by
    have hlt := (List.getElem?_eq_some_iff.1 hk).1
    unfold slices_Max_b1
    simp only [Int.toNat_natCast, getD_of hk]
    rw [if_pos (by rw [decide_eq_true_eq]; omega), ck_pos (by omega), ck_pos (by omega), ck_pos (by rw [inK_i64]; omega)]) (fun m => by
    unfold slices_Max_b1
    simp only
    rw [if_neg (by simp)]) r.length 1 x (by simp) (by simp)
  have e1 : ((1 : Nat) : Int) = 1 := rfl
  rw [e1] at key
  unfold slices_Max
  have e0 : (x :: r).getD 0 0 = x := rfl
  rw [if_neg (by rw [decide_eq_true_eq, List.length_cons]; omega), ck_pos (by rw [List.length_cons]; omega), e0, key, Option.bind_some]
  unfold slices_Max_k1 maxL
  have e : max 0 x = x := by omega
  rw [List.foldl_cons, e]
  rfl

theorem greatest_eq (g : Gr) (hz : okZ g) (c t : Int) : progress_greatest g c t = some (grR g c t) := by
  unfold progress_greatest grR
  rw [Ranks_eq g hz, Option.bind_some]
  by_cases h : ask g c t = 0
  · have hg := (ask_cases h).1
    have hlo := hg.lo
    have hhi := hg.hi
    cases hr : rkA (clm c t) g with
    | none => rw [rksR_none h hr]; rfl
    | some r =>
      have hL := rkA_least hr
      have hl := hL.len
      rw [rksR_some h hr, if_neg (by simp), if_pos rfl]
      cases r with
      | nil => simp at hl; omega
      | cons x r =>
        have hx := hL.rng 0 (by omega) (by omega)
        have hx' : 0 ≤ x := hx.1
        rw [Max_eq hx' (by omega)]
        rfl
  · rw [rksR_bad h, if_pos (by simp [h]), if_neg h]

theorem Longest_eq (g : Gr) (hz : okZ g) : progress_Longest g = some (grR g 0 0) := by
  unfold progress_Longest
  rw [greatest_eq g hz]; rfl
theorem Bound_eq (g : Gr) (hz : okZ g) (t : Int) : progress_Bound g t = some (grR g 1 t) := by
  unfold progress_Bound
  rw [greatest_eq g hz]; rfl
/-! ### Circles of one graph in another -/

section
variable {g g' : Gr} (hg : GOK g) (hg' : GOK g') (e1 : g'.1 = g.1)
include hg hg' e1

end

section
variable {g : Gr} (hg : GOK g)
include hg
end

/-! ### Names -/

/-! ### Fewer moves -/

end Go.Proofs.Yteclokkdgmacpaa
