/-
  Layer 7, pure: everybody, longest, bound (ProgressNumbers); classes of claims (ProgressClasses); names (ProgressNames); fewer moves (ProgressLess).
-/
import Derived.Test.YteclokkdgmacpaaU11
import Derived.Test.YteclokkdgmacpaaU7
namespace Go.Proofs.Yteclokkdgmacpaa
open Go.RowKit

set_option linter.unusedVariables false
set_option linter.unusedSimpArgs false
set_option linter.unusedSectionVars false
set_option maxRecDepth 10000

theorem three {R : Type} {body : Int → Option (Step Int R)} {p : Int → Bool} {bad fin : R} (h : ∀ k, 0 ≤ k → k < 3 → body k = some (if p k = true then .next (k + 1) else .done bad)) (he : body 3 = some (.done fin)) :
    whileO body 0 = some (if (p 0 && p 1 && p 2) = true then fin else bad) := by
  have h0 := h 0 (by decide) (by decide)
  have h1 := h 1 (by decide) (by decide)
  have h2 := h 2 (by decide) (by decide)
  cases p0 : p 0 with
  | false => rw [p0] at h0; exact whileO_end h0
  | true =>
    rw [p0] at h0
    refine whileO_on h0 ?_
    cases p1 : p 1 with
    | false => rw [p1] at h1; exact whileO_end h1
    | true =>
      rw [p1] at h1
      refine whileO_on h1 ?_
      cases p2 : p 2 with
      | false => rw [p2] at h2; exact whileO_end h2
      | true =>
        rw [p2] at h2
        refine whileO_on h2 ?_
        exact whileO_end he

/-- A claim holds. -/
noncomputable def holB (g : Gr) (c t : Int) : Bool := (rkR (rkA (clm c t) g)).2
theorem holR_ok {g : Gr} {c t : Int} (h : ask g c t = 0) : holR g c t = (holB g c t, 0) := if_pos h
theorem ask_of {g : Gr} (hg : GOK g) {c t : Int} (hc : 0 ≤ c ∧ c < 3) (ht : 0 ≤ t ∧ t < 3) (h : c = 0 → t = 0) : ask g c t = 0 := ask_zero.2 ⟨hg, hc, ht, h⟩

noncomputable def evB (g : Gr) : Bool := holB g 1 0 && holB g 1 1 && holB g 1 2
noncomputable def evR (g : Gr) : Bool × Int := if okG g = true then (evB g, 0) else (false, 70)

theorem Everybody_eq (g : Gr) (hz : okZ g) : progress_Everybody g = some (evR g) := by
  unfold progress_Everybody evR
  by_cases ho : okG g = true
  · have hg := okG_iff.1 ho
    have key := three (body := progress_Everybody_b1 g) (p := fun t => holB g 1 t) (bad := .inl 0) (fin := .inr ()) (fun k k1 k2 => by
      unfold progress_Everybody_b1
      rw [if_pos (decide_eq_true k2), Holds_eq g hz, Option.bind_some, holR_ok (ask_of hg (by decide) ⟨k1, k2⟩ (fun h => absurd h (by decide))), if_neg (by simp), ck_pos (by rw [inK_i64]; omega)]
      cases holB g 1 k <;> rfl) (by
      unfold progress_Everybody_b1
      rw [if_neg (by decide)])
    rw [key, Option.bind_some, if_pos ho]
    unfold evB
    cases holB g 1 0 && holB g 1 1 && holB g 1 2 <;> rfl
  · have ha : ask g 1 0 = 70 := ask_bad ho
    have e : progress_Everybody_b1 g 0 = some (.done (.inl 70)) := by
      unfold progress_Everybody_b1
      rw [if_pos (by decide), Holds_eq g hz, Option.bind_some]
      unfold holR
      rw [ha, if_neg (show ¬ (70 : Int) = 0 by decide), if_pos (by simp)]
    rw [whileO_end e, if_neg ho]
    rfl

theorem rEverybody_eq (g : Gr) (hz : okZ g) : linealref07_Everybody g = some (evR g) := by
  unfold linealref07_Everybody evR
  rw [rValid_eq g hz, Option.bind_some]
  by_cases ho : okG g = true
  · have hg := okG_iff.1 ho
    have key := three (body := linealref07_Everybody_b1 g) (p := fun t => holB g 1 t) (bad := .inl ()) (fin := .inr ()) (fun k k1 k2 => by
      unfold linealref07_Everybody_b1
      rw [if_pos (decide_eq_true k2), rranks_eq hg (ask_of hg (by decide) ⟨k1, k2⟩ (fun h => absurd h (by decide))), Option.bind_some, ck_pos (by rw [inK_i64]; omega)]
      show (if (!holB g 1 k) = true then _ else _) = _
      cases holB g 1 k <;> rfl) (by
      unfold linealref07_Everybody_b1
      rw [if_neg (by decide)])
    rw [if_neg (by simp [ho]), key, Option.bind_some, if_pos ho]
    unfold evB
    cases holB g 1 0 && holB g 1 1 && holB g 1 2 <;> rfl
  · rw [if_pos (by simp [ho]), if_neg ho]

theorem max_loop (xs : List Int) {body : Int × Int → Option (Step (Int × Int) Int)} (h : ∀ (k : Nat) (x m : Int), xs[k]? = some x → body (m, (k : Int)) = some (.next (max m x, (k : Int) + 1))) (he : ∀ m, body (m, (xs.length : Int)) = some (.done m)) : ∀ (d k : Nat) (m : Int), xs.length - k = d → k ≤ xs.length → whileO body (m, (k : Int)) = some ((xs.drop k).foldl max m) := by
  intro d
  induction d with
  | zero =>
    intro k m h1 h2
    have : k = xs.length := by omega
    subst this
    rw [List.drop_length]
    exact whileO_end (he m)
  | succ d ih =>
    intro k m h1 h2
    have hlt : k < xs.length := by omega
    rw [List.drop_eq_getElem_cons hlt, List.foldl_cons]
    refine whileO_on (h k _ m (List.getElem?_eq_getElem hlt)) ?_
    have e : ((k : Int) + 1) = ((k + 1 : Nat) : Int) := by omega
    rw [e]
    exact ih (k + 1) _ (by omega) (by omega)

def maxL (r : List Int) : Int := r.foldl max 0
noncomputable def grR (g : Gr) (c t : Int) : Int × Int := if (rksR g c t).2 = 0 then (maxL (rksR g c t).1, 0) else (0, (rksR g c t).2)

theorem rksR_some {g : Gr} {c t : Int} (h : ask g c t = 0) {r : List Int} (hr : rkA (clm c t) g = some r) : rksR g c t = (r, 0) := by unfold rksR; rw [if_pos h, hr]
theorem rksR_none {g : Gr} {c t : Int} (h : ask g c t = 0) (hr : rkA (clm c t) g = none) : rksR g c t = ([], 5) := by unfold rksR; rw [if_pos h, hr]
theorem rksR_bad {g : Gr} {c t : Int} (h : ask g c t ≠ 0) : rksR g c t = ([], ask g c t) := if_neg h

theorem Max_eq {x : Int} {r : List Int} (hx : 0 ≤ x) (hl : (x :: r).length ≤ 1000) : slices_Max (x :: r) = some (maxL (x :: r)) := by
  have key := max_loop (x :: r) (body := slices_Max_b1 (x :: r)) (fun k y m hk => by
    have hlt := (List.getElem?_eq_some_iff.1 hk).1
    unfold slices_Max_b1
    simp only [Int.toNat_natCast, getD_of hk]
    rw [if_pos (by rw [decide_eq_true_eq]; omega), ck_pos (by omega), ck_pos (by omega), ck_pos (by rw [inK_i64]; omega)]) (fun m => by
    unfold slices_Max_b1
    simp only
    rw [if_neg (by simp)]) r.length 1 x (by simp) (by simp)
  have e1 : ((1 : Nat) : Int) = 1 := rfl
  rw [e1] at key
  unfold slices_Max
  have e0 : (x :: r).getD 0 0 = x := rfl
  rw [if_neg (by rw [decide_eq_true_eq, List.length_cons]; omega), ck_pos (by rw [List.length_cons]; omega), e0, key, Option.bind_some]
  unfold slices_Max_k1 maxL
  have e : max 0 x = x := by omega
  rw [List.foldl_cons, e]
  rfl

theorem greatest_eq (g : Gr) (hz : okZ g) (c t : Int) : progress_greatest g c t = some (grR g c t) := by
  unfold progress_greatest grR
  rw [Ranks_eq g hz, Option.bind_some]
  by_cases h : ask g c t = 0
  · have hg := (ask_cases h).1
    have hlo := hg.lo
    have hhi := hg.hi
    cases hr : rkA (clm c t) g with
    | none => rw [rksR_none h hr]; rfl
    | some r =>
      have hL := rkA_least hr
      have hl := hL.len
      rw [rksR_some h hr, if_neg (by simp), if_pos rfl]
      cases r with
      | nil => simp at hl; omega
      | cons x r =>
        have hx := hL.rng 0 (by omega) (by omega)
        have hx' : 0 ≤ x := hx.1
        rw [Max_eq hx' (by omega)]
        rfl
  · rw [rksR_bad h, if_pos (by simp [h]), if_neg h]

theorem rgreatest_eq {g : Gr} {c t : Int} (h : ask g c t = 0) : linealref07_greatest g c t = some (grR g c t) := by
  have hg := (ask_cases h).1
  have hlo := hg.lo
  have hhi := hg.hi
  unfold linealref07_greatest grR
  rw [rranks_eq hg h, Option.bind_some]
  cases hr : rkA (clm c t) g with
  | none => rw [rksR_none h hr]; rfl
  | some r =>
    have hl := (rkA_least hr).len
    have key := max_loop r (body := linealref07_greatest_b1 (r, true)) (fun k y m hk => by
      have hlt := (List.getElem?_eq_some_iff.1 hk).1
      unfold linealref07_greatest_b1
      simp only [Int.toNat_natCast, getD_of hk]
      rw [if_pos (by rw [decide_eq_true_eq]; omega), ck_pos (by omega), ck_pos (by omega), ck_pos (by rw [inK_i64]; omega)]) (fun m => by
      unfold linealref07_greatest_b1
      simp only
      rw [if_neg (by simp)]) r.length 0 0 (by simp) (by simp)
    have e0 : ((0 : Nat) : Int) = 0 := rfl
    rw [e0, List.drop_zero] at key
    rw [rksR_some h hr]
    show (if (!(r, true).2) = true then _ else _) = _
    rw [if_neg (by simp)]
    show (whileO (linealref07_greatest_b1 (r, true)) (0, 0)).bind _ = _
    rw [key]
    rfl

theorem Longest_eq (g : Gr) (hz : okZ g) : progress_Longest g = some (grR g 0 0) := by
  unfold progress_Longest
  rw [greatest_eq g hz]; rfl
theorem Bound_eq (g : Gr) (hz : okZ g) (t : Int) : progress_Bound g t = some (grR g 1 t) := by
  unfold progress_Bound
  rw [greatest_eq g hz]; rfl
theorem rLongest_eq (g : Gr) (hz : okZ g) : linealref07_Longest g = some (grR g 0 0) := by
  unfold linealref07_Longest
  rw [rValid_eq g hz, Option.bind_some]
  by_cases ho : okG g = true
  · rw [if_neg (by simp [ho]), rgreatest_eq (ask_of (okG_iff.1 ho) (by decide) (by decide) (fun _ => rfl))]
    rfl
  · have ha : ask g 0 0 = 70 := ask_bad ho
    rw [if_pos (by simp [ho])]
    unfold grR
    rw [rksR_bad (by rw [ha]; decide), ha, if_neg (by decide)]
theorem rBound_eq (g : Gr) (hz : okZ g) (t : Int) : linealref07_Bound g t = some (grR g 1 t) := by
  unfold linealref07_Bound
  rw [asked_eq g hz, Option.bind_some]
  by_cases h : ask g 1 t = 0
  · rw [if_neg (by simp [h]), rgreatest_eq h]; rfl
  · rw [if_pos (by simp [h])]
    unfold grR
    rw [rksR_bad h, if_neg h]

theorem ProgressNumbers_eq (g : Gr) (hk : okEl (.pair (.int .i64) (.sl (.pair (.int .i64) (.pair (.int .i64) (.pair (.int .i64) .bool))))) g) (t : Int) : lineallaw07_ProgressNumbers g t = some true := by
  have hz := okZ_of hk
  unfold lineallaw07_ProgressNumbers
  have e1 : lineallaw07_Long g = some () := rfl
  rw [e1, Option.bind_some]
  by_cases h1 : 100 < (g.2.length : Int)
  · rw [if_pos (by simpa using h1), Awake7]; rfl
  rw [if_neg (by simpa using h1), Everybody_eq g hz, Option.bind_some, rEverybody_eq g hz, Option.bind_some, if_neg (by simp), if_neg (by simp), Longest_eq g hz, Option.bind_some, rLongest_eq g hz, Option.bind_some, Bound_eq g hz, Option.bind_some, rBound_eq g hz, Option.bind_some, if_pos (by simp), if_pos (by simp), if_pos (by simp), if_pos (by simp), Awake7]
  rfl

/-! ### Circles of one graph in another -/

section
variable {g g' : Gr} (hg : GOK g) (hg' : GOK g') (e1 : g'.1 = g.1)
include hg hg' e1

end

section
variable {g : Gr} (hg : GOK g)
include hg
end

/-! ### Names -/

/-! ### Fewer moves -/

end Go.Proofs.Yteclokkdgmacpaa
