/-
  Layer 7, pure: everybody, longest, bound (ProgressNumbers); classes of claims (ProgressClasses); names (ProgressNames); fewer moves (ProgressLess).
-/
import Derived.Test.YteclokkdgmacpaaU11
import Derived.Test.YteclokkdgmacpaaU7
namespace Go.Proofs.Yteclokkdgmacpaa
open Go.RowKit

set_option linter.unusedVariables false
set_option linter.unusedSimpArgs false
set_option linter.unusedSectionVars false
set_option maxRecDepth 10000

theorem three {R : Type} {body : Int → Option (Step Int R)} {p : Int → Bool} {bad fin : R} (h : ∀ k, 0 ≤ k → k < 3 → body k = some (if p k = true then .next (k + 1) else .done bad)) (he : body 3 = some (.done fin)) :
    whileO body 0 = some (if (p 0 && p 1 && p 2) = true then fin else bad) := by
  have h0 := h 0 (by decide) (by decide)
  have h1 := h 1 (by decide) (by decide)
  have h2 := h 2 (by decide) (by decide)
  cases p0 : p 0 with
  | false => rw [p0] at h0; exact whileO_end h0
  | true =>
    rw [p0] at h0
    refine whileO_on h0 ?_
    cases p1 : p 1 with
    | false => rw [p1] at h1; exact whileO_end h1
    | true =>
      rw [p1] at h1
      refine whileO_on h1 ?_
      cases p2 : p 2 with
      | false => rw [p2] at h2; exact whileO_end h2
      | true =>
        rw [p2] at h2
        refine whileO_on h2 ?_
        exact whileO_end he

/-- A claim holds. -/
noncomputable def holB (g : Gr) (c t : Int) : Bool := (rkR (rkA (clm c t) g)).2
theorem holR_ok {g : Gr} {c t : Int} (h : ask g c t = 0) : holR g c t = (holB g c t, 0) := if_pos h
theorem holB_iff {g : Gr} {c t : Int} (h : ask g c t = 0) : holB g c t = true ↔ ¬ Bad (clm c t) g := by
  unfold holB
  rcases least_or h with hb | ⟨r, hr⟩
  · rw [rkA_none (ask_cases h).1 hb]
    exact ⟨fun hh => (by cases hh), fun hh => absurd hb hh⟩
  · rw [rkA_some hr]
    exact ⟨fun _ => prv_good (ask_cases h).1 hr.prv, fun _ => rfl⟩
theorem ask_of {g : Gr} (hg : GOK g) {c t : Int} (hc : 0 ≤ c ∧ c < 3) (ht : 0 ≤ t ∧ t < 3) (h : c = 0 → t = 0) : ask g c t = 0 := ask_zero.2 ⟨hg, hc, ht, h⟩

noncomputable def evB (g : Gr) : Bool := holB g 1 0 && holB g 1 1 && holB g 1 2
noncomputable def evR (g : Gr) : Bool × Int := if okG g = true then (evB g, 0) else (false, 70)

theorem Everybody_eq (g : Gr) (hz : okZ g) : progress_Everybody g = some (evR g) := by
  unfold progress_Everybody evR
  by_cases ho : okG g = true
  · have hg := okG_iff.1 ho
    have key := three (body := progress_Everybody_b1 g) (p := fun t => holB g 1 t) (bad := .inl 0) (fin := .inr ()) (fun k k1 k2 => by
      unfold progress_Everybody_b1
      rw [if_pos (decide_eq_true k2), Holds_eq g hz, Option.bind_some, holR_ok (ask_of hg (by decide) ⟨k1, k2⟩ (fun h => absurd h (by decide))), if_neg (by simp), ck_pos (by rw [inK_i64]; omega)]
      cases holB g 1 k <;> rfl) (by
      unfold progress_Everybody_b1
      rw [if_neg (by decide)])
    rw [key, Option.bind_some, if_pos ho]
    unfold evB
    cases holB g 1 0 && holB g 1 1 && holB g 1 2 <;> rfl
  · have ha : ask g 1 0 = 70 := ask_bad ho
    have e : progress_Everybody_b1 g 0 = some (.done (.inl 70)) := by
      unfold progress_Everybody_b1
      rw [if_pos (by decide), Holds_eq g hz, Option.bind_some]
      unfold holR
      rw [ha, if_neg (show ¬ (70 : Int) = 0 by decide), if_pos (by simp)]
    rw [whileO_end e, if_neg ho]
    rfl

def maxL (r : List Int) : Int := r.foldl max 0
noncomputable def grR (g : Gr) (c t : Int) : Int × Int := if (rksR g c t).2 = 0 then (maxL (rksR g c t).1, 0) else (0, (rksR g c t).2)

/-! ### Circles of one graph in another -/

section
variable {g g' : Gr} (hg : GOK g) (hg' : GOK g') (e1 : g'.1 = g.1)
include hg hg' e1

theorem rch_sub {are are' : Mv → Bool} (h : ∀ m ∈ g'.2, are' m = true → ∃ m2 ∈ g.2, m2.1 = m.1 ∧ m2.2.2.1 = m.2.2.1 ∧ are m2 = true) {p q : Int} (hp : 0 ≤ p ∧ p < g.1) (hr : rch are' g' p q) : rch are g p q :=
  rch_ind hg' (by rw [e1]; exact hp) (S := fun x => rch are g p x) (rch_refl hg hp) (fun m hm hs ha => by
    obtain ⟨m2, h1, h2, h3, h4⟩ := h m hm ha
    rw [← h3]
    exact rch_step hg hp h1 (by rw [h2]; exact hs) h4) hr

theorem Bad_sub {C C' : Clm} (h : ∀ m ∈ g'.2, ∃ m2 ∈ g.2, m2.1 = m.1 ∧ m2.2.2.1 = m.2.2.1 ∧ (C'.goes m = true → C.goes m2 = true) ∧ (C'.cnt m = true → C.cnt m2 = true)) (hb : Bad C' g') : Bad C g := by
  obtain ⟨m, hm, h1, h2, h3⟩ := hb
  obtain ⟨m2, k1, k2, k3, k4, k5⟩ := h m hm
  refine ⟨m2, k1, ?_, k5 h2, ?_⟩
  · rw [k2]
    exact rch_sub hg hg' e1 (fun m hm _ => by
      obtain ⟨m2, a1, a2, a3, _⟩ := h m hm
      exact ⟨m2, a1, a2, a3, rfl⟩) (zero_in hg) h1
  · rw [k2, k3]
    exact rch_sub hg hg' e1 (fun m hm ha => by
      obtain ⟨m2, a1, a2, a3, a4, _⟩ := h m hm
      exact ⟨m2, a1, a2, a3, a4 ha⟩) (by have := mv_to hg' hm; rw [e1] at this; exact this) h3
end

theorem own_k0 {t : Int} {m : Mv} (h : own t m = true) : k0 m = true := by unfold own at h; unfold k0; rw [Bool.and_eq_true] at h; exact h.2
theorem own_notOwn {t : Int} {m : Mv} (h : own t m = true) : notOwn t m = true := (clm 1 t).sub m h
theorem k0_notOwn {t : Int} {m : Mv} (h : k0 m = true) : notOwn t m = true := by unfold k0 at h; unfold notOwn; rw [h]; simp

section
variable {g : Gr} (hg : GOK g)
include hg
theorem Bad20 {t : Int} (h : Bad (clm 2 t) g) : Bad (clm 0 0) g := Bad_sub (C := clm 0 0) (C' := clm 2 t) hg hg rfl (fun m hm => ⟨m, hm, rfl, rfl, fun h => own_k0 (t := t) h, fun h => own_k0 (t := t) h⟩) h
theorem Bad21 {t : Int} (h : Bad (clm 2 t) g) : Bad (clm 1 t) g := Bad_sub (C := clm 1 t) (C' := clm 2 t) hg hg rfl (fun m hm => ⟨m, hm, rfl, rfl, fun h => own_notOwn (t := t) h, fun h => h⟩) h
theorem Bad01 (h : Bad (clm 0 0) g) : ∃ t : Int, (0 ≤ t ∧ t < 3) ∧ Bad (clm 1 t) g := by
  obtain ⟨m, hm, h1, h2, h3⟩ := h
  have h2' : k0 m = true := h2
  refine ⟨m.2.1, (hg.mv m hm).2.2, m, hm, h1, ?_, rch_mono hg (mv_to hg hm) (fun m' _ h => k0_notOwn (t := m.2.1) h) h3⟩
  show own m.2.1 m = true
  unfold own
  rw [decide_eq_true rfl]
  exact h2'
end

theorem ProgressClasses_eq (g : Gr) (hk : okEl (.pair (.int .i64) (.sl (.pair (.int .i64) (.pair (.int .i64) (.pair (.int .i64) .bool))))) g) : lineallaw07_ProgressClasses g = some true := by
  have hz := okZ_of hk
  unfold lineallaw07_ProgressClasses
  have e1 : lineallaw07_Long g = some () := rfl
  rw [e1, Option.bind_some]
  by_cases h1 : 100 < (g.2.length : Int)
  · rw [if_pos (by simpa using h1), Awake8]; rfl
  rw [if_neg (by simpa using h1), rValid_eq g hz, Option.bind_some]
  by_cases ho : okG g = true
  · have hg := okG_iff.1 ho
    have a0 : ask g 0 0 = 0 := ask_of hg (by decide) (by decide) (fun _ => rfl)
    have a1 : ∀ t, 0 ≤ t → t < 3 → ask g 1 t = 0 := fun t t1 t2 => ask_of hg (by decide) ⟨t1, t2⟩ (fun h => absurd h (by decide))
    have a2 : ∀ t, 0 ≤ t → t < 3 → ask g 2 t = 0 := fun t t1 t2 => ask_of hg (by decide) ⟨t1, t2⟩ (fun h => absurd h (by decide))
    have c21 : ∀ t, 0 ≤ t → t < 3 → holB g 1 t = true → holB g 2 t = true := fun t t1 t2 h => (holB_iff (a2 t t1 t2)).2 fun hb => (holB_iff (a1 t t1 t2)).1 h (Bad21 hg hb)
    have c20 : ∀ t, 0 ≤ t → t < 3 → holB g 0 0 = true → holB g 2 t = true := fun t t1 t2 h => (holB_iff (a2 t t1 t2)).2 fun hb => (holB_iff a0).1 h (Bad20 hg hb)
    have c01 : evB g = true → holB g 0 0 = true := fun h => (holB_iff a0).2 fun hb => by
      obtain ⟨t, ⟨t1, t2⟩, hb1⟩ := Bad01 hg hb
      unfold evB at h
      rw [Bool.and_eq_true, Bool.and_eq_true] at h
      have : t = 0 ∨ t = 1 ∨ t = 2 := by omega
      rcases this with rfl | rfl | rfl
      · exact (holB_iff (a1 0 (by decide) (by decide))).1 h.1.1 hb1
      · exact (holB_iff (a1 1 (by decide) (by decide))).1 h.1.2 hb1
      · exact (holB_iff (a1 2 (by decide) (by decide))).1 h.2 hb1
    have step : ∀ (t : Int) (e : Bool), 0 ≤ t → t < 3 → lineallaw07_ProgressClasses_b1 g (holB g 0 0, e, t) = some (.next (holB g 0 0, (e && holB g 1 t), t + 1)) := fun t e t1 t2 => by
      have d1 := c21 t t1 t2
      have d2 := c20 t t1 t2
      unfold lineallaw07_ProgressClasses_b1
      simp only
      rw [if_pos (decide_eq_true t2), Holds_eq g hz, Option.bind_some, Holds_eq g hz, Option.bind_some, holR_ok (a1 t t1 t2), holR_ok (a2 t t1 t2), if_neg (by simp), if_neg (by simp), ck_pos (by rw [inK_i64]; omega), ck_pos (by rw [inK_i64]; omega), ck_pos (by rw [inK_i64]; omega), ck_pos (by rw [inK_i64]; omega)]
      generalize holB g 1 t = x at *
      generalize holB g 2 t = y at *
      generalize holB g 0 0 = z at *
      cases x <;> cases y <;> cases z <;> cases e <;> simp at d1 d2 <;> rfl
    have loop : whileO (lineallaw07_ProgressClasses_b1 g) (holB g 0 0, true, 0) = some (.inr (evB g)) := by
      refine whileO_on (step 0 true (by decide) (by decide)) (whileO_on (step 1 _ (by decide) (by decide)) (whileO_on (step 2 _ (by decide) (by decide)) (whileO_end ?_)))
      unfold lineallaw07_ProgressClasses_b1 evB
      simp only
      rw [if_neg (by simp)]
      simp
    have e0 : evR g = (evB g, 0) := if_pos ho
    have k1 : ∀ b, b = evB g → lineallaw07_ProgressClasses_k1 g (holR g 0 0) b = some true := fun b hb => by
      unfold lineallaw07_ProgressClasses_k1
      rw [holR_ok a0]
      simp only
      rw [loop, Option.bind_some]
      simp only
      unfold lineallaw07_ProgressClasses_k2
      rw [hb, if_pos (by simp), Awake8]
      rfl
    rw [if_neg (by simp [ho]), Everybody_eq g hz, Option.bind_some, Holds_eq g hz, Option.bind_some, e0, if_neg (by simp), if_neg (by rw [holR_ok a0]; simp)]
    by_cases hev : evB g = true
    · rw [if_pos hev, if_neg (by rw [holR_ok a0]; simp [c01 hev]), k1 true hev.symm]
    · rw [if_neg hev, k1 false (by simpa using hev)]
  · rw [if_pos (by simp [ho]), Awake8]; rfl

/-! ### Names -/

/-! ### Fewer moves -/

end Go.Proofs.Yteclokkdgmacpaa
