/-
  Layer 7, pure: everybody, longest, bound (ProgressNumbers); classes of claims (ProgressClasses); names (ProgressNames); fewer moves (ProgressLess).
-/
import Derived.Test.YteclokkdgmacpaaU11
import Derived.Test.YteclokkdgmacpaaU7
namespace Go.Proofs.Yteclokkdgmacpaa
open Go.RowKit

set_option linter.unusedVariables false
set_option linter.unusedSimpArgs false
set_option linter.unusedSectionVars false
set_option maxRecDepth 10000

/-- A claim holds. -/
noncomputable def holB (g : Gr) (c t : Int) : Bool := (rkR (rkA (clm c t) g)).2
theorem holR_ok {g : Gr} {c t : Int} (h : ask g c t = 0) : holR g c t = (holB g c t, 0) := if_pos h
theorem holB_iff {g : Gr} {c t : Int} (h : ask g c t = 0) : holB g c t = true ↔ ¬ Bad (clm c t) g := by
  unfold holB
  rcases least_or h with hb | ⟨r, hr⟩
  · rw [rkA_none (ask_cases h).1 hb]
    exact ⟨fun hh => (by cases hh), fun hh => absurd hb hh⟩
  · rw [rkA_some hr]
    exact ⟨fun _ => prv_good (ask_cases h).1 hr.prv, fun _ => rfl⟩
theorem ask_of {g : Gr} (hg : GOK g) {c t : Int} (hc : 0 ≤ c ∧ c < 3) (ht : 0 ≤ t ∧ t < 3) (h : c = 0 → t = 0) : ask g c t = 0 := ask_zero.2 ⟨hg, hc, ht, h⟩

noncomputable def evB (g : Gr) : Bool := holB g 1 0 && holB g 1 1 && holB g 1 2
noncomputable def evR (g : Gr) : Bool × Int := if okG g = true then (evB g, 0) else (false, 70)

def maxL (r : List Int) : Int := r.foldl max 0
noncomputable def grR (g : Gr) (c t : Int) : Int × Int := if (rksR g c t).2 = 0 then (maxL (rksR g c t).1, 0) else (0, (rksR g c t).2)

/-! ### Circles of one graph in another -/

section
variable {g g' : Gr} (hg : GOK g) (hg' : GOK g') (e1 : g'.1 = g.1)
include hg hg' e1

theorem rch_sub {are are' : Mv → Bool} (h : ∀ m ∈ g'.2, are' m = true → ∃ m2 ∈ g.2, m2.1 = m.1 ∧ m2.2.2.1 = m.2.2.1 ∧ are m2 = true) {p q : Int} (hp : 0 ≤ p ∧ p < g.1) (hr : rch are' g' p q) : rch are g p q :=
  rch_ind hg' (by rw [e1]; exact hp) (S := fun x => rch are g p x) (rch_refl hg hp) (fun m hm hs ha => by
    obtain ⟨m2, h1, h2, h3, h4⟩ := h m hm ha
    rw [← h3]
    exact rch_step hg hp h1 (by rw [h2]; exact hs) h4) hr

theorem Bad_sub {C C' : Clm} (h : ∀ m ∈ g'.2, ∃ m2 ∈ g.2, m2.1 = m.1 ∧ m2.2.2.1 = m.2.2.1 ∧ (C'.goes m = true → C.goes m2 = true) ∧ (C'.cnt m = true → C.cnt m2 = true)) (hb : Bad C' g') : Bad C g := by
  obtain ⟨m, hm, h1, h2, h3⟩ := hb
  obtain ⟨m2, k1, k2, k3, k4, k5⟩ := h m hm
  refine ⟨m2, k1, ?_, k5 h2, ?_⟩
  · rw [k2]
    exact rch_sub hg hg' e1 (fun m hm _ => by
      obtain ⟨m2, a1, a2, a3, _⟩ := h m hm
      exact ⟨m2, a1, a2, a3, rfl⟩) (zero_in hg) h1
  · rw [k2, k3]
    exact rch_sub hg hg' e1 (fun m hm ha => by
      obtain ⟨m2, a1, a2, a3, a4, _⟩ := h m hm
      exact ⟨m2, a1, a2, a3, a4 ha⟩) (by have := mv_to hg' hm; rw [e1] at this; exact this) h3
end

section
variable {g : Gr} (hg : GOK g)
include hg
end

/-! ### Names -/

theorem swT_swT (a b t : Int) : swT a b (swT a b t) = t := by
  unfold swT
  by_cases h1 : t = a
  · subst h1
    rw [if_pos rfl]
    by_cases h2 : b = t
    · rw [if_pos h2, h2]
    · rw [if_neg h2, if_pos rfl]
  · rw [if_neg h1]
    by_cases h2 : t = b
    · rw [if_pos h2, if_pos rfl, h2]
    · rw [if_neg h2, if_neg h1, if_neg h2]
theorem swM_swM (a b : Int) (m : Mv) : swM a b (swM a b m) = m := by
  unfold swM
  simp only [swT_swT]
theorem renG_renG (g : Gr) (a b : Int) : renG (renG g a b) a b = g := by
  unfold renG
  simp only [List.map_map]
  have : (g.2.map (swM a b ∘ swM a b)) = g.2 := by
    conv => rhs; rw [← List.map_id g.2]
    exact List.map_congr_left fun m _ => swM_swM a b m
  rw [this]

theorem GOK_ren {g : Gr} (hg : GOK g) {a b : Int} (ha : 0 ≤ a ∧ a < 3) (hb : 0 ≤ b ∧ b < 3) : GOK (renG g a b) where
  lo := hg.lo
  hi := hg.hi
  len := by unfold renG; simpa using hg.len
  mv := fun m hm => by
    obtain ⟨m', h1, rfl⟩ := List.mem_map.1 hm
    have := hg.mv m' h1
    exact ⟨this.1, this.2.1, swT_in ha hb this.2.2⟩
  nd := by
    have hn := hg.nd
    unfold renG
    simp only
    unfold List.Nodup at *
    rw [List.pairwise_map]
    exact hn.imp fun {x y} h e => h (by rw [← swM_swM a b x, e, swM_swM])

theorem Bad_ren {g : Gr} (hg : GOK g) {a b : Int} (ha : 0 ≤ a ∧ a < 3) (hb : 0 ≤ b ∧ b < 3) (c t t' : Int) (h : c ≠ 0 → t' = swT a b t) (hB : Bad (clm c t) (renG g a b)) : Bad (clm c t') g := by
  refine Bad_sub hg (GOK_ren hg ha hb) rfl (fun m hm => ?_) hB
  obtain ⟨m', h1, rfl⟩ := List.mem_map.1 hm
  refine ⟨m', h1, rfl, rfl, ?_, ?_⟩
  · unfold clm
    by_cases c0 : c = 0
    · rw [if_pos c0, if_pos c0]; exact fun h => h
    · rw [if_neg c0, if_neg c0]
      have ht := h c0
      have he : swT a b m'.2.1 = t ↔ m'.2.1 = t' := by
        rw [ht]
        exact ⟨fun e => by rw [← e, swT_swT], fun e => by rw [e, swT_swT]⟩
      by_cases c1 : c = 1
      · rw [if_pos c1, if_pos c1]
        show notOwn t (swM a b m') = true → notOwn t' m' = true
        unfold notOwn
        have : decide ((swM a b m').2.1 = t) = decide (m'.2.1 = t') := decide_eq_decide.2 he
        rw [this]; exact fun h => h
      · rw [if_neg c1, if_neg c1]
        show own t (swM a b m') = true → own t' m' = true
        unfold own
        have : decide ((swM a b m').2.1 = t) = decide (m'.2.1 = t') := decide_eq_decide.2 he
        rw [this]; exact fun h => h
  · unfold clm
    by_cases c0 : c = 0
    · rw [if_pos c0, if_pos c0]; exact fun h => h
    · rw [if_neg c0, if_neg c0]
      have ht := h c0
      have he : swT a b m'.2.1 = t ↔ m'.2.1 = t' := by
        rw [ht]
        exact ⟨fun e => by rw [← e, swT_swT], fun e => by rw [e, swT_swT]⟩
      have : decide ((swM a b m').2.1 = t) = decide (m'.2.1 = t') := decide_eq_decide.2 he
      by_cases c1 : c = 1
      · rw [if_pos c1, if_pos c1]
        show own t (swM a b m') = true → own t' m' = true
        unfold own
        rw [this]; exact fun h => h
      · rw [if_neg c1, if_neg c1]
        show own t (swM a b m') = true → own t' m' = true
        unfold own
        rw [this]; exact fun h => h

theorem asked7_eq {c t : Int} (hc : 0 ≤ c ∧ c ≤ 255) (ht : 0 ≤ t ∧ t ≤ 255) : lineallaw07_asked c t = some (if c % 3 = 0 then (0, 0) else (c % 3, t % 3)) := by
  unfold lineallaw07_asked
  rw [ck_pos (by rw [inK_i64]; omega), ck_pos (by omega)]
  by_cases h : c % 3 = 0
  · rw [if_pos (decide_eq_true h), if_pos h]
  · rw [if_neg (by rw [decide_eq_true_eq]; exact h), if_neg h, ck_pos (by rw [inK_i64]; omega), ck_pos (by omega)]

theorem ProgressNames_eq (g : Gr) (hk : okEl (.pair (.int .i64) (.sl (.pair (.int .i64) (.pair (.int .i64) (.pair (.int .i64) .bool))))) g) (c : Int) (hc : okEl (.int .u8) c) (t : Int) (ht : okEl (.int .u8) t) (a : Int) (ha : okEl (.int .u8) a) (b : Int) (hb : okEl (.int .u8) b) : lineallaw07_ProgressNames g c t a b = some true := by
  have hz := okZ_of hk
  have u8 : ∀ x : Int, okEl (.int .u8) x → 0 ≤ x ∧ x ≤ 255 := fun x h => by have : InK .u8 x := h; rw [inK_u8] at this; exact this
  have hc := u8 c hc
  have ht := u8 t ht
  have ha := u8 a ha
  have hb := u8 b hb
  unfold lineallaw07_ProgressNames
  have e1 : lineallaw07_Long g = some () := rfl
  rw [e1, Option.bind_some]
  by_cases h1 : 100 < (g.2.length : Int)
  · rw [if_pos (by simpa using h1), Awake7]; rfl
  rw [if_neg (by simpa using h1), rValid_eq g hz, Option.bind_some]
  by_cases ho : okG g = true
  · have hg := okG_iff.1 ho
    have ha3 : 0 ≤ a % 3 ∧ a % 3 < 3 := by omega
    have hb3 : 0 ≤ b % 3 ∧ b % 3 < 3 := by omega
    have hg2 := GOK_ren hg ha3 hb3
    have hz2 : okZ (renG g (a % 3) (b % 3)) := okZ_ok hg2
    have r1 : renR g (a % 3) (b % 3) = ((renG g (a % 3) (b % 3)).1, (renG g (a % 3) (b % 3)).2, 0) := by
      unfold renR
      rw [if_pos ho, if_pos (isB_iff.2 ha3), if_pos (isB_iff.2 hb3)]; rfl
    have r2 : renR (renG g (a % 3) (b % 3)) (a % 3) (b % 3) = (g.1, g.2, 0) := by
      have e := renG_renG g (a % 3) (b % 3)
      unfold renR
      rw [if_pos (okG_iff.2 hg2), if_pos (isB_iff.2 ha3), if_pos (isB_iff.2 hb3)]
      have e2 : (renG g (a % 3) (b % 3)).2.map (swM (a % 3) (b % 3)) = g.2 := congrArg Prod.snd e
      rw [e2]; rfl
    have hk1 : ∀ (c' t' : Int) (t'' : Int), ask g c' t' = 0 → (c' = 0 → t'' = 0) → (c' ≠ 0 → t'' = swT (a % 3) (b % 3) t') → lineallaw07_ProgressNames_k1 g (c', t') ((renG g (a % 3) (b % 3)).1, (renG g (a % 3) (b % 3)).2, 0) t'' = some true := by
      intro c' t' t'' h k0 k1
      obtain ⟨_, hc', ht', h0⟩ := ask_zero.1 h
      have ht'' : 0 ≤ t'' ∧ t'' < 3 := by
        by_cases e : c' = 0
        · rw [k0 e]; decide
        · rw [k1 e]; exact swT_in ha3 hb3 ht'
      have h2 : ask (renG g (a % 3) (b % 3)) c' t'' = 0 := ask_of hg2 hc' ht'' k0
      have e : holB g c' t' = holB (renG g (a % 3) (b % 3)) c' t'' := by
        rw [Bool.eq_iff_iff, holB_iff h, holB_iff h2]
        refine not_congr ⟨fun hB => ?_, fun hB => ?_⟩
        · refine Bad_ren hg2 ha3 hb3 c' t' t'' k1 ?_
          rw [renG_renG]; exact hB
        · exact Bad_ren hg ha3 hb3 c' t'' t' (fun e => by rw [k1 e, swT_swT]) hB
      unfold lineallaw07_ProgressNames_k1
      rw [Holds_eq g hz, Option.bind_some]
      show (progress_Holds (renG g (a % 3) (b % 3)) c' t'').bind _ = _
      rw [Holds_eq _ hz2, Option.bind_some, holR_ok h, holR_ok h2, if_pos (by simp), if_pos (by simp), if_pos (by simp [e]), Awake7]
      rfl
    rw [if_neg (by simp [ho]), asked7_eq hc ht, Option.bind_some, ck_pos (by rw [inK_i64]; omega), ck_pos (by omega), ck_pos (by rw [inK_i64]; omega), ck_pos (by omega), Renamed_eq g hz, r1, Option.bind_some]
    show (progress_Renamed (renG g (a % 3) (b % 3)) (a % 3) (b % 3)).bind _ = _
    rw [Renamed_eq _ hz2, r2, Option.bind_some, if_neg (by simp), if_neg (by simp)]
    show (linealref07_Same g g).bind _ = _
    rw [Same_eq g g hz hz, Option.bind_some, if_neg (by simp)]
    by_cases h0 : c % 3 = 0
    · rw [if_pos h0, if_neg (by simp)]
      exact hk1 0 0 0 (ask_of hg (by decide) (by decide) (fun _ => rfl)) (fun _ => rfl) (fun h => absurd rfl h)
    · rw [if_neg h0, if_pos (by rw [decide_eq_true_eq]; simp only; omega), Swapped_eq, Option.bind_some]
      exact hk1 (c % 3) (t % 3) _ (ask_of hg (by omega) (by omega) (fun h => absurd h h0)) (fun h => absurd h h0) (fun _ => rfl)
  · rw [if_pos (by simp [ho]), Awake7]; rfl

/-! ### Fewer moves -/

end Go.Proofs.Yteclokkdgmacpaa
