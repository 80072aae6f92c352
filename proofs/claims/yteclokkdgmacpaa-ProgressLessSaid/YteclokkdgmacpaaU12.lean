/-
  Layer 7, pure: everybody, longest, bound (ProgressNumbers); classes of claims (ProgressClasses); names (ProgressNames); fewer moves (ProgressLess).
-/
import Derived.Test.YteclokkdgmacpaaU11
import Derived.Test.YteclokkdgmacpaaU7
namespace Go.Proofs.Yteclokkdgmacpaa
open Go.RowKit

set_option linter.unusedVariables false
set_option linter.unusedSimpArgs false
set_option linter.unusedSectionVars false
set_option maxRecDepth 10000

/-- A claim holds. -/
noncomputable def holB (g : Gr) (c t : Int) : Bool := (rkR (rkA (clm c t) g)).2
theorem holR_ok {g : Gr} {c t : Int} (h : ask g c t = 0) : holR g c t = (holB g c t, 0) := if_pos h
theorem holB_iff {g : Gr} {c t : Int} (h : ask g c t = 0) : holB g c t = true ↔ ¬ Bad (clm c t) g := by
  unfold holB
  rcases least_or h with hb | ⟨r, hr⟩
  · rw [rkA_none (ask_cases h).1 hb]
    exact ⟨fun hh => (by cases hh), fun hh => absurd hb hh⟩
  · rw [rkA_some hr]
    exact ⟨fun _ => prv_good (ask_cases h).1 hr.prv, fun _ => rfl⟩
theorem ask_of {g : Gr} (hg : GOK g) {c t : Int} (hc : 0 ≤ c ∧ c < 3) (ht : 0 ≤ t ∧ t < 3) (h : c = 0 → t = 0) : ask g c t = 0 := ask_zero.2 ⟨hg, hc, ht, h⟩

noncomputable def evB (g : Gr) : Bool := holB g 1 0 && holB g 1 1 && holB g 1 2
noncomputable def evR (g : Gr) : Bool × Int := if okG g = true then (evB g, 0) else (false, 70)

def maxL (r : List Int) : Int := r.foldl max 0
noncomputable def grR (g : Gr) (c t : Int) : Int × Int := if (rksR g c t).2 = 0 then (maxL (rksR g c t).1, 0) else (0, (rksR g c t).2)

/-! ### Circles of one graph in another -/

section
variable {g g' : Gr} (hg : GOK g) (hg' : GOK g') (e1 : g'.1 = g.1)
include hg hg' e1

theorem rch_sub {are are' : Mv → Bool} (h : ∀ m ∈ g'.2, are' m = true → ∃ m2 ∈ g.2, m2.1 = m.1 ∧ m2.2.2.1 = m.2.2.1 ∧ are m2 = true) {p q : Int} (hp : 0 ≤ p ∧ p < g.1) (hr : rch are' g' p q) : rch are g p q :=
  rch_ind hg' (by rw [e1]; exact hp) (S := fun x => rch are g p x) (rch_refl hg hp) (fun m hm hs ha => by
    obtain ⟨m2, h1, h2, h3, h4⟩ := h m hm ha
    rw [← h3]
    exact rch_step hg hp h1 (by rw [h2]; exact hs) h4) hr

theorem Bad_sub {C C' : Clm} (h : ∀ m ∈ g'.2, ∃ m2 ∈ g.2, m2.1 = m.1 ∧ m2.2.2.1 = m.2.2.1 ∧ (C'.goes m = true → C.goes m2 = true) ∧ (C'.cnt m = true → C.cnt m2 = true)) (hb : Bad C' g') : Bad C g := by
  obtain ⟨m, hm, h1, h2, h3⟩ := hb
  obtain ⟨m2, k1, k2, k3, k4, k5⟩ := h m hm
  refine ⟨m2, k1, ?_, k5 h2, ?_⟩
  · rw [k2]
    exact rch_sub hg hg' e1 (fun m hm _ => by
      obtain ⟨m2, a1, a2, a3, _⟩ := h m hm
      exact ⟨m2, a1, a2, a3, rfl⟩) (zero_in hg) h1
  · rw [k2, k3]
    exact rch_sub hg hg' e1 (fun m hm ha => by
      obtain ⟨m2, a1, a2, a3, a4, _⟩ := h m hm
      exact ⟨m2, a1, a2, a3, a4 ha⟩) (by have := mv_to hg' hm; rw [e1] at this; exact this) h3
end

theorem own_k0 {t : Int} {m : Mv} (h : own t m = true) : k0 m = true := by unfold own at h; unfold k0; rw [Bool.and_eq_true] at h; exact h.2
section
variable {g : Gr} (hg : GOK g)
include hg
theorem Bad20 {t : Int} (h : Bad (clm 2 t) g) : Bad (clm 0 0) g := Bad_sub (C := clm 0 0) (C' := clm 2 t) hg hg rfl (fun m hm => ⟨m, hm, rfl, rfl, fun h => own_k0 (t := t) h, fun h => own_k0 (t := t) h⟩) h
end

/-! ### Names -/

theorem asked7_eq {c t : Int} (hc : 0 ≤ c ∧ c ≤ 255) (ht : 0 ≤ t ∧ t ≤ 255) : lineallaw07_asked c t = some (if c % 3 = 0 then (0, 0) else (c % 3, t % 3)) := by
  unfold lineallaw07_asked
  rw [ck_pos (by rw [inK_i64]; omega), ck_pos (by omega)]
  by_cases h : c % 3 = 0
  · rw [if_pos (decide_eq_true h), if_pos h]
  · rw [if_neg (by rw [decide_eq_true_eq]; exact h), if_neg h, ck_pos (by rw [inK_i64]; omega), ck_pos (by omega)]

/-! ### Fewer moves -/

theorem lessM_nodup {ms : List Mv} (h : ms.Nodup) (k : Nat) : (lessM ms k).Nodup := by
  unfold lessM
  rw [← List.eraseIdx_eq_take_drop_succ]
  exact List.Nodup.sublist (List.eraseIdx_sublist ms k) h
theorem lessM_len {ms : List Mv} {k : Nat} (h : k < ms.length) : (lessM ms k).length = ms.length - 1 := by
  unfold lessM
  rw [List.length_append, List.length_take, List.length_drop]
  omega
theorem GOK_less {g : Gr} (hg : GOK g) {k : Nat} (h : k < g.2.length) : GOK (g.1, lessM g.2 k) where
  lo := hg.lo
  hi := hg.hi
  len := by have := hg.len; have := lessM_len h; simp only; omega
  mv := fun m hm => hg.mv m (lessM_sub hm)
  nd := lessM_nodup hg.nd k
theorem GOK_only {g : Gr} (hg : GOK g) (t : Int) : GOK (g.1, onlyM t g.2) where
  lo := hg.lo
  hi := hg.hi
  len := by have := hg.len; have := List.length_filter_le (fun m : Mv => decide (m.2.1 = t)) g.2; simp only [onlyM]; omega
  mv := fun m hm => hg.mv m (List.mem_filter.1 hm).1
  nd := List.Nodup.sublist List.filter_sublist hg.nd

theorem Bad_only {g : Gr} (hg : GOK g) (t : Int) : Bad (clm 0 0) (g.1, onlyM t g.2) ↔ Bad (clm 2 t) (g.1, onlyM t g.2) := by
  refine ⟨fun h => Bad_sub (GOK_only hg t) (GOK_only hg t) rfl (fun m hm => ?_) h, fun h => Bad20 (GOK_only hg t) h⟩
  have e : own t m = k0 m := by
    have := (List.mem_filter.1 hm).2
    unfold own k0
    rw [this]; rfl
  refine ⟨m, hm, rfl, rfl, fun h => ?_, fun h => ?_⟩
  · show own t m = true
    rw [e]; exact h
  · show own t m = true
    rw [e]; exact h

theorem ProgressLess_eq (g : Gr) (hk : okEl (.pair (.int .i64) (.sl (.pair (.int .i64) (.pair (.int .i64) (.pair (.int .i64) .bool))))) g) (c : Int) (hc : okEl (.int .u8) c) (t : Int) (ht : okEl (.int .u8) t) (m : Int) (hm : okEl (.int .u8) m) : lineallaw07_ProgressLess g c t m = some true := by
  have hz := okZ_of hk
  have u8 : ∀ x : Int, okEl (.int .u8) x → 0 ≤ x ∧ x ≤ 255 := fun x h => by have : InK .u8 x := h; rw [inK_u8] at this; exact this
  have hc := u8 c hc
  have ht := u8 t ht
  have hm := u8 m hm
  unfold lineallaw07_ProgressLess
  have e1 : lineallaw07_Long g = some () := rfl
  rw [e1, Option.bind_some]
  by_cases h1 : 100 < (g.2.length : Int)
  · rw [if_pos (by simpa using h1), Awake8]; rfl
  rw [if_neg (by simpa using h1), rValid_eq g hz, Option.bind_some]
  by_cases ho : okG g = true
  · have hg := okG_iff.1 ho
    have hgl := hg.len
    have ht3 : 0 ≤ t % 3 ∧ t % 3 < 3 := by omega
    rw [if_neg (by simp [ho]), asked7_eq hc ht, Option.bind_some]
    have hq : ∃ c' t', (if c % 3 = 0 then ((0 : Int), (0 : Int)) else (c % 3, t % 3)) = (c', t') ∧ (0 ≤ c' ∧ c' < 3) ∧ (0 ≤ t' ∧ t' < 3) ∧ (c' = 0 → t' = 0) := by
      by_cases h0 : c % 3 = 0
      · exact ⟨0, 0, by rw [if_pos h0], by decide, by decide, fun _ => rfl⟩
      · exact ⟨c % 3, t % 3, by rw [if_neg h0], by omega, by omega, fun h => absurd h h0⟩
    obtain ⟨c', t', hq, q1, q2, q3⟩ := hq
    have ha : ask g c' t' = 0 := ask_of hg q1 q2 q3
    have hgo := GOK_only hg (t % 3)
    have hzo : okZ (g.1, onlyM (t % 3) g.2) := okZ_ok hgo
    have ho0 : onlyR g (t % 3) = (g.1, onlyM (t % 3) g.2, 0) := by
      unfold onlyR
      rw [if_pos ho, if_pos (isB_iff.2 ht3)]
    have o0 : ask (g.1, onlyM (t % 3) g.2) 0 0 = 0 := ask_of hgo (by decide) (by decide) (fun _ => rfl)
    have o2 : ask (g.1, onlyM (t % 3) g.2) 2 (t % 3) = 0 := ask_of hgo (by decide) ht3 (fun h => absurd h (by decide))
    have eo : holB (g.1, onlyM (t % 3) g.2) 0 0 = holB (g.1, onlyM (t % 3) g.2) 2 (t % 3) := by
      rw [Bool.eq_iff_iff, holB_iff o0, holB_iff o2]
      exact not_congr (Bad_only hg (t % 3))
    rw [hq, Holds_eq g hz, Option.bind_some, ck_pos (by rw [inK_i64]; omega), ck_pos (by omega), Only_eq g hz, ho0, Option.bind_some, holR_ok ha, if_neg (by simp), if_neg (by simp)]
    simp only
    rw [Holds_eq _ hzo, Option.bind_some, ck_pos (by rw [inK_i64]; omega), ck_pos (by omega), Holds_eq _ hzo, Option.bind_some, holR_ok o0, holR_ok o2, if_neg (by simp), if_neg (by simp), if_neg (by rw [eo]; simp)]
    by_cases hn : g.2.length = 0
    · have hgood : holB g c' t' = true := (holB_iff ha).2 fun ⟨m, hm, _⟩ => by
        have : g.2 = [] := List.eq_nil_of_length_eq_zero hn
        rw [this] at hm; cases hm
      rw [if_pos (by simp [hn]), if_pos hgood, Awake8]; rfl
    · have hmod : 0 ≤ m % (g.2.length : Int) ∧ m % (g.2.length : Int) < (g.2.length : Int) := ⟨Int.emod_nonneg _ (by omega), Int.emod_lt_of_pos _ (by omega)⟩
      have hkl : (m % (g.2.length : Int)).toNat < g.2.length := by omega
      have hgs := GOK_less hg hkl
      have hzs : okZ (g.1, lessM g.2 (m % (g.2.length : Int)).toNat) := okZ_ok hgs
      have el : lessR g (m % (g.2.length : Int)) = (g.1, lessM g.2 (m % (g.2.length : Int)).toNat, 0) := by
        unfold lessR
        rw [if_pos ho, if_pos (isB_iff.2 hmod)]
      have has : ask (g.1, lessM g.2 (m % (g.2.length : Int)).toNat) c' t' = 0 := ask_of hgs q1 q2 q3
      have hlen := lessM_len hkl
      have himp : holB g c' t' = true → holB (g.1, lessM g.2 (m % (g.2.length : Int)).toNat) c' t' = true := fun h => (holB_iff has).2 fun hB => (holB_iff ha).1 h (Bad_sub hg hgs rfl (fun m hm => ⟨m, lessM_sub hm, rfl, rfl, fun h => h, fun h => h⟩) hB)
      rw [if_neg (by rw [decide_eq_true_eq]; omega), ck_pos (by rw [inK_i64]; omega), ck_pos (by omega), ck_pos (by omega), Without_eq g hz, el, Option.bind_some]
      simp only
      rw [Holds_eq _ hzs, Option.bind_some, holR_ok has, if_pos (by simp), if_pos (by simp), ck_pos (by rw [inK_i64]; omega), if_pos (by rw [decide_eq_true_eq, hlen]; omega)]
      by_cases hh : holB g c' t' = true
      · rw [if_neg (by simp [hh]), if_pos (himp hh), Awake8]; rfl
      · rw [if_pos (by simp [hh]), Awake8]; rfl
  · rw [if_pos (by simp [ho]), Awake8]; rfl

end Go.Proofs.Yteclokkdgmacpaa
