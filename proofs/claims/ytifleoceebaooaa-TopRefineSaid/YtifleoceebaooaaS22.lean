/-
 Layer 5, pure: the whole layer in one law.
-/
import Derived.Test.YtifleoceebaooaaS13
import Derived.Test.YtifleoceebaooaaS20
namespace Go.Proofs.Ytifleoceebaooaa

set_option linter.unusedVariables false
set_option linter.unusedSimpArgs false
set_option linter.unusedSectionVars false
set_option maxRecDepth 100000
set_option maxHeartbeats 1000000

/-! ### Lengths -/

theorem bits_mono : ∀ a < 64, ∀ b < 64, a ||| b = b → (bitsL a).length ≤ (bitsL b).length := by decide +kernel

theorem sub_or {a b : Nat} (h : sub a b) : a ||| b = b := Nat.eq_of_testBit_eq fun i => by
 rw [Nat.testBit_or]
 cases ha : a.testBit i with
 | false => simp
 | true => rw [h i ha]; rfl

theorem relK_mono {P Q : Nat → Nat} (h : ∀ i, sub (P i) (Q i)) (hP : ∀ i, P i < 64) (hQ : ∀ i, Q i < 64) : ∀ k, (relK P k).length ≤ (relK Q k).length
 | 0 => by simp [relK]
 | k + 1 => by
  have := relK_mono h hP hQ k
  have := bits_mono _ (hP k) _ (hQ k) (sub_or (h k))
  rw [relK_succ, relK_succ, List.length_append, List.length_append, List.length_map, List.length_map]
  omega

section
variable {a b c : Sys} (va : validB a = true) (vb : validB b = true) (vc : validB c = true)

/-- Removing a step. -/
theorem top_k6 (va : validB a = true) (vb : validB b = true) {step : Int} (h0 : 0 ≤ step) (h1 : step ≤ 255) {x : Bool} (hx : x = true → refD a b) : linealtop_TopRefine_k6 a b step x = some true := by
 have hlen := (okS_valid va).len
 unfold linealtop_TopRefine_k6
 rw [lineallaw05_Awake_run]
 by_cases he : (a.2.length : Int) = 0
 ·rw [if_pos (by simpa using he)]; rfl
 rw [if_neg (by simpa using he), ck_pos (by rw [inK_i64]; omega), ck_pos h0, ck_pos (by omega)]
 have hm0 := Int.emod_nonneg step he
 have hm1 := Int.emod_lt_of_pos step (show 0 < (a.2.length : Int) by omega)
 obtain ⟨i, hi⟩ := Int.eq_ofNat_of_zero_le hm0
 rw [hi] at hm1 ⊢
 have hil : i < a.2.length := by omega
 have hw := without_valid va i
 obtain ⟨r, e, hr⟩ := Refines_eq (okZ_valid hw) (okZ_valid vb) hw vb
 have hl : refD (a.1, a.2.eraseIdx i) a := less_ref (okS_valid va) rfl fun z hz => (List.eraseIdx_sublist a.2 i).subset hz
 rw [Without_eq va hil, Option.bind_some]
 simp only
 rw [e, Option.bind_some]
 simp only
 rw [if_pos (by simp), if_pos (by simp)]
 cases x with
 | false => rw [if_pos (by simp)]; rfl
 | true =>
  have hrt : r = true := hr.2 (ref_trans (okS_valid va) (okS_valid vb) hl (hx rfl))
  rw [if_neg (by simp), if_pos hrt]; rfl

/-- What is seen of the one above. -/
theorem top_k5 (va : validB a = true) (vb : validB b = true) {step : Int} (h0 : 0 ≤ step) (h1 : step ≤ 255) {x : Bool} (hx : x = true → refD a b) : linealtop_TopRefine_k5 a b step x = some true := by
 unfold linealtop_TopRefine_k5
 rw [Seen_eq vb, Option.bind_some]
 cases hw : seenW b with
 | none =>
  simp only
  rw [if_neg (by decide), if_neg (by decide)]
  exact top_k6 va vb h0 h1 hx
 | some y =>
  obtain ⟨E, S⟩ := y
  have vg := seen_valid vb hw
  have hp := seen_plain vb hw
  have hbeh := seen_beh vb hw
  obtain ⟨r, e, hr⟩ := Refines_eq (okZ_valid va) (okZ_valid vg) va vg
  have e' : refine_Refines a ((E.length : Int), S) = some (r, 0) := e
  have hrs : r = true ↔ ∀ w : List Int, w.all seenB = true → behM a w ≠ 0 → behM b w ≠ 0 := by
   rw [hr]
   constructor
   ·intro h w h2 h3 h4
    exact ref_tr (okS_valid va) (okS_valid vg) h w h3 ((hbeh w h2).1 h4)
   ·intro h
    exact plain_ref (okS_valid va) (okS_valid vg) hp fun w h2 h3 h4 => h w h2 h3 ((hbeh w h2).2 h4)
  have hab : x = true → r = true := fun h => hrs.2 fun w _ h3 => ref_tr (okS_valid va) (okS_valid vb) (hx h) w h3
  simp only [decide_true, if_true]
  rw [e', Option.bind_some]
  rcases Shows_eq va vb with ⟨u, e2, hu⟩ | ⟨e2, hu⟩
  ·have hrf : r = false := by
    cases hq : r with
    | false => rfl
    | true => exact absurd hu.two (hrs.1 hq u hu.seen hu.one)
   have hxf : x = false := by
    cases hq : x with
    | false => rfl
    | true => rw [hab hq] at hrf; cases hrf
   subst hrf; subst hxf
   rw [e2, Option.bind_some]
   simp only
   rw [if_neg (by simp), if_neg (by simp), if_neg (by simp)]
   exact top_k6 va vb h0 h1 hx
  ·have hrt : r = true := hrs.2 hu
   subst hrt
   rw [e2, Option.bind_some]
   simp only
   rw [if_neg (by simp), if_neg (by simp)]
   cases x with
   | true => rw [if_pos rfl, if_neg (by simp)]; exact top_k6 va vb h0 h1 hx
   | false => rw [if_neg (by simp)]; exact top_k6 va vb h0 h1 hx

/-- What is hidden on both sides. -/
theorem top_k4 (va : validB a = true) (vb : validB b = true) {label : Int} {step : Int} (l0 : 0 ≤ label) (h0 : 0 ≤ step) (h1 : step ≤ 255) {x : Bool} (hx : x = true → refD a b) : linealtop_TopRefine_k4 a b label step x = some true := by
 obtain ⟨k, hk⟩ : ∃ k, 1 + label % 3 = k := ⟨_, rfl⟩
 have k1 : 0 < k := by omega
 have k3 : k ≤ 3 := by omega
 have hav := hid_valid (k := k) va
 have hbv := hid_valid (k := k) vb
 obtain ⟨r, e, hr⟩ := Refines_eq (okZ_valid hav) (okZ_valid hbv) hav hbv
 have e' : refine_Refines (a.1, hideL k a.2) (b.1, hideL k b.2) = some (r, 0) := e
 unfold linealtop_TopRefine_k4
 rw [hk, Hidden_eq va k1 k3, Option.bind_some, Hidden_eq vb k1 k3, Option.bind_some]
 simp only
 rw [e', Option.bind_some]
 simp only
 rw [if_neg (by simp), if_neg (by simp), if_neg (by simp)]
 cases x with
 | true =>
  have hrt : r = true := hr.2 (hid_ref va vb (by omega) (hx rfl))
  rw [if_pos rfl, if_neg (by simp [hrt])]
  exact top_k5 va vb h0 h1 hx
 | false => rw [if_neg (by simp)]; exact top_k5 va vb h0 h1 hx

theorem nP_yes (va : validB a = true) (vb : validB b = true) (h : refD a b) : (∀ i, sub (nP a b i) (gP a b i)) ∧ Clo a b (gP a b) (nP a b) ∧ (nP a b 0).testBit 0 = true := by
 obtain ⟨T, _, hT⟩ := frameOf_eq b (okZ_valid vb)
 obtain ⟨_, _, _, h1, h2, h3⟩ := proof_yes (Tc := T) (okS_valid va) (okS_valid vb) (hT vb) h
 exact ⟨h1, h2, h3⟩

/-- One proof behind another. -/
theorem top_k3 (va : validB a = true) (vb : validB b = true) (vc : validB c = true) {label : Int} {step : Int} (l0 : 0 ≤ label) (l1 : label ≤ 255) (h0 : 0 ≤ step) (h1 : step ≤ 255) {x y : Bool} (hx : x = true → refD a b) (hy : y = true → refD b c) : linealtop_TopRefine_k3 a b c label step (x, y) = some true := by
 have kl : InK .i64 label := by rw [inK_i64]; omega
 have kl2 : InK .i64 (1 + label % 3) := by rw [inK_i64]; omega
 unfold linealtop_TopRefine_k3
 cases x with
 | false =>
  simp only [Bool.false_eq_true, if_false]
  rw [ck_pos kl, ck_pos l0, ck_pos kl2]
  exact top_k4 va vb l0 h0 h1 fun h => by cases h
 | true =>
  cases y with
  | false =>
   simp only [Bool.false_eq_true, if_false, if_true]
   rw [ck_pos kl, ck_pos l0, ck_pos kl2]
   exact top_k4 va vb l0 h0 h1 hx
  | true =>
   have ka := okZ_valid va
   have kb := okZ_valid vb
   have kc := okZ_valid vc
   have oa := okS_valid va
   have ob := okS_valid vb
   have oc := okS_valid vc
   obtain ⟨p1, p2, p3⟩ := nP_yes va vb (hx rfl)
   obtain ⟨q1, q2, q3⟩ := nP_yes vb vc (hy rfl)
   obtain ⟨R, e, r1, r2, r3⟩ := chain_eq oa ob oc (nP_sim oa ob p1 p2) (gP_sim oc) nP_lt gP_lt
   have e2 := (IsProof_rel ka kc va vc r1 r2 r3).2
   have hz : ((0, 0) : Nat × Nat) ∈ relK (nP b c) 6 := relK_mem.2 ⟨by omega, by omega, q3⟩
   have hn : ¬ (((relK (nP b c) 6).map pin).length : Int) = 0 := by
    rw [List.length_map]
    intro h
    have : (relK (nP b c) 6).length = 0 := by omega
    rw [List.length_eq_zero_iff] at this
    rw [this] at hz; simp at hz
   have hm : ¬ (((relK (gP b c) 6).map pin).length : Int) < (((relK (nP b c) 6).map pin).length : Int) := by
    rw [List.length_map, List.length_map]
    have := relK_mono q1 nP_lt gP_lt 6
    omega
   simp only [if_true]
   rw [Proof_yes ka kb va vb (hx rfl), Option.bind_some, Proof_yes kb kc vb vc (hy rfl), Option.bind_some, Best_yes kb kc vb vc, Option.bind_some]
   simp only
   rw [e, Option.bind_some]
   simp only
   rw [e2, Option.bind_some]
   simp only
   rw [if_neg (by simp), if_neg (by simp), if_neg (by simp), if_neg (by simp), if_neg (by simp), if_neg (by simp), if_neg (by rw [decide_eq_true_eq]; exact hn), if_neg (by rw [decide_eq_true_eq]; exact hm), ck_pos kl, ck_pos l0, ck_pos kl2]
   exact top_k4 va vb l0 h0 h1 hx

theorem shows_5 (va : validB a = true) (vb : validB b = true) (h : refD a b) : refine_Shows a b = some ([], 5) := by
 rcases Shows_eq va vb with ⟨u, _, hu⟩ | ⟨e, _⟩
 ·exact absurd hu.two (ref_tr (okS_valid va) (okS_valid vb) h u hu.one)
 ·exact e

theorem shows_any (va : validB a = true) (vb : validB b = true) : ∃ u k, refine_Shows a b = some (u, k) := by
 rcases Shows_eq va vb with ⟨u, e, _⟩ | ⟨e, _⟩
 ·exact ⟨_, _, e⟩
 ·exact ⟨_, _, e⟩

theorem top_k1 (va : validB a = true) (vb : validB b = true) (vc : validB c = true) {label : Int} {step : Int} (l0 : 0 ≤ label) (l1 : label ≤ 255) (h0 : 0 ≤ step) (h1 : step ≤ 255) : linealtop_TopRefine_k1 a b c label step = some true := by
 have ka := okZ_valid va
 have kb := okZ_valid vb
 have kc := okZ_valid vc
 obtain ⟨x, ex, hx⟩ := Refines_eq ka kb va vb
 obtain ⟨y, ey, hy⟩ := Refines_eq kb kc vb vc
 obtain ⟨z, ez, hz⟩ := Refines_eq ka kc va vc
 obtain ⟨u, i, eu⟩ := shows_any va vb
 obtain ⟨v, j, ev⟩ := shows_any va vc
 have hi : x = true → i = 5 := fun h => by
  have := shows_5 va vb (hx.1 h)
  rw [eu] at this
  injection this with this; injection this
 have hj : z = true → j = 5 := fun h => by
  have := shows_5 va vc (hz.1 h)
  rw [ev] at this
  injection this with this; injection this
 unfold linealtop_TopRefine_k1
 rw [ex, Option.bind_some, ey, Option.bind_some, ez, Option.bind_some, eu, Option.bind_some, ev, Option.bind_some]
 simp only
 rw [if_neg (by simp), if_neg (by simp), if_neg (by simp)]
 have kk : ∀ (p q : Bool), (p = true → x = true) → (q = true → y = true) → linealtop_TopRefine_k3 a b c label step (p, q) = some true := fun p q h2 h3 => top_k3 va vb vc l0 l1 h0 h1 (fun h => hx.1 (h2 h)) (fun h => hy.1 (h3 h))
 cases hxx : x with
 | true =>
  rw [if_pos rfl, if_neg (by rw [hi hxx]; simp)]
  cases hzz : z with
  | true =>
   rw [if_pos rfl, if_neg (by rw [hj hzz]; simp)]
   cases hyy : y with
   | true => rw [if_pos rfl]; exact kk _ _ (fun _ => hxx) (fun _ => hyy)
   | false => rw [if_neg (by simp)]; exact kk _ _ (fun _ => hxx) (fun h => by cases h)
  | false =>
   rw [if_neg (by simp)]
   cases hyy : y with
   | true =>
    have := hz.2 (ref_trans (okS_valid vb) (okS_valid vc) (hx.1 hxx) (hy.1 hyy))
    rw [hzz] at this; cases this
   | false => rw [if_neg (by simp)]; exact kk _ _ (fun _ => hxx) (fun h => by cases h)
 | false =>
  rw [if_neg (by simp)]
  cases hzz : z with
  | true =>
   rw [if_pos rfl, if_neg (by rw [hj hzz]; simp)]
   exact kk _ _ (fun h => by cases h) (fun h => h)
  | false =>
   rw [if_neg (by simp)]
   exact kk _ _ (fun h => by cases h) (fun h => h)

end

theorem top_k2 {s : Sys} (ks : okZ s) (i : Int) (hi : InK .i64 (i + 1)) : linealtop_TopRefine_k2 (s.1, s.2, i) = some (if validB s = true then .next (i + 1) else .done (.inl true)) := by
 have hlong : ∀ s : Sys, lineallaw05_Long s = some () := fun s => rfl
 unfold linealtop_TopRefine_k2
 simp only
 rw [hlong, Option.bind_some, lineallaw05_Awake_run, refValid_eq s ks]
 simp only [Option.bind_some]
 by_cases h : 100 < (s.2.length : Int)
 ·have hf : validB s = false := by
   cases hvs : validB s with
   | false => rfl
   | true => have := (okS_valid hvs).len; omega
  rw [if_pos (by simpa using h), hf]; rfl
 ·rw [if_neg (by simpa using h), ck_pos hi]
  cases validB s <;> rfl

/-- The law. -/
theorem TopRefine_eq (a : Sys) (ha : okEl (.pair (.int .i64) (.sl (.pair (.int .i64) (.pair (.int .i64) (.int .i64))))) a) (b : Sys) (hb : okEl (.pair (.int .i64) (.sl (.pair (.int .i64) (.pair (.int .i64) (.int .i64))))) b) (c : Sys) (hc : okEl (.pair (.int .i64) (.sl (.pair (.int .i64) (.pair (.int .i64) (.int .i64))))) c) (label : Int) (hl : okEl (.int .u8) label) (step : Int) (hs : okEl (.int .u8) step) : linealtop_TopRefine a b c label step = some true := by
 have ka := okZ_of ha
 have kb := okZ_of hb
 have kc := okZ_of hc
 have hl1 := (inK_u8 label).1 hl
 have hs1 := (inK_u8 step).1 hs
 have s0 : linealtop_TopRefine_b1 a b c 0 = some (if validB a = true then .next 1 else .done (.inl true)) := top_k2 ka 0 (by rw [inK_i64]; omega)
 have s1 : linealtop_TopRefine_b1 a b c 1 = some (if validB b = true then .next 2 else .done (.inl true)) := top_k2 kb 1 (by rw [inK_i64]; omega)
 have s2 : linealtop_TopRefine_b1 a b c 2 = some (if validB c = true then .next 3 else .done (.inl true)) := top_k2 kc 2 (by rw [inK_i64]; omega)
 have s3 : linealtop_TopRefine_b1 a b c 3 = some (.done (.inr ())) := rfl
 unfold linealtop_TopRefine
 cases va : validB a with
 | false => rw [va, if_neg (by simp)] at s0; rw [whileO_fin s0]; rfl
 | true =>
  rw [va, if_pos rfl] at s0
  cases vb : validB b with
  | false => rw [vb, if_neg (by simp)] at s1; rw [whileO_next s0 (whileO_fin s1)]; rfl
  | true =>
   rw [vb, if_pos rfl] at s1
   cases vc : validB c with
   | false => rw [vc, if_neg (by simp)] at s2; rw [whileO_next s0 (whileO_next s1 (whileO_fin s2))]; rfl
   | true =>
    rw [vc, if_pos rfl] at s2
    rw [whileO_next s0 (whileO_next s1 (whileO_next s2 (whileO_fin s3))), Option.bind_some]
    exact top_k1 va vb vc hl1.1 hl1.2 hs1.1 hs1.2

end Go.Proofs.Ytifleoceebaooaa
