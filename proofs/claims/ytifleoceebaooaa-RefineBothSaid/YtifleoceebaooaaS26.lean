/-
  Layer 5, pure: two systems together refine each, and have the traces that both have.
-/
import Derived.Test.YtifleoceebaooaaS25
import Derived.Test.YtifleoceebaooaaS13
namespace Go.Proofs.Ytifleoceebaooaa

set_option linter.unusedVariables false
set_option linter.unusedSimpArgs false
set_option linter.unusedSectionVars false
set_option maxRecDepth 100000
set_option maxHeartbeats 1000000

def bothS (s t : Sys) : Sys := (s.1 * t.1, once (allU s t))

section
variable {s t : Sys} (hs : OkS s) (ht : OkS t) (hb : OkS (bothS s t))
include hs ht hb

theorem both_mem (f l g : Int) : (f, l, g) ∈ (bothS s t).2 ↔ (0 ≤ f ∧ f < s.1 * t.1) ∧ (0 ≤ l ∧ l ≤ 3) ∧ (0 ≤ g ∧ g < s.1 * t.1) ∧ Pd s t f l g := by
  show (f, l, g) ∈ once (allU s t) ↔ _
  rw [(once_asc (allU s t)).2, allU_is hs ht]

theorem qu_self {s : Sys} (hs : OkS s) (y : Nat) : (coM s (2 ^ y) 0).testBit y = true := by
  unfold coM
  rw [if_pos rfl]
  exact one_sub.1 (quM_sub hs _)

def prL (s t : Sys) (x : Nat) : Nat := if (x : Int) < s.1 * t.1 then 2 ^ ((x : Int) / t.1).toNat else 0
def prR (s t : Sys) (x : Nat) : Nat := if (x : Int) < s.1 * t.1 then 2 ^ ((x : Int) % t.1).toNat else 0

theorem pr_bit {p : Prop} [Decidable p] {k y : Nat} : (if p then 2 ^ k else 0).testBit y = true ↔ p ∧ k = y := by
  by_cases h : p
  · rw [if_pos h, Nat.testBit_two_pow, decide_eq_true_eq]; simp [h]
  · rw [if_neg h, Nat.zero_testBit]; simp [h]

theorem both_left : refD (bothS s t) s := by
  have tl := ht.lo
  have t6 := ht.hi
  have hpos := hb.lo
  refine ⟨prL s t, fun x y h => ?_, ?_⟩
  · unfold prL at h
    rw [pr_bit hs ht hb] at h
    obtain ⟨h1, rfl⟩ := h
    have hx := num_pair (m := s.1) (f := (x : Int)) tl t6 ⟨by omega, h1⟩
    refine ⟨by show x < (s.1 * t.1).toNat; omega, by omega, folB_iff.2 fun z hz hzx => ?_⟩
    obtain ⟨f, l, g⟩ := z
    obtain ⟨hf, hl, hg, hp⟩ := (both_mem hs ht hb f l g).1 hz
    simp only at hzx
    subst hzx
    have hgg := num_pair (m := s.1) (f := g) tl t6 hg
    refine ⟨(g / t.1).toNat, ?_, ?_⟩
    · have step : ((x : Int) / t.1, l, g / t.1) ∈ s.2 → (coM s (2 ^ ((x : Int) / t.1).toNat) l).testBit (g / t.1).toNat = true := fun hm => come_step hs hm
      unfold Pd at hp
      split at hp
      · rename_i h0
        subst h0
        rcases hp with ⟨h2, _⟩ | ⟨_, h2⟩
        · exact step h2
        · show (coM s _ 0).testBit _ = true
          rw [h2]
          exact qu_self hs ht hb hs _
      · exact step hp.1
    · unfold prL
      rw [pr_bit hs ht hb]
      simp only
      exact ⟨by omega, by rw [Int.toNat_of_nonneg hg.1]⟩
  · unfold prL
    rw [pr_bit hs ht hb]
    refine ⟨by show (0 : Int) < s.1 * t.1; have : 1 ≤ s.1 * t.1 := hpos; omega, by simp⟩

theorem both_right : refD (bothS s t) t := by
  have tl := ht.lo
  have t6 := ht.hi
  have hpos := hb.lo
  refine ⟨prR s t, fun x y h => ?_, ?_⟩
  · unfold prR at h
    rw [pr_bit hs ht hb] at h
    obtain ⟨h1, rfl⟩ := h
    have hx := num_pair (m := s.1) (f := (x : Int)) tl t6 ⟨by omega, h1⟩
    refine ⟨by show x < (s.1 * t.1).toNat; omega, by omega, folB_iff.2 fun z hz hzx => ?_⟩
    obtain ⟨f, l, g⟩ := z
    obtain ⟨hf, hl, hg, hp⟩ := (both_mem hs ht hb f l g).1 hz
    simp only at hzx
    subst hzx
    have hgg := num_pair (m := s.1) (f := g) tl t6 hg
    refine ⟨(g % t.1).toNat, ?_, ?_⟩
    · have step : ((x : Int) % t.1, l, g % t.1) ∈ t.2 → (coM t (2 ^ ((x : Int) % t.1).toNat) l).testBit (g % t.1).toNat = true := fun hm => come_step ht hm
      unfold Pd at hp
      split at hp
      · rename_i h0
        subst h0
        rcases hp with ⟨_, h2⟩ | ⟨h2, _⟩
        · show (coM t _ 0).testBit _ = true
          rw [h2]
          exact qu_self hs ht hb ht _
        · exact step h2
      · exact step hp.2
    · unfold prR
      rw [pr_bit hs ht hb]
      simp only
      exact ⟨by omega, by rw [Int.toNat_of_nonneg hg.1]⟩
  · unfold prR
    rw [pr_bit hs ht hb]
    refine ⟨by show (0 : Int) < s.1 * t.1; have : 1 ≤ s.1 * t.1 := hpos; omega, by simp⟩

/-! ### Traces of both -/

omit hs ht hb in
theorem cdec {p : Prop} : @decide p (Classical.propDecidable p) = true ↔ p := @decide_eq_true_iff p (Classical.propDecidable p)

/-- All pairs are in it. -/
def Rect (t : Sys) (A B Z : Nat) : Prop := ∀ i j, A.testBit i = true → B.testBit j = true → Z.testBit (i * t.1.toNat + j) = true

theorem cast_pair {i j : Nat} : (((i * t.1.toNat + j : Nat)) : Int) = (i : Int) * t.1 + j := by
  have := ht.lo
  rw [Int.natCast_add, Int.natCast_mul, Int.toNat_of_nonneg (by omega)]

theorem pair_back {a b : Int} (ha : 0 ≤ a) (hb' : 0 ≤ b) : (a * t.1 + b).toNat = a.toNat * t.1.toNat + b.toNat := by
  obtain ⟨i, rfl⟩ := Int.eq_ofNat_of_zero_le ha
  obtain ⟨j, rfl⟩ := Int.eq_ofNat_of_zero_le hb'
  rw [← cast_pair hs ht hb, Int.toNat_natCast, Int.toNat_natCast, Int.toNat_natCast]

theorem rect_quL {A B Z : Nat} (hB : B < 2 ^ t.1.toNat) (hA : A < 2 ^ s.1.toNat) (hc : cl0 (bothS s t) Z) (h : Rect t A B Z) : Rect t (quM s A) B Z := by
  have s6 := n6 hs
  have t6 := n6 ht
  have hsub : sub (quM s A) (setM fun i => @decide (∀ j < 6, B.testBit j = true → Z.testBit (i * t.1.toNat + j) = true) (Classical.propDecidable _)) := quM_least hs (fun i hi => setM_bit.2 ⟨by have := bit_lt hA hi; omega, cdec.2 fun j _ hj => h i j hi hj⟩) (fun i hi => by
    obtain ⟨z, h1, h2, h3, h4⟩ := stM_bit.1 hi
    have hz := hs.st z h1
    obtain ⟨_, h5⟩ := setM_bit.1 h3
    have h5 := cdec.1 h5
    refine setM_bit.2 ⟨by omega, cdec.2 fun j hj6 hj => ?_⟩
    have hjt := bit_lt hB hj
    refine hc _ (stM_bit.2 ⟨(z.1 * t.1 + j, 0, z.2.2 * t.1 + j), ?_, rfl, ?_, ?_⟩)
    · show _ ∈ once (allU s t)
      rw [(once_asc (allU s t)).2, allU_mem hs ht]
      exact .inr (.inl ⟨z, h1, h2, j, by omega, rfl⟩)
    · simp only
      rw [pair_back hs ht hb hz.1.1 (by omega)]
      exact h5 j hj6 hj
    · simp only
      rw [pair_back hs ht hb hz.2.2.1 (by omega), h4]; simp)
  intro i j hi hj
  exact cdec.1 (setM_bit.1 (hsub i hi)).2 j (by have := bit_lt hB hj; omega) hj

theorem rect_quR {A B Z : Nat} (hB : B < 2 ^ t.1.toNat) (hA : A < 2 ^ s.1.toNat) (hc : cl0 (bothS s t) Z) (h : Rect t A B Z) : Rect t A (quM t B) Z := by
  have s6 := n6 hs
  have t6 := n6 ht
  have hsub : sub (quM t B) (setM fun j => @decide (∀ i < 6, A.testBit i = true → Z.testBit (i * t.1.toNat + j) = true) (Classical.propDecidable _)) := quM_least ht (fun j hj => setM_bit.2 ⟨by have := bit_lt hB hj; omega, cdec.2 fun i _ hi => h i j hi hj⟩) (fun j hj => by
    obtain ⟨z, h1, h2, h3, h4⟩ := stM_bit.1 hj
    have hz := ht.st z h1
    obtain ⟨_, h5⟩ := setM_bit.1 h3
    have h5 := cdec.1 h5
    refine setM_bit.2 ⟨by omega, cdec.2 fun i hi6 hi => ?_⟩
    have hit := bit_lt hA hi
    refine hc _ (stM_bit.2 ⟨((i : Int) * t.1 + z.1, 0, (i : Int) * t.1 + z.2.2), ?_, rfl, ?_, ?_⟩)
    · show _ ∈ once (allU s t)
      rw [(once_asc (allU s t)).2, allU_mem hs ht]
      exact .inr (.inr ⟨z, h1, h2, i, by omega, rfl⟩)
    · simp only
      rw [pair_back hs ht hb (by omega) hz.1.1]
      exact h5 i hi6 hi
    · simp only
      rw [pair_back hs ht hb (by omega) hz.2.2.1, h4]; simp)
  intro i j hi hj
  exact cdec.1 (setM_bit.1 (hsub j hj)).2 i (by have := bit_lt hA hi; omega) hi

theorem rect_qu {A B Z : Nat} (hB : B < 2 ^ t.1.toNat) (hA : A < 2 ^ s.1.toNat) (hZ : Z < 2 ^ (bothS s t).1.toNat) (h : Rect t A B Z) : Rect t (quM s A) (quM t B) (quM (bothS s t) Z) := by
  have hc := quM_cl hb hZ
  have h1 : Rect t A B (quM (bothS s t) Z) := fun i j hi hj => quM_sub hb Z _ (h i j hi hj)
  exact rect_quR hs ht hb hB (quM_lt hs hA) hc (rect_quL hs ht hb hB hA hc h1)

theorem rect_st {A B Z : Nat} {l : Int} (hl : 0 < l ∧ l ≤ 3) (h : Rect t A B Z) : Rect t (stM s A l) (stM t B l) (stM (bothS s t) Z l) := by
  intro i j hi hj
  obtain ⟨a, a1, a2, a3, a4⟩ := stM_bit.1 hi
  obtain ⟨b, b1, b2, b3, b4⟩ := stM_bit.1 hj
  have za := hs.st a a1
  have zb := ht.st b b1
  refine stM_bit.2 ⟨putZ t.1 a b, ?_, a2, ?_, ?_⟩
  · show _ ∈ once (allU s t)
    rw [(once_asc (allU s t)).2, allU_mem hs ht]
    exact .inl ⟨a, a1, b, b1, by omega, by omega, rfl⟩
  · show Z.testBit (a.1 * t.1 + b.1).toNat = true
    rw [pair_back hs ht hb za.1.1 zb.1.1]
    exact h _ _ a3 b3
  · show (a.2.2 * t.1 + b.2.2).toNat = _
    rw [pair_back hs ht hb za.2.2.1 zb.2.2.1, a4, b4]

theorem rect_co {A B Z : Nat} (hB : B < 2 ^ t.1.toNat) (hA : A < 2 ^ s.1.toNat) (hZ : Z < 2 ^ (bothS s t).1.toNat) {l : Int} (hl : 0 < l ∧ l ≤ 3) (h : Rect t A B Z) : Rect t (coM s A l) (coM t B l) (coM (bothS s t) Z l) := by
  unfold coM
  rw [if_neg (by omega), if_neg (by omega), if_neg (by omega)]
  exact rect_qu hs ht hb (stM_lt ht _ l) (stM_lt hs _ l) (stM_lt hb _ l) (rect_st hs ht hb hl (rect_qu hs ht hb hB hA hZ h))

theorem rect_fol : ∀ (w : List Int), w.all seenB = true → ∀ {A B Z : Nat}, B < 2 ^ t.1.toNat → A < 2 ^ s.1.toNat → Z < 2 ^ (bothS s t).1.toNat → Rect t A B Z → Rect t (folM s A w) (folM t B w) (folM (bothS s t) Z w)
  | [], _, _, _, _, _, _, _, h => h
  | l :: w, hw, A, B, Z, hB, hA, hZ, h => by
    rw [List.all_cons, Bool.and_eq_true] at hw
    have hl : 0 < l ∧ l ≤ 3 := by have := hw.1; unfold seenB at this; exact of_decide_eq_true this
    exact rect_fol w hw.2 (coM_lt ht hB l) (coM_lt hs hA l) (coM_lt hb hZ l) (rect_co hs ht hb hB hA hZ hl h)

theorem rect_beh (w : List Int) (hw : w.all seenB = true) : Rect t (behM s w) (behM t w) (behM (bothS s t) w) := by
  refine rect_fol hs ht hb w hw (begM_lt ht) (begM_lt hs) (begM_lt hb) ?_
  refine rect_qu hs ht hb (one_lt ht) (one_lt hs) (one_lt hb) fun i j hi hj => ?_
  have h0 : ∀ k, (1 : Nat).testBit k = true → k = 0 := fun k hk => by
    have := bit_lt (n := 1) (by omega) hk
    omega
  rw [h0 i hi, h0 j hj]
  simp

theorem both_beh (w : List Int) (hw : w.all seenB = true) : behM (bothS s t) w ≠ 0 ↔ behM s w ≠ 0 ∧ behM t w ≠ 0 := by
  constructor
  · intro h
    exact ⟨ref_tr hb hs (both_left hs ht hb) w h, ref_tr hb ht (both_right hs ht hb) w h⟩
  · rintro ⟨h1, h2⟩
    obtain ⟨i, hi⟩ := ne_zero_bit h1
    obtain ⟨j, hj⟩ := ne_zero_bit h2
    exact bit_ne (rect_beh hs ht hb w hw i j hi hj)

end

/-- The law. -/
theorem RefineBoth_eq (s : Sys) (hs : okEl (.pair (.int .i64) (.sl (.pair (.int .i64) (.pair (.int .i64) (.int .i64))))) s) (t : Sys) (ht : okEl (.pair (.int .i64) (.sl (.pair (.int .i64) (.pair (.int .i64) (.int .i64))))) t) (tr : List Int) (hl : tr.length ≤ maxLen) : lineallaw05_RefineBoth s t tr = some true := by
  have ks := okZ_of hs
  have kt := okZ_of ht
  unfold lineallaw05_RefineBoth
  rw [valid2_eq ks kt, Option.bind_some, lineallaw05_Awake_run]
  cases hv : (validB s && validB t)
  · rfl
  rw [if_neg (by simp)]
  by_cases h100 : 100 < (tr.length : Int)
  · rw [if_pos (by simpa using h100)]; rfl
  rw [if_neg (by simpa using h100), (Both_both ks kt).1, Option.bind_some]
  unfold bothOf
  rw [if_pos hv]
  rw [Bool.and_eq_true] at hv
  obtain ⟨vs, vt⟩ := hv
  have os := okS_valid vs
  have ot := okS_valid vt
  have hm := mul_small ot.lo ot.hi (a := s.1) ⟨by have := os.lo; omega, by have := os.hi; omega⟩
  by_cases h6 : 6 < s.1 * t.1
  · rw [if_pos h6, if_pos (by simp), if_pos (by simp)]; rfl
  rw [if_neg h6]
  by_cases h24 : 24 < (once (allU s t)).length
  · rw [if_pos h24, if_pos (by simp), if_pos (by simp)]; rfl
  rw [if_neg h24, if_neg (by simp)]
  have vb : validB (bothS s t) = true := both_valid os ot h6 h24
  have kb := okZ_valid vb
  have ob := okS_valid vb
  obtain ⟨b1, e1, hb1⟩ := Refines_eq kb ks vb vs
  obtain ⟨b2, e2, hb2⟩ := Refines_eq kb kt vb vt
  have hb1t : b1 = true := hb1.2 (both_left os ot ob)
  have hb2t : b2 = true := hb2.2 (both_right os ot ob)
  subst hb1t hb2t
  have r1 : linealref05_Valid (s.1 * t.1, once (allU s t)) = some true := by
    have := refValid_eq (bothS s t) kb
    rw [vb] at this; exact this
  have r2 : refine_Refines (s.1 * t.1, once (allU s t)) s = some (true, 0) := e1
  have r3 : refine_Refines (s.1 * t.1, once (allU s t)) t = some (true, 0) := e2
  have r4 : refine_IsTrace (s.1 * t.1, once (allU s t)) tr = some (isTrOf (bothS s t) tr) := IsTrace_eq (bothS s t) kb tr
  simp only
  rw [r1, Option.bind_some, if_neg (by simp), ck_pos (by rw [inK_i64]; omega), if_neg (by simp), r2, Option.bind_some, r3, Option.bind_some, r4, Option.bind_some, IsTrace_eq s ks, Option.bind_some, IsTrace_eq t kt, Option.bind_some]
  rw [isTrOf_eq vs (by omega), isTrOf_eq vt (by omega), isTrOf_eq vb (by omega)]
  cases hsn : tr.all seenB with
  | false => rfl
  | true =>
    have hbb := both_beh os ot ob tr hsn
    by_cases z1 : behM s tr = 0
    · have z3 : behM (bothS s t) tr = 0 := Classical.byContradiction fun h => (hbb.1 h).1 z1
      simp [z1, z3]
    · by_cases z2 : behM t tr = 0
      · have z3 : behM (bothS s t) tr = 0 := Classical.byContradiction fun h => (hbb.1 h).2 z2
        simp [z1, z2, z3]
      · have z3 := hbb.2 ⟨z1, z2⟩
        simp [z1, z2, z3]

end Go.Proofs.Ytifleoceebaooaa
