/-
  Layer 5, pure: the law of what is hidden and of what is left out holds.
-/
import Derived.Test.YtljonmpcehlpaaaS7
namespace Go.Proofs.Ytljonmpcehlpaaa
open Go.RowKit

set_option linter.unusedVariables false
set_option linter.unusedSectionVars false
set_option linter.unusedSimpArgs false

theorem okZ_valid {s : Sys} (h : validB s = true) : okZ s := by
  have hv := okS_valid h
  have hhi := hv.hi
  have hlen := hv.len
  refine ⟨by omega, fun z hz => ?_⟩
  have := hv.st z hz
  rw [inK_i64, inK_i64, inK_i64]
  omega

theorem hideZ_in {s : Sys} (h : validB s = true) (k : Int) {z : Stp} (hz : z ∈ s.2) : InK .i64 (hideZ k z).1 ∧ InK .i64 (hideZ k z).2.1 ∧ InK .i64 (hideZ k z).2.2 := by
  have hs := (okS_valid h).st z hz
  have hhi := (okS_valid h).hi
  unfold hideZ
  simp only [inK_i64]
  split <;> omega

theorem hide_eq {s : Sys} (h : validB s = true) (k : Int) : refine_hide s.2 k = some (hideL k s.2) := by
  have hv := okS_valid h
  have hlen := hv.len
  obtain ⟨r, e1, e2⟩ := scan2 (R := List Stp) s.2 (fun q out => out = hideL k (s.2.take q)) (fun r => r = hideL k s.2) (body := refine_hide_b1 s.2 k) (s0 := []) rfl
    (fun q z out hq hI => by
      have hlt := (List.getElem?_eq_some_iff.1 hq).1
      have ki : InK .i64 ((q : Int) + 1) := by rw [inK_i64]; omega
      have hm := List.mem_of_getElem? hq
      have e0 : s.2.getD q (0, 0, 0) = z := getD_of hq
      have hol : out.length ≤ 24 := by
        rw [hI]
        have := hideL_len k (s.2.take q)
        rw [List.length_take] at this
        omega
      have hin : ∀ y ∈ out, InK .i64 y.1 ∧ InK .i64 y.2.1 ∧ InK .i64 y.2.2 := fun y hy => by
        rw [hI] at hy
        obtain ⟨w, hw, rfl⟩ := hideL_mem.1 hy
        exact hideZ_in h k (List.mem_of_mem_take hw)
      have hnx : hideL k (s.2.take (q + 1)) = hideF k out z := by
        rw [take_one hq, hI]
        unfold hideL
        rw [List.foldl_append]; rfl
      have hk2 : refine_hide_k2 s.2 (out, (q : Int)) (if z.2.1 = k then 0 else z.2.1) = some (.next (hideF k out z, (q : Int) + 1)) := by
        unfold refine_hide_k2
        simp only [Int.toNat_natCast, e0]
        have hc := index_stp out (hideZ k z) (by omega) hin (hideZ_in h k hm)
        unfold hideZ at hc
        rw [hc, Option.bind_some]
        unfold hideF hideZ
        by_cases hmem : (z.1, if z.2.1 = k then 0 else z.2.1, z.2.2) ∈ out
        · rw [if_pos hmem, if_neg (by simp [hmem]), ck_pos ki]
        · rw [if_neg hmem, if_pos (by simp [hmem]), ck_pos (by omega), ck_pos ki]
      refine .inl ⟨hideF k out z, ?_, hnx.symm⟩
      unfold refine_hide_b1
      simp only [Int.toNat_natCast, e0]
      rw [if_pos (by rw [decide_eq_true_eq]; omega), ck_pos (by omega), ck_pos (by omega)]
      by_cases hk : z.2.1 = k
      · rw [if_pos hk] at hk2
        rw [if_pos (by rw [decide_eq_true_eq]; exact hk), hk2]
      · rw [if_neg hk] at hk2
        rw [if_neg (by rw [decide_eq_true_eq]; exact hk), hk2])
    (fun out hI => by
      rw [List.take_length] at hI
      refine ⟨out, ?_, hI⟩
      unfold refine_hide_b1
      simp only
      rw [if_neg (by rw [decide_eq_true_eq]; omega)])
  unfold refine_hide
  rw [e1, Option.bind_some, e2]
  rfl

theorem Hidden_eq {s : Sys} (h : validB s = true) {k : Int} (h1 : 0 < k) (h3 : k ≤ 3) : refine_Hidden s k = some (s.1, hideL k s.2, 0) := by
  unfold refine_Hidden
  rw [Valid_eq s (okZ_valid h), Option.bind_some, h, if_neg (by simp), isSeen_eq, Option.bind_some, if_neg (by simp [h1, h3]), hide_eq h, Option.bind_some]

theorem Same_eq {s : Sys} (h : validB s = true) : linealref05_Same s s = some true := by
  have hz := okZ_valid h
  have hlen := (okS_valid h).len
  have hl := loopB (body := linealref05_Same_b1 s s) s.2.length (fun _ => true) (fun k hk => by
    have hm : s.2[k]? = some (s.2.getD k (0, 0, 0)) := by rw [List.getD_eq_getElem?_getD, List.getElem?_eq_getElem hk]; rfl
    have hi := hz.inK _ (List.mem_of_getElem? hm)
    have ki : InK .i64 ((k : Int) + 1) := by rw [inK_i64]; omega
    unfold linealref05_Same_b1
    simp only [Int.toNat_natCast]
    rw [if_pos (by rw [decide_eq_true_eq]; omega), ck_pos (by omega), ck_pos (by omega), ck_pos (by omega), ck_pos (by omega), ck_pos hi.1, ck_pos hi.2.1, ck_pos hi.2.2, ck_pos hi.1, ck_pos hi.2.1, ck_pos hi.2.2, if_neg (by simp), ck_pos ki, if_pos trivial]) (by
    unfold linealref05_Same_b1
    rw [if_neg (by rw [decide_eq_true_eq]; omega)])
  unfold linealref05_Same
  rw [if_neg (by simp), if_neg (by simp), hl, Option.bind_some, if_pos (allB_iff.2 fun _ _ => rfl)]
  rfl

theorem valid2_eq {c a : Sys} (kc : okZ c) (ka : okZ a) : lineallaw05_valid [c, a] = some (validB c && validB a) := by
  have hl := loopB (body := lineallaw05_valid_b1 [c, a]) 2 (fun k => validB ([c, a].getD k (0, []))) (fun k hk => by
    have hz : okZ ([c, a].getD k (0, [])) := by
      match k, hk with
      | 0, _ => exact kc
      | 1, _ => exact ka
    have ki : InK .i64 ((k : Int) + 1) := by rw [inK_i64]; omega
    obtain ⟨s, hs⟩ : ∃ s, [c, a].getD k (0, []) = s := ⟨_, rfl⟩
    rw [hs] at hz
    unfold lineallaw05_valid_b1 lineallaw05_Long
    simp only [Int.toNat_natCast, hs, List.length_cons, List.length_nil]
    rw [if_pos (by rw [decide_eq_true_eq]; omega), ck_pos (by omega), ck_pos (by omega), Option.bind_some]
    by_cases h1 : 100 < (s.2.length : Int)
    · rw [if_pos (by simpa using h1), if_neg]
      intro h
      have := (okS_valid h).len
      omega
    · rw [if_neg (by simpa using h1), refValid_eq s hz, Option.bind_some]
      cases h : validB s
      · simp
      · rw [if_neg (by simp), ck_pos ki, if_pos rfl]) (by
    unfold lineallaw05_valid_b1
    rw [if_neg (by simp)])
  have he : (allB 2 fun k => validB ([c, a].getD k (0, []))) = (validB c && validB a) := by
    rw [Bool.eq_iff_iff, allB_iff, Bool.and_eq_true]
    constructor
    · intro h; exact ⟨h 0 (by omega), h 1 (by omega)⟩
    · intro h k hk
      match k, hk with
      | 0, _ => exact h.1
      | 1, _ => exact h.2
  unfold lineallaw05_valid
  rw [hl, Option.bind_some, he]
  cases (validB c && validB a) <;> rfl

/-! ### One step left out -/

theorem while3 {S R : Type} {body : S → Option (Step S R)} {s0 s1 s2 : S} {r : R} (h0 : body s0 = some (.next s1)) (h1 : body s1 = some (.next s2)) (h2 : body s2 = some (.done r)) : whileO body s0 = some r :=
  whileO_of (n := 3) (by simp [whileN, h0, h1, h2])

theorem Grow_eq {n : Int} (h0 : 0 ≤ n) (h1 : n ≤ 1000) : slices_Grow n = some () := by
  unfold slices_Grow
  have e : n - (0 - 0) = n := by omega
  rw [if_neg (by simpa using h0), e, ck_pos (by rw [inK_i64]; omega), ck_pos (by rw [inK_i64]; omega)]
  by_cases hp : 0 < n
  · rw [if_pos (by simpa using hp), ck_pos hp, ck_pos (by omega), ck_pos (by omega), ck_pos (by omega), ck_pos (by omega)]
  · rw [if_neg (by simpa using hp)]

theorem Concat_eq (a b : List Stp) (ha : a.length ≤ 100) (hb : b.length ≤ 100) : slices_Concat [a, b] = some (a ++ b) := by
  unfold slices_Concat
  have l1 : whileO (slices_Concat_b1 [a, b]) (0, 0) = some ((a.length : Int) + (b.length : Int)) := by
    refine while3 (s1 := ((a.length : Int), 1)) (s2 := ((a.length : Int) + (b.length : Int), 2)) ?_ ?_ ?_
    · unfold slices_Concat_b1
      rw [if_pos (by simp)]
      show ck _ (ck _ (ck (InK .i64 (0 + ((a.length : Nat) : Int))) _)) = _
      rw [ck_pos (by simp), ck_pos (by simp), ck_pos (by rw [inK_i64]; omega)]
      show (if decide (0 + ((a.length : Nat) : Int) < 0) = true then none else ck _ (some (Step.next (0 + ((a.length : Nat) : Int), _)))) = _
      rw [if_neg (by simp), ck_pos (by rw [inK_i64]; omega), Int.zero_add]; rfl
    · unfold slices_Concat_b1
      rw [if_pos (by simp)]
      show ck _ (ck _ (ck (InK .i64 ((a.length : Int) + ((b.length : Nat) : Int))) _)) = _
      rw [ck_pos (by simp), ck_pos (by simp), ck_pos (by rw [inK_i64]; omega)]
      show (if decide ((a.length : Int) + ((b.length : Nat) : Int) < 0) = true then none else ck _ (some (Step.next ((a.length : Int) + ((b.length : Nat) : Int), _)))) = _
      rw [if_neg (by simp; omega), ck_pos (by rw [inK_i64]; omega)]; rfl
    · unfold slices_Concat_b1
      rw [if_neg (by simp)]
  have l2 : whileO (slices_Concat_b2 [a, b]) ([], 0) = some (a ++ b) := by
    refine while3 (s1 := (a, 1)) (s2 := (a ++ b, 2)) ?_ ?_ ?_
    · unfold slices_Concat_b2
      rw [if_pos (by simp), ck_pos (by simp), ck_pos (by simp), ck_pos (by simp; omega), ck_pos (by rw [inK_i64]; omega)]; rfl
    · unfold slices_Concat_b2
      rw [if_pos (by simp), ck_pos (by simp), ck_pos (by simp), ck_pos (by simp; omega), ck_pos (by rw [inK_i64]; omega)]; rfl
    · unfold slices_Concat_b2
      rw [if_neg (by simp)]
  rw [l1, Option.bind_some]
  unfold slices_Concat_k1 slices_Concat_k2
  rw [Grow_eq (by omega) (by omega), Option.bind_some, l2]; rfl

theorem Without_eq {s : Sys} (h : validB s = true) {i : Nat} (hi : i < s.2.length) : refine_Without s (i : Int) = some (s.1, s.2.eraseIdx i, 0) := by
  have hlen := (okS_valid h).len
  have e : ((i : Int) + 1).toNat = i + 1 := by omega
  unfold refine_Without
  rw [Valid_eq s (okZ_valid h), Option.bind_some, h, if_neg (by simp), if_neg (by rw [decide_eq_true_eq]; omega), if_neg (by rw [decide_eq_true_eq]; omega), ck_pos (by omega), ck_pos (by omega), ck_pos (by rw [inK_i64]; omega), ck_pos (by omega), ck_pos (by omega), Int.toNat_natCast, e, Concat_eq _ _ (by rw [List.length_take]; omega) (by rw [List.length_drop]; omega), Option.bind_some, List.eraseIdx_eq_take_drop_succ]

theorem without_valid {s : Sys} (h : validB s = true) (i : Nat) : validB (s.1, s.2.eraseIdx i) = true := by
  have hv := okS_valid h
  have hsub := List.eraseIdx_sublist s.2 i
  exact validB_of hv.lo hv.hi (Nat.le_trans hsub.length_le hv.len) (fun z hz => hv.st z (hsub.subset hz)) ((valid_nd h).sublist hsub)

theorem hides_k1 {c : Sys} (h : validB c = true) {step : Int} (h0 : 0 ≤ step) (h1 : step ≤ 255) : lineallaw05_RefineHides_k1 c step = some true := by
  have hlen := (okS_valid h).len
  unfold lineallaw05_RefineHides_k1
  rw [lineallaw05_Awake_run]
  by_cases he : (c.2.length : Int) = 0
  · rw [if_pos (by simpa using he)]; rfl
  rw [if_neg (by simpa using he), ck_pos (by rw [inK_i64]; omega), ck_pos h0, ck_pos (by omega)]
  have hm0 := Int.emod_nonneg step he
  have hm1 := Int.emod_lt_of_pos step (show 0 < (c.2.length : Int) by omega)
  obtain ⟨i, hi⟩ := Int.eq_ofNat_of_zero_le hm0
  rw [hi] at hm1 ⊢
  have hil : i < c.2.length := by omega
  have hw := without_valid h i
  obtain ⟨b, e, hb⟩ := Refines_eq (okZ_valid hw) (okZ_valid h) hw h
  have hbt : b = true := hb.2 (less_ref (okS_valid h) rfl fun z hz => (List.eraseIdx_sublist c.2 i).subset hz)
  subst hbt
  rw [Without_eq h hil, Option.bind_some]
  simp only
  rw [e, Option.bind_some]
  have hl : ((c.2.eraseIdx i).length : Int) = (c.2.length : Int) - 1 := by
    rw [List.length_eraseIdx, if_pos hil]; omega
  simp only
  rw [if_pos (by simp), if_pos (by simp), if_pos trivial, ck_pos (by rw [inK_i64]; omega), if_pos (by rw [decide_eq_true_eq]; exact hl)]
  rfl

/-- The law holds. -/
theorem RefineHides_eq (c : Sys) (hc : okEl (.pair (.int .i64) (.sl (.pair (.int .i64) (.pair (.int .i64) (.int .i64))))) c) (a : Sys) (ha : okEl (.pair (.int .i64) (.sl (.pair (.int .i64) (.pair (.int .i64) (.int .i64))))) a) (label : Int) (hl : okEl (.int .u8) label) (step : Int) (hs : okEl (.int .u8) step) : lineallaw05_RefineHides c a label step = some true := by
  have kc := okZ_of hc
  have ka := okZ_of ha
  have hl1 := (inK_u8 label).1 hl
  have hs1 := (inK_u8 step).1 hs
  unfold lineallaw05_RefineHides
  rw [valid2_eq kc ka, Option.bind_some, lineallaw05_Awake_run]
  cases hv : (validB c && validB a)
  · rfl
  rw [Bool.and_eq_true] at hv
  obtain ⟨vc, va⟩ := hv
  obtain ⟨k, hk⟩ : ∃ k, 1 + label % 3 = k := ⟨_, rfl⟩
  have k1 : 0 < k := by omega
  have k3 : k ≤ 3 := by omega
  rw [if_neg (by simp), ck_pos (by rw [inK_i64]; omega), ck_pos (by omega)]
  simp only [hk]
  have hcv := hid_valid (k := k) vc
  have hav := hid_valid (k := k) va
  obtain ⟨b, e, hb⟩ := Refines_eq kc ka vc va
  obtain ⟨b', e', hb'⟩ := Refines_eq (okZ_valid hcv) (okZ_valid hav) hcv hav
  have e'' : refine_Refines (c.1, hideL k c.2) (a.1, hideL k a.2) = some (b', 0) := e'
  have hh : refine_Hidden (c.1, hideL k c.2) k = some (c.1, hideL k c.2, 0) := by
    have := Hidden_eq hcv k1 k3
    unfold hid at this
    rw [this]
    simp only
    rw [hide_twice (by omega)]
  have hsm : linealref05_Same (c.1, hideL k c.2) (c.1, hideL k c.2) = some true := Same_eq hcv
  rw [ck_pos (by rw [inK_i64]; omega), Hidden_eq vc k1 k3, Option.bind_some, Hidden_eq va k1 k3, Option.bind_some, e, Option.bind_some]
  simp only
  rw [e'', Option.bind_some, hh, Option.bind_some]
  simp only
  rw [hsm, Option.bind_some, hides_k1 vc hs1.1 hs1.2]
  cases hbb : b with
  | false => simp
  | true =>
    have : b' = true := hb'.2 (hid_ref vc va (by omega) (hb.1 hbb))
    simp [this]

end Go.Proofs.Ytljonmpcehlpaaa
