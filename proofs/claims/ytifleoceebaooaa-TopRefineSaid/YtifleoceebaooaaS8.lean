/-
 Layer 5, pure: the law of what is hidden and of what is left out holds.
-/
import Derived.Test.YtifleoceebaooaaS7
namespace Go.Proofs.Ytifleoceebaooaa
open Go.RowKit

set_option linter.unusedVariables false
set_option linter.unusedSectionVars false
set_option linter.unusedSimpArgs false

theorem okZ_valid {s : Sys} (h : validB s = true) : okZ s := by
 have hv := okS_valid h
 have hhi := hv.hi
 have hlen := hv.len
 refine ⟨by omega, fun z hz => ?_⟩
 have := hv.st z hz
 rw [inK_i64, inK_i64, inK_i64]
 omega

theorem hideZ_in {s : Sys} (h : validB s = true) (k : Int) {z : Stp} (hz : z ∈ s.2) : InK .i64 (hideZ k z).1 ∧ InK .i64 (hideZ k z).2.1 ∧ InK .i64 (hideZ k z).2.2 := by
 have hs := (okS_valid h).st z hz
 have hhi := (okS_valid h).hi
 unfold hideZ
 simp only [inK_i64]
 split <;> omega

theorem hide_eq {s : Sys} (h : validB s = true) (k : Int) : refine_hide s.2 k = some (hideL k s.2) := by
 have hv := okS_valid h
 have hlen := hv.len
 obtain ⟨r, e1, e2⟩ := scan2 (R := List Stp) s.2 (fun q out => out = hideL k (s.2.take q)) (fun r => r = hideL k s.2) (body := refine_hide_b1 s.2 k) (s0 := []) rfl
  (fun q z out hq hI => by
   have hlt := (List.getElem?_eq_some_iff.1 hq).1
   have ki : InK .i64 ((q : Int) + 1) := by rw [inK_i64]; omega
   have hm := List.mem_of_getElem? hq
   have e0 : s.2.getD q (0, 0, 0) = z := getD_of hq
   have hol : out.length ≤ 24 := by
    rw [hI]
    have := hideL_len k (s.2.take q)
    rw [List.length_take] at this
    omega
   have hin : ∀ y ∈ out, InK .i64 y.1 ∧ InK .i64 y.2.1 ∧ InK .i64 y.2.2 := fun y hy => by
    rw [hI] at hy
    obtain ⟨w, hw, rfl⟩ := hideL_mem.1 hy
    exact hideZ_in h k (List.mem_of_mem_take hw)
   have hnx : hideL k (s.2.take (q + 1)) = hideF k out z := by
    rw [take_one hq, hI]
    unfold hideL
    rw [List.foldl_append]; rfl
   have hk2 : refine_hide_k2 s.2 (out, (q : Int)) (if z.2.1 = k then 0 else z.2.1) = some (.next (hideF k out z, (q : Int) + 1)) := by
    unfold refine_hide_k2
    simp only [Int.toNat_natCast, e0]
    have hc := index_stp out (hideZ k z) (by omega) hin (hideZ_in h k hm)
    unfold hideZ at hc
    rw [hc, Option.bind_some]
    unfold hideF hideZ
    by_cases hmem : (z.1, if z.2.1 = k then 0 else z.2.1, z.2.2) ∈ out
    ·rw [if_pos hmem, if_neg (by simp [hmem]), ck_pos ki]
    ·rw [if_neg hmem, if_pos (by simp [hmem]), ck_pos (by omega), ck_pos ki]
   refine .inl ⟨hideF k out z, ?_, hnx.symm⟩
   unfold refine_hide_b1
   simp only [Int.toNat_natCast, e0]
   rw [if_pos (by rw [decide_eq_true_eq]; omega), ck_pos (by omega), ck_pos (by omega)]
   by_cases hk : z.2.1 = k
   ·rw [if_pos hk] at hk2
    rw [if_pos (by rw [decide_eq_true_eq]; exact hk), hk2]
   ·rw [if_neg hk] at hk2
    rw [if_neg (by rw [decide_eq_true_eq]; exact hk), hk2])
  (fun out hI => by
   rw [List.take_length] at hI
   refine ⟨out, ?_, hI⟩
   unfold refine_hide_b1
   simp only
   rw [if_neg (by rw [decide_eq_true_eq]; omega)])
 unfold refine_hide
 rw [e1, Option.bind_some, e2]
 rfl

theorem Hidden_eq {s : Sys} (h : validB s = true) {k : Int} (h1 : 0 < k) (h3 : k ≤ 3) : refine_Hidden s k = some (s.1, hideL k s.2, 0) := by
 unfold refine_Hidden
 rw [Valid_eq s (okZ_valid h), Option.bind_some, h, if_neg (by simp), isSeen_eq, Option.bind_some, if_neg (by simp [h1, h3]), hide_eq h, Option.bind_some]

/-! ### One step left out -/

theorem while3 {S R : Type} {body : S → Option (Step S R)} {s0 s1 s2 : S} {r : R} (h0 : body s0 = some (.next s1)) (h1 : body s1 = some (.next s2)) (h2 : body s2 = some (.done r)) : whileO body s0 = some r :=
 whileO_of (n := 3) (by simp [whileN, h0, h1, h2])

theorem Grow_eq {n : Int} (h0 : 0 ≤ n) (h1 : n ≤ 1000) : slices_Grow n = some () := by
 unfold slices_Grow
 have e : n - (0 - 0) = n := by omega
 rw [if_neg (by simpa using h0), e, ck_pos (by rw [inK_i64]; omega), ck_pos (by rw [inK_i64]; omega)]
 by_cases hp : 0 < n
 ·rw [if_pos (by simpa using hp), ck_pos hp, ck_pos (by omega), ck_pos (by omega), ck_pos (by omega), ck_pos (by omega)]
 ·rw [if_neg (by simpa using hp)]

theorem Concat_eq (a b : List Stp) (ha : a.length ≤ 100) (hb : b.length ≤ 100) : slices_Concat [a, b] = some (a ++ b) := by
 unfold slices_Concat
 have l1 : whileO (slices_Concat_b1 [a, b]) (0, 0) = some ((a.length : Int) + (b.length : Int)) := by
  refine while3 (s1 := ((a.length : Int), 1)) (s2 := ((a.length : Int) + (b.length : Int), 2)) ?_ ?_ ?_
  ·unfold slices_Concat_b1
   rw [if_pos (by simp)]
   show ck _ (ck _ (ck (InK .i64 (0 + ((a.length : Nat) : Int))) _)) = _
   rw [ck_pos (by simp), ck_pos (by simp), ck_pos (by rw [inK_i64]; omega)]
   show (if decide (0 + ((a.length : Nat) : Int) < 0) = true then none else ck _ (some (Step.next (0 + ((a.length : Nat) : Int), _)))) = _
   rw [if_neg (by simp), ck_pos (by rw [inK_i64]; omega), Int.zero_add]; rfl
  ·unfold slices_Concat_b1
   rw [if_pos (by simp)]
   show ck _ (ck _ (ck (InK .i64 ((a.length : Int) + ((b.length : Nat) : Int))) _)) = _
   rw [ck_pos (by simp), ck_pos (by simp), ck_pos (by rw [inK_i64]; omega)]
   show (if decide ((a.length : Int) + ((b.length : Nat) : Int) < 0) = true then none else ck _ (some (Step.next ((a.length : Int) + ((b.length : Nat) : Int), _)))) = _
   rw [if_neg (by simp; omega), ck_pos (by rw [inK_i64]; omega)]; rfl
  ·unfold slices_Concat_b1
   rw [if_neg (by simp)]
 have l2 : whileO (slices_Concat_b2 [a, b]) ([], 0) = some (a ++ b) := by
  refine while3 (s1 := (a, 1)) (s2 := (a ++ b, 2)) ?_ ?_ ?_
  ·unfold slices_Concat_b2
   rw [if_pos (by simp), ck_pos (by simp), ck_pos (by simp), ck_pos (by simp; omega), ck_pos (by rw [inK_i64]; omega)]; rfl
  ·unfold slices_Concat_b2
   rw [if_pos (by simp), ck_pos (by simp), ck_pos (by simp), ck_pos (by simp; omega), ck_pos (by rw [inK_i64]; omega)]; rfl
  ·unfold slices_Concat_b2
   rw [if_neg (by simp)]
 rw [l1, Option.bind_some]
 unfold slices_Concat_k1 slices_Concat_k2
 rw [Grow_eq (by omega) (by omega), Option.bind_some, l2]; rfl

theorem Without_eq {s : Sys} (h : validB s = true) {i : Nat} (hi : i < s.2.length) : refine_Without s (i : Int) = some (s.1, s.2.eraseIdx i, 0) := by
 have hlen := (okS_valid h).len
 have e : ((i : Int) + 1).toNat = i + 1 := by omega
 unfold refine_Without
 rw [Valid_eq s (okZ_valid h), Option.bind_some, h, if_neg (by simp), if_neg (by rw [decide_eq_true_eq]; omega), if_neg (by rw [decide_eq_true_eq]; omega), ck_pos (by omega), ck_pos (by omega), ck_pos (by rw [inK_i64]; omega), ck_pos (by omega), ck_pos (by omega), Int.toNat_natCast, e, Concat_eq _ _ (by rw [List.length_take]; omega) (by rw [List.length_drop]; omega), Option.bind_some, List.eraseIdx_eq_take_drop_succ]

theorem without_valid {s : Sys} (h : validB s = true) (i : Nat) : validB (s.1, s.2.eraseIdx i) = true := by
 have hv := okS_valid h
 have hsub := List.eraseIdx_sublist s.2 i
 exact validB_of hv.lo hv.hi (Nat.le_trans hsub.length_le hv.len) (fun z hz => hv.st z (hsub.subset hz)) ((valid_nd h).sublist hsub)

end Go.Proofs.Ytifleoceebaooaa
