/-
  Layer 3, pure: TopWeave answers true.
-/
import Derived.Test.YtabchabbdnhjpaaV24
import Derived.Test.YtabchabbdnhjpaaV16
namespace Go.Proofs.Ytabchabbdnhjpaa
open Go.RowKit

set_option linter.unusedVariables false
set_option linter.unusedSimpArgs false
set_option maxRecDepth 10000

theorem FF_nil (l : Ltr) : FF l [] = [] := by unfold FF ff; rw [startsL_nil]

theorem SP_apart {l : Ltr} {X Y : List Int} (h : ∀ b, wo l X b = none ∨ wo l Y b = none) : (SP l X Y).1 = [] := by
  have : nx l X Y = none := by
    unfold nx
    rw [List.findSome?_eq_none_iff]
    intro a _
    unfold nxF
    rcases h (a : Int) with e | e
    · rw [e]; rfl
    · rw [e]; cases wo l X (a : Int) <;> rfl
  rw [SP_eq, this]

section
variable {l : Ltr} (hf : few l.2) (hl : okL l = true) {w v : List Int} (hw : isWd l w = true) (hv : isWd l v = true)
include hf hl hw

theorem TopW_loop {L : List (List Int)} (hL : ∀ u ∈ L, eqv l u w) (hfew : few L) (e e2 : Int) : whileO (linealtop_TopWeave_b1 l w (FF l w, e) (L, e2)) 0 = some (.inr ()) := by
  have key := whileO_all (body := linealtop_TopWeave_b1 l w (FF l w, e) (L, e2)) L (fun _ => true) (fun k u hk => by
    obtain ⟨hkl, hin⟩ := few_in hfew hk
    have gu : L.getD k [] = u := getD_of hk
    have he := hL u (List.mem_of_getElem? hk)
    have hu : isWd l u = true := eqv_isWd he hw
    obtain ⟨pl, p1, p2, p3⟩ := Path_ok hf hl hw hu he
    have f1 : (FF l u).length ≤ 10 := by rw [FF_len hl hu]; exact isWd_len hu
    have f2 : (FF l w).length ≤ 10 := by rw [FF_len hl hw]; exact isWd_len hw
    unfold linealtop_TopWeave_b1
    simp only [Int.toNat_natCast, gu]
    rw [if_pos (by rw [decide_eq_true_eq]; omega), ck_pos (by omega), ck_pos (by omega), First_ok hf hl hu, Option.bind_some, Layers_ok hf hl hu, Option.bind_some, Layers_ok hf hl hw, Option.bind_some, p1, Option.bind_some, IsPath_ok hf hl hw hu (by simpa using Nat.le_trans p3 (by omega)) p2, Option.bind_some]
    rw [if_neg (by simp), if_neg (by simp), if_neg (by simp), if_neg (by simp), if_neg (by simp), SameInts_eq3 _ _ (few_of f1) (few_of f2), Option.bind_some, FF_eq he, if_neg (by simp), SameLays_eq hu hw, Option.bind_some, layS_iff.2 he, if_neg (by simp), if_neg (by simp), ck_pos hin]
    rfl) (by
    unfold linealtop_TopWeave_b1
    simp only
    rw [if_neg (by simp)])
  rw [key]
  simp

include hv
theorem TopW_k1 (e1 e2 : Int) : linealtop_TopWeave_k1 l w v (FF l w, e1) (FF l v, e2) = some true := by
  obtain ⟨s1, s2, s3⟩ := SP_rs (l := l) _ w v rfl
  obtain ⟨cw, xw, yw⟩ := SP_words (l := l) hw hv
  have hwl := isWd_len hw
  have hvl := isWd_len hv
  have sl := sp_len l (w.length + 1) w v
  have sl1 : (SP l w v).1.length + (SP l w v).2.1.length = w.length := sl.1
  have sl2 : (SP l w v).1.length + (SP l w v).2.2.length = v.length := sl.2.1
  have hB := Both_ok hf hl hw hv
  have hC := Common_ok hf hl hw hv
  unfold bothB at hB
  generalize (SP l w v).1 = c at *
  generalize (SP l w v).2.1 = x at *
  generalize (SP l w v).2.2 = y at *
  have eC := FF_eqv hl cw
  have wC := FF_isWd hl cw
  have lC := FF_len hl cw
  obtain ⟨x', rx, ex⟩ := rs_eqv s1 (eqv_symm eC) (eqv_refl l w)
  obtain ⟨y', ry, ey⟩ := rs_eqv s2 (eqv_symm eC) (eqv_refl l v)
  have eX := FF_eqv hl xw
  have eY := FF_eqv hl yw
  have wX := FF_isWd hl xw
  have wY := FF_isWd hl yw
  have lX := FF_len hl xw
  have lY := FF_len hl yw
  have hcx : eqv l (FF l c ++ FF l x) w := eqv_trans (eqv_trans (eqv_behind eC) (eqv_front eX)) (eqv_of_rs s1)
  have hcy : eqv l (FF l c ++ FF l y) v := eqv_trans (eqv_trans (eqv_behind eC) (eqv_front eY)) (eqv_of_rs s2)
  have fw : few (FF l w) := few_of (n := 10) (by rw [FF_len hl hw]; exact hwl)
  have fv : few (FF l v) := few_of (n := 10) (by rw [FF_len hl hv]; exact hvl)
  have hap : ∀ b, wo l (FF l x) b = none ∨ wo l (FF l y) b = none := fun b => by
    rcases nx_apart hl xw s3 b with h | h
    · left
      cases hb : wo l (FF l x) b with
      | none => rfl
      | some u => obtain ⟨z, hz, _⟩ := eqv_wo eX hb; rw [h] at hz; cases hz
    · right
      cases hb : wo l (FF l y) b with
      | none => rfl
      | some u => obtain ⟨z, hz, _⟩ := eqv_wo eY hb; rw [h] at hz; cases hz
  have hR1 : weave_Rest l (FF l c) w = some (FF l x, 0) := by rw [Rest_ok hf hl wC hw, rx]; simp only; rw [← FF_eq ex]
  have hR2 : weave_Rest l (FF l c) v = some (FF l y, 0) := by rw [Rest_ok hf hl wC hv, ry]; simp only; rw [← FF_eq ey]
  unfold linealtop_TopWeave_k1
  rw [hC, Option.bind_some]
  simp only
  rw [hR1, Option.bind_some, hR2, Option.bind_some, if_neg (by simp), if_neg (by simp), if_neg (by simp)]
  simp only
  rw [Joined_ok hf hl wC wX, if_pos (by omega), Option.bind_some, Joined_ok hf hl wC wY, if_pos (by omega), Option.bind_some, Common_ok hf hl wX wY, Option.bind_some, SP_apart hap, FF_nil,
    if_neg (by simp), if_neg (by simp), if_neg (by simp), FF_eq hcx, FF_eq hcy, SameInts_eq3 _ _ fw fw, Option.bind_some, if_neg (by simp), SameInts_eq3 _ _ fv fv, Option.bind_some, if_neg (by simp), if_neg (by simp), hB, Option.bind_some]
  by_cases h5 : x.any (fun a => y.any (dep l a)) = true
  · rw [if_pos h5, if_pos (by simp), if_pos (by simp), Awake3_eq]; rfl
  · rw [if_neg h5]
    by_cases h10 : c.length + x.length + y.length ≤ 10
    · have wW := FF_isWd hl hw
      have lW := FF_len hl hw
      rw [if_pos h10, if_neg (by simp), Joined_ok hf hl wW wY, if_pos (by omega), Option.bind_some, if_pos (by simp)]
      simp only
      have he : eqv l (FF l w ++ FF l y) (c ++ x ++ y) := eqv_trans (eqv_behind (eqv_trans (FF_eqv hl hw) (eqv_symm (eqv_of_rs s1)))) (eqv_front eY)
      have wA : isWd l (c ++ x ++ y) = true := isWd_append (isWd_append cw xw (by omega)) yw (by rw [List.length_append]; omega)
      have fA : few (FF l (c ++ x ++ y)) := few_of (n := 10) (by rw [FF_len hl wA, List.length_append, List.length_append]; omega)
      rw [FF_eq he, SameInts_eq3 _ _ fA fA, Option.bind_some, if_pos (by simp), Awake3_eq]; rfl
    · rw [if_neg h10, if_pos (by simp), if_neg (by simp), if_pos (by simp), Awake3_eq]; rfl
end

theorem TopWeave_eq (l : Ltr) (hf : few l.2) (w v : List Int) (most : Int) (hmost : InK .u8 most) : linealtop_TopWeave l w v most = some true := by
  unfold linealtop_TopWeave
  rw [Long3_eq l [w, v] (few_of (n := 2) (by simp)), Option.bind_some]
  by_cases hlong : (!([w, v].all fun w => decide (w.length ≤ 60)) || decide (60 < l.2.length)) = true
  · rw [if_pos hlong, Awake3_eq]; rfl
  rw [if_neg hlong]
  obtain ⟨hw60, hv60⟩ := long2 hlong
  rw [rValid_eq l hf, Option.bind_some]
  by_cases hl0 : okL l = false
  · rw [if_pos (by simpa using hl0), Awake3_eq]; rfl
  have hl : okL l = true := by simpa using hl0
  rw [if_neg (by simp [hl]), rIsWord_eq l w (few_of hw60), Option.bind_some]
  by_cases hw0 : isWd l w = false
  · rw [if_pos (by simpa using hw0), Awake3_eq]; rfl
  have hw : isWd l w = true := by simpa using hw0
  rw [if_neg (by simp [hw]), rIsWord_eq l v (few_of hv60), Option.bind_some]
  by_cases hv0 : isWd l v = false
  · rw [if_pos (by simpa using hv0), Awake3_eq]; rfl
  have hv : isWd l v = true := by simpa using hv0
  have hm : 0 ≤ most ∧ most ≤ 255 := by rw [inK_u8] at hmost; exact hmost
  have fw : few (FF l w) := few_of (n := 10) (by rw [FF_len hl hw]; exact isWd_len hw)
  have fv : few (FF l v) := few_of (n := 10) (by rw [FF_len hl hv]; exact isWd_len hv)
  obtain ⟨pl, p1, _⟩ := Path_eq l w v hf hw60 hv60
  have h0 := errW_of2 hl hw hv
  rw [if_pos h0] at p1
  have e1 : decide (FF l w = FF l v) = decide (eqv l v w) := decide_eq_decide.2 ((eqv_FF hl hw hv).trans ⟨eqv_symm, eqv_symm⟩)
  have e2 : (decide ((if eqv l v w then (0 : Int) else 5) = 0)) = decide (eqv l v w) := decide_eq_decide.2 (by split <;> simp_all)
  rw [if_neg (by simp [hv]), First_ok hf hl hw, Option.bind_some, First_ok hf hl hv, Option.bind_some, Equal_ok hf hl hw hv, Option.bind_some, p1, Option.bind_some, if_neg (by simp), if_neg (by simp), if_neg (by simp)]
  simp only
  have hcl : classA l w most = ((cls l (w.length + 1) w).take most.toNat, 0) := by
    unfold classA
    rw [if_pos (errW_of1 hl hw), if_pos ⟨hm.1, by omega⟩]
  rw [SameInts_eq3 _ _ fw fv, Option.bind_some, if_neg (by simp), e1, e2, if_neg (by simp), ck_pos (by rw [inK_i64]; omega), Class_eq l w most hf hw60, Option.bind_some, hcl]
  have hle : ((cls l (w.length + 1) w).take most.toNat).length ≤ most.toNat := by rw [List.length_take]; omega
  rw [if_neg (by simp)]
  simp only
  rw [ck_pos (by rw [inK_i64]; omega), if_neg (by rw [decide_eq_true_eq]; omega), TopW_loop hf hl hw (fun u hu => (cls_mem hl _ w u (by omega) hw).1 (List.mem_of_mem_take hu)) (few_of (n := 255) (by omega)), Option.bind_some]
  exact TopW_k1 hf hl hw hv 0 0

end Go.Proofs.Ytabchabbdnhjpaa
