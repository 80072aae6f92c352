/-
  Layer 3, pure: WeaveBegins.
-/
import Derived.Test.YtcijihofjcfpoabW8
import Derived.Test.YtcijihofjcfpoabW10
namespace Go.Proofs.Ytcijihofjcfpoab
open Go.RowKit

set_option linter.unusedVariables false
set_option linter.unusedSimpArgs false
set_option maxRecDepth 10000

variable {l : Ltr}

theorem errW_of {ws : List (List Int)} (hl : okL l = true) (h : ∀ w ∈ ws, isWd l w = true) : errW l ws = 0 := by
  unfold errW
  rw [if_pos hl, if_pos (List.all_eq_true.2 h)]

theorem errW_of2 {u w : List Int} (hl : okL l = true) (hu : isWd l u = true) (hw : isWd l w = true) : errW l [u, w] = 0 :=
  errW_of hl (by simp [hu, hw])
theorem errW_of1 {w : List Int} (hl : okL l = true) (hw : isWd l w = true) : errW l [w] = 0 := errW_of hl (by simp [hw])

theorem len60 {w : List Int} (h : isWd l w = true) : w.length ≤ 60 := by have := isWd_len h; omega

theorem Joined_ok {u w : List Int} (hf : few l.2) (hl : okL l = true) (hu : isWd l u = true) (hw : isWd l w = true) : weave_Joined l u w = some (if u.length + w.length ≤ 10 then (FF l (u ++ w), 0) else ([], 4)) := by
  rw [Joined_eq l u w hf (len60 hu) (len60 hw)]
  unfold joinA; rw [if_pos (errW_of2 hl hu hw)]

theorem Begins_ok {u w : List Int} (hf : few l.2) (hl : okL l = true) (hu : isWd l u = true) (hw : isWd l w = true) : weave_Begins l u w = some ((rs l u w).isSome, 0) := by
  rw [Begins_eq l u w hf (len60 hu) (len60 hw)]
  unfold beginA; rw [if_pos (errW_of2 hl hu hw)]

theorem Rest_ok {u w : List Int} (hf : few l.2) (hl : okL l = true) (hu : isWd l u = true) (hw : isWd l w = true) : weave_Rest l u w = some (match rs l u w with | some v => (FF l v, 0) | none => ([], 5)) := by
  rw [Rest_eq l u w hf (len60 hu) (len60 hw)]
  unfold restA; rw [if_pos (errW_of2 hl hu hw)]
  cases rs l u w <;> rfl

theorem First_ok {w : List Int} (hf : few l.2) (hl : okL l = true) (hw : isWd l w = true) : weave_First l w = some (FF l w, 0) := by
  unfold weave_First
  obtain ⟨t, e, ht⟩ := checked1 l w hf (len60 hw)
  have h0 := errW_of1 hl hw
  rw [e, Option.bind_some, h0, if_neg (by simp), first_eq hl (ht h0) hw, Option.bind_some]

/-- The law's own questions, answered. -/
theorem valid_cases (ws : List (List Int)) (hf : few l.2) (hfw : few ws) :
    lineallaw03_valid l ws = some false ∨ (lineallaw03_valid l ws = some true ∧ okL l = true ∧ ∀ w ∈ ws, isWd l w = true) := by
  by_cases hlong : (!(ws.all fun u => decide (u.length ≤ 60)) || decide (60 < l.2.length)) = true
  · left
    unfold lineallaw03_valid
    rw [Long3_eq l ws hfw, Option.bind_some, if_pos hlong]
  have hw : ∀ w ∈ ws, few w := fun w hm => by
    simp only [Bool.not_eq_true, Bool.or_eq_false_iff, Bool.not_eq_false'] at hlong
    have := List.all_eq_true.1 hlong.1 w hm
    exact few_of (by simpa using this)
  rw [valid_eq l ws hf hfw hw]
  by_cases h : errW l ws = 0
  · obtain ⟨h1, h2⟩ := errW_ok h
    cases hb : (!(!(ws.all fun w => decide (w.length ≤ 60)) || decide (60 < l.2.length)) && decide (errW l ws = 0)) with
    | false => exact .inl rfl
    | true => exact .inr ⟨rfl, h1, h2⟩
  · left; simp [h]

theorem same_FF {w v : List Int} (hl : okL l = true) (hw : isWd l w = true) (h : FF l w = FF l v) : linealref03_SameInts (FF l w) (FF l v) = some true := by
  rw [h, ← h]
  exact same_self _ (by rw [FF_len hl hw]; have := isWd_len hw; omega)

theorem WeaveBegins_k2_ok {u w v : List Int} (hf : few l.2) (hl : okL l = true) (hu : isWd l u = true) (hw : isWd l w = true) (hv : isWd l v = true) : lineallaw03_WeaveBegins_k2 l u w v (FF l w, 0) = some true := by
  have lu := isWd_len hu
  have lw := isWd_len hw
  have lv := isWd_len hv
  unfold lineallaw03_WeaveBegins_k2
  rw [Joined_ok hf hl hu hw, Option.bind_some]
  by_cases h10 : u.length + w.length ≤ 10
  · rw [if_pos h10]
    have huw := isWd_append hu hw h10
    have hF := FF_isWd hl huw
    have lF := FF_len hl huw
    rw [List.length_append] at lF
    obtain ⟨z, hz, ez⟩ := rs_of_eqv (eqv_symm (FF_eqv hl huw))
    have hzw : isWd l z = true := isWd_rs hF hz
    simp only [decide_true, Bool.not_true, Bool.false_eq_true, if_false]
    rw [Begins_ok hf hl hu hF, Option.bind_some, Rest_ok hf hl hu hF, Option.bind_some, hz]
    simp only [Option.isSome_some, decide_true, Bool.not_true, Bool.false_eq_true, if_false]
    rw [same_FF hl hzw (FF_eq (eqv_symm ez)), Option.bind_some]
    simp only [Bool.not_true, Bool.false_eq_true, if_false]
    rw [Joined_ok hf hl hw hv, Option.bind_some, Joined_ok hf hl hF hv, Option.bind_some, lF]
    by_cases h2 : w.length + v.length ≤ 10
    · have hwv := isWd_append hw hv h2
      by_cases h3 : u.length + w.length + v.length ≤ 10
      · have hFv := isWd_append hF hv (by omega)
        have hG := FF_isWd hl hwv
        have lG := FF_len hl hwv
        rw [List.length_append] at lG
        simp only [if_pos h2, if_pos h3, decide_true, Bool.not_true, Bool.false_eq_true, if_false]
        rw [Joined_ok hf hl hu hG, Option.bind_some, lG, if_pos (show u.length + (w.length + v.length) ≤ 10 by omega)]
        simp only [decide_true, if_true]
        have e1 : FF l (FF l (u ++ w) ++ v) = FF l (u ++ FF l (w ++ v)) := by
          refine FF_eq (eqv_trans (eqv_behind (FF_eqv hl huw)) ?_)
          rw [List.append_assoc]
          exact eqv_front (eqv_symm (FF_eqv hl hwv))
        rw [same_FF hl hFv e1, Option.bind_some]
        simp only [if_true]
        rw [Awake3_eq]; rfl
      · simp only [if_pos h2, if_neg h3]
        simp only [Awake3_eq]; rfl
    · have h3 : ¬ u.length + w.length + v.length ≤ 10 := by omega
      simp only [if_neg h2, if_neg h3]
      simp only [Awake3_eq]; rfl
  · rw [if_neg h10]
    have : decide (10 < ((u.length : Int) + (w.length : Int))) = true := by simp; omega
    simp only [this, Awake3_eq]
    rw [ck_pos (by rw [inK_i64]; omega)]
    rfl

theorem WeaveBegins_eq (l : Ltr) (hf : few l.2) (u w v : List Int) : lineallaw03_WeaveBegins l u w v = some true := by
  unfold lineallaw03_WeaveBegins
  rcases valid_cases (l := l) [u, w, v] hf (by unfold few; simp) with h | ⟨h, hl, hws⟩
  · rw [h, Option.bind_some, Awake3_eq]; rfl
  rw [h, Option.bind_some]
  have hu := hws u (by simp)
  have hw := hws w (by simp)
  have hv := hws v (by simp)
  simp only [Bool.not_true, Bool.false_eq_true, if_false]
  rw [Begins_ok hf hl hu hw, Option.bind_some, Rest_ok hf hl hu hw, Option.bind_some, First_ok hf hl hw, Option.bind_some]
  have k2 := WeaveBegins_k2_ok hf hl hu hw hv
  cases hr : rs l u w with
  | none =>
    simp only [Option.isSome_none, decide_true, Bool.not_true, Bool.false_eq_true, if_false]
    unfold lineallaw03_WeaveBegins_k1
    simp [k2]
  | some z =>
    have hz := isWd_rs hw hr
    have hFz := FF_isWd hl hz
    have lz := FF_len hl hz
    have l1 := (rs_some l u w z hr).1
    have lw := isWd_len hw
    have huz : isWd l (u ++ FF l z) = true := isWd_append hu hFz (by omega)
    simp only [Option.isSome_some, decide_true, Bool.not_true, Bool.false_eq_true, if_false]
    unfold lineallaw03_WeaveBegins_k1
    simp only [if_true]
    rw [Joined_ok hf hl hu hFz, Option.bind_some, if_pos (show u.length + (FF l z).length ≤ 10 by omega)]
    simp only [decide_true, Bool.not_true, Bool.false_eq_true, if_false]
    rw [same_FF hl huz (FF_eq (eqv_trans (eqv_front (FF_eqv hl hz)) (eqv_of_rs hr))), Option.bind_some]
    simp [k2]

end Go.Proofs.Ytcijihofjcfpoab
