/-
  Layer 3, pure: WeaveExchanges.
-/
import Derived.Test.YtcijihofjcfpoabW4
namespace Go.Proofs.Ytcijihofjcfpoab
open Go.RowKit

set_option linter.unusedVariables false
set_option linter.unusedSimpArgs false
set_option maxRecDepth 10000

theorem errW_ok {l : Ltr} {ws : List (List Int)} (h : errW l ws = 0) : okL l = true ∧ ∀ w ∈ ws, isWd l w = true := by
  unfold errW at h
  by_cases h1 : okL l = true
  · rw [if_pos h1] at h
    by_cases h2 : ws.all (isWd l) = true
    · exact ⟨h1, List.all_eq_true.1 h2⟩
    · rw [if_neg h2] at h; cases h
  · rw [if_neg h1] at h; cases h

theorem errW_nil {l : Ltr} {w : List Int} : errW l [w, []] = errW l [w] := by
  unfold errW
  have : isWd l [] = true := by simp [isWd]
  simp [this]

/-- Whether there is an exchange at a place. -/
def canX (l : Ltr) (w : List Int) (at0 : Int) : Bool := decide (0 ≤ at0) && decide (at0 < (w.length : Int) - 1) && !dep l (w.getD at0.toNat 0) (w.getD (at0 + 1).toNat 0)
def swp (w : List Int) (at0 : Int) : List Int := (w.set at0.toNat (w.getD (at0 + 1).toNat 0)).set (at0 + 1).toNat (w.getD at0.toNat 0)

theorem getD_mem {w : List Int} {i : Nat} (h : i < w.length) : w.getD i 0 ∈ w := by
  have := List.getElem?_eq_getElem h
  rw [getD_of this]; exact List.mem_of_getElem? this

theorem exchange_eq {l : Ltr} {t : El T59} (ht : Ties l t) (at0 : Int) {w : List Int} (hw : ∀ x ∈ w, 0 ≤ x ∧ x < 6) (hl : w.length ≤ 1000) :
    weave_ties_exchange t at0 w = some (if canX l w at0 = true then (true, swp w at0) else (false, w)) := by
  unfold weave_ties_exchange canX
  by_cases h0 : at0 < 0
  · rw [if_pos (by simpa using h0), if_neg (by simp; omega)]
  rw [if_neg (by simpa using h0), ck_pos (by rw [inK_i64]; omega)]
  by_cases h1 : (w.length : Int) - 1 ≤ at0
  · rw [if_pos (by simpa using h1), if_neg (by simp; omega)]
  rw [if_neg (by simpa using h1)]
  have ha := hw _ (getD_mem (w := w) (i := at0.toNat) (by omega))
  have hb := hw _ (getD_mem (w := w) (i := (at0 + 1).toNat) (by omega))
  rw [ck_pos (by omega), ck_pos (by omega), ck_pos (by rw [inK_i64]; omega), ck_pos (by omega), ck_pos (by omega), ck_pos ha.1, ck_pos ha.2, ck_pos hb.1, ck_pos hb.2]
  have e1 : boolAt T59 t ((0 + (w.getD at0.toNat 0).toNat * 6) + (w.getD (at0 + 1).toNat 0).toNat * 1) = dep l (w.getD at0.toNat 0) (w.getD (at0 + 1).toNat 0) := ht _ _ ha.1 ha.2 hb.1 hb.2
  rw [e1]
  have g1 : decide (0 ≤ at0) = true := by simp; omega
  have g2 : decide (at0 < (w.length : Int) - 1) = true := by simp; omega
  rw [g1, g2]
  cases dep l (w.getD at0.toNat 0) (w.getD (at0 + 1).toNat 0) with
  | true => rfl
  | false =>
    rw [if_neg (by simp)]
    iterate 2 rw [ck_pos (by rw [inK_i64]; omega)]
    iterate 7 rw [ck_pos (by omega)]
    rw [ck_pos (by rw [List.length_set]; omega)]
    rfl

theorem Clone_eq3 (w : List Int) (hl : w.length ≤ 1000) : slices_Clone w = some w := by
  unfold slices_Clone
  rw [ck_pos (by omega)]

theorem Exchanged_eq (l : Ltr) (w : List Int) (at0 : Int) (hl : few l.2) (hw : w.length ≤ 60) : weave_Exchanged l w at0 = some (if errW l [w] = 0 then (if canX l w at0 = true then (swp w at0, 0) else ([], 2)) else ([], errW l [w])) := by
  unfold weave_Exchanged
  obtain ⟨t, e, ht⟩ := checked_eq3 l [w] hl (by unfold few; simp) (fun u hu => by simp at hu; subst hu; exact few_of hw)
  rw [e, Option.bind_some]
  by_cases h0 : errW l [w] = 0
  · obtain ⟨hok, hwd⟩ := errW_ok h0
    rw [if_neg (by simp [h0]), Clone_eq3 w (by omega), Option.bind_some, exchange_eq (ht h0) at0 (isWd_six hok (hwd w (by simp))) (by omega), Option.bind_some, if_pos h0]
    cases canX l w at0 <;> rfl
  · rw [if_pos (by simp [h0]), if_neg h0]

theorem can_eq (l : Ltr) (w : List Int) (at0 : Int) (hl : few l.2) (hw : w.length ≤ 1000) : linealref03_can l w at0 = some (canX l w at0) := by
  unfold linealref03_can canX
  by_cases h0 : 0 ≤ at0
  · rw [if_pos (by simpa using h0), ck_pos (by rw [inK_i64]; omega)]
    by_cases h1 : at0 < (w.length : Int) - 1
    · rw [if_pos (by simpa using h1), ck_pos h0, ck_pos (by omega), ck_pos (by rw [inK_i64]; omega), ck_pos (by omega), ck_pos (by omega), depend_eq l _ _ hl, Option.bind_some]
      have g1 : decide (0 ≤ at0) = true := by simp; omega
      have g2 : decide (at0 < (w.length : Int) - 1) = true := by simp; omega
      rw [g1, g2]; rfl
    · rw [if_neg (by simpa using h1)]
      have g2 : decide (at0 < (w.length : Int) - 1) = false := by simp; omega
      rw [g2]; simp
  · rw [if_neg (by simpa using h0)]
    have g1 : decide (0 ≤ at0) = false := by simp; omega
    rw [g1]; simp

theorem rExchanged_eq (l : Ltr) (w : List Int) (at0 : Int) (hl : few l.2) (hw : w.length ≤ 60) : linealref03_Exchanged l w at0 = some (if errW l [w] = 0 then (if canX l w at0 = true then (swp w at0, 0) else ([], 2)) else ([], errW l [w])) := by
  unfold linealref03_Exchanged
  rw [asked_eq l w [] hl (few_of hw) (by unfold few; simp), Option.bind_some, errW_nil]
  by_cases h0 : errW l [w] = 0
  · rw [if_neg (by simp [h0]), can_eq l w at0 hl (by omega), Option.bind_some, if_pos h0]
    cases hc : canX l w at0 with
    | false => rfl
    | true =>
      have hc' := hc
      unfold canX at hc'
      simp only [Bool.and_eq_true, decide_eq_true_eq] at hc'
      simp only [Bool.not_true, Bool.false_eq_true, if_false, if_true]
      have : linealref03_exchanged w at0 = some () := by
        unfold linealref03_exchanged
        rw [ck_pos (by omega)]
        iterate 2 rw [ck_pos (by rw [inK_i64]; omega)]
        iterate 7 rw [ck_pos (by omega)]
        rw [ck_pos (by rw [List.length_set]; omega)]
      rw [this, Option.bind_some]; rfl
  · rw [if_pos (by simp [h0]), if_neg h0]

theorem Depend_eq (l : Ltr) (a b : Int) (hl : few l.2) : weave_Depend l a b = some (if okL l = true then (if isLet l a = true ∧ isLet l b = true then (dep l a b, 0) else (false, 2)) else (false, 30)) := by
  unfold weave_Depend
  obtain ⟨t, e, ht⟩ := checked_eq3 l [] hl (by unfold few; simp) (fun u hu => by simp at hu)
  rw [e, Option.bind_some]
  have he : errW l [] = if okL l = true then 0 else 30 := by unfold errW; simp
  by_cases hok : okL l = true
  · have h0 : errW l [] = 0 := by rw [he, if_pos hok]
    rw [if_neg (by simp [h0]), isLetter_eq, Option.bind_some, if_pos hok]
    cases ha : isLet l a with
    | false => simp
    | true =>
      simp only [Bool.not_true, Bool.false_eq_true, if_false]
      rw [isLetter_eq, Option.bind_some]
      cases hb : isLet l b with
      | false => simp
      | true =>
        have hn := okL_N hok
        unfold isLet at ha hb
        simp only [Bool.and_eq_true, decide_eq_true_eq] at ha hb
        simp only [Bool.not_true, Bool.false_eq_true, if_false, and_self, if_true]
        rw [ck_pos ha.1, ck_pos (by omega), ck_pos hb.1, ck_pos (by omega)]
        have e1 : boolAt T59 t ((0 + a.toNat * 6) + b.toNat * 1) = dep l a b := ht h0 a b ha.1 (by omega) hb.1 (by omega)
        rw [e1]
  · rw [he, if_neg hok, if_pos (by simp), if_neg hok]

theorem rDepend_eq (l : Ltr) (a b : Int) (hl : few l.2) : linealref03_Depend l a b = some (if okL l = true then (if isLet l a = true ∧ isLet l b = true then (dep l a b, 0) else (false, 2)) else (false, 30)) := by
  unfold linealref03_Depend
  rw [rValid_eq l hl, Option.bind_some, rIsLetter_eq, Option.bind_some, rIsLetter_eq, Option.bind_some, depend_eq l a b hl, Option.bind_some]
  cases okL l <;> cases isLet l a <;> cases isLet l b <;> rfl

theorem Valid3_eq (l : Ltr) (hl : few l.2) : weave_Valid l = some (okL l) := by
  unfold weave_Valid
  obtain ⟨r, e, h1, _⟩ := tiesOf_eq l hl
  rw [e, Option.bind_some, h1]

/-- The occurrences of two letters. -/
def proj (w : List Int) (a b : Int) : List Int := w.filter fun x => decide (x = a) || decide (x = b)

theorem proj_loop (w : List Int) (a b : Int) (hl : w.length ≤ 1000) : whileO (weave_Projection_b1 w a b) ([], 0) = some (proj w a b) := by
  have hs := scan2 (R := List Int) w (fun k (u : List Int) => u = proj (w.take k) a b) (fun r => r = proj w a b) (body := weave_Projection_b1 w a b) (s0 := []) (by simp [proj]) ?_ ?_
  · obtain ⟨r, e, h⟩ := hs
    rw [e, h]
  · rintro k x u hk hI
    obtain ⟨hlt, hin⟩ := few_in (few_of hl) hk
    have hul : u.length ≤ 1000 := by rw [hI]; unfold proj; exact Nat.le_trans (List.length_filter_le _ _) (by simp; omega)
    unfold weave_Projection_b1
    simp only
    rw [if_pos (by simpa using hlt), ck_pos (by simp), ck_pos (by simpa using hlt), Int.toNat_natCast, getD_of hk]
    have hp : proj (w.take (k + 1)) a b = proj (w.take k) a b ++ (if x = a ∨ x = b then [x] else []) := by
      rw [take_one hk]; unfold proj
      rw [List.filter_append]
      by_cases e1 : x = a <;> by_cases e2 : x = b <;> simp [e1, e2]
    by_cases e1 : x = a
    · rw [if_pos (by simpa using e1), ck_pos (by omega), ck_pos hin]
      exact .inl ⟨_, rfl, by rw [hp, if_pos (.inl e1), hI]⟩
    · rw [if_neg (by simpa using e1)]
      by_cases e2 : x = b
      · rw [if_pos (by simpa using e2), ck_pos (by omega), ck_pos hin]
        exact .inl ⟨_, rfl, by rw [hp, if_pos (.inr e2), hI]⟩
      · rw [if_neg (by simpa using e2), ck_pos hin]
        exact .inl ⟨_, rfl, by rw [hp, if_neg (by simp [e1, e2]), List.append_nil, hI]⟩
  · intro u hI
    rw [List.take_length] at hI
    unfold weave_Projection_b1
    rw [if_neg (by simp)]
    exact ⟨_, rfl, hI⟩

theorem Projection_eq (l : Ltr) (w : List Int) (a b : Int) (hl : few l.2) (hw : w.length ≤ 60) : weave_Projection l w a b = some (if errW l [w] = 0 then (if isLet l a = true ∧ isLet l b = true then (proj w a b, 0) else ([], 2)) else ([], errW l [w])) := by
  unfold weave_Projection
  obtain ⟨t, e, ht⟩ := checked_eq3 l [w] hl (by unfold few; simp) (fun u hu => by simp at hu; subst hu; exact few_of hw)
  rw [e, Option.bind_some]
  by_cases h0 : errW l [w] = 0
  · rw [if_neg (by simp [h0]), isLetter_eq, Option.bind_some, if_pos h0, isLetter_eq, Option.bind_some, proj_loop w a b (by omega), Option.bind_some]
    cases isLet l a <;> cases isLet l b <;> rfl
  · rw [if_pos (by simp [h0]), if_neg h0]

theorem rProjection_eq (l : Ltr) (w : List Int) (a b : Int) (hl : few l.2) (hw : w.length ≤ 60) : linealref03_Projection l w a b = some (if errW l [w] = 0 then (if isLet l a = true ∧ isLet l b = true then (proj w a b, 0) else ([], 2)) else ([], errW l [w])) := by
  unfold linealref03_Projection
  rw [asked_eq l w [] hl (few_of hw) (by unfold few; simp), Option.bind_some, errW_nil]
  have hloop : whileO (linealref03_Projection_b1 w a b) ([], 0) = some (proj w a b) := proj_loop w a b (by omega)
  by_cases h0 : errW l [w] = 0
  · rw [if_neg (by simp [h0]), rIsLetter_eq, Option.bind_some, if_pos h0, rIsLetter_eq, Option.bind_some, hloop, Option.bind_some]
    cases isLet l a <;> cases isLet l b <;> rfl
  · rw [if_pos (by simp [h0]), if_neg h0]

theorem swp_len (w : List Int) (at0 : Int) : (swp w at0).length = w.length := by simp [swp]

/-- What the memory's bound says of the letters that a law is given. -/
def okLt (l : Ltr) : Prop := few l.2

theorem WeaveExchanges_eq (l : Ltr) (hl : few l.2) (w : List Int) (at0 a b : Int) : lineallaw03_WeaveExchanges l w at0 a b = some true := by
  unfold lineallaw03_WeaveExchanges
  rw [Long3_eq l [w] (by unfold few; simp), Option.bind_some]
  by_cases hlong : (!([w].all fun u => decide (u.length ≤ 60)) || decide (60 < l.2.length)) = true
  · rw [if_pos hlong, Awake3_eq]; rfl
  rw [if_neg hlong]
  have hw : w.length ≤ 60 := by
    simp only [Bool.not_eq_true, Bool.or_eq_false_iff, Bool.not_eq_false'] at hlong
    simpa using hlong.1
  rw [Depend_eq l a b hl, Option.bind_some, rDepend_eq l a b hl, Option.bind_some, Valid3_eq l hl, Option.bind_some, rValid_eq l hl, Option.bind_some]
  rw [if_neg (by simp), if_neg (by simp), if_neg (by simp)]
  rw [Exchanged_eq l w at0 hl hw, Option.bind_some, rExchanged_eq l w at0 hl hw, Option.bind_some]
  have hs : ∀ x : List Int × Int, x.1.length ≤ 60 → linealref03_SameInts x.1 x.1 = some true := fun x hx => by rw [SameInts_eq3 _ _ (few_of hx) (few_of hx)]; simp
  rw [hs _ (by
    split
    · split
      · simp [swp_len]; omega
      · simp
    · simp), Option.bind_some, if_neg (by simp), if_neg (by simp)]
  rw [Projection_eq l w a b hl hw, Option.bind_some, rProjection_eq l w a b hl hw, Option.bind_some]
  rw [hs _ (by
    split
    · split
      · exact Nat.le_trans (List.length_filter_le _ _) hw
      · simp
    · simp), Option.bind_some, if_pos rfl, if_pos (by simp), Awake3_eq]
  rfl

end Go.Proofs.Ytcijihofjcfpoab
