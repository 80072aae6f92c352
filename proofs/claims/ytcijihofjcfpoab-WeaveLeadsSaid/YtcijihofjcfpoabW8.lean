/-
  Layer 3, pure: WeaveClasses.
-/
import Derived.Test.YtcijihofjcfpoabW7
namespace Go.Proofs.Ytcijihofjcfpoab
open Go.RowKit

set_option linter.unusedVariables false
set_option linter.unusedSimpArgs false
set_option maxRecDepth 10000

theorem SameLists_eq3 (a b : List (List Int)) (ha : few a) (hb : few b) (ka : ∀ x ∈ a, x.length ≤ 1000) (kb : ∀ x ∈ b, x.length ≤ 1000) : linealref03_SameLists a b = some (decide (a = b)) := by
  unfold linealref03_SameLists
  by_cases hl : a.length = b.length
  · rw [if_neg (by simp [hl])]
    have hloop : whileO (linealref03_SameLists_b1 a b) 0 = some (if (a.zip b).all (fun q => decide (q.1 = q.2)) = true then .inr () else .inl ()) := by
      have hz : (a.zip b).length = a.length := by simp [hl]
      refine whileO_all (a.zip b) _ (fun k x hk => ?_) ?_
      · have hk' := (List.getElem?_eq_some_iff.1 hk).1
        have hka : k < a.length := by omega
        obtain ⟨x1, x2⟩ := x
        rw [List.getElem?_zip_eq_some] at hk
        obtain ⟨_, hin⟩ := few_in ha hk.1
        unfold linealref03_SameLists_b1
        rw [if_pos (by simpa using hka), ck_pos (by simp), ck_pos (by simpa using hka), ck_pos (by simp), ck_pos (by omega), Int.toNat_natCast, getD_of hk.1, getD_of hk.2,
          SameInts_eq3 x1 x2 (few_of (ka x1 (List.mem_of_getElem? hk.1))) (few_of (kb x2 (List.mem_of_getElem? hk.2))), Option.bind_some]
        by_cases e : x1 = x2
        · rw [if_neg (by simp [e]), ck_pos hin]; simp [e]
        · rw [if_pos (by simp [e])]; simp [e]
      · unfold linealref03_SameLists_b1; rw [hz, if_neg (by simp)]
    rw [hloop, all_zip_eq a b hl, Option.bind_some]
    by_cases e : a = b
    · simp [e, linealref03_SameLists_k1]
    · simp [e]
  · rw [if_pos (by simp; omega)]
    have : a ≠ b := fun e => hl (by rw [e])
    simp [this]

/-- Words are taken until there are enough. -/
theorem fold_most (most : Nat) (hm : most ≤ 1000) : ∀ (L : List (List Int)) (st : List (List Int)), st.length ≤ most → foldY (weave_Class_y1 (most : Int)) L st = some (if st.length + L.length ≤ most then .inl (st ++ L) else .inr (st ++ L.take (most - st.length)))
  | [], st, h => by
    rw [if_pos (by simpa using h)]; simp [foldY]
  | v :: L, st, h => by
    simp only [foldY]
    by_cases e : st.length = most
    · have eb : weave_Class_y1 (most : Int) v st = some (.done st) := by unfold weave_Class_y1; rw [if_pos (by simp; omega)]
      rw [eb, Option.bind_some, if_neg (by simp; omega)]
      simp [e]
    · have eb : weave_Class_y1 (most : Int) v st = some (.next (st ++ [v])) := by unfold weave_Class_y1; rw [if_neg (by simp; omega), ck_pos (by omega)]
      rw [eb, Option.bind_some]
      simp only
      rw [fold_most most hm L (st ++ [v]) (by simp; omega)]
      have e1 : most - st.length = (most - (st.length + 1)) + 1 := by omega
      simp only [List.length_append, List.length_cons, List.length_nil, List.append_assoc, List.cons_append, List.nil_append]
      rw [e1, List.take_succ_cons]
      by_cases hc : st.length + 1 + L.length ≤ most
      · rw [if_pos (by omega), if_pos (by omega)]
      · rw [if_neg (by omega), if_neg (by omega)]

/-- What Class answers. -/
def classA (l : Ltr) (w : List Int) (most : Int) : List (List Int) × Int :=
  if errW l [w] = 0 then (if 0 ≤ most ∧ most ≤ 1000 then ((cls l (w.length + 1) w).take most.toNat, 0) else ([], 2)) else ([], errW l [w])

theorem flatMap_cg {α β : Type} {f g : α → List β} : ∀ (L : List α), (∀ x ∈ L, f x = g x) → L.flatMap f = L.flatMap g
  | [], _ => rfl
  | x :: L, h => by rw [List.flatMap_cons, List.flatMap_cons, h x (by simp), flatMap_cg L fun y hy => h y (by simp [hy])]

theorem cls_stable (l : Ltr) : ∀ (n m : Nat) (w : List Int), w.length < n → w.length < m → cls l n w = cls l m w
  | 0, _, _, h, _ => by omega
  | _, 0, _, _, h => by omega
  | n + 1, m + 1, w, hn, hm => by
    unfold cls
    split
    · rfl
    · refine flatMap_cg (startsL l w) fun p hp => ?_
      have := (wo_some l w p.1 p.2 (startsL_mem hp).1).1
      rw [cls_stable l n m p.2 (by omega) (by omega)]

theorem checked1 (l : Ltr) (w : List Int) (hl : few l.2) (hw : w.length ≤ 60) : ∃ t : El T59, weave_checked l [w] = some (t, errW l [w]) ∧ (errW l [w] = 0 → Ties l t) :=
  checked_eq3 l [w] hl (by unfold few; simp) (fun x hx => by simp at hx; subst hx; exact few_of hw)

theorem Class_eq (l : Ltr) (w : List Int) (most : Int) (hl : few l.2) (hw : w.length ≤ 60) : weave_Class l w most = some (classA l w most) := by
  unfold weave_Class classA
  obtain ⟨t, e, ht⟩ := checked1 l w hl hw
  rw [e, Option.bind_some]
  by_cases h0 : errW l [w] = 0
  · obtain ⟨hok, kw⟩ := errW_ok h0
    have kw := kw w (by simp)
    have hlen := isWd_len kw
    rw [if_neg (by simp [h0]), if_pos h0]
    by_cases m0 : most < 0
    · rw [if_pos (by simpa using m0), if_neg (by omega)]
    rw [if_neg (by simpa using m0)]
    by_cases m1 : 1000 < most
    · rw [if_pos (by simpa using m1), if_neg (by omega)]
    rw [if_neg (by simpa using m1), if_pos (by omega)]
    obtain ⟨m, rfl⟩ : ∃ m : Nat, most = m := ⟨most.toNat, by omega⟩
    have ec : weave_ties_class t w = some () := rfl
    rw [ec, Option.bind_some]
    have hf := fold_most m (by omega) (cls l fuel w) [] (by simp)
    rw [class_ok hok (ht h0) fuel _ _ w _ [] _ (by unfold fuel; omega) kw hf, Option.bind_some, cls_stable l fuel (w.length + 1) w (by unfold fuel; omega) (by omega), Int.toNat_natCast]
    by_cases hc : (([] : List (List Int)).length + (cls l (w.length + 1) w).length ≤ m)
    · rw [if_pos hc]
      simp only [List.nil_append, weave_Class_k1]
      rw [List.take_of_length_le (by simpa using hc)]
    · rw [if_neg hc]
      simp only [List.nil_append, weave_Class_k1, List.length_nil, Nat.sub_zero]
  · rw [if_pos (by simp [h0]), if_neg h0]

theorem take_flat {α : Type} : ∀ (A : List (List α)) (m : Nat), A.flatten.take m = (A.foldl (fun out u => out ++ u.take (m - out.length)) []) := by
  have key : ∀ (A : List (List α)) (m : Nat) (out : List α), out.length ≤ m → A.foldl (fun out u => out ++ u.take (m - out.length)) out = out ++ A.flatten.take (m - out.length) := by
    intro A
    induction A with
    | nil => intro m out h; simp
    | cons u A ih =>
      intro m out h
      rw [List.foldl_cons, ih m _ (by simp; omega), List.flatten_cons, List.append_assoc]
      congr 1
      rw [List.take_append]
      congr 1
      congr 1
      simp; omega
  intro A m
  have := key A m [] (by simp)
  simpa using this.symm

theorem rclass_eq {l : Ltr} (hl : okL l = true) (hf : few l.2) : ∀ (n : Nat) (w : List Int) (m : Nat), w.length < n → isWd l w = true → m ≤ 1000 → linealref03_class n l w (m : Int) = some ((cls l n w).take m)
  | 0, w, m, h, _, _ => by omega
  | n + 1, w, m, hn, hw, hm => by
    have hlen := isWd_len hw
    show linealref03_classF (linealref03_class n) l w (m : Int) = some _
    unfold linealref03_classF
    by_cases m0 : m = 0
    · subst m0; rw [if_pos (by simp)]; simp
    rw [if_neg (by simp; exact m0)]
    unfold cls
    by_cases hw0 : w = []
    · subst hw0
      rw [if_pos (by simp), if_pos rfl]
      obtain ⟨m', rfl⟩ : ∃ m', m = m' + 1 := ⟨m - 1, by omega⟩
      simp
    rw [if_neg (by simp; exact hw0), if_neg hw0, rstarts_eq hl hf hw, Option.bind_some]
    let g : Int × List Int → List (List Int) := fun p => (cls l n p.2).map (p.1 :: ·)
    have hs := scan2 (R := List (List Int)) (startsL l w) (fun k (out : List (List Int)) => out = (((startsL l w).take k).flatMap g).take m) (fun r => r = ((startsL l w).flatMap g).take m) (body := linealref03_class_b1 (linealref03_class n) l w (m : Int) ((startsL l w).map (·.1))) (s0 := []) (by simp) ?_ ?_
    · obtain ⟨r, er, hr⟩ := hs
      rw [er, Option.bind_some, hr]; rfl
    · rintro k p out hk hI
      have hlt := (List.getElem?_eq_some_iff.1 hk).1
      have h6 := startsL_len l w
      have hin : InK .i64 ((k : Int) + 1) := by rw [inK_i64]; omega
      have hp := List.mem_of_getElem? hk
      have hwo := (startsL_mem hp).1
      have hp2 := wo_some l w p.1 p.2 hwo
      obtain ⟨i, ei, hi⟩ := free_eq l w p.1 hf (by omega)
      have hol : out.length ≤ m := by rw [hI]; simp; omega
      have eg : ((startsL l w).map (·.1)).getD (k : Int).toNat 0 = p.1 := by rw [Int.toNat_natCast]; exact getD_of (by rw [List.getElem?_map, hk]; rfl)
      unfold linealref03_class_b1
      simp only
      rw [if_pos (by simp; omega), ck_pos (by simp), ck_pos (by simp; omega)]
      simp only [eg]
      rw [ei, Option.bind_some]
      rcases hi with ⟨rfl, hno⟩ | ⟨j, rfl, hj, hj2⟩
      · rw [hno] at hwo; cases hwo
      · rw [hj2] at hwo
        injection hwo with hwo
        have e1 : ((j : Int) + 1).toNat = j + 1 := by omega
        have e2 : (m : Int) - (out.length : Int) = ((m - out.length : Nat) : Int) := by omega
        have hw' : isWd l p.2 = true := isWd_sub hw (by omega) hp2.2.1
        rw [rwithout_eq w j hj (by omega), Option.bind_some, ck_pos (by rw [inK_i64]; omega), Int.toNat_natCast, e1, hwo, e2, rclass_eq hl hf n p.2 (m - out.length) (by omega) hw' (by omega), Option.bind_some]
        -- the words behind this letter
        have hin2 := scan2 (R := List (List Int)) ((cls l n p.2).take (m - out.length)) (fun q (o2 : List (List Int)) => o2 = out ++ (((cls l n p.2).take (m - out.length)).take q).map (p.1 :: ·)) (fun r => r = out ++ ((cls l n p.2).take (m - out.length)).map (p.1 :: ·))
          (body := linealref03_class_b2 ((startsL l w).map (·.1)) (out, (k : Int)) ((cls l n p.2).take (m - out.length))) (s0 := out) (by simp) ?_ ?_
        · obtain ⟨r, er, hr⟩ := hin2
          rw [er, Option.bind_some]
          unfold linealref03_class_k2
          rw [ck_pos hin]
          refine .inl ⟨_, rfl, ?_⟩
          rw [hr, take_one hk, List.flatMap_append, List.take_append, ← hI]
          congr 1
          simp only [List.flatMap_cons, List.flatMap_nil, List.append_nil]
          rw [List.map_take]
          by_cases hc : (((startsL l w).take k).flatMap g).length ≤ m
          · have : out.length = (((startsL l w).take k).flatMap g).length := by rw [hI, List.length_take]; exact Nat.min_eq_right hc
            rw [this]
          · have h1 : m - (((startsL l w).take k).flatMap g).length = 0 := by omega
            have h2 : m - out.length = 0 := by rw [hI, List.length_take]; omega
            rw [h1, h2]
        · rintro q v o2 hq hI2
          have hqlt := (List.getElem?_eq_some_iff.1 hq).1
          have hv := cls_len l n p.2 v (List.mem_of_mem_take (List.mem_of_getElem? hq))
          have hl2 : o2.length ≤ 1000 := by rw [hI2]; simp; simp at hqlt; omega
          have hql : q < 1000 := by simp at hqlt; omega
          unfold linealref03_class_b2
          simp only [eg]
          rw [if_pos (by simpa using hqlt), ck_pos (by simp), ck_pos (by simpa using hqlt), Int.toNat_natCast, getD_of hq, ck_pos (by omega), ck_pos (by omega), ck_pos (by rw [inK_i64]; omega)]
          refine .inl ⟨_, rfl, ?_⟩
          rw [take_one hq, List.map_append, hI2]; simp
        · intro o2 hI2
          rw [List.take_length] at hI2
          unfold linealref03_class_b2
          simp only
          rw [if_neg (by simp)]
          exact ⟨_, rfl, hI2⟩
    · intro out hI
      rw [List.take_length] at hI
      unfold linealref03_class_b1
      simp only
      rw [if_neg (by simp)]
      exact ⟨_, rfl, hI⟩

theorem rClass_eq (l : Ltr) (w : List Int) (most : Int) (hl : few l.2) (hw : w.length ≤ 60) : linealref03_Class l w most = some (classA l w most) := by
  unfold linealref03_Class classA
  rw [asked_eq l w [] hl (few_of hw) (by unfold few; simp), Option.bind_some, errW_nil]
  by_cases h0 : errW l [w] = 0
  · obtain ⟨hok, kw⟩ := errW_ok h0
    have kw := kw w (by simp)
    have hlen := isWd_len kw
    rw [if_neg (by simp [h0]), if_pos h0]
    by_cases m0 : most < 0
    · rw [if_pos (by simpa using m0), if_neg (by omega)]
    rw [if_neg (by simpa using m0)]
    by_cases m1 : 1000 < most
    · rw [if_pos (by simpa using m1), if_neg (by omega)]
    rw [if_neg (by simpa using m1), if_pos (by omega)]
    obtain ⟨m, rfl⟩ : ∃ m : Nat, most = m := ⟨most.toNat, by omega⟩
    rw [rclass_eq hok hl fuel w m (by unfold fuel; omega) kw (by omega), Option.bind_some, Int.toNat_natCast, cls_stable l fuel (w.length + 1) w (by unfold fuel; omega) (by omega)]
  · rw [if_pos (by simp [h0]), if_neg h0]

theorem classA_small (l : Ltr) (w : List Int) (most : Int) : (classA l w most).1.length ≤ 1000 ∧ ∀ x ∈ (classA l w most).1, x.length ≤ 1000 := by
  unfold classA
  by_cases h0 : errW l [w] = 0
  · obtain ⟨hok, kw⟩ := errW_ok h0
    have hlen := isWd_len (kw w (by simp))
    rw [if_pos h0]
    by_cases hm : 0 ≤ most ∧ most ≤ 1000
    · rw [if_pos hm]
      refine ⟨by simp; omega, fun x hx => ?_⟩
      have := cls_len l _ w x (List.mem_of_mem_take hx)
      omega
    · rw [if_neg hm]; simp
  · rw [if_neg h0]; simp

theorem WeaveClasses_eq (l : Ltr) (hl : few l.2) (w : List Int) (most : Int) : lineallaw03_WeaveClasses l w most = some true := by
  unfold lineallaw03_WeaveClasses
  rw [Long3_eq l [w] (by unfold few; simp), Option.bind_some]
  by_cases hlong : (!([w].all fun u => decide (u.length ≤ 60)) || decide (60 < l.2.length)) = true
  · rw [if_pos hlong, Awake3_eq]; rfl
  rw [if_neg hlong]
  have hw : w.length ≤ 60 := by
    simp only [Bool.not_eq_true, Bool.or_eq_false_iff, Bool.not_eq_false'] at hlong
    simpa using hlong.1
  have main : lineallaw03_WeaveClasses_k1 l w most = some true := by
    unfold lineallaw03_WeaveClasses_k1
    obtain ⟨h1, h2⟩ := classA_small l w most
    rw [Class_eq l w most hl hw, Option.bind_some, rClass_eq l w most hl hw, Option.bind_some, SameLists_eq3 _ _ (few_of h1) (few_of h1) h2 h2, Option.bind_some, if_pos (by simp), if_pos (by simp), Awake3_eq]
    rfl
  rw [main, Awake3_eq]
  split
  · split <;> rfl
  · rfl

end Go.Proofs.Ytcijihofjcfpoab
