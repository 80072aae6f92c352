/-
  Layer 3, pure: WeaveClasses.
-/
import Derived.Test.YtabchabbdnhjpaaV7
namespace Go.Proofs.Ytabchabbdnhjpaa
open Go.RowKit

set_option linter.unusedVariables false
set_option linter.unusedSimpArgs false
set_option maxRecDepth 10000

theorem SameLists_eq3 (a b : List (List Int)) (ha : few a) (hb : few b) (ka : ∀ x ∈ a, x.length ≤ 1000) (kb : ∀ x ∈ b, x.length ≤ 1000) : linealref03_SameLists a b = some (decide (a = b)) := by
  unfold linealref03_SameLists
  by_cases hl : a.length = b.length
  · rw [if_neg (by simp [hl])]
    have hloop : whileO (linealref03_SameLists_b1 a b) 0 = some (if (a.zip b).all (fun q => decide (q.1 = q.2)) = true then .inr () else .inl ()) := by
      have hz : (a.zip b).length = a.length := by simp [hl]
      refine whileO_all (a.zip b) _ (fun k x hk => ?_) ?_
      · have hk' := (List.getElem?_eq_some_iff.1 hk).1
        have hka : k < a.length := by omega
        obtain ⟨x1, x2⟩ := x
        rw [List.getElem?_zip_eq_some] at hk
        obtain ⟨_, hin⟩ := few_in ha hk.1
        unfold linealref03_SameLists_b1
        rw [if_pos (by simpa using hka), ck_pos (by simp), ck_pos (by simpa using hka), ck_pos (by simp), ck_pos (by omega), Int.toNat_natCast, getD_of hk.1, getD_of hk.2,
          SameInts_eq3 x1 x2 (few_of (ka x1 (List.mem_of_getElem? hk.1))) (few_of (kb x2 (List.mem_of_getElem? hk.2))), Option.bind_some]
        by_cases e : x1 = x2
        · rw [if_neg (by simp [e]), ck_pos hin]; simp [e]
        · rw [if_pos (by simp [e])]; simp [e]
      · unfold linealref03_SameLists_b1; rw [hz, if_neg (by simp)]
    rw [hloop, all_zip_eq a b hl, Option.bind_some]
    by_cases e : a = b
    · simp [e, linealref03_SameLists_k1]
    · simp [e]
  · rw [if_pos (by simp; omega)]
    have : a ≠ b := fun e => hl (by rw [e])
    simp [this]

/-- Words are taken until there are enough. -/
theorem fold_most (most : Nat) (hm : most ≤ 1000) : ∀ (L : List (List Int)) (st : List (List Int)), st.length ≤ most → foldY (weave_Class_y1 (most : Int)) L st = some (if st.length + L.length ≤ most then .inl (st ++ L) else .inr (st ++ L.take (most - st.length)))
  | [], st, h => by
    rw [if_pos (by simpa using h)]; simp [foldY]
  | v :: L, st, h => by
    simp only [foldY]
    by_cases e : st.length = most
    · have eb : weave_Class_y1 (most : Int) v st = some (.done st) := by unfold weave_Class_y1; rw [if_pos (by simp; omega)]
      rw [eb, Option.bind_some, if_neg (by simp; omega)]
      simp [e]
    · have eb : weave_Class_y1 (most : Int) v st = some (.next (st ++ [v])) := by unfold weave_Class_y1; rw [if_neg (by simp; omega), ck_pos (by omega)]
      rw [eb, Option.bind_some]
      simp only
      rw [fold_most most hm L (st ++ [v]) (by simp; omega)]
      have e1 : most - st.length = (most - (st.length + 1)) + 1 := by omega
      simp only [List.length_append, List.length_cons, List.length_nil, List.append_assoc, List.cons_append, List.nil_append]
      rw [e1, List.take_succ_cons]
      by_cases hc : st.length + 1 + L.length ≤ most
      · rw [if_pos (by omega), if_pos (by omega)]
      · rw [if_neg (by omega), if_neg (by omega)]

/-- What Class answers. -/
def classA (l : Ltr) (w : List Int) (most : Int) : List (List Int) × Int :=
  if errW l [w] = 0 then (if 0 ≤ most ∧ most ≤ 1000 then ((cls l (w.length + 1) w).take most.toNat, 0) else ([], 2)) else ([], errW l [w])

theorem flatMap_cg {α β : Type} {f g : α → List β} : ∀ (L : List α), (∀ x ∈ L, f x = g x) → L.flatMap f = L.flatMap g
  | [], _ => rfl
  | x :: L, h => by rw [List.flatMap_cons, List.flatMap_cons, h x (by simp), flatMap_cg L fun y hy => h y (by simp [hy])]

theorem cls_stable (l : Ltr) : ∀ (n m : Nat) (w : List Int), w.length < n → w.length < m → cls l n w = cls l m w
  | 0, _, _, h, _ => by omega
  | _, 0, _, _, h => by omega
  | n + 1, m + 1, w, hn, hm => by
    unfold cls
    split
    · rfl
    · refine flatMap_cg (startsL l w) fun p hp => ?_
      have := (wo_some l w p.1 p.2 (startsL_mem hp).1).1
      rw [cls_stable l n m p.2 (by omega) (by omega)]

theorem checked1 (l : Ltr) (w : List Int) (hl : few l.2) (hw : w.length ≤ 60) : ∃ t : El T53, weave_checked l [w] = some (t, errW l [w]) ∧ (errW l [w] = 0 → Ties l t) :=
  checked_eq3 l [w] hl (by unfold few; simp) (fun x hx => by simp at hx; subst hx; exact few_of hw)

theorem Class_eq (l : Ltr) (w : List Int) (most : Int) (hl : few l.2) (hw : w.length ≤ 60) : weave_Class l w most = some (classA l w most) := by
  unfold weave_Class classA
  obtain ⟨t, e, ht⟩ := checked1 l w hl hw
  rw [e, Option.bind_some]
  by_cases h0 : errW l [w] = 0
  · obtain ⟨hok, kw⟩ := errW_ok h0
    have kw := kw w (by simp)
    have hlen := isWd_len kw
    rw [if_neg (by simp [h0]), if_pos h0]
    by_cases m0 : most < 0
    · rw [if_pos (by simpa using m0), if_neg (by omega)]
    rw [if_neg (by simpa using m0)]
    by_cases m1 : 1000 < most
    · rw [if_pos (by simpa using m1), if_neg (by omega)]
    rw [if_neg (by simpa using m1), if_pos (by omega)]
    obtain ⟨m, rfl⟩ : ∃ m : Nat, most = m := ⟨most.toNat, by omega⟩
    have ec : weave_ties_class t w = some () := rfl
    rw [ec, Option.bind_some]
    have hf := fold_most m (by omega) (cls l fuel w) [] (by simp)
    rw [class_ok hok (ht h0) fuel _ _ w _ [] _ (by unfold fuel; omega) kw hf, Option.bind_some, cls_stable l fuel (w.length + 1) w (by unfold fuel; omega) (by omega), Int.toNat_natCast]
    by_cases hc : (([] : List (List Int)).length + (cls l (w.length + 1) w).length ≤ m)
    · rw [if_pos hc]
      simp only [List.nil_append, weave_Class_k1]
      rw [List.take_of_length_le (by simpa using hc)]
    · rw [if_neg hc]
      simp only [List.nil_append, weave_Class_k1, List.length_nil, Nat.sub_zero]
  · rw [if_pos (by simp [h0]), if_neg h0]

end Go.Proofs.Ytabchabbdnhjpaa
