/-
  Layer 3, pure: WeaveClasses.
-/
import Derived.Test.YtabchabbdnhjpaaV7
namespace Go.Proofs.Ytabchabbdnhjpaa
open Go.RowKit

set_option linter.unusedVariables false
set_option linter.unusedSimpArgs false
set_option maxRecDepth 10000

theorem SameLists_eq3 (a b : List (List Int)) (ha : few a) (hb : few b) (ka : ∀ x ∈ a, x.length ≤ 1000) (kb : ∀ x ∈ b, x.length ≤ 1000) : linealref03_SameLists a b = some (decide (a = b)) := by
  unfold linealref03_SameLists
  by_cases hl : a.length = b.length
  · rw [if_neg (by simp [hl])]
    have hloop : whileO (linealref03_SameLists_b1 a b) 0 = some (if (a.zip b).all (fun q => decide (q.1 = q.2)) = true then .inr () else .inl ()) := by
      have hz : (a.zip b).length = a.length := by simp [hl]
      refine whileO_all (a.zip b) _ (fun k x hk => ?_) ?_
      · have hk' := (List.getElem?_eq_some_iff.1 hk).1
        have hka : k < a.length := by omega
        obtain ⟨x1, x2⟩ := x
        rw [List.getElem?_zip_eq_some] at hk
        obtain ⟨_, hin⟩ := few_in ha hk.1
        unfold linealref03_SameLists_b1
        rw [if_pos (by simpa using hka), ck_pos (by simp), ck_pos (by simpa using hka), ck_pos (by simp), ck_pos (by omega), Int.toNat_natCast, getD_of hk.1, getD_of hk.2,
          SameInts_eq3 x1 x2 (few_of (ka x1 (List.mem_of_getElem? hk.1))) (few_of (kb x2 (List.mem_of_getElem? hk.2))), Option.bind_some]
        by_cases e : x1 = x2
        · rw [if_neg (by simp [e]), ck_pos hin]; simp [e]
        · rw [if_pos (by simp [e])]; simp [e]
      · unfold linealref03_SameLists_b1; rw [hz, if_neg (by simp)]
    rw [hloop, all_zip_eq a b hl, Option.bind_some]
    by_cases e : a = b
    · simp [e, linealref03_SameLists_k1]
    · simp [e]
  · rw [if_pos (by simp; omega)]
    have : a ≠ b := fun e => hl (by rw [e])
    simp [this]

/-- What Class answers. -/
def classA (l : Ltr) (w : List Int) (most : Int) : List (List Int) × Int :=
  if errW l [w] = 0 then (if 0 ≤ most ∧ most ≤ 1000 then ((cls l (w.length + 1) w).take most.toNat, 0) else ([], 2)) else ([], errW l [w])

theorem checked1 (l : Ltr) (w : List Int) (hl : few l.2) (hw : w.length ≤ 60) : ∃ t : El T53, weave_checked l [w] = some (t, errW l [w]) ∧ (errW l [w] = 0 → Ties l t) :=
  checked_eq3 l [w] hl (by unfold few; simp) (fun x hx => by simp at hx; subst hx; exact few_of hw)

end Go.Proofs.Ytabchabbdnhjpaa
