/-
  The pairs that are needed, as the reference finds them; a circle that has a pair; DelayCircles.
-/
import Derived.Test.YtdicomoggfhbfaaD8
namespace Go.Proofs.Ytdicomoggfhbfaa
open Go.RowKit Go.Maps

set_option linter.unusedVariables false
set_option linter.unusedSimpArgs false

theorem Needed_eq (x : Acs) : delay_Needed x = some (if vld x = true then need x else [], if vld x = true then 0 else 90) := by
  unfold delay_Needed
  rw [of_eq, Option.bind_some]
  cases hv : vld x with
  | false => rfl
  | true =>
    simp only [if_true]
    rw [if_neg (by simp), onCircles_eq hv]; rfl
theorem need_fit {x : Acs} (hv : vld x = true) : ∀ s ∈ need x, fitS s := fun s hs => prs_fit hv s (List.mem_filter.1 hs).1
theorem need_few {x : Acs} (hv : vld x = true) : few (need x) := few_of (Nat.le_trans (List.length_filter_le _ _) (Nat.le_trans (List.length_filter_le _ _) (stas_len hv)))

theorem in_eq {l : List Sta} {p : Sta} (hf : few l) (hl : ∀ s ∈ l, fitS s) (hp : fitS p) : lineallaw09_in l p = some (decide (p ∈ l)) := by
  unfold lineallaw09_in
  rw [whileO_all l (fun s => !decide (s = p)) (body := lineallaw09_in_b1 l p) (fun k s hk => by
    obtain ⟨hlt, hik⟩ := few_in hf hk
    obtain ⟨s1, s2, s3⟩ := hl s (List.mem_of_getElem? hk)
    unfold lineallaw09_in_b1
    rw [Int.toNat_natCast, getD_of hk, if_pos (decide_eq_true (by omega)), ck_pos (by omega), ck_pos (by omega), ck_pos s1, ck_pos s2, ck_pos s3, ck_pos hp.1, ck_pos hp.2.1, ck_pos hp.2.2]
    by_cases e : s = p <;> simp [e, ck_pos hik]) (by unfold lineallaw09_in_b1; rw [if_neg (by simp)]), Option.bind_some]
  have : l.all (fun s => !decide (s = p)) = !decide (p ∈ l) := by
    rw [Bool.eq_iff_iff, List.all_eq_true, Bool.not_eq_true', decide_eq_false_iff_not]
    constructor
    · intro h hc
      have := h p hc
      simp at this
    · intro h s hs
      simp only [Bool.not_eq_true', decide_eq_false_iff_not]
      exact fun e => h (e ▸ hs)
  rw [this]
  by_cases e : p ∈ l <;> simp [e, lineallaw09_in_k1]

end Go.Proofs.Ytdicomoggfhbfaa
