/-
  DelayNeeded: each pair that is needed has a circle, whose pairs are all needed.
-/
import Derived.Test.YtdicomoggfhbfaaD8
namespace Go.Proofs.Ytdicomoggfhbfaa
open Go.RowKit Go.Maps

set_option linter.unusedVariables false
set_option linter.unusedSimpArgs false

theorem Needed_eq (x : Acs) : delay_Needed x = some (if vld x = true then need x else [], if vld x = true then 0 else 90) := by
  unfold delay_Needed
  rw [of_eq, Option.bind_some]
  cases hv : vld x with
  | false => rfl
  | true =>
    simp only [if_true]
    rw [if_neg (by simp), onCircles_eq hv]; rfl
theorem need_few {x : Acs} (hv : vld x = true) : few (need x) := few_of (Nat.le_trans (List.length_filter_le _ _) (Nat.le_trans (List.length_filter_le _ _) (stas_len hv)))

open Go.RowKit Go.Maps


def ltS (a b : Sta) : Prop := a.1 < b.1 ∨ (a.1 = b.1 ∧ (a.2.1 < b.2.1 ∨ (a.2.1 = b.2.1 ∧ a.2.2 < b.2.2)))

theorem stas_asc (x : Acs) : (stas x).Pairwise ltS := by
  unfold stas
  rw [List.pairwise_flatMap]
  refine ⟨fun t _ => ?_, ?_⟩
  · rw [List.pairwise_flatMap]
    refine ⟨fun a _ => ?_, ?_⟩
    · rw [List.pairwise_flatMap]
      refine ⟨fun b _ => by split <;> simp, ?_⟩
      refine List.pairwise_lt_range.imp fun {b b'} h u hu v hv => ?_
      split at hu
      · split at hv
        · simp only [List.mem_singleton] at hu hv
          subst hu hv
          exact .inr ⟨rfl, .inr ⟨rfl, by simp only; omega⟩⟩
        · simp at hv
      · simp at hu
    · refine List.pairwise_lt_range.imp fun {a a'} h u hu v hv => ?_
      obtain ⟨b, _, hu⟩ := List.mem_flatMap.1 hu
      obtain ⟨b', _, hv⟩ := List.mem_flatMap.1 hv
      split at hu
      · split at hv
        · simp only [List.mem_singleton] at hu hv
          subst hu hv
          exact .inr ⟨rfl, .inl (by simp only; omega)⟩
        · simp at hv
      · simp at hu
  · refine List.pairwise_lt_range.imp fun {t t'} h u hu v hv => ?_
    obtain ⟨a, _, hu⟩ := List.mem_flatMap.1 hu
    obtain ⟨b, _, hu⟩ := List.mem_flatMap.1 hu
    obtain ⟨a', _, hv⟩ := List.mem_flatMap.1 hv
    obtain ⟨b', _, hv⟩ := List.mem_flatMap.1 hv
    split at hu
    · split at hv
      · simp only [List.mem_singleton] at hu hv
        subst hu hv
        exact .inl (by simp only; omega)
      · simp at hv
    · simp at hu

theorem need_asc (x : Acs) : (need x).Pairwise ltS := ((stas_asc x).filter _).filter _

end Go.Proofs.Ytdicomoggfhbfaa
