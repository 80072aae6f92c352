/-
  Layer 3, pure: WeaveSizes.
-/
import Derived.Test.YtabchabbdnhjpaaV11
namespace Go.Proofs.Ytabchabbdnhjpaa
open Go.RowKit

set_option linter.unusedVariables false
set_option linter.unusedSimpArgs false
set_option maxRecDepth 10000

variable {l : Ltr}

/-! ### Lists -/

theorem nodup_le {α : Type} [DecidableEq α] : ∀ {xs ys : List α}, xs.Nodup → (∀ x ∈ xs, x ∈ ys) → xs.length ≤ ys.length
  | [], _, _, _ => by simp
  | x :: xs, ys, hn, hs => by
    have hx := hs x (by simp)
    have hn' := List.nodup_cons.1 hn
    have ih := nodup_le (xs := xs) (ys := ys.erase x) hn'.2 (fun y hy => by
      have hne : y ≠ x := fun e => hn'.1 (e ▸ hy)
      exact (List.mem_erase_of_ne hne).2 (hs y (by simp [hy])))
    have := List.length_erase_of_mem hx
    have hpos := List.length_pos_of_mem hx
    simp only [List.length_cons]; omega

theorem getD_set (t : List Int) (a k : Nat) (x : Int) : (t.set a x).getD k 0 = if a = k ∧ a < t.length then x else t.getD k 0 := by
  rw [List.getD_eq_getElem?_getD, List.getD_eq_getElem?_getD, List.getElem?_set]
  by_cases e : a = k
  · subst e
    by_cases h : a < t.length
    · simp [h]
    · simp [h]
  · simp [e]

theorem sEqual_eq (a b : List Int) (ha : few a) (hb : few b) : slices_Equal a b = some (decide (a = b)) := by
  have := SameInts_eq3 a b ha hb
  exact this

/-! ### Classes -/

/-- Before, in the order of lists. -/
def lexLt (x y : List Int) : Prop := ∃ (p : List Int) (a b : Int) (s t : List Int), x = p ++ a :: s ∧ y = p ++ b :: t ∧ a < b

/-! ### How many -/

theorem wo_parts {a : Int} : ∀ {v v' : List Int}, wo l v a = some v' → ∃ p s, v = p ++ a :: s ∧ v' = p ++ s ∧ ∀ b ∈ p, dep l a b = false
  | [], v', h => by simp [wo] at h
  | b :: r, v', h => by
    by_cases e : b = a
    · subst e
      rw [wo_head] at h; injection h with h; subst h
      exact ⟨[], r, rfl, rfl, by simp⟩
    · obtain ⟨hd, u', hu, rfl⟩ := wo_skip_inv e h
      obtain ⟨p, s, rfl, rfl, hp⟩ := wo_parts hu
      exact ⟨b :: p, s, rfl, rfl, fun c hc => by
        rcases List.mem_cons.1 hc with rfl | hc
        · exact hd
        · exact hp c hc⟩

/-! ### The program -/

theorem Equal_ok {w v : List Int} (hf : few l.2) (hl : okL l = true) (hw : isWd l w = true) (hv : isWd l v = true) : weave_Equal l w v = some (decide (FF l w = FF l v), 0) := by
  unfold weave_Equal
  obtain ⟨t, e, ht⟩ := checked2 l w v hf (len60 hw) (len60 hv)
  have h0 := errW_of2 hl hw hv
  have l1 := FF_len hl hw
  have l2 := FF_len hl hv
  have := isWd_len hw
  have := isWd_len hv
  rw [e, Option.bind_some, h0, if_neg (by simp), first_eq hl (ht h0) hw, Option.bind_some, first_eq hl (ht h0) hv, Option.bind_some, sEqual_eq _ _ (few_of (n := 10) (by omega)) (few_of (n := 10) (by omega)), Option.bind_some]

/-! ### The law -/

end Go.Proofs.Ytabchabbdnhjpaa
