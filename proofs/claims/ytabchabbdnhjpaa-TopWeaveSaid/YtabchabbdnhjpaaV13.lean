/-
  Layer 3, pure: WeaveSizes.
-/
import Derived.Test.YtabchabbdnhjpaaV11
namespace Go.Proofs.Ytabchabbdnhjpaa
open Go.RowKit

set_option linter.unusedVariables false
set_option linter.unusedSimpArgs false
set_option maxRecDepth 10000

variable {l : Ltr}

/-! ### Lists -/

theorem nodup_le {α : Type} [DecidableEq α] : ∀ {xs ys : List α}, xs.Nodup → (∀ x ∈ xs, x ∈ ys) → xs.length ≤ ys.length
  | [], _, _, _ => by simp
  | x :: xs, ys, hn, hs => by
    have hx := hs x (by simp)
    have hn' := List.nodup_cons.1 hn
    have ih := nodup_le (xs := xs) (ys := ys.erase x) hn'.2 (fun y hy => by
      have hne : y ≠ x := fun e => hn'.1 (e ▸ hy)
      exact (List.mem_erase_of_ne hne).2 (hs y (by simp [hy])))
    have := List.length_erase_of_mem hx
    have hpos := List.length_pos_of_mem hx
    simp only [List.length_cons]; omega

theorem getD_set (t : List Int) (a k : Nat) (x : Int) : (t.set a x).getD k 0 = if a = k ∧ a < t.length then x else t.getD k 0 := by
  rw [List.getD_eq_getElem?_getD, List.getD_eq_getElem?_getD, List.getElem?_set]
  by_cases e : a = k
  · subst e
    by_cases h : a < t.length
    · simp [h]
    · simp [h]
  · simp [e]

theorem sEqual_eq (a b : List Int) (ha : few a) (hb : few b) : slices_Equal a b = some (decide (a = b)) := by
  have := SameInts_eq3 a b ha hb
  exact this

/-! ### Classes -/

theorem startsL_of {w : List Int} (hl : okL l = true) (hw : isWd l w = true) {a : Int} {u : List Int} (h : wo l w a = some u) : (a, u) ∈ startsL l w := by
  have ha := isWd_six hl hw a (wo_some l w a u h).2.2
  unfold startsL
  refine List.mem_filterMap.2 ⟨a.toNat, List.mem_range.2 (by omega), ?_⟩
  have e : ((a.toNat : Nat) : Int) = a := by omega
  rw [e, h]; rfl

theorem cls_mem (hl : okL l = true) : ∀ (n : Nat) (w v : List Int), w.length < n → isWd l w = true → (v ∈ cls l n w ↔ eqv l v w)
  | 0, w, v, h, _ => by omega
  | n + 1, w, v, hn, hw => by
    unfold cls
    by_cases h0 : w = []
    · subst h0
      rw [if_pos rfl]
      constructor
      · intro h; simp at h; subst h; exact eqv_refl l _
      · intro h
        have := eqv_len h
        have : v = [] := List.eq_nil_of_length_eq_zero this
        simp [this]
    · rw [if_neg h0]
      constructor
      · intro h
        obtain ⟨p, hp, hv⟩ := List.mem_flatMap.1 h
        obtain ⟨u, hu, rfl⟩ := List.mem_map.1 hv
        have hwo := (startsL_mem hp).1
        have := (wo_some l w p.1 p.2 hwo).1
        exact eqv_cons.2 ⟨p.2, hwo, (cls_mem hl n p.2 u (by omega) (isWd_wo hw hwo)).1 hu⟩
      · intro h
        cases v with
        | nil => exact absurd (List.eq_nil_of_length_eq_zero (eqv_len h).symm) h0
        | cons b r =>
          obtain ⟨u, h1, h2⟩ := eqv_cons.1 h
          have := (wo_some l w b u h1).1
          exact List.mem_flatMap.2 ⟨(b, u), startsL_of hl hw h1, List.mem_map.2 ⟨r, (cls_mem hl n u r (by omega) (isWd_wo hw h1)).2 h2, rfl⟩⟩

/-- Before, in the order of lists. -/
def lexLt (x y : List Int) : Prop := ∃ (p : List Int) (a b : Int) (s t : List Int), x = p ++ a :: s ∧ y = p ++ b :: t ∧ a < b

/-! ### How many -/

/-! ### The program -/

theorem Equal_ok {w v : List Int} (hf : few l.2) (hl : okL l = true) (hw : isWd l w = true) (hv : isWd l v = true) : weave_Equal l w v = some (decide (FF l w = FF l v), 0) := by
  unfold weave_Equal
  obtain ⟨t, e, ht⟩ := checked2 l w v hf (len60 hw) (len60 hv)
  have h0 := errW_of2 hl hw hv
  have l1 := FF_len hl hw
  have l2 := FF_len hl hv
  have := isWd_len hw
  have := isWd_len hv
  rw [e, Option.bind_some, h0, if_neg (by simp), first_eq hl (ht h0) hw, Option.bind_some, first_eq hl (ht h0) hv, Option.bind_some, sEqual_eq _ _ (few_of (n := 10) (by omega)) (few_of (n := 10) (by omega)), Option.bind_some]

/-! ### The law -/

end Go.Proofs.Ytabchabbdnhjpaa
