/-
  Loops of pure functions. No program is named here.
-/
import Derived.Test.YtdicomoggfhbfaaAvc
namespace Go.Proofs.Ytdicomoggfhbfaa
open Go.RowKit

set_option linter.unusedVariables false

theorem ck_pos {α : Type} {c : Prop} [Decidable c] (h : c) (k : Option α) : ck c k = k := if_pos h

theorem getD_of {α : Type} {xs : List α} {k : Nat} {x d : α} (h : xs[k]? = some x) : xs.getD k d = x := by simp [List.getD, h]

section
variable {R : Type}

/-- All of a list, or not. -/
theorem whileO_all {α : Type} {body : Int → Option (Step Int (Sum Unit Unit))} (xs : List α) (p : α → Bool) (h : ∀ (k : Nat) (x : α), xs[k]? = some x → body k = some (if p x = true then .next ((k : Int) + 1) else .done (.inl ()))) (hd : body xs.length = some (.done (.inr ()))) :
    whileO body 0 = some (if xs.all p = true then .inr () else .inl ()) := by
  have : ∀ (d k : Nat), xs.length - k = d → k ≤ xs.length → whileN body (d + 1) (k : Int) = some (if (xs.drop k).all p = true then .inr () else .inl ()) := by
    intro d
    induction d with
    | zero =>
      intro k h1 h2
      have : k = xs.length := by omega
      subst this
      simp [whileN, hd]
    | succ d ih =>
      intro k h1 h2
      have hlt : k < xs.length := by omega
      have hb := h k xs[k] (by simp)
      unfold whileN
      rw [hb, List.drop_eq_getElem_cons hlt, List.all_cons]
      cases hp : p xs[k] with
      | false => simp
      | true =>
        simp only [if_true, Bool.true_and]
        exact ih (k + 1) (by omega) (by omega)
  have h0 := this xs.length 0 (by omega) (by omega)
  rw [List.drop_zero] at h0
  exact whileO_of h0

/-- A state that is carried through all indices. -/
theorem whileO_iter {S T : Type} {body : T → Option (Step T R)} (st : S → Int → T) (n : Nat) (g : Nat → S → S) (out : S → R) (P : Nat → S → Prop) {s0 : S} (h0 : P 0 s0) (h : ∀ (k : Nat) (s : S), k < n → P k s → body (st s k) = some (.next (st (g k s) ((k : Int) + 1))) ∧ P (k + 1) (g k s)) (hd : ∀ s, P n s → body (st s n) = some (.done (out s))) :
    whileO body (st s0 0) = some (out ((List.range n).foldl (fun s k => g k s) s0)) ∧ P n ((List.range n).foldl (fun s k => g k s) s0) := by
  have : ∀ (d k : Nat) (s : S), n - k = d → k ≤ n → P k s → whileN body (d + 1) (st s k) = some (out ((List.range' k d).foldl (fun s k => g k s) s)) ∧ P n ((List.range' k d).foldl (fun s k => g k s) s) := by
    intro d
    induction d with
    | zero =>
      intro k s h1 h2 hp
      have : k = n := by omega
      subst this
      simp [whileN, hd s hp, hp]
    | succ d ih =>
      intro k s h1 h2 hp
      obtain ⟨hb, hp'⟩ := h k s (by omega) hp
      unfold whileN
      rw [hb, List.range'_succ, List.foldl_cons]
      simp only
      exact ih (k + 1) (g k s) (by omega) (by omega) hp'
  obtain ⟨h1, h2⟩ := this n 0 s0 (by omega) (by omega) h0
  rw [List.range_eq_range']
  exact ⟨whileO_of h1, h2⟩

end

theorem all_zip_eq {α : Type} [DecidableEq α] : ∀ (a b : List α), a.length = b.length → (a.zip b).all (fun q => decide (q.1 = q.2)) = decide (a = b)
  | [], [], _ => by simp
  | [], y :: b, h => by simp at h
  | x :: a, [], h => by simp at h
  | x :: a, y :: b, h => by
    have ih := all_zip_eq a b (by simpa using h)
    rw [List.zip_cons_cons, List.all_cons, ih]
    by_cases h1 : x = y <;> by_cases h2 : a = b <;> simp [h1, h2]

/-- Rounds over a list. -/
def foldY {Y S R : Type} (yl : Y → S → Option (Step S R)) : List Y → S → Option (Sum S R)
  | [], s => some (.inl s)
  | y :: r, s => (yl y s).bind fun x => match x with
    | .next s' => foldY yl r s'
    | .done e => some (.inr e)

end Go.Proofs.Ytdicomoggfhbfaa
