/-
 Loops over lists, once more: no program is named here.
-/
import Derived.Test.YtifleoceebaooaaPk
import Derived.Test.YtifleoceebaooaaAvd
namespace Go.Proofs.Ytifleoceebaooaa
open Go.RowKit

set_option linter.unusedVariables false
set_option linter.unusedSimpArgs false

theorem scan1 {α R : Type} (xs : List α) (I : Nat → Prop) (G : R → Prop) {body : Int → Option (Step Int R)} (h0 : I 0)
  (h : ∀ (k : Nat) (x : α), xs[k]? = some x → I k → (body k = some (.next ((k : Int) + 1)) ∧ I (k + 1)) ∨ ∃ r, body k = some (.done r) ∧ G r)
  (hd : I xs.length → ∃ r, body (xs.length : Int) = some (.done r) ∧ G r) : ∃ r, whileO body 0 = some r ∧ G r := by
 refine whileO_inv (S := Int) (fun s : Int => ∃ k : Nat, s = (k : Int) ∧ k ≤ xs.length ∧ I k) (fun s : Int => xs.length - s.toNat) G ?_ 0 ⟨0, rfl, Nat.zero_le _, h0⟩
 rintro s ⟨k, rfl, hk, hI⟩
 by_cases hlt : k < xs.length
 ·rcases h k _ (List.getElem?_eq_getElem hlt) hI with ⟨h1, h2⟩ | h1
  ·exact .inl ⟨_, h1, ⟨k + 1, by omega, by omega, h2⟩, by omega⟩
  ·exact .inr h1
 ·have : k = xs.length := by omega
  subst this
  exact .inr (hd hI)

theorem scan2 {α S R : Type} (xs : List α) (I : Nat → S → Prop) (G : R → Prop) {body : S × Int → Option (Step (S × Int) R)} {s0 : S} (h0 : I 0 s0)
  (h : ∀ (k : Nat) (x : α) (s : S), xs[k]? = some x → I k s → (∃ s', body (s, (k : Int)) = some (.next (s', (k : Int) + 1)) ∧ I (k + 1) s') ∨ ∃ r, body (s, (k : Int)) = some (.done r) ∧ G r)
  (hd : ∀ s, I xs.length s → ∃ r, body (s, (xs.length : Int)) = some (.done r) ∧ G r) : ∃ r, whileO body (s0, 0) = some r ∧ G r := by
 refine whileO_inv (S := S × Int) (fun s : S × Int => ∃ k : Nat, s.2 = (k : Int) ∧ k ≤ xs.length ∧ I k s.1) (fun s : S × Int => xs.length - s.2.toNat) G ?_ (s0, 0) ⟨0, rfl, Nat.zero_le _, h0⟩
 rintro ⟨s, q⟩ ⟨k, hq, hk, hI⟩
 simp only at hq hI
 subst hq
 by_cases hlt : k < xs.length
 ·rcases h k _ s (List.getElem?_eq_getElem hlt) hI with ⟨s', h1, h2⟩ | h1
  ·exact .inl ⟨_, h1, ⟨k + 1, by simp, by omega, h2⟩, by simp; omega⟩
  ·exact .inr h1
 ·have : k = xs.length := by omega
  subst this
  exact .inr (hd s hI)

/-- Lists that may come up: their length is a number. -/
def few {α : Type} (xs : List α) : Prop := xs.length ≤ 17592186044416
theorem few_of {α : Type} {xs : List α} {n : Nat} (h : xs.length ≤ n) (hn : n ≤ 17592186044416 := by omega) : few xs := Nat.le_trans h hn
theorem few_in {α : Type} {xs : List α} (h : few xs) {k : Nat} {x : α} (hk : xs[k]? = some x) : k < xs.length ∧ InK .i64 ((k : Int) + 1) := by
 have hlt := (List.getElem?_eq_some_iff.1 hk).1
 unfold few at h
 exact ⟨hlt, by rw [inK_i64]; omega⟩
theorem take_one {α : Type} {xs : List α} {k : Nat} {x : α} (hk : xs[k]? = some x) : xs.take (k + 1) = xs.take k ++ [x] := by
 rw [List.take_add_one, hk]; rfl
/-- All numbers below n are so. -/
def allB (n : Nat) (p : Nat → Bool) : Bool := (List.range n).all p
theorem allB_iff {n : Nat} {p : Nat → Bool} : allB n p = true ↔ ∀ k, k < n → p k = true := by
 unfold allB; rw [List.all_eq_true]; simp
theorem loopB (n : Nat) (p : Nat → Bool) {body : Int → Option (Step Int (Sum Unit Unit))} (h : ∀ k : Nat, k < n → body k = some (if p k = true then .next ((k : Int) + 1) else .done (.inl ()))) (hd : body (n : Int) = some (.done (.inr ()))) :
  whileO body 0 = some (if allB n p = true then .inr () else .inl ()) := by
 have := whileO_all (body := body) (List.range n) p (fun k x hk => by
  have hlt := (List.getElem?_eq_some_iff.1 hk).1
  have he := (List.getElem?_eq_some_iff.1 hk).2
  simp at hlt he
  subst he
  exact h k hlt) (by simpa using hd)
 exact this

end Go.Proofs.Ytifleoceebaooaa
