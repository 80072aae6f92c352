/-
  Layer 5, pure: systems with hidden steps: where steps lead, and what is closed under hidden steps.
-/
import Derived.Test.YtifleoceebaooaaS1
namespace Go.Proofs.Ytifleoceebaooaa
open Go.RowKit

set_option linter.unusedVariables false
set_option linter.unusedSectionVars false
set_option linter.unusedSimpArgs false

abbrev Stp := Int × Int × Int
abbrev Sys := Int × List Stp

def stepB (s : Sys) (z : Stp) : Bool := decide (0 ≤ z.1 ∧ z.1 < s.1) && (decide (0 ≤ z.2.1 ∧ z.2.1 ≤ 3) && decide (0 ≤ z.2.2 ∧ z.2.2 < s.1))
def validB (s : Sys) : Bool := decide (1 ≤ s.1 ∧ s.1 ≤ 6 ∧ s.2.length ≤ 24) && allB s.2.length fun k => stepB s (s.2.getD k (0, 0, 0)) && !decide (s.2.getD k (0, 0, 0) ∈ s.2.take k)

theorem stepB_iff {s : Sys} {z : Stp} : stepB s z = true ↔ (0 ≤ z.1 ∧ z.1 < s.1) ∧ (0 ≤ z.2.1 ∧ z.2.1 ≤ 3) ∧ 0 ≤ z.2.2 ∧ z.2.2 < s.1 := by
  unfold stepB; rw [Bool.and_eq_true, Bool.and_eq_true, decide_eq_true_eq, decide_eq_true_eq, decide_eq_true_eq]

structure OkS (s : Sys) : Prop where
  lo : 1 ≤ s.1
  hi : s.1 ≤ 6
  len : s.2.length ≤ 24
  st : ∀ z ∈ s.2, (0 ≤ z.1 ∧ z.1 < s.1) ∧ (0 ≤ z.2.1 ∧ z.2.1 ≤ 3) ∧ 0 ≤ z.2.2 ∧ z.2.2 < s.1

theorem okS_valid {s : Sys} (h : validB s = true) : OkS s := by
  unfold validB at h
  rw [Bool.and_eq_true, decide_eq_true_eq, allB_iff] at h
  obtain ⟨⟨h1, h2, h3⟩, h4⟩ := h
  refine ⟨h1, h2, h3, fun z hz => ?_⟩
  obtain ⟨k, hk⟩ := List.getElem?_of_mem hz
  have hlt := (List.getElem?_eq_some_iff.1 hk).1
  have := h4 k hlt
  rw [Bool.and_eq_true] at this
  rw [show s.2.getD k (0, 0, 0) = z from getD_of hk] at this
  exact stepB_iff.1 this.1

def hitS (m : Nat) (l : Int) (z : Stp) : Bool := decide (z.2.1 = l) && m.testBit z.1.toNat
/-- Where one step with a label leads from a set. -/
def stM (s : Sys) (m : Nat) (l : Int) : Nat := s.2.foldl (fun a z => if hitS m l z = true then a ||| 2 ^ z.2.2.toNat else a) 0

/-- Closed under hidden steps. -/
def cl0 (s : Sys) (q : Nat) : Prop := sub (stM s q 0) q
def quM (s : Sys) (m : Nat) : Nat := itr (fun a => a ||| stM s a 0) s.1.toNat m
def coM (s : Sys) (m : Nat) (l : Int) : Nat := if l = 0 then quM s m else quM s (stM s (quM s m) l)

section
variable {s : Sys} (hv : OkS s)
include hv

theorem n6 : s.1.toNat ≤ 6 := by have := hv.hi; omega
/-- The states of a set, in ascending order. -/
def bitsL (m : Nat) : List Nat := (List.range 6).filter m.testBit

end
end Go.Proofs.Ytifleoceebaooaa
