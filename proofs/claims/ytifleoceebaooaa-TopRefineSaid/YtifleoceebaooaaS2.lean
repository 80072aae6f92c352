/-
 Layer 5, pure: systems with hidden steps: where steps lead, and what is closed under hidden steps.
-/
import Derived.Test.YtifleoceebaooaaS1
namespace Go.Proofs.Ytifleoceebaooaa
open Go.RowKit

set_option linter.unusedVariables false
set_option linter.unusedSectionVars false
set_option linter.unusedSimpArgs false

abbrev Stp := Int × Int × Int
abbrev Sys := Int × List Stp

def stepB (s : Sys) (z : Stp) : Bool := decide (0 ≤ z.1 ∧ z.1 < s.1) && (decide (0 ≤ z.2.1 ∧ z.2.1 ≤ 3) && decide (0 ≤ z.2.2 ∧ z.2.2 < s.1))
def validB (s : Sys) : Bool := decide (1 ≤ s.1 ∧ s.1 ≤ 6 ∧ s.2.length ≤ 24) && allB s.2.length fun k => stepB s (s.2.getD k (0, 0, 0)) && !decide (s.2.getD k (0, 0, 0) ∈ s.2.take k)

theorem stepB_iff {s : Sys} {z : Stp} : stepB s z = true ↔ (0 ≤ z.1 ∧ z.1 < s.1) ∧ (0 ≤ z.2.1 ∧ z.2.1 ≤ 3) ∧ 0 ≤ z.2.2 ∧ z.2.2 < s.1 := by
 unfold stepB; rw [Bool.and_eq_true, Bool.and_eq_true, decide_eq_true_eq, decide_eq_true_eq, decide_eq_true_eq]

structure OkS (s : Sys) : Prop where
 lo : 1 ≤ s.1
 hi : s.1 ≤ 6
 len : s.2.length ≤ 24
 st : ∀ z ∈ s.2, (0 ≤ z.1 ∧ z.1 < s.1) ∧ (0 ≤ z.2.1 ∧ z.2.1 ≤ 3) ∧ 0 ≤ z.2.2 ∧ z.2.2 < s.1

theorem okS_valid {s : Sys} (h : validB s = true) : OkS s := by
 unfold validB at h
 rw [Bool.and_eq_true, decide_eq_true_eq, allB_iff] at h
 obtain ⟨⟨h1, h2, h3⟩, h4⟩ := h
 refine ⟨h1, h2, h3, fun z hz => ?_⟩
 obtain ⟨k, hk⟩ := List.getElem?_of_mem hz
 have hlt := (List.getElem?_eq_some_iff.1 hk).1
 have := h4 k hlt
 rw [Bool.and_eq_true] at this
 rw [show s.2.getD k (0, 0, 0) = z from getD_of hk] at this
 exact stepB_iff.1 this.1

/-- A list of steps makes a set grow. -/
theorem fold_bit {c : Stp → Bool} {g : Stp → Nat} (j : Nat) : ∀ (l : List Stp) (a : Nat), (l.foldl (fun a z => if c z = true then a ||| g z else a) a).testBit j = true ↔ a.testBit j = true ∨ ∃ z ∈ l, c z = true ∧ (g z).testBit j = true
 | [], a => by simp
 | z :: l, a => by
  rw [List.foldl_cons, fold_bit j l]
  by_cases h : c z = true
  ·rw [if_pos h, Nat.testBit_or, Bool.or_eq_true]
   constructor
   ·rintro ((h1 | h1) | ⟨y, hy, h1⟩)
    ·exact .inl h1
    ·exact .inr ⟨z, by simp, h, h1⟩
    ·exact .inr ⟨y, List.mem_cons_of_mem _ hy, h1⟩
   ·rintro (h1 | ⟨y, hy, h1⟩)
    ·exact .inl (.inl h1)
    ·rcases List.mem_cons.1 hy with rfl | hy
     ·exact .inl (.inr h1.2)
     ·exact .inr ⟨y, hy, h1⟩
  ·rw [if_neg h]
   constructor
   ·rintro (h1 | ⟨y, hy, h1⟩)
    ·exact .inl h1
    ·exact .inr ⟨y, List.mem_cons_of_mem _ hy, h1⟩
   ·rintro (h1 | ⟨y, hy, h1⟩)
    ·exact .inl h1
    ·rcases List.mem_cons.1 hy with rfl | hy
     ·exact absurd h1.1 h
     ·exact .inr ⟨y, hy, h1⟩

def hitS (m : Nat) (l : Int) (z : Stp) : Bool := decide (z.2.1 = l) && m.testBit z.1.toNat
/-- Where one step with a label leads from a set. -/
def stM (s : Sys) (m : Nat) (l : Int) : Nat := s.2.foldl (fun a z => if hitS m l z = true then a ||| 2 ^ z.2.2.toNat else a) 0

theorem stM_bit {s : Sys} {m : Nat} {l : Int} {j : Nat} : (stM s m l).testBit j = true ↔ ∃ z ∈ s.2, z.2.1 = l ∧ m.testBit z.1.toNat = true ∧ z.2.2.toNat = j := by
 unfold stM
 rw [fold_bit]
 constructor
 ·rintro (h | ⟨z, hz, h1, h2⟩)
  ·simp at h
  ·unfold hitS at h1
   rw [Bool.and_eq_true, decide_eq_true_eq] at h1
   rw [Nat.testBit_two_pow, decide_eq_true_eq] at h2
   exact ⟨z, hz, h1.1, h1.2, h2⟩
 ·rintro ⟨z, hz, h1, h2, h3⟩
  refine .inr ⟨z, hz, ?_, ?_⟩
  ·unfold hitS; rw [Bool.and_eq_true, decide_eq_true_eq]; exact ⟨h1, h2⟩
  ·rw [Nat.testBit_two_pow, decide_eq_true_eq]; exact h3

theorem stM_mono {s : Sys} {a b : Nat} {l : Int} (h : sub a b) : sub (stM s a l) (stM s b l) := fun j hj => by
 obtain ⟨z, h1, h2, h3, h4⟩ := stM_bit.1 hj
 exact stM_bit.2 ⟨z, h1, h2, h _ h3, h4⟩

theorem stM_or (s : Sys) (a b : Nat) (l : Int) : stM s (a ||| b) l = stM s a l ||| stM s b l := by
 refine sub_anti (fun j hj => ?_) (or_sub (stM_mono (sub_or_l a b)) (stM_mono (sub_or_r a b)))
 obtain ⟨z, h1, h2, h3, h4⟩ := stM_bit.1 hj
 rw [Nat.testBit_or, Bool.or_eq_true] at h3 ⊢
 rcases h3 with h3 | h3
 ·exact .inl (stM_bit.2 ⟨z, h1, h2, h3, h4⟩)
 ·exact .inr (stM_bit.2 ⟨z, h1, h2, h3, h4⟩)

theorem stM_zero (s : Sys) (l : Int) : stM s 0 l = 0 := sub_anti (fun j hj => by
 obtain ⟨z, _, _, h3, _⟩ := stM_bit.1 hj
 simp at h3) (zero_sub _)

/-- Closed under hidden steps. -/
def cl0 (s : Sys) (q : Nat) : Prop := sub (stM s q 0) q
def quM (s : Sys) (m : Nat) : Nat := itr (fun a => a ||| stM s a 0) s.1.toNat m
def coM (s : Sys) (m : Nat) (l : Int) : Nat := if l = 0 then quM s m else quM s (stM s (quM s m) l)

section
variable {s : Sys} (hv : OkS s)
include hv

theorem stM_lt (m : Nat) (l : Int) : stM s m l < 2 ^ s.1.toNat := by
 refine Nat.lt_pow_two_of_testBit _ fun i hi => ?_
 cases h : (stM s m l).testBit i with
 | false => rfl
 | true =>
  obtain ⟨z, h1, _, _, h4⟩ := stM_bit.1 h
  have := (hv.st z h1).2.2
  omega

theorem n6 : s.1.toNat ≤ 6 := by have := hv.hi; omega
theorem lt64 {a : Nat} (h : a < 2 ^ s.1.toNat) : a < 64 := Nat.lt_of_lt_of_le h (Nat.pow_le_pow_right (by omega) (n6 hv) : 2 ^ s.1.toNat ≤ 2 ^ 6)

theorem qstep (a : Nat) (h : a < 2 ^ s.1.toNat) : sub a (a ||| stM s a 0) ∧ a ||| stM s a 0 < 2 ^ s.1.toNat := ⟨sub_or_l _ _, or_lt h (stM_lt hv a 0)⟩

theorem itr_lt {m : Nat} (h : m < 2 ^ s.1.toNat) (k : Nat) : itr (fun a => a ||| stM s a 0) k m < 2 ^ s.1.toNat := by
 induction k with
 | zero => exact h
 | succ k ih => exact (qstep hv _ ih).2

theorem quM_lt {m : Nat} (h : m < 2 ^ s.1.toNat) : quM s m < 2 ^ s.1.toNat := itr_lt hv h _

theorem quM_sub (m : Nat) : sub m (quM s m) := by
 unfold quM
 have : ∀ k, sub m (itr (fun a => a ||| stM s a 0) k m) := fun k => by
  induction k with
  | zero => exact sub_refl _
  | succ k ih => exact sub_trans ih (sub_or_l _ _)
 exact this _

theorem quM_cl {m : Nat} (h : m < 2 ^ s.1.toNat) : cl0 s (quM s m) := by
 have := itr_rest (f := fun a => a ||| stM s a 0) (qstep hv) (n6 hv) h
 unfold cl0 quM
 exact fun i hi => by
  rw [← this]
  exact sub_or_r _ _ i hi

theorem quM_least {m r : Nat} (h : sub m r) (hc : cl0 s r) : sub (quM s m) r := by
 unfold quM
 have : ∀ k, sub (itr (fun a => a ||| stM s a 0) k m) r := fun k => by
  induction k with
  | zero => exact h
  | succ k ih => exact or_sub ih (sub_trans (stM_mono ih) hc)
 exact this _

theorem quM_mono {a b : Nat} (h : sub a b) (hb : b < 2 ^ s.1.toNat) : sub (quM s a) (quM s b) := quM_least hv (sub_trans h (quM_sub hv b)) (quM_cl hv hb)

theorem quM_or {a b : Nat} (ha : a < 2 ^ s.1.toNat) (hb : b < 2 ^ s.1.toNat) : quM s (a ||| b) = quM s a ||| quM s b := by
 refine sub_anti (quM_least hv (or_mono (quM_sub hv a) (quM_sub hv b)) ?_) (or_sub (quM_mono hv (sub_or_l a b) (or_lt ha hb)) (quM_mono hv (sub_or_r a b) (or_lt ha hb)))
 unfold cl0
 rw [stM_or]
 exact or_mono (quM_cl hv ha) (quM_cl hv hb)

theorem quM_zero : quM s 0 = 0 := sub_anti (quM_least hv (sub_refl 0) (by unfold cl0; rw [stM_zero]; exact sub_refl 0)) (zero_sub _)

theorem coM_lt {m : Nat} (h : m < 2 ^ s.1.toNat) (l : Int) : coM s m l < 2 ^ s.1.toNat := by
 unfold coM
 split
 ·exact quM_lt hv h
 ·exact quM_lt hv (stM_lt hv _ l)

theorem coM_or {a b : Nat} (ha : a < 2 ^ s.1.toNat) (hb : b < 2 ^ s.1.toNat) (l : Int) : coM s (a ||| b) l = coM s a l ||| coM s b l := by
 unfold coM
 split
 ·exact quM_or hv ha hb
 ·rw [quM_or hv ha hb, stM_or, quM_or hv (stM_lt hv _ l) (stM_lt hv _ l)]

theorem coM_zero (l : Int) : coM s 0 l = 0 := by
 unfold coM
 split
 ·exact quM_zero hv
 ·rw [quM_zero hv, stM_zero, quM_zero hv]

/-- The states of a set, in ascending order. -/
def bitsL (m : Nat) : List Nat := (List.range 6).filter m.testBit

theorem bits_or : ∀ m < 64, ((List.range 6).filter (Nat.testBit m)).foldl (fun a i => a ||| 2 ^ i) 0 = m := by decide +kernel

theorem fold_add {f : Nat → Nat} {n : Nat} (hf : ∀ a b, a < 2 ^ n → b < 2 ^ n → f (a ||| b) = f a ||| f b) : ∀ (l : List Nat) (a : Nat), a < 2 ^ n → (∀ i ∈ l, i < n) → f (l.foldl (fun a i => a ||| 2 ^ i) a) = l.foldl (fun a i => a ||| f (2 ^ i)) (f a)
 | [], a, _, _ => rfl
 | i :: l, a, ha, hi => by
  have h2 : 2 ^ i < 2 ^ n := Nat.pow_lt_pow_right (by omega) (hi i (by simp))
  rw [List.foldl_cons, List.foldl_cons, fold_add hf l _ (or_lt ha h2) fun j hj => hi j (List.mem_cons_of_mem _ hj), hf a _ ha h2]

/-- A set comes to where its states come. -/
theorem coM_bits {m : Nat} (h : m < 2 ^ s.1.toNat) (l : Int) : coM s m l = (bitsL m).foldl (fun a i => a ||| coM s (2 ^ i) l) 0 := by
 have e := bits_or hv m (lt64 hv h)
 have := fold_add hv (f := fun m => coM s m l) (n := s.1.toNat) (fun a b ha hb => coM_or hv ha hb l) ((List.range 6).filter (Nat.testBit m)) 0 (Nat.two_pow_pos _) (fun i hi => by
  rw [List.mem_filter] at hi
  exact bit_lt h hi.2)
 rw [e, coM_zero hv] at this
 exact this

/-- What the program's second table holds: where the steps with a label lead that begin in a set, and then hidden ones. -/
theorem quM_fold (m : Nat) (l : Int) : ∀ (L : List Stp) (a : Nat), a < 2 ^ s.1.toNat → (∀ z ∈ L, z ∈ s.2) → quM s (L.foldl (fun a z => if hitS m l z = true then a ||| 2 ^ z.2.2.toNat else a) a) = L.foldl (fun a z => if hitS m l z = true then a ||| quM s (2 ^ z.2.2.toNat) else a) (quM s a)
 | [], a, _, _ => rfl
 | z :: L, a, ha, hL => by
  have hz := (hv.st z (hL z (by simp))).2.2
  have h2 : 2 ^ z.2.2.toNat < 2 ^ s.1.toNat := Nat.pow_lt_pow_right (by omega) (by omega)
  rw [List.foldl_cons, List.foldl_cons]
  by_cases h : hitS m l z = true
  ·rw [if_pos h, if_pos h, quM_fold m l L _ (or_lt ha h2) fun y hy => hL y (List.mem_cons_of_mem _ hy), quM_or hv ha h2]
  ·rw [if_neg h, if_neg h, quM_fold m l L _ ha fun y hy => hL y (List.mem_cons_of_mem _ hy)]

end
end Go.Proofs.Ytifleoceebaooaa
