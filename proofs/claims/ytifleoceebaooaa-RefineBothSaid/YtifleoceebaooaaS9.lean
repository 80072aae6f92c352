/-
  Layer 5, pure: traces and relations: what refines keeps traces; of a plain one this is all; the first trace that tells is short.
-/
import Derived.Test.YtifleoceebaooaaS5
import Derived.Test.YtifleoceebaooaaS6
namespace Go.Proofs.Ytifleoceebaooaa
open Go.RowKit

set_option linter.unusedVariables false
set_option linter.unusedSectionVars false
set_option linter.unusedSimpArgs false

def folM (s : Sys) (m : Nat) (w : List Int) : Nat := w.foldl (fun m l => coM s m l) m
theorem fold_orbit (f : Nat → Nat) (x : Nat) : ∀ (L : List Nat) (a : Nat), (L.foldl (fun a i => a ||| f i) a).testBit x = true ↔ a.testBit x = true ∨ ∃ i ∈ L, (f i).testBit x = true
  | [], a => by simp
  | i :: L, a => by
    rw [List.foldl_cons, fold_orbit f x L, Nat.testBit_or, Bool.or_eq_true]
    constructor
    · rintro ((h | h) | ⟨j, h1, h2⟩)
      · exact .inl h
      · exact .inr ⟨i, by simp, h⟩
      · exact .inr ⟨j, List.mem_cons_of_mem _ h1, h2⟩
    · rintro (h | ⟨j, h1, h2⟩)
      · exact .inl (.inl h)
      · rcases List.mem_cons.1 h1 with rfl | h1
        · exact .inl (.inr h2)
        · exact .inr ⟨j, h1, h2⟩

theorem bit_ne {a x : Nat} (h : a.testBit x = true) : a ≠ 0 := fun e => by rw [e] at h; simp at h

section
variable {s : Sys} (hv : OkS s)
include hv

theorem coM_bit {m : Nat} (hm : m < 2 ^ s.1.toNat) {l : Int} {x : Nat} : (coM s m l).testBit x = true ↔ ∃ y, m.testBit y = true ∧ (coM s (2 ^ y) l).testBit x = true := by
  rw [coM_bits hv hm l, fold_orbit]
  unfold bitsL
  constructor
  · rintro (h | ⟨y, h1, h2⟩)
    · simp at h
    · exact ⟨y, (List.mem_filter.1 h1).2, h2⟩
  · rintro ⟨y, h1, h2⟩
    have := bit_lt hm h1
    have h6 := n6 hv
    exact .inr ⟨y, List.mem_filter.2 ⟨List.mem_range.2 (by omega), h1⟩, h2⟩

theorem coM_cl {m : Nat} (hm : m < 2 ^ s.1.toNat) (l : Int) : cl0 s (coM s m l) := by
  unfold coM
  split
  · exact quM_cl hv hm
  · exact quM_cl hv (stM_lt hv _ _)

end

/-! ### A short one -/

section
variable {c a : Sys} (hc : OkS c) (ha : OkS a)
include hc ha

/-! ### What refines keeps traces -/

def img (Q : Nat → Nat) (S : Nat) : Nat := setM fun x => !decide (Q x &&& S = 0)

omit hc ha in
theorem img_bit {Q : Nat → Nat} {S x : Nat} : (img Q S).testBit x = true ↔ x < 6 ∧ ∃ y, (Q x).testBit y = true ∧ S.testBit y = true := by
  unfold img
  rw [setM_bit, Bool.not_eq_true', decide_eq_false_iff_not, ← and_ne]

theorem sim_step {Q : Nat → Nat} (hQ : Sim c a Q) {m S : Nat} (hS : S < 2 ^ a.1.toNat) {l : Int} (h : sub m (img Q S)) : sub (stM c m l) (img Q (coM a S l)) := fun j hj => by
  obtain ⟨z, h1, h2, h3, h4⟩ := stM_bit.1 hj
  obtain ⟨_, y, g1, g2⟩ := img_bit.1 (h _ h3)
  have hz := hc.st z h1
  have h6 := n6 hc
  obtain ⟨_, _, g3⟩ := hQ _ _ g1
  obtain ⟨i, g4, g5⟩ := folB_iff.1 g3 z h1 (by omega)
  rw [h2] at g4
  rw [h4] at g5
  exact img_bit.2 ⟨by omega, i, g5, (coM_bit ha hS).2 ⟨y, g2, g4⟩⟩

theorem sim_q {Q : Nat → Nat} (hQ : Sim c a Q) {m S : Nat} (hS : S < 2 ^ a.1.toNat) (hcl : cl0 a S) (h : sub m (img Q S)) : sub (quM c m) (img Q S) := by
  refine quM_least hc h ?_
  have h1 := sim_step hc ha hQ hS (l := 0) (sub_refl (img Q S))
  have h2 : coM a S 0 = S := by
    unfold coM
    rw [if_pos rfl]
    exact sub_anti (quM_least ha (sub_refl S) hcl) (quM_sub ha S)
  rw [h2] at h1
  exact h1

theorem sim_co {Q : Nat → Nat} (hQ : Sim c a Q) {m S : Nat} (hS : S < 2 ^ a.1.toNat) (hcl : cl0 a S) (h : sub m (img Q S)) (l : Int) : sub (coM c m l) (img Q (coM a S l)) := by
  by_cases h0 : l = 0
  · subst h0
    have h2 : coM a S 0 = S := by
      unfold coM
      rw [if_pos rfl]
      exact sub_anti (quM_least ha (sub_refl S) hcl) (quM_sub ha S)
    rw [h2]
    show sub (if (0 : Int) = 0 then quM c m else _) _
    rw [if_pos rfl]
    exact sim_q hc ha hQ hS hcl h
  · unfold coM
    rw [if_neg h0]
    have g := sim_q hc ha hQ (coM_lt ha hS l) (coM_cl ha hS l) (sim_step hc ha hQ hS (l := l) (sim_q hc ha hQ hS hcl h))
    unfold coM at g
    rw [if_neg h0] at g ⊢
    exact g

theorem sim_fol {Q : Nat → Nat} (hQ : Sim c a Q) : ∀ (w : List Int) {m S : Nat}, S < 2 ^ a.1.toNat → cl0 a S → sub m (img Q S) → sub (folM c m w) (img Q (folM a S w))
  | [], m, S, _, _, h => h
  | l :: w, m, S, hS, hcl, h => sim_fol hQ w (coM_lt ha hS l) (coM_cl ha hS l) (sim_co hc ha hQ hS hcl h l)

theorem ref_tr (h : refD c a) (w : List Int) (hw : behM c w ≠ 0) : behM a w ≠ 0 := by
  obtain ⟨Q, hQ, h0⟩ := h
  have hb : sub (begM c) (img Q (begM a)) := sim_q hc ha hQ (begM_lt ha) (quM_cl ha (one_lt ha)) (one_sub (i := 0).2 (img_bit.2 ⟨by omega, 0, h0, quM_sub ha 1 0 (by decide)⟩))
  have := sim_fol hc ha hQ w (begM_lt ha) (quM_cl ha (one_lt ha)) hb
  obtain ⟨x, hx⟩ := ne_zero_bit hw
  obtain ⟨_, y, _, g⟩ := img_bit.1 (this x hx)
  exact bit_ne g

/-! ### A plain one -/

def plainP (s : Sys) : Prop := (∀ z ∈ s.2, z.2.1 ≠ 0) ∧ ∀ y ∈ s.2, ∀ z ∈ s.2, y.1 = z.1 → y.2.1 = z.2.1 → y = z

def oneM (m : Nat) : Prop := ∀ y z, m.testBit y = true → m.testBit z = true → y = z

end
end Go.Proofs.Ytifleoceebaooaa
