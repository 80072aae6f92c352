/-
 Layer 5, pure: traces and relations: what refines keeps traces; of a plain one this is all; the first trace that tells is short.
-/
import Derived.Test.YtifleoceebaooaaS5
import Derived.Test.YtifleoceebaooaaS6
namespace Go.Proofs.Ytifleoceebaooaa
open Go.RowKit

set_option linter.unusedVariables false
set_option linter.unusedSectionVars false
set_option linter.unusedSimpArgs false

/-- Numbers below n, none twice: no more than n. -/
theorem nodup_lt : ∀ (n : Nat) (l : List Nat), l.Nodup → (∀ x ∈ l, x < n) → l.length ≤ n
 | 0, l, _, h => by
  cases l with
  | nil => simp
  | cons x r => exact absurd (h x (by simp)) (by omega)
 | n + 1, l, hd, h => by
  by_cases hn : n ∈ l
  ·have h1 := nodup_lt n (l.erase n) (hd.erase n) (fun x hx => by
    have := h x (List.mem_of_mem_erase hx)
    have hne : x ≠ n := fun e => by subst e; exact (List.Nodup.not_mem_erase hd) hx
    omega)
   rw [List.length_erase_of_mem hn] at h1
   omega
  ·have h1 := nodup_lt n l hd (fun x hx => by
    have := h x hx
    have hne : x ≠ n := fun e => by subst e; exact hn hx
    omega)
   omega

def folM (s : Sys) (m : Nat) (w : List Int) : Nat := w.foldl (fun m l => coM s m l) m
theorem fold_orbit (f : Nat → Nat) (x : Nat) : ∀ (L : List Nat) (a : Nat), (L.foldl (fun a i => a ||| f i) a).testBit x = true ↔ a.testBit x = true ∨ ∃ i ∈ L, (f i).testBit x = true
 | [], a => by simp
 | i :: L, a => by
  rw [List.foldl_cons, fold_orbit f x L, Nat.testBit_or, Bool.or_eq_true]
  constructor
  ·rintro ((h | h) | ⟨j, h1, h2⟩)
   ·exact .inl h
   ·exact .inr ⟨i, by simp, h⟩
   ·exact .inr ⟨j, List.mem_cons_of_mem _ h1, h2⟩
  ·rintro (h | ⟨j, h1, h2⟩)
   ·exact .inl (.inl h)
   ·rcases List.mem_cons.1 h1 with rfl | h1
    ·exact .inl (.inr h2)
    ·exact .inr ⟨j, h1, h2⟩

theorem bit_ne {a x : Nat} (h : a.testBit x = true) : a ≠ 0 := fun e => by rw [e] at h; simp at h

section
variable {s : Sys} (hv : OkS s)
include hv

theorem folM_zero : ∀ w : List Int, folM s 0 w = 0
 | [] => rfl
 | l :: w => by
  show folM s (coM s 0 l) w = 0
  rw [coM_zero hv]; exact folM_zero w

theorem coM_bit {m : Nat} (hm : m < 2 ^ s.1.toNat) {l : Int} {x : Nat} : (coM s m l).testBit x = true ↔ ∃ y, m.testBit y = true ∧ (coM s (2 ^ y) l).testBit x = true := by
 rw [coM_bits hv hm l, fold_orbit]
 unfold bitsL
 constructor
 ·rintro (h | ⟨y, h1, h2⟩)
  ·simp at h
  ·exact ⟨y, (List.mem_filter.1 h1).2, h2⟩
 ·rintro ⟨y, h1, h2⟩
  have := bit_lt hm h1
  have h6 := n6 hv
  exact .inr ⟨y, List.mem_filter.2 ⟨List.mem_range.2 (by omega), h1⟩, h2⟩

theorem coM_cl {m : Nat} (hm : m < 2 ^ s.1.toNat) (l : Int) : cl0 s (coM s m l) := by
 unfold coM
 split
 ·exact quM_cl hv hm
 ·exact quM_cl hv (stM_lt hv _ _)

theorem folM_cl : ∀ (w : List Int) {m : Nat}, m < 2 ^ s.1.toNat → cl0 s m → cl0 s (folM s m w)
 | [], m, _, h => h
 | l :: w, m, hm, _ => folM_cl w (coM_lt hv hm l) (coM_cl hv hm l)

theorem behM_cl (w : List Int) : cl0 s (behM s w) := folM_cl hv w (begM_lt hv) (quM_cl hv (one_lt hv))

end

/-! ### A short one -/

section
variable {c a : Sys} (hc : OkS c) (ha : OkS a)
include hc ha

/-! ### What refines keeps traces -/

def img (Q : Nat → Nat) (S : Nat) : Nat := setM fun x => !decide (Q x &&& S = 0)

omit hc ha in
theorem img_bit {Q : Nat → Nat} {S x : Nat} : (img Q S).testBit x = true ↔ x < 6 ∧ ∃ y, (Q x).testBit y = true ∧ S.testBit y = true := by
 unfold img
 rw [setM_bit, Bool.not_eq_true', decide_eq_false_iff_not, ← and_ne]

theorem sim_step {Q : Nat → Nat} (hQ : Sim c a Q) {m S : Nat} (hS : S < 2 ^ a.1.toNat) {l : Int} (h : sub m (img Q S)) : sub (stM c m l) (img Q (coM a S l)) := fun j hj => by
 obtain ⟨z, h1, h2, h3, h4⟩ := stM_bit.1 hj
 obtain ⟨_, y, g1, g2⟩ := img_bit.1 (h _ h3)
 have hz := hc.st z h1
 have h6 := n6 hc
 obtain ⟨_, _, g3⟩ := hQ _ _ g1
 obtain ⟨i, g4, g5⟩ := folB_iff.1 g3 z h1 (by omega)
 rw [h2] at g4
 rw [h4] at g5
 exact img_bit.2 ⟨by omega, i, g5, (coM_bit ha hS).2 ⟨y, g2, g4⟩⟩

theorem sim_q {Q : Nat → Nat} (hQ : Sim c a Q) {m S : Nat} (hS : S < 2 ^ a.1.toNat) (hcl : cl0 a S) (h : sub m (img Q S)) : sub (quM c m) (img Q S) := by
 refine quM_least hc h ?_
 have h1 := sim_step hc ha hQ hS (l := 0) (sub_refl (img Q S))
 have h2 : coM a S 0 = S := by
  unfold coM
  rw [if_pos rfl]
  exact sub_anti (quM_least ha (sub_refl S) hcl) (quM_sub ha S)
 rw [h2] at h1
 exact h1

theorem sim_co {Q : Nat → Nat} (hQ : Sim c a Q) {m S : Nat} (hS : S < 2 ^ a.1.toNat) (hcl : cl0 a S) (h : sub m (img Q S)) (l : Int) : sub (coM c m l) (img Q (coM a S l)) := by
 by_cases h0 : l = 0
 ·subst h0
  have h2 : coM a S 0 = S := by
   unfold coM
   rw [if_pos rfl]
   exact sub_anti (quM_least ha (sub_refl S) hcl) (quM_sub ha S)
  rw [h2]
  show sub (if (0 : Int) = 0 then quM c m else _) _
  rw [if_pos rfl]
  exact sim_q hc ha hQ hS hcl h
 ·unfold coM
  rw [if_neg h0]
  have g := sim_q hc ha hQ (coM_lt ha hS l) (coM_cl ha hS l) (sim_step hc ha hQ hS (l := l) (sim_q hc ha hQ hS hcl h))
  unfold coM at g
  rw [if_neg h0] at g ⊢
  exact g

theorem sim_fol {Q : Nat → Nat} (hQ : Sim c a Q) : ∀ (w : List Int) {m S : Nat}, S < 2 ^ a.1.toNat → cl0 a S → sub m (img Q S) → sub (folM c m w) (img Q (folM a S w))
 | [], m, S, _, _, h => h
 | l :: w, m, S, hS, hcl, h => sim_fol hQ w (coM_lt ha hS l) (coM_cl ha hS l) (sim_co hc ha hQ hS hcl h l)

theorem ref_tr (h : refD c a) (w : List Int) (hw : behM c w ≠ 0) : behM a w ≠ 0 := by
 obtain ⟨Q, hQ, h0⟩ := h
 have hb : sub (begM c) (img Q (begM a)) := sim_q hc ha hQ (begM_lt ha) (quM_cl ha (one_lt ha)) (one_sub (i := 0).2 (img_bit.2 ⟨by omega, 0, h0, quM_sub ha 1 0 (by decide)⟩))
 have := sim_fol hc ha hQ w (begM_lt ha) (quM_cl ha (one_lt ha)) hb
 obtain ⟨x, hx⟩ := ne_zero_bit hw
 obtain ⟨_, y, _, g⟩ := img_bit.1 (this x hx)
 exact bit_ne g

/-! ### A plain one -/

def plainP (s : Sys) : Prop := (∀ z ∈ s.2, z.2.1 ≠ 0) ∧ ∀ y ∈ s.2, ∀ z ∈ s.2, y.1 = z.1 → y.2.1 = z.2.1 → y = z

omit hc in
theorem plain_q (hp : plainP a) (m : Nat) : quM a m = m := by
 refine sub_anti (quM_least ha (sub_refl m) fun j hj => ?_) (quM_sub ha m)
 obtain ⟨z, h1, h2, _, _⟩ := stM_bit.1 hj
 exact absurd h2 (hp.1 z h1)

def oneM (m : Nat) : Prop := ∀ y z, m.testBit y = true → m.testBit z = true → y = z

omit hc in
theorem plain_co (hp : plainP a) {m : Nat} (h : oneM m) (l : Int) : oneM (coM a m l) := by
 unfold coM
 split
 ·rw [plain_q ha hp]; exact h
 ·rw [plain_q ha hp, plain_q ha hp]
  intro y z hy hz
  obtain ⟨p, h1, h2, h3, h4⟩ := stM_bit.1 hy
  obtain ⟨q, g1, g2, g3, g4⟩ := stM_bit.1 hz
  have e := h _ _ h3 g3
  have b1 := ha.st p h1
  have b2 := ha.st q g1
  have : p = q := hp.2 p h1 q g1 (by omega) (by rw [h2, g2])
  rw [← h4, ← g4, this]

omit hc in
theorem plain_fol (hp : plainP a) : ∀ (w : List Int) {m : Nat}, oneM m → oneM (folM a m w)
 | [], m, h => h
 | l :: w, m, h => plain_fol hp w (plain_co ha hp h l)

omit hc in
theorem plain_beh (hp : plainP a) (w : List Int) : oneM (behM a w) := by
 refine plain_fol ha hp w ?_
 unfold begM
 rw [plain_q ha hp]
 intro y z hy hz
 have g : ∀ j, Nat.testBit 1 j = true → j = 0 := fun j hj => by
  have : Nat.testBit (2 ^ 0) j = true := hj
  rw [Nat.testBit_two_pow, decide_eq_true_eq] at this
  exact this.symm
 rw [g y hy, g z hz]

open Classical in
theorem plain_ref (hp : plainP a) (h : ∀ w : List Int, w.all seenB = true → behM c w ≠ 0 → behM a w ≠ 0) : refD c a := by
 have h6 := n6 ha
 have bit : ∀ x y, (setM fun y => decide (∃ w : List Int, w.all seenB = true ∧ (behM c w).testBit x = true ∧ (behM a w).testBit y = true)).testBit y = true ↔ ∃ w : List Int, w.all seenB = true ∧ (behM c w).testBit x = true ∧ (behM a w).testBit y = true := fun x y => by
  rw [setM_bit, decide_eq_true_eq]
  constructor
  ·intro g; exact g.2
  ·rintro ⟨w, g1, g2, g3⟩
   have := bit_lt (behM_lt ha w) g3
   exact ⟨by omega, w, g1, g2, g3⟩
 refine ⟨fun x => setM fun y => decide (∃ w : List Int, w.all seenB = true ∧ (behM c w).testBit x = true ∧ (behM a w).testBit y = true), fun x y hy => ?_, (bit 0 0).2 ⟨[], rfl, quM_sub hc 1 0 (by decide), quM_sub ha 1 0 (by decide)⟩⟩
 obtain ⟨w, g1, g2, g3⟩ := (bit x y).1 hy
 refine ⟨bit_lt (behM_lt hc w) g2, bit_lt (behM_lt ha w) g3, folB_iff.2 fun z hz he => ?_⟩
 have b := hc.st z hz
 have hcs := come_step hc hz
 rw [he, Int.toNat_natCast] at hcs
 have ht : (behM c (w ++ [z.2.1])).testBit z.2.2.toNat = true := by
  rw [behM_snoc hc]
  exact (coM_bit hc (behM_lt hc w)).2 ⟨x, g2, hcs⟩
 by_cases h0 : z.2.1 = 0
 ·refine ⟨y, ?_, (bit _ y).2 ⟨w, g1, ?_, g3⟩⟩
  ·unfold coM
   rw [if_pos h0]
   exact one_sub.1 (quM_sub ha _)
  ·exact behM_cl hc w _ (stM_bit.2 ⟨z, hz, h0, by rw [he, Int.toNat_natCast]; exact g2, rfl⟩)
 ·have hs : (w ++ [z.2.1]).all seenB = true := by
   rw [List.all_append, g1, Bool.true_and, List.all_cons, List.all_nil, Bool.and_true]
   unfold seenB
   rw [decide_eq_true_eq]; omega
  obtain ⟨j, hj⟩ := ne_zero_bit (h _ hs (bit_ne ht))
  have hj' := hj
  rw [behM_snoc ha] at hj'
  obtain ⟨y', k1, k2⟩ := (coM_bit ha (behM_lt ha w)).1 hj'
  have e := plain_beh ha hp w y y' g3 k1
  rw [← e] at k2
  exact ⟨j, k2, (bit _ j).2 ⟨_, hs, ht, hj⟩⟩

end
end Go.Proofs.Ytifleoceebaooaa
