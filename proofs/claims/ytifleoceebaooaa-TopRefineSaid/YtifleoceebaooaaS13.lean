/-
 Layer 5, pure: the law of what is seen holds.
-/
import Derived.Test.YtifleoceebaooaaS11
import Derived.Test.YtifleoceebaooaaS12
namespace Go.Proofs.Ytifleoceebaooaa
open Go.RowKit

set_option linter.unusedVariables false
set_option linter.unusedSectionVars false
set_option linter.unusedSimpArgs false

theorem nd_injN {l : List Nat} (h : l.Nodup) {i j y : Nat} (hi : l[i]? = some y) (hj : l[j]? = some y) : i = j := by
 obtain ⟨hi', e1⟩ := List.getElem?_eq_some_iff.1 hi
 obtain ⟨hj', e2⟩ := List.getElem?_eq_some_iff.1 hj
 unfold List.Nodup at h
 rw [List.pairwise_iff_getElem] at h
 rcases Nat.lt_trichotomy i j with hlt | rfl | hlt
 ·exact absurd (e1.trans e2.symm) (h i j hi' hj' hlt)
 ·rfl
 ·exact absurd (e2.trans e1.symm) (h j i hj' hi' hlt)

theorem Seen_eq {s : Sys} (h : validB s = true) : refine_Seen s = some (match seenW s with | none => (0, [], 4) | some y => ((y.1.length : Int), y.2, 0)) := by
 obtain ⟨T, e1, h1⟩ := frameOf_eq s (okZ_valid h)
 rw [if_pos h] at e1
 have e3 := seen_eq (okS_valid h) (h1 h)
 have e3' : refine_frame_seen ((s.1, s.2), T) = _ := e3
 unfold refine_Seen
 rw [e1, Option.bind_some]
 simp only [decide_true, Bool.not_true, Bool.false_eq_true, if_false]
 rw [e3', Option.bind_some]
 cases seenW s <;> rfl

/-! ### What is seen -/

section
variable {s : Sys} (hs : validB s = true) {E : List Nat} {S : List Stp} (hw : seenW s = some (E, S))
include hs hw

theorem seen_wi : WI (coM s) (2 ^ s.1.toNat) (begM s) E.length 1 (E, S) :=
 walk_inv (fun m hm q => coM_lt (okS_valid hs) hm q) 7 0 (x := ([begM s], [])) (y := (E, S)) (by omega) (by simp) (wi_begin (okS_valid hs)) hw

def sysOf (E : List Nat) (S : List Stp) : Sys := ((E.length : Int), S)

theorem seen_valid : validB (sysOf E S) = true := by
 have h := seen_wi hs hw
 have hlen := h.len
 have hfew := h.few
 have h0 := (List.getElem?_eq_some_iff.1 h.beg).1
 simp only at hlen hfew h0
 refine validB_of (by show (1 : Int) ≤ (E.length : Int); omega) (by show (E.length : Int) ≤ 6; omega) (by show S.length ≤ 24; omega) (fun z hz => ?_) ?_
 ·obtain ⟨j, q, t, m, rfl, q1, q3, _, g1, _, g3⟩ := h.st z hz
  have l1 := (List.getElem?_eq_some_iff.1 g1).1
  have l3 := (List.getElem?_eq_some_iff.1 g3).1
  simp only at l1 l3
  show (0 ≤ (j : Int) ∧ (j : Int) < (E.length : Int)) ∧ (0 ≤ q ∧ q ≤ 3) ∧ 0 ≤ (t : Int) ∧ (t : Int) < (E.length : Int)
  omega
 ·have hd := h.dif
  show S.Nodup
  unfold List.Nodup
  exact hd.imp fun {y z} hyz e => hyz (by rw [e]; exact ⟨rfl, rfl⟩)

theorem seen_plain : plainP (sysOf E S) := by
 have h := seen_wi hs hw
 refine ⟨fun z hz e => ?_, fun y hy z hz e1 e2 => ?_⟩
 ·obtain ⟨j, q, t, m, rfl, q1, _⟩ := h.st z hz
  simp only at e
  omega
 ·obtain ⟨j, q, t, m, rfl, q1, q3, _, g1, g2, g3⟩ := h.st y hy
  obtain ⟨j', q', t', m', rfl, q1', q3', _, g1', g2', g3'⟩ := h.st z hz
  simp only at e1 e2
  have ej : j = j' := by omega
  subst ej e2
  have em : m = m' := Option.some.inj (g1.symm.trans g1')
  subst em
  have et : t = t' := nd_injN h.nd g3 g3'
  subst et
  rfl

def phi (E : List Nat) (m : Nat) : Nat := 2 ^ idx E m

theorem seen_co (u : Nat) (hu : u ∈ E) (q : Int) (q1 : 0 < q) (q3 : q ≤ 3) : (coM s u q = 0 ∧ coM (sysOf E S) (phi E u) q = 0) ∨ (coM s u q ≠ 0 ∧ coM s u q ∈ E ∧ coM (sysOf E S) (phi E u) q = phi E (coM s u q)) := by
 have h := seen_wi hs hw
 have hg := okS_valid (seen_valid hs hw)
 have hp := seen_plain hs hw
 have hi := idx_get hu
 have hil := (List.getElem?_eq_some_iff.1 hi).1
 have e : coM (sysOf E S) (phi E u) q = stM (sysOf E S) (phi E u) q := by
  unfold coM
  rw [if_neg (by omega), plain_q hg hp, plain_q hg hp]
 rw [e]
 have bit : ∀ x, (stM (sysOf E S) (phi E u) q).testBit x = true ↔ ∃ z ∈ S, z.2.1 = q ∧ idx E u = z.1.toNat ∧ z.2.2.toNat = x := fun x => by
  rw [stM_bit]
  constructor
  ·rintro ⟨z, h1, h2, h3, h4⟩
   unfold phi at h3
   rw [Nat.testBit_two_pow, decide_eq_true_eq] at h3
   exact ⟨z, h1, h2, h3, h4⟩
  ·rintro ⟨z, h1, h2, h3, h4⟩
   refine ⟨z, h1, h2, ?_, h4⟩
   unfold phi
   rw [Nat.testBit_two_pow, decide_eq_true_eq]; exact h3
 have from_st : ∀ z ∈ S, z.2.1 = q → idx E u = z.1.toNat → coM s u q ≠ 0 ∧ E[z.2.2.toNat]? = some (coM s u q) := fun z hz e1 e2 => by
  obtain ⟨j, q', t, m, rfl, _, _, _, g1, g2, g3⟩ := h.st z hz
  simp only [Int.toNat_natCast] at e1 e2 ⊢
  subst e1
  rw [← e2] at g1
  have : m = u := Option.some.inj (g1.symm.trans hi)
  subst this
  exact ⟨g2, g3⟩
 rcases h.all _ u hi q q1 q3 (.inl hil) with h0 | ⟨t, ht, hm⟩
 ·refine .inl ⟨h0, Classical.byContradiction fun hne => ?_⟩
  obtain ⟨x, hx⟩ := ne_zero_bit hne
  obtain ⟨z, hz, e1, e2, _⟩ := (bit x).1 hx
  exact (from_st z hz e1 e2).1 h0
 ·have hmem : coM s u q ∈ E := List.mem_of_getElem? ht
  have het : idx E (coM s u q) = t := nd_injN h.nd (idx_get hmem) ht
  refine .inr ⟨(h.lt _ hmem).2, hmem, Nat.eq_of_testBit_eq fun x => ?_⟩
  rw [Bool.eq_iff_iff, bit]
  unfold phi
  rw [Nat.testBit_two_pow, decide_eq_true_eq, het]
  constructor
  ·rintro ⟨z, hz, e1, e2, e3⟩
   have := (from_st z hz e1 e2).2
   rw [e3] at this
   exact nd_injN h.nd ht this
  ·intro e
   exact ⟨_, hm, rfl, by simp, by simpa using e⟩

theorem seen_fol : ∀ (w : List Int) (u : Nat), u ∈ E → w.all seenB = true → (folM s u w = 0 ∧ folM (sysOf E S) (phi E u) w = 0) ∨ (folM s u w ≠ 0 ∧ folM (sysOf E S) (phi E u) w ≠ 0)
 | [], u, hu, _ => .inr ⟨((seen_wi hs hw).lt u hu).2, by
   show phi E u ≠ 0
   exact Nat.ne_of_gt (Nat.two_pow_pos _)⟩
 | l :: w, u, hu, h => by
  rw [List.all_cons, Bool.and_eq_true] at h
  have hl : 0 < l ∧ l ≤ 3 := by simpa [seenB] using h.1
  show (folM s (coM s u l) w = 0 ∧ folM (sysOf E S) (coM (sysOf E S) (phi E u) l) w = 0) ∨ (folM s (coM s u l) w ≠ 0 ∧ folM (sysOf E S) (coM (sysOf E S) (phi E u) l) w ≠ 0)
  rcases seen_co hs hw u hu l hl.1 hl.2 with ⟨h1, h2⟩ | ⟨h1, h2, h3⟩
  ·rw [h1, h2]
   exact .inl ⟨folM_zero (okS_valid hs) w, folM_zero (okS_valid (seen_valid hs hw)) w⟩
  ·rw [h3]
   exact seen_fol w _ h2 h.2

theorem phi_beg : phi E (begM s) = begM (sysOf E S) := by
 have h := seen_wi hs hw
 have hb : begM s ∈ E := List.mem_of_getElem? h.beg
 have : idx E (begM s) = 0 := nd_injN h.nd (idx_get hb) h.beg
 unfold phi begM
 rw [plain_q (okS_valid (seen_valid hs hw)) (seen_plain hs hw)]
 show 2 ^ idx E (begM s) = 1
 rw [this]

theorem seen_beh (w : List Int) (h : w.all seenB = true) : behM s w = 0 ↔ behM (sysOf E S) w = 0 := by
 have hb : begM s ∈ E := List.mem_of_getElem? (seen_wi hs hw).beg
 have := seen_fol hs hw w _ hb h
 rw [phi_beg hs hw] at this
 have e1 : behM s w = folM s (begM s) w := rfl
 have e2 : behM (sysOf E S) w = folM (sysOf E S) (begM (sysOf E S)) w := rfl
 rw [e1, e2]
 rcases this with ⟨h1, h2⟩ | ⟨h1, h2⟩
 ·simp [h1, h2]
 ·simp [h1, h2]

end

end Go.Proofs.Ytifleoceebaooaa
