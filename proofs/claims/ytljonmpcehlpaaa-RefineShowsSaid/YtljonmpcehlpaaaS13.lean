/-
  Layer 5, pure: the law of what is seen holds.
-/
import Derived.Test.YtljonmpcehlpaaaS11
import Derived.Test.YtljonmpcehlpaaaS12
namespace Go.Proofs.Ytljonmpcehlpaaa
open Go.RowKit

set_option linter.unusedVariables false
set_option linter.unusedSectionVars false
set_option linter.unusedSimpArgs false

theorem Seen_eq {s : Sys} (h : validB s = true) : refine_Seen s = some (match seenW s with | none => (0, [], 4) | some y => ((y.1.length : Int), y.2, 0)) := by
  obtain ⟨T, e1, h1⟩ := frameOf_eq s (okZ_valid h)
  rw [if_pos h] at e1
  have e3 := seen_eq (okS_valid h) (h1 h)
  have e3' : refine_frame_seen ((s.1, s.2), T) = _ := e3
  unfold refine_Seen
  rw [e1, Option.bind_some]
  simp only [decide_true, Bool.not_true, Bool.false_eq_true, if_false]
  rw [e3', Option.bind_some]
  cases seenW s <;> rfl

/-! ### What is seen -/

section
variable {s : Sys} (hs : validB s = true) {E : List Nat} {S : List Stp} (hw : seenW s = some (E, S))
include hs hw

theorem seen_wi : WI (coM s) (2 ^ s.1.toNat) (begM s) E.length 1 (E, S) :=
  walk_inv (fun m hm q => coM_lt (okS_valid hs) hm q) 7 0 (x := ([begM s], [])) (y := (E, S)) (by omega) (by simp) (wi_begin (okS_valid hs)) hw

def sysOf (E : List Nat) (S : List Stp) : Sys := ((E.length : Int), S)

theorem seen_valid : validB (sysOf E S) = true := by
  have h := seen_wi hs hw
  have hlen := h.len
  have hfew := h.few
  have h0 := (List.getElem?_eq_some_iff.1 h.beg).1
  simp only at hlen hfew h0
  refine validB_of (by show (1 : Int) ≤ (E.length : Int); omega) (by show (E.length : Int) ≤ 6; omega) (by show S.length ≤ 24; omega) (fun z hz => ?_) ?_
  · obtain ⟨j, q, t, m, rfl, q1, q3, _, g1, _, g3⟩ := h.st z hz
    have l1 := (List.getElem?_eq_some_iff.1 g1).1
    have l3 := (List.getElem?_eq_some_iff.1 g3).1
    simp only at l1 l3
    show (0 ≤ (j : Int) ∧ (j : Int) < (E.length : Int)) ∧ (0 ≤ q ∧ q ≤ 3) ∧ 0 ≤ (t : Int) ∧ (t : Int) < (E.length : Int)
    omega
  · have hd := h.dif
    show S.Nodup
    unfold List.Nodup
    exact hd.imp fun {y z} hyz e => hyz (by rw [e]; exact ⟨rfl, rfl⟩)

def phi (E : List Nat) (m : Nat) : Nat := 2 ^ idx E m

end

end Go.Proofs.Ytljonmpcehlpaaa
