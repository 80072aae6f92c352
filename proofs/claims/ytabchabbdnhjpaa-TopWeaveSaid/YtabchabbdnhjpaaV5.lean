/-
  Layer 3, pure: WeaveExchanges.
-/
import Derived.Test.YtabchabbdnhjpaaV4
namespace Go.Proofs.Ytabchabbdnhjpaa
open Go.RowKit

set_option linter.unusedVariables false
set_option linter.unusedSimpArgs false
set_option maxRecDepth 10000

theorem errW_ok {l : Ltr} {ws : List (List Int)} (h : errW l ws = 0) : okL l = true ∧ ∀ w ∈ ws, isWd l w = true := by
  unfold errW at h
  by_cases h1 : okL l = true
  · rw [if_pos h1] at h
    by_cases h2 : ws.all (isWd l) = true
    · exact ⟨h1, List.all_eq_true.1 h2⟩
    · rw [if_neg h2] at h; cases h
  · rw [if_neg h1] at h; cases h

/-- Whether there is an exchange at a place. -/
def canX (l : Ltr) (w : List Int) (at0 : Int) : Bool := decide (0 ≤ at0) && decide (at0 < (w.length : Int) - 1) && !dep l (w.getD at0.toNat 0) (w.getD (at0 + 1).toNat 0)
def swp (w : List Int) (at0 : Int) : List Int := (w.set at0.toNat (w.getD (at0 + 1).toNat 0)).set (at0 + 1).toNat (w.getD at0.toNat 0)

theorem getD_mem {w : List Int} {i : Nat} (h : i < w.length) : w.getD i 0 ∈ w := by
  have := List.getElem?_eq_getElem h
  rw [getD_of this]; exact List.mem_of_getElem? this

theorem exchange_eq {l : Ltr} {t : El T53} (ht : Ties l t) (at0 : Int) {w : List Int} (hw : ∀ x ∈ w, 0 ≤ x ∧ x < 6) (hl : w.length ≤ 1000) :
    weave_ties_exchange t at0 w = some (if canX l w at0 = true then (true, swp w at0) else (false, w)) := by
  unfold weave_ties_exchange canX
  by_cases h0 : at0 < 0
  · rw [if_pos (by simpa using h0), if_neg (by simp; omega)]
  rw [if_neg (by simpa using h0), ck_pos (by rw [inK_i64]; omega)]
  by_cases h1 : (w.length : Int) - 1 ≤ at0
  · rw [if_pos (by simpa using h1), if_neg (by simp; omega)]
  rw [if_neg (by simpa using h1)]
  have ha := hw _ (getD_mem (w := w) (i := at0.toNat) (by omega))
  have hb := hw _ (getD_mem (w := w) (i := (at0 + 1).toNat) (by omega))
  rw [ck_pos (by omega), ck_pos (by omega), ck_pos (by rw [inK_i64]; omega), ck_pos (by omega), ck_pos (by omega), ck_pos ha.1, ck_pos ha.2, ck_pos hb.1, ck_pos hb.2]
  have e1 : boolAt T53 t ((0 + (w.getD at0.toNat 0).toNat * 6) + (w.getD (at0 + 1).toNat 0).toNat * 1) = dep l (w.getD at0.toNat 0) (w.getD (at0 + 1).toNat 0) := ht _ _ ha.1 ha.2 hb.1 hb.2
  rw [e1]
  have g1 : decide (0 ≤ at0) = true := by simp; omega
  have g2 : decide (at0 < (w.length : Int) - 1) = true := by simp; omega
  rw [g1, g2]
  cases dep l (w.getD at0.toNat 0) (w.getD (at0 + 1).toNat 0) with
  | true => rfl
  | false =>
    rw [if_neg (by simp)]
    iterate 2 rw [ck_pos (by rw [inK_i64]; omega)]
    iterate 7 rw [ck_pos (by omega)]
    rw [ck_pos (by rw [List.length_set]; omega)]
    rfl

theorem Clone_eq3 (w : List Int) (hl : w.length ≤ 1000) : slices_Clone w = some w := by
  unfold slices_Clone
  rw [ck_pos (by omega)]

/-- The occurrences of two letters. -/
def proj (w : List Int) (a b : Int) : List Int := w.filter fun x => decide (x = a) || decide (x = b)

/-- What the memory's bound says of the letters that a law is given. -/
def okLt (l : Ltr) : Prop := few l.2

end Go.Proofs.Ytabchabbdnhjpaa
