/-
  Layer 2, pure: what specifications answer, and states.
-/
import Derived.Test.YtlfpagicagmjgaaH4s
namespace Go.Proofs.Ytlfpagicagmjgaa
open Go.RowKit

set_option linter.unusedVariables false
set_option linter.unusedSimpArgs false
set_option maxRecDepth 10000

def spAt (specs : List Tup) (i : Int) : Tup := specs.getD i.toNat (0, 0, [], [])

def sayS (s : Tup) (q o : Int) : Int := (s.2.2.2.getD q.toNat []).getD o.toNat 0

def nexS (s : Tup) (q o : Int) : Int := (s.2.2.1.getD q.toNat []).getD o.toNat 0

def stOf (s : Int × Int) (i : Int) : Int := if i = 0 then s.1 else s.2

def stTo (s : Int × Int) (i q : Int) : Int × Int := if i = 0 then (q, s.2) else (s.1, q)

/-- A call may be done: its thread, its object and its call are some. -/
def canC (specs : List Tup) (c : HC6) : Bool := inB 0 c.1 3 && inB 0 c.2.1 ((specs.length : Int) - 1) && inB 0 c.2.2.1 ((spAt specs c.2.1).2.1 - 1)

/-- States of the objects are states. -/
def okP2 (specs : List Tup) (s : Int × Int) : Prop := ∀ i : Int, 0 ≤ i → i < (specs.length : Int) → 0 ≤ stOf s i ∧ stOf s i < (spAt specs i).1

theorem ok_parts {s : Tup} (h : (toSp s).ok = true) : 1 ≤ s.1 ∧ s.1 ≤ 8 ∧ 1 ≤ s.2.1 ∧ s.2.1 ≤ 4 ∧ tab s.1 s.2.1 (inR s.1) s.2.2.1 = true ∧ tab s.1 s.2.1 ansB s.2.2.2 = true := by
  unfold Sp.ok toSp at h
  simp only [Bool.and_eq_true, decide_eq_true_eq] at h
  exact ⟨h.1.1.1.1.1, h.1.1.1.1.2, h.1.1.1.2, h.1.1.2, h.1.2, h.2⟩

theorem tab_at {st op : Int} {p : Int → Bool} {rs : List (List Int)} (h : tab st op p rs = true) {q o : Int} (hq : 0 ≤ q ∧ q < st) (ho : 0 ≤ o ∧ o < op) : (rs.length : Int) = st ∧ ((rs.getD q.toNat []).length : Int) = op ∧ p ((rs.getD q.toNat []).getD o.toNat 0) = true := by
  unfold tab at h
  simp only [Bool.and_eq_true, decide_eq_true_eq] at h
  obtain ⟨h1, h2⟩ := h
  have hlt : q.toNat < rs.length := by omega
  have hr := List.all_eq_true.1 h2 _ (List.getElem_mem hlt)
  have e1 : rs.getD q.toNat [] = rs[q.toNat] := by rw [List.getD_eq_getElem?_getD, List.getElem?_eq_getElem hlt]; rfl
  simp only [Bool.and_eq_true, decide_eq_true_eq] at hr
  rw [e1]
  have hlt2 : o.toNat < rs[q.toNat].length := by omega
  refine ⟨h1, hr.1, ?_⟩
  have e2 : rs[q.toNat].getD o.toNat 0 = rs[q.toNat][o.toNat] := by rw [List.getD_eq_getElem?_getD, List.getElem?_eq_getElem hlt2]; rfl
  rw [e2]
  exact List.all_eq_true.1 hr.2 _ (List.getElem_mem hlt2)

theorem okSs_at {specs : List Tup} (h : okSs specs = true) {i : Int} (hi : 0 ≤ i ∧ i < (specs.length : Int)) : (toSp (spAt specs i)).ok = true := by
  unfold okSs at h
  simp only [Bool.and_eq_true] at h
  exact allB_iff.1 h.2 i.toNat (by omega)

theorem okSs_len {specs : List Tup} (h : okSs specs = true) : 1 ≤ (specs.length : Int) ∧ (specs.length : Int) ≤ 2 := by
  unfold okSs at h
  simp only [Bool.and_eq_true, decide_eq_true_eq] at h
  exact h.1

theorem canC_parts {specs : List Tup} {c : HC6} (h : canC specs c = true) : (0 ≤ c.1 ∧ c.1 ≤ 3) ∧ (0 ≤ c.2.1 ∧ c.2.1 < (specs.length : Int)) ∧ 0 ≤ c.2.2.1 ∧ c.2.2.1 < (spAt specs c.2.1).2.1 := by
  unfold canC inB at h
  simp only [Bool.and_eq_true, decide_eq_true_eq] at h
  omega

theorem okP2_to {specs : List Tup} (hs : okSs specs = true) {c : HC6} (hc : canC specs c = true) {s : Int × Int} (h : okP2 specs s) : okP2 specs (stTo s c.2.1 (nexS (spAt specs c.2.1) (stOf s c.2.1) c.2.2.1)) := by
  obtain ⟨_, ho, hp⟩ := canC_parts hc
  have hl2 := okSs_len hs
  obtain ⟨_, _, _, _, t1, _⟩ := ok_parts (okSs_at hs ho)
  have hq := h c.2.1 ho.1 ho.2
  obtain ⟨_, _, n3⟩ := tab_at t1 hq hp
  unfold inR at n3
  have n4 := of_decide_eq_true n3
  intro i hi0 hi1
  by_cases hic : i = c.2.1
  · subst hic
    have : stOf (stTo s c.2.1 (nexS (spAt specs c.2.1) (stOf s c.2.1) c.2.2.1)) c.2.1 = nexS (spAt specs c.2.1) (stOf s c.2.1) c.2.2.1 := by
      unfold stTo
      by_cases h0 : c.2.1 = 0
      · rw [if_pos h0]; show (if c.2.1 = 0 then _ else _) = _; rw [if_pos h0]
      · rw [if_neg h0]; show (if c.2.1 = 0 then _ else _) = _; rw [if_neg h0]
    rw [this]; exact n4
  · have : stOf (stTo s c.2.1 (nexS (spAt specs c.2.1) (stOf s c.2.1) c.2.2.1)) i = stOf s i := by
      unfold stTo stOf
      by_cases h0 : c.2.1 = 0
      · have : ¬ i = 0 := fun h => hic (by omega)
        simp [h0, this]
      · have : i = 0 := by omega
        simp [h0, this]
    rw [this]; exact h i hi0 hi1

theorem okP2_zero {specs : List Tup} (hs : okSs specs = true) : okP2 specs (0, 0) := fun i h0 h1 => by
  have := ok_parts (okSs_at hs ⟨h0, h1⟩)
  have e : stOf (0, 0) i = 0 := by unfold stOf; split <;> rfl
  rw [e]; omega

end Go.Proofs.Ytlfpagicagmjgaa
