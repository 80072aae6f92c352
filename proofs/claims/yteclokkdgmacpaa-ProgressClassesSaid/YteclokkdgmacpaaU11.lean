/-
  Layer 7, pure: the reference's ranks, round by round, are the least ones; ProgressRanks answers true.
-/
import Derived.Test.YteclokkdgmacpaaU10
import Derived.Test.YteclokkdgmacpaaU6
namespace Go.Proofs.Yteclokkdgmacpaa
open Go.RowKit

set_option linter.unusedVariables false
set_option linter.unusedSimpArgs false
set_option linter.unusedSectionVars false
set_option maxRecDepth 10000

/-! ### The program is awake -/

theorem Awake8 : lineallaw07_Awake = some true := by
  have ho : okG (2, [(0, 0, 1, false), (1, 1, 0, true)]) = true := by decide
  have hg := okG_iff.1 ho
  have hz : okZ (2, [(0, 0, 1, false), (1, 1, 0, true)]) := by
    refine ⟨few_of (n := 2) (by simp), fun m hm => ?_⟩
    have := hg.mv m hm
    have := hg.hi
    rw [inK_i64, inK_i64, inK_i64]
    omega
  have hL : Least (clm 0 0) (2, [(0, 0, 1, false), (1, 1, 0, true)]) [1, 0] := by
    refine ⟨rfl, fun m hm _ => ?_, fun p p1 p2 => ?_, fun p p1 p2 hn => ?_, fun r' hr' hn p p1 p2 => ?_⟩
    · rcases List.mem_cons.1 hm with rfl | hm
      · decide
      · rw [List.mem_singleton] at hm; subst hm; decide
    · simp only at p2
      have : p = 0 ∨ p = 1 := by omega
      rcases this with rfl | rfl <;> decide
    · simp only at p2
      have : p = 0 ∨ p = 1 := by omega
      rcases this with rfl | rfl
      · exact absurd (rch_refl hg (zero_in hg)) hn
      · rfl
    · simp only at p2
      have : p = 0 ∨ p = 1 := by omega
      rcases this with rfl | rfl
      · have h1 := hr' (0, 0, 1, false) (by simp) (rch_refl hg (zero_in hg))
        have h2 := hn 1 (by decide) (by decide)
        have e : lst (clm 0 0) r' (0, 0, 1, false) = rAt r' 1 + 1 := rfl
        rw [e] at h1
        have e2 : rAt [1, 0] 0 = 1 := rfl
        rw [e2]
        simp only at h1
        omega
      · exact hn 1 (by decide) (by decide)
  have ha : ask (2, [(0, 0, 1, false), (1, 1, 0, true)]) 0 0 = 0 := ask_zero.2 ⟨hg, by decide, by decide, fun _ => rfl⟩
  have e : rksR (2, [(0, 0, 1, false), (1, 1, 0, true)]) 0 0 = ([1, 0], 0) := by
    unfold rksR
    rw [if_pos ha, rkA_some hL]
  unfold lineallaw07_Awake
  rw [Ranks_eq _ hz, e, Option.bind_some, if_pos (by simp), SameInts_eq7 _ _ (few_of (n := 2) (by simp)) (few_of (n := 2) (by simp))]
  rfl

/-- One move of a round. -/
def rlx (C : Clm) (g : Gr) (s : List Int × Bool) (k : Nat) : List Int × Bool :=
  if bk C g s.1 (g.2.getD k (0, 0, 0, false)) = true then (s.1.set (g.2.getD k (0, 0, 0, false)).1.toNat (lst C s.1 (g.2.getD k (0, 0, 0, false))), false) else s
/-- The first moves of a round. -/
def rlxs (C : Clm) (g : Gr) (r : List Int) (n : Nat) : List Int × Bool := (List.range n).foldl (rlx C g) (r, true)
section
variable {C : Clm} {g : Gr} (hg : GOK g) {r : List Int} (hL : Low C g r)
include hg hL

end

/-- Places whose ranks are not settled. -/
def uns (L r : List Int) (n : Nat) : List Nat := (List.range n).filter fun p => decide (rAt r (p : Int) < rAt L (p : Int))

section
variable {g : Gr} (hg : GOK g) {c t : Int} (ha : ask g c t = 0)
include hg ha

end

end Go.Proofs.Yteclokkdgmacpaa
