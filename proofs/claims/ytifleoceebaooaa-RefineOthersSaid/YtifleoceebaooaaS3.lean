/-
  Layer 5, pure: the program's frame of a system: where each state comes by each label.
-/
import Derived.Test.YtifleoceebaooaaRfp
import Derived.Test.YtifleoceebaooaaS2
namespace Go.Proofs.Ytifleoceebaooaa
open Go.RowKit

set_option linter.unusedVariables false
set_option linter.unusedSectionVars false
set_option linter.unusedSimpArgs false

theorem isSeen_eq (l : Int) : refine_isSeen l = some (decide (0 < l ∧ l ≤ 3)) := by
  unfold refine_isSeen
  by_cases h : 0 < l
  · rw [if_pos (by simpa using h)]; simp [h]
  · rw [if_neg (by simpa using h)]; simp [h]

/-- What the walk by hidden steps makes of what it has found. -/
structure Led (s : Sys) (a i r : Nat) : Prop where
  lt : r < 2 ^ s.1.toNat
  su : sub a r
  me : r.testBit i = true
  cl : ∀ x, r.testBit x = true → a.testBit x = false → ∀ z ∈ s.2, z.1.toNat = x → z.2.1 = 0 → r.testBit z.2.2.toNat = true
  le : ∀ q, cl0 s q → sub a q → q.testBit i = true → sub r q

section
variable {s : Sys} (hv : OkS s)
include hv

end

/-- What the second table holds behind q steps. -/
def enM (s : Sys) (i : Nat) (l : Int) (q : Nat) : Nat := (s.2.take q).foldl (fun a z => if hitS (quM s (2 ^ i)) l z = true then a ||| quM s (2 ^ z.2.2.toNat) else a) 0

section
variable {s : Sys} (hv : OkS s)
include hv

/-- The tables, so far: the row of state i behind q i steps. -/
def FT (s : Sys) (q : Nat → Nat) (T : El T69) : Prop := ∀ i l, i < s.1.toNat → l < 4 → intAt T69 T (i * 4 + l) = ((if l = 0 then quM s (2 ^ i) else enM s i (l : Int) (q i) : Nat) : Int)

/-- The whole of it: each state comes by each label to where it should. -/
def Frm (s : Sys) (T : El T69) : Prop := ∀ i l, i < s.1.toNat → l < 4 → intAt T69 T (i * 4 + l) = ((coM s (2 ^ i) (l : Int) : Nat) : Int)

end
end Go.Proofs.Ytifleoceebaooaa
