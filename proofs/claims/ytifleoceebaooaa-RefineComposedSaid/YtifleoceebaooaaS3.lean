/-
  Layer 5, pure: the program's frame of a system: where each state comes by each label.
-/
import Derived.Test.YtifleoceebaooaaRfp
import Derived.Test.YtifleoceebaooaaS2
namespace Go.Proofs.Ytifleoceebaooaa
open Go.RowKit

set_option linter.unusedVariables false
set_option linter.unusedSectionVars false
set_option linter.unusedSimpArgs false

theorem intAt_setInt {k : IntKind} : ∀ {t : Ty} (x : El t) {j q : Nat} (v : Int), allInt k t = true → j < t.size → q < t.size → intAt t (setInt t x j v) q = if q = j then v else intAt t x q
  | .int p, x, j, q, v, _, hj, hq => by
    simp only [Ty.size] at hj hq
    have e : q = j := by omega
    simp [intAt, setInt, e]
  | .bool, x, j, q, v, h, _, _ => by simp [allInt] at h
  | .unit, x, j, q, v, _, hj, _ => by simp [Ty.size] at hj
  | .sl t, x, j, q, v, h, _, _ => by simp [allInt] at h
  | .pair a b, x, j, q, v, h, hj, hq => by
    simp only [allInt, Bool.and_eq_true] at h
    simp only [Ty.size] at hj hq
    by_cases h1 : j < a.size
    · by_cases h2 : q < a.size
      · have := intAt_setInt (k := k) x.1 v h.1 h1 h2
        simp only [intAt, setInt, h1, h2, if_true, this]
      · have hne : ¬ q = j := by omega
        simp only [intAt, setInt, h1, h2, if_true, if_false, hne]
    · by_cases h2 : q < a.size
      · have hne : ¬ q = j := by omega
        simp only [intAt, setInt, h1, h2, if_true, if_false, hne]
      · have := intAt_setInt (k := k) x.2 (j := j - a.size) (q := q - a.size) v h.2 (by omega) (by omega)
        simp only [intAt, setInt, h1, h2, if_false, this]
        by_cases h3 : q = j
        · rw [if_pos (by omega), if_pos h3]
        · rw [if_neg (by omega), if_neg h3]

theorem has_eq (a s : Int) (h : 0 ≤ s) : refine_set_has a s = some () := by unfold refine_set_has; rw [ck_pos h]

theorem bit_u8 {a : Nat} (ha : a < 64) {i : Int} (h0 : 0 ≤ i) (h6 : i < 6) : decide (iand .u8 (ishr .u8 (a : Int) i) 1 = 1) = a.testBit i.toNat := by
  obtain ⟨i, rfl⟩ := Int.eq_ofNat_of_zero_le h0
  rw [Int.toNat_natCast]
  exact bits_u8 a ha i (by omega)

/-- What the walk by hidden steps makes of what it has found. -/
structure Led (s : Sys) (a i r : Nat) : Prop where
  lt : r < 2 ^ s.1.toNat
  su : sub a r
  me : r.testBit i = true
  cl : ∀ x, r.testBit x = true → a.testBit x = false → ∀ z ∈ s.2, z.1.toNat = x → z.2.1 = 0 → r.testBit z.2.2.toNat = true
  le : ∀ q, cl0 s q → sub a q → q.testBit i = true → sub r q

section
variable {s : Sys} (hv : OkS s)
include hv

end

/-- What the second table holds behind q steps. -/
def enM (s : Sys) (i : Nat) (l : Int) (q : Nat) : Nat := (s.2.take q).foldl (fun a z => if hitS (quM s (2 ^ i)) l z = true then a ||| quM s (2 ^ z.2.2.toNat) else a) 0

section
variable {s : Sys} (hv : OkS s)
include hv

/-- The tables, so far: the row of state i behind q i steps. -/
def FT (s : Sys) (q : Nat → Nat) (T : El T69) : Prop := ∀ i l, i < s.1.toNat → l < 4 → intAt T69 T (i * 4 + l) = ((if l = 0 then quM s (2 ^ i) else enM s i (l : Int) (q i) : Nat) : Int)

/-- The whole of it: each state comes by each label to where it should. -/
def Frm (s : Sys) (T : El T69) : Prop := ∀ i l, i < s.1.toNat → l < 4 → intAt T69 T (i * 4 + l) = ((coM s (2 ^ i) (l : Int) : Nat) : Int)

end
end Go.Proofs.Ytifleoceebaooaa
