/-
  Layer 5, pure: sets of states as numbers, and what the bits say.
-/
import Derived.Test.YtifleoceebaooaaGk
import Derived.Test.YtifleoceebaooaaTyr
namespace Go.Proofs.Ytifleoceebaooaa
open Go.RowKit

set_option linter.unusedVariables false
set_option linter.unusedSimpArgs false
set_option maxRecDepth 100000

/-! ### Bits -/

theorem bits_u8 : ∀ a < 64, ∀ i < 6, decide (iand .u8 (ishr .u8 ((a : Nat) : Int) ((i : Nat) : Int)) 1 = 1) = a.testBit i := by decide +kernel
theorem or_u8 : ∀ a < 64, ∀ b < 64, ior .u8 ((a : Nat) : Int) ((b : Nat) : Int) = ((a ||| b : Nat) : Int) := by decide +kernel
theorem shl_u8 : ∀ i < 6, ishl .u8 1 ((i : Nat) : Int) = ((2 ^ i : Nat) : Int) := by decide +kernel
theorem bits_i64 : ∀ a < 64, ∀ i < 6, decide (iand .i64 (ishr .i64 ((a : Nat) : Int) ((i : Nat) : Int)) 1 = 1) = a.testBit i := by decide +kernel
theorem or_i64 : ∀ a < 64, ∀ b < 64, ior .i64 ((a : Nat) : Int) ((b : Nat) : Int) = ((a ||| b : Nat) : Int) := by decide +kernel
theorem shl_i64 : ∀ i < 6, ishl .i64 1 ((i : Nat) : Int) = ((2 ^ i : Nat) : Int) := by decide +kernel

/-! ### Sets -/

/-- All of the one are in the other one. -/
def sub (a b : Nat) : Prop := ∀ i, a.testBit i = true → b.testBit i = true
theorem or_lt {a b n : Nat} (ha : a < 2 ^ n) (hb : b < 2 ^ n) : a ||| b < 2 ^ n := Nat.or_lt_two_pow ha hb
/-- How many are in a set of six. -/
def cnt (a : Nat) : Nat := (List.range 6).countP a.testBit

/-! ### What grows comes to rest -/

def itr (f : Nat → Nat) : Nat → Nat → Nat
  | 0, a => a
  | k + 1, a => f (itr f k a)

end Go.Proofs.Ytifleoceebaooaa
