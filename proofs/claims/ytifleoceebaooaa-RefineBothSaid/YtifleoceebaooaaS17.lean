/-
  Layer 5, pure: relations as lists of pairs, one behind the other.
-/
import Derived.Test.YtifleoceebaooaaS8
namespace Go.Proofs.Ytifleoceebaooaa

set_option linter.unusedVariables false
set_option linter.unusedSimpArgs false
set_option maxRecDepth 100000
set_option maxHeartbeats 1000000

/-! ### Lists in ascending order -/

def pairB (n m : Int) (p : Int × Int) : Bool := decide (0 ≤ p.1 ∧ p.1 < n ∧ 0 ≤ p.2 ∧ p.2 < m)
def lexB (p q : Int × Int) : Bool := decide (p.1 < q.1 ∨ p.1 = q.1 ∧ p.2 < q.2)
def isRelB (n m : Int) (l : List (Int × Int)) : Bool := allB l.length fun i => pairB n m (l.getD i (0, 0)) && (decide (i = 0) || lexB (l.getD (i - 1) (0, 0)) (l.getD i (0, 0)))

/-! ### Marks gathered along a list of pairs -/

def accM (L : List (Nat × Nat)) (g : Nat × Nat → Nat) (x : Nat) : Nat := L.foldl (fun m p => if p.1 = x then m ||| g p else m) 0

/-! ### The reference's relations -/

/-- What a list of marks holds. -/
structure RepL (k : Nat) (ps : List Int) (R : Nat → Nat) : Prop where
  len : ps.length = k
  has : ∀ i, i < k → ps.getD i 0 = ((R i : Nat) : Int)
  lt : ∀ i, R i < 64
  out : ∀ i, k ≤ i → R i = 0

/-! ### The law -/

end Go.Proofs.Ytifleoceebaooaa
