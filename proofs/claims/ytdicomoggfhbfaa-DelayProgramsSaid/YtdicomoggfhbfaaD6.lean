/-
  Which lists are circles, and how many there are: on both sides.
-/
import Derived.Test.YtdicomoggfhbfaaD4
namespace Go.Proofs.Ytdicomoggfhbfaa
open Go.RowKit

set_option linter.unusedVariables false
set_option linter.unusedSimpArgs false

/-! ### Sums over lists -/
def sumL {α : Type} (l : List α) (f : α → Nat) : Nat := (l.map f).sum
/-! ### Circles -/
def c2 (x : Acs) (r s : Sta) : Bool := !decide (r.1 = s.1) && (mts x r s && (mts x s r && (!oneB r || !oneB s)))
def c3 (x : Acs) (r s q : Sta) : Bool := (!decide (r.1 = s.1) && mts x r s) && ((!decide (r.1 = q.1) && !decide (s.1 = q.1)) && (mts x s q && (mts x q r && (!oneB r || (!oneB s || !oneB q)))))
def nC (x : Acs) : Nat := sumL (stas x) (fun r => sumL (stas x) fun s => (c2 x r s).toNat) + sumL (stas x) (fun r => sumL (stas x) fun s => sumL (stas x) fun q => (c3 x r s q).toNat)
/-- A list is a circle. -/
def isC (x : Acs) (l : List Sta) : Bool := match l with
  | [r, s] => isSt x r && (isSt x s && c2 x r s)
  | [r, s, q] => isSt x r && (isSt x s && (isSt x q && c3 x r s q))
  | _ => false

/-! ### IsCircle of the program -/
end Go.Proofs.Ytdicomoggfhbfaa
