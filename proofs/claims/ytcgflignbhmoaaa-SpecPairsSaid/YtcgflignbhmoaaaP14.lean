/-
  Layer 1, pure: the least machine, and that it depends on behaviour alone.
-/
import Derived.Test.YtcgflignbhmoaaaP13
namespace Go.Proofs.Ytcgflignbhmoaaa
open Go.RowKit

set_option linter.unusedVariables false
set_option linter.unusedSectionVars false
set_option linter.unusedSimpArgs false
attribute [local irreducible] kL leastF waysL sameB

/-! ### Where a number stands in a list -/

def ixN : List Int → Int → Nat
  | [], _ => 0
  | a :: l, x => if x = a then 0 else ixN l x + 1

/-! ### The machine -/

def kp (s : Tup) : List Int := (kL s).map (·.1)
def lNx (s : Tup) : List (List Int) := (kp s).map fun q => (s.2.2.1.getD q.toNat []).map fun to => (ixN (kp s) (leastF s to.toNat) : Int)
def lSy (s : Tup) : List (List Int) := (kp s).map fun q => s.2.2.2.getD q.toNat []
def leastT (s : Tup) : Tup := (((kp s).length : Int), s.2.1, lNx s, lSy s)

section
variable {s : Tup} (hv : (toSp s).ok = true)
include hv

end

theorem alikeP.symm {s t : Tup} (h : alikeP s t) : alikeP t s := ⟨h.1.symm, fun u hu => (h.2 u (by rw [h.1]; exact hu)).symm⟩
theorem alikeP.trans {s t r : Tup} (h : alikeP s t) (k : alikeP t r) : alikeP s r := ⟨h.1.trans k.1, fun u hu => (h.2 u hu).trans (k.2 u (by rw [← h.1]; exact hu))⟩

section
variable {s : Tup} (hv : (toSp s).ok = true)
include hv

end
end Go.Proofs.Ytcgflignbhmoaaa
