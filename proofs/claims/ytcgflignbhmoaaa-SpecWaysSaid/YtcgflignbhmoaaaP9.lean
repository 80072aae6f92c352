/-
  Layer 1, pure: calls that commute, overwrite, only read, meddle; the law about them.
-/
import Derived.Test.YtcgflignbhmoaaaP8
namespace Go.Proofs.Ytcgflignbhmoaaa
open Go.RowKit

set_option linter.unusedVariables false
set_option linter.unusedSimpArgs false
set_option linter.unusedSectionVars false

def nxt (s : Tup) (q o : Int) : Int := at2 s.2.2.1 q o.toNat
def say (s : Tup) (q o : Int) : Int := at2 s.2.2.2 q o.toNat

def comB (s : Tup) (p a b : Int) : Bool := decide (say s p a = say s (nxt s p b) a) && decide (say s (nxt s p a) b = say s p b) && sameB s (nxt s (nxt s p a) b) (nxt s (nxt s p b) a)
def ovwB (s : Tup) (p a b : Int) : Bool := decide (say s (nxt s p a) b = say s p b) && sameB s (nxt s (nxt s p a) b) (nxt s p b)
def medB (s : Tup) (p a b : Int) : Bool := !comB s p a b && !ovwB s p a b && !ovwB s p b a

section
variable {s : Tup} (hv : (toSp s).ok = true)
include hv

/-- A call that only reads. -/
def readsB (s : Tup) (o : Int) : Bool := (waysL s).all fun x => sameB s x.1 (nxt s x.1 o)

end

end Go.Proofs.Ytcgflignbhmoaaa
