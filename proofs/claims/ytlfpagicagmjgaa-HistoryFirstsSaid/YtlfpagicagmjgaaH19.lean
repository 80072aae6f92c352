/-
  Layer 2, pure: the reference's search for orders, as a fold over the calls; what it counts, and which order comes first.
-/
import Derived.Test.YtlfpagicagmjgaaH18
import Derived.Test.YtlfpagicagmjgaaH10a
namespace Go.Proofs.Ytlfpagicagmjgaa
open Go.RowKit

set_option linter.unusedVariables false
set_option linter.unusedSimpArgs false
set_option maxRecDepth 10000

/-- The calls one after the other. -/
def rsTo (f : Nat → Nat × List Int → Nat × List Int) : Nat → Nat × List Int → Nat × List Int
  | 0, s => s
  | k + 1, s => f k (rsTo f k s)

def rs0 (h : List HC6) (l : List Int) (s : Nat × List Int) : Nat × List Int := if ordB h l = true then (s.1 + 1, if s.1 = 0 then l else s.2) else s

def rsF (q : HC6 → HC6 → Bool) (specs : List Tup) (h : List HC6) (one : Bool) : Nat → List Int → Nat × List Int → Nat × List Int
  | 0, _, s => s
  | d + 1, l, s => rsTo (fun i s => if (one && decide (0 < s.1)) = true then s else if addB q specs h l (i : Int) = true then rsF q specs h one d (l ++ [(i : Int)]) s else s) h.length (rs0 h l s)

/-- How many orders go on from a place. -/
def CFQ (q : HC6 → HC6 → Bool) (specs : List Tup) (h : List HC6) : Nat → Pl → Nat
  | 0, _ => 0
  | d + 1, p => (if fullB h p.2 = true then 1 else 0) + sumTo (fun i => contrib (CFQ q specs h d) (nxtQ q specs h p i)) h.length

section
variable {q : HC6 → HC6 → Bool} {specs : List Tup} {h : List HC6} {one : Bool}

end
end Go.Proofs.Ytlfpagicagmjgaa
