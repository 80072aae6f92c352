/-
  Layer 2, pure: the first order, along a path of least calls.
-/
import Derived.Test.YtlfpagicagmjgaaH10a
namespace Go.Proofs.Ytlfpagicagmjgaa
open Go.RowKit

set_option linter.unusedVariables false
set_option linter.unusedSimpArgs false
set_option maxRecDepth 10000

/-- The way from a place by the least calls from which orders go on. -/
inductive Path (specs : List Tup) (h : List HC6) (V : Pl → Nat) : Pl → List Nat → Prop
  | nil (p : Pl) (e : fullB h p.2 = true) : Path specs h V p []
  | cons (p q : Pl) (i : Nat) (l : List Nat) (e : fullB h p.2 = false) (hi : i < h.length) (hn : nxt specs h p i = some q) (hv : 0 < V q) (hl : ∀ j, j < i → ∀ q', nxt specs h p j = some q' → V q' = 0) (hp : Path specs h V q l) : Path specs h V p (i :: l)

section
variable {specs : List Tup} {h : List HC6}

end

end Go.Proofs.Ytlfpagicagmjgaa
