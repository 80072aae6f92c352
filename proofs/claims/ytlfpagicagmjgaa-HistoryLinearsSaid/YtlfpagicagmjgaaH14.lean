/-
  Layer 2, pure: which orders are allowed.
-/
import Derived.Test.YtlfpagicagmjgaaH8
import Derived.Test.YtlfpagicagmjgaaH7a
namespace Go.Proofs.Ytlfpagicagmjgaa
open Go.RowKit

set_option linter.unusedVariables false
set_option linter.unusedSimpArgs false
set_option maxRecDepth 10000

/-- The calls of a list are answered as they say. -/
def alwL (specs : List Tup) (h : List HC6) : Int × Int → List Int → Bool
  | _, [] => true
  | s, x :: r => alwB specs s (hAt h x.toNat) && alwL specs h (goOf specs s (hAt h x.toNat)) r

theorem alwL_drop (specs : List Tup) (h : List HC6) {l : List Int} {k : Nat} {x : Int} (hk : l[k]? = some x) (s : Int × Int) : alwL specs h s (l.drop k) = (alwB specs s (hAt h x.toNat) && alwL specs h (goOf specs s (hAt h x.toNat)) (l.drop (k + 1))) := by
  obtain ⟨hlt, e⟩ := List.getElem?_eq_some_iff.1 hk
  rw [List.drop_eq_getElem_cons hlt, e]; rfl

end Go.Proofs.Ytlfpagicagmjgaa
