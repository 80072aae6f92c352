/-
  Layer 2, pure: the reference's search is that fold.
-/
import Derived.Test.YtlfpagicagmjgaaH19
import Derived.Test.YtlfpagicagmjgaaH7
namespace Go.Proofs.Ytlfpagicagmjgaa
open Go.RowKit

set_option linter.unusedVariables false
set_option linter.unusedSimpArgs false
set_option maxRecDepth 10000

def qT (thr : Bool) : HC6 → HC6 → Bool := if thr = true then thrB else bef

section
variable {specs : List Tup} {h : List HC6}

theorem good_nil (hs : okSs specs = true) (q : HC6 → HC6 → Bool) : GoodL q specs h [] := ⟨fun x hx => by simp at hx, List.nodup_nil, rfl, rfl, okPl_zero hs⟩
end
end Go.Proofs.Ytlfpagicagmjgaa
