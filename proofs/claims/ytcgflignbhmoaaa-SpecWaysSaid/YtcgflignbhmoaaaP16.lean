/-
  Layer 1, pure: states of two machines that some word tells apart are told apart by one of at most 15 calls.
-/
import Derived.Test.YtcgflignbhmoaaaP15
namespace Go.Proofs.Ytcgflignbhmoaaa
open Go.RowKit

set_option linter.unusedVariables false
set_option linter.unusedSectionVars false
set_option linter.unusedSimpArgs false

/-- Calls lead to states. -/
def closedP (S : Sp) : Prop := ∀ p o, inR S.st p = true → inR S.op o = true → inR S.st (at2 S.nx p o.toNat) = true

/-! ### Two machines as one -/

def uni (S T : Sp) : Sp := ⟨S.st + T.st, S.op, S.nx ++ T.nx.map (List.map (· + S.st)), S.sy ++ T.sy⟩

section
variable {S T : Sp} (hS : S.ok = true) (hT : T.ok = true) (hop : S.op = T.op)
include hS hT hop

end

end Go.Proofs.Ytcgflignbhmoaaa
