import Derived.Test.YtkocijiclklbfaaAvg
namespace Go.Proofs.Ytkocijiclklbfaa
open Go.RowKit
set_option linter.constructorNameAsVariable false
set_option linter.unusedSimpArgs false
set_option linter.unusedVariables false
section
variable {n:Nat} {g:Gh} {l:List (Nat×AVal)} {h:List (Nat×ABlk)}
end
end Go.Proofs.Ytkocijiclklbfaa
