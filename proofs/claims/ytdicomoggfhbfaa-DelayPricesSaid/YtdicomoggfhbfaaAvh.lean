import Derived.Test.YtdicomoggfhbfaaAvg
namespace Go.Proofs.Ytdicomoggfhbfaa
open Go.RowKit
set_option linter.constructorNameAsVariable false
set_option linter.unusedSimpArgs false
set_option linter.unusedVariables false
section
variable {n:Nat} {g:Gh} {l:List (Nat×AVal)} {h:List (Nat×ABlk)}
end
end Go.Proofs.Ytdicomoggfhbfaa
