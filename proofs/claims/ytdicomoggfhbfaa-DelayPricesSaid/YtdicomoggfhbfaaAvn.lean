import Derived.Test.YtdicomoggfhbfaaAvm
namespace Go.Proofs.Ytdicomoggfhbfaa
open Go.RowKit
set_option linter.constructorNameAsVariable false
set_option linter.unusedSimpArgs false
set_option linter.unusedVariables false
def noBox (M:List Nat) (h:List (Nat×ABlk)):Bool:=h.all fun q=>decide (q.1<1000000000)&&!M.contains q.1
def marks (M:List Nat):List Nat:=M.map (·+1000000000)
end Go.Proofs.Ytdicomoggfhbfaa
