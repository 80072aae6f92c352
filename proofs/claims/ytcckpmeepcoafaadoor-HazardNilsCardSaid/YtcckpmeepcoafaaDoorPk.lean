import Derived.Test.YtcckpmeepcoafaaDoorAvc
namespace Go.Proofs.YtcckpmeepcoafaaDoor
open Go.RowKit
set_option linter.unusedVariables false
theorem ck_pos {α:Type} {c:Prop} [Decidable c] (h:c) (k:Option α):ck c k=k:=if_pos h
section
variable {R:Type}
end
def foldY {Y S R:Type} (yl:Y→S→Option (Step S R)):List Y→S→Option (Sum S R)
  | [],s=>some (.inl s)
  | y::r,s=>(yl y s).bind fun x=>match x with
    | .next s'=>foldY yl r s'
    | .done e=>some (.inr e)
end Go.Proofs.YtcckpmeepcoafaaDoor
