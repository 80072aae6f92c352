import Derived.CallsIn
namespace Go.Proofs.YtcckpmeepcoafaaDoor
def fieldsL:List Int:=[0,1,3,2,2,1,2]
def globs:List (Nat×List Int):=[(0,fieldsL)]
end Go.Proofs.YtcckpmeepcoafaaDoor
