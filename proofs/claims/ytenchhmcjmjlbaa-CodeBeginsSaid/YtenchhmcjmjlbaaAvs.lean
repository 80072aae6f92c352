import Derived.Test.YtenchhmcjmjlbaaAvq
namespace Go.Proofs.Ytenchhmcjmjlbaa
open Go.RowKit
set_option linter.unusedVariables false
def listT (u:Ty):(n:Nat)→El (prodT n u)→List (El u)
 | 0,_=>[]
 | 1,x=>[x]
 | n+2,x=>x.1::listT u (n+1) x.2
theorem els_app (u:Ty):∀ (n:Nat) (x:El (prodT n u)) (l:List AVal),takeEls u n (cellsX (prodT n u) x++l)=some (listT u n x)
 | 0,_,_=>rfl
 | 1,x,l=>by
  unfold takeEls
  rw [show toEl (fun _=>none) u (cellsX (prodT 1 u) x++l)=some (x,l) from toEl_app (fun _=>none) u x l]
  rfl
 | n+2,x,l=>by
  have e:cellsX (prodT (n+2) u) x++l=cellsX u x.1++(cellsX (prodT (n+1) u) x.2++l):=List.append_assoc _ _ _
  unfold takeEls
  rw [e,toEl_app]
  simp only
  rw [els_app u (n+1) x.2 l]
  rfl
theorem els_all (u:Ty) (n:Nat) (x:El (prodT n u)):takeEls u n (cellsX (prodT n u) x)=some (listT u n x):=by
 have:=els_app u n x []
 rwa [List.append_nil] at this
end Go.Proofs.Ytenchhmcjmjlbaa
