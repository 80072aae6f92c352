import Derived.Test.YtenchhmcjmjlbaaAvq
namespace Go.Proofs.Ytenchhmcjmjlbaa
open Go.RowKit
set_option linter.unusedVariables false
def a2Y (u:Ty):(n:Nat)→El (a2X n u)→List (El u)
 | 0,_=>[]
 | 1,x=>[x]
 | n+2,x=>x.1::a2Y u (n+1) x.2
theorem a6Q (u:Ty):∀ (n:Nat) (x:El (a2X n u)) (l:List AVal),D4 u n (b3 (a2X n u) x++l)=some (a2Y u n x)
 | 0,_,_=>rfl
 | 1,x,l=>by
  unfold D4
  rw [show B7 (fun _=>none) u (b3 (a2X 1 u) x++l)=some (x,l) from a12 (fun _=>none) u x l]
  rfl
 | n+2,x,l=>by
  have e:b3 (a2X (n+2) u) x++l=b3 u x.1++(b3 (a2X (n+1) u) x.2++l):=List.append_assoc _ _ _
  unfold D4
  rw [e,a12]
  simp only
  rw [a6Q u (n+1) x.2 l]
  rfl
theorem b16 (u:Ty) (n:Nat) (x:El (a2X n u)):D4 u n (b3 (a2X n u) x)=some (a2Y u n x):=by
 have:=a6Q u n x []
 rwa [List.append_nil] at this
end Go.Proofs.Ytenchhmcjmjlbaa
