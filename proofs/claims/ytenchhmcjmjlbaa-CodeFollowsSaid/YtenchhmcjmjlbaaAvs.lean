import Derived.Test.YtenchhmcjmjlbaaAvq
namespace Go.Proofs.Ytenchhmcjmjlbaa
open Go.RowKit
set_option linter.unusedVariables false
def a2f (u:Ty):(n:Nat)→El (a2e n u)→List (El u)
 | 0,_=>[]
 | 1,x=>[x]
 | n+2,x=>x.1::a2f u (n+1) x.2
theorem a5E (u:Ty):∀ (n:Nat) (x:El (a2e n u)) (l:List AVal),B7 u n (b4 (a2e n u) x++l)=some (a2f u n x)
 | 0,_,_=>rfl
 | 1,x,l=>by
  unfold B7
  rw [show C7 (fun _=>none) u (b4 (a2e 1 u) x++l)=some (x,l) from a1i (fun _=>none) u x l]
  rfl
 | n+2,x,l=>by
  have e:b4 (a2e (n+2) u) x++l=b4 u x.1++(b4 (a2e (n+1) u) x.2++l):=List.append_assoc _ _ _
  unfold B7
  rw [e,a1i]
  simp only
  rw [a5E u (n+1) x.2 l]
  rfl
theorem b0r (u:Ty) (n:Nat) (x:El (a2e n u)):B7 u n (b4 (a2e n u) x)=some (a2f u n x):=by
 have:=a5E u n x []
 rwa [List.append_nil] at this
end Go.Proofs.Ytenchhmcjmjlbaa
