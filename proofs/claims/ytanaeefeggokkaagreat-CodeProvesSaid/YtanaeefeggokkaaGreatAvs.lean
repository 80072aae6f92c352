import Derived.Test.YtanaeefeggokkaaGreatAvq
namespace Go.Proofs.YtanaeefeggokkaaGreat
open Go.RowKit
set_option linter.unusedVariables false
def T8 (u:Ty):(n:Nat)→El (a3L n u)→List (El u)
 | 0,_=>[]
 | 1,x=>[x]
 | n+2,x=>x.1::T8 u (n+1) x.2
theorem a7G (u:Ty):∀ (n:Nat) (x:El (a3L n u)) (l:List AVal),E0 u n (b3 (a3L n u) x++l)=some (T8 u n x)
 | 0,_,_=>rfl
 | 1,x,l=>by
  unfold E0;rw [show C6 (fun _=>none) u (b3 (a3L 1 u) x++l)=some (x,l) from a2O (fun _=>none) u x l];rfl
 | n+2,x,l=>by
  have e:b3 (a3L (n+2) u) x++l=b3 u x.1++(b3 (a3L (n+1) u) x.2++l):=List.append_assoc _ _ _;unfold E0;rw [e,a2O];simp only;rw [a7G u (n+1) x.2 l];rfl
theorem b3o (u:Ty) (n:Nat) (x:El (a3L n u)):E0 u n (b3 (a3L n u) x)=some (T8 u n x):=by
 have:=a7G u n x []
 rwa [List.append_nil] at this
end Go.Proofs.YtanaeefeggokkaaGreat
