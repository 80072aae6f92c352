import Derived.Test.YtenchhmcjmjlbaaAvl
namespace Go.Proofs.Ytenchhmcjmjlbaa
open Go.RowKit
set_option linter.constructorNameAsVariable false
set_option linter.unusedSimpArgs false
set_option linter.unusedVariables false
section
variable {b:Nat} {e:TypeId} {t:Ty} {xss:List (List (El t))} {h:List (Nat×ABlk)}
end
section
variable {P:Program} {T:Tab} {n:Nat} {ro:Option Nat} {Q:Exit→ASt→Prop} {g:Gh} {o:Oper} {ops rs:List Oper} {l:List (Nat×AVal)} {h:List (Nat×ABlk)}
theorem b8j {x:AVal} {K L:List Nat} (h:∀ b,x.has b=true→(b∈K↔b∈L)):x.clean K=x.clean L:=by
 unfold AVal.clean
 have:(K.any fun b=>x.has b)=L.any fun b=>x.has b:=by
  rw [Bool.eq_iff_iff,List.any_eq_true,List.any_eq_true]
  constructor
  ·rintro ⟨b,h1,h2⟩; exact ⟨b,(h b h2).1 h1,h2⟩
  ·rintro ⟨b,h1,h2⟩; exact ⟨b,(h b h2).2 h1,h2⟩
 rw [this]
end
end Go.Proofs.Ytenchhmcjmjlbaa
