import Derived.Test.YtenchhmcjmjlbaaGn
import Derived.Test.YtenchhmcjmjlbaaAvd
namespace Go.Proofs.Ytenchhmcjmjlbaa
open Go.RowKit
set_option linter.unusedVariables false
set_option linter.unusedSimpArgs false
set_option maxRecDepth 10000
theorem b07 {k:Nat} (h:k≤1000000000):InK .i64 ((k:Int)+1):=by rw [l3]; omega
def a6u (n:Nat) (p:Nat→Bool):Bool:=(List.range n).all p
theorem a4i {n:Nat} {p:Nat→Bool}:a6u n p=true↔∀ k,k<n→p k=true:=by
  unfold a6u; rw [List.all_eq_true]; simp
theorem b4X (n:Nat) (p:Nat→Bool) {body:Int→Option (Step Int (Sum Unit Unit))} (h:∀ k:Nat,k<n→body k=some (if p k=true then .next ((k:Int)+1) else .done (.inl ()))) (hd:body (n:Int)=some (.done (.inr ()))) :
    i7 body 0=some (if a6u n p=true then .inr () else .inl ()):=by
  have:=z8 (body:=body) (List.range n) p (fun k x hk=>by
    have hlt:=(List.getElem?_eq_some_iff.1 hk).1
    have he:=(List.getElem?_eq_some_iff.1 hk).2
    simp at hlt he
    subst he
    exact h k hlt) (by simpa using hd)
  exact this
end Go.Proofs.Ytenchhmcjmjlbaa
