import Derived.Test.YtenchhmcjmjlbaaGn
import Derived.Test.YtenchhmcjmjlbaaAvd
namespace Go.Proofs.Ytenchhmcjmjlbaa
open Go.RowKit
set_option linter.unusedVariables false
set_option linter.unusedSimpArgs false
set_option maxRecDepth 10000
theorem P4 {k:Nat} (h:k≤1000000000):InK .i64 ((k:Int)+1):=by rw [l4]; omega
def a35 (n:Nat) (p:Nat→Bool):Bool:=(List.range n).all p
theorem C8 {n:Nat} {p:Nat→Bool}:a35 n p=true↔∀ k,k<n→p k=true:=by
  unfold a35; rw [List.all_eq_true]; simp
theorem a8k (n:Nat) (p:Nat→Bool) {body:Int→Option (Step Int (Sum Unit Unit))} (h:∀ k:Nat,k<n→body k=some (if p k=true then .next ((k:Int)+1) else .done (.inl ()))) (hd:body (n:Int)=some (.done (.inr ()))) :
    j7 body 0=some (if a35 n p=true then .inr () else .inl ()):=by
  have:=J5 (body:=body) (List.range n) p (fun k x hk=>by
    have hlt:=(List.getElem?_eq_some_iff.1 hk).1
    have he:=(List.getElem?_eq_some_iff.1 hk).2
    simp at hlt he
    subst he
    exact h k hlt) (by simpa using hd)
  exact this
theorem b2Z {α:Type} {xs:List α} {k j:Nat} {d:α} (h:j<k):(xs.take k).getD j d=xs.getD j d:=by
  rw [List.getD_eq_getElem?_getD,List.getD_eq_getElem?_getD,List.getElem?_take,if_pos h]
end Go.Proofs.Ytenchhmcjmjlbaa
