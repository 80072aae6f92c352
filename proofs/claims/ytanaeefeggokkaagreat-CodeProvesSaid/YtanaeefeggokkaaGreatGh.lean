import Derived.Test.YtanaeefeggokkaaGreatGn
import Derived.Test.YtanaeefeggokkaaGreatAvd
namespace Go.Proofs.YtanaeefeggokkaaGreat
open Go.RowKit
set_option linter.unusedVariables false
set_option linter.unusedSimpArgs false
set_option maxRecDepth 10000
theorem D6 {k:Nat} (h:k≤1000000000):InK .i64 ((k:Int)+1):=by rw [m5]; omega
def a1g (n:Nat) (p:Nat→Bool):Bool:=(List.range n).all p
theorem P5 {n:Nat} {p:Nat→Bool}:a1g n p=true↔∀ k,k<n→p k=true:=by
  unfold a1g; rw [List.all_eq_true]; simp
theorem a4Y (n:Nat) (p:Nat→Bool) {body:Int→Option (Step Int (Sum Unit Unit))} (h:∀ k:Nat,k<n→body k=some (if p k=true then .next ((k:Int)+1) else .done (.inl ()))) (hd:body (n:Int)=some (.done (.inr ()))) :
    g9 body 0=some (if a1g n p=true then .inr () else .inl ()):=by
  have:=K9 (body:=body) (List.range n) p (fun k x hk=>by
    have hlt:=(List.getElem?_eq_some_iff.1 hk).1;have he:=(List.getElem?_eq_some_iff.1 hk).2;simp at hlt he
    subst he
    exact h k hlt) (by simpa using hd)
  exact this
theorem a9q {α:Type} {xs:List α} {k j:Nat} {d:α} (h:j<k):(xs.take k).getD j d=xs.getD j d:=by
  rw [List.getD_eq_getElem?_getD,List.getD_eq_getElem?_getD,List.getElem?_take,if_pos h]
end Go.Proofs.YtanaeefeggokkaaGreat
