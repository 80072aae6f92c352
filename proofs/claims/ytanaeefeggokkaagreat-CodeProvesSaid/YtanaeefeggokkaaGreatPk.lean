import Derived.Test.YtanaeefeggokkaaGreatAvc
namespace Go.Proofs.YtanaeefeggokkaaGreat
open Go.RowKit
set_option linter.unusedVariables false
theorem a8c:maxLen=9223372036854775807:=by decide
theorem a4G {k n:Nat} (h:k<n) (hn:n≤maxLen):InK .i64 ((k:Int)+1):=by
 rw [m5]; rw [a8c] at hn; omega
theorem b5 {α:Type} {c:Prop} [Decidable c] (h:c) (k:Option α):ck c k=k:=if_pos h
theorem m9 {α:Type} {xs:List α} {k:Nat} {x d:α} (h:xs[k]?=some x):xs.getD k d=x:=by simp [List.getD,h]
section
variable {R:Type}
theorem K9 {α:Type} {body:Int→Option (Step Int (Sum Unit Unit))} (xs:List α) (p:α→Bool) (h:∀ (k:Nat) (x:α),xs[k]?=some x→body k=some (if p x=true then .next ((k:Int)+1) else .done (.inl ()))) (hd:body xs.length=some (.done (.inr ()))) :
  g9 body 0=some (if xs.all p=true then .inr () else .inl ()):=by
 have:∀ (d k:Nat),xs.length - k=d→k≤xs.length→L1 body (d+1) (k:Int)=some (if (xs.drop k).all p=true then .inr () else .inl ()):=by
  intro d
  induction d with
  | zero =>
   intro k h1 h2;have:k=xs.length:=by omega
   subst this;simp [L1,hd]
  | succ d ih =>
   intro k h1 h2;have hlt:k<xs.length:=by omega
   have hb:=h k xs[k] (by simp);unfold L1;rw [hb,List.drop_eq_getElem_cons hlt,List.all_cons]
   cases hp:p xs[k] with
   | false=>simp
   | true =>
    simp only [if_true,Bool.true_and];exact ih (k+1) (by omega) (by omega)
 have h0:=this xs.length 0 (by omega) (by omega);rw [List.drop_zero] at h0;exact a2M h0
end
def a3M {Y S R:Type} (yl:Y→S→Option (Step S R)):List Y→S→Option (Sum S R)
 | [],s=>some (.inl s)
 | y::r,s=>(yl y s).bind fun x=>match x with
  | .next s'=>a3M yl r s'
  | .done e=>some (.inr e)
end Go.Proofs.YtanaeefeggokkaaGreat
