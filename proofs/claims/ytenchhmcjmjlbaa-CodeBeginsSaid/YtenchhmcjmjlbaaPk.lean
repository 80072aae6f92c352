import Derived.Test.YtenchhmcjmjlbaaAvc
namespace Go.Proofs.Ytenchhmcjmjlbaa
open Go.RowKit
set_option linter.unusedVariables false
theorem maxLen_num:maxLen=9223372036854775807:=by decide
theorem inK_nat {k n:Nat} (h:k<n) (hn:n≤maxLen):InK .i64 ((k:Int)+1):=by
 rw [inK_i64]; rw [maxLen_num] at hn; omega
theorem ck_pos {α:Type} {c:Prop} [Decidable c] (h:c) (k:Option α):ck c k=k:=if_pos h
theorem getD_of {α:Type} {xs:List α} {k:Nat} {x d:α} (h:xs[k]?=some x):xs.getD k d=x:=by simp [List.getD,h]
section
variable {R:Type}
theorem whileO_all {α:Type} {body:Int→Option (Step Int (Sum Unit Unit))} (xs:List α) (p:α→Bool) (h:∀ (k:Nat) (x:α),xs[k]?=some x→body k=some (if p x=true then .next ((k:Int)+1) else .done (.inl ()))) (hd:body xs.length=some (.done (.inr ()))) :
  whileO body 0=some (if xs.all p=true then .inr () else .inl ()):=by
 have:∀ (d k:Nat),xs.length - k=d→k≤xs.length→whileN body (d+1) (k:Int)=some (if (xs.drop k).all p=true then .inr () else .inl ()):=by
  intro d
  induction d with
  | zero =>
   intro k h1 h2
   have:k=xs.length:=by omega
   subst this
   simp [whileN,hd]
  | succ d ih =>
   intro k h1 h2
   have hlt:k<xs.length:=by omega
   have hb:=h k xs[k] (by simp)
   unfold whileN
   rw [hb,List.drop_eq_getElem_cons hlt,List.all_cons]
   cases hp:p xs[k] with
   | false=>simp
   | true =>
    simp only [if_true,Bool.true_and]
    exact ih (k+1) (by omega) (by omega)
 have h0:=this xs.length 0 (by omega) (by omega)
 rw [List.drop_zero] at h0
 exact whileO_of h0
end
def foldY {Y S R:Type} (yl:Y→S→Option (Step S R)):List Y→S→Option (Sum S R)
 | [],s=>some (.inl s)
 | y::r,s=>(yl y s).bind fun x=>match x with
  | .next s'=>foldY yl r s'
  | .done e=>some (.inr e)
end Go.Proofs.Ytenchhmcjmjlbaa
