import Derived.Test.YtanaeefeggokkaaGreatPk
namespace Go.Proofs.YtanaeefeggokkaaGreat
open Go.RowKit
set_option linter.unusedVariables false
set_option linter.unusedSimpArgs false
set_option maxRecDepth 10000
theorem b9F {α R:Type} (xs:List α) (I:Nat→Prop) (G:R→Prop) {body:Int→Option (Step Int R)} (h0:I 0)
  (h:∀ (k:Nat) (x:α),xs[k]?=some x→I k→(body k=some (.next ((k:Int)+1))∧I (k+1))∨∃ r,body k=some (.done r)∧G r)
  (hd:I xs.length→∃ r,body (xs.length:Int)=some (.done r)∧G r):∃ r,g9 body 0=some r∧G r:=by
 refine a1E (S:=Int) (fun s:Int=>∃ k:Nat,s=(k:Int)∧k≤xs.length∧I k) (fun s:Int=>xs.length - s.toNat) G ?_ 0 ⟨0,rfl,Nat.zero_le _,h0⟩
 rintro s ⟨k,rfl,hk,hI⟩
 by_cases hlt:k<xs.length
 ·rcases h k _ (List.getElem?_eq_getElem hlt) hI with ⟨h1,h2⟩|h1
  ·exact .inl ⟨_,h1,⟨k+1,by omega,by omega,h2⟩,by omega⟩
  ·exact .inr h1
 ·have:k=xs.length:=by omega
  subst this;exact .inr (hd hI)
theorem b5v {α S R:Type} (xs:List α) (I:Nat→S→Prop) (G:R→Prop) {body:S×Int→Option (Step (S×Int) R)} {s0:S} (h0:I 0 s0)
  (h:∀ (k:Nat) (x:α) (s:S),xs[k]?=some x→I k s→(∃ s',body (s,(k:Int))=some (.next (s',(k:Int)+1))∧I (k+1) s')∨∃ r,body (s,(k:Int))=some (.done r)∧G r)
  (hd:∀ s,I xs.length s→∃ r,body (s,(xs.length:Int))=some (.done r)∧G r):∃ r,g9 body (s0,0)=some r∧G r:=by
 refine a1E (S:=S×Int) (fun s:S×Int=>∃ k:Nat,s.2=(k:Int)∧k≤xs.length∧I k s.1) (fun s:S×Int=>xs.length - s.2.toNat) G ?_ (s0,0) ⟨0,rfl,Nat.zero_le _,h0⟩
 rintro ⟨s,q⟩ ⟨k,hq,hk,hI⟩
 simp only at hq hI;subst hq
 by_cases hlt:k<xs.length
 ·rcases h k _ s (List.getElem?_eq_getElem hlt) hI with ⟨s',h1,h2⟩|h1
  ·exact .inl ⟨_,h1,⟨k+1,by simp,by omega,h2⟩,by simp; omega⟩
  ·exact .inr h1
 ·have:k=xs.length:=by omega
  subst this;exact .inr (hd s hI)
def few {α:Type} (xs:List α):Prop:=xs.length≤17592186044416
theorem a0j {α:Type} {xs:List α} (h:few xs) {k:Nat} {x:α} (hk:xs[k]?=some x):k<xs.length∧InK .i64 ((k:Int)+1):=by
 have hlt:=(List.getElem?_eq_some_iff.1 hk).1;unfold few at h;exact ⟨hlt,by rw [m5]; omega⟩
theorem take_one {α:Type} {xs:List α} {k:Nat} {x:α} (hk:xs[k]?=some x):xs.take (k+1)=xs.take k++[x]:=by
 rw [List.take_add_one,hk]; rfl
theorem V3 {α:Type} {xs:List α} {n:Nat} (h:xs.length≤n) (hn:n≤17592186044416:=by omega):few xs:=Nat.le_trans h hn
theorem R9 {S R:Type} {body:S→Option (Step S R)} {s:S} {r:R} (h:body s=some (.done r)):g9 body s=some r:=a2M (n:=1) (by unfold L1; rw [h])
theorem E9 {S R:Type} {body:S→Option (Step S R)} {s s':S} {r:R} (h:body s=some (.next s')) (k:g9 body s'=some r):g9 body s=some r:=by
 obtain ⟨n,hn⟩:=a8Z k;exact a2M (n:=n+1) (by unfold L1; rw [h]; exact hn)
theorem a0V {α:Type} {xs:List α} {d:α} {k:Nat} (h:k<xs.length):xs.getD k d∈xs:=by
 rw [m9 (List.getElem?_eq_getElem h)]; exact List.getElem_mem h
theorem a5y {α:Type} {body:Int→Option (Step Int (Sum Int Unit))} (xs:List α) (p:α→Bool) (h:∀ (k:Nat) (x:α),xs[k]?=some x→body k=some (if p x=true then .done (.inl (k:Int)) else .next ((k:Int)+1))) (hd:body xs.length=some (.done (.inr ()))) :
  g9 body 0=some (match xs.findIdx? p with|some k=>.inl (k:Int)|none=>.inr ()):=by
 have:∀ (d k:Nat),xs.length - k=d→k≤xs.length→L1 body (d+1) (k:Int)=some (match (xs.drop k).findIdx? p with|some j=>.inl ((k+j:Nat):Int)|none=>.inr ()):=by
  intro d
  induction d with
  | zero =>
   intro k h1 h2;have:k=xs.length:=by omega
   subst this;simp [L1,hd]
  | succ d ih =>
   intro k h1 h2;have hlt:k<xs.length:=by omega
   have hb:=h k xs[k] (by simp);unfold L1;rw [hb,List.drop_eq_getElem_cons hlt,List.findIdx?_cons]
   cases hp:p xs[k] with
   | true=>simp
   | false =>
    simp only [Bool.false_eq_true,if_false];have e:((k:Int)+1)=((k+1:Nat):Int):=by omega
    rw [e,ih (k+1) (by omega) (by omega)]
    cases hf:(xs.drop (k+1)).findIdx? p with
    | none=>simp
    | some j=>simp; omega
 have h0:=this xs.length 0 (by omega) (by omega);rw [List.drop_zero] at h0;have h1:=a2M h0;have e0:((0:Nat):Int)=0:=rfl;rw [e0] at h1;rw [h1]
 cases xs.findIdx? p with
 | none=>rfl
 | some j=>simp
section
variable {S R Y Z:Type}
theorem a54 (yl:Y→S→Option (Step S R)):∀ (A B:List Y) (s:S),a3M yl (A++B) s=(a3M yl A s).bind fun x=>match x with|.inl s'=>a3M yl B s'|.inr e=>some (.inr e)
 | [],B,s=>rfl
 | y::A,B,s=>by
  simp only [List.cons_append,a3M]
  cases yl y s with
  | none=>rfl
  | some x =>
   cases x with
   | next s'=>simp only [Option.bind_some]; exact a54 yl A B s'
   | done e=>rfl
end
theorem a4b {α:Type} [DecidableEq α]:∀ {xs ys:List α},xs.Nodup→(∀ x∈xs,x∈ys)→xs.length≤ys.length
 | [],_,_,_=>by simp
 | x::xs,ys,hn,hs=>by
  have hx:=hs x (by simp);have hn':=List.nodup_cons.1 hn
  have ih:=a4b (xs:=xs) (ys:=ys.erase x) hn'.2 (fun y hy=>by
   have hne:y≠x:=fun e=>hn'.1 (e▸hy)
   exact (List.mem_erase_of_ne hne).2 (hs y (by simp [hy])))
  have:=List.length_erase_of_mem hx;have hpos:=List.length_pos_of_mem hx;simp only [List.length_cons]; omega
def srt (x:List Int):List Int:=x.mergeSort (fun a b=>decide (a≤b))
/-! ### What is found,and what is deleted -/
end Go.Proofs.YtanaeefeggokkaaGreat
