import Derived.Test.YtcckpmeepcoafaaDoorPk
namespace Go.Proofs.YtcckpmeepcoafaaDoor
open Go.RowKit
set_option linter.unusedVariables false
set_option linter.unusedSimpArgs false
set_option maxRecDepth 10000
theorem scan1 {α R:Type} (xs:List α) (I:Nat→Prop) (G:R→Prop) {body:Int→Option (Step Int R)} (h0:I 0)
    (h:∀ (k:Nat) (x:α),xs[k]?=some x→I k→(body k=some (.next ((k:Int)+1))∧I (k+1))∨∃ r,body k=some (.done r)∧G r)
    (hd:I xs.length→∃ r,body (xs.length:Int)=some (.done r)∧G r):∃ r,whileO body 0=some r∧G r:=by
  refine whileO_inv (S:=Int) (fun s:Int=>∃ k:Nat,s=(k:Int)∧k≤xs.length∧I k) (fun s:Int=>xs.length - s.toNat) G ?_ 0 ⟨0,rfl,Nat.zero_le _,h0⟩
  rintro s ⟨k,rfl,hk,hI⟩
  by_cases hlt:k<xs.length
  · rcases h k _ (List.getElem?_eq_getElem hlt) hI with ⟨h1,h2⟩|h1
    · exact .inl ⟨_,h1,⟨k+1,by omega,by omega,h2⟩,by omega⟩
    · exact .inr h1
  · have:k=xs.length:=by omega
    subst this
    exact .inr (hd hI)
theorem scan2 {α S R:Type} (xs:List α) (I:Nat→S→Prop) (G:R→Prop) {body:S×Int→Option (Step (S×Int) R)} {s0:S} (h0:I 0 s0)
    (h:∀ (k:Nat) (x:α) (s:S),xs[k]?=some x→I k s→(∃ s',body (s,(k:Int))=some (.next (s',(k:Int)+1))∧I (k+1) s')∨∃ r,body (s,(k:Int))=some (.done r)∧G r)
    (hd:∀ s,I xs.length s→∃ r,body (s,(xs.length:Int))=some (.done r)∧G r):∃ r,whileO body (s0,0)=some r∧G r:=by
  refine whileO_inv (S:=S×Int) (fun s:S×Int=>∃ k:Nat,s.2=(k:Int)∧k≤xs.length∧I k s.1) (fun s:S×Int=>xs.length - s.2.toNat) G ?_ (s0,0) ⟨0,rfl,Nat.zero_le _,h0⟩
  rintro ⟨s,q⟩ ⟨k,hq,hk,hI⟩
  simp only at hq hI
  subst hq
  by_cases hlt:k<xs.length
  · rcases h k _ s (List.getElem?_eq_getElem hlt) hI with ⟨s',h1,h2⟩|h1
    · exact .inl ⟨_,h1,⟨k+1,by simp,by omega,h2⟩,by simp; omega⟩
    · exact .inr h1
  · have:k=xs.length:=by omega
    subst this
    exact .inr (hd s hI)
def few {α:Type} (xs:List α):Prop:=xs.length≤17592186044416
theorem take_one {α:Type} {xs:List α} {k:Nat} {x:α} (hk:xs[k]?=some x):xs.take (k+1)=xs.take k++[x]:=by
  rw [List.take_add_one,hk]; rfl
theorem whileO_end {S R:Type} {body:S→Option (Step S R)} {s:S} {r:R} (h:body s=some (.done r)):whileO body s=some r:=whileO_of (n:=1) (by unfold whileN; rw [h])
theorem whileO_on {S R:Type} {body:S→Option (Step S R)} {s s':S} {r:R} (h:body s=some (.next s')) (k:whileO body s'=some r):whileO body s=some r:=by
  obtain ⟨n,hn⟩:=whileO_to k
  exact whileO_of (n:=n+1) (by unfold whileN; rw [h]; exact hn)
theorem getD_setG {α:Type} (t:List α) (a k:Nat) (x d:α):(t.set a x).getD k d=if a=k∧a<t.length then x else t.getD k d:=by
  simp only [List.getD,List.getElem?_set]
  by_cases h:a=k
  · subst h
    by_cases h2:a<t.length
    · simp [h2]
    · simp [h2]
  · simp [h]
theorem getD_setL {α:Type} {t:List α} {a:Nat} {x d:α} (h:a<t.length) {k:Nat}:(t.set a x).getD k d=if k=a then x else t.getD k d:=by
  rw [getD_setG]
  by_cases e:a=k
  · rw [if_pos ⟨e,h⟩,if_pos e.symm]
  · rw [if_neg fun g=>e g.1,if_neg fun g=>e g.symm]
section
variable {S R Y Z:Type}
end
theorem nodup_le {α:Type} [DecidableEq α]:∀ {xs ys:List α},xs.Nodup→(∀ x∈xs,x∈ys)→xs.length≤ys.length
  | [],_,_,_=>by simp
  | x::xs,ys,hn,hs=>by
    have hx:=hs x (by simp)
    have hn':=List.nodup_cons.1 hn
    have ih:=nodup_le (xs:=xs) (ys:=ys.erase x) hn'.2 (fun y hy=>by
      have hne:y≠x:=fun e=>hn'.1 (e▸hy)
      exact (List.mem_erase_of_ne hne).2 (hs y (by simp [hy])))
    have:=List.length_erase_of_mem hx
    have hpos:=List.length_pos_of_mem hx
    simp only [List.length_cons]; omega
def srt (x:List Int):List Int:=x.mergeSort (fun a b=>decide (a≤b))
/-! ### What is found,and what is deleted -/
end Go.Proofs.YtcckpmeepcoafaaDoor
