import Derived.Test.YtdicomoggfhbfaaD6
import Derived.Test.YtdicomoggfhbfaaD2
import Derived.Test.YtdicomoggfhbfaaD10
namespace Go.Proofs.Ytdicomoggfhbfaa
open Go.RowKit
set_option linter.unusedVariables false
set_option linter.unusedSimpArgs false
theorem stas_nodup (x:Acs):(stas x).Nodup:=by
  unfold stas List.Nodup
  rw [List.pairwise_flatMap]
  refine ⟨fun t _=>?_,?_⟩
  · rw [List.pairwise_flatMap]
    refine ⟨fun a _=>?_,?_⟩
    · rw [List.pairwise_flatMap]
      refine ⟨fun b _=>by split<;>simp,?_⟩
      refine List.pairwise_lt_range.imp fun {b b'} h u hu v hv e=>?_
      split at hu
      · split at hv
        · simp only [List.mem_singleton] at hu hv
          rw [hu,hv] at e
          simp at e; omega
        · simp at hv
      · simp at hu
    · refine List.pairwise_lt_range.imp fun {a a'} h u hu v hv e=>?_
      obtain ⟨b,_,hu⟩:=List.mem_flatMap.1 hu
      obtain ⟨b',_,hv⟩:=List.mem_flatMap.1 hv
      split at hu
      · split at hv
        · simp only [List.mem_singleton] at hu hv
          rw [hu,hv] at e
          simp at e; omega
        · simp at hv
      · simp at hu
  · refine List.pairwise_lt_range.imp fun {t t'} h u hu v hv e=>?_
    obtain ⟨a,_,hu⟩:=List.mem_flatMap.1 hu
    obtain ⟨b,_,hu⟩:=List.mem_flatMap.1 hu
    obtain ⟨a',_,hv⟩:=List.mem_flatMap.1 hv
    obtain ⟨b',_,hv⟩:=List.mem_flatMap.1 hv
    split at hu
    · split at hv
      · simp only [List.mem_singleton] at hu hv
        rw [hu,hv] at e
        simp at e; omega
      · simp at hv
    · simp at hu
/-! ### Conflicts,as a sum over accesses -/
def accs (x:Acs):List (Nat×Nat):=(List.range x.length).flatMap fun t=>(List.range (x.getD t []).length).map fun a=>(t,a)
def cfl (x:Acs) (p q:Nat×Nat):Nat:=if q.1<p.1 then (conf x (p.1:Int) (p.2:Int) (q.1:Int) (q.2:Int)).toNat else 0
/-! ### Without an access -/
def lessA (x:Acs) (t a:Nat):Acs:=(List.range x.length).map fun k=>if k=t then (x.getD k []).take a++(x.getD k []).drop (a+1) else x.getD k []
def upA (t a:Nat) (u b:Nat):Nat:=if u=t∧a≤b then b+1 else b
def upI (t a:Nat) (u b:Int):Int:=(upA t a u.toNat b.toNat:Nat)
def upS (t a:Nat) (s:Sta):Sta:=(s.1,upI t a s.1 s.2.1,upI t a s.1 s.2.2)
section
variable {x:Acs} {t a:Nat} (ht:t<x.length) (ha:a<(x.getD t []).length)
include ht ha
end
def fitA (a:Int×Bool):Prop:=InK .i64 a.1
/-! ### Turned round -/
def turnX (x:Acs):Acs:=x.map List.reverse
theorem flat_map1 {α β:Type} (f:α→β):∀ l:List α,(l.flatMap fun k=>[f k])=l.map f
  | []=>rfl
  | a::l=>by rw [List.flatMap_cons,flat_map1 f l]; rfl
def bkA (x:Acs) (t a:Int):Int:=((x.getD t.toNat []).length:Int) - 1 - a
def bkS (x:Acs) (s:Sta):Sta:=(s.1,bkA x s.1 s.2.2,bkA x s.1 s.2.1)
theorem need_nodup (x:Acs):(need x).Nodup:=by
  unfold need prs
  exact ((stas_nodup x).filter _).filter _
end Go.Proofs.Ytdicomoggfhbfaa
