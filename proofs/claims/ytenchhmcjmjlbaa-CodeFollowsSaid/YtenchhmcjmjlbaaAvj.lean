import Derived.Test.YtenchhmcjmjlbaaAvg
namespace Go.Proofs.Ytenchhmcjmjlbaa
open Go.RowKit
set_option linter.constructorNameAsVariable false
set_option linter.unusedSimpArgs false
set_option linter.unusedVariables false
theorem a7b (v:AVal) (l:List AVal):AVal.idsL (v::l)=v.ids++AVal.idsL l:=rfl
theorem a8Q:∀ (a b:List AVal),AVal.idsL (a++b)=AVal.idsL a++AVal.idsL b
 | [],b=>rfl
 | v::a,b=>by rw [List.cons_append,a7b,a7b,a8Q a b,List.append_assoc]
theorem b2v (t:Ty) (x:El t) (l:List AVal):AVal.idsL (b4 t x++l)=AVal.idsL l:=by rw [a8Q,b0l,List.nil_append]
theorem a8U (c:Nat):∀ (a b:List AVal),AVal.hasL (a++b) c=(AVal.hasL a c || AVal.hasL b c)
 | [],b=>by simp [AVal.hasL]
 | v::a,b=>by
  have:=a8U c a b
  simp only [List.cons_append,AVal.hasL,this,Bool.or_assoc]
theorem b2x (t:Ty) (x:El t) (l:List AVal) (c:Nat):AVal.hasL (b4 t x++l) c=AVal.hasL l c:=by rw [a8U,b0m,Bool.false_or]
theorem a8x (f:Nat→Nat):∀ (a b:List AVal),AVal.renL f (a++b)=AVal.renL f a++AVal.renL f b
 | [],b=>by simp [AVal.renL]
 | v::a,b=>by
  have:=a8x f a b
  simp only [List.cons_append,AVal.renL,this]
theorem b2h (f:Nat→Nat) (t:Ty) (x:El t) (l:List AVal):AVal.renL f (b4 t x++l)=b4 t x++AVal.renL f l:=by rw [a8x,a5y]
theorem a83:∀ (a b:List AVal),AVal.dryL (a++b)=(AVal.dryL a&&AVal.dryL b)
 | [],b=>by simp [AVal.dryL]
 | v::a,b=>by
  have:=a83 a b
  simp only [List.cons_append,AVal.dryL,this,Bool.and_assoc]
theorem b2D (t:Ty) (x:El t) (l:List AVal):AVal.dryL (b4 t x++l)=(t.dry&&AVal.dryL l):=by rw [a83,a5G]
theorem b2R (H:m0) (t:Ty) (x:El t) (l:List AVal):(b4 t x++l).all (AVal.cell H)=l.all (AVal.cell H):=by rw [List.all_append,a5I,Bool.true_and]
theorem b1j (K:List Nat) (t:Ty) (x:El t) (l:List AVal):(b4 t x++l).map (AVal.clean K)=b4 t x++l.map (AVal.clean K):=by rw [List.map_append,a86]
theorem a62:∀ (a b:List AVal),N9 (a++b)=(N9 a&&N9 b)
 | [],b=>by simp [N9]
 | v::a,b=>by
  have:=a62 a b
  simp only [List.cons_append,N9,this,Bool.and_assoc]
theorem b0X (t:Ty) (x:El t) (l:List AVal):N9 (b4 t x++l)=N9 l:=by rw [a62,a3Z,Bool.true_and]
theorem a9k (H:m0) (D N:List Nat) (ρ:Nat→Nat):∀ (a b l r:List AVal),a.length=b.length→(LeL H D N ρ (a++l) (b++r)↔LeL H D N ρ a b∧LeL H D N ρ l r)
 | [],[],l,r,_=>by simp [LeL]
 | [],_::_,_,_,h=>by simp at h
 | _::_,[],_,_,h=>by simp at h
 | x::a,y::b,l,r,h=>by
  have:=a9k H D N ρ a b l r (by simpa using h)
  simp only [List.cons_append,LeL,this,and_assoc]
theorem b4O (H:m0) (D N:List Nat) (ρ:Nat→Nat) (t:Ty) (x y:El t) (l r:List AVal):LeL H D N ρ (b4 t x++l) (b4 t y++r)=(x=y∧LeL H D N ρ l r):=by
 rw [propext (a9k H D N ρ _ _ l r (by rw [g4,g4])),propext (a76 H D N ρ t x y)]
theorem a7X {α:Type} (a b:α) (l:List α) (x:Nat):List.drop (2+x) (a::b::l)=List.drop x l:=by rw [Nat.add_comm]; rfl
theorem b4v {α:Type} (a b:α) (l:List α) (x y:Nat):List.drop (2+x+y) (a::b::l)=List.drop (x+y) l:=by rw [Nat.add_assoc,a7X]
theorem a4v (a b:AVal) (l us:List AVal) (x:Nat):g5 (a::b::l) (2+x) us=a::b::g5 l x us:=by
 unfold g5
 rw [show 2+x+us.length=2+(x+us.length) from by omega,a7X,show 2+x=x+1+1 from by omega,List.take_succ_cons,List.take_succ_cons]
 rfl
theorem b0P (a b:AVal) (l us:List AVal) (x y:Nat):g5 (a::b::l) (2+x+y) us=a::b::g5 l (x+y) us:=by rw [Nat.add_assoc,a4v]
theorem b19 (a b:AVal) (l us:List AVal):g5 (a::b::l) 2 us=a::b::g5 l 0 us:=a4v a b l us 0
attribute [go_sem high] b2v b2x b2h b2D b2R b1j b0X b4O a1i a7X b4v a4v b0P b19
attribute [go_sem] List.map_append List.length_append
section
variable {P:Program} {T:Tab} {n:Nat} {ro:Option Nat} {Q:Exit→ASt→Prop} {σ:Nat→AVal} {H:m0} {g:Gh} {o:Oper} {ops rs:List Oper}
end
end Go.Proofs.Ytenchhmcjmjlbaa
