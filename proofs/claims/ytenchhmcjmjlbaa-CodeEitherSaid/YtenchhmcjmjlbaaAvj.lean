import Derived.Test.YtenchhmcjmjlbaaAvg
namespace Go.Proofs.Ytenchhmcjmjlbaa
open Go.RowKit
set_option linter.constructorNameAsVariable false
set_option linter.unusedSimpArgs false
set_option linter.unusedVariables false
theorem a8p (v:AVal) (l:List AVal):AVal.idsL (v::l)=v.ids++AVal.idsL l:=rfl
theorem b0f:∀ (a b:List AVal),AVal.idsL (a++b)=AVal.idsL a++AVal.idsL b
 | [],b=>rfl
 | v::a,b=>by rw [List.cons_append,a8p,a8p,b0f a b,List.append_assoc]
theorem b4y (t:Ty) (x:El t) (l:List AVal):AVal.idsL (b3 t x++l)=AVal.idsL l:=by rw [b0f,b1V,List.nil_append]
theorem b0i (c:Nat):∀ (a b:List AVal),AVal.hasL (a++b) c=(AVal.hasL a c || AVal.hasL b c)
 | [],b=>by simp [AVal.hasL]
 | v::a,b=>by
  have:=b0i c a b
  simp only [List.cons_append,AVal.hasL,this,Bool.or_assoc]
theorem b4A (t:Ty) (x:El t) (l:List AVal) (c:Nat):AVal.hasL (b3 t x++l) c=AVal.hasL l c:=by rw [b0i,b1X,Bool.false_or]
theorem a9S (f:Nat→Nat):∀ (a b:List AVal),AVal.renL f (a++b)=AVal.renL f a++AVal.renL f b
 | [],b=>by simp [AVal.renL]
 | v::a,b=>by
  have:=a9S f a b
  simp only [List.cons_append,AVal.renL,this]
theorem b4e (f:Nat→Nat) (t:Ty) (x:El t) (l:List AVal):AVal.renL f (b3 t x++l)=b3 t x++AVal.renL f l:=by rw [a9S,a6H]
theorem b0s:∀ (a b:List AVal),AVal.dryL (a++b)=(AVal.dryL a&&AVal.dryL b)
 | [],b=>by simp [AVal.dryL]
 | v::a,b=>by
  have:=b0s a b
  simp only [List.cons_append,AVal.dryL,this,Bool.and_assoc]
theorem b4D (t:Ty) (x:El t) (l:List AVal):AVal.dryL (b3 t x++l)=(t.dry&&AVal.dryL l):=by rw [b0s,a6S]
theorem b4S (H:l6) (t:Ty) (x:El t) (l:List AVal):(b3 t x++l).all (AVal.cell H)=l.all (AVal.cell H):=by rw [List.all_append,a6T,Bool.true_and]
theorem b3a (K:List Nat) (t:Ty) (x:El t) (l:List AVal):(b3 t x++l).map (AVal.clean K)=b3 t x++l.map (AVal.clean K):=by rw [List.map_append,b0u]
theorem a8h:∀ (a b:List AVal),Q7 (a++b)=(Q7 a&&Q7 b)
 | [],b=>by simp [Q7]
 | v::a,b=>by
  have:=a8h a b
  simp only [List.cons_append,Q7,this,Bool.and_assoc]
theorem b2M (t:Ty) (x:El t) (l:List AVal):Q7 (b3 t x++l)=Q7 l:=by rw [a8h,a4X,Bool.true_and]
theorem b0K (H:l6) (D N:List Nat) (ρ:Nat→Nat):∀ (a b l r:List AVal),a.length=b.length→(LeL H D N ρ (a++l) (b++r)↔LeL H D N ρ a b∧LeL H D N ρ l r)
 | [],[],l,r,_=>by simp [LeL]
 | [],_::_,_,_,h=>by simp at h
 | _::_,[],_,_,h=>by simp at h
 | x::a,y::b,l,r,h=>by
  have:=b0K H D N ρ a b l r (by simpa using h)
  simp only [List.cons_append,LeL,this,and_assoc]
theorem b66 (H:l6) (D N:List Nat) (ρ:Nat→Nat) (t:Ty) (x y:El t) (l r:List AVal):LeL H D N ρ (b3 t x++l) (b3 t y++r)=(x=y∧LeL H D N ρ l r):=by
 rw [propext (b0K H D N ρ _ _ l r (by rw [g6,g6])),propext (a9s H D N ρ t x y)]
theorem a9g {α:Type} (a b:α) (l:List α) (x:Nat):List.drop (2+x) (a::b::l)=List.drop x l:=by rw [Nat.add_comm]; rfl
theorem b6K {α:Type} (a b:α) (l:List α) (x y:Nat):List.drop (2+x+y) (a::b::l)=List.drop (x+y) l:=by rw [Nat.add_assoc,a9g]
theorem a5B (a b:AVal) (l us:List AVal) (x:Nat):g7 (a::b::l) (2+x) us=a::b::g7 l x us:=by
 unfold g7
 rw [show 2+x+us.length=2+(x+us.length) from by omega,a9g,show 2+x=x+1+1 from by omega,List.take_succ_cons,List.take_succ_cons]
 rfl
theorem b2z (a b:AVal) (l us:List AVal) (x y:Nat):g7 (a::b::l) (2+x+y) us=a::b::g7 l (x+y) us:=by rw [Nat.add_assoc,a5B]
theorem b38 (a b:AVal) (l us:List AVal):g7 (a::b::l) 2 us=a::b::g7 l 0 us:=a5B a b l us 0
attribute [go_sem high] b4y b4A b4e b4D b4S b3a b2M b66 a12 a9g b6K a5B b2z b38
attribute [go_sem] List.map_append List.length_append
section
variable {P:Program} {T:Tab} {n:Nat} {ro:Option Nat} {Q:Exit→ASt→Prop} {σ:Nat→AVal} {H:l6} {g:Gh} {o:Oper} {ops rs:List Oper}
end
end Go.Proofs.Ytenchhmcjmjlbaa
