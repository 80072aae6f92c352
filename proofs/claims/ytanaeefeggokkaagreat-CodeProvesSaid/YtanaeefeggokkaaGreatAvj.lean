import Derived.Test.YtanaeefeggokkaaGreatAve
namespace Go.Proofs.YtanaeefeggokkaaGreat
open Go.RowKit
set_option linter.constructorNameAsVariable false
set_option linter.unusedSimpArgs false
set_option linter.unusedVariables false
theorem a9m (v:AVal) (l:List AVal):AVal.idsL (v::l)=v.ids++AVal.idsL l:=rfl
theorem b1k:∀ (a b:List AVal),AVal.idsL (a++b)=AVal.idsL a++AVal.idsL b
 | [],b=>rfl
 | v::a,b=>by rw [List.cons_append,a9m,a9m,b1k a b,List.append_assoc]
theorem b5V (t:Ty) (x:El t) (l:List AVal):AVal.idsL (b3 t x++l)=AVal.idsL l:=by rw [b1k,b3e,List.nil_append]
theorem b1o (c:Nat):∀ (a b:List AVal),AVal.hasL (a++b) c=(AVal.hasL a c || AVal.hasL b c)
 | [],b=>by simp [AVal.hasL]
 | v::a,b=>by
  have:=b1o c a b;simp only [List.cons_append,AVal.hasL,this,Bool.or_assoc]
theorem b5X (t:Ty) (x:El t) (l:List AVal) (c:Nat):AVal.hasL (b3 t x++l) c=AVal.hasL l c:=by rw [b1o,b3f,Bool.false_or]
theorem b0S (f:Nat→Nat):∀ (a b:List AVal),AVal.renL f (a++b)=AVal.renL f a++AVal.renL f b
 | [],b=>by simp [AVal.renL]
 | v::a,b=>by
  have:=b0S f a b;simp only [List.cons_append,AVal.renL,this]
theorem b5x (f:Nat→Nat) (t:Ty) (x:El t) (l:List AVal):AVal.renL f (b3 t x++l)=b3 t x++AVal.renL f l:=by rw [b0S,a7y]
theorem b1y:∀ (a b:List AVal),AVal.dryL (a++b)=(AVal.dryL a&&AVal.dryL b)
 | [],b=>by simp [AVal.dryL]
 | v::a,b=>by
  have:=b1y a b;simp only [List.cons_append,AVal.dryL,this,Bool.and_assoc]
theorem b51 (t:Ty) (x:El t) (l:List AVal):AVal.dryL (b3 t x++l)=(t.dry&&AVal.dryL l):=by rw [b1y,a7I]
theorem b6g (H:l3) (t:Ty) (x:El t) (l:List AVal):(b3 t x++l).all (AVal.cell H)=l.all (AVal.cell H):=by rw [List.all_append,a7J,Bool.true_and]
theorem b4u (K:List Nat) (t:Ty) (x:El t) (l:List AVal):(b3 t x++l).map (AVal.clean K)=b3 t x++l.map (AVal.clean K):=by rw [List.map_append,b1C]
theorem a9a:∀ (a b:List AVal),S5 (a++b)=(S5 a&&S5 b)
 | [],b=>by simp [S5]
 | v::a,b=>by
  have:=a9a a b;simp only [List.cons_append,S5,this,Bool.and_assoc]
theorem b35 (t:Ty) (x:El t) (l:List AVal):S5 (b3 t x++l)=S5 l:=by rw [a9a,a5M,Bool.true_and]
theorem b1S (H:l3) (D N:List Nat) (ρ:Nat→Nat):∀ (a b l r:List AVal),a.length=b.length→(LeL H D N ρ (a++l) (b++r)↔LeL H D N ρ a b∧LeL H D N ρ l r)
 | [],[],l,r,_=>by simp [LeL]
 | [],_::_,_,_,h=>by simp at h
 | _::_,[],_,_,h=>by simp at h
 | x::a,y::b,l,r,h=>by
  have:=b1S H D N ρ a b l r (by simpa using h);simp only [List.cons_append,LeL,this,and_assoc]
theorem b8s (H:l3) (D N:List Nat) (ρ:Nat→Nat) (t:Ty) (x y:El t) (l r:List AVal):LeL H D N ρ (b3 t x++l) (b3 t y++r)=(x=y∧LeL H D N ρ l r):=by
 rw [propext (b1S H D N ρ _ _ l r (by rw [f9,f9])),propext (b0r H D N ρ t x y)]
theorem b0g {α:Type} (a b:α) (l:List α) (x:Nat):List.drop (2+x) (a::b::l)=List.drop x l:=by rw [Nat.add_comm]; rfl
theorem b76 {α:Type} (a b:α) (l:List α) (x y:Nat):List.drop (2+x+y) (a::b::l)=List.drop (x+y) l:=by rw [Nat.add_assoc,b0g]
theorem a6o (a b:AVal) (l us:List AVal) (x:Nat):g5 (a::b::l) (2+x) us=a::b::g5 l x us:=by
 unfold g5;rw [show 2+x+us.length=2+(x+us.length) from by omega,b0g,show 2+x=x+1+1 from by omega,List.take_succ_cons,List.take_succ_cons];rfl
theorem b3T (a b:AVal) (l us:List AVal) (x y:Nat):g5 (a::b::l) (2+x+y) us=a::b::g5 l (x+y) us:=by rw [Nat.add_assoc,a6o]
theorem b5s (a b:AVal) (l us:List AVal):g5 (a::b::l) 2 us=a::b::g5 l 0 us:=a6o a b l us 0
attribute [go_sem high] b5V b5X b5x b51 b6g b4u b35 b8s a2O b0g b76 a6o b3T b5s
attribute [go_sem] List.map_append List.length_append
section
variable {P:Program} {T:Tab} {n:Nat} {ro:Option Nat} {Q:Exit→ASt→Prop} {σ:Nat→AVal} {H:l3} {g:Gh} {o:Oper} {ops rs:List Oper}
end
end Go.Proofs.YtanaeefeggokkaaGreat
