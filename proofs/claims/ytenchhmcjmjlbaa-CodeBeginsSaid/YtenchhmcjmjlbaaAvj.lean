import Derived.Test.YtenchhmcjmjlbaaAvg
namespace Go.Proofs.Ytenchhmcjmjlbaa
open Go.RowKit
set_option linter.constructorNameAsVariable false
set_option linter.unusedSimpArgs false
set_option linter.unusedVariables false
theorem idsL_cons (v:AVal) (l:List AVal):AVal.idsL (v::l)=v.ids++AVal.idsL l:=rfl
theorem idsL_app:∀ (a b:List AVal),AVal.idsL (a++b)=AVal.idsL a++AVal.idsL b
 | [],b=>rfl
 | v::a,b=>by rw [List.cons_append,idsL_cons,idsL_cons,idsL_app a b,List.append_assoc]
theorem idsL_cxA (t:Ty) (x:El t) (l:List AVal):AVal.idsL (cellsX t x++l)=AVal.idsL l:=by rw [idsL_app,idsL_cx,List.nil_append]
theorem hasL_app (c:Nat):∀ (a b:List AVal),AVal.hasL (a++b) c=(AVal.hasL a c || AVal.hasL b c)
 | [],b=>by simp [AVal.hasL]
 | v::a,b=>by
  have:=hasL_app c a b
  simp only [List.cons_append,AVal.hasL,this,Bool.or_assoc]
theorem hasL_cxA (t:Ty) (x:El t) (l:List AVal) (c:Nat):AVal.hasL (cellsX t x++l) c=AVal.hasL l c:=by rw [hasL_app,hasL_cx,Bool.false_or]
theorem renL_app (f:Nat→Nat):∀ (a b:List AVal),AVal.renL f (a++b)=AVal.renL f a++AVal.renL f b
 | [],b=>by simp [AVal.renL]
 | v::a,b=>by
  have:=renL_app f a b
  simp only [List.cons_append,AVal.renL,this]
theorem renL_cxA (f:Nat→Nat) (t:Ty) (x:El t) (l:List AVal):AVal.renL f (cellsX t x++l)=cellsX t x++AVal.renL f l:=by rw [renL_app,renL_cx]
theorem dryL_app:∀ (a b:List AVal),AVal.dryL (a++b)=(AVal.dryL a&&AVal.dryL b)
 | [],b=>by simp [AVal.dryL]
 | v::a,b=>by
  have:=dryL_app a b
  simp only [List.cons_append,AVal.dryL,this,Bool.and_assoc]
theorem dryL_cxA (t:Ty) (x:El t) (l:List AVal):AVal.dryL (cellsX t x++l)=(t.dry&&AVal.dryL l):=by rw [dryL_app,dryL_cx]
theorem cell_cxA (H:AHeap) (t:Ty) (x:El t) (l:List AVal):(cellsX t x++l).all (AVal.cell H)=l.all (AVal.cell H):=by rw [List.all_append,cell_cx,Bool.true_and]
theorem clean_cxA (K:List Nat) (t:Ty) (x:El t) (l:List AVal):(cellsX t x++l).map (AVal.clean K)=cellsX t x++l.map (AVal.clean K):=by rw [List.map_append,clean_cx]
theorem noUnL_app:∀ (a b:List AVal),noUnL (a++b)=(noUnL a&&noUnL b)
 | [],b=>by simp [noUnL]
 | v::a,b=>by
  have:=noUnL_app a b
  simp only [List.cons_append,noUnL,this,Bool.and_assoc]
theorem noUnL_cxA (t:Ty) (x:El t) (l:List AVal):noUnL (cellsX t x++l)=noUnL l:=by rw [noUnL_app,noUnL_cx,Bool.true_and]
theorem LeL_appA (H:AHeap) (D N:List Nat) (ρ:Nat→Nat):∀ (a b l r:List AVal),a.length=b.length→(LeL H D N ρ (a++l) (b++r)↔LeL H D N ρ a b∧LeL H D N ρ l r)
 | [],[],l,r,_=>by simp [LeL]
 | [],_::_,_,_,h=>by simp at h
 | _::_,[],_,_,h=>by simp at h
 | x::a,y::b,l,r,h=>by
  have:=LeL_appA H D N ρ a b l r (by simpa using h)
  simp only [List.cons_append,LeL,this,and_assoc]
theorem LeL_cxA (H:AHeap) (D N:List Nat) (ρ:Nat→Nat) (t:Ty) (x y:El t) (l r:List AVal):LeL H D N ρ (cellsX t x++l) (cellsX t y++r)=(x=y∧LeL H D N ρ l r):=by
 rw [propext (LeL_appA H D N ρ _ _ l r (by rw [cellsX_len,cellsX_len])),propext (LeL_cx H D N ρ t x y)]
theorem drop_2a {α:Type} (a b:α) (l:List α) (x:Nat):List.drop (2+x) (a::b::l)=List.drop x l:=by rw [Nat.add_comm]; rfl
theorem drop_2b {α:Type} (a b:α) (l:List α) (x y:Nat):List.drop (2+x+y) (a::b::l)=List.drop (x+y) l:=by rw [Nat.add_assoc,drop_2a]
theorem splice_2a (a b:AVal) (l us:List AVal) (x:Nat):splice (a::b::l) (2+x) us=a::b::splice l x us:=by
 unfold splice
 rw [show 2+x+us.length=2+(x+us.length) from by omega,drop_2a,show 2+x=x+1+1 from by omega,List.take_succ_cons,List.take_succ_cons]
 rfl
theorem splice_2b (a b:AVal) (l us:List AVal) (x y:Nat):splice (a::b::l) (2+x+y) us=a::b::splice l (x+y) us:=by rw [Nat.add_assoc,splice_2a]
theorem splice_2 (a b:AVal) (l us:List AVal):splice (a::b::l) 2 us=a::b::splice l 0 us:=splice_2a a b l us 0
attribute [go_sem high] idsL_cxA hasL_cxA renL_cxA dryL_cxA cell_cxA clean_cxA noUnL_cxA LeL_cxA toEl_app drop_2a drop_2b splice_2a splice_2b splice_2
attribute [go_sem] List.map_append List.length_append
section
variable {P:Program} {T:Tab} {n:Nat} {ro:Option Nat} {Q:Exit→ASt→Prop} {σ:Nat→AVal} {H:AHeap} {g:Gh} {o:Oper} {ops rs:List Oper}
end
end Go.Proofs.Ytenchhmcjmjlbaa
