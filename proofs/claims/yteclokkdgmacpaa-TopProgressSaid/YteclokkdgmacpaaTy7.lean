import Derived.Test.YteclokkdgmacpaaAvn
namespace Go.Proofs.Yteclokkdgmacpaa
set_option maxRecDepth 100000
def T67:Ty:=prodT 3 (prodT 3 (.bool))
instance:DecidableEq (El T67):=decEl T67
theorem T67_size:T67.size=9:=rfl
theorem T67_dry:T67.dry=true:=rfl
theorem T67_take (x:El T67):(cellsX T67 x).take 9=cellsX T67 x:=List.take_of_length_le (by rw [cellsX_len,T67_size]; exact Nat.le_refl _)
def Z67:List Value:=[Value.bool false,Value.bool false,Value.bool false,Value.bool false,Value.bool false,Value.bool false,Value.bool false,Value.bool false,Value.bool false]
theorem T67_zero:List.map ofConst Z67=cellsX T67 (Ty.dflt T67):=rfl
theorem T67_put (x y:El T67):splice (cellsX T67 x) 0 (cellsX T67 y)=cellsX T67 y:=by unfold splice; rw [List.take_zero,List.nil_append,cellsX_len,List.drop_eq_nil_of_le (by rw [cellsX_len]; exact Nat.le_of_eq (Nat.zero_add _).symm),List.append_nil]
theorem T67_nth (x:El T67) {j:Nat} (h:j<9):((cellsX T67 x).drop j).take 1=[.bool (boolAt T67 x j)]:=cx_bool x rfl (by rw [T67_size]; exact h)
theorem T67_set (x:El T67) {j:Nat} (v:Bool) (h:j<9):splice (cellsX T67 x) j [.bool v]=cellsX T67 (setBool T67 x j v):=cx_setBool x v rfl (by rw [T67_size]; exact h)
theorem T67_cells (x:El T67):cellsOf T67 x=cellsX T67 x:=rfl
theorem T67_all (x:El T67):(cellsX T67 x).drop 9=[]:=List.drop_eq_nil_of_le (by rw [cellsX_len,T67_size]; exact Nat.le_refl _)
theorem T67_one (x:El T67):(cellsX T67 x).take 1=[.bool (boolAt T67 x 0)]:=T67_nth x (j:=0) (by decide)
theorem T67_dropA (x:El T67) (l:List AVal) (j:Nat):(cellsX T67 x++l).drop (j+9)=l.drop j:=by rw [List.drop_append,cellsX_len,T67_size,List.drop_eq_nil_of_le (by rw [cellsX_len,T67_size]; omega),List.nil_append,Nat.add_sub_cancel]
theorem T67_takeA (x:El T67) (l:List AVal) (j:Nat):(cellsX T67 x++l).take (j+9)=cellsX T67 x++l.take j:=by rw [List.take_append,cellsX_len,T67_size,List.take_of_length_le (by rw [cellsX_len,T67_size]; omega),Nat.add_sub_cancel]
theorem T67_drop2 (a b c d:AVal) (p:El T67) (l:List AVal) (x:Nat):List.drop (13+x) (a::b::(cellsX T67 p++(c::d::l)))=List.drop x l:=by rw [show 13+x=((x+1+1)+9)+1+1 from by omega,List.drop_succ_cons,List.drop_succ_cons,T67_dropA]; rfl
theorem T67_drop3 (a b c d:AVal) (p:El T67) (l:List AVal) (x y:Nat):List.drop (13+x+y) (a::b::(cellsX T67 p++(c::d::l)))=List.drop (x+y) l:=by rw [Nat.add_assoc,T67_drop2]
attribute [go_sem high] T67_take T67_zero T67_put T67_nth T67_set T67_cells T67_all T67_one T67_dropA T67_takeA T67_drop2 T67_drop3
attribute [go_sem] T67_size T67_dry
end Go.Proofs.Yteclokkdgmacpaa
