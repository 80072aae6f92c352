import Derived.Test.YtcckpmeepcoafaaDoorAvo
namespace Go.Proofs.YtcckpmeepcoafaaDoor
set_option maxRecDepth 100000
set_option linter.unusedSimpArgs false
set_option linter.unusedVariables false
def T63:Ty:=prodT 8 (.int .i64)
instance:DecidableEq (El T63):=decEl T63
theorem T63_size:T63.size=8:=rfl
theorem T63_dry:T63.dry=true:=rfl
theorem T63_take (x:El T63):(cellsX T63 x).take 8=cellsX T63 x:=List.take_of_length_le (by rw [cellsX_len,T63_size]; exact Nat.le_refl _)
def Z63:List Value:=[Value.int .i64 0,Value.int .i64 0,Value.int .i64 0,Value.int .i64 0,Value.int .i64 0,Value.int .i64 0,Value.int .i64 0,Value.int .i64 0]
theorem T63_zero:List.map ofConst Z63=cellsX T63 (Ty.dflt T63):=rfl
theorem T63_put (x y:El T63):splice (cellsX T63 x) 0 (cellsX T63 y)=cellsX T63 y:=by unfold splice; rw [List.take_zero,List.nil_append,cellsX_len,List.drop_eq_nil_of_le (by rw [cellsX_len]; exact Nat.le_of_eq (Nat.zero_add _).symm),List.append_nil]
theorem T63_nth (x:El T63) {j:Nat} (h:j<8):((cellsX T63 x).drop j).take 1=[.int .i64 (intAt T63 x j)]:=cx_int x rfl (by rw [T63_size]; exact h)
theorem T63_set (x:El T63) {j:Nat} (v:Int) (h:j<8):splice (cellsX T63 x) j [.int .i64 v]=cellsX T63 (setInt T63 x j v):=cx_setInt x v rfl (by rw [T63_size]; exact h)
theorem T63_cells (x:El T63):cellsOf T63 x=cellsX T63 x:=rfl
theorem T63_all (x:El T63):(cellsX T63 x).drop 8=[]:=List.drop_eq_nil_of_le (by rw [cellsX_len,T63_size]; exact Nat.le_refl _)
theorem T63_one (x:El T63):(cellsX T63 x).take 1=[.int .i64 (intAt T63 x 0)]:=T63_nth x (j:=0) (by decide)
theorem T63_dropA (x:El T63) (l:List AVal) (j:Nat):(cellsX T63 x++l).drop (j+8)=l.drop j:=by rw [List.drop_append,cellsX_len,T63_size,List.drop_eq_nil_of_le (by rw [cellsX_len,T63_size]; omega),List.nil_append,Nat.add_sub_cancel]
theorem T63_takeA (x:El T63) (l:List AVal) (j:Nat):(cellsX T63 x++l).take (j+8)=cellsX T63 x++l.take j:=by rw [List.take_append,cellsX_len,T63_size,List.take_of_length_le (by rw [cellsX_len,T63_size]; omega),Nat.add_sub_cancel]
theorem T63_drop2 (a b c d:AVal) (p:El T63) (l:List AVal) (x:Nat):List.drop (12+x) (a::b::(cellsX T63 p++(c::d::l)))=List.drop x l:=by rw [show 12+x=((x+1+1)+8)+1+1 from by omega,List.drop_succ_cons,List.drop_succ_cons,T63_dropA]; rfl
theorem T63_drop3 (a b c d:AVal) (p:El T63) (l:List AVal) (x y:Nat):List.drop (12+x+y) (a::b::(cellsX T63 p++(c::d::l)))=List.drop (x+y) l:=by rw [Nat.add_assoc,T63_drop2]
attribute [go_sem high] T63_take T63_zero T63_put T63_nth T63_set T63_cells T63_all T63_one T63_dropA T63_takeA T63_drop2 T63_drop3
attribute [go_sem] T63_size T63_dry
def T65:Ty:=prodT 4 (prodT 2 (.int .i64))
instance:DecidableEq (El T65):=decEl T65
theorem T65_size:T65.size=8:=rfl
theorem T65_dry:T65.dry=true:=rfl
theorem T65_take (x:El T65):(cellsX T65 x).take 8=cellsX T65 x:=List.take_of_length_le (by rw [cellsX_len,T65_size]; exact Nat.le_refl _)
def Z65:List Value:=[Value.int .i64 0,Value.int .i64 0,Value.int .i64 0,Value.int .i64 0,Value.int .i64 0,Value.int .i64 0,Value.int .i64 0,Value.int .i64 0]
theorem T65_zero:List.map ofConst Z65=cellsX T65 (Ty.dflt T65):=rfl
theorem T65_put (x y:El T65):splice (cellsX T65 x) 0 (cellsX T65 y)=cellsX T65 y:=by unfold splice; rw [List.take_zero,List.nil_append,cellsX_len,List.drop_eq_nil_of_le (by rw [cellsX_len]; exact Nat.le_of_eq (Nat.zero_add _).symm),List.append_nil]
theorem T65_nth (x:El T65) {j:Nat} (h:j<8):((cellsX T65 x).drop j).take 1=[.int .i64 (intAt T65 x j)]:=cx_int x rfl (by rw [T65_size]; exact h)
theorem T65_set (x:El T65) {j:Nat} (v:Int) (h:j<8):splice (cellsX T65 x) j [.int .i64 v]=cellsX T65 (setInt T65 x j v):=cx_setInt x v rfl (by rw [T65_size]; exact h)
theorem T65_cells (x:El T65):cellsOf T65 x=cellsX T65 x:=rfl
theorem T65_all (x:El T65):(cellsX T65 x).drop 8=[]:=List.drop_eq_nil_of_le (by rw [cellsX_len,T65_size]; exact Nat.le_refl _)
theorem T65_one (x:El T65):(cellsX T65 x).take 1=[.int .i64 (intAt T65 x 0)]:=T65_nth x (j:=0) (by decide)
theorem T65_dropA (x:El T65) (l:List AVal) (j:Nat):(cellsX T65 x++l).drop (j+8)=l.drop j:=by rw [List.drop_append,cellsX_len,T65_size,List.drop_eq_nil_of_le (by rw [cellsX_len,T65_size]; omega),List.nil_append,Nat.add_sub_cancel]
theorem T65_takeA (x:El T65) (l:List AVal) (j:Nat):(cellsX T65 x++l).take (j+8)=cellsX T65 x++l.take j:=by rw [List.take_append,cellsX_len,T65_size,List.take_of_length_le (by rw [cellsX_len,T65_size]; omega),Nat.add_sub_cancel]
theorem T65_drop2 (a b c d:AVal) (p:El T65) (l:List AVal) (x:Nat):List.drop (12+x) (a::b::(cellsX T65 p++(c::d::l)))=List.drop x l:=by rw [show 12+x=((x+1+1)+8)+1+1 from by omega,List.drop_succ_cons,List.drop_succ_cons,T65_dropA]; rfl
theorem T65_drop3 (a b c d:AVal) (p:El T65) (l:List AVal) (x y:Nat):List.drop (12+x+y) (a::b::(cellsX T65 p++(c::d::l)))=List.drop (x+y) l:=by rw [Nat.add_assoc,T65_drop2]
attribute [go_sem high] T65_take T65_zero T65_put T65_nth T65_set T65_cells T65_all T65_one T65_dropA T65_takeA T65_drop2 T65_drop3
attribute [go_sem] T65_size T65_dry
def T66:Ty:=prodT 8 (.int .i64)
instance:DecidableEq (El T66):=decEl T66
theorem T66_size:T66.size=8:=rfl
theorem T66_dry:T66.dry=true:=rfl
theorem T66_take (x:El T66):(cellsX T66 x).take 8=cellsX T66 x:=List.take_of_length_le (by rw [cellsX_len,T66_size]; exact Nat.le_refl _)
def Z66:List Value:=[Value.int .i64 0,Value.int .i64 0,Value.int .i64 0,Value.int .i64 0,Value.int .i64 0,Value.int .i64 0,Value.int .i64 0,Value.int .i64 0]
theorem T66_zero:List.map ofConst Z66=cellsX T66 (Ty.dflt T66):=rfl
theorem T66_put (x y:El T66):splice (cellsX T66 x) 0 (cellsX T66 y)=cellsX T66 y:=by unfold splice; rw [List.take_zero,List.nil_append,cellsX_len,List.drop_eq_nil_of_le (by rw [cellsX_len]; exact Nat.le_of_eq (Nat.zero_add _).symm),List.append_nil]
theorem T66_nth (x:El T66) {j:Nat} (h:j<8):((cellsX T66 x).drop j).take 1=[.int .i64 (intAt T66 x j)]:=cx_int x rfl (by rw [T66_size]; exact h)
theorem T66_set (x:El T66) {j:Nat} (v:Int) (h:j<8):splice (cellsX T66 x) j [.int .i64 v]=cellsX T66 (setInt T66 x j v):=cx_setInt x v rfl (by rw [T66_size]; exact h)
theorem T66_cells (x:El T66):cellsOf T66 x=cellsX T66 x:=rfl
theorem T66_all (x:El T66):(cellsX T66 x).drop 8=[]:=List.drop_eq_nil_of_le (by rw [cellsX_len,T66_size]; exact Nat.le_refl _)
theorem T66_one (x:El T66):(cellsX T66 x).take 1=[.int .i64 (intAt T66 x 0)]:=T66_nth x (j:=0) (by decide)
theorem T66_dropA (x:El T66) (l:List AVal) (j:Nat):(cellsX T66 x++l).drop (j+8)=l.drop j:=by rw [List.drop_append,cellsX_len,T66_size,List.drop_eq_nil_of_le (by rw [cellsX_len,T66_size]; omega),List.nil_append,Nat.add_sub_cancel]
theorem T66_takeA (x:El T66) (l:List AVal) (j:Nat):(cellsX T66 x++l).take (j+8)=cellsX T66 x++l.take j:=by rw [List.take_append,cellsX_len,T66_size,List.take_of_length_le (by rw [cellsX_len,T66_size]; omega),Nat.add_sub_cancel]
theorem T66_drop2 (a b c d:AVal) (p:El T66) (l:List AVal) (x:Nat):List.drop (12+x) (a::b::(cellsX T66 p++(c::d::l)))=List.drop x l:=by rw [show 12+x=((x+1+1)+8)+1+1 from by omega,List.drop_succ_cons,List.drop_succ_cons,T66_dropA]; rfl
theorem T66_drop3 (a b c d:AVal) (p:El T66) (l:List AVal) (x y:Nat):List.drop (12+x+y) (a::b::(cellsX T66 p++(c::d::l)))=List.drop (x+y) l:=by rw [Nat.add_assoc,T66_drop2]
attribute [go_sem high] T66_take T66_zero T66_put T66_nth T66_set T66_cells T66_all T66_one T66_dropA T66_takeA T66_drop2 T66_drop3
attribute [go_sem] T66_size T66_dry
def T69:Ty:=prodT 4 (.pair (.int .i64) (T66))
instance:DecidableEq (El T69):=decEl T69
theorem T69_size:T69.size=36:=rfl
theorem T69_dry:T69.dry=true:=rfl
theorem T69_take (x:El T69):(cellsX T69 x).take 36=cellsX T69 x:=List.take_of_length_le (by rw [cellsX_len,T69_size]; exact Nat.le_refl _)
def Z69:List Value:=[Value.int .i64 0,Value.int .i64 0,Value.int .i64 0,Value.int .i64 0,Value.int .i64 0,Value.int .i64 0,Value.int .i64 0,Value.int .i64 0,Value.int .i64 0,Value.int .i64 0,Value.int .i64 0,Value.int .i64 0,Value.int .i64 0,Value.int .i64 0,Value.int .i64 0,Value.int .i64 0,Value.int .i64 0,Value.int .i64 0,Value.int .i64 0,Value.int .i64 0,Value.int .i64 0,Value.int .i64 0,Value.int .i64 0,Value.int .i64 0,Value.int .i64 0,Value.int .i64 0,Value.int .i64 0,Value.int .i64 0,Value.int .i64 0,Value.int .i64 0,Value.int .i64 0,Value.int .i64 0,Value.int .i64 0,Value.int .i64 0,Value.int .i64 0,Value.int .i64 0]
theorem T69_zero:List.map ofConst Z69=cellsX T69 (Ty.dflt T69):=rfl
theorem T69_put (x y:El T69):splice (cellsX T69 x) 0 (cellsX T69 y)=cellsX T69 y:=by unfold splice; rw [List.take_zero,List.nil_append,cellsX_len,List.drop_eq_nil_of_le (by rw [cellsX_len]; exact Nat.le_of_eq (Nat.zero_add _).symm),List.append_nil]
theorem T69_nth (x:El T69) {j:Nat} (h:j<36):((cellsX T69 x).drop j).take 1=[.int .i64 (intAt T69 x j)]:=cx_int x rfl (by rw [T69_size]; exact h)
theorem T69_set (x:El T69) {j:Nat} (v:Int) (h:j<36):splice (cellsX T69 x) j [.int .i64 v]=cellsX T69 (setInt T69 x j v):=cx_setInt x v rfl (by rw [T69_size]; exact h)
theorem T69_cells (x:El T69):cellsOf T69 x=cellsX T69 x:=rfl
theorem T69_all (x:El T69):(cellsX T69 x).drop 36=[]:=List.drop_eq_nil_of_le (by rw [cellsX_len,T69_size]; exact Nat.le_refl _)
theorem T69_one (x:El T69):(cellsX T69 x).take 1=[.int .i64 (intAt T69 x 0)]:=T69_nth x (j:=0) (by decide)
theorem T69_dropA (x:El T69) (l:List AVal) (j:Nat):(cellsX T69 x++l).drop (j+36)=l.drop j:=by rw [List.drop_append,cellsX_len,T69_size,List.drop_eq_nil_of_le (by rw [cellsX_len,T69_size]; omega),List.nil_append,Nat.add_sub_cancel]
theorem T69_takeA (x:El T69) (l:List AVal) (j:Nat):(cellsX T69 x++l).take (j+36)=cellsX T69 x++l.take j:=by rw [List.take_append,cellsX_len,T69_size,List.take_of_length_le (by rw [cellsX_len,T69_size]; omega),Nat.add_sub_cancel]
theorem T69_drop2 (a b c d:AVal) (p:El T69) (l:List AVal) (x:Nat):List.drop (40+x) (a::b::(cellsX T69 p++(c::d::l)))=List.drop x l:=by rw [show 40+x=((x+1+1)+36)+1+1 from by omega,List.drop_succ_cons,List.drop_succ_cons,T69_dropA]; rfl
theorem T69_drop3 (a b c d:AVal) (p:El T69) (l:List AVal) (x y:Nat):List.drop (40+x+y) (a::b::(cellsX T69 p++(c::d::l)))=List.drop (x+y) l:=by rw [Nat.add_assoc,T69_drop2]
attribute [go_sem high] T69_take T69_zero T69_put T69_nth T69_set T69_cells T69_all T69_one T69_dropA T69_takeA T69_drop2 T69_drop3
attribute [go_sem] T69_size T69_dry
def T93:Ty:=prodT 7 (.int .i64)
instance:DecidableEq (El T93):=decEl T93
theorem T93_size:T93.size=7:=rfl
theorem T93_dry:T93.dry=true:=rfl
theorem T93_take (x:El T93):(cellsX T93 x).take 7=cellsX T93 x:=List.take_of_length_le (by rw [cellsX_len,T93_size]; exact Nat.le_refl _)
def Z93:List Value:=[Value.int .i64 0,Value.int .i64 0,Value.int .i64 0,Value.int .i64 0,Value.int .i64 0,Value.int .i64 0,Value.int .i64 0]
theorem T93_zero:List.map ofConst Z93=cellsX T93 (Ty.dflt T93):=rfl
theorem T93_put (x y:El T93):splice (cellsX T93 x) 0 (cellsX T93 y)=cellsX T93 y:=by unfold splice; rw [List.take_zero,List.nil_append,cellsX_len,List.drop_eq_nil_of_le (by rw [cellsX_len]; exact Nat.le_of_eq (Nat.zero_add _).symm),List.append_nil]
theorem T93_nth (x:El T93) {j:Nat} (h:j<7):((cellsX T93 x).drop j).take 1=[.int .i64 (intAt T93 x j)]:=cx_int x rfl (by rw [T93_size]; exact h)
theorem T93_set (x:El T93) {j:Nat} (v:Int) (h:j<7):splice (cellsX T93 x) j [.int .i64 v]=cellsX T93 (setInt T93 x j v):=cx_setInt x v rfl (by rw [T93_size]; exact h)
theorem T93_cells (x:El T93):cellsOf T93 x=cellsX T93 x:=rfl
theorem T93_all (x:El T93):(cellsX T93 x).drop 7=[]:=List.drop_eq_nil_of_le (by rw [cellsX_len,T93_size]; exact Nat.le_refl _)
theorem T93_one (x:El T93):(cellsX T93 x).take 1=[.int .i64 (intAt T93 x 0)]:=T93_nth x (j:=0) (by decide)
theorem T93_dropA (x:El T93) (l:List AVal) (j:Nat):(cellsX T93 x++l).drop (j+7)=l.drop j:=by rw [List.drop_append,cellsX_len,T93_size,List.drop_eq_nil_of_le (by rw [cellsX_len,T93_size]; omega),List.nil_append,Nat.add_sub_cancel]
theorem T93_takeA (x:El T93) (l:List AVal) (j:Nat):(cellsX T93 x++l).take (j+7)=cellsX T93 x++l.take j:=by rw [List.take_append,cellsX_len,T93_size,List.take_of_length_le (by rw [cellsX_len,T93_size]; omega),Nat.add_sub_cancel]
theorem T93_drop2 (a b c d:AVal) (p:El T93) (l:List AVal) (x:Nat):List.drop (11+x) (a::b::(cellsX T93 p++(c::d::l)))=List.drop x l:=by rw [show 11+x=((x+1+1)+7)+1+1 from by omega,List.drop_succ_cons,List.drop_succ_cons,T93_dropA]; rfl
theorem T93_drop3 (a b c d:AVal) (p:El T93) (l:List AVal) (x y:Nat):List.drop (11+x+y) (a::b::(cellsX T93 p++(c::d::l)))=List.drop (x+y) l:=by rw [Nat.add_assoc,T93_drop2]
attribute [go_sem high] T93_take T93_zero T93_put T93_nth T93_set T93_cells T93_all T93_one T93_dropA T93_takeA T93_drop2 T93_drop3
attribute [go_sem] T93_size T93_dry
theorem T63_nthA (x:El T63) (l:List AVal) {j:Nat} (h:j<8):((cellsX T63 x++l).drop j).take 1=[.int .i64 (intAt T63 x j)]:=by rw [take_drop_app _ _ _ (by rw [cellsX_len,T63_size]; exact h),T63_nth x h]
theorem T63_setA (x:El T63) (l:List AVal) {j:Nat} (v:Int) (h:j<8):splice (cellsX T63 x++l) j [.int .i64 v]=cellsX T63 (setInt T63 x j v)++l:=by rw [splice_app _ _ _ _ (by rw [cellsX_len,T63_size]; exact h),T63_set x v h]
theorem T63_els (x:El T63):takeEls (.int .i64) 8 (cellsX T63 x)=some (rowX T63 x):=cx_els x rfl
attribute [go_sem high] T63_nthA T63_setA T63_els
theorem T65_nthA (x:El T65) (l:List AVal) {j:Nat} (h:j<8):((cellsX T65 x++l).drop j).take 1=[.int .i64 (intAt T65 x j)]:=by rw [take_drop_app _ _ _ (by rw [cellsX_len,T65_size]; exact h),T65_nth x h]
theorem T65_setA (x:El T65) (l:List AVal) {j:Nat} (v:Int) (h:j<8):splice (cellsX T65 x++l) j [.int .i64 v]=cellsX T65 (setInt T65 x j v)++l:=by rw [splice_app _ _ _ _ (by rw [cellsX_len,T65_size]; exact h),T65_set x v h]
theorem T65_els (x:El T65):takeEls (.int .i64) 8 (cellsX T65 x)=some (rowX T65 x):=cx_els x rfl
theorem T65_sub (x:El T65) {j:Nat} (h:j+2≤8):((cellsX T65 x).drop j).take 2=(.int .i64 (intAt T65 x j)::(.int .i64 (intAt T65 x (j+1))::[])):=cx_sub (k:=.i64) x rfl (.pair (.int .i64) (.int .i64)) rfl (by rw [T65_size]; exact h)
theorem T65_subA (x:El T65) (l:List AVal) {j:Nat} (h:j+2≤8):((cellsX T65 x++l).drop j).take 2=(.int .i64 (intAt T65 x j)::(.int .i64 (intAt T65 x (j+1))::[])):=by rw [List.drop_append_of_le_length (by rw [cellsX_len,T65_size]; omega),List.take_append_of_le_length (by rw [List.length_drop,cellsX_len,T65_size]; omega),T65_sub x h]
theorem T65_putE (x:El T65) {j:Nat} (a0:Int) (a1:Int) (h:j+2≤8):splice (cellsX T65 x) j (.int .i64 a0::(.int .i64 a1::[]))=cellsX T65 (putX T65 (.pair (.int .i64) (.int .i64)) x j (a0,a1)):=cx_put (k:=.i64) rfl (.pair (.int .i64) (.int .i64)) x (a0,a1) rfl (by rw [T65_size]; exact h)
theorem T65_putEA (x:El T65) (l:List AVal) {j:Nat} (a0:Int) (a1:Int) (h:j+2≤8):splice (cellsX T65 x++l) j (.int .i64 a0::(.int .i64 a1::[]))=cellsX T65 (putX T65 (.pair (.int .i64) (.int .i64)) x j (a0,a1))++l:=by rw [splice_app _ _ _ _ (by simp only [List.length_cons,List.length_nil,cellsX_len,T65_size]; omega),T65_putE x a0 a1 h]
attribute [go_sem high] T65_nthA T65_setA T65_els T65_sub T65_subA T65_putE T65_putEA
theorem T66_nthA (x:El T66) (l:List AVal) {j:Nat} (h:j<8):((cellsX T66 x++l).drop j).take 1=[.int .i64 (intAt T66 x j)]:=by rw [take_drop_app _ _ _ (by rw [cellsX_len,T66_size]; exact h),T66_nth x h]
theorem T66_setA (x:El T66) (l:List AVal) {j:Nat} (v:Int) (h:j<8):splice (cellsX T66 x++l) j [.int .i64 v]=cellsX T66 (setInt T66 x j v)++l:=by rw [splice_app _ _ _ _ (by rw [cellsX_len,T66_size]; exact h),T66_set x v h]
theorem T66_els (x:El T66):takeEls (.int .i64) 8 (cellsX T66 x)=some (rowX T66 x):=cx_els x rfl
attribute [go_sem high] T66_nthA T66_setA T66_els
theorem T69_nthA (x:El T69) (l:List AVal) {j:Nat} (h:j<36):((cellsX T69 x++l).drop j).take 1=[.int .i64 (intAt T69 x j)]:=by rw [take_drop_app _ _ _ (by rw [cellsX_len,T69_size]; exact h),T69_nth x h]
theorem T69_setA (x:El T69) (l:List AVal) {j:Nat} (v:Int) (h:j<36):splice (cellsX T69 x++l) j [.int .i64 v]=cellsX T69 (setInt T69 x j v)++l:=by rw [splice_app _ _ _ _ (by rw [cellsX_len,T69_size]; exact h),T69_set x v h]
theorem T69_els (x:El T69):takeEls (.int .i64) 36 (cellsX T69 x)=some (rowX T69 x):=cx_els x rfl
theorem T69_sub (x:El T69) {j:Nat} (h:j+9≤36):((cellsX T69 x).drop j).take 9=(.int .i64 (intAt T69 x j)::(cellsX T66 (subX T69 x T66 (j+1)))):=cx_sub (k:=.i64) x rfl (.pair (.int .i64) (T66)) rfl (by rw [T69_size]; exact h)
theorem T69_subA (x:El T69) (l:List AVal) {j:Nat} (h:j+9≤36):((cellsX T69 x++l).drop j).take 9=(.int .i64 (intAt T69 x j)::(cellsX T66 (subX T69 x T66 (j+1)))):=by rw [List.drop_append_of_le_length (by rw [cellsX_len,T69_size]; omega),List.take_append_of_le_length (by rw [List.length_drop,cellsX_len,T69_size]; omega),T69_sub x h]
theorem T69_putE (x:El T69) {j:Nat} (a0:Int) (a1:El T66) (h:j+9≤36):splice (cellsX T69 x) j (.int .i64 a0::(cellsX T66 a1))=cellsX T69 (putX T69 (.pair (.int .i64) (T66)) x j (a0,a1)):=cx_put (k:=.i64) rfl (.pair (.int .i64) (T66)) x (a0,a1) rfl (by rw [T69_size]; exact h)
theorem T69_putEA (x:El T69) (l:List AVal) {j:Nat} (a0:Int) (a1:El T66) (h:j+9≤36):splice (cellsX T69 x++l) j (.int .i64 a0::(cellsX T66 a1))=cellsX T69 (putX T69 (.pair (.int .i64) (T66)) x j (a0,a1))++l:=by rw [splice_app _ _ _ _ (by simp only [List.length_cons,List.length_nil,cellsX_len,T69_size,T66_size]; omega),T69_putE x a0 a1 h]
attribute [go_sem high] T69_nthA T69_setA T69_els T69_sub T69_subA T69_putE T69_putEA
theorem T93_nthA (x:El T93) (l:List AVal) {j:Nat} (h:j<7):((cellsX T93 x++l).drop j).take 1=[.int .i64 (intAt T93 x j)]:=by rw [take_drop_app _ _ _ (by rw [cellsX_len,T93_size]; exact h),T93_nth x h]
theorem T93_setA (x:El T93) (l:List AVal) {j:Nat} (v:Int) (h:j<7):splice (cellsX T93 x++l) j [.int .i64 v]=cellsX T93 (setInt T93 x j v)++l:=by rw [splice_app _ _ _ _ (by rw [cellsX_len,T93_size]; exact h),T93_set x v h]
theorem T93_els (x:El T93):takeEls (.int .i64) 7 (cellsX T93 x)=some (rowX T93 x):=cx_els x rfl
attribute [go_sem high] T93_nthA T93_setA T93_els
theorem S68_1_d1 (c0:AVal) (l:List AVal) (x:Nat):List.drop (1+x) (c0::l)=List.drop x l:=by rw [show 1+x=(x+1) from by omega,List.drop_succ_cons]
theorem S68_1_d2 (c0:AVal) (l:List AVal) (x y:Nat):List.drop (1+x+y) (c0::l)=List.drop (x+y) l:=by rw [Nat.add_assoc,S68_1_d1]
theorem S68_1_d3 (c0:AVal) (l:List AVal) (x y z:Nat):List.drop (1+x+y+z) (c0::l)=List.drop (x+y+z) l:=by rw [Nat.add_assoc,Nat.add_assoc,S68_1_d1,← Nat.add_assoc]
theorem S68_1_s1 (c0:AVal) (l:List AVal) (us:List AVal) (x:Nat):splice (c0::l) (1+x) us=c0::splice l x us:=by rw [show 1+x=(x+1) from by omega,splice_cons1]
theorem S68_1_s2 (c0:AVal) (l:List AVal) (us:List AVal) (x y:Nat):splice (c0::l) (1+x+y) us=c0::splice l (x+y) us:=by rw [Nat.add_assoc,S68_1_s1]
theorem S68_1_s3 (c0:AVal) (l:List AVal) (us:List AVal) (x y z:Nat):splice (c0::l) (1+x+y+z) us=c0::splice l (x+y+z) us:=by rw [Nat.add_assoc,Nat.add_assoc,S68_1_s1,← Nat.add_assoc]
attribute [go_sem high] S68_1_d1 S68_1_d2 S68_1_d3 S68_1_s1 S68_1_s2 S68_1_s3
theorem S71_2_d1 (c0:AVal) (c1:AVal) (l:List AVal) (x:Nat):List.drop (2+x) (c0::c1::l)=List.drop x l:=by rw [show 2+x=((x+1)+1) from by omega,List.drop_succ_cons,List.drop_succ_cons]
theorem S71_2_d2 (c0:AVal) (c1:AVal) (l:List AVal) (x y:Nat):List.drop (2+x+y) (c0::c1::l)=List.drop (x+y) l:=by rw [Nat.add_assoc,S71_2_d1]
theorem S71_2_d3 (c0:AVal) (c1:AVal) (l:List AVal) (x y z:Nat):List.drop (2+x+y+z) (c0::c1::l)=List.drop (x+y+z) l:=by rw [Nat.add_assoc,Nat.add_assoc,S71_2_d1,← Nat.add_assoc]
theorem S71_2_s1 (c0:AVal) (c1:AVal) (l:List AVal) (us:List AVal) (x:Nat):splice (c0::c1::l) (2+x) us=c0::c1::splice l x us:=by rw [show 2+x=((x+1)+1) from by omega,splice_cons1,splice_cons1]
theorem S71_2_s2 (c0:AVal) (c1:AVal) (l:List AVal) (us:List AVal) (x y:Nat):splice (c0::c1::l) (2+x+y) us=c0::c1::splice l (x+y) us:=by rw [Nat.add_assoc,S71_2_s1]
theorem S71_2_s3 (c0:AVal) (c1:AVal) (l:List AVal) (us:List AVal) (x y z:Nat):splice (c0::c1::l) (2+x+y+z) us=c0::c1::splice l (x+y+z) us:=by rw [Nat.add_assoc,Nat.add_assoc,S71_2_s1,← Nat.add_assoc]
theorem S71_10_d1 (c0:AVal) (c1:AVal) (p2:El T63) (l:List AVal) (x:Nat):List.drop (10+x) (c0::c1::(cellsX T63 p2++(l)))=List.drop x l:=by rw [show 10+x=(((x+8)+1)+1) from by omega,List.drop_succ_cons,List.drop_succ_cons,T63_dropA]
theorem S71_10_d2 (c0:AVal) (c1:AVal) (p2:El T63) (l:List AVal) (x y:Nat):List.drop (10+x+y) (c0::c1::(cellsX T63 p2++(l)))=List.drop (x+y) l:=by rw [Nat.add_assoc,S71_10_d1]
theorem S71_10_d3 (c0:AVal) (c1:AVal) (p2:El T63) (l:List AVal) (x y z:Nat):List.drop (10+x+y+z) (c0::c1::(cellsX T63 p2++(l)))=List.drop (x+y+z) l:=by rw [Nat.add_assoc,Nat.add_assoc,S71_10_d1,← Nat.add_assoc]
theorem S71_10_s1 (c0:AVal) (c1:AVal) (p2:El T63) (l:List AVal) (us:List AVal) (x:Nat):splice (c0::c1::(cellsX T63 p2++(l))) (10+x) us=c0::c1::(cellsX T63 p2++(splice l x us)):=by rw [show 10+x=(((x+8)+1)+1) from by omega,splice_cons1,splice_cons1,splice_cxA (n:=8) T63_size]
theorem S71_10_s2 (c0:AVal) (c1:AVal) (p2:El T63) (l:List AVal) (us:List AVal) (x y:Nat):splice (c0::c1::(cellsX T63 p2++(l))) (10+x+y) us=c0::c1::(cellsX T63 p2++(splice l (x+y) us)):=by rw [Nat.add_assoc,S71_10_s1]
theorem S71_10_s3 (c0:AVal) (c1:AVal) (p2:El T63) (l:List AVal) (us:List AVal) (x y z:Nat):splice (c0::c1::(cellsX T63 p2++(l))) (10+x+y+z) us=c0::c1::(cellsX T63 p2++(splice l (x+y+z) us)):=by rw [Nat.add_assoc,Nat.add_assoc,S71_10_s1,← Nat.add_assoc]
theorem S71_18_d1 (c0:AVal) (c1:AVal) (p2:El T63) (p3:El T65) (l:List AVal) (x:Nat):List.drop (18+x) (c0::c1::(cellsX T63 p2++((cellsX T65 p3++(l)))))=List.drop x l:=by rw [show 18+x=((((x+8)+8)+1)+1) from by omega,List.drop_succ_cons,List.drop_succ_cons,T63_dropA,T65_dropA]
theorem S71_18_d2 (c0:AVal) (c1:AVal) (p2:El T63) (p3:El T65) (l:List AVal) (x y:Nat):List.drop (18+x+y) (c0::c1::(cellsX T63 p2++((cellsX T65 p3++(l)))))=List.drop (x+y) l:=by rw [Nat.add_assoc,S71_18_d1]
theorem S71_18_d3 (c0:AVal) (c1:AVal) (p2:El T63) (p3:El T65) (l:List AVal) (x y z:Nat):List.drop (18+x+y+z) (c0::c1::(cellsX T63 p2++((cellsX T65 p3++(l)))))=List.drop (x+y+z) l:=by rw [Nat.add_assoc,Nat.add_assoc,S71_18_d1,← Nat.add_assoc]
theorem S71_18_s1 (c0:AVal) (c1:AVal) (p2:El T63) (p3:El T65) (l:List AVal) (us:List AVal) (x:Nat):splice (c0::c1::(cellsX T63 p2++((cellsX T65 p3++(l))))) (18+x) us=c0::c1::(cellsX T63 p2++((cellsX T65 p3++(splice l x us)))):=by rw [show 18+x=((((x+8)+8)+1)+1) from by omega,splice_cons1,splice_cons1,splice_cxA (n:=8) T63_size,splice_cxA (n:=8) T65_size]
theorem S71_18_s2 (c0:AVal) (c1:AVal) (p2:El T63) (p3:El T65) (l:List AVal) (us:List AVal) (x y:Nat):splice (c0::c1::(cellsX T63 p2++((cellsX T65 p3++(l))))) (18+x+y) us=c0::c1::(cellsX T63 p2++((cellsX T65 p3++(splice l (x+y) us)))):=by rw [Nat.add_assoc,S71_18_s1]
theorem S71_18_s3 (c0:AVal) (c1:AVal) (p2:El T63) (p3:El T65) (l:List AVal) (us:List AVal) (x y z:Nat):splice (c0::c1::(cellsX T63 p2++((cellsX T65 p3++(l))))) (18+x+y+z) us=c0::c1::(cellsX T63 p2++((cellsX T65 p3++(splice l (x+y+z) us)))):=by rw [Nat.add_assoc,Nat.add_assoc,S71_18_s1,← Nat.add_assoc]
attribute [go_sem high] S71_2_d1 S71_2_d2 S71_2_d3 S71_2_s1 S71_2_s2 S71_2_s3 S71_10_d1 S71_10_d2 S71_10_d3 S71_10_s1 S71_10_s2 S71_10_s3 S71_18_d1 S71_18_d2 S71_18_d3 S71_18_s1 S71_18_s2 S71_18_s3
theorem S77_2_d1 (c0:AVal) (c1:AVal) (l:List AVal) (x:Nat):List.drop (2+x) (c0::c1::l)=List.drop x l:=by rw [show 2+x=((x+1)+1) from by omega,List.drop_succ_cons,List.drop_succ_cons]
theorem S77_2_d2 (c0:AVal) (c1:AVal) (l:List AVal) (x y:Nat):List.drop (2+x+y) (c0::c1::l)=List.drop (x+y) l:=by rw [Nat.add_assoc,S77_2_d1]
theorem S77_2_d3 (c0:AVal) (c1:AVal) (l:List AVal) (x y z:Nat):List.drop (2+x+y+z) (c0::c1::l)=List.drop (x+y+z) l:=by rw [Nat.add_assoc,Nat.add_assoc,S77_2_d1,← Nat.add_assoc]
theorem S77_2_s1 (c0:AVal) (c1:AVal) (l:List AVal) (us:List AVal) (x:Nat):splice (c0::c1::l) (2+x) us=c0::c1::splice l x us:=by rw [show 2+x=((x+1)+1) from by omega,splice_cons1,splice_cons1]
theorem S77_2_s2 (c0:AVal) (c1:AVal) (l:List AVal) (us:List AVal) (x y:Nat):splice (c0::c1::l) (2+x+y) us=c0::c1::splice l (x+y) us:=by rw [Nat.add_assoc,S77_2_s1]
theorem S77_2_s3 (c0:AVal) (c1:AVal) (l:List AVal) (us:List AVal) (x y z:Nat):splice (c0::c1::l) (2+x+y+z) us=c0::c1::splice l (x+y+z) us:=by rw [Nat.add_assoc,Nat.add_assoc,S77_2_s1,← Nat.add_assoc]
attribute [go_sem high] S77_2_d1 S77_2_d2 S77_2_d3 S77_2_s1 S77_2_s2 S77_2_s3
end Go.Proofs.YtcckpmeepcoafaaDoor
