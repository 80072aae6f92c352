/-
  The types of great arrays that the texts of this seat speak of.
-/
import Derived.Test.YtifleoceebaooaaAvl
namespace Go.Proofs.Ytifleoceebaooaa

set_option maxRecDepth 100000

def T69 : Ty := prodT 6 (prodT 4 (.int .u8))
instance : DecidableEq (El T69) := decEl T69
theorem T69_size : T69.size = 24 := rfl
theorem T69_dry : T69.dry = true := rfl
theorem T69_take (x : El T69) : (cellsX T69 x).take 24 = cellsX T69 x := List.take_of_length_le (by rw [cellsX_len, T69_size]; exact Nat.le_refl _)
def Z69 : List Value := [Value.int .u8 0, Value.int .u8 0, Value.int .u8 0, Value.int .u8 0, Value.int .u8 0, Value.int .u8 0, Value.int .u8 0, Value.int .u8 0, Value.int .u8 0, Value.int .u8 0, Value.int .u8 0, Value.int .u8 0, Value.int .u8 0, Value.int .u8 0, Value.int .u8 0, Value.int .u8 0, Value.int .u8 0, Value.int .u8 0, Value.int .u8 0, Value.int .u8 0, Value.int .u8 0, Value.int .u8 0, Value.int .u8 0, Value.int .u8 0]
theorem T69_zero : List.map ofConst Z69 = cellsX T69 (Ty.dflt T69) := rfl
theorem T69_put (x y : El T69) : splice (cellsX T69 x) 0 (cellsX T69 y) = cellsX T69 y := by unfold splice; rw [List.take_zero, List.nil_append, cellsX_len, List.drop_eq_nil_of_le (by rw [cellsX_len]; exact Nat.le_of_eq (Nat.zero_add _).symm), List.append_nil]
theorem T69_nth (x : El T69) {j : Nat} (h : j < 24) : ((cellsX T69 x).drop j).take 1 = [.int .u8 (intAt T69 x j)] := cx_int x rfl (by rw [T69_size]; exact h)
theorem T69_set (x : El T69) {j : Nat} (v : Int) (h : j < 24) : splice (cellsX T69 x) j [.int .u8 v] = cellsX T69 (setInt T69 x j v) := cx_setInt x v rfl (by rw [T69_size]; exact h)
theorem T69_cells (x : El T69) : cellsOf T69 x = cellsX T69 x := rfl
theorem T69_all (x : El T69) : (cellsX T69 x).drop 24 = [] := List.drop_eq_nil_of_le (by rw [cellsX_len, T69_size]; exact Nat.le_refl _)
theorem T69_one (x : El T69) : (cellsX T69 x).take 1 = [.int .u8 (intAt T69 x 0)] := T69_nth x (j := 0) (by decide)
theorem T69_dropA (x : El T69) (l : List AVal) (j : Nat) : (cellsX T69 x ++ l).drop (j + 24) = l.drop j := by rw [List.drop_append, cellsX_len, T69_size, List.drop_eq_nil_of_le (by rw [cellsX_len, T69_size]; omega), List.nil_append, Nat.add_sub_cancel]
theorem T69_takeA (x : El T69) (l : List AVal) (j : Nat) : (cellsX T69 x ++ l).take (j + 24) = cellsX T69 x ++ l.take j := by rw [List.take_append, cellsX_len, T69_size, List.take_of_length_le (by rw [cellsX_len, T69_size]; omega), Nat.add_sub_cancel]
theorem T69_drop2 (a b c d : AVal) (p : El T69) (l : List AVal) (x : Nat) : List.drop (28 + x) (a :: b :: (cellsX T69 p ++ (c :: d :: l))) = List.drop x l := by rw [show 28 + x = ((x + 1 + 1) + 24) + 1 + 1 from by omega, List.drop_succ_cons, List.drop_succ_cons, T69_dropA]; rfl
theorem T69_drop3 (a b c d : AVal) (p : El T69) (l : List AVal) (x y : Nat) : List.drop (28 + x + y) (a :: b :: (cellsX T69 p ++ (c :: d :: l))) = List.drop (x + y) l := by rw [Nat.add_assoc, T69_drop2]
attribute [go_sem high] T69_take T69_zero T69_put T69_nth T69_set T69_cells T69_all T69_one T69_dropA T69_takeA T69_drop2 T69_drop3
attribute [go_sem] T69_size T69_dry

def T94 : Ty := prodT 6 (.int .u8)
instance : DecidableEq (El T94) := decEl T94
theorem T94_size : T94.size = 6 := rfl
theorem T94_dry : T94.dry = true := rfl
theorem T94_take (x : El T94) : (cellsX T94 x).take 6 = cellsX T94 x := List.take_of_length_le (by rw [cellsX_len, T94_size]; exact Nat.le_refl _)
def Z94 : List Value := [Value.int .u8 0, Value.int .u8 0, Value.int .u8 0, Value.int .u8 0, Value.int .u8 0, Value.int .u8 0]
theorem T94_zero : List.map ofConst Z94 = cellsX T94 (Ty.dflt T94) := rfl
theorem T94_put (x y : El T94) : splice (cellsX T94 x) 0 (cellsX T94 y) = cellsX T94 y := by unfold splice; rw [List.take_zero, List.nil_append, cellsX_len, List.drop_eq_nil_of_le (by rw [cellsX_len]; exact Nat.le_of_eq (Nat.zero_add _).symm), List.append_nil]
theorem T94_nth (x : El T94) {j : Nat} (h : j < 6) : ((cellsX T94 x).drop j).take 1 = [.int .u8 (intAt T94 x j)] := cx_int x rfl (by rw [T94_size]; exact h)
theorem T94_set (x : El T94) {j : Nat} (v : Int) (h : j < 6) : splice (cellsX T94 x) j [.int .u8 v] = cellsX T94 (setInt T94 x j v) := cx_setInt x v rfl (by rw [T94_size]; exact h)
theorem T94_cells (x : El T94) : cellsOf T94 x = cellsX T94 x := rfl
theorem T94_all (x : El T94) : (cellsX T94 x).drop 6 = [] := List.drop_eq_nil_of_le (by rw [cellsX_len, T94_size]; exact Nat.le_refl _)
theorem T94_one (x : El T94) : (cellsX T94 x).take 1 = [.int .u8 (intAt T94 x 0)] := T94_nth x (j := 0) (by decide)
theorem T94_dropA (x : El T94) (l : List AVal) (j : Nat) : (cellsX T94 x ++ l).drop (j + 6) = l.drop j := by rw [List.drop_append, cellsX_len, T94_size, List.drop_eq_nil_of_le (by rw [cellsX_len, T94_size]; omega), List.nil_append, Nat.add_sub_cancel]
theorem T94_takeA (x : El T94) (l : List AVal) (j : Nat) : (cellsX T94 x ++ l).take (j + 6) = cellsX T94 x ++ l.take j := by rw [List.take_append, cellsX_len, T94_size, List.take_of_length_le (by rw [cellsX_len, T94_size]; omega), Nat.add_sub_cancel]
theorem T94_drop2 (a b c d : AVal) (p : El T94) (l : List AVal) (x : Nat) : List.drop (10 + x) (a :: b :: (cellsX T94 p ++ (c :: d :: l))) = List.drop x l := by rw [show 10 + x = ((x + 1 + 1) + 6) + 1 + 1 from by omega, List.drop_succ_cons, List.drop_succ_cons, T94_dropA]; rfl
theorem T94_drop3 (a b c d : AVal) (p : El T94) (l : List AVal) (x y : Nat) : List.drop (10 + x + y) (a :: b :: (cellsX T94 p ++ (c :: d :: l))) = List.drop (x + y) l := by rw [Nat.add_assoc, T94_drop2]
attribute [go_sem high] T94_take T94_zero T94_put T94_nth T94_set T94_cells T94_all T94_one T94_dropA T94_takeA T94_drop2 T94_drop3
attribute [go_sem] T94_size T94_dry

def T107 : Ty := prodT 64 (.bool)
instance : DecidableEq (El T107) := decEl T107
theorem T107_size : T107.size = 64 := rfl
theorem T107_dry : T107.dry = true := rfl
theorem T107_take (x : El T107) : (cellsX T107 x).take 64 = cellsX T107 x := List.take_of_length_le (by rw [cellsX_len, T107_size]; exact Nat.le_refl _)
def Z107 : List Value := [Value.bool false, Value.bool false, Value.bool false, Value.bool false, Value.bool false, Value.bool false, Value.bool false, Value.bool false, Value.bool false, Value.bool false, Value.bool false, Value.bool false, Value.bool false, Value.bool false, Value.bool false, Value.bool false, Value.bool false, Value.bool false, Value.bool false, Value.bool false, Value.bool false, Value.bool false, Value.bool false, Value.bool false, Value.bool false, Value.bool false, Value.bool false, Value.bool false, Value.bool false, Value.bool false, Value.bool false, Value.bool false, Value.bool false, Value.bool false, Value.bool false, Value.bool false, Value.bool false, Value.bool false, Value.bool false, Value.bool false, Value.bool false, Value.bool false, Value.bool false, Value.bool false, Value.bool false, Value.bool false, Value.bool false, Value.bool false, Value.bool false, Value.bool false, Value.bool false, Value.bool false, Value.bool false, Value.bool false, Value.bool false, Value.bool false, Value.bool false, Value.bool false, Value.bool false, Value.bool false, Value.bool false, Value.bool false, Value.bool false, Value.bool false]
theorem T107_zero : List.map ofConst Z107 = cellsX T107 (Ty.dflt T107) := rfl
theorem T107_put (x y : El T107) : splice (cellsX T107 x) 0 (cellsX T107 y) = cellsX T107 y := by unfold splice; rw [List.take_zero, List.nil_append, cellsX_len, List.drop_eq_nil_of_le (by rw [cellsX_len]; exact Nat.le_of_eq (Nat.zero_add _).symm), List.append_nil]
theorem T107_nth (x : El T107) {j : Nat} (h : j < 64) : ((cellsX T107 x).drop j).take 1 = [.bool (boolAt T107 x j)] := cx_bool x rfl (by rw [T107_size]; exact h)
theorem T107_set (x : El T107) {j : Nat} (v : Bool) (h : j < 64) : splice (cellsX T107 x) j [.bool v] = cellsX T107 (setBool T107 x j v) := cx_setBool x v rfl (by rw [T107_size]; exact h)
theorem T107_cells (x : El T107) : cellsOf T107 x = cellsX T107 x := rfl
theorem T107_all (x : El T107) : (cellsX T107 x).drop 64 = [] := List.drop_eq_nil_of_le (by rw [cellsX_len, T107_size]; exact Nat.le_refl _)
theorem T107_one (x : El T107) : (cellsX T107 x).take 1 = [.bool (boolAt T107 x 0)] := T107_nth x (j := 0) (by decide)
theorem T107_dropA (x : El T107) (l : List AVal) (j : Nat) : (cellsX T107 x ++ l).drop (j + 64) = l.drop j := by rw [List.drop_append, cellsX_len, T107_size, List.drop_eq_nil_of_le (by rw [cellsX_len, T107_size]; omega), List.nil_append, Nat.add_sub_cancel]
theorem T107_takeA (x : El T107) (l : List AVal) (j : Nat) : (cellsX T107 x ++ l).take (j + 64) = cellsX T107 x ++ l.take j := by rw [List.take_append, cellsX_len, T107_size, List.take_of_length_le (by rw [cellsX_len, T107_size]; omega), Nat.add_sub_cancel]
theorem T107_drop2 (a b c d : AVal) (p : El T107) (l : List AVal) (x : Nat) : List.drop (68 + x) (a :: b :: (cellsX T107 p ++ (c :: d :: l))) = List.drop x l := by rw [show 68 + x = ((x + 1 + 1) + 64) + 1 + 1 from by omega, List.drop_succ_cons, List.drop_succ_cons, T107_dropA]; rfl
theorem T107_drop3 (a b c d : AVal) (p : El T107) (l : List AVal) (x y : Nat) : List.drop (68 + x + y) (a :: b :: (cellsX T107 p ++ (c :: d :: l))) = List.drop (x + y) l := by rw [Nat.add_assoc, T107_drop2]
attribute [go_sem high] T107_take T107_zero T107_put T107_nth T107_set T107_cells T107_all T107_one T107_dropA T107_takeA T107_drop2 T107_drop3
attribute [go_sem] T107_size T107_dry

def T108 : Ty := prodT 64 (prodT 64 (.bool))
instance : DecidableEq (El T108) := decEl T108
theorem T108_size : T108.size = 4096 := rfl
theorem T108_dry : T108.dry = true := rfl
theorem T108_take (x : El T108) : (cellsX T108 x).take 4096 = cellsX T108 x := List.take_of_length_le (by rw [cellsX_len, T108_size]; exact Nat.le_refl _)
def Z108 : List Value := List.replicate 4096 (Value.bool false)
theorem T108_zero : List.map ofConst Z108 = cellsX T108 (Ty.dflt T108) := rfl
theorem T108_put (x y : El T108) : splice (cellsX T108 x) 0 (cellsX T108 y) = cellsX T108 y := by unfold splice; rw [List.take_zero, List.nil_append, cellsX_len, List.drop_eq_nil_of_le (by rw [cellsX_len]; exact Nat.le_of_eq (Nat.zero_add _).symm), List.append_nil]
theorem T108_nth (x : El T108) {j : Nat} (h : j < 4096) : ((cellsX T108 x).drop j).take 1 = [.bool (boolAt T108 x j)] := cx_bool x rfl (by rw [T108_size]; exact h)
theorem T108_set (x : El T108) {j : Nat} (v : Bool) (h : j < 4096) : splice (cellsX T108 x) j [.bool v] = cellsX T108 (setBool T108 x j v) := cx_setBool x v rfl (by rw [T108_size]; exact h)
theorem T108_cells (x : El T108) : cellsOf T108 x = cellsX T108 x := rfl
theorem T108_all (x : El T108) : (cellsX T108 x).drop 4096 = [] := List.drop_eq_nil_of_le (by rw [cellsX_len, T108_size]; exact Nat.le_refl _)
theorem T108_one (x : El T108) : (cellsX T108 x).take 1 = [.bool (boolAt T108 x 0)] := T108_nth x (j := 0) (by decide)
theorem T108_dropA (x : El T108) (l : List AVal) (j : Nat) : (cellsX T108 x ++ l).drop (j + 4096) = l.drop j := by rw [List.drop_append, cellsX_len, T108_size, List.drop_eq_nil_of_le (by rw [cellsX_len, T108_size]; omega), List.nil_append, Nat.add_sub_cancel]
theorem T108_takeA (x : El T108) (l : List AVal) (j : Nat) : (cellsX T108 x ++ l).take (j + 4096) = cellsX T108 x ++ l.take j := by rw [List.take_append, cellsX_len, T108_size, List.take_of_length_le (by rw [cellsX_len, T108_size]; omega), Nat.add_sub_cancel]
theorem T108_drop2 (a b c d : AVal) (p : El T108) (l : List AVal) (x : Nat) : List.drop (4100 + x) (a :: b :: (cellsX T108 p ++ (c :: d :: l))) = List.drop x l := by rw [show 4100 + x = ((x + 1 + 1) + 4096) + 1 + 1 from by omega, List.drop_succ_cons, List.drop_succ_cons, T108_dropA]; rfl
theorem T108_drop3 (a b c d : AVal) (p : El T108) (l : List AVal) (x y : Nat) : List.drop (4100 + x + y) (a :: b :: (cellsX T108 p ++ (c :: d :: l))) = List.drop (x + y) l := by rw [Nat.add_assoc, T108_drop2]
attribute [go_sem high] T108_take T108_zero T108_put T108_nth T108_set T108_cells T108_all T108_one T108_dropA T108_takeA T108_drop2 T108_drop3
attribute [go_sem] T108_size T108_dry

end Go.Proofs.Ytifleoceebaooaa
