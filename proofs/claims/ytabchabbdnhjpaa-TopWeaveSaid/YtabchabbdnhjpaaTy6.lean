/-
  The types of great arrays that the texts of this seat speak of.
-/
import Derived.Test.YtabchabbdnhjpaaAvm
namespace Go.Proofs.Ytabchabbdnhjpaa

set_option maxRecDepth 100000

def T53 : Ty := prodT 6 (prodT 6 (.bool))
instance : DecidableEq (El T53) := decEl T53
theorem T53_size : T53.size = 36 := rfl
theorem T53_dry : T53.dry = true := rfl
theorem T53_take (x : El T53) : (cellsX T53 x).take 36 = cellsX T53 x := List.take_of_length_le (by rw [cellsX_len, T53_size]; exact Nat.le_refl _)
def Z53 : List Value := [Value.bool false, Value.bool false, Value.bool false, Value.bool false, Value.bool false, Value.bool false, Value.bool false, Value.bool false, Value.bool false, Value.bool false, Value.bool false, Value.bool false, Value.bool false, Value.bool false, Value.bool false, Value.bool false, Value.bool false, Value.bool false, Value.bool false, Value.bool false, Value.bool false, Value.bool false, Value.bool false, Value.bool false, Value.bool false, Value.bool false, Value.bool false, Value.bool false, Value.bool false, Value.bool false, Value.bool false, Value.bool false, Value.bool false, Value.bool false, Value.bool false, Value.bool false]
theorem T53_zero : List.map ofConst Z53 = cellsX T53 (Ty.dflt T53) := rfl
theorem T53_put (x y : El T53) : splice (cellsX T53 x) 0 (cellsX T53 y) = cellsX T53 y := by unfold splice; rw [List.take_zero, List.nil_append, cellsX_len, List.drop_eq_nil_of_le (by rw [cellsX_len]; exact Nat.le_of_eq (Nat.zero_add _).symm), List.append_nil]
theorem T53_nth (x : El T53) {j : Nat} (h : j < 36) : ((cellsX T53 x).drop j).take 1 = [.bool (boolAt T53 x j)] := cx_bool x rfl (by rw [T53_size]; exact h)
theorem T53_set (x : El T53) {j : Nat} (v : Bool) (h : j < 36) : splice (cellsX T53 x) j [.bool v] = cellsX T53 (setBool T53 x j v) := cx_setBool x v rfl (by rw [T53_size]; exact h)
theorem T53_cells (x : El T53) : cellsOf T53 x = cellsX T53 x := rfl
theorem T53_all (x : El T53) : (cellsX T53 x).drop 36 = [] := List.drop_eq_nil_of_le (by rw [cellsX_len, T53_size]; exact Nat.le_refl _)
theorem T53_one (x : El T53) : (cellsX T53 x).take 1 = [.bool (boolAt T53 x 0)] := T53_nth x (j := 0) (by decide)
theorem T53_dropA (x : El T53) (l : List AVal) (j : Nat) : (cellsX T53 x ++ l).drop (j + 36) = l.drop j := by rw [List.drop_append, cellsX_len, T53_size, List.drop_eq_nil_of_le (by rw [cellsX_len, T53_size]; omega), List.nil_append, Nat.add_sub_cancel]
theorem T53_takeA (x : El T53) (l : List AVal) (j : Nat) : (cellsX T53 x ++ l).take (j + 36) = cellsX T53 x ++ l.take j := by rw [List.take_append, cellsX_len, T53_size, List.take_of_length_le (by rw [cellsX_len, T53_size]; omega), Nat.add_sub_cancel]
theorem T53_drop2 (a b c d : AVal) (p : El T53) (l : List AVal) (x : Nat) : List.drop (40 + x) (a :: b :: (cellsX T53 p ++ (c :: d :: l))) = List.drop x l := by rw [show 40 + x = ((x + 1 + 1) + 36) + 1 + 1 from by omega, List.drop_succ_cons, List.drop_succ_cons, T53_dropA]; rfl
theorem T53_drop3 (a b c d : AVal) (p : El T53) (l : List AVal) (x y : Nat) : List.drop (40 + x + y) (a :: b :: (cellsX T53 p ++ (c :: d :: l))) = List.drop (x + y) l := by rw [Nat.add_assoc, T53_drop2]
attribute [go_sem high] T53_take T53_zero T53_put T53_nth T53_set T53_cells T53_all T53_one T53_dropA T53_takeA T53_drop2 T53_drop3
attribute [go_sem] T53_size T53_dry

def T85 : Ty := prodT 10 (.int .i64)
instance : DecidableEq (El T85) := decEl T85
theorem T85_size : T85.size = 10 := rfl
theorem T85_dry : T85.dry = true := rfl
theorem T85_take (x : El T85) : (cellsX T85 x).take 10 = cellsX T85 x := List.take_of_length_le (by rw [cellsX_len, T85_size]; exact Nat.le_refl _)
def Z85 : List Value := [Value.int .i64 0, Value.int .i64 0, Value.int .i64 0, Value.int .i64 0, Value.int .i64 0, Value.int .i64 0, Value.int .i64 0, Value.int .i64 0, Value.int .i64 0, Value.int .i64 0]
theorem T85_zero : List.map ofConst Z85 = cellsX T85 (Ty.dflt T85) := rfl
theorem T85_put (x y : El T85) : splice (cellsX T85 x) 0 (cellsX T85 y) = cellsX T85 y := by unfold splice; rw [List.take_zero, List.nil_append, cellsX_len, List.drop_eq_nil_of_le (by rw [cellsX_len]; exact Nat.le_of_eq (Nat.zero_add _).symm), List.append_nil]
theorem T85_nth (x : El T85) {j : Nat} (h : j < 10) : ((cellsX T85 x).drop j).take 1 = [.int .i64 (intAt T85 x j)] := cx_int x rfl (by rw [T85_size]; exact h)
theorem T85_set (x : El T85) {j : Nat} (v : Int) (h : j < 10) : splice (cellsX T85 x) j [.int .i64 v] = cellsX T85 (setInt T85 x j v) := cx_setInt x v rfl (by rw [T85_size]; exact h)
theorem T85_cells (x : El T85) : cellsOf T85 x = cellsX T85 x := rfl
theorem T85_all (x : El T85) : (cellsX T85 x).drop 10 = [] := List.drop_eq_nil_of_le (by rw [cellsX_len, T85_size]; exact Nat.le_refl _)
theorem T85_one (x : El T85) : (cellsX T85 x).take 1 = [.int .i64 (intAt T85 x 0)] := T85_nth x (j := 0) (by decide)
theorem T85_dropA (x : El T85) (l : List AVal) (j : Nat) : (cellsX T85 x ++ l).drop (j + 10) = l.drop j := by rw [List.drop_append, cellsX_len, T85_size, List.drop_eq_nil_of_le (by rw [cellsX_len, T85_size]; omega), List.nil_append, Nat.add_sub_cancel]
theorem T85_takeA (x : El T85) (l : List AVal) (j : Nat) : (cellsX T85 x ++ l).take (j + 10) = cellsX T85 x ++ l.take j := by rw [List.take_append, cellsX_len, T85_size, List.take_of_length_le (by rw [cellsX_len, T85_size]; omega), Nat.add_sub_cancel]
theorem T85_drop2 (a b c d : AVal) (p : El T85) (l : List AVal) (x : Nat) : List.drop (14 + x) (a :: b :: (cellsX T85 p ++ (c :: d :: l))) = List.drop x l := by rw [show 14 + x = ((x + 1 + 1) + 10) + 1 + 1 from by omega, List.drop_succ_cons, List.drop_succ_cons, T85_dropA]; rfl
theorem T85_drop3 (a b c d : AVal) (p : El T85) (l : List AVal) (x y : Nat) : List.drop (14 + x + y) (a :: b :: (cellsX T85 p ++ (c :: d :: l))) = List.drop (x + y) l := by rw [Nat.add_assoc, T85_drop2]
attribute [go_sem high] T85_take T85_zero T85_put T85_nth T85_set T85_cells T85_all T85_one T85_dropA T85_takeA T85_drop2 T85_drop3
attribute [go_sem] T85_size T85_dry

end Go.Proofs.Ytabchabbdnhjpaa
