/-
  The types of great arrays that the texts of this seat speak of.
-/
import Derived.Test.YtcijihofjcfpoabAvd
namespace Go.Proofs.Ytcijihofjcfpoab

set_option maxRecDepth 100000

def T59 : Ty := prodT 6 (prodT 6 (.bool))
instance : DecidableEq (El T59) := decEl T59
theorem T59_size : T59.size = 36 := rfl
theorem T59_dry : T59.dry = true := rfl
theorem T59_take (x : El T59) : (cellsX T59 x).take 36 = cellsX T59 x := List.take_of_length_le (by rw [cellsX_len, T59_size]; exact Nat.le_refl _)
def Z59 : List Value := [Value.bool false, Value.bool false, Value.bool false, Value.bool false, Value.bool false, Value.bool false, Value.bool false, Value.bool false, Value.bool false, Value.bool false, Value.bool false, Value.bool false, Value.bool false, Value.bool false, Value.bool false, Value.bool false, Value.bool false, Value.bool false, Value.bool false, Value.bool false, Value.bool false, Value.bool false, Value.bool false, Value.bool false, Value.bool false, Value.bool false, Value.bool false, Value.bool false, Value.bool false, Value.bool false, Value.bool false, Value.bool false, Value.bool false, Value.bool false, Value.bool false, Value.bool false]
theorem T59_zero : List.map ofConst Z59 = cellsX T59 (Ty.dflt T59) := rfl
theorem T59_put (x y : El T59) : splice (cellsX T59 x) 0 (cellsX T59 y) = cellsX T59 y := by unfold splice; rw [List.take_zero, List.nil_append, cellsX_len, List.drop_eq_nil_of_le (by rw [cellsX_len]; exact Nat.le_of_eq (Nat.zero_add _).symm), List.append_nil]
theorem T59_nth (x : El T59) {j : Nat} (h : j < 36) : ((cellsX T59 x).drop j).take 1 = [.bool (boolAt T59 x j)] := cx_bool x rfl (by rw [T59_size]; exact h)
theorem T59_set (x : El T59) {j : Nat} (v : Bool) (h : j < 36) : splice (cellsX T59 x) j [.bool v] = cellsX T59 (setBool T59 x j v) := cx_setBool x v rfl (by rw [T59_size]; exact h)
attribute [go_sem high] T59_take T59_zero T59_put T59_nth T59_set
attribute [go_sem] T59_size T59_dry

def T94 : Ty := prodT 10 (.int .i64)
instance : DecidableEq (El T94) := decEl T94
theorem T94_size : T94.size = 10 := rfl
theorem T94_dry : T94.dry = true := rfl
theorem T94_take (x : El T94) : (cellsX T94 x).take 10 = cellsX T94 x := List.take_of_length_le (by rw [cellsX_len, T94_size]; exact Nat.le_refl _)
def Z94 : List Value := [Value.int .i64 0, Value.int .i64 0, Value.int .i64 0, Value.int .i64 0, Value.int .i64 0, Value.int .i64 0, Value.int .i64 0, Value.int .i64 0, Value.int .i64 0, Value.int .i64 0]
theorem T94_zero : List.map ofConst Z94 = cellsX T94 (Ty.dflt T94) := rfl
theorem T94_put (x y : El T94) : splice (cellsX T94 x) 0 (cellsX T94 y) = cellsX T94 y := by unfold splice; rw [List.take_zero, List.nil_append, cellsX_len, List.drop_eq_nil_of_le (by rw [cellsX_len]; exact Nat.le_of_eq (Nat.zero_add _).symm), List.append_nil]
theorem T94_nth (x : El T94) {j : Nat} (h : j < 10) : ((cellsX T94 x).drop j).take 1 = [.int .i64 (intAt T94 x j)] := cx_int x rfl (by rw [T94_size]; exact h)
theorem T94_set (x : El T94) {j : Nat} (v : Int) (h : j < 10) : splice (cellsX T94 x) j [.int .i64 v] = cellsX T94 (setInt T94 x j v) := cx_setInt x v rfl (by rw [T94_size]; exact h)
attribute [go_sem high] T94_take T94_zero T94_put T94_nth T94_set
attribute [go_sem] T94_size T94_dry

end Go.Proofs.Ytcijihofjcfpoab
