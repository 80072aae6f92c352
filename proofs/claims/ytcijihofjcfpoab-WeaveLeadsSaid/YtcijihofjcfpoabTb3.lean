/-
  The table of the types that the texts of this seat speak of: it is the program's.
-/
import Derived.Test.YtcijihofjcfpoabTy3
import Derived.Test.YtcijihofjcfpoabProg
import Derived.KernelRfl
namespace Go.Proofs.Ytcijihofjcfpoab

def tabL : List (TypeId × TInfo) := [
  (3, { desc := .int .i64, size := 1, bytes := 8, zero := [.int .i64 0], dt := some (.int .i64) }),
  (4, { desc := .bool, size := 1, bytes := 1, zero := [.bool false], dt := some (.bool) }),
  (5, { desc := .int .u8, size := 1, bytes := 1, zero := [.int .u8 0], dt := some (.int .u8) }),
  (22, { desc := .sl 56, size := 1, bytes := 24, zero := [.slice none 0 0], dt := some (.sl (.pair (.int .i64) (.int .i64))) }),
  (24, { desc := .struct [(0, 3, 1), (1, 22, 1)], size := 2, bytes := 32, zero := [.int .i64 0, .slice none 0 0], dt := some (.pair (.int .i64) (.sl (.pair (.int .i64) (.int .i64)))) }),
  (25, { desc := .sl 3, size := 1, bytes := 24, zero := [.slice none 0 0], dt := some (.sl (.int .i64)) }),
  (28, { desc := .int .i64, size := 1, bytes := 8, zero := [.int .i64 0], dt := some (.int .i64) }),
  (41, { desc := .sl 25, size := 1, bytes := 24, zero := [.slice none 0 0], dt := some (.sl (.sl (.int .i64))) }),
  (52, { desc := .sl 5, size := 1, bytes := 24, zero := [.slice none 0 0], dt := some (.sl (.int .u8)) }),
  (56, { desc := .arr 2 3, size := 2, bytes := 16, zero := [.int .i64 0, .int .i64 0], dt := some (.pair (.int .i64) (.int .i64)) }),
  (57, { desc := .arr 6 4, size := 6, bytes := 6, zero := [.bool false, .bool false, .bool false, .bool false, .bool false, .bool false], dt := some (.pair (.bool) (.pair (.bool) (.pair (.bool) (.pair (.bool) (.pair (.bool) (.bool)))))) }),
  (59, { desc := .arr 6 57, size := 36, bytes := 36, zero := Z59, dt := some (T59) }),
  (75, { desc := .other, size := 1, bytes := 8, zero := [.nilFunc], dt := none }),
  (79, { desc := .other, size := 1, bytes := 8, zero := [.map none], dt := none }),
  (82, { desc := .other, size := 1, bytes := 8, zero := [.nilFunc], dt := none }),
  (89, { desc := .other, size := 1, bytes := 8, zero := [.nilFunc], dt := none }),
  (94, { desc := .arr 10 3, size := 10, bytes := 80, zero := Z94, dt := some (T94) }),
  (97, { desc := .other, size := 1, bytes := 8, zero := [.nilFunc], dt := none }),
  (100, { desc := .int .u64, size := 1, bytes := 8, zero := [.int .u64 0], dt := some (.int .u64) }),
  (102, { desc := .int .i64, size := 1, bytes := 8, zero := [.int .i64 0], dt := some (.int .i64) }),
  (112, { desc := .int .u64, size := 1, bytes := 8, zero := [.int .u64 0], dt := some (.int .u64) }),
  (113, { desc := .int .u64, size := 1, bytes := 8, zero := [.int .u64 0], dt := some (.int .u64) }),
  (117, { desc := .other, size := 1, bytes := 8, zero := [.pointer none], dt := none }),
  (120, { desc := .other, size := 1, bytes := 8, zero := [.pointer none], dt := none })]

def tyTab : Tab := tabOf tabL

theorem tab_ok : TabOK Try.prog tyTab := tabOf_ok tabL (by kernel_rfl)
theorem ops_nil (a : Array Operand) : ((#[] : Array Operand) ++ a).toList = a.toList := by simp
theorem ops_one (f : Operand) (a : Array Operand) : (#[f] ++ a).toList = f :: a.toList := by simp
attribute [go_sem high] ops_nil ops_one
theorem mixed_ok : Try.prog.follows .mixedOrders = true := by kernel_rfl
theorem tb_types : ∃ m, Try.prog.types.size = m + 1 := ⟨Try.prog.types.size - 1, by kernel_rfl⟩
theorem eqty_56 : EqTy Try.prog 56 (.pair (.int .i64) (.int .i64)) := eqty_arr (N := 2) (q := .i64) (el := 3) rfl ⟨by kernel_rfl, by kernel_rfl, by kernel_rfl, by kernel_rfl⟩ (by kernel_rfl) tb_types (by kernel_rfl) rfl
theorem mapty_79 : MapTy Try.prog 79 94 3 true false T94 (.int .i64) := mapty_arr (N := 10) (q := .i64) (el := 3) rfl (by kernel_rfl) ⟨by kernel_rfl, by kernel_rfl, by kernel_rfl, by kernel_rfl⟩ (by kernel_rfl) tb_types (fun _ => by kernel_rfl) rfl rfl (.inr rfl)
theorem tab_3 : tyTab 3 = some { desc := .int .i64, size := 1, bytes := 8, zero := [.int .i64 0], dt := some (.int .i64) } := rfl
theorem tab_4 : tyTab 4 = some { desc := .bool, size := 1, bytes := 1, zero := [.bool false], dt := some (.bool) } := rfl
theorem tab_5 : tyTab 5 = some { desc := .int .u8, size := 1, bytes := 1, zero := [.int .u8 0], dt := some (.int .u8) } := rfl
theorem tab_22 : tyTab 22 = some { desc := .sl 56, size := 1, bytes := 24, zero := [.slice none 0 0], dt := some (.sl (.pair (.int .i64) (.int .i64))) } := rfl
theorem tab_24 : tyTab 24 = some { desc := .struct [(0, 3, 1), (1, 22, 1)], size := 2, bytes := 32, zero := [.int .i64 0, .slice none 0 0], dt := some (.pair (.int .i64) (.sl (.pair (.int .i64) (.int .i64)))) } := rfl
theorem tab_25 : tyTab 25 = some { desc := .sl 3, size := 1, bytes := 24, zero := [.slice none 0 0], dt := some (.sl (.int .i64)) } := rfl
theorem tab_28 : tyTab 28 = some { desc := .int .i64, size := 1, bytes := 8, zero := [.int .i64 0], dt := some (.int .i64) } := rfl
theorem tab_41 : tyTab 41 = some { desc := .sl 25, size := 1, bytes := 24, zero := [.slice none 0 0], dt := some (.sl (.sl (.int .i64))) } := rfl
theorem tab_52 : tyTab 52 = some { desc := .sl 5, size := 1, bytes := 24, zero := [.slice none 0 0], dt := some (.sl (.int .u8)) } := rfl
theorem tab_56 : tyTab 56 = some { desc := .arr 2 3, size := 2, bytes := 16, zero := [.int .i64 0, .int .i64 0], dt := some (.pair (.int .i64) (.int .i64)) } := rfl
theorem tab_57 : tyTab 57 = some { desc := .arr 6 4, size := 6, bytes := 6, zero := [.bool false, .bool false, .bool false, .bool false, .bool false, .bool false], dt := some (.pair (.bool) (.pair (.bool) (.pair (.bool) (.pair (.bool) (.pair (.bool) (.bool)))))) } := rfl
theorem tab_59 : tyTab 59 = some { desc := .arr 6 57, size := 36, bytes := 36, zero := Z59, dt := some (T59) } := rfl
theorem tab_75 : tyTab 75 = some { desc := .other, size := 1, bytes := 8, zero := [.nilFunc], dt := none } := rfl
theorem tab_79 : tyTab 79 = some { desc := .other, size := 1, bytes := 8, zero := [.map none], dt := none } := rfl
theorem tab_82 : tyTab 82 = some { desc := .other, size := 1, bytes := 8, zero := [.nilFunc], dt := none } := rfl
theorem tab_89 : tyTab 89 = some { desc := .other, size := 1, bytes := 8, zero := [.nilFunc], dt := none } := rfl
theorem tab_94 : tyTab 94 = some { desc := .arr 10 3, size := 10, bytes := 80, zero := Z94, dt := some (T94) } := rfl
theorem tab_97 : tyTab 97 = some { desc := .other, size := 1, bytes := 8, zero := [.nilFunc], dt := none } := rfl
theorem tab_100 : tyTab 100 = some { desc := .int .u64, size := 1, bytes := 8, zero := [.int .u64 0], dt := some (.int .u64) } := rfl
theorem tab_102 : tyTab 102 = some { desc := .int .i64, size := 1, bytes := 8, zero := [.int .i64 0], dt := some (.int .i64) } := rfl
theorem tab_112 : tyTab 112 = some { desc := .int .u64, size := 1, bytes := 8, zero := [.int .u64 0], dt := some (.int .u64) } := rfl
theorem tab_113 : tyTab 113 = some { desc := .int .u64, size := 1, bytes := 8, zero := [.int .u64 0], dt := some (.int .u64) } := rfl
theorem tab_117 : tyTab 117 = some { desc := .other, size := 1, bytes := 8, zero := [.pointer none], dt := none } := rfl
theorem tab_120 : tyTab 120 = some { desc := .other, size := 1, bytes := 8, zero := [.pointer none], dt := none } := rfl
attribute [go_sem] tab_3 tab_4 tab_5 tab_22 tab_24 tab_25 tab_28 tab_41 tab_52 tab_56 tab_57 tab_59 tab_75 tab_79 tab_82 tab_89 tab_94 tab_97 tab_100 tab_102 tab_112 tab_113 tab_117 tab_120

end Go.Proofs.Ytcijihofjcfpoab
