/-
  The table of the types that the texts of this seat speak of: it is the program's.
-/
import Derived.Test.YtabchabbdnhjpaaTy6
import Derived.Test.YtabchabbdnhjpaaProg
import Derived.KernelRfl
namespace Go.Proofs.Ytabchabbdnhjpaa

def tabL : List (TypeId × TInfo) := [
  (3, { desc := .int .i64, size := 1, bytes := 8, zero := [.int .i64 0], dt := some (.int .i64) }),
  (4, { desc := .bool, size := 1, bytes := 1, zero := [.bool false], dt := some (.bool) }),
  (5, { desc := .int .u8, size := 1, bytes := 1, zero := [.int .u8 0], dt := some (.int .u8) }),
  (22, { desc := .sl 50, size := 1, bytes := 24, zero := [.slice none 0 0], dt := some (.sl (.pair (.int .i64) (.int .i64))) }),
  (24, { desc := .struct [(0, 3, 1), (1, 22, 1)], size := 2, bytes := 32, zero := [.int .i64 0, .slice none 0 0], dt := some (.pair (.int .i64) (.sl (.pair (.int .i64) (.int .i64)))) }),
  (25, { desc := .sl 3, size := 1, bytes := 24, zero := [.slice none 0 0], dt := some (.sl (.int .i64)) }),
  (28, { desc := .sl 25, size := 1, bytes := 24, zero := [.slice none 0 0], dt := some (.sl (.sl (.int .i64))) }),
  (29, { desc := .int .i64, size := 1, bytes := 8, zero := [.int .i64 0], dt := some (.int .i64) }),
  (50, { desc := .arr 2 3, size := 2, bytes := 16, zero := [.int .i64 0, .int .i64 0], dt := some (.pair (.int .i64) (.int .i64)) }),
  (51, { desc := .arr 6 4, size := 6, bytes := 6, zero := [.bool false, .bool false, .bool false, .bool false, .bool false, .bool false], dt := some (.pair (.bool) (.pair (.bool) (.pair (.bool) (.pair (.bool) (.pair (.bool) (.bool)))))) }),
  (53, { desc := .arr 6 51, size := 36, bytes := 36, zero := Z53, dt := some (T53) }),
  (63, { desc := .other, size := 1, bytes := 8, zero := [.nilFunc], dt := none }),
  (67, { desc := .other, size := 1, bytes := 8, zero := [.map none], dt := none }),
  (72, { desc := .other, size := 1, bytes := 8, zero := [.nilFunc], dt := none }),
  (78, { desc := .other, size := 1, bytes := 8, zero := [.nilFunc], dt := none }),
  (85, { desc := .arr 10 3, size := 10, bytes := 80, zero := Z85, dt := some (T85) }),
  (89, { desc := .other, size := 1, bytes := 8, zero := [.nilFunc], dt := none }),
  (92, { desc := .int .u64, size := 1, bytes := 8, zero := [.int .u64 0], dt := some (.int .u64) }),
  (94, { desc := .int .i64, size := 1, bytes := 8, zero := [.int .i64 0], dt := some (.int .i64) }),
  (104, { desc := .int .u64, size := 1, bytes := 8, zero := [.int .u64 0], dt := some (.int .u64) }),
  (105, { desc := .int .u64, size := 1, bytes := 8, zero := [.int .u64 0], dt := some (.int .u64) }),
  (109, { desc := .other, size := 1, bytes := 8, zero := [.pointer none], dt := none }),
  (112, { desc := .other, size := 1, bytes := 8, zero := [.pointer none], dt := none })]

def tyTab : Tab := tabOf tabL

theorem tab_ok : TabOK Try.prog tyTab := tabOf_ok tabL (by kernel_rfl)
theorem ops_nil (a : Array Operand) : ((#[] : Array Operand) ++ a).toList = a.toList := by simp
theorem ops_one (f : Operand) (a : Array Operand) : (#[f] ++ a).toList = f :: a.toList := by simp
attribute [go_sem high] ops_nil ops_one
theorem mixed_ok : Try.prog.follows .mixedOrders = true := by kernel_rfl
theorem tb_types : ∃ m, Try.prog.types.size = m + 1 := ⟨Try.prog.types.size - 1, by kernel_rfl⟩
theorem eqty_50 : EqTy Try.prog 50 (.pair (.int .i64) (.int .i64)) := eqty_arr (N := 2) (q := .i64) (el := 3) rfl ⟨by kernel_rfl, by kernel_rfl, by kernel_rfl, by kernel_rfl⟩ (by kernel_rfl) tb_types (by kernel_rfl) rfl
theorem mapty_67 : MapTy Try.prog 67 85 3 true false T85 (.int .i64) := mapty_arr (N := 10) (q := .i64) (el := 3) rfl (by kernel_rfl) ⟨by kernel_rfl, by kernel_rfl, by kernel_rfl, by kernel_rfl⟩ (by kernel_rfl) tb_types (fun _ => by kernel_rfl) rfl rfl (.inr rfl)
theorem tab_3 : tyTab 3 = some { desc := .int .i64, size := 1, bytes := 8, zero := [.int .i64 0], dt := some (.int .i64) } := rfl
theorem tab_4 : tyTab 4 = some { desc := .bool, size := 1, bytes := 1, zero := [.bool false], dt := some (.bool) } := rfl
theorem tab_5 : tyTab 5 = some { desc := .int .u8, size := 1, bytes := 1, zero := [.int .u8 0], dt := some (.int .u8) } := rfl
theorem tab_22 : tyTab 22 = some { desc := .sl 50, size := 1, bytes := 24, zero := [.slice none 0 0], dt := some (.sl (.pair (.int .i64) (.int .i64))) } := rfl
theorem tab_24 : tyTab 24 = some { desc := .struct [(0, 3, 1), (1, 22, 1)], size := 2, bytes := 32, zero := [.int .i64 0, .slice none 0 0], dt := some (.pair (.int .i64) (.sl (.pair (.int .i64) (.int .i64)))) } := rfl
theorem tab_25 : tyTab 25 = some { desc := .sl 3, size := 1, bytes := 24, zero := [.slice none 0 0], dt := some (.sl (.int .i64)) } := rfl
theorem tab_28 : tyTab 28 = some { desc := .sl 25, size := 1, bytes := 24, zero := [.slice none 0 0], dt := some (.sl (.sl (.int .i64))) } := rfl
theorem tab_29 : tyTab 29 = some { desc := .int .i64, size := 1, bytes := 8, zero := [.int .i64 0], dt := some (.int .i64) } := rfl
theorem tab_50 : tyTab 50 = some { desc := .arr 2 3, size := 2, bytes := 16, zero := [.int .i64 0, .int .i64 0], dt := some (.pair (.int .i64) (.int .i64)) } := rfl
theorem tab_51 : tyTab 51 = some { desc := .arr 6 4, size := 6, bytes := 6, zero := [.bool false, .bool false, .bool false, .bool false, .bool false, .bool false], dt := some (.pair (.bool) (.pair (.bool) (.pair (.bool) (.pair (.bool) (.pair (.bool) (.bool)))))) } := rfl
theorem tab_53 : tyTab 53 = some { desc := .arr 6 51, size := 36, bytes := 36, zero := Z53, dt := some (T53) } := rfl
theorem tab_63 : tyTab 63 = some { desc := .other, size := 1, bytes := 8, zero := [.nilFunc], dt := none } := rfl
theorem tab_67 : tyTab 67 = some { desc := .other, size := 1, bytes := 8, zero := [.map none], dt := none } := rfl
theorem tab_72 : tyTab 72 = some { desc := .other, size := 1, bytes := 8, zero := [.nilFunc], dt := none } := rfl
theorem tab_78 : tyTab 78 = some { desc := .other, size := 1, bytes := 8, zero := [.nilFunc], dt := none } := rfl
theorem tab_85 : tyTab 85 = some { desc := .arr 10 3, size := 10, bytes := 80, zero := Z85, dt := some (T85) } := rfl
theorem tab_89 : tyTab 89 = some { desc := .other, size := 1, bytes := 8, zero := [.nilFunc], dt := none } := rfl
theorem tab_92 : tyTab 92 = some { desc := .int .u64, size := 1, bytes := 8, zero := [.int .u64 0], dt := some (.int .u64) } := rfl
theorem tab_94 : tyTab 94 = some { desc := .int .i64, size := 1, bytes := 8, zero := [.int .i64 0], dt := some (.int .i64) } := rfl
theorem tab_104 : tyTab 104 = some { desc := .int .u64, size := 1, bytes := 8, zero := [.int .u64 0], dt := some (.int .u64) } := rfl
theorem tab_105 : tyTab 105 = some { desc := .int .u64, size := 1, bytes := 8, zero := [.int .u64 0], dt := some (.int .u64) } := rfl
theorem tab_109 : tyTab 109 = some { desc := .other, size := 1, bytes := 8, zero := [.pointer none], dt := none } := rfl
theorem tab_112 : tyTab 112 = some { desc := .other, size := 1, bytes := 8, zero := [.pointer none], dt := none } := rfl
attribute [go_sem] tab_3 tab_4 tab_5 tab_22 tab_24 tab_25 tab_28 tab_29 tab_50 tab_51 tab_53 tab_63 tab_67 tab_72 tab_78 tab_85 tab_89 tab_92 tab_94 tab_104 tab_105 tab_109 tab_112

end Go.Proofs.Ytabchabbdnhjpaa
