/-
  The table of the types that the texts of this seat speak of: it is the program's.
-/
import Derived.Test.YtcgflignbhmoaaaAvd
import Derived.Test.YtcgflignbhmoaaaProg
import Derived.KernelRfl
namespace Go.Proofs.Ytcgflignbhmoaaa

def tabL : List (TypeId × TInfo) := [
  (3, { desc := .int .i64, size := 1, bytes := 8, zero := [.int .i64 0], dt := some (.int .i64) }),
  (4, { desc := .bool, size := 1, bytes := 1, zero := [.bool false], dt := some (.bool) }),
  (5, { desc := .int .u8, size := 1, bytes := 1, zero := [.int .u8 0], dt := some (.int .u8) }),
  (22, { desc := .sl 25, size := 1, bytes := 24, zero := [.slice none 0 0], dt := some (.sl (.sl (.int .i64))) }),
  (24, { desc := .struct [(0, 3, 1), (1, 3, 1), (2, 22, 1), (3, 22, 1)], size := 4, bytes := 64, zero := [.int .i64 0, .int .i64 0, .slice none 0 0, .slice none 0 0], dt := some (.pair (.int .i64) (.pair (.int .i64) (.pair (.sl (.sl (.int .i64))) (.sl (.sl (.int .i64)))))) }),
  (25, { desc := .sl 3, size := 1, bytes := 24, zero := [.slice none 0 0], dt := some (.sl (.int .i64)) }),
  (28, { desc := .int .i64, size := 1, bytes := 8, zero := [.int .i64 0], dt := some (.int .i64) }),
  (60, { desc := .struct [(0, 3, 1), (1, 3, 1), (2, 22, 1), (3, 22, 1)], size := 4, bytes := 64, zero := [.int .i64 0, .int .i64 0, .slice none 0 0, .slice none 0 0], dt := some (.pair (.int .i64) (.pair (.int .i64) (.pair (.sl (.sl (.int .i64))) (.sl (.sl (.int .i64)))))) }),
  (69, { desc := .other, size := 1, bytes := 8, zero := [.nilFunc], dt := none }),
  (75, { desc := .arr 2 3, size := 2, bytes := 16, zero := [.int .i64 0, .int .i64 0], dt := some (.pair (.int .i64) (.int .i64)) }),
  (80, { desc := .other, size := 1, bytes := 8, zero := [.nilFunc], dt := none }),
  (82, { desc := .sl 4, size := 1, bytes := 24, zero := [.slice none 0 0], dt := some (.sl .bool) }),
  (93, { desc := .other, size := 1, bytes := 8, zero := [.nilFunc], dt := none }),
  (99, { desc := .other, size := 1, bytes := 8, zero := [.nilFunc], dt := none }),
  (103, { desc := .other, size := 1, bytes := 8, zero := [.nilFunc], dt := none }),
  (104, { desc := .other, size := 1, bytes := 8, zero := [.nilFunc], dt := none }),
  (105, { desc := .sl 75, size := 1, bytes := 24, zero := [.slice none 0 0], dt := some (.sl (.pair (.int .i64) (.int .i64))) }),
  (109, { desc := .int .u64, size := 1, bytes := 8, zero := [.int .u64 0], dt := some (.int .u64) }),
  (111, { desc := .int .i64, size := 1, bytes := 8, zero := [.int .i64 0], dt := some (.int .i64) }),
  (121, { desc := .int .u64, size := 1, bytes := 8, zero := [.int .u64 0], dt := some (.int .u64) }),
  (122, { desc := .int .u64, size := 1, bytes := 8, zero := [.int .u64 0], dt := some (.int .u64) }),
  (126, { desc := .other, size := 1, bytes := 8, zero := [.pointer none], dt := none }),
  (128, { desc := .other, size := 1, bytes := 8, zero := [.pointer none], dt := none })]

def tyTab : Tab := tabOf tabL

theorem tab_ok : TabOK Try.prog tyTab := tabOf_ok tabL (by kernel_rfl)
theorem ops_nil (a : Array Operand) : ((#[] : Array Operand) ++ a).toList = a.toList := by simp
theorem ops_one (f : Operand) (a : Array Operand) : (#[f] ++ a).toList = f :: a.toList := by simp
attribute [go_sem high] ops_nil ops_one
theorem mixed_ok : Try.prog.follows .mixedOrders = true := by kernel_rfl
theorem tb_types : ∃ m, Try.prog.types.size = m + 1 := ⟨Try.prog.types.size - 1, by kernel_rfl⟩
theorem mapty_106 : MapTy Try.prog 106 75 4 true false (.pair (.int .i64) (.int .i64)) (.bool) := mapty_pair (by kernel_rfl) ⟨by kernel_rfl, by kernel_rfl, by kernel_rfl, by kernel_rfl⟩ (el := 3) (by kernel_rfl) tb_types (fun _ => by kernel_rfl) rfl (.inr rfl)
theorem tab_3 : tyTab 3 = some { desc := .int .i64, size := 1, bytes := 8, zero := [.int .i64 0], dt := some (.int .i64) } := rfl
theorem tab_4 : tyTab 4 = some { desc := .bool, size := 1, bytes := 1, zero := [.bool false], dt := some (.bool) } := rfl
theorem tab_5 : tyTab 5 = some { desc := .int .u8, size := 1, bytes := 1, zero := [.int .u8 0], dt := some (.int .u8) } := rfl
theorem tab_22 : tyTab 22 = some { desc := .sl 25, size := 1, bytes := 24, zero := [.slice none 0 0], dt := some (.sl (.sl (.int .i64))) } := rfl
theorem tab_24 : tyTab 24 = some { desc := .struct [(0, 3, 1), (1, 3, 1), (2, 22, 1), (3, 22, 1)], size := 4, bytes := 64, zero := [.int .i64 0, .int .i64 0, .slice none 0 0, .slice none 0 0], dt := some (.pair (.int .i64) (.pair (.int .i64) (.pair (.sl (.sl (.int .i64))) (.sl (.sl (.int .i64)))))) } := rfl
theorem tab_25 : tyTab 25 = some { desc := .sl 3, size := 1, bytes := 24, zero := [.slice none 0 0], dt := some (.sl (.int .i64)) } := rfl
theorem tab_28 : tyTab 28 = some { desc := .int .i64, size := 1, bytes := 8, zero := [.int .i64 0], dt := some (.int .i64) } := rfl
theorem tab_60 : tyTab 60 = some { desc := .struct [(0, 3, 1), (1, 3, 1), (2, 22, 1), (3, 22, 1)], size := 4, bytes := 64, zero := [.int .i64 0, .int .i64 0, .slice none 0 0, .slice none 0 0], dt := some (.pair (.int .i64) (.pair (.int .i64) (.pair (.sl (.sl (.int .i64))) (.sl (.sl (.int .i64)))))) } := rfl
theorem tab_69 : tyTab 69 = some { desc := .other, size := 1, bytes := 8, zero := [.nilFunc], dt := none } := rfl
theorem tab_75 : tyTab 75 = some { desc := .arr 2 3, size := 2, bytes := 16, zero := [.int .i64 0, .int .i64 0], dt := some (.pair (.int .i64) (.int .i64)) } := rfl
theorem tab_80 : tyTab 80 = some { desc := .other, size := 1, bytes := 8, zero := [.nilFunc], dt := none } := rfl
theorem tab_82 : tyTab 82 = some { desc := .sl 4, size := 1, bytes := 24, zero := [.slice none 0 0], dt := some (.sl .bool) } := rfl
theorem tab_93 : tyTab 93 = some { desc := .other, size := 1, bytes := 8, zero := [.nilFunc], dt := none } := rfl
theorem tab_99 : tyTab 99 = some { desc := .other, size := 1, bytes := 8, zero := [.nilFunc], dt := none } := rfl
theorem tab_103 : tyTab 103 = some { desc := .other, size := 1, bytes := 8, zero := [.nilFunc], dt := none } := rfl
theorem tab_104 : tyTab 104 = some { desc := .other, size := 1, bytes := 8, zero := [.nilFunc], dt := none } := rfl
theorem tab_105 : tyTab 105 = some { desc := .sl 75, size := 1, bytes := 24, zero := [.slice none 0 0], dt := some (.sl (.pair (.int .i64) (.int .i64))) } := rfl
theorem tab_109 : tyTab 109 = some { desc := .int .u64, size := 1, bytes := 8, zero := [.int .u64 0], dt := some (.int .u64) } := rfl
theorem tab_111 : tyTab 111 = some { desc := .int .i64, size := 1, bytes := 8, zero := [.int .i64 0], dt := some (.int .i64) } := rfl
theorem tab_121 : tyTab 121 = some { desc := .int .u64, size := 1, bytes := 8, zero := [.int .u64 0], dt := some (.int .u64) } := rfl
theorem tab_122 : tyTab 122 = some { desc := .int .u64, size := 1, bytes := 8, zero := [.int .u64 0], dt := some (.int .u64) } := rfl
theorem tab_126 : tyTab 126 = some { desc := .other, size := 1, bytes := 8, zero := [.pointer none], dt := none } := rfl
theorem tab_128 : tyTab 128 = some { desc := .other, size := 1, bytes := 8, zero := [.pointer none], dt := none } := rfl
attribute [go_sem] tab_3 tab_4 tab_5 tab_22 tab_24 tab_25 tab_28 tab_60 tab_69 tab_75 tab_80 tab_82 tab_93 tab_99 tab_103 tab_104 tab_105 tab_109 tab_111 tab_121 tab_122 tab_126 tab_128

end Go.Proofs.Ytcgflignbhmoaaa
