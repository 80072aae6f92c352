/-
  The table of the types that the texts of this seat speak of: it is the program's.
-/
import Derived.Test.YtlfpagicagmjgaaAvd
import Derived.Test.YtlfpagicagmjgaaProg
import Derived.KernelRfl
namespace Go.Proofs.Ytlfpagicagmjgaa

def tabL : List (TypeId × TInfo) := [
  (3, { desc := .int .i64, size := 1, bytes := 8, zero := [.int .i64 0], dt := some (.int .i64) }),
  (4, { desc := .bool, size := 1, bytes := 1, zero := [.bool false], dt := some (.bool) }),
  (5, { desc := .int .u8, size := 1, bytes := 1, zero := [.int .u8 0], dt := some (.int .u8) }),
  (22, { desc := .sl 64, size := 1, bytes := 24, zero := [.slice none 0 0], dt := some (.sl (.pair (.int .i64) (.pair (.int .i64) (.pair (.sl (.sl (.int .i64))) (.sl (.sl (.int .i64))))))) }),
  (23, { desc := .sl 55, size := 1, bytes := 24, zero := [.slice none 0 0], dt := some (.sl (.pair (.int .i64) (.pair (.int .i64) (.pair (.int .i64) (.pair (.int .i64) (.pair (.int .i64) (.int .i64))))))) }),
  (24, { desc := .arr 2 3, size := 2, bytes := 16, zero := [.int .i64 0, .int .i64 0], dt := some (.pair (.int .i64) (.int .i64)) }),
  (27, { desc := .other, size := 1, bytes := 8, zero := [.nilFunc], dt := none }),
  (28, { desc := .int .i64, size := 1, bytes := 8, zero := [.int .i64 0], dt := some (.int .i64) }),
  (33, { desc := .sl 3, size := 1, bytes := 24, zero := [.slice none 0 0], dt := some (.sl (.int .i64)) }),
  (55, { desc := .struct [(0, 3, 1), (1, 3, 1), (2, 3, 1), (3, 3, 1), (4, 3, 1), (5, 3, 1)], size := 6, bytes := 48, zero := [.int .i64 0, .int .i64 0, .int .i64 0, .int .i64 0, .int .i64 0, .int .i64 0], dt := some (.pair (.int .i64) (.pair (.int .i64) (.pair (.int .i64) (.pair (.int .i64) (.pair (.int .i64) (.int .i64)))))) }),
  (56, { desc := .arr 2 5, size := 2, bytes := 2, zero := [.int .u8 0, .int .u8 0], dt := some (.pair (.int .u8) (.int .u8)) }),
  (58, { desc := .arr 3 5, size := 3, bytes := 3, zero := [.int .u8 0, .int .u8 0, .int .u8 0], dt := some (.pair (.int .u8) (.pair (.int .u8) (.int .u8))) }),
  (60, { desc := .arr 4 5, size := 4, bytes := 4, zero := [.int .u8 0, .int .u8 0, .int .u8 0, .int .u8 0], dt := some (.pair (.int .u8) (.pair (.int .u8) (.pair (.int .u8) (.int .u8)))) }),
  (62, { desc := .sl 33, size := 1, bytes := 24, zero := [.slice none 0 0], dt := some (.sl (.sl (.int .i64))) }),
  (64, { desc := .struct [(0, 3, 1), (1, 3, 1), (2, 62, 1), (3, 62, 1)], size := 4, bytes := 64, zero := [.int .i64 0, .int .i64 0, .slice none 0 0, .slice none 0 0], dt := some (.pair (.int .i64) (.pair (.int .i64) (.pair (.sl (.sl (.int .i64))) (.sl (.sl (.int .i64)))))) }),
  (69, { desc := .other, size := 1, bytes := 8, zero := [.nilFunc], dt := none }),
  (71, { desc := .other, size := 1, bytes := 8, zero := [.nilFunc], dt := none }),
  (74, { desc := .other, size := 1, bytes := 8, zero := [.map none], dt := none }),
  (76, { desc := .struct [(0, 22, 1), (1, 23, 1), (2, 69, 1), (3, 74, 1)], size := 4, bytes := 64, zero := [.slice none 0 0, .slice none 0 0, .nilFunc, .map none], dt := none }),
  (80, { desc := .other, size := 1, bytes := 8, zero := [.nilFunc], dt := none }),
  (83, { desc := .other, size := 1, bytes := 8, zero := [.pointer none], dt := none }),
  (85, { desc := .struct [(0, 22, 1), (1, 23, 1), (2, 4, 1), (3, 3, 1), (4, 33, 1)], size := 5, bytes := 88, zero := [.slice none 0 0, .slice none 0 0, .bool false, .int .i64 0, .slice none 0 0], dt := some (.pair (.sl (.pair (.int .i64) (.pair (.int .i64) (.pair (.sl (.sl (.int .i64))) (.sl (.sl (.int .i64))))))) (.pair (.sl (.pair (.int .i64) (.pair (.int .i64) (.pair (.int .i64) (.pair (.int .i64) (.pair (.int .i64) (.int .i64))))))) (.pair (.bool) (.pair (.int .i64) (.sl (.int .i64)))))) }),
  (87, { desc := .arr 2 4, size := 2, bytes := 2, zero := [.bool false, .bool false], dt := some (.pair (.bool) (.bool)) }),
  (90, { desc := .other, size := 1, bytes := 8, zero := [.nilFunc], dt := none }),
  (92, { desc := .arr 2 3, size := 2, bytes := 16, zero := [.int .i64 0, .int .i64 0], dt := some (.pair (.int .i64) (.int .i64)) }),
  (93, { desc := .int .u64, size := 1, bytes := 8, zero := [.int .u64 0], dt := some (.int .u64) }),
  (95, { desc := .struct [(0, 92, 2), (2, 93, 1)], size := 3, bytes := 24, zero := [.int .i64 0, .int .i64 0, .int .u64 0], dt := some (.pair (.pair (.int .i64) (.int .i64)) (.int .u64)) }),
  (97, { desc := .other, size := 1, bytes := 8, zero := [.nilFunc], dt := none }),
  (100, { desc := .other, size := 1, bytes := 8, zero := [.nilFunc], dt := none }),
  (106, { desc := .sl 4, size := 1, bytes := 24, zero := [.slice none 0 0], dt := some (.sl .bool) }),
  (110, { desc := .other, size := 1, bytes := 8, zero := [.nilFunc], dt := none }),
  (114, { desc := .other, size := 1, bytes := 8, zero := [.pointer none], dt := none }),
  (115, { desc := .struct [(0, 3, 1), (1, 3, 1), (2, 62, 1), (3, 62, 1)], size := 4, bytes := 64, zero := [.int .i64 0, .int .i64 0, .slice none 0 0, .slice none 0 0], dt := some (.pair (.int .i64) (.pair (.int .i64) (.pair (.sl (.sl (.int .i64))) (.sl (.sl (.int .i64)))))) }),
  (117, { desc := .other, size := 1, bytes := 8, zero := [.nilFunc], dt := none }),
  (119, { desc := .other, size := 1, bytes := 8, zero := [.nilFunc], dt := none })]

def tyTab : Tab := tabOf tabL

theorem tab_ok : TabOK Try.prog tyTab := tabOf_ok tabL (by kernel_rfl)
theorem ops_nil (a : Array Operand) : ((#[] : Array Operand) ++ a).toList = a.toList := by simp
theorem ops_one (f : Operand) (a : Array Operand) : (#[f] ++ a).toList = f :: a.toList := by simp
attribute [go_sem high] ops_nil ops_one
theorem mixed_ok : Try.prog.follows .mixedOrders = true := by kernel_rfl
theorem tb_types : ∃ m, Try.prog.types.size = m + 1 := ⟨Try.prog.types.size - 1, by kernel_rfl⟩
theorem eqty_55 : EqTy Try.prog 55 (.pair (.int .i64) (.pair (.int .i64) (.pair (.int .i64) (.pair (.int .i64) (.pair (.int .i64) (.int .i64)))))) := eqty_deep 5 (by decide) (by kernel_rfl) (by kernel_rfl) (by kernel_rfl) (by kernel_rfl) (by kernel_rfl) (by kernel_rfl) (by kernel_rfl) rfl
theorem mapty_74 : MapTy Try.prog 74 95 3 true false (.pair (.pair (.int .i64) (.int .i64)) (.int .u64)) (.int .i64) := mapty_deep (m := 5) (by kernel_rfl) (by decide) (by kernel_rfl) (by kernel_rfl) (by kernel_rfl) (by kernel_rfl) (by kernel_rfl) (by kernel_rfl) (fun _ => by kernel_rfl) rfl rfl (.inr rfl)
theorem tab_3 : tyTab 3 = some { desc := .int .i64, size := 1, bytes := 8, zero := [.int .i64 0], dt := some (.int .i64) } := rfl
theorem tab_4 : tyTab 4 = some { desc := .bool, size := 1, bytes := 1, zero := [.bool false], dt := some (.bool) } := rfl
theorem tab_5 : tyTab 5 = some { desc := .int .u8, size := 1, bytes := 1, zero := [.int .u8 0], dt := some (.int .u8) } := rfl
theorem tab_22 : tyTab 22 = some { desc := .sl 64, size := 1, bytes := 24, zero := [.slice none 0 0], dt := some (.sl (.pair (.int .i64) (.pair (.int .i64) (.pair (.sl (.sl (.int .i64))) (.sl (.sl (.int .i64))))))) } := rfl
theorem tab_23 : tyTab 23 = some { desc := .sl 55, size := 1, bytes := 24, zero := [.slice none 0 0], dt := some (.sl (.pair (.int .i64) (.pair (.int .i64) (.pair (.int .i64) (.pair (.int .i64) (.pair (.int .i64) (.int .i64))))))) } := rfl
theorem tab_24 : tyTab 24 = some { desc := .arr 2 3, size := 2, bytes := 16, zero := [.int .i64 0, .int .i64 0], dt := some (.pair (.int .i64) (.int .i64)) } := rfl
theorem tab_27 : tyTab 27 = some { desc := .other, size := 1, bytes := 8, zero := [.nilFunc], dt := none } := rfl
theorem tab_28 : tyTab 28 = some { desc := .int .i64, size := 1, bytes := 8, zero := [.int .i64 0], dt := some (.int .i64) } := rfl
theorem tab_33 : tyTab 33 = some { desc := .sl 3, size := 1, bytes := 24, zero := [.slice none 0 0], dt := some (.sl (.int .i64)) } := rfl
theorem tab_55 : tyTab 55 = some { desc := .struct [(0, 3, 1), (1, 3, 1), (2, 3, 1), (3, 3, 1), (4, 3, 1), (5, 3, 1)], size := 6, bytes := 48, zero := [.int .i64 0, .int .i64 0, .int .i64 0, .int .i64 0, .int .i64 0, .int .i64 0], dt := some (.pair (.int .i64) (.pair (.int .i64) (.pair (.int .i64) (.pair (.int .i64) (.pair (.int .i64) (.int .i64)))))) } := rfl
theorem tab_56 : tyTab 56 = some { desc := .arr 2 5, size := 2, bytes := 2, zero := [.int .u8 0, .int .u8 0], dt := some (.pair (.int .u8) (.int .u8)) } := rfl
theorem tab_58 : tyTab 58 = some { desc := .arr 3 5, size := 3, bytes := 3, zero := [.int .u8 0, .int .u8 0, .int .u8 0], dt := some (.pair (.int .u8) (.pair (.int .u8) (.int .u8))) } := rfl
theorem tab_60 : tyTab 60 = some { desc := .arr 4 5, size := 4, bytes := 4, zero := [.int .u8 0, .int .u8 0, .int .u8 0, .int .u8 0], dt := some (.pair (.int .u8) (.pair (.int .u8) (.pair (.int .u8) (.int .u8)))) } := rfl
theorem tab_62 : tyTab 62 = some { desc := .sl 33, size := 1, bytes := 24, zero := [.slice none 0 0], dt := some (.sl (.sl (.int .i64))) } := rfl
theorem tab_64 : tyTab 64 = some { desc := .struct [(0, 3, 1), (1, 3, 1), (2, 62, 1), (3, 62, 1)], size := 4, bytes := 64, zero := [.int .i64 0, .int .i64 0, .slice none 0 0, .slice none 0 0], dt := some (.pair (.int .i64) (.pair (.int .i64) (.pair (.sl (.sl (.int .i64))) (.sl (.sl (.int .i64)))))) } := rfl
theorem tab_69 : tyTab 69 = some { desc := .other, size := 1, bytes := 8, zero := [.nilFunc], dt := none } := rfl
theorem tab_71 : tyTab 71 = some { desc := .other, size := 1, bytes := 8, zero := [.nilFunc], dt := none } := rfl
theorem tab_74 : tyTab 74 = some { desc := .other, size := 1, bytes := 8, zero := [.map none], dt := none } := rfl
theorem tab_76 : tyTab 76 = some { desc := .struct [(0, 22, 1), (1, 23, 1), (2, 69, 1), (3, 74, 1)], size := 4, bytes := 64, zero := [.slice none 0 0, .slice none 0 0, .nilFunc, .map none], dt := none } := rfl
theorem tab_80 : tyTab 80 = some { desc := .other, size := 1, bytes := 8, zero := [.nilFunc], dt := none } := rfl
theorem tab_83 : tyTab 83 = some { desc := .other, size := 1, bytes := 8, zero := [.pointer none], dt := none } := rfl
theorem tab_85 : tyTab 85 = some { desc := .struct [(0, 22, 1), (1, 23, 1), (2, 4, 1), (3, 3, 1), (4, 33, 1)], size := 5, bytes := 88, zero := [.slice none 0 0, .slice none 0 0, .bool false, .int .i64 0, .slice none 0 0], dt := some (.pair (.sl (.pair (.int .i64) (.pair (.int .i64) (.pair (.sl (.sl (.int .i64))) (.sl (.sl (.int .i64))))))) (.pair (.sl (.pair (.int .i64) (.pair (.int .i64) (.pair (.int .i64) (.pair (.int .i64) (.pair (.int .i64) (.int .i64))))))) (.pair (.bool) (.pair (.int .i64) (.sl (.int .i64)))))) } := rfl
theorem tab_87 : tyTab 87 = some { desc := .arr 2 4, size := 2, bytes := 2, zero := [.bool false, .bool false], dt := some (.pair (.bool) (.bool)) } := rfl
theorem tab_90 : tyTab 90 = some { desc := .other, size := 1, bytes := 8, zero := [.nilFunc], dt := none } := rfl
theorem tab_92 : tyTab 92 = some { desc := .arr 2 3, size := 2, bytes := 16, zero := [.int .i64 0, .int .i64 0], dt := some (.pair (.int .i64) (.int .i64)) } := rfl
theorem tab_93 : tyTab 93 = some { desc := .int .u64, size := 1, bytes := 8, zero := [.int .u64 0], dt := some (.int .u64) } := rfl
theorem tab_95 : tyTab 95 = some { desc := .struct [(0, 92, 2), (2, 93, 1)], size := 3, bytes := 24, zero := [.int .i64 0, .int .i64 0, .int .u64 0], dt := some (.pair (.pair (.int .i64) (.int .i64)) (.int .u64)) } := rfl
theorem tab_97 : tyTab 97 = some { desc := .other, size := 1, bytes := 8, zero := [.nilFunc], dt := none } := rfl
theorem tab_100 : tyTab 100 = some { desc := .other, size := 1, bytes := 8, zero := [.nilFunc], dt := none } := rfl
theorem tab_106 : tyTab 106 = some { desc := .sl 4, size := 1, bytes := 24, zero := [.slice none 0 0], dt := some (.sl .bool) } := rfl
theorem tab_110 : tyTab 110 = some { desc := .other, size := 1, bytes := 8, zero := [.nilFunc], dt := none } := rfl
theorem tab_114 : tyTab 114 = some { desc := .other, size := 1, bytes := 8, zero := [.pointer none], dt := none } := rfl
theorem tab_115 : tyTab 115 = some { desc := .struct [(0, 3, 1), (1, 3, 1), (2, 62, 1), (3, 62, 1)], size := 4, bytes := 64, zero := [.int .i64 0, .int .i64 0, .slice none 0 0, .slice none 0 0], dt := some (.pair (.int .i64) (.pair (.int .i64) (.pair (.sl (.sl (.int .i64))) (.sl (.sl (.int .i64)))))) } := rfl
theorem tab_117 : tyTab 117 = some { desc := .other, size := 1, bytes := 8, zero := [.nilFunc], dt := none } := rfl
theorem tab_119 : tyTab 119 = some { desc := .other, size := 1, bytes := 8, zero := [.nilFunc], dt := none } := rfl
attribute [go_sem] tab_3 tab_4 tab_5 tab_22 tab_23 tab_24 tab_27 tab_28 tab_33 tab_55 tab_56 tab_58 tab_60 tab_62 tab_64 tab_69 tab_71 tab_74 tab_76 tab_80 tab_83 tab_85 tab_87 tab_90 tab_92 tab_93 tab_95 tab_97 tab_100 tab_106 tab_110 tab_114 tab_115 tab_117 tab_119

end Go.Proofs.Ytlfpagicagmjgaa
