/-
  The table of the types that the texts of this seat speak of: it is the program's.
-/
import Derived.Test.YtifleoceebaooaaTyr
import Derived.Test.YtifleoceebaooaaProg
import Derived.KernelRfl
namespace Go.Proofs.Ytifleoceebaooaa

def tabL : List (TypeId × TInfo) := [
  (3, { desc := .int .i64, size := 1, bytes := 8, zero := [.int .i64 0], dt := some (.int .i64) }),
  (4, { desc := .bool, size := 1, bytes := 1, zero := [.bool false], dt := some (.bool) }),
  (5, { desc := .int .u8, size := 1, bytes := 1, zero := [.int .u8 0], dt := some (.int .u8) }),
  (22, { desc := .sl 66, size := 1, bytes := 24, zero := [.slice none 0 0], dt := some (.sl (.pair (.int .i64) (.pair (.int .i64) (.int .i64)))) }),
  (24, { desc := .struct [(0, 3, 1), (1, 22, 1)], size := 2, bytes := 32, zero := [.int .i64 0, .slice none 0 0], dt := some (.pair (.int .i64) (.sl (.pair (.int .i64) (.pair (.int .i64) (.int .i64))))) }),
  (27, { desc := .sl 3, size := 1, bytes := 24, zero := [.slice none 0 0], dt := some (.sl (.int .i64)) }),
  (28, { desc := .int .i64, size := 1, bytes := 8, zero := [.int .i64 0], dt := some (.int .i64) }),
  (36, { desc := .sl 27, size := 1, bytes := 24, zero := [.slice none 0 0], dt := some (.sl (.sl (.int .i64))) }),
  (41, { desc := .sl 58, size := 1, bytes := 24, zero := [.slice none 0 0], dt := some (.sl (.pair (.int .i64) (.int .i64))) }),
  (58, { desc := .arr 2 3, size := 2, bytes := 16, zero := [.int .i64 0, .int .i64 0], dt := some (.pair (.int .i64) (.int .i64)) }),
  (63, { desc := .arr 3 24, size := 6, bytes := 96, zero := [.int .i64 0, .slice none 0 0, .int .i64 0, .slice none 0 0, .int .i64 0, .slice none 0 0], dt := none }),
  (66, { desc := .struct [(0, 3, 1), (1, 3, 1), (2, 3, 1)], size := 3, bytes := 24, zero := [.int .i64 0, .int .i64 0, .int .i64 0], dt := some (.pair (.int .i64) (.pair (.int .i64) (.int .i64))) }),
  (67, { desc := .int .u8, size := 1, bytes := 1, zero := [.int .u8 0], dt := some (.int .u8) }),
  (68, { desc := .arr 4 67, size := 4, bytes := 4, zero := [.int .u8 0, .int .u8 0, .int .u8 0, .int .u8 0], dt := some (.pair (.int .u8) (.pair (.int .u8) (.pair (.int .u8) (.int .u8)))) }),
  (69, { desc := .arr 6 68, size := 24, bytes := 24, zero := Z69, dt := some (T69) }),
  (71, { desc := .struct [(0, 24, 2), (2, 69, 24)], size := 26, bytes := 56, zero := ([.int .i64 0, .slice none 0 0] ++ (Z69)), dt := some (.pair (.pair (.int .i64) (.sl (.pair (.int .i64) (.pair (.int .i64) (.int .i64))))) (T69)) }),
  (75, { desc := .other, size := 1, bytes := 8, zero := [.nilFunc], dt := none }),
  (90, { desc := .struct [(0, 71, 26), (26, 71, 26)], size := 52, bytes := 112, zero := ([.int .i64 0, .slice none 0 0] ++ (Z69 ++ ([.int .i64 0, .slice none 0 0] ++ (Z69)))), dt := some (.pair (.pair (.pair (.int .i64) (.sl (.pair (.int .i64) (.pair (.int .i64) (.int .i64))))) (T69)) (.pair (.pair (.int .i64) (.sl (.pair (.int .i64) (.pair (.int .i64) (.int .i64))))) (T69))) }),
  (94, { desc := .arr 6 67, size := 6, bytes := 6, zero := Z94, dt := some (T94) }),
  (107, { desc := .arr 64 4, size := 64, bytes := 64, zero := Z107, dt := some (T107) }),
  (108, { desc := .arr 64 107, size := 4096, bytes := 4096, zero := Z108, dt := some (T108) }),
  (118, { desc := .sl 24, size := 1, bytes := 24, zero := [.slice none 0 0], dt := some (.sl (.pair (.int .i64) (.sl (.pair (.int .i64) (.pair (.int .i64) (.int .i64)))))) }),
  (122, { desc := .other, size := 1, bytes := 8, zero := [.nilFunc], dt := none }),
  (125, { desc := .other, size := 1, bytes := 8, zero := [.nilFunc], dt := none }),
  (127, { desc := .other, size := 1, bytes := 8, zero := [.nilFunc], dt := none }),
  (132, { desc := .arr 2 67, size := 2, bytes := 2, zero := [.int .u8 0, .int .u8 0], dt := some (.pair (.int .u8) (.int .u8)) }),
  (133, { desc := .sl 132, size := 1, bytes := 24, zero := [.slice none 0 0], dt := some (.sl (.pair (.int .u8) (.int .u8))) }),
  (135, { desc := .sl 67, size := 1, bytes := 24, zero := [.slice none 0 0], dt := some (.sl (.int .u8)) }),
  (138, { desc := .sl 22, size := 1, bytes := 24, zero := [.slice none 0 0], dt := some (.sl (.sl (.pair (.int .i64) (.pair (.int .i64) (.int .i64))))) }),
  (142, { desc := .other, size := 1, bytes := 8, zero := [.nilFunc], dt := none }),
  (144, { desc := .other, size := 1, bytes := 8, zero := [.nilFunc], dt := none }),
  (151, { desc := .int .u64, size := 1, bytes := 8, zero := [.int .u64 0], dt := some (.int .u64) }),
  (154, { desc := .int .i64, size := 1, bytes := 8, zero := [.int .i64 0], dt := some (.int .i64) }),
  (164, { desc := .int .u64, size := 1, bytes := 8, zero := [.int .u64 0], dt := some (.int .u64) }),
  (165, { desc := .int .u64, size := 1, bytes := 8, zero := [.int .u64 0], dt := some (.int .u64) }),
  (169, { desc := .other, size := 1, bytes := 8, zero := [.pointer none], dt := none }),
  (171, { desc := .other, size := 1, bytes := 8, zero := [.pointer none], dt := none })]

def tyTab : Tab := tabOf tabL

theorem tab_ok : TabOK Try.prog tyTab := tabOf_ok tabL (by kernel_rfl)
theorem ops_nil (a : Array Operand) : ((#[] : Array Operand) ++ a).toList = a.toList := by simp
theorem ops_one (f : Operand) (a : Array Operand) : (#[f] ++ a).toList = f :: a.toList := by simp
attribute [go_sem high] ops_nil ops_one
theorem mixed_ok : Try.prog.follows .mixedOrders = true := by kernel_rfl
theorem tb_types : ∃ m, Try.prog.types.size = m + 1 := ⟨Try.prog.types.size - 1, by kernel_rfl⟩
theorem eqty_58 : EqTy Try.prog 58 (.pair (.int .i64) (.int .i64)) := eqty_arr (N := 2) (q := .i64) (el := 3) rfl ⟨by kernel_rfl, by kernel_rfl, by kernel_rfl, by kernel_rfl⟩ (by kernel_rfl) tb_types (by kernel_rfl) rfl
theorem eqty_66 : EqTy Try.prog 66 (.pair (.int .i64) (.pair (.int .i64) (.int .i64))) := eqty_deep 5 (by decide) (by kernel_rfl) (by kernel_rfl) (by kernel_rfl) (by kernel_rfl) (by kernel_rfl) (by kernel_rfl) (by kernel_rfl) rfl
theorem eqty_94 : EqTy Try.prog 94 (T94) := eqty_arr (N := 6) (q := .u8) (el := 67) rfl ⟨by kernel_rfl, by kernel_rfl, by kernel_rfl, by kernel_rfl⟩ (by kernel_rfl) tb_types (by kernel_rfl) rfl
theorem mapty_134 : MapTy Try.prog 134 132 4 true false (.pair (.int .u8) (.int .u8)) (.bool) := mapty_pair (by kernel_rfl) ⟨by kernel_rfl, by kernel_rfl, by kernel_rfl, by kernel_rfl⟩ (el := 67) (by kernel_rfl) tb_types (fun _ => by kernel_rfl) rfl (.inr rfl)
theorem tab_3 : tyTab 3 = some { desc := .int .i64, size := 1, bytes := 8, zero := [.int .i64 0], dt := some (.int .i64) } := rfl
theorem tab_4 : tyTab 4 = some { desc := .bool, size := 1, bytes := 1, zero := [.bool false], dt := some (.bool) } := rfl
theorem tab_5 : tyTab 5 = some { desc := .int .u8, size := 1, bytes := 1, zero := [.int .u8 0], dt := some (.int .u8) } := rfl
theorem tab_22 : tyTab 22 = some { desc := .sl 66, size := 1, bytes := 24, zero := [.slice none 0 0], dt := some (.sl (.pair (.int .i64) (.pair (.int .i64) (.int .i64)))) } := rfl
theorem tab_24 : tyTab 24 = some { desc := .struct [(0, 3, 1), (1, 22, 1)], size := 2, bytes := 32, zero := [.int .i64 0, .slice none 0 0], dt := some (.pair (.int .i64) (.sl (.pair (.int .i64) (.pair (.int .i64) (.int .i64))))) } := rfl
theorem tab_27 : tyTab 27 = some { desc := .sl 3, size := 1, bytes := 24, zero := [.slice none 0 0], dt := some (.sl (.int .i64)) } := rfl
theorem tab_28 : tyTab 28 = some { desc := .int .i64, size := 1, bytes := 8, zero := [.int .i64 0], dt := some (.int .i64) } := rfl
theorem tab_36 : tyTab 36 = some { desc := .sl 27, size := 1, bytes := 24, zero := [.slice none 0 0], dt := some (.sl (.sl (.int .i64))) } := rfl
theorem tab_41 : tyTab 41 = some { desc := .sl 58, size := 1, bytes := 24, zero := [.slice none 0 0], dt := some (.sl (.pair (.int .i64) (.int .i64))) } := rfl
theorem tab_58 : tyTab 58 = some { desc := .arr 2 3, size := 2, bytes := 16, zero := [.int .i64 0, .int .i64 0], dt := some (.pair (.int .i64) (.int .i64)) } := rfl
theorem tab_63 : tyTab 63 = some { desc := .arr 3 24, size := 6, bytes := 96, zero := [.int .i64 0, .slice none 0 0, .int .i64 0, .slice none 0 0, .int .i64 0, .slice none 0 0], dt := none } := rfl
theorem tab_66 : tyTab 66 = some { desc := .struct [(0, 3, 1), (1, 3, 1), (2, 3, 1)], size := 3, bytes := 24, zero := [.int .i64 0, .int .i64 0, .int .i64 0], dt := some (.pair (.int .i64) (.pair (.int .i64) (.int .i64))) } := rfl
theorem tab_67 : tyTab 67 = some { desc := .int .u8, size := 1, bytes := 1, zero := [.int .u8 0], dt := some (.int .u8) } := rfl
theorem tab_68 : tyTab 68 = some { desc := .arr 4 67, size := 4, bytes := 4, zero := [.int .u8 0, .int .u8 0, .int .u8 0, .int .u8 0], dt := some (.pair (.int .u8) (.pair (.int .u8) (.pair (.int .u8) (.int .u8)))) } := rfl
theorem tab_69 : tyTab 69 = some { desc := .arr 6 68, size := 24, bytes := 24, zero := Z69, dt := some (T69) } := rfl
theorem tab_71 : tyTab 71 = some { desc := .struct [(0, 24, 2), (2, 69, 24)], size := 26, bytes := 56, zero := ([.int .i64 0, .slice none 0 0] ++ (Z69)), dt := some (.pair (.pair (.int .i64) (.sl (.pair (.int .i64) (.pair (.int .i64) (.int .i64))))) (T69)) } := rfl
theorem tab_75 : tyTab 75 = some { desc := .other, size := 1, bytes := 8, zero := [.nilFunc], dt := none } := rfl
theorem tab_90 : tyTab 90 = some { desc := .struct [(0, 71, 26), (26, 71, 26)], size := 52, bytes := 112, zero := ([.int .i64 0, .slice none 0 0] ++ (Z69 ++ ([.int .i64 0, .slice none 0 0] ++ (Z69)))), dt := some (.pair (.pair (.pair (.int .i64) (.sl (.pair (.int .i64) (.pair (.int .i64) (.int .i64))))) (T69)) (.pair (.pair (.int .i64) (.sl (.pair (.int .i64) (.pair (.int .i64) (.int .i64))))) (T69))) } := rfl
theorem tab_94 : tyTab 94 = some { desc := .arr 6 67, size := 6, bytes := 6, zero := Z94, dt := some (T94) } := rfl
theorem tab_107 : tyTab 107 = some { desc := .arr 64 4, size := 64, bytes := 64, zero := Z107, dt := some (T107) } := rfl
theorem tab_108 : tyTab 108 = some { desc := .arr 64 107, size := 4096, bytes := 4096, zero := Z108, dt := some (T108) } := rfl
theorem tab_118 : tyTab 118 = some { desc := .sl 24, size := 1, bytes := 24, zero := [.slice none 0 0], dt := some (.sl (.pair (.int .i64) (.sl (.pair (.int .i64) (.pair (.int .i64) (.int .i64)))))) } := rfl
theorem tab_122 : tyTab 122 = some { desc := .other, size := 1, bytes := 8, zero := [.nilFunc], dt := none } := rfl
theorem tab_125 : tyTab 125 = some { desc := .other, size := 1, bytes := 8, zero := [.nilFunc], dt := none } := rfl
theorem tab_127 : tyTab 127 = some { desc := .other, size := 1, bytes := 8, zero := [.nilFunc], dt := none } := rfl
theorem tab_132 : tyTab 132 = some { desc := .arr 2 67, size := 2, bytes := 2, zero := [.int .u8 0, .int .u8 0], dt := some (.pair (.int .u8) (.int .u8)) } := rfl
theorem tab_133 : tyTab 133 = some { desc := .sl 132, size := 1, bytes := 24, zero := [.slice none 0 0], dt := some (.sl (.pair (.int .u8) (.int .u8))) } := rfl
theorem tab_135 : tyTab 135 = some { desc := .sl 67, size := 1, bytes := 24, zero := [.slice none 0 0], dt := some (.sl (.int .u8)) } := rfl
theorem tab_138 : tyTab 138 = some { desc := .sl 22, size := 1, bytes := 24, zero := [.slice none 0 0], dt := some (.sl (.sl (.pair (.int .i64) (.pair (.int .i64) (.int .i64))))) } := rfl
theorem tab_142 : tyTab 142 = some { desc := .other, size := 1, bytes := 8, zero := [.nilFunc], dt := none } := rfl
theorem tab_144 : tyTab 144 = some { desc := .other, size := 1, bytes := 8, zero := [.nilFunc], dt := none } := rfl
theorem tab_151 : tyTab 151 = some { desc := .int .u64, size := 1, bytes := 8, zero := [.int .u64 0], dt := some (.int .u64) } := rfl
theorem tab_154 : tyTab 154 = some { desc := .int .i64, size := 1, bytes := 8, zero := [.int .i64 0], dt := some (.int .i64) } := rfl
theorem tab_164 : tyTab 164 = some { desc := .int .u64, size := 1, bytes := 8, zero := [.int .u64 0], dt := some (.int .u64) } := rfl
theorem tab_165 : tyTab 165 = some { desc := .int .u64, size := 1, bytes := 8, zero := [.int .u64 0], dt := some (.int .u64) } := rfl
theorem tab_169 : tyTab 169 = some { desc := .other, size := 1, bytes := 8, zero := [.pointer none], dt := none } := rfl
theorem tab_171 : tyTab 171 = some { desc := .other, size := 1, bytes := 8, zero := [.pointer none], dt := none } := rfl
attribute [go_sem] tab_3 tab_4 tab_5 tab_22 tab_24 tab_27 tab_28 tab_36 tab_41 tab_58 tab_63 tab_66 tab_67 tab_68 tab_69 tab_71 tab_75 tab_90 tab_94 tab_107 tab_108 tab_118 tab_122 tab_125 tab_127 tab_132 tab_133 tab_135 tab_138 tab_142 tab_144 tab_151 tab_154 tab_164 tab_165 tab_169 tab_171

end Go.Proofs.Ytifleoceebaooaa
