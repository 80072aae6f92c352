import Derived.Test.YtdicomoggfhbfaaAvr
import Derived.Test.YtdicomoggfhbfaaProg
import Derived.KernelRfl
namespace Go.Proofs.Ytdicomoggfhbfaa
def tabL:List (TypeId×TInfo):=[
  (3,{ desc:=.int .i64,size:=1,bytes:=8,zero:=[.int .i64 0],dt:=some (.int .i64) }),
  (4,{ desc:=.bool,size:=1,bytes:=1,zero:=[.bool false],dt:=some (.bool) }),
  (5,{ desc:=.int .u8,size:=1,bytes:=1,zero:=[.int .u8 0],dt:=some (.int .u8) }),
  (22,{ desc:=.sl 68,size:=1,bytes:=24,zero:=[.slice none 0 0],dt:=some (.sl (.sl (.pair (.int .i64) (.bool)))) }),
  (25,{ desc:=.int .i64,size:=1,bytes:=8,zero:=[.int .i64 0],dt:=some (.int .i64) }),
  (30,{ desc:=.sl 35,size:=1,bytes:=24,zero:=[.slice none 0 0],dt:=some (.sl (.pair (.int .i64) (.pair (.int .i64) (.int .i64)))) }),
  (35,{ desc:=.arr 3 3,size:=3,bytes:=24,zero:=[.int .i64 0,.int .i64 0,.int .i64 0],dt:=some (.pair (.int .i64) (.pair (.int .i64) (.int .i64))) }),
  (41,{ desc:=.sl 48,size:=1,bytes:=24,zero:=[.slice none 0 0],dt:=some (.sl (.sl (.int .i64))) }),
  (42,{ desc:=.sl 110,size:=1,bytes:=24,zero:=[.slice none 0 0],dt:=some (.sl (.pair (.int .i64) (.int .i64))) }),
  (48,{ desc:=.sl 3,size:=1,bytes:=24,zero:=[.slice none 0 0],dt:=some (.sl (.int .i64)) }),
  (57,{ desc:=.sl 117,size:=1,bytes:=24,zero:=[.slice none 0 0],dt:=some (.sl (.sl (.pair (.int .i64) (.pair (.int .i64) (.int .i64))))) }),
  (68,{ desc:=.sl 76,size:=1,bytes:=24,zero:=[.slice none 0 0],dt:=some (.sl (.pair (.int .i64) (.bool))) }),
  (76,{ desc:=.struct [(0,3,1),(1,4,1)],size:=2,bytes:=16,zero:=[.int .i64 0,.bool false],dt:=some (.pair (.int .i64) (.bool)) }),
  (77,{ desc:=.sl 68,size:=1,bytes:=24,zero:=[.slice none 0 0],dt:=some (.sl (.sl (.pair (.int .i64) (.bool)))) }),
  (83,{ desc:=.other,size:=1,bytes:=8,zero:=[.nilFunc],dt:=none }),
  (87,{ desc:=.other,size:=1,bytes:=8,zero:=[.nilFunc],dt:=none }),
  (89,{ desc:=.sl 30,size:=1,bytes:=24,zero:=[.slice none 0 0],dt:=some (.sl (.sl (.pair (.int .i64) (.pair (.int .i64) (.int .i64))))) }),
  (91,{ desc:=.other,size:=1,bytes:=8,zero:=[.nilFunc],dt:=none }),
  (93,{ desc:=.other,size:=1,bytes:=8,zero:=[.map none],dt:=none }),
  (103,{ desc:=.struct [(0,77,1),(1,30,1),(2,41,1)],size:=3,bytes:=72,zero:=[.slice none 0 0,.slice none 0 0,.slice none 0 0],dt:=some (.pair (.sl (.sl (.pair (.int .i64) (.bool)))) (.pair (.sl (.pair (.int .i64) (.pair (.int .i64) (.int .i64)))) (.sl (.sl (.int .i64))))) }),
  (110,{ desc:=.arr 2 3,size:=2,bytes:=16,zero:=[.int .i64 0,.int .i64 0],dt:=some (.pair (.int .i64) (.int .i64)) }),
  (117,{ desc:=.sl 119,size:=1,bytes:=24,zero:=[.slice none 0 0],dt:=some (.sl (.pair (.int .i64) (.pair (.int .i64) (.int .i64)))) }),
  (119,{ desc:=.struct [(0,3,1),(1,3,1),(2,3,1)],size:=3,bytes:=24,zero:=[.int .i64 0,.int .i64 0,.int .i64 0],dt:=some (.pair (.int .i64) (.pair (.int .i64) (.int .i64))) }),
  (122,{ desc:=.other,size:=1,bytes:=8,zero:=[.nilFunc],dt:=none }),
  (125,{ desc:=.other,size:=1,bytes:=8,zero:=[.nilFunc],dt:=none }),
  (128,{ desc:=.other,size:=1,bytes:=8,zero:=[.nilFunc],dt:=none }),
  (131,{ desc:=.other,size:=1,bytes:=8,zero:=[.nilFunc],dt:=none }),
  (133,{ desc:=.sl 42,size:=1,bytes:=24,zero:=[.slice none 0 0],dt:=some (.sl (.sl (.pair (.int .i64) (.int .i64)))) }),
  (138,{ desc:=.other,size:=1,bytes:=8,zero:=[.nilFunc],dt:=none })]
def tyTab:Tab:=tabOf tabL
theorem tab_ok:TabOK Try.prog tyTab:=tabOf_ok tabL (by kernel_rfl)
theorem ops_nil (a:Array Operand):((#[]:Array Operand)++a).toList=a.toList:=by simp
theorem ops_one (f:Operand) (a:Array Operand):(#[f]++a).toList=f::a.toList:=by simp
attribute [go_sem high] ops_nil ops_one
theorem mixed_ok:Try.prog.follows .mixedOrders=true:=by kernel_rfl
theorem tb_types:∃ m,Try.prog.types.size=m+1:=⟨Try.prog.types.size - 1,by kernel_rfl⟩
theorem eqty_35:EqTy Try.prog 35 (.pair (.int .i64) (.pair (.int .i64) (.int .i64))):=eqty_arr (N:=3) (q:=.i64) (el:=3) rfl ⟨by kernel_rfl,by kernel_rfl,by kernel_rfl,by kernel_rfl⟩ (by kernel_rfl) tb_types (by kernel_rfl) rfl
theorem eqty_110:EqTy Try.prog 110 (.pair (.int .i64) (.int .i64)):=eqty_arr (N:=2) (q:=.i64) (el:=3) rfl ⟨by kernel_rfl,by kernel_rfl,by kernel_rfl,by kernel_rfl⟩ (by kernel_rfl) tb_types (by kernel_rfl) rfl
theorem mapty_93:MapTy Try.prog 93 35 30 true false (.pair (.int .i64) (.pair (.int .i64) (.int .i64))) (.sl (.pair (.int .i64) (.pair (.int .i64) (.int .i64)))):=mapty_deepS (m:=5) (by kernel_rfl) (by decide) (by kernel_rfl) (by kernel_rfl) (by kernel_rfl) (by kernel_rfl) (by kernel_rfl) (by kernel_rfl) (fun _=>by kernel_rfl) rfl
theorem tab_3:tyTab 3=some { desc:=.int .i64,size:=1,bytes:=8,zero:=[.int .i64 0],dt:=some (.int .i64) }:=rfl
theorem tab_4:tyTab 4=some { desc:=.bool,size:=1,bytes:=1,zero:=[.bool false],dt:=some (.bool) }:=rfl
theorem tab_5:tyTab 5=some { desc:=.int .u8,size:=1,bytes:=1,zero:=[.int .u8 0],dt:=some (.int .u8) }:=rfl
theorem tab_22:tyTab 22=some { desc:=.sl 68,size:=1,bytes:=24,zero:=[.slice none 0 0],dt:=some (.sl (.sl (.pair (.int .i64) (.bool)))) }:=rfl
theorem tab_25:tyTab 25=some { desc:=.int .i64,size:=1,bytes:=8,zero:=[.int .i64 0],dt:=some (.int .i64) }:=rfl
theorem tab_30:tyTab 30=some { desc:=.sl 35,size:=1,bytes:=24,zero:=[.slice none 0 0],dt:=some (.sl (.pair (.int .i64) (.pair (.int .i64) (.int .i64)))) }:=rfl
theorem tab_35:tyTab 35=some { desc:=.arr 3 3,size:=3,bytes:=24,zero:=[.int .i64 0,.int .i64 0,.int .i64 0],dt:=some (.pair (.int .i64) (.pair (.int .i64) (.int .i64))) }:=rfl
theorem tab_41:tyTab 41=some { desc:=.sl 48,size:=1,bytes:=24,zero:=[.slice none 0 0],dt:=some (.sl (.sl (.int .i64))) }:=rfl
theorem tab_42:tyTab 42=some { desc:=.sl 110,size:=1,bytes:=24,zero:=[.slice none 0 0],dt:=some (.sl (.pair (.int .i64) (.int .i64))) }:=rfl
theorem tab_48:tyTab 48=some { desc:=.sl 3,size:=1,bytes:=24,zero:=[.slice none 0 0],dt:=some (.sl (.int .i64)) }:=rfl
theorem tab_57:tyTab 57=some { desc:=.sl 117,size:=1,bytes:=24,zero:=[.slice none 0 0],dt:=some (.sl (.sl (.pair (.int .i64) (.pair (.int .i64) (.int .i64))))) }:=rfl
theorem tab_68:tyTab 68=some { desc:=.sl 76,size:=1,bytes:=24,zero:=[.slice none 0 0],dt:=some (.sl (.pair (.int .i64) (.bool))) }:=rfl
theorem tab_76:tyTab 76=some { desc:=.struct [(0,3,1),(1,4,1)],size:=2,bytes:=16,zero:=[.int .i64 0,.bool false],dt:=some (.pair (.int .i64) (.bool)) }:=rfl
theorem tab_77:tyTab 77=some { desc:=.sl 68,size:=1,bytes:=24,zero:=[.slice none 0 0],dt:=some (.sl (.sl (.pair (.int .i64) (.bool)))) }:=rfl
theorem tab_83:tyTab 83=some { desc:=.other,size:=1,bytes:=8,zero:=[.nilFunc],dt:=none }:=rfl
theorem tab_87:tyTab 87=some { desc:=.other,size:=1,bytes:=8,zero:=[.nilFunc],dt:=none }:=rfl
theorem tab_89:tyTab 89=some { desc:=.sl 30,size:=1,bytes:=24,zero:=[.slice none 0 0],dt:=some (.sl (.sl (.pair (.int .i64) (.pair (.int .i64) (.int .i64))))) }:=rfl
theorem tab_91:tyTab 91=some { desc:=.other,size:=1,bytes:=8,zero:=[.nilFunc],dt:=none }:=rfl
theorem tab_93:tyTab 93=some { desc:=.other,size:=1,bytes:=8,zero:=[.map none],dt:=none }:=rfl
theorem tab_103:tyTab 103=some { desc:=.struct [(0,77,1),(1,30,1),(2,41,1)],size:=3,bytes:=72,zero:=[.slice none 0 0,.slice none 0 0,.slice none 0 0],dt:=some (.pair (.sl (.sl (.pair (.int .i64) (.bool)))) (.pair (.sl (.pair (.int .i64) (.pair (.int .i64) (.int .i64)))) (.sl (.sl (.int .i64))))) }:=rfl
theorem tab_110:tyTab 110=some { desc:=.arr 2 3,size:=2,bytes:=16,zero:=[.int .i64 0,.int .i64 0],dt:=some (.pair (.int .i64) (.int .i64)) }:=rfl
theorem tab_117:tyTab 117=some { desc:=.sl 119,size:=1,bytes:=24,zero:=[.slice none 0 0],dt:=some (.sl (.pair (.int .i64) (.pair (.int .i64) (.int .i64)))) }:=rfl
theorem tab_119:tyTab 119=some { desc:=.struct [(0,3,1),(1,3,1),(2,3,1)],size:=3,bytes:=24,zero:=[.int .i64 0,.int .i64 0,.int .i64 0],dt:=some (.pair (.int .i64) (.pair (.int .i64) (.int .i64))) }:=rfl
theorem tab_122:tyTab 122=some { desc:=.other,size:=1,bytes:=8,zero:=[.nilFunc],dt:=none }:=rfl
theorem tab_125:tyTab 125=some { desc:=.other,size:=1,bytes:=8,zero:=[.nilFunc],dt:=none }:=rfl
theorem tab_128:tyTab 128=some { desc:=.other,size:=1,bytes:=8,zero:=[.nilFunc],dt:=none }:=rfl
theorem tab_131:tyTab 131=some { desc:=.other,size:=1,bytes:=8,zero:=[.nilFunc],dt:=none }:=rfl
theorem tab_133:tyTab 133=some { desc:=.sl 42,size:=1,bytes:=24,zero:=[.slice none 0 0],dt:=some (.sl (.sl (.pair (.int .i64) (.int .i64)))) }:=rfl
theorem tab_138:tyTab 138=some { desc:=.other,size:=1,bytes:=8,zero:=[.nilFunc],dt:=none }:=rfl
attribute [go_sem] tab_3 tab_4 tab_5 tab_22 tab_25 tab_30 tab_35 tab_41 tab_42 tab_48 tab_57 tab_68 tab_76 tab_77 tab_83 tab_87 tab_89 tab_91 tab_93 tab_103 tab_110 tab_117 tab_119 tab_122 tab_125 tab_128 tab_131 tab_133 tab_138
end Go.Proofs.Ytdicomoggfhbfaa
