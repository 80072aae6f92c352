import Derived.Test.YteclokkdgmacpaaTy7
import Derived.Test.YteclokkdgmacpaaProg
import Derived.KernelRfl
namespace Go.Proofs.Yteclokkdgmacpaa
def tabL:List (TypeId×TInfo):=[
  (3,{ desc:=.int .i64,size:=1,bytes:=8,zero:=[.int .i64 0],dt:=some (.int .i64) }),
  (4,{ desc:=.bool,size:=1,bytes:=1,zero:=[.bool false],dt:=some (.bool) }),
  (5,{ desc:=.int .u8,size:=1,bytes:=1,zero:=[.int .u8 0],dt:=some (.int .u8) }),
  (22,{ desc:=.sl 61,size:=1,bytes:=24,zero:=[.slice none 0 0],dt:=some (.sl (.pair (.int .i64) (.pair (.int .i64) (.pair (.int .i64) (.bool))))) }),
  (24,{ desc:=.struct [(0,3,1),(1,22,1)],size:=2,bytes:=32,zero:=[.int .i64 0,.slice none 0 0],dt:=some (.pair (.int .i64) (.sl (.pair (.int .i64) (.pair (.int .i64) (.pair (.int .i64) (.bool)))))) }),
  (25,{ desc:=.sl 3,size:=1,bytes:=24,zero:=[.slice none 0 0],dt:=some (.sl (.int .i64)) }),
  (29,{ desc:=.int .i64,size:=1,bytes:=8,zero:=[.int .i64 0],dt:=some (.int .i64) }),
  (61,{ desc:=.struct [(0,3,1),(1,3,1),(2,3,1),(3,4,1)],size:=4,bytes:=32,zero:=[.int .i64 0,.int .i64 0,.int .i64 0,.bool false],dt:=some (.pair (.int .i64) (.pair (.int .i64) (.pair (.int .i64) (.bool)))) }),
  (66,{ desc:=.arr 3 4,size:=3,bytes:=3,zero:=[.bool false,.bool false,.bool false],dt:=some (.pair (.bool) (.pair (.bool) (.bool))) }),
  (67,{ desc:=.arr 3 66,size:=9,bytes:=9,zero:=Z67,dt:=some (T67) }),
  (69,{ desc:=.struct [(0,3,1),(1,22,1)],size:=2,bytes:=32,zero:=[.int .i64 0,.slice none 0 0],dt:=some (.pair (.int .i64) (.sl (.pair (.int .i64) (.pair (.int .i64) (.pair (.int .i64) (.bool)))))) }),
  (74,{ desc:=.other,size:=1,bytes:=8,zero:=[.nilFunc],dt:=none }),
  (77,{ desc:=.sl 4,size:=1,bytes:=24,zero:=[.slice none 0 0],dt:=some (.sl .bool) }),
  (81,{ desc:=.other,size:=1,bytes:=8,zero:=[.nilFunc],dt:=none }),
  (82,{ desc:=.sl 25,size:=1,bytes:=24,zero:=[.slice none 0 0],dt:=some (.sl (.sl (.int .i64))) }),
  (85,{ desc:=.struct [(0,69,2),(2,81,1),(3,81,1)],size:=4,bytes:=48,zero:=[.int .i64 0,.slice none 0 0,.nilFunc,.nilFunc],dt:=none }),
  (104,{ desc:=.other,size:=1,bytes:=8,zero:=[.nilFunc],dt:=none }),
  (114,{ desc:=.sl 22,size:=1,bytes:=24,zero:=[.slice none 0 0],dt:=some (.sl (.sl (.pair (.int .i64) (.pair (.int .i64) (.pair (.int .i64) (.bool)))))) }),
  (116,{ desc:=.other,size:=1,bytes:=8,zero:=[.nilFunc],dt:=none }),
  (120,{ desc:=.int .u64,size:=1,bytes:=8,zero:=[.int .u64 0],dt:=some (.int .u64) }),
  (124,{ desc:=.int .i64,size:=1,bytes:=8,zero:=[.int .i64 0],dt:=some (.int .i64) }),
  (133,{ desc:=.int .u64,size:=1,bytes:=8,zero:=[.int .u64 0],dt:=some (.int .u64) }),
  (134,{ desc:=.int .u64,size:=1,bytes:=8,zero:=[.int .u64 0],dt:=some (.int .u64) }),
  (138,{ desc:=.other,size:=1,bytes:=8,zero:=[.pointer none],dt:=none }),
  (140,{ desc:=.other,size:=1,bytes:=8,zero:=[.pointer none],dt:=none })]
def tyTab:Tab:=tabOf tabL
theorem tab_ok:TabOK Try.prog tyTab:=tabOf_ok tabL (by kernel_rfl)
theorem ops_nil (a:Array Operand):((#[]:Array Operand)++a).toList=a.toList:=by simp
theorem ops_one (f:Operand) (a:Array Operand):(#[f]++a).toList=f::a.toList:=by simp
attribute [go_sem high] ops_nil ops_one
theorem mixed_ok:Try.prog.follows .mixedOrders=true:=by kernel_rfl
theorem eqty_61:EqTy Try.prog 61 (.pair (.int .i64) (.pair (.int .i64) (.pair (.int .i64) (.bool)))):=eqty_deep 5 (by decide) (by kernel_rfl) (by kernel_rfl) (by kernel_rfl) (by kernel_rfl) (by kernel_rfl) (by kernel_rfl) (by kernel_rfl) rfl
theorem tab_3:tyTab 3=some { desc:=.int .i64,size:=1,bytes:=8,zero:=[.int .i64 0],dt:=some (.int .i64) }:=rfl
theorem tab_4:tyTab 4=some { desc:=.bool,size:=1,bytes:=1,zero:=[.bool false],dt:=some (.bool) }:=rfl
theorem tab_5:tyTab 5=some { desc:=.int .u8,size:=1,bytes:=1,zero:=[.int .u8 0],dt:=some (.int .u8) }:=rfl
theorem tab_22:tyTab 22=some { desc:=.sl 61,size:=1,bytes:=24,zero:=[.slice none 0 0],dt:=some (.sl (.pair (.int .i64) (.pair (.int .i64) (.pair (.int .i64) (.bool))))) }:=rfl
theorem tab_24:tyTab 24=some { desc:=.struct [(0,3,1),(1,22,1)],size:=2,bytes:=32,zero:=[.int .i64 0,.slice none 0 0],dt:=some (.pair (.int .i64) (.sl (.pair (.int .i64) (.pair (.int .i64) (.pair (.int .i64) (.bool)))))) }:=rfl
theorem tab_25:tyTab 25=some { desc:=.sl 3,size:=1,bytes:=24,zero:=[.slice none 0 0],dt:=some (.sl (.int .i64)) }:=rfl
theorem tab_29:tyTab 29=some { desc:=.int .i64,size:=1,bytes:=8,zero:=[.int .i64 0],dt:=some (.int .i64) }:=rfl
theorem tab_61:tyTab 61=some { desc:=.struct [(0,3,1),(1,3,1),(2,3,1),(3,4,1)],size:=4,bytes:=32,zero:=[.int .i64 0,.int .i64 0,.int .i64 0,.bool false],dt:=some (.pair (.int .i64) (.pair (.int .i64) (.pair (.int .i64) (.bool)))) }:=rfl
theorem tab_66:tyTab 66=some { desc:=.arr 3 4,size:=3,bytes:=3,zero:=[.bool false,.bool false,.bool false],dt:=some (.pair (.bool) (.pair (.bool) (.bool))) }:=rfl
theorem tab_67:tyTab 67=some { desc:=.arr 3 66,size:=9,bytes:=9,zero:=Z67,dt:=some (T67) }:=rfl
theorem tab_69:tyTab 69=some { desc:=.struct [(0,3,1),(1,22,1)],size:=2,bytes:=32,zero:=[.int .i64 0,.slice none 0 0],dt:=some (.pair (.int .i64) (.sl (.pair (.int .i64) (.pair (.int .i64) (.pair (.int .i64) (.bool)))))) }:=rfl
theorem tab_74:tyTab 74=some { desc:=.other,size:=1,bytes:=8,zero:=[.nilFunc],dt:=none }:=rfl
theorem tab_77:tyTab 77=some { desc:=.sl 4,size:=1,bytes:=24,zero:=[.slice none 0 0],dt:=some (.sl .bool) }:=rfl
theorem tab_81:tyTab 81=some { desc:=.other,size:=1,bytes:=8,zero:=[.nilFunc],dt:=none }:=rfl
theorem tab_82:tyTab 82=some { desc:=.sl 25,size:=1,bytes:=24,zero:=[.slice none 0 0],dt:=some (.sl (.sl (.int .i64))) }:=rfl
theorem tab_85:tyTab 85=some { desc:=.struct [(0,69,2),(2,81,1),(3,81,1)],size:=4,bytes:=48,zero:=[.int .i64 0,.slice none 0 0,.nilFunc,.nilFunc],dt:=none }:=rfl
theorem tab_104:tyTab 104=some { desc:=.other,size:=1,bytes:=8,zero:=[.nilFunc],dt:=none }:=rfl
theorem tab_114:tyTab 114=some { desc:=.sl 22,size:=1,bytes:=24,zero:=[.slice none 0 0],dt:=some (.sl (.sl (.pair (.int .i64) (.pair (.int .i64) (.pair (.int .i64) (.bool)))))) }:=rfl
theorem tab_116:tyTab 116=some { desc:=.other,size:=1,bytes:=8,zero:=[.nilFunc],dt:=none }:=rfl
theorem tab_120:tyTab 120=some { desc:=.int .u64,size:=1,bytes:=8,zero:=[.int .u64 0],dt:=some (.int .u64) }:=rfl
theorem tab_124:tyTab 124=some { desc:=.int .i64,size:=1,bytes:=8,zero:=[.int .i64 0],dt:=some (.int .i64) }:=rfl
theorem tab_133:tyTab 133=some { desc:=.int .u64,size:=1,bytes:=8,zero:=[.int .u64 0],dt:=some (.int .u64) }:=rfl
theorem tab_134:tyTab 134=some { desc:=.int .u64,size:=1,bytes:=8,zero:=[.int .u64 0],dt:=some (.int .u64) }:=rfl
theorem tab_138:tyTab 138=some { desc:=.other,size:=1,bytes:=8,zero:=[.pointer none],dt:=none }:=rfl
theorem tab_140:tyTab 140=some { desc:=.other,size:=1,bytes:=8,zero:=[.pointer none],dt:=none }:=rfl
attribute [go_sem] tab_3 tab_4 tab_5 tab_22 tab_24 tab_25 tab_29 tab_61 tab_66 tab_67 tab_69 tab_74 tab_77 tab_81 tab_82 tab_85 tab_104 tab_114 tab_116 tab_120 tab_124 tab_133 tab_134 tab_138 tab_140
end Go.Proofs.Yteclokkdgmacpaa
