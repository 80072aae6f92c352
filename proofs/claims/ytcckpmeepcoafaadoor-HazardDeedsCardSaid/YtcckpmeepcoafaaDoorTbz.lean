import Derived.Test.YtcckpmeepcoafaaDoorTyz
import Derived.Test.YtcckpmeepcoafaaDoorProg
import Derived.KernelRfl
namespace Go.Proofs.YtcckpmeepcoafaaDoor
def tabL:List (TypeId×TInfo):=[
  (3,{ desc:=.int .i64,size:=1,bytes:=8,zero:=[.int .i64 0],dt:=some (.int .i64) }),
  (4,{ desc:=.bool,size:=1,bytes:=1,zero:=[.bool false],dt:=some (.bool) }),
  (5,{ desc:=.int .u8,size:=1,bytes:=1,zero:=[.int .u8 0],dt:=some (.int .u8) }),
  (22,{ desc:=.sl 33,size:=1,bytes:=24,zero:=[.slice none 0 0],dt:=some (.sl (.pair (.int .i64) (.pair (.int .i64) (.pair (.int .i64) (.int .i64))))) }),
  (23,{ desc:=.other,size:=1,bytes:=8,zero:=[.pointer none],dt:=none }),
  (24,{ desc:=.int .i64,size:=1,bytes:=8,zero:=[.int .i64 0],dt:=some (.int .i64) }),
  (30,{ desc:=.other,size:=1,bytes:=8,zero:=[.pointer none],dt:=none }),
  (33,{ desc:=.struct [(0,3,1),(1,3,1),(2,3,1),(3,3,1)],size:=4,bytes:=32,zero:=[.int .i64 0,.int .i64 0,.int .i64 0,.int .i64 0],dt:=some (.pair (.int .i64) (.pair (.int .i64) (.pair (.int .i64) (.int .i64)))) }),
  (41,{ desc:=.arr 3 3,size:=3,bytes:=24,zero:=[.int .i64 0,.int .i64 0,.int .i64 0],dt:=some (.pair (.int .i64) (.pair (.int .i64) (.int .i64))) }),
  (43,{ desc:=.struct [(0,22,1),(1,41,3)],size:=4,bytes:=48,zero:=[.slice none 0 0,.int .i64 0,.int .i64 0,.int .i64 0],dt:=some (.pair (.sl (.pair (.int .i64) (.pair (.int .i64) (.pair (.int .i64) (.int .i64))))) (.pair (.int .i64) (.pair (.int .i64) (.int .i64)))) }),
  (45,{ desc:=.sl 3,size:=1,bytes:=24,zero:=[.slice none 0 0],dt:=some (.sl (.int .i64)) }),
  (55,{ desc:=.arr 2 5,size:=2,bytes:=2,zero:=[.int .u8 0,.int .u8 0],dt:=some (.pair (.int .u8) (.int .u8)) }),
  (62,{ desc:=.int .i64,size:=1,bytes:=8,zero:=[.int .i64 0],dt:=some (.int .i64) }),
  (63,{ desc:=.arr 8 62,size:=8,bytes:=64,zero:=Z63,dt:=some (T63) }),
  (64,{ desc:=.arr 2 3,size:=2,bytes:=16,zero:=[.int .i64 0,.int .i64 0],dt:=some (.pair (.int .i64) (.int .i64)) }),
  (65,{ desc:=.arr 4 64,size:=8,bytes:=64,zero:=Z65,dt:=some (T65) }),
  (66,{ desc:=.arr 8 3,size:=8,bytes:=64,zero:=Z66,dt:=some (T66) }),
  (68,{ desc:=.struct [(0,3,1),(1,66,8)],size:=9,bytes:=72,zero:=([.int .i64 0]++(Z66)),dt:=some (.pair (.int .i64) (T66)) }),
  (69,{ desc:=.arr 4 68,size:=36,bytes:=288,zero:=Z69,dt:=some (T69) }),
  (71,{ desc:=.struct [(0,3,1),(1,3,1),(2,63,8),(10,65,8),(18,69,36)],size:=54,bytes:=432,zero:=([.int .i64 0,.int .i64 0]++(Z63++(Z65++(Z69)))),dt:=some (.pair (.int .i64) (.pair (.int .i64) (.pair (T63) (.pair (T65) (T69))))) }),
  (72,{ desc:=.sl 23,size:=1,bytes:=24,zero:=[.slice none 0 0],dt:=none }),
  (74,{ desc:=.sl 64,size:=1,bytes:=24,zero:=[.slice none 0 0],dt:=some (.sl (.pair (.int .i64) (.int .i64))) }),
  (75,{ desc:=.sl 45,size:=1,bytes:=24,zero:=[.slice none 0 0],dt:=some (.sl (.sl (.int .i64))) }),
  (77,{ desc:=.struct [(0,3,1),(1,3,1),(2,66,8),(10,74,1),(11,75,1)],size:=12,bytes:=128,zero:=([.int .i64 0,.int .i64 0]++(Z66++([.slice none 0 0,.slice none 0 0]))),dt:=some (.pair (.int .i64) (.pair (.int .i64) (.pair (T66) (.pair (.sl (.pair (.int .i64) (.int .i64))) (.sl (.sl (.int .i64))))))) }),
  (79,{ desc:=.other,size:=1,bytes:=8,zero:=[.nilFunc],dt:=none }),
  (81,{ desc:=.struct [(0,79,1),(1,24,1)],size:=2,bytes:=16,zero:=[.nilFunc,.int .i64 0],dt:=none }),
  (89,{ desc:=.sl 62,size:=1,bytes:=24,zero:=[.slice none 0 0],dt:=some (.sl (.int .i64)) }),
  (92,{ desc:=.sl 81,size:=1,bytes:=24,zero:=[.slice none 0 0],dt:=none }),
  (93,{ desc:=.arr 7 3,size:=7,bytes:=56,zero:=Z93,dt:=some (T93) }),
  (95,{ desc:=.other,size:=1,bytes:=8,zero:=[.pointer none],dt:=none })]
def tyTab:Tab:=tabOf tabL
theorem tab_ok:TabOK Tryd.prog tyTab:=tabOf_ok tabL (by kernel_rfl)
theorem ops_nil (a:Array Operand):((#[]:Array Operand)++a).toList=a.toList:=by simp
theorem ops_one (f:Operand) (a:Array Operand):(#[f]++a).toList=f::a.toList:=by simp
attribute [go_sem high] ops_nil ops_one
theorem mixed_ok:Tryd.prog.follows .mixedOrders=true:=by kernel_rfl
theorem tb_types:∃ m,Tryd.prog.types.size=m+1:=⟨Tryd.prog.types.size - 1,by kernel_rfl⟩
theorem eqty_63:EqTy Tryd.prog 63 (T63):=eqty_arr (N:=8) (q:=.i64) (el:=62) rfl ⟨by kernel_rfl,by kernel_rfl,by kernel_rfl,by kernel_rfl⟩ (by kernel_rfl) tb_types (by kernel_rfl) rfl
theorem eqty_65:EqTy Tryd.prog 65 (T65):=eqty_deep 5 (by decide) (by kernel_rfl) (by kernel_rfl) (by kernel_rfl) (by kernel_rfl) (by kernel_rfl) (by kernel_rfl) (by kernel_rfl) rfl
theorem eqty_69:EqTy Tryd.prog 69 (T69):=eqty_deep 5 (by decide) (by kernel_rfl) (by kernel_rfl) (by kernel_rfl) (by kernel_rfl) (by kernel_rfl) (by kernel_rfl) (by kernel_rfl) rfl
theorem tab_3:tyTab 3=some { desc:=.int .i64,size:=1,bytes:=8,zero:=[.int .i64 0],dt:=some (.int .i64) }:=rfl
theorem tab_4:tyTab 4=some { desc:=.bool,size:=1,bytes:=1,zero:=[.bool false],dt:=some (.bool) }:=rfl
theorem tab_5:tyTab 5=some { desc:=.int .u8,size:=1,bytes:=1,zero:=[.int .u8 0],dt:=some (.int .u8) }:=rfl
theorem tab_22:tyTab 22=some { desc:=.sl 33,size:=1,bytes:=24,zero:=[.slice none 0 0],dt:=some (.sl (.pair (.int .i64) (.pair (.int .i64) (.pair (.int .i64) (.int .i64))))) }:=rfl
theorem tab_23:tyTab 23=some { desc:=.other,size:=1,bytes:=8,zero:=[.pointer none],dt:=none }:=rfl
theorem tab_24:tyTab 24=some { desc:=.int .i64,size:=1,bytes:=8,zero:=[.int .i64 0],dt:=some (.int .i64) }:=rfl
theorem tab_30:tyTab 30=some { desc:=.other,size:=1,bytes:=8,zero:=[.pointer none],dt:=none }:=rfl
theorem tab_33:tyTab 33=some { desc:=.struct [(0,3,1),(1,3,1),(2,3,1),(3,3,1)],size:=4,bytes:=32,zero:=[.int .i64 0,.int .i64 0,.int .i64 0,.int .i64 0],dt:=some (.pair (.int .i64) (.pair (.int .i64) (.pair (.int .i64) (.int .i64)))) }:=rfl
theorem tab_41:tyTab 41=some { desc:=.arr 3 3,size:=3,bytes:=24,zero:=[.int .i64 0,.int .i64 0,.int .i64 0],dt:=some (.pair (.int .i64) (.pair (.int .i64) (.int .i64))) }:=rfl
theorem tab_43:tyTab 43=some { desc:=.struct [(0,22,1),(1,41,3)],size:=4,bytes:=48,zero:=[.slice none 0 0,.int .i64 0,.int .i64 0,.int .i64 0],dt:=some (.pair (.sl (.pair (.int .i64) (.pair (.int .i64) (.pair (.int .i64) (.int .i64))))) (.pair (.int .i64) (.pair (.int .i64) (.int .i64)))) }:=rfl
theorem tab_45:tyTab 45=some { desc:=.sl 3,size:=1,bytes:=24,zero:=[.slice none 0 0],dt:=some (.sl (.int .i64)) }:=rfl
theorem tab_55:tyTab 55=some { desc:=.arr 2 5,size:=2,bytes:=2,zero:=[.int .u8 0,.int .u8 0],dt:=some (.pair (.int .u8) (.int .u8)) }:=rfl
theorem tab_62:tyTab 62=some { desc:=.int .i64,size:=1,bytes:=8,zero:=[.int .i64 0],dt:=some (.int .i64) }:=rfl
theorem tab_63:tyTab 63=some { desc:=.arr 8 62,size:=8,bytes:=64,zero:=Z63,dt:=some (T63) }:=rfl
theorem tab_64:tyTab 64=some { desc:=.arr 2 3,size:=2,bytes:=16,zero:=[.int .i64 0,.int .i64 0],dt:=some (.pair (.int .i64) (.int .i64)) }:=rfl
theorem tab_65:tyTab 65=some { desc:=.arr 4 64,size:=8,bytes:=64,zero:=Z65,dt:=some (T65) }:=rfl
theorem tab_66:tyTab 66=some { desc:=.arr 8 3,size:=8,bytes:=64,zero:=Z66,dt:=some (T66) }:=rfl
theorem tab_68:tyTab 68=some { desc:=.struct [(0,3,1),(1,66,8)],size:=9,bytes:=72,zero:=([.int .i64 0]++(Z66)),dt:=some (.pair (.int .i64) (T66)) }:=rfl
theorem tab_69:tyTab 69=some { desc:=.arr 4 68,size:=36,bytes:=288,zero:=Z69,dt:=some (T69) }:=rfl
theorem tab_71:tyTab 71=some { desc:=.struct [(0,3,1),(1,3,1),(2,63,8),(10,65,8),(18,69,36)],size:=54,bytes:=432,zero:=([.int .i64 0,.int .i64 0]++(Z63++(Z65++(Z69)))),dt:=some (.pair (.int .i64) (.pair (.int .i64) (.pair (T63) (.pair (T65) (T69))))) }:=rfl
theorem tab_72:tyTab 72=some { desc:=.sl 23,size:=1,bytes:=24,zero:=[.slice none 0 0],dt:=none }:=rfl
theorem tab_74:tyTab 74=some { desc:=.sl 64,size:=1,bytes:=24,zero:=[.slice none 0 0],dt:=some (.sl (.pair (.int .i64) (.int .i64))) }:=rfl
theorem tab_75:tyTab 75=some { desc:=.sl 45,size:=1,bytes:=24,zero:=[.slice none 0 0],dt:=some (.sl (.sl (.int .i64))) }:=rfl
theorem tab_77:tyTab 77=some { desc:=.struct [(0,3,1),(1,3,1),(2,66,8),(10,74,1),(11,75,1)],size:=12,bytes:=128,zero:=([.int .i64 0,.int .i64 0]++(Z66++([.slice none 0 0,.slice none 0 0]))),dt:=some (.pair (.int .i64) (.pair (.int .i64) (.pair (T66) (.pair (.sl (.pair (.int .i64) (.int .i64))) (.sl (.sl (.int .i64))))))) }:=rfl
theorem tab_79:tyTab 79=some { desc:=.other,size:=1,bytes:=8,zero:=[.nilFunc],dt:=none }:=rfl
theorem tab_81:tyTab 81=some { desc:=.struct [(0,79,1),(1,24,1)],size:=2,bytes:=16,zero:=[.nilFunc,.int .i64 0],dt:=none }:=rfl
theorem tab_89:tyTab 89=some { desc:=.sl 62,size:=1,bytes:=24,zero:=[.slice none 0 0],dt:=some (.sl (.int .i64)) }:=rfl
theorem tab_92:tyTab 92=some { desc:=.sl 81,size:=1,bytes:=24,zero:=[.slice none 0 0],dt:=none }:=rfl
theorem tab_93:tyTab 93=some { desc:=.arr 7 3,size:=7,bytes:=56,zero:=Z93,dt:=some (T93) }:=rfl
theorem tab_95:tyTab 95=some { desc:=.other,size:=1,bytes:=8,zero:=[.pointer none],dt:=none }:=rfl
attribute [go_sem] tab_3 tab_4 tab_5 tab_22 tab_23 tab_24 tab_30 tab_33 tab_41 tab_43 tab_45 tab_55 tab_62 tab_63 tab_64 tab_65 tab_66 tab_68 tab_69 tab_71 tab_72 tab_74 tab_75 tab_77 tab_79 tab_81 tab_89 tab_92 tab_93 tab_95
end Go.Proofs.YtcckpmeepcoafaaDoor
