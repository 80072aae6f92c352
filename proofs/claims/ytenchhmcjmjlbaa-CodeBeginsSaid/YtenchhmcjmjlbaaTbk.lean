import Derived.Test.YtenchhmcjmjlbaaTyk
import Derived.Test.YtenchhmcjmjlbaaProg
import Derived.KernelRfl
namespace Go.Proofs.Ytenchhmcjmjlbaa
def tabL:List (TypeId×TInfo):=[
  (3,{ desc:=.int .i64,size:=1,bytes:=8,zero:=[.int .i64 0],dt:=some (.int .i64) }),
  (4,{ desc:=.bool,size:=1,bytes:=1,zero:=[.bool false],dt:=some (.bool) }),
  (5,{ desc:=.int .u8,size:=1,bytes:=1,zero:=[.int .u8 0],dt:=some (.int .u8) }),
  (22,{ desc:=.sl 28,size:=1,bytes:=24,zero:=[.slice none 0 0],dt:=some (.sl (.sl (.int .i64))) }),
  (24,{ desc:=.struct [(0,3,1),(1,3,1),(2,22,1),(3,22,1)],size:=4,bytes:=64,zero:=[.int .i64 0,.int .i64 0,.slice none 0 0,.slice none 0 0],dt:=some (.pair (.int .i64) (.pair (.int .i64) (.pair (.sl (.sl (.int .i64))) (.sl (.sl (.int .i64)))))) }),
  (25,{ desc:=.sl 71,size:=1,bytes:=24,zero:=[.slice none 0 0],dt:=some (.sl (.sl (.pair (.int .i64) (.pair (.int .i64) (.pair (.int .i64) (.int .i64)))))) }),
  (27,{ desc:=.struct [(0,24,4),(4,25,1),(5,22,1)],size:=6,bytes:=112,zero:=[.int .i64 0,.int .i64 0,.slice none 0 0,.slice none 0 0,.slice none 0 0,.slice none 0 0],dt:=some (.pair (.pair (.int .i64) (.pair (.int .i64) (.pair (.sl (.sl (.int .i64))) (.sl (.sl (.int .i64)))))) (.pair (.sl (.sl (.pair (.int .i64) (.pair (.int .i64) (.pair (.int .i64) (.int .i64)))))) (.sl (.sl (.int .i64))))) }),
  (28,{ desc:=.sl 3,size:=1,bytes:=24,zero:=[.slice none 0 0],dt:=some (.sl (.int .i64)) }),
  (30,{ desc:=.other,size:=1,bytes:=8,zero:=[.nilFunc],dt:=none }),
  (31,{ desc:=.int .i64,size:=1,bytes:=8,zero:=[.int .i64 0],dt:=some (.int .i64) }),
  (34,{ desc:=.sl 68,size:=1,bytes:=24,zero:=[.slice none 0 0],dt:=some (.sl (.pair (.int .i64) (.pair (.int .i64) (.pair (.int .i64) (.pair (.int .i64) (.pair (.int .i64) (.int .i64))))))) }),
  (38,{ desc:=.other,size:=1,bytes:=8,zero:=[.nilFunc],dt:=none }),
  (45,{ desc:=.sl 34,size:=1,bytes:=24,zero:=[.slice none 0 0],dt:=some (.sl (.sl (.pair (.int .i64) (.pair (.int .i64) (.pair (.int .i64) (.pair (.int .i64) (.pair (.int .i64) (.int .i64)))))))) }),
  (51,{ desc:=.arr 2 3,size:=2,bytes:=16,zero:=[.int .i64 0,.int .i64 0],dt:=some (.pair (.int .i64) (.int .i64)) }),
  (57,{ desc:=.arr 2 5,size:=2,bytes:=2,zero:=[.int .u8 0,.int .u8 0],dt:=some (.pair (.int .u8) (.int .u8)) }),
  (58,{ desc:=.sl 5,size:=1,bytes:=24,zero:=[.slice none 0 0],dt:=some (.sl (.int .u8)) }),
  (64,{ desc:=.sl 24,size:=1,bytes:=24,zero:=[.slice none 0 0],dt:=some (.sl (.pair (.int .i64) (.pair (.int .i64) (.pair (.sl (.sl (.int .i64))) (.sl (.sl (.int .i64))))))) }),
  (68,{ desc:=.struct [(0,3,1),(1,3,1),(2,3,1),(3,3,1),(4,3,1),(5,3,1)],size:=6,bytes:=48,zero:=[.int .i64 0,.int .i64 0,.int .i64 0,.int .i64 0,.int .i64 0,.int .i64 0],dt:=some (.pair (.int .i64) (.pair (.int .i64) (.pair (.int .i64) (.pair (.int .i64) (.pair (.int .i64) (.int .i64)))))) }),
  (71,{ desc:=.sl 74,size:=1,bytes:=24,zero:=[.slice none 0 0],dt:=some (.sl (.pair (.int .i64) (.pair (.int .i64) (.pair (.int .i64) (.int .i64))))) }),
  (74,{ desc:=.struct [(0,3,1),(1,3,1),(2,3,1),(3,3,1)],size:=4,bytes:=32,zero:=[.int .i64 0,.int .i64 0,.int .i64 0,.int .i64 0],dt:=some (.pair (.int .i64) (.pair (.int .i64) (.pair (.int .i64) (.int .i64)))) }),
  (77,{ desc:=.struct [(0,25,1),(1,22,1)],size:=2,bytes:=48,zero:=[.slice none 0 0,.slice none 0 0],dt:=some (.pair (.sl (.sl (.pair (.int .i64) (.pair (.int .i64) (.pair (.int .i64) (.int .i64)))))) (.sl (.sl (.int .i64)))) }),
  (79,{ desc:=.struct [(0,3,1),(1,3,1)],size:=2,bytes:=16,zero:=[.int .i64 0,.int .i64 0],dt:=some (.pair (.int .i64) (.int .i64)) }),
  (80,{ desc:=.arr 12 79,size:=24,bytes:=192,zero:=Z80,dt:=some (T80) }),
  (81,{ desc:=.arr 3 3,size:=3,bytes:=24,zero:=[.int .i64 0,.int .i64 0,.int .i64 0],dt:=some (.pair (.int .i64) (.pair (.int .i64) (.int .i64))) }),
  (82,{ desc:=.arr 4 3,size:=4,bytes:=32,zero:=[.int .i64 0,.int .i64 0,.int .i64 0,.int .i64 0],dt:=some (.pair (.int .i64) (.pair (.int .i64) (.pair (.int .i64) (.int .i64)))) }),
  (84,{ desc:=.struct [(0,3,1),(1,4,1),(2,3,1),(3,3,1),(4,82,4)],size:=8,bytes:=64,zero:=[.int .i64 0,.bool false,.int .i64 0,.int .i64 0,.int .i64 0,.int .i64 0,.int .i64 0,.int .i64 0],dt:=some (.pair (.int .i64) (.pair (.bool) (.pair (.int .i64) (.pair (.int .i64) (.pair (.int .i64) (.pair (.int .i64) (.pair (.int .i64) (.int .i64)))))))) }),
  (85,{ desc:=.arr 2 84,size:=16,bytes:=128,zero:=Z85,dt:=some (T85) }),
  (86,{ desc:=.arr 6 68,size:=36,bytes:=288,zero:=Z86,dt:=some (T86) }),
  (88,{ desc:=.struct [(0,77,2),(2,28,1),(3,80,24),(27,81,3),(30,85,16),(46,86,36),(82,3,1)],size:=83,bytes:=712,zero:=([.slice none 0 0,.slice none 0 0,.slice none 0 0]++(Z80++([.int .i64 0,.int .i64 0,.int .i64 0]++(Z85++(Z86++([.int .i64 0])))))),dt:=some (.pair (.pair (.sl (.sl (.pair (.int .i64) (.pair (.int .i64) (.pair (.int .i64) (.int .i64)))))) (.sl (.sl (.int .i64)))) (.pair (.sl (.int .i64)) (.pair (T80) (.pair (.pair (.int .i64) (.pair (.int .i64) (.int .i64))) (.pair (T85) (.pair (T86) (.int .i64))))))) }),
  (91,{ desc:=.other,size:=1,bytes:=8,zero:=[.nilFunc],dt:=none }),
  (92,{ desc:=.other,size:=1,bytes:=8,zero:=[.pointer none],dt:=none }),
  (95,{ desc:=.sl 161,size:=1,bytes:=24,zero:=[.slice none 0 0],dt:=some (.sl (.pair (.int .i64) (.pair (.int .i64) (.pair (.bool) (.pair (.int .i64) (.pair (.int .i64) (.pair (.int .i64) (.pair (.int .i64) (.int .i64))))))))) }),
  (97,{ desc:=.struct [(0,25,1),(1,22,1),(2,28,1),(3,95,1),(4,3,1),(5,81,3),(8,34,1),(9,28,1)],size:=10,bytes:=176,zero:=[.slice none 0 0,.slice none 0 0,.slice none 0 0,.slice none 0 0,.int .i64 0,.int .i64 0,.int .i64 0,.int .i64 0,.slice none 0 0,.slice none 0 0],dt:=some (.pair (.sl (.sl (.pair (.int .i64) (.pair (.int .i64) (.pair (.int .i64) (.int .i64)))))) (.pair (.sl (.sl (.int .i64))) (.pair (.sl (.int .i64)) (.pair (.sl (.pair (.int .i64) (.pair (.int .i64) (.pair (.bool) (.pair (.int .i64) (.pair (.int .i64) (.pair (.int .i64) (.pair (.int .i64) (.int .i64))))))))) (.pair (.int .i64) (.pair (.pair (.int .i64) (.pair (.int .i64) (.int .i64))) (.pair (.sl (.pair (.int .i64) (.pair (.int .i64) (.pair (.int .i64) (.pair (.int .i64) (.pair (.int .i64) (.int .i64))))))) (.sl (.int .i64))))))))) }),
  (98,{ desc:=.other,size:=1,bytes:=8,zero:=[.nilFunc],dt:=none }),
  (104,{ desc:=.other,size:=1,bytes:=8,zero:=[.nilFunc],dt:=none }),
  (106,{ desc:=.other,size:=1,bytes:=8,zero:=[.nilFunc],dt:=none }),
  (110,{ desc:=.sl 117,size:=1,bytes:=24,zero:=[.slice none 0 0],dt:=none }),
  (113,{ desc:=.other,size:=1,bytes:=8,zero:=[.nilFunc],dt:=none }),
  (117,{ desc:=.struct [(0,92,1),(1,28,1)],size:=2,bytes:=32,zero:=[.pointer none,.slice none 0 0],dt:=none }),
  (137,{ desc:=.other,size:=1,bytes:=8,zero:=[.nilFunc],dt:=none }),
  (138,{ desc:=.other,size:=1,bytes:=8,zero:=[.map none],dt:=none }),
  (140,{ desc:=.struct [(0,64,1),(1,34,1),(2,137,1),(3,138,1)],size:=4,bytes:=64,zero:=[.slice none 0 0,.slice none 0 0,.nilFunc,.map none],dt:=none }),
  (143,{ desc:=.arr 2 3,size:=2,bytes:=16,zero:=[.int .i64 0,.int .i64 0],dt:=some (.pair (.int .i64) (.int .i64)) }),
  (144,{ desc:=.int .u64,size:=1,bytes:=8,zero:=[.int .u64 0],dt:=some (.int .u64) }),
  (146,{ desc:=.struct [(0,143,2),(2,144,1)],size:=3,bytes:=24,zero:=[.int .i64 0,.int .i64 0,.int .u64 0],dt:=some (.pair (.pair (.int .i64) (.int .i64)) (.int .u64)) }),
  (150,{ desc:=.other,size:=1,bytes:=8,zero:=[.nilFunc],dt:=none }),
  (151,{ desc:=.other,size:=1,bytes:=8,zero:=[.nilFunc],dt:=none }),
  (157,{ desc:=.other,size:=1,bytes:=8,zero:=[.nilFunc],dt:=none }),
  (161,{ desc:=.struct [(0,3,1),(1,3,1),(2,4,1),(3,3,1),(4,82,4)],size:=8,bytes:=64,zero:=[.int .i64 0,.int .i64 0,.bool false,.int .i64 0,.int .i64 0,.int .i64 0,.int .i64 0,.int .i64 0],dt:=some (.pair (.int .i64) (.pair (.int .i64) (.pair (.bool) (.pair (.int .i64) (.pair (.int .i64) (.pair (.int .i64) (.pair (.int .i64) (.int .i64)))))))) }),
  (162,{ desc:=.other,size:=1,bytes:=8,zero:=[.nilFunc],dt:=none }),
  (167,{ desc:=.other,size:=1,bytes:=8,zero:=[.nilFunc],dt:=none }),
  (171,{ desc:=.struct [(0,3,1),(1,3,1),(2,22,1),(3,22,1)],size:=4,bytes:=64,zero:=[.int .i64 0,.int .i64 0,.slice none 0 0,.slice none 0 0],dt:=some (.pair (.int .i64) (.pair (.int .i64) (.pair (.sl (.sl (.int .i64))) (.sl (.sl (.int .i64)))))) }),
  (176,{ desc:=.other,size:=1,bytes:=8,zero:=[.nilFunc],dt:=none }),
  (177,{ desc:=.sl 88,size:=1,bytes:=24,zero:=[.slice none 0 0],dt:=some (.sl (.pair (.pair (.sl (.sl (.pair (.int .i64) (.pair (.int .i64) (.pair (.int .i64) (.int .i64)))))) (.sl (.sl (.int .i64)))) (.pair (.sl (.int .i64)) (.pair (T80) (.pair (.pair (.int .i64) (.pair (.int .i64) (.int .i64))) (.pair (T85) (.pair (T86) (.int .i64)))))))) }),
  (179,{ desc:=.other,size:=1,bytes:=8,zero:=[.nilFunc],dt:=none }),
  (192,{ desc:=.other,size:=1,bytes:=8,zero:=[.nilFunc],dt:=none }),
  (199,{ desc:=.int .i64,size:=1,bytes:=8,zero:=[.int .i64 0],dt:=some (.int .i64) }),
  (208,{ desc:=.int .u64,size:=1,bytes:=8,zero:=[.int .u64 0],dt:=some (.int .u64) }),
  (211,{ desc:=.sl 213,size:=1,bytes:=24,zero:=[.slice none 0 0],dt:=some (.sl (.pair (.int .i64) (.pair (.int .i64) (.pair (.int .i64) (.pair (.int .i64) (.int .i64)))))) }),
  (213,{ desc:=.arr 5 3,size:=5,bytes:=40,zero:=[.int .i64 0,.int .i64 0,.int .i64 0,.int .i64 0,.int .i64 0],dt:=some (.pair (.int .i64) (.pair (.int .i64) (.pair (.int .i64) (.pair (.int .i64) (.int .i64))))) }),
  (216,{ desc:=.other,size:=1,bytes:=8,zero:=[.nilFunc],dt:=none }),
  (218,{ desc:=.sl 79,size:=1,bytes:=24,zero:=[.slice none 0 0],dt:=some (.sl (.pair (.int .i64) (.int .i64))) }),
  (225,{ desc:=.other,size:=1,bytes:=8,zero:=[.pointer none],dt:=none }),
  (228,{ desc:=.other,size:=1,bytes:=8,zero:=[.pointer none],dt:=none }),
  (229,{ desc:=.other,size:=1,bytes:=8,zero:=[.nilFunc],dt:=none }),
  (232,{ desc:=.int .u64,size:=1,bytes:=8,zero:=[.int .u64 0],dt:=some (.int .u64) }),
  (236,{ desc:=.other,size:=1,bytes:=8,zero:=[.pointer none],dt:=none }),
  (238,{ desc:=.other,size:=1,bytes:=8,zero:=[.nilFunc],dt:=none }),
  (240,{ desc:=.sl 4,size:=1,bytes:=24,zero:=[.slice none 0 0],dt:=some (.sl .bool) }),
  (242,{ desc:=.other,size:=1,bytes:=8,zero:=[.pointer none],dt:=none }),
  (244,{ desc:=.other,size:=1,bytes:=8,zero:=[.pointer none],dt:=none })]
def tyTab:Tab:=tabOf tabL
theorem tab_ok:TabOK Try.prog tyTab:=tabOf_ok tabL (by kernel_rfl)
theorem ops_nil (a:Array Operand):((#[]:Array Operand)++a).toList=a.toList:=by simp
theorem ops_one (f:Operand) (a:Array Operand):(#[f]++a).toList=f::a.toList:=by simp
attribute [go_sem high] ops_nil ops_one
theorem mixed_ok:Try.prog.follows .mixedOrders=true:=by kernel_rfl
theorem eqty_68:EqTy Try.prog 68 (.pair (.int .i64) (.pair (.int .i64) (.pair (.int .i64) (.pair (.int .i64) (.pair (.int .i64) (.int .i64)))))):=eqty_deep 5 (by decide) (by kernel_rfl) (by kernel_rfl) (by kernel_rfl) (by kernel_rfl) (by kernel_rfl) (by kernel_rfl) (by kernel_rfl) rfl
theorem eqty_74:EqTy Try.prog 74 (.pair (.int .i64) (.pair (.int .i64) (.pair (.int .i64) (.int .i64)))):=eqty_deep 5 (by decide) (by kernel_rfl) (by kernel_rfl) (by kernel_rfl) (by kernel_rfl) (by kernel_rfl) (by kernel_rfl) (by kernel_rfl) rfl
theorem tab_3:tyTab 3=some { desc:=.int .i64,size:=1,bytes:=8,zero:=[.int .i64 0],dt:=some (.int .i64) }:=rfl
theorem tab_4:tyTab 4=some { desc:=.bool,size:=1,bytes:=1,zero:=[.bool false],dt:=some (.bool) }:=rfl
theorem tab_5:tyTab 5=some { desc:=.int .u8,size:=1,bytes:=1,zero:=[.int .u8 0],dt:=some (.int .u8) }:=rfl
theorem tab_22:tyTab 22=some { desc:=.sl 28,size:=1,bytes:=24,zero:=[.slice none 0 0],dt:=some (.sl (.sl (.int .i64))) }:=rfl
theorem tab_24:tyTab 24=some { desc:=.struct [(0,3,1),(1,3,1),(2,22,1),(3,22,1)],size:=4,bytes:=64,zero:=[.int .i64 0,.int .i64 0,.slice none 0 0,.slice none 0 0],dt:=some (.pair (.int .i64) (.pair (.int .i64) (.pair (.sl (.sl (.int .i64))) (.sl (.sl (.int .i64)))))) }:=rfl
theorem tab_25:tyTab 25=some { desc:=.sl 71,size:=1,bytes:=24,zero:=[.slice none 0 0],dt:=some (.sl (.sl (.pair (.int .i64) (.pair (.int .i64) (.pair (.int .i64) (.int .i64)))))) }:=rfl
theorem tab_27:tyTab 27=some { desc:=.struct [(0,24,4),(4,25,1),(5,22,1)],size:=6,bytes:=112,zero:=[.int .i64 0,.int .i64 0,.slice none 0 0,.slice none 0 0,.slice none 0 0,.slice none 0 0],dt:=some (.pair (.pair (.int .i64) (.pair (.int .i64) (.pair (.sl (.sl (.int .i64))) (.sl (.sl (.int .i64)))))) (.pair (.sl (.sl (.pair (.int .i64) (.pair (.int .i64) (.pair (.int .i64) (.int .i64)))))) (.sl (.sl (.int .i64))))) }:=rfl
theorem tab_28:tyTab 28=some { desc:=.sl 3,size:=1,bytes:=24,zero:=[.slice none 0 0],dt:=some (.sl (.int .i64)) }:=rfl
theorem tab_30:tyTab 30=some { desc:=.other,size:=1,bytes:=8,zero:=[.nilFunc],dt:=none }:=rfl
theorem tab_31:tyTab 31=some { desc:=.int .i64,size:=1,bytes:=8,zero:=[.int .i64 0],dt:=some (.int .i64) }:=rfl
theorem tab_34:tyTab 34=some { desc:=.sl 68,size:=1,bytes:=24,zero:=[.slice none 0 0],dt:=some (.sl (.pair (.int .i64) (.pair (.int .i64) (.pair (.int .i64) (.pair (.int .i64) (.pair (.int .i64) (.int .i64))))))) }:=rfl
theorem tab_38:tyTab 38=some { desc:=.other,size:=1,bytes:=8,zero:=[.nilFunc],dt:=none }:=rfl
theorem tab_45:tyTab 45=some { desc:=.sl 34,size:=1,bytes:=24,zero:=[.slice none 0 0],dt:=some (.sl (.sl (.pair (.int .i64) (.pair (.int .i64) (.pair (.int .i64) (.pair (.int .i64) (.pair (.int .i64) (.int .i64)))))))) }:=rfl
theorem tab_51:tyTab 51=some { desc:=.arr 2 3,size:=2,bytes:=16,zero:=[.int .i64 0,.int .i64 0],dt:=some (.pair (.int .i64) (.int .i64)) }:=rfl
theorem tab_57:tyTab 57=some { desc:=.arr 2 5,size:=2,bytes:=2,zero:=[.int .u8 0,.int .u8 0],dt:=some (.pair (.int .u8) (.int .u8)) }:=rfl
theorem tab_58:tyTab 58=some { desc:=.sl 5,size:=1,bytes:=24,zero:=[.slice none 0 0],dt:=some (.sl (.int .u8)) }:=rfl
theorem tab_64:tyTab 64=some { desc:=.sl 24,size:=1,bytes:=24,zero:=[.slice none 0 0],dt:=some (.sl (.pair (.int .i64) (.pair (.int .i64) (.pair (.sl (.sl (.int .i64))) (.sl (.sl (.int .i64))))))) }:=rfl
theorem tab_68:tyTab 68=some { desc:=.struct [(0,3,1),(1,3,1),(2,3,1),(3,3,1),(4,3,1),(5,3,1)],size:=6,bytes:=48,zero:=[.int .i64 0,.int .i64 0,.int .i64 0,.int .i64 0,.int .i64 0,.int .i64 0],dt:=some (.pair (.int .i64) (.pair (.int .i64) (.pair (.int .i64) (.pair (.int .i64) (.pair (.int .i64) (.int .i64)))))) }:=rfl
theorem tab_71:tyTab 71=some { desc:=.sl 74,size:=1,bytes:=24,zero:=[.slice none 0 0],dt:=some (.sl (.pair (.int .i64) (.pair (.int .i64) (.pair (.int .i64) (.int .i64))))) }:=rfl
theorem tab_74:tyTab 74=some { desc:=.struct [(0,3,1),(1,3,1),(2,3,1),(3,3,1)],size:=4,bytes:=32,zero:=[.int .i64 0,.int .i64 0,.int .i64 0,.int .i64 0],dt:=some (.pair (.int .i64) (.pair (.int .i64) (.pair (.int .i64) (.int .i64)))) }:=rfl
theorem tab_77:tyTab 77=some { desc:=.struct [(0,25,1),(1,22,1)],size:=2,bytes:=48,zero:=[.slice none 0 0,.slice none 0 0],dt:=some (.pair (.sl (.sl (.pair (.int .i64) (.pair (.int .i64) (.pair (.int .i64) (.int .i64)))))) (.sl (.sl (.int .i64)))) }:=rfl
theorem tab_79:tyTab 79=some { desc:=.struct [(0,3,1),(1,3,1)],size:=2,bytes:=16,zero:=[.int .i64 0,.int .i64 0],dt:=some (.pair (.int .i64) (.int .i64)) }:=rfl
theorem tab_80:tyTab 80=some { desc:=.arr 12 79,size:=24,bytes:=192,zero:=Z80,dt:=some (T80) }:=rfl
theorem tab_81:tyTab 81=some { desc:=.arr 3 3,size:=3,bytes:=24,zero:=[.int .i64 0,.int .i64 0,.int .i64 0],dt:=some (.pair (.int .i64) (.pair (.int .i64) (.int .i64))) }:=rfl
theorem tab_82:tyTab 82=some { desc:=.arr 4 3,size:=4,bytes:=32,zero:=[.int .i64 0,.int .i64 0,.int .i64 0,.int .i64 0],dt:=some (.pair (.int .i64) (.pair (.int .i64) (.pair (.int .i64) (.int .i64)))) }:=rfl
theorem tab_84:tyTab 84=some { desc:=.struct [(0,3,1),(1,4,1),(2,3,1),(3,3,1),(4,82,4)],size:=8,bytes:=64,zero:=[.int .i64 0,.bool false,.int .i64 0,.int .i64 0,.int .i64 0,.int .i64 0,.int .i64 0,.int .i64 0],dt:=some (.pair (.int .i64) (.pair (.bool) (.pair (.int .i64) (.pair (.int .i64) (.pair (.int .i64) (.pair (.int .i64) (.pair (.int .i64) (.int .i64)))))))) }:=rfl
theorem tab_85:tyTab 85=some { desc:=.arr 2 84,size:=16,bytes:=128,zero:=Z85,dt:=some (T85) }:=rfl
theorem tab_86:tyTab 86=some { desc:=.arr 6 68,size:=36,bytes:=288,zero:=Z86,dt:=some (T86) }:=rfl
theorem tab_88:tyTab 88=some { desc:=.struct [(0,77,2),(2,28,1),(3,80,24),(27,81,3),(30,85,16),(46,86,36),(82,3,1)],size:=83,bytes:=712,zero:=([.slice none 0 0,.slice none 0 0,.slice none 0 0]++(Z80++([.int .i64 0,.int .i64 0,.int .i64 0]++(Z85++(Z86++([.int .i64 0])))))),dt:=some (.pair (.pair (.sl (.sl (.pair (.int .i64) (.pair (.int .i64) (.pair (.int .i64) (.int .i64)))))) (.sl (.sl (.int .i64)))) (.pair (.sl (.int .i64)) (.pair (T80) (.pair (.pair (.int .i64) (.pair (.int .i64) (.int .i64))) (.pair (T85) (.pair (T86) (.int .i64))))))) }:=rfl
theorem tab_91:tyTab 91=some { desc:=.other,size:=1,bytes:=8,zero:=[.nilFunc],dt:=none }:=rfl
theorem tab_92:tyTab 92=some { desc:=.other,size:=1,bytes:=8,zero:=[.pointer none],dt:=none }:=rfl
theorem tab_95:tyTab 95=some { desc:=.sl 161,size:=1,bytes:=24,zero:=[.slice none 0 0],dt:=some (.sl (.pair (.int .i64) (.pair (.int .i64) (.pair (.bool) (.pair (.int .i64) (.pair (.int .i64) (.pair (.int .i64) (.pair (.int .i64) (.int .i64))))))))) }:=rfl
theorem tab_97:tyTab 97=some { desc:=.struct [(0,25,1),(1,22,1),(2,28,1),(3,95,1),(4,3,1),(5,81,3),(8,34,1),(9,28,1)],size:=10,bytes:=176,zero:=[.slice none 0 0,.slice none 0 0,.slice none 0 0,.slice none 0 0,.int .i64 0,.int .i64 0,.int .i64 0,.int .i64 0,.slice none 0 0,.slice none 0 0],dt:=some (.pair (.sl (.sl (.pair (.int .i64) (.pair (.int .i64) (.pair (.int .i64) (.int .i64)))))) (.pair (.sl (.sl (.int .i64))) (.pair (.sl (.int .i64)) (.pair (.sl (.pair (.int .i64) (.pair (.int .i64) (.pair (.bool) (.pair (.int .i64) (.pair (.int .i64) (.pair (.int .i64) (.pair (.int .i64) (.int .i64))))))))) (.pair (.int .i64) (.pair (.pair (.int .i64) (.pair (.int .i64) (.int .i64))) (.pair (.sl (.pair (.int .i64) (.pair (.int .i64) (.pair (.int .i64) (.pair (.int .i64) (.pair (.int .i64) (.int .i64))))))) (.sl (.int .i64))))))))) }:=rfl
theorem tab_98:tyTab 98=some { desc:=.other,size:=1,bytes:=8,zero:=[.nilFunc],dt:=none }:=rfl
theorem tab_104:tyTab 104=some { desc:=.other,size:=1,bytes:=8,zero:=[.nilFunc],dt:=none }:=rfl
theorem tab_106:tyTab 106=some { desc:=.other,size:=1,bytes:=8,zero:=[.nilFunc],dt:=none }:=rfl
theorem tab_110:tyTab 110=some { desc:=.sl 117,size:=1,bytes:=24,zero:=[.slice none 0 0],dt:=none }:=rfl
theorem tab_113:tyTab 113=some { desc:=.other,size:=1,bytes:=8,zero:=[.nilFunc],dt:=none }:=rfl
theorem tab_117:tyTab 117=some { desc:=.struct [(0,92,1),(1,28,1)],size:=2,bytes:=32,zero:=[.pointer none,.slice none 0 0],dt:=none }:=rfl
theorem tab_137:tyTab 137=some { desc:=.other,size:=1,bytes:=8,zero:=[.nilFunc],dt:=none }:=rfl
theorem tab_138:tyTab 138=some { desc:=.other,size:=1,bytes:=8,zero:=[.map none],dt:=none }:=rfl
theorem tab_140:tyTab 140=some { desc:=.struct [(0,64,1),(1,34,1),(2,137,1),(3,138,1)],size:=4,bytes:=64,zero:=[.slice none 0 0,.slice none 0 0,.nilFunc,.map none],dt:=none }:=rfl
theorem tab_143:tyTab 143=some { desc:=.arr 2 3,size:=2,bytes:=16,zero:=[.int .i64 0,.int .i64 0],dt:=some (.pair (.int .i64) (.int .i64)) }:=rfl
theorem tab_144:tyTab 144=some { desc:=.int .u64,size:=1,bytes:=8,zero:=[.int .u64 0],dt:=some (.int .u64) }:=rfl
theorem tab_146:tyTab 146=some { desc:=.struct [(0,143,2),(2,144,1)],size:=3,bytes:=24,zero:=[.int .i64 0,.int .i64 0,.int .u64 0],dt:=some (.pair (.pair (.int .i64) (.int .i64)) (.int .u64)) }:=rfl
theorem tab_150:tyTab 150=some { desc:=.other,size:=1,bytes:=8,zero:=[.nilFunc],dt:=none }:=rfl
theorem tab_151:tyTab 151=some { desc:=.other,size:=1,bytes:=8,zero:=[.nilFunc],dt:=none }:=rfl
theorem tab_157:tyTab 157=some { desc:=.other,size:=1,bytes:=8,zero:=[.nilFunc],dt:=none }:=rfl
theorem tab_161:tyTab 161=some { desc:=.struct [(0,3,1),(1,3,1),(2,4,1),(3,3,1),(4,82,4)],size:=8,bytes:=64,zero:=[.int .i64 0,.int .i64 0,.bool false,.int .i64 0,.int .i64 0,.int .i64 0,.int .i64 0,.int .i64 0],dt:=some (.pair (.int .i64) (.pair (.int .i64) (.pair (.bool) (.pair (.int .i64) (.pair (.int .i64) (.pair (.int .i64) (.pair (.int .i64) (.int .i64)))))))) }:=rfl
theorem tab_162:tyTab 162=some { desc:=.other,size:=1,bytes:=8,zero:=[.nilFunc],dt:=none }:=rfl
theorem tab_167:tyTab 167=some { desc:=.other,size:=1,bytes:=8,zero:=[.nilFunc],dt:=none }:=rfl
theorem tab_171:tyTab 171=some { desc:=.struct [(0,3,1),(1,3,1),(2,22,1),(3,22,1)],size:=4,bytes:=64,zero:=[.int .i64 0,.int .i64 0,.slice none 0 0,.slice none 0 0],dt:=some (.pair (.int .i64) (.pair (.int .i64) (.pair (.sl (.sl (.int .i64))) (.sl (.sl (.int .i64)))))) }:=rfl
theorem tab_176:tyTab 176=some { desc:=.other,size:=1,bytes:=8,zero:=[.nilFunc],dt:=none }:=rfl
theorem tab_177:tyTab 177=some { desc:=.sl 88,size:=1,bytes:=24,zero:=[.slice none 0 0],dt:=some (.sl (.pair (.pair (.sl (.sl (.pair (.int .i64) (.pair (.int .i64) (.pair (.int .i64) (.int .i64)))))) (.sl (.sl (.int .i64)))) (.pair (.sl (.int .i64)) (.pair (T80) (.pair (.pair (.int .i64) (.pair (.int .i64) (.int .i64))) (.pair (T85) (.pair (T86) (.int .i64)))))))) }:=rfl
theorem tab_179:tyTab 179=some { desc:=.other,size:=1,bytes:=8,zero:=[.nilFunc],dt:=none }:=rfl
theorem tab_192:tyTab 192=some { desc:=.other,size:=1,bytes:=8,zero:=[.nilFunc],dt:=none }:=rfl
theorem tab_199:tyTab 199=some { desc:=.int .i64,size:=1,bytes:=8,zero:=[.int .i64 0],dt:=some (.int .i64) }:=rfl
theorem tab_208:tyTab 208=some { desc:=.int .u64,size:=1,bytes:=8,zero:=[.int .u64 0],dt:=some (.int .u64) }:=rfl
theorem tab_211:tyTab 211=some { desc:=.sl 213,size:=1,bytes:=24,zero:=[.slice none 0 0],dt:=some (.sl (.pair (.int .i64) (.pair (.int .i64) (.pair (.int .i64) (.pair (.int .i64) (.int .i64)))))) }:=rfl
theorem tab_213:tyTab 213=some { desc:=.arr 5 3,size:=5,bytes:=40,zero:=[.int .i64 0,.int .i64 0,.int .i64 0,.int .i64 0,.int .i64 0],dt:=some (.pair (.int .i64) (.pair (.int .i64) (.pair (.int .i64) (.pair (.int .i64) (.int .i64))))) }:=rfl
theorem tab_216:tyTab 216=some { desc:=.other,size:=1,bytes:=8,zero:=[.nilFunc],dt:=none }:=rfl
theorem tab_218:tyTab 218=some { desc:=.sl 79,size:=1,bytes:=24,zero:=[.slice none 0 0],dt:=some (.sl (.pair (.int .i64) (.int .i64))) }:=rfl
theorem tab_225:tyTab 225=some { desc:=.other,size:=1,bytes:=8,zero:=[.pointer none],dt:=none }:=rfl
theorem tab_228:tyTab 228=some { desc:=.other,size:=1,bytes:=8,zero:=[.pointer none],dt:=none }:=rfl
theorem tab_229:tyTab 229=some { desc:=.other,size:=1,bytes:=8,zero:=[.nilFunc],dt:=none }:=rfl
theorem tab_232:tyTab 232=some { desc:=.int .u64,size:=1,bytes:=8,zero:=[.int .u64 0],dt:=some (.int .u64) }:=rfl
theorem tab_236:tyTab 236=some { desc:=.other,size:=1,bytes:=8,zero:=[.pointer none],dt:=none }:=rfl
theorem tab_238:tyTab 238=some { desc:=.other,size:=1,bytes:=8,zero:=[.nilFunc],dt:=none }:=rfl
theorem tab_240:tyTab 240=some { desc:=.sl 4,size:=1,bytes:=24,zero:=[.slice none 0 0],dt:=some (.sl .bool) }:=rfl
theorem tab_242:tyTab 242=some { desc:=.other,size:=1,bytes:=8,zero:=[.pointer none],dt:=none }:=rfl
theorem tab_244:tyTab 244=some { desc:=.other,size:=1,bytes:=8,zero:=[.pointer none],dt:=none }:=rfl
attribute [go_sem] tab_3 tab_4 tab_5 tab_22 tab_24 tab_25 tab_27 tab_28 tab_30 tab_31 tab_34 tab_38 tab_45 tab_51 tab_57 tab_58 tab_64 tab_68 tab_71 tab_74 tab_77 tab_79 tab_80 tab_81 tab_82 tab_84 tab_85 tab_86 tab_88 tab_91 tab_92 tab_95 tab_97 tab_98 tab_104 tab_106 tab_110 tab_113 tab_117 tab_137 tab_138 tab_140 tab_143 tab_144 tab_146 tab_150 tab_151 tab_157 tab_161 tab_162 tab_167 tab_171 tab_176 tab_177 tab_179 tab_192 tab_199 tab_208 tab_211 tab_213 tab_216 tab_218 tab_225 tab_228 tab_229 tab_232 tab_236 tab_238 tab_240 tab_242 tab_244
end Go.Proofs.Ytenchhmcjmjlbaa
