import Derived.Test.YtkocijiclklbfaaTyk
import Derived.Test.YtkocijiclklbfaaProg
import Derived.KernelRfl
namespace Go.Proofs.Ytkocijiclklbfaa
def tabL:List (TypeId×TInfo):=[
  (3,{ desc:=.int .i64,size:=1,bytes:=8,zero:=[.int .i64 0],dt:=some (.int .i64) }),
  (4,{ desc:=.bool,size:=1,bytes:=1,zero:=[.bool false],dt:=some (.bool) }),
  (22,{ desc:=.sl 28,size:=1,bytes:=24,zero:=[.slice none 0 0],dt:=some (.sl (.sl (.int .i64))) }),
  (24,{ desc:=.struct [(0,3,1),(1,3,1),(2,22,1),(3,22,1)],size:=4,bytes:=64,zero:=[.int .i64 0,.int .i64 0,.slice none 0 0,.slice none 0 0],dt:=some (.pair (.int .i64) (.pair (.int .i64) (.pair (.sl (.sl (.int .i64))) (.sl (.sl (.int .i64)))))) }),
  (25,{ desc:=.sl 43,size:=1,bytes:=24,zero:=[.slice none 0 0],dt:=some (.sl (.sl (.pair (.int .i64) (.pair (.int .i64) (.pair (.int .i64) (.int .i64)))))) }),
  (27,{ desc:=.struct [(0,24,4),(4,25,1),(5,22,1)],size:=6,bytes:=112,zero:=[.int .i64 0,.int .i64 0,.slice none 0 0,.slice none 0 0,.slice none 0 0,.slice none 0 0],dt:=some (.pair (.pair (.int .i64) (.pair (.int .i64) (.pair (.sl (.sl (.int .i64))) (.sl (.sl (.int .i64)))))) (.pair (.sl (.sl (.pair (.int .i64) (.pair (.int .i64) (.pair (.int .i64) (.int .i64)))))) (.sl (.sl (.int .i64))))) }),
  (28,{ desc:=.sl 3,size:=1,bytes:=24,zero:=[.slice none 0 0],dt:=some (.sl (.int .i64)) }),
  (31,{ desc:=.int .i64,size:=1,bytes:=8,zero:=[.int .i64 0],dt:=some (.int .i64) }),
  (34,{ desc:=.sl 49,size:=1,bytes:=24,zero:=[.slice none 0 0],dt:=some (.sl (.pair (.int .i64) (.pair (.int .i64) (.pair (.int .i64) (.pair (.int .i64) (.pair (.int .i64) (.int .i64))))))) }),
  (43,{ desc:=.sl 47,size:=1,bytes:=24,zero:=[.slice none 0 0],dt:=some (.sl (.pair (.int .i64) (.pair (.int .i64) (.pair (.int .i64) (.int .i64))))) }),
  (45,{ desc:=.sl 24,size:=1,bytes:=24,zero:=[.slice none 0 0],dt:=some (.sl (.pair (.int .i64) (.pair (.int .i64) (.pair (.sl (.sl (.int .i64))) (.sl (.sl (.int .i64))))))) }),
  (47,{ desc:=.struct [(0,3,1),(1,3,1),(2,3,1),(3,3,1)],size:=4,bytes:=32,zero:=[.int .i64 0,.int .i64 0,.int .i64 0,.int .i64 0],dt:=some (.pair (.int .i64) (.pair (.int .i64) (.pair (.int .i64) (.int .i64)))) }),
  (49,{ desc:=.struct [(0,3,1),(1,3,1),(2,3,1),(3,3,1),(4,3,1),(5,3,1)],size:=6,bytes:=48,zero:=[.int .i64 0,.int .i64 0,.int .i64 0,.int .i64 0,.int .i64 0,.int .i64 0],dt:=some (.pair (.int .i64) (.pair (.int .i64) (.pair (.int .i64) (.pair (.int .i64) (.pair (.int .i64) (.int .i64)))))) }),
  (52,{ desc:=.struct [(0,25,1),(1,22,1)],size:=2,bytes:=48,zero:=[.slice none 0 0,.slice none 0 0],dt:=some (.pair (.sl (.sl (.pair (.int .i64) (.pair (.int .i64) (.pair (.int .i64) (.int .i64)))))) (.sl (.sl (.int .i64)))) }),
  (54,{ desc:=.struct [(0,3,1),(1,3,1)],size:=2,bytes:=16,zero:=[.int .i64 0,.int .i64 0],dt:=some (.pair (.int .i64) (.int .i64)) }),
  (55,{ desc:=.arr 12 54,size:=24,bytes:=192,zero:=Z55,dt:=some (T55) }),
  (56,{ desc:=.arr 3 3,size:=3,bytes:=24,zero:=[.int .i64 0,.int .i64 0,.int .i64 0],dt:=some (.pair (.int .i64) (.pair (.int .i64) (.int .i64))) }),
  (57,{ desc:=.arr 4 3,size:=4,bytes:=32,zero:=[.int .i64 0,.int .i64 0,.int .i64 0,.int .i64 0],dt:=some (.pair (.int .i64) (.pair (.int .i64) (.pair (.int .i64) (.int .i64)))) }),
  (59,{ desc:=.struct [(0,3,1),(1,4,1),(2,3,1),(3,3,1),(4,57,4)],size:=8,bytes:=64,zero:=[.int .i64 0,.bool false,.int .i64 0,.int .i64 0,.int .i64 0,.int .i64 0,.int .i64 0,.int .i64 0],dt:=some (.pair (.int .i64) (.pair (.bool) (.pair (.int .i64) (.pair (.int .i64) (.pair (.int .i64) (.pair (.int .i64) (.pair (.int .i64) (.int .i64)))))))) }),
  (60,{ desc:=.arr 2 59,size:=16,bytes:=128,zero:=Z60,dt:=some (T60) }),
  (61,{ desc:=.arr 6 49,size:=36,bytes:=288,zero:=Z61,dt:=some (T61) }),
  (63,{ desc:=.struct [(0,52,2),(2,28,1),(3,55,24),(27,56,3),(30,60,16),(46,61,36),(82,3,1)],size:=83,bytes:=712,zero:=([.slice none 0 0,.slice none 0 0,.slice none 0 0]++(Z55++([.int .i64 0,.int .i64 0,.int .i64 0]++(Z60++(Z61++([.int .i64 0])))))),dt:=some (.pair (.pair (.sl (.sl (.pair (.int .i64) (.pair (.int .i64) (.pair (.int .i64) (.int .i64)))))) (.sl (.sl (.int .i64)))) (.pair (.sl (.int .i64)) (.pair (T55) (.pair (.pair (.int .i64) (.pair (.int .i64) (.int .i64))) (.pair (T60) (.pair (T61) (.int .i64))))))) }),
  (67,{ desc:=.other,size:=1,bytes:=8,zero:=[.pointer none],dt:=none }),
  (70,{ desc:=.sl 92,size:=1,bytes:=24,zero:=[.slice none 0 0],dt:=some (.sl (.pair (.int .i64) (.pair (.int .i64) (.pair (.bool) (.pair (.int .i64) (.pair (.int .i64) (.pair (.int .i64) (.pair (.int .i64) (.int .i64))))))))) }),
  (72,{ desc:=.struct [(0,25,1),(1,22,1),(2,28,1),(3,70,1),(4,3,1),(5,56,3),(8,34,1),(9,28,1)],size:=10,bytes:=176,zero:=[.slice none 0 0,.slice none 0 0,.slice none 0 0,.slice none 0 0,.int .i64 0,.int .i64 0,.int .i64 0,.int .i64 0,.slice none 0 0,.slice none 0 0],dt:=some (.pair (.sl (.sl (.pair (.int .i64) (.pair (.int .i64) (.pair (.int .i64) (.int .i64)))))) (.pair (.sl (.sl (.int .i64))) (.pair (.sl (.int .i64)) (.pair (.sl (.pair (.int .i64) (.pair (.int .i64) (.pair (.bool) (.pair (.int .i64) (.pair (.int .i64) (.pair (.int .i64) (.pair (.int .i64) (.int .i64))))))))) (.pair (.int .i64) (.pair (.pair (.int .i64) (.pair (.int .i64) (.int .i64))) (.pair (.sl (.pair (.int .i64) (.pair (.int .i64) (.pair (.int .i64) (.pair (.int .i64) (.pair (.int .i64) (.int .i64))))))) (.sl (.int .i64))))))))) }),
  (73,{ desc:=.other,size:=1,bytes:=8,zero:=[.nilFunc],dt:=none }),
  (79,{ desc:=.other,size:=1,bytes:=8,zero:=[.nilFunc],dt:=none }),
  (81,{ desc:=.other,size:=1,bytes:=8,zero:=[.nilFunc],dt:=none }),
  (88,{ desc:=.other,size:=1,bytes:=8,zero:=[.nilFunc],dt:=none }),
  (92,{ desc:=.struct [(0,3,1),(1,3,1),(2,4,1),(3,3,1),(4,57,4)],size:=8,bytes:=64,zero:=[.int .i64 0,.int .i64 0,.bool false,.int .i64 0,.int .i64 0,.int .i64 0,.int .i64 0,.int .i64 0],dt:=some (.pair (.int .i64) (.pair (.int .i64) (.pair (.bool) (.pair (.int .i64) (.pair (.int .i64) (.pair (.int .i64) (.pair (.int .i64) (.int .i64)))))))) }),
  (102,{ desc:=.other,size:=1,bytes:=8,zero:=[.pointer none],dt:=none }),
  (105,{ desc:=.other,size:=1,bytes:=8,zero:=[.pointer none],dt:=none }),
  (127,{ desc:=.other,size:=1,bytes:=8,zero:=[.nilFunc],dt:=none })]
def tyTab:Tab:=tabOf tabL
theorem tab_ok:TabOK Try.prog tyTab:=tabOf_ok tabL (by kernel_rfl)
theorem ops_nil (a:Array Operand):((#[]:Array Operand)++a).toList=a.toList:=by simp
theorem ops_one (f:Operand) (a:Array Operand):(#[f]++a).toList=f::a.toList:=by simp
attribute [go_sem high] ops_nil ops_one
theorem mixed_ok:Try.prog.follows .mixedOrders=true:=by kernel_rfl
theorem eqty_47:EqTy Try.prog 47 (.pair (.int .i64) (.pair (.int .i64) (.pair (.int .i64) (.int .i64)))):=eqty_deep 5 (by decide) (by kernel_rfl) (by kernel_rfl) (by kernel_rfl) (by kernel_rfl) (by kernel_rfl) (by kernel_rfl) (by kernel_rfl) rfl
theorem eqty_49:EqTy Try.prog 49 (.pair (.int .i64) (.pair (.int .i64) (.pair (.int .i64) (.pair (.int .i64) (.pair (.int .i64) (.int .i64)))))):=eqty_deep 5 (by decide) (by kernel_rfl) (by kernel_rfl) (by kernel_rfl) (by kernel_rfl) (by kernel_rfl) (by kernel_rfl) (by kernel_rfl) rfl
theorem tab_3:tyTab 3=some { desc:=.int .i64,size:=1,bytes:=8,zero:=[.int .i64 0],dt:=some (.int .i64) }:=rfl
theorem tab_4:tyTab 4=some { desc:=.bool,size:=1,bytes:=1,zero:=[.bool false],dt:=some (.bool) }:=rfl
theorem tab_22:tyTab 22=some { desc:=.sl 28,size:=1,bytes:=24,zero:=[.slice none 0 0],dt:=some (.sl (.sl (.int .i64))) }:=rfl
theorem tab_24:tyTab 24=some { desc:=.struct [(0,3,1),(1,3,1),(2,22,1),(3,22,1)],size:=4,bytes:=64,zero:=[.int .i64 0,.int .i64 0,.slice none 0 0,.slice none 0 0],dt:=some (.pair (.int .i64) (.pair (.int .i64) (.pair (.sl (.sl (.int .i64))) (.sl (.sl (.int .i64)))))) }:=rfl
theorem tab_25:tyTab 25=some { desc:=.sl 43,size:=1,bytes:=24,zero:=[.slice none 0 0],dt:=some (.sl (.sl (.pair (.int .i64) (.pair (.int .i64) (.pair (.int .i64) (.int .i64)))))) }:=rfl
theorem tab_27:tyTab 27=some { desc:=.struct [(0,24,4),(4,25,1),(5,22,1)],size:=6,bytes:=112,zero:=[.int .i64 0,.int .i64 0,.slice none 0 0,.slice none 0 0,.slice none 0 0,.slice none 0 0],dt:=some (.pair (.pair (.int .i64) (.pair (.int .i64) (.pair (.sl (.sl (.int .i64))) (.sl (.sl (.int .i64)))))) (.pair (.sl (.sl (.pair (.int .i64) (.pair (.int .i64) (.pair (.int .i64) (.int .i64)))))) (.sl (.sl (.int .i64))))) }:=rfl
theorem tab_28:tyTab 28=some { desc:=.sl 3,size:=1,bytes:=24,zero:=[.slice none 0 0],dt:=some (.sl (.int .i64)) }:=rfl
theorem tab_31:tyTab 31=some { desc:=.int .i64,size:=1,bytes:=8,zero:=[.int .i64 0],dt:=some (.int .i64) }:=rfl
theorem tab_34:tyTab 34=some { desc:=.sl 49,size:=1,bytes:=24,zero:=[.slice none 0 0],dt:=some (.sl (.pair (.int .i64) (.pair (.int .i64) (.pair (.int .i64) (.pair (.int .i64) (.pair (.int .i64) (.int .i64))))))) }:=rfl
theorem tab_43:tyTab 43=some { desc:=.sl 47,size:=1,bytes:=24,zero:=[.slice none 0 0],dt:=some (.sl (.pair (.int .i64) (.pair (.int .i64) (.pair (.int .i64) (.int .i64))))) }:=rfl
theorem tab_45:tyTab 45=some { desc:=.sl 24,size:=1,bytes:=24,zero:=[.slice none 0 0],dt:=some (.sl (.pair (.int .i64) (.pair (.int .i64) (.pair (.sl (.sl (.int .i64))) (.sl (.sl (.int .i64))))))) }:=rfl
theorem tab_47:tyTab 47=some { desc:=.struct [(0,3,1),(1,3,1),(2,3,1),(3,3,1)],size:=4,bytes:=32,zero:=[.int .i64 0,.int .i64 0,.int .i64 0,.int .i64 0],dt:=some (.pair (.int .i64) (.pair (.int .i64) (.pair (.int .i64) (.int .i64)))) }:=rfl
theorem tab_49:tyTab 49=some { desc:=.struct [(0,3,1),(1,3,1),(2,3,1),(3,3,1),(4,3,1),(5,3,1)],size:=6,bytes:=48,zero:=[.int .i64 0,.int .i64 0,.int .i64 0,.int .i64 0,.int .i64 0,.int .i64 0],dt:=some (.pair (.int .i64) (.pair (.int .i64) (.pair (.int .i64) (.pair (.int .i64) (.pair (.int .i64) (.int .i64)))))) }:=rfl
theorem tab_52:tyTab 52=some { desc:=.struct [(0,25,1),(1,22,1)],size:=2,bytes:=48,zero:=[.slice none 0 0,.slice none 0 0],dt:=some (.pair (.sl (.sl (.pair (.int .i64) (.pair (.int .i64) (.pair (.int .i64) (.int .i64)))))) (.sl (.sl (.int .i64)))) }:=rfl
theorem tab_54:tyTab 54=some { desc:=.struct [(0,3,1),(1,3,1)],size:=2,bytes:=16,zero:=[.int .i64 0,.int .i64 0],dt:=some (.pair (.int .i64) (.int .i64)) }:=rfl
theorem tab_55:tyTab 55=some { desc:=.arr 12 54,size:=24,bytes:=192,zero:=Z55,dt:=some (T55) }:=rfl
theorem tab_56:tyTab 56=some { desc:=.arr 3 3,size:=3,bytes:=24,zero:=[.int .i64 0,.int .i64 0,.int .i64 0],dt:=some (.pair (.int .i64) (.pair (.int .i64) (.int .i64))) }:=rfl
theorem tab_57:tyTab 57=some { desc:=.arr 4 3,size:=4,bytes:=32,zero:=[.int .i64 0,.int .i64 0,.int .i64 0,.int .i64 0],dt:=some (.pair (.int .i64) (.pair (.int .i64) (.pair (.int .i64) (.int .i64)))) }:=rfl
theorem tab_59:tyTab 59=some { desc:=.struct [(0,3,1),(1,4,1),(2,3,1),(3,3,1),(4,57,4)],size:=8,bytes:=64,zero:=[.int .i64 0,.bool false,.int .i64 0,.int .i64 0,.int .i64 0,.int .i64 0,.int .i64 0,.int .i64 0],dt:=some (.pair (.int .i64) (.pair (.bool) (.pair (.int .i64) (.pair (.int .i64) (.pair (.int .i64) (.pair (.int .i64) (.pair (.int .i64) (.int .i64)))))))) }:=rfl
theorem tab_60:tyTab 60=some { desc:=.arr 2 59,size:=16,bytes:=128,zero:=Z60,dt:=some (T60) }:=rfl
theorem tab_61:tyTab 61=some { desc:=.arr 6 49,size:=36,bytes:=288,zero:=Z61,dt:=some (T61) }:=rfl
theorem tab_63:tyTab 63=some { desc:=.struct [(0,52,2),(2,28,1),(3,55,24),(27,56,3),(30,60,16),(46,61,36),(82,3,1)],size:=83,bytes:=712,zero:=([.slice none 0 0,.slice none 0 0,.slice none 0 0]++(Z55++([.int .i64 0,.int .i64 0,.int .i64 0]++(Z60++(Z61++([.int .i64 0])))))),dt:=some (.pair (.pair (.sl (.sl (.pair (.int .i64) (.pair (.int .i64) (.pair (.int .i64) (.int .i64)))))) (.sl (.sl (.int .i64)))) (.pair (.sl (.int .i64)) (.pair (T55) (.pair (.pair (.int .i64) (.pair (.int .i64) (.int .i64))) (.pair (T60) (.pair (T61) (.int .i64))))))) }:=rfl
theorem tab_67:tyTab 67=some { desc:=.other,size:=1,bytes:=8,zero:=[.pointer none],dt:=none }:=rfl
theorem tab_70:tyTab 70=some { desc:=.sl 92,size:=1,bytes:=24,zero:=[.slice none 0 0],dt:=some (.sl (.pair (.int .i64) (.pair (.int .i64) (.pair (.bool) (.pair (.int .i64) (.pair (.int .i64) (.pair (.int .i64) (.pair (.int .i64) (.int .i64))))))))) }:=rfl
theorem tab_72:tyTab 72=some { desc:=.struct [(0,25,1),(1,22,1),(2,28,1),(3,70,1),(4,3,1),(5,56,3),(8,34,1),(9,28,1)],size:=10,bytes:=176,zero:=[.slice none 0 0,.slice none 0 0,.slice none 0 0,.slice none 0 0,.int .i64 0,.int .i64 0,.int .i64 0,.int .i64 0,.slice none 0 0,.slice none 0 0],dt:=some (.pair (.sl (.sl (.pair (.int .i64) (.pair (.int .i64) (.pair (.int .i64) (.int .i64)))))) (.pair (.sl (.sl (.int .i64))) (.pair (.sl (.int .i64)) (.pair (.sl (.pair (.int .i64) (.pair (.int .i64) (.pair (.bool) (.pair (.int .i64) (.pair (.int .i64) (.pair (.int .i64) (.pair (.int .i64) (.int .i64))))))))) (.pair (.int .i64) (.pair (.pair (.int .i64) (.pair (.int .i64) (.int .i64))) (.pair (.sl (.pair (.int .i64) (.pair (.int .i64) (.pair (.int .i64) (.pair (.int .i64) (.pair (.int .i64) (.int .i64))))))) (.sl (.int .i64))))))))) }:=rfl
theorem tab_73:tyTab 73=some { desc:=.other,size:=1,bytes:=8,zero:=[.nilFunc],dt:=none }:=rfl
theorem tab_79:tyTab 79=some { desc:=.other,size:=1,bytes:=8,zero:=[.nilFunc],dt:=none }:=rfl
theorem tab_81:tyTab 81=some { desc:=.other,size:=1,bytes:=8,zero:=[.nilFunc],dt:=none }:=rfl
theorem tab_88:tyTab 88=some { desc:=.other,size:=1,bytes:=8,zero:=[.nilFunc],dt:=none }:=rfl
theorem tab_92:tyTab 92=some { desc:=.struct [(0,3,1),(1,3,1),(2,4,1),(3,3,1),(4,57,4)],size:=8,bytes:=64,zero:=[.int .i64 0,.int .i64 0,.bool false,.int .i64 0,.int .i64 0,.int .i64 0,.int .i64 0,.int .i64 0],dt:=some (.pair (.int .i64) (.pair (.int .i64) (.pair (.bool) (.pair (.int .i64) (.pair (.int .i64) (.pair (.int .i64) (.pair (.int .i64) (.int .i64)))))))) }:=rfl
theorem tab_102:tyTab 102=some { desc:=.other,size:=1,bytes:=8,zero:=[.pointer none],dt:=none }:=rfl
theorem tab_105:tyTab 105=some { desc:=.other,size:=1,bytes:=8,zero:=[.pointer none],dt:=none }:=rfl
theorem tab_127:tyTab 127=some { desc:=.other,size:=1,bytes:=8,zero:=[.nilFunc],dt:=none }:=rfl
attribute [go_sem] tab_3 tab_4 tab_22 tab_24 tab_25 tab_27 tab_28 tab_31 tab_34 tab_43 tab_45 tab_47 tab_49 tab_52 tab_54 tab_55 tab_56 tab_57 tab_59 tab_60 tab_61 tab_63 tab_67 tab_70 tab_72 tab_73 tab_79 tab_81 tab_88 tab_92 tab_102 tab_105 tab_127
end Go.Proofs.Ytkocijiclklbfaa
