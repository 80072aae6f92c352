import Derived.Test.YtanaeefeggokkaaGreatTyk
import Derived.Test.YtanaeefeggokkaaGreatProg
import Derived.KernelRfl
namespace Go.Proofs.YtanaeefeggokkaaGreat
def b9B:List (TypeId×TInfo):=[
  (3,{ desc:=.int .i64,size:=1,bytes:=8,zero:=[.int .i64 0],dt:=some .i }),
  (4,{ desc:=.bool,size:=1,bytes:=1,zero:=[.bool false],dt:=some (.bool) }),
  (5,{ desc:=.int .u8,size:=1,bytes:=1,zero:=[.int .u8 0],dt:=some (.int .u8) }),
  (22,{ desc:=.sl 33,size:=1,bytes:=24,zero:=[.slice none 0 0],dt:=some (.sl (.sl .i)) }),
  (24,{ desc:=.struct [(0,3,1),(1,3,1),(2,22,1),(3,22,1)],size:=4,bytes:=64,zero:=[.int .i64 0,.int .i64 0,.slice none 0 0,.slice none 0 0],dt:=some (.pair .i (.pair .i (.pair (.sl (.sl .i)) (.sl (.sl .i))))) }),
  (25,{ desc:=.sl 42,size:=1,bytes:=24,zero:=[.slice none 0 0],dt:=some (.sl (.sl (.pair .i (.pair .i (.pair .i .i))))) }),
  (27,{ desc:=.struct [(0,24,4),(4,25,1),(5,22,1)],size:=6,bytes:=112,zero:=[.int .i64 0,.int .i64 0,.slice none 0 0,.slice none 0 0,.slice none 0 0,.slice none 0 0],dt:=some (.pair (.pair .i (.pair .i (.pair (.sl (.sl .i)) (.sl (.sl .i))))) (.pair (.sl (.sl (.pair .i (.pair .i (.pair .i .i))))) (.sl (.sl .i)))) }),
  (29,{ desc:=.other,size:=1,bytes:=8,zero:=[.nilFunc],dt:=none }),
  (30,{ desc:=.int .i64,size:=1,bytes:=8,zero:=[.int .i64 0],dt:=some .i }),
  (33,{ desc:=.sl 3,size:=1,bytes:=24,zero:=[.slice none 0 0],dt:=some (.sl .i) }),
  (41,{ desc:=.sl 5,size:=1,bytes:=24,zero:=[.slice none 0 0],dt:=some (.sl (.int .u8)) }),
  (42,{ desc:=.sl 60,size:=1,bytes:=24,zero:=[.slice none 0 0],dt:=some (.sl (.pair .i (.pair .i (.pair .i .i)))) }),
  (45,{ desc:=.sl 62,size:=1,bytes:=24,zero:=[.slice none 0 0],dt:=some (.sl (.pair .i (.pair .i (.pair .i (.pair .i (.pair .i .i)))))) }),
  (49,{ desc:=.sl 24,size:=1,bytes:=24,zero:=[.slice none 0 0],dt:=some (.sl (.pair .i (.pair .i (.pair (.sl (.sl .i)) (.sl (.sl .i)))))) }),
  (51,{ desc:=.arr 4 5,size:=4,bytes:=4,zero:=[.int .u8 0,.int .u8 0,.int .u8 0,.int .u8 0],dt:=some (.pair (.int .u8) (.pair (.int .u8) (.pair (.int .u8) (.int .u8)))) }),
  (52,{ desc:=.sl 45,size:=1,bytes:=24,zero:=[.slice none 0 0],dt:=some (.sl (.sl (.pair .i (.pair .i (.pair .i (.pair .i (.pair .i .i))))))) }),
  (60,{ desc:=.struct [(0,3,1),(1,3,1),(2,3,1),(3,3,1)],size:=4,bytes:=32,zero:=[.int .i64 0,.int .i64 0,.int .i64 0,.int .i64 0],dt:=some (.pair .i (.pair .i (.pair .i .i))) }),
  (62,{ desc:=.struct [(0,3,1),(1,3,1),(2,3,1),(3,3,1),(4,3,1),(5,3,1)],size:=6,bytes:=48,zero:=[.int .i64 0,.int .i64 0,.int .i64 0,.int .i64 0,.int .i64 0,.int .i64 0],dt:=some (.pair .i (.pair .i (.pair .i (.pair .i (.pair .i .i))))) }),
  (65,{ desc:=.other,size:=1,bytes:=8,zero:=[.nilFunc],dt:=none }),
  (69,{ desc:=.struct [(0,25,1),(1,22,1)],size:=2,bytes:=48,zero:=[.slice none 0 0,.slice none 0 0],dt:=some (.pair (.sl (.sl (.pair .i (.pair .i (.pair .i .i))))) (.sl (.sl .i))) }),
  (71,{ desc:=.struct [(0,3,1),(1,3,1)],size:=2,bytes:=16,zero:=[.int .i64 0,.int .i64 0],dt:=some (.pair .i .i) }),
  (72,{ desc:=.arr 12 71,size:=24,bytes:=192,zero:=Z72,dt:=some (T72) }),
  (73,{ desc:=.arr 3 3,size:=3,bytes:=24,zero:=[.int .i64 0,.int .i64 0,.int .i64 0],dt:=some (.pair .i (.pair .i .i)) }),
  (74,{ desc:=.arr 4 3,size:=4,bytes:=32,zero:=[.int .i64 0,.int .i64 0,.int .i64 0,.int .i64 0],dt:=some (.pair .i (.pair .i (.pair .i .i))) }),
  (76,{ desc:=.struct [(0,3,1),(1,4,1),(2,3,1),(3,3,1),(4,74,4)],size:=8,bytes:=64,zero:=[.int .i64 0,.bool false,.int .i64 0,.int .i64 0,.int .i64 0,.int .i64 0,.int .i64 0,.int .i64 0],dt:=some (.pair .i (.pair (.bool) (.pair .i (.pair .i (.pair .i (.pair .i (.pair .i .i))))))) }),
  (77,{ desc:=.arr 2 76,size:=16,bytes:=128,zero:=Z77,dt:=some (T77) }),
  (78,{ desc:=.arr 6 62,size:=36,bytes:=288,zero:=Z78,dt:=some (T78) }),
  (80,{ desc:=.struct [(0,69,2),(2,33,1),(3,72,24),(27,73,3),(30,77,16),(46,78,36),(82,3,1)],size:=83,bytes:=712,zero:=([.slice none 0 0,.slice none 0 0,.slice none 0 0]++(Z72++([.int .i64 0,.int .i64 0,.int .i64 0]++(Z77++(Z78++([.int .i64 0])))))),dt:=some (.pair (.pair (.sl (.sl (.pair .i (.pair .i (.pair .i .i))))) (.sl (.sl .i))) (.pair (.sl .i) (.pair (T72) (.pair (.pair .i (.pair .i .i)) (.pair (T77) (.pair (T78) .i)))))) }),
  (84,{ desc:=.sl 92,size:=1,bytes:=24,zero:=[.slice none 0 0],dt:=none }),
  (87,{ desc:=.sl 177,size:=1,bytes:=24,zero:=[.slice none 0 0],dt:=some (.sl (.pair .i (.pair .i (.pair (.bool) (.pair .i (.pair .i (.pair .i (.pair .i .i)))))))) }),
  (89,{ desc:=.struct [(0,25,1),(1,22,1),(2,33,1),(3,87,1),(4,3,1),(5,73,3),(8,45,1),(9,33,1)],size:=10,bytes:=176,zero:=[.slice none 0 0,.slice none 0 0,.slice none 0 0,.slice none 0 0,.int .i64 0,.int .i64 0,.int .i64 0,.int .i64 0,.slice none 0 0,.slice none 0 0],dt:=some (.pair (.sl (.sl (.pair .i (.pair .i (.pair .i .i))))) (.pair (.sl (.sl .i)) (.pair (.sl .i) (.pair (.sl (.pair .i (.pair .i (.pair (.bool) (.pair .i (.pair .i (.pair .i (.pair .i .i)))))))) (.pair .i (.pair (.pair .i (.pair .i .i)) (.pair (.sl (.pair .i (.pair .i (.pair .i (.pair .i (.pair .i .i)))))) (.sl .i)))))))) }),
  (90,{ desc:=.other,size:=1,bytes:=8,zero:=[.pointer none],dt:=none }),
  (92,{ desc:=.struct [(0,90,1),(1,33,1)],size:=2,bytes:=32,zero:=[.pointer none,.slice none 0 0],dt:=none }),
  (112,{ desc:=.other,size:=1,bytes:=8,zero:=[.nilFunc],dt:=none }),
  (115,{ desc:=.other,size:=1,bytes:=8,zero:=[.nilFunc],dt:=none }),
  (117,{ desc:=.other,size:=1,bytes:=8,zero:=[.nilFunc],dt:=none }),
  (120,{ desc:=.other,size:=1,bytes:=8,zero:=[.nilFunc],dt:=none }),
  (129,{ desc:=.other,size:=1,bytes:=8,zero:=[.nilFunc],dt:=none }),
  (131,{ desc:=.sl 71,size:=1,bytes:=24,zero:=[.slice none 0 0],dt:=some (.sl (.pair .i .i)) }),
  (134,{ desc:=.other,size:=1,bytes:=8,zero:=[.nilFunc],dt:=none }),
  (142,{ desc:=.sl 4,size:=1,bytes:=24,zero:=[.slice none 0 0],dt:=some (.sl .bool) }),
  (145,{ desc:=.arr 2 3,size:=2,bytes:=16,zero:=[.int .i64 0,.int .i64 0],dt:=some (.pair .i .i) }),
  (149,{ desc:=.int .u64,size:=1,bytes:=8,zero:=[.int .u64 0],dt:=some (.int .u64) }),
  (151,{ desc:=.other,size:=1,bytes:=8,zero:=[.nilFunc],dt:=none }),
  (152,{ desc:=.other,size:=1,bytes:=8,zero:=[.pointer none],dt:=none }),
  (154,{ desc:=.struct [(0,49,1),(1,45,1),(2,4,1),(3,3,1),(4,33,1)],size:=5,bytes:=88,zero:=[.slice none 0 0,.slice none 0 0,.bool false,.int .i64 0,.slice none 0 0],dt:=some (.pair (.sl (.pair .i (.pair .i (.pair (.sl (.sl .i)) (.sl (.sl .i)))))) (.pair (.sl (.pair .i (.pair .i (.pair .i (.pair .i (.pair .i .i)))))) (.pair (.bool) (.pair .i (.sl .i))))) }),
  (156,{ desc:=.other,size:=1,bytes:=8,zero:=[.nilFunc],dt:=none }),
  (158,{ desc:=.struct [(0,3,1),(1,3,1),(2,22,1),(3,22,1)],size:=4,bytes:=64,zero:=[.int .i64 0,.int .i64 0,.slice none 0 0,.slice none 0 0],dt:=some (.pair .i (.pair .i (.pair (.sl (.sl .i)) (.sl (.sl .i))))) }),
  (160,{ desc:=.other,size:=1,bytes:=8,zero:=[.nilFunc],dt:=none }),
  (161,{ desc:=.sl 80,size:=1,bytes:=24,zero:=[.slice none 0 0],dt:=some (.sl (.pair (.pair (.sl (.sl (.pair .i (.pair .i (.pair .i .i))))) (.sl (.sl .i))) (.pair (.sl .i) (.pair (T72) (.pair (.pair .i (.pair .i .i)) (.pair (T77) (.pair (T78) .i))))))) }),
  (163,{ desc:=.other,size:=1,bytes:=8,zero:=[.nilFunc],dt:=none }),
  (166,{ desc:=.other,size:=1,bytes:=8,zero:=[.map none],dt:=none }),
  (168,{ desc:=.struct [(0,49,1),(1,45,1),(2,112,1),(3,166,1)],size:=4,bytes:=64,zero:=[.slice none 0 0,.slice none 0 0,.nilFunc,.map none],dt:=none }),
  (172,{ desc:=.struct [(0,145,2),(2,149,1)],size:=3,bytes:=24,zero:=[.int .i64 0,.int .i64 0,.int .u64 0],dt:=some (.pair (.pair .i .i) (.int .u64)) }),
  (174,{ desc:=.other,size:=1,bytes:=8,zero:=[.nilFunc],dt:=none }),
  (177,{ desc:=.struct [(0,3,1),(1,3,1),(2,4,1),(3,3,1),(4,74,4)],size:=8,bytes:=64,zero:=[.int .i64 0,.int .i64 0,.bool false,.int .i64 0,.int .i64 0,.int .i64 0,.int .i64 0,.int .i64 0],dt:=some (.pair .i (.pair .i (.pair (.bool) (.pair .i (.pair .i (.pair .i (.pair .i .i))))))) }),
  (181,{ desc:=.other,size:=1,bytes:=8,zero:=[.pointer none],dt:=none }),
  (184,{ desc:=.int .i64,size:=1,bytes:=8,zero:=[.int .i64 0],dt:=some .i }),
  (194,{ desc:=.int .u64,size:=1,bytes:=8,zero:=[.int .u64 0],dt:=some (.int .u64) }),
  (197,{ desc:=.other,size:=1,bytes:=8,zero:=[.nilFunc],dt:=none }),
  (201,{ desc:=.other,size:=1,bytes:=8,zero:=[.pointer none],dt:=none }),
  (204,{ desc:=.other,size:=1,bytes:=8,zero:=[.pointer none],dt:=none }),
  (207,{ desc:=.other,size:=1,bytes:=8,zero:=[.nilFunc],dt:=none }),
  (209,{ desc:=.int .u64,size:=1,bytes:=8,zero:=[.int .u64 0],dt:=some (.int .u64) }),
  (213,{ desc:=.other,size:=1,bytes:=8,zero:=[.pointer none],dt:=none }),
  (217,{ desc:=.other,size:=1,bytes:=8,zero:=[.nilFunc],dt:=none }),
  (219,{ desc:=.other,size:=1,bytes:=8,zero:=[.nilFunc],dt:=none }),
  (221,{ desc:=.other,size:=1,bytes:=8,zero:=[.pointer none],dt:=none })]
def j9:Tab:=b0x b9B
theorem m7:z5 Tryz.prog j9:=b0w b9B (by kernel_rfl)
theorem b7P (a:Array Operand):((#[]:Array Operand)++a).toList=a.toList:=by simp
theorem b7O (f:Operand) (a:Array Operand):(#[f]++a).toList=f::a.toList:=by simp
attribute [go_sem high] b7P b7O
theorem l7:Tryz.prog.follows .mixedOrders=true:=by kernel_rfl
theorem b72:EqTy Tryz.prog 60 (.pair .i (.pair .i (.pair .i .i))):=a9u 5 (by decide) (by kernel_rfl) (by kernel_rfl) (by kernel_rfl) (by kernel_rfl) (by kernel_rfl) (by kernel_rfl) (by kernel_rfl) rfl
theorem b3l:EqTy Tryz.prog 62 (.pair .i (.pair .i (.pair .i (.pair .i (.pair .i .i))))):=a9u 5 (by decide) (by kernel_rfl) (by kernel_rfl) (by kernel_rfl) (by kernel_rfl) (by kernel_rfl) (by kernel_rfl) (by kernel_rfl) rfl
theorem a9f:MapTy Tryz.prog 166 172 3 true false (.pair (.pair .i .i) (.int .u64)) .i:=b2q (m:=5) (by kernel_rfl) (by decide) (by kernel_rfl) (by kernel_rfl) (by kernel_rfl) (by kernel_rfl) (by kernel_rfl) (by kernel_rfl) (fun _=>by kernel_rfl) rfl rfl (.inr rfl)
theorem b8A:j9 3=some { desc:=.int .i64,size:=1,bytes:=8,zero:=[.int .i64 0],dt:=some .i }:=rfl
theorem b9A:j9 4=some { desc:=.bool,size:=1,bytes:=1,zero:=[.bool false],dt:=some (.bool) }:=rfl
theorem b9z:j9 5=some { desc:=.int .u8,size:=1,bytes:=1,zero:=[.int .u8 0],dt:=some (.int .u8) }:=rfl
theorem b86:j9 22=some { desc:=.sl 33,size:=1,bytes:=24,zero:=[.slice none 0 0],dt:=some (.sl (.sl .i)) }:=rfl
theorem b85:j9 24=some { desc:=.struct [(0,3,1),(1,3,1),(2,22,1),(3,22,1)],size:=4,bytes:=64,zero:=[.int .i64 0,.int .i64 0,.slice none 0 0,.slice none 0 0],dt:=some (.pair .i (.pair .i (.pair (.sl (.sl .i)) (.sl (.sl .i))))) }:=rfl
theorem b84:j9 25=some { desc:=.sl 42,size:=1,bytes:=24,zero:=[.slice none 0 0],dt:=some (.sl (.sl (.pair .i (.pair .i (.pair .i .i))))) }:=rfl
theorem b5m:j9 27=some { desc:=.struct [(0,24,4),(4,25,1),(5,22,1)],size:=6,bytes:=112,zero:=[.int .i64 0,.int .i64 0,.slice none 0 0,.slice none 0 0,.slice none 0 0,.slice none 0 0],dt:=some (.pair (.pair .i (.pair .i (.pair (.sl (.sl .i)) (.sl (.sl .i))))) (.pair (.sl (.sl (.pair .i (.pair .i (.pair .i .i))))) (.sl (.sl .i)))) }:=rfl
theorem b83:j9 29=some { desc:=.other,size:=1,bytes:=8,zero:=[.nilFunc],dt:=none }:=rfl
theorem b82:j9 30=some { desc:=.int .i64,size:=1,bytes:=8,zero:=[.int .i64 0],dt:=some .i }:=rfl
theorem b5l:j9 33=some { desc:=.sl 3,size:=1,bytes:=24,zero:=[.slice none 0 0],dt:=some (.sl .i) }:=rfl
theorem b1Y:j9 41=some { desc:=.sl 5,size:=1,bytes:=24,zero:=[.slice none 0 0],dt:=some (.sl (.int .u8)) }:=rfl
theorem b81:j9 42=some { desc:=.sl 60,size:=1,bytes:=24,zero:=[.slice none 0 0],dt:=some (.sl (.pair .i (.pair .i (.pair .i .i)))) }:=rfl
theorem b5k:j9 45=some { desc:=.sl 62,size:=1,bytes:=24,zero:=[.slice none 0 0],dt:=some (.sl (.pair .i (.pair .i (.pair .i (.pair .i (.pair .i .i)))))) }:=rfl
theorem b80:j9 49=some { desc:=.sl 24,size:=1,bytes:=24,zero:=[.slice none 0 0],dt:=some (.sl (.pair .i (.pair .i (.pair (.sl (.sl .i)) (.sl (.sl .i)))))) }:=rfl
theorem b8Z:j9 51=some { desc:=.arr 4 5,size:=4,bytes:=4,zero:=[.int .u8 0,.int .u8 0,.int .u8 0,.int .u8 0],dt:=some (.pair (.int .u8) (.pair (.int .u8) (.pair (.int .u8) (.int .u8)))) }:=rfl
theorem b8Y:j9 52=some { desc:=.sl 45,size:=1,bytes:=24,zero:=[.slice none 0 0],dt:=some (.sl (.sl (.pair .i (.pair .i (.pair .i (.pair .i (.pair .i .i))))))) }:=rfl
theorem b8X:j9 60=some { desc:=.struct [(0,3,1),(1,3,1),(2,3,1),(3,3,1)],size:=4,bytes:=32,zero:=[.int .i64 0,.int .i64 0,.int .i64 0,.int .i64 0],dt:=some (.pair .i (.pair .i (.pair .i .i))) }:=rfl
theorem b8W:j9 62=some { desc:=.struct [(0,3,1),(1,3,1),(2,3,1),(3,3,1),(4,3,1),(5,3,1)],size:=6,bytes:=48,zero:=[.int .i64 0,.int .i64 0,.int .i64 0,.int .i64 0,.int .i64 0,.int .i64 0],dt:=some (.pair .i (.pair .i (.pair .i (.pair .i (.pair .i .i))))) }:=rfl
theorem b8V:j9 65=some { desc:=.other,size:=1,bytes:=8,zero:=[.nilFunc],dt:=none }:=rfl
theorem b8U:j9 69=some { desc:=.struct [(0,25,1),(1,22,1)],size:=2,bytes:=48,zero:=[.slice none 0 0,.slice none 0 0],dt:=some (.pair (.sl (.sl (.pair .i (.pair .i (.pair .i .i))))) (.sl (.sl .i))) }:=rfl
theorem b8T:j9 71=some { desc:=.struct [(0,3,1),(1,3,1)],size:=2,bytes:=16,zero:=[.int .i64 0,.int .i64 0],dt:=some (.pair .i .i) }:=rfl
theorem b8S:j9 72=some { desc:=.arr 12 71,size:=24,bytes:=192,zero:=Z72,dt:=some (T72) }:=rfl
theorem b8R:j9 73=some { desc:=.arr 3 3,size:=3,bytes:=24,zero:=[.int .i64 0,.int .i64 0,.int .i64 0],dt:=some (.pair .i (.pair .i .i)) }:=rfl
theorem b8Q:j9 74=some { desc:=.arr 4 3,size:=4,bytes:=32,zero:=[.int .i64 0,.int .i64 0,.int .i64 0,.int .i64 0],dt:=some (.pair .i (.pair .i (.pair .i .i))) }:=rfl
theorem b8P:j9 76=some { desc:=.struct [(0,3,1),(1,4,1),(2,3,1),(3,3,1),(4,74,4)],size:=8,bytes:=64,zero:=[.int .i64 0,.bool false,.int .i64 0,.int .i64 0,.int .i64 0,.int .i64 0,.int .i64 0,.int .i64 0],dt:=some (.pair .i (.pair (.bool) (.pair .i (.pair .i (.pair .i (.pair .i (.pair .i .i))))))) }:=rfl
theorem b8O:j9 77=some { desc:=.arr 2 76,size:=16,bytes:=128,zero:=Z77,dt:=some (T77) }:=rfl
theorem b8N:j9 78=some { desc:=.arr 6 62,size:=36,bytes:=288,zero:=Z78,dt:=some (T78) }:=rfl
theorem b5j:j9 80=some { desc:=.struct [(0,69,2),(2,33,1),(3,72,24),(27,73,3),(30,77,16),(46,78,36),(82,3,1)],size:=83,bytes:=712,zero:=([.slice none 0 0,.slice none 0 0,.slice none 0 0]++(Z72++([.int .i64 0,.int .i64 0,.int .i64 0]++(Z77++(Z78++([.int .i64 0])))))),dt:=some (.pair (.pair (.sl (.sl (.pair .i (.pair .i (.pair .i .i))))) (.sl (.sl .i))) (.pair (.sl .i) (.pair (T72) (.pair (.pair .i (.pair .i .i)) (.pair (T77) (.pair (T78) .i)))))) }:=rfl
theorem b8M:j9 84=some { desc:=.sl 92,size:=1,bytes:=24,zero:=[.slice none 0 0],dt:=none }:=rfl
theorem b8L:j9 87=some { desc:=.sl 177,size:=1,bytes:=24,zero:=[.slice none 0 0],dt:=some (.sl (.pair .i (.pair .i (.pair (.bool) (.pair .i (.pair .i (.pair .i (.pair .i .i)))))))) }:=rfl
theorem b8K:j9 89=some { desc:=.struct [(0,25,1),(1,22,1),(2,33,1),(3,87,1),(4,3,1),(5,73,3),(8,45,1),(9,33,1)],size:=10,bytes:=176,zero:=[.slice none 0 0,.slice none 0 0,.slice none 0 0,.slice none 0 0,.int .i64 0,.int .i64 0,.int .i64 0,.int .i64 0,.slice none 0 0,.slice none 0 0],dt:=some (.pair (.sl (.sl (.pair .i (.pair .i (.pair .i .i))))) (.pair (.sl (.sl .i)) (.pair (.sl .i) (.pair (.sl (.pair .i (.pair .i (.pair (.bool) (.pair .i (.pair .i (.pair .i (.pair .i .i)))))))) (.pair .i (.pair (.pair .i (.pair .i .i)) (.pair (.sl (.pair .i (.pair .i (.pair .i (.pair .i (.pair .i .i)))))) (.sl .i)))))))) }:=rfl
theorem b8J:j9 90=some { desc:=.other,size:=1,bytes:=8,zero:=[.pointer none],dt:=none }:=rfl
theorem b8I:j9 92=some { desc:=.struct [(0,90,1),(1,33,1)],size:=2,bytes:=32,zero:=[.pointer none,.slice none 0 0],dt:=none }:=rfl
theorem b7x:j9 112=some { desc:=.other,size:=1,bytes:=8,zero:=[.nilFunc],dt:=none }:=rfl
theorem b7w:j9 115=some { desc:=.other,size:=1,bytes:=8,zero:=[.nilFunc],dt:=none }:=rfl
theorem b7v:j9 117=some { desc:=.other,size:=1,bytes:=8,zero:=[.nilFunc],dt:=none }:=rfl
theorem b7u:j9 120=some { desc:=.other,size:=1,bytes:=8,zero:=[.nilFunc],dt:=none }:=rfl
theorem b7t:j9 129=some { desc:=.other,size:=1,bytes:=8,zero:=[.nilFunc],dt:=none }:=rfl
theorem b7s:j9 131=some { desc:=.sl 71,size:=1,bytes:=24,zero:=[.slice none 0 0],dt:=some (.sl (.pair .i .i)) }:=rfl
theorem b7r:j9 134=some { desc:=.other,size:=1,bytes:=8,zero:=[.nilFunc],dt:=none }:=rfl
theorem b7q:j9 142=some { desc:=.sl 4,size:=1,bytes:=24,zero:=[.slice none 0 0],dt:=some (.sl .bool) }:=rfl
theorem b7p:j9 145=some { desc:=.arr 2 3,size:=2,bytes:=16,zero:=[.int .i64 0,.int .i64 0],dt:=some (.pair .i .i) }:=rfl
theorem b7o:j9 149=some { desc:=.int .u64,size:=1,bytes:=8,zero:=[.int .u64 0],dt:=some (.int .u64) }:=rfl
theorem b7n:j9 151=some { desc:=.other,size:=1,bytes:=8,zero:=[.nilFunc],dt:=none }:=rfl
theorem b7m:j9 152=some { desc:=.other,size:=1,bytes:=8,zero:=[.pointer none],dt:=none }:=rfl
theorem b7l:j9 154=some { desc:=.struct [(0,49,1),(1,45,1),(2,4,1),(3,3,1),(4,33,1)],size:=5,bytes:=88,zero:=[.slice none 0 0,.slice none 0 0,.bool false,.int .i64 0,.slice none 0 0],dt:=some (.pair (.sl (.pair .i (.pair .i (.pair (.sl (.sl .i)) (.sl (.sl .i)))))) (.pair (.sl (.pair .i (.pair .i (.pair .i (.pair .i (.pair .i .i)))))) (.pair (.bool) (.pair .i (.sl .i))))) }:=rfl
theorem b7k:j9 156=some { desc:=.other,size:=1,bytes:=8,zero:=[.nilFunc],dt:=none }:=rfl
theorem b7j:j9 158=some { desc:=.struct [(0,3,1),(1,3,1),(2,22,1),(3,22,1)],size:=4,bytes:=64,zero:=[.int .i64 0,.int .i64 0,.slice none 0 0,.slice none 0 0],dt:=some (.pair .i (.pair .i (.pair (.sl (.sl .i)) (.sl (.sl .i))))) }:=rfl
theorem b7i:j9 160=some { desc:=.other,size:=1,bytes:=8,zero:=[.nilFunc],dt:=none }:=rfl
theorem b20:j9 161=some { desc:=.sl 80,size:=1,bytes:=24,zero:=[.slice none 0 0],dt:=some (.sl (.pair (.pair (.sl (.sl (.pair .i (.pair .i (.pair .i .i))))) (.sl (.sl .i))) (.pair (.sl .i) (.pair (T72) (.pair (.pair .i (.pair .i .i)) (.pair (T77) (.pair (T78) .i))))))) }:=rfl
theorem b7h:j9 163=some { desc:=.other,size:=1,bytes:=8,zero:=[.nilFunc],dt:=none }:=rfl
theorem b7g:j9 166=some { desc:=.other,size:=1,bytes:=8,zero:=[.map none],dt:=none }:=rfl
theorem b7f:j9 168=some { desc:=.struct [(0,49,1),(1,45,1),(2,112,1),(3,166,1)],size:=4,bytes:=64,zero:=[.slice none 0 0,.slice none 0 0,.nilFunc,.map none],dt:=none }:=rfl
theorem b7e:j9 172=some { desc:=.struct [(0,145,2),(2,149,1)],size:=3,bytes:=24,zero:=[.int .i64 0,.int .i64 0,.int .u64 0],dt:=some (.pair (.pair .i .i) (.int .u64)) }:=rfl
theorem b7d:j9 174=some { desc:=.other,size:=1,bytes:=8,zero:=[.nilFunc],dt:=none }:=rfl
theorem b7c:j9 177=some { desc:=.struct [(0,3,1),(1,3,1),(2,4,1),(3,3,1),(4,74,4)],size:=8,bytes:=64,zero:=[.int .i64 0,.int .i64 0,.bool false,.int .i64 0,.int .i64 0,.int .i64 0,.int .i64 0,.int .i64 0],dt:=some (.pair .i (.pair .i (.pair (.bool) (.pair .i (.pair .i (.pair .i (.pair .i .i))))))) }:=rfl
theorem b7b:j9 181=some { desc:=.other,size:=1,bytes:=8,zero:=[.pointer none],dt:=none }:=rfl
theorem b7a:j9 184=some { desc:=.int .i64,size:=1,bytes:=8,zero:=[.int .i64 0],dt:=some .i }:=rfl
theorem b69:j9 194=some { desc:=.int .u64,size:=1,bytes:=8,zero:=[.int .u64 0],dt:=some (.int .u64) }:=rfl
theorem b68:j9 197=some { desc:=.other,size:=1,bytes:=8,zero:=[.nilFunc],dt:=none }:=rfl
theorem b67:j9 201=some { desc:=.other,size:=1,bytes:=8,zero:=[.pointer none],dt:=none }:=rfl
theorem b66:j9 204=some { desc:=.other,size:=1,bytes:=8,zero:=[.pointer none],dt:=none }:=rfl
theorem b65:j9 207=some { desc:=.other,size:=1,bytes:=8,zero:=[.nilFunc],dt:=none }:=rfl
theorem b64:j9 209=some { desc:=.int .u64,size:=1,bytes:=8,zero:=[.int .u64 0],dt:=some (.int .u64) }:=rfl
theorem b63:j9 213=some { desc:=.other,size:=1,bytes:=8,zero:=[.pointer none],dt:=none }:=rfl
theorem b62:j9 217=some { desc:=.other,size:=1,bytes:=8,zero:=[.nilFunc],dt:=none }:=rfl
theorem b61:j9 219=some { desc:=.other,size:=1,bytes:=8,zero:=[.nilFunc],dt:=none }:=rfl
theorem b60:j9 221=some { desc:=.other,size:=1,bytes:=8,zero:=[.pointer none],dt:=none }:=rfl
attribute [go_sem] b8A b9A b9z b86 b85 b84 b5m b83 b82 b5l b1Y b81 b5k b80 b8Z b8Y b8X b8W b8V b8U b8T b8S b8R b8Q b8P b8O b8N b5j b8M b8L b8K b8J b8I b7x b7w b7v b7u b7t b7s b7r b7q b7p b7o b7n b7m b7l b7k b7j b7i b20 b7h b7g b7f b7e b7d b7c b7b b7a b69 b68 b67 b66 b65 b64 b63 b62 b61 b60
end Go.Proofs.YtanaeefeggokkaaGreat
