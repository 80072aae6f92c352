import Derived.Test.YtenchhmcjmjlbaaTyk
import Derived.Test.YtenchhmcjmjlbaaProg
import Derived.KernelRfl
namespace Go.Proofs.Ytenchhmcjmjlbaa
def b8r:List (TypeId×TInfo):=[
  (3,{ desc:=.int .i64,size:=1,bytes:=8,zero:=[.int .i64 0],dt:=some .i }),
  (4,{ desc:=.bool,size:=1,bytes:=1,zero:=[.bool false],dt:=some (.bool) }),
  (5,{ desc:=.int .u8,size:=1,bytes:=1,zero:=[.int .u8 0],dt:=some (.int .u8) }),
  (22,{ desc:=.sl 28,size:=1,bytes:=24,zero:=[.slice none 0 0],dt:=some (.sl (.sl .i)) }),
  (24,{ desc:=.struct [(0,3,1),(1,3,1),(2,22,1),(3,22,1)],size:=4,bytes:=64,zero:=[.int .i64 0,.int .i64 0,.slice none 0 0,.slice none 0 0],dt:=some (.pair .i (.pair .i (.pair (.sl (.sl .i)) (.sl (.sl .i))))) }),
  (25,{ desc:=.sl 71,size:=1,bytes:=24,zero:=[.slice none 0 0],dt:=some (.sl (.sl (.pair .i (.pair .i (.pair .i .i))))) }),
  (27,{ desc:=.struct [(0,24,4),(4,25,1),(5,22,1)],size:=6,bytes:=112,zero:=[.int .i64 0,.int .i64 0,.slice none 0 0,.slice none 0 0,.slice none 0 0,.slice none 0 0],dt:=some (.pair (.pair .i (.pair .i (.pair (.sl (.sl .i)) (.sl (.sl .i))))) (.pair (.sl (.sl (.pair .i (.pair .i (.pair .i .i))))) (.sl (.sl .i)))) }),
  (28,{ desc:=.sl 3,size:=1,bytes:=24,zero:=[.slice none 0 0],dt:=some (.sl .i) }),
  (30,{ desc:=.other,size:=1,bytes:=8,zero:=[.nilFunc],dt:=none }),
  (31,{ desc:=.int .i64,size:=1,bytes:=8,zero:=[.int .i64 0],dt:=some .i }),
  (34,{ desc:=.sl 68,size:=1,bytes:=24,zero:=[.slice none 0 0],dt:=some (.sl (.pair .i (.pair .i (.pair .i (.pair .i (.pair .i .i)))))) }),
  (38,{ desc:=.other,size:=1,bytes:=8,zero:=[.nilFunc],dt:=none }),
  (45,{ desc:=.sl 34,size:=1,bytes:=24,zero:=[.slice none 0 0],dt:=some (.sl (.sl (.pair .i (.pair .i (.pair .i (.pair .i (.pair .i .i))))))) }),
  (51,{ desc:=.arr 2 3,size:=2,bytes:=16,zero:=[.int .i64 0,.int .i64 0],dt:=some (.pair .i .i) }),
  (57,{ desc:=.arr 2 5,size:=2,bytes:=2,zero:=[.int .u8 0,.int .u8 0],dt:=some (.pair (.int .u8) (.int .u8)) }),
  (58,{ desc:=.sl 5,size:=1,bytes:=24,zero:=[.slice none 0 0],dt:=some (.sl (.int .u8)) }),
  (64,{ desc:=.sl 24,size:=1,bytes:=24,zero:=[.slice none 0 0],dt:=some (.sl (.pair .i (.pair .i (.pair (.sl (.sl .i)) (.sl (.sl .i)))))) }),
  (68,{ desc:=.struct [(0,3,1),(1,3,1),(2,3,1),(3,3,1),(4,3,1),(5,3,1)],size:=6,bytes:=48,zero:=[.int .i64 0,.int .i64 0,.int .i64 0,.int .i64 0,.int .i64 0,.int .i64 0],dt:=some (.pair .i (.pair .i (.pair .i (.pair .i (.pair .i .i))))) }),
  (71,{ desc:=.sl 74,size:=1,bytes:=24,zero:=[.slice none 0 0],dt:=some (.sl (.pair .i (.pair .i (.pair .i .i)))) }),
  (74,{ desc:=.struct [(0,3,1),(1,3,1),(2,3,1),(3,3,1)],size:=4,bytes:=32,zero:=[.int .i64 0,.int .i64 0,.int .i64 0,.int .i64 0],dt:=some (.pair .i (.pair .i (.pair .i .i))) }),
  (77,{ desc:=.struct [(0,25,1),(1,22,1)],size:=2,bytes:=48,zero:=[.slice none 0 0,.slice none 0 0],dt:=some (.pair (.sl (.sl (.pair .i (.pair .i (.pair .i .i))))) (.sl (.sl .i))) }),
  (79,{ desc:=.struct [(0,3,1),(1,3,1)],size:=2,bytes:=16,zero:=[.int .i64 0,.int .i64 0],dt:=some (.pair .i .i) }),
  (80,{ desc:=.arr 12 79,size:=24,bytes:=192,zero:=Z80,dt:=some (T80) }),
  (81,{ desc:=.arr 3 3,size:=3,bytes:=24,zero:=[.int .i64 0,.int .i64 0,.int .i64 0],dt:=some (.pair .i (.pair .i .i)) }),
  (82,{ desc:=.arr 4 3,size:=4,bytes:=32,zero:=[.int .i64 0,.int .i64 0,.int .i64 0,.int .i64 0],dt:=some (.pair .i (.pair .i (.pair .i .i))) }),
  (84,{ desc:=.struct [(0,3,1),(1,4,1),(2,3,1),(3,3,1),(4,82,4)],size:=8,bytes:=64,zero:=[.int .i64 0,.bool false,.int .i64 0,.int .i64 0,.int .i64 0,.int .i64 0,.int .i64 0,.int .i64 0],dt:=some (.pair .i (.pair (.bool) (.pair .i (.pair .i (.pair .i (.pair .i (.pair .i .i))))))) }),
  (85,{ desc:=.arr 2 84,size:=16,bytes:=128,zero:=Z85,dt:=some (T85) }),
  (86,{ desc:=.arr 6 68,size:=36,bytes:=288,zero:=Z86,dt:=some (T86) }),
  (88,{ desc:=.struct [(0,77,2),(2,28,1),(3,80,24),(27,81,3),(30,85,16),(46,86,36),(82,3,1)],size:=83,bytes:=712,zero:=([.slice none 0 0,.slice none 0 0,.slice none 0 0]++(Z80++([.int .i64 0,.int .i64 0,.int .i64 0]++(Z85++(Z86++([.int .i64 0])))))),dt:=some (.pair (.pair (.sl (.sl (.pair .i (.pair .i (.pair .i .i))))) (.sl (.sl .i))) (.pair (.sl .i) (.pair (T80) (.pair (.pair .i (.pair .i .i)) (.pair (T85) (.pair (T86) .i)))))) }),
  (91,{ desc:=.other,size:=1,bytes:=8,zero:=[.nilFunc],dt:=none }),
  (92,{ desc:=.other,size:=1,bytes:=8,zero:=[.pointer none],dt:=none }),
  (95,{ desc:=.sl 161,size:=1,bytes:=24,zero:=[.slice none 0 0],dt:=some (.sl (.pair .i (.pair .i (.pair (.bool) (.pair .i (.pair .i (.pair .i (.pair .i .i)))))))) }),
  (97,{ desc:=.struct [(0,25,1),(1,22,1),(2,28,1),(3,95,1),(4,3,1),(5,81,3),(8,34,1),(9,28,1)],size:=10,bytes:=176,zero:=[.slice none 0 0,.slice none 0 0,.slice none 0 0,.slice none 0 0,.int .i64 0,.int .i64 0,.int .i64 0,.int .i64 0,.slice none 0 0,.slice none 0 0],dt:=some (.pair (.sl (.sl (.pair .i (.pair .i (.pair .i .i))))) (.pair (.sl (.sl .i)) (.pair (.sl .i) (.pair (.sl (.pair .i (.pair .i (.pair (.bool) (.pair .i (.pair .i (.pair .i (.pair .i .i)))))))) (.pair .i (.pair (.pair .i (.pair .i .i)) (.pair (.sl (.pair .i (.pair .i (.pair .i (.pair .i (.pair .i .i)))))) (.sl .i)))))))) }),
  (98,{ desc:=.other,size:=1,bytes:=8,zero:=[.nilFunc],dt:=none }),
  (104,{ desc:=.other,size:=1,bytes:=8,zero:=[.nilFunc],dt:=none }),
  (106,{ desc:=.other,size:=1,bytes:=8,zero:=[.nilFunc],dt:=none }),
  (110,{ desc:=.sl 117,size:=1,bytes:=24,zero:=[.slice none 0 0],dt:=none }),
  (113,{ desc:=.other,size:=1,bytes:=8,zero:=[.nilFunc],dt:=none }),
  (117,{ desc:=.struct [(0,92,1),(1,28,1)],size:=2,bytes:=32,zero:=[.pointer none,.slice none 0 0],dt:=none }),
  (137,{ desc:=.other,size:=1,bytes:=8,zero:=[.nilFunc],dt:=none }),
  (138,{ desc:=.other,size:=1,bytes:=8,zero:=[.map none],dt:=none }),
  (140,{ desc:=.struct [(0,64,1),(1,34,1),(2,137,1),(3,138,1)],size:=4,bytes:=64,zero:=[.slice none 0 0,.slice none 0 0,.nilFunc,.map none],dt:=none }),
  (143,{ desc:=.arr 2 3,size:=2,bytes:=16,zero:=[.int .i64 0,.int .i64 0],dt:=some (.pair .i .i) }),
  (144,{ desc:=.int .u64,size:=1,bytes:=8,zero:=[.int .u64 0],dt:=some (.int .u64) }),
  (146,{ desc:=.struct [(0,143,2),(2,144,1)],size:=3,bytes:=24,zero:=[.int .i64 0,.int .i64 0,.int .u64 0],dt:=some (.pair (.pair .i .i) (.int .u64)) }),
  (150,{ desc:=.other,size:=1,bytes:=8,zero:=[.nilFunc],dt:=none }),
  (151,{ desc:=.other,size:=1,bytes:=8,zero:=[.nilFunc],dt:=none }),
  (157,{ desc:=.other,size:=1,bytes:=8,zero:=[.nilFunc],dt:=none }),
  (161,{ desc:=.struct [(0,3,1),(1,3,1),(2,4,1),(3,3,1),(4,82,4)],size:=8,bytes:=64,zero:=[.int .i64 0,.int .i64 0,.bool false,.int .i64 0,.int .i64 0,.int .i64 0,.int .i64 0,.int .i64 0],dt:=some (.pair .i (.pair .i (.pair (.bool) (.pair .i (.pair .i (.pair .i (.pair .i .i))))))) }),
  (162,{ desc:=.other,size:=1,bytes:=8,zero:=[.nilFunc],dt:=none }),
  (167,{ desc:=.other,size:=1,bytes:=8,zero:=[.nilFunc],dt:=none }),
  (171,{ desc:=.struct [(0,3,1),(1,3,1),(2,22,1),(3,22,1)],size:=4,bytes:=64,zero:=[.int .i64 0,.int .i64 0,.slice none 0 0,.slice none 0 0],dt:=some (.pair .i (.pair .i (.pair (.sl (.sl .i)) (.sl (.sl .i))))) }),
  (176,{ desc:=.other,size:=1,bytes:=8,zero:=[.nilFunc],dt:=none }),
  (177,{ desc:=.sl 88,size:=1,bytes:=24,zero:=[.slice none 0 0],dt:=some (.sl (.pair (.pair (.sl (.sl (.pair .i (.pair .i (.pair .i .i))))) (.sl (.sl .i))) (.pair (.sl .i) (.pair (T80) (.pair (.pair .i (.pair .i .i)) (.pair (T85) (.pair (T86) .i))))))) }),
  (179,{ desc:=.other,size:=1,bytes:=8,zero:=[.nilFunc],dt:=none }),
  (192,{ desc:=.other,size:=1,bytes:=8,zero:=[.nilFunc],dt:=none }),
  (199,{ desc:=.int .i64,size:=1,bytes:=8,zero:=[.int .i64 0],dt:=some .i }),
  (208,{ desc:=.int .u64,size:=1,bytes:=8,zero:=[.int .u64 0],dt:=some (.int .u64) }),
  (211,{ desc:=.sl 213,size:=1,bytes:=24,zero:=[.slice none 0 0],dt:=some (.sl (.pair .i (.pair .i (.pair .i (.pair .i .i))))) }),
  (213,{ desc:=.arr 5 3,size:=5,bytes:=40,zero:=[.int .i64 0,.int .i64 0,.int .i64 0,.int .i64 0,.int .i64 0],dt:=some (.pair .i (.pair .i (.pair .i (.pair .i .i)))) }),
  (216,{ desc:=.other,size:=1,bytes:=8,zero:=[.nilFunc],dt:=none }),
  (218,{ desc:=.sl 79,size:=1,bytes:=24,zero:=[.slice none 0 0],dt:=some (.sl (.pair .i .i)) }),
  (225,{ desc:=.other,size:=1,bytes:=8,zero:=[.pointer none],dt:=none }),
  (228,{ desc:=.other,size:=1,bytes:=8,zero:=[.pointer none],dt:=none }),
  (229,{ desc:=.other,size:=1,bytes:=8,zero:=[.nilFunc],dt:=none }),
  (232,{ desc:=.int .u64,size:=1,bytes:=8,zero:=[.int .u64 0],dt:=some (.int .u64) }),
  (236,{ desc:=.other,size:=1,bytes:=8,zero:=[.pointer none],dt:=none }),
  (238,{ desc:=.other,size:=1,bytes:=8,zero:=[.nilFunc],dt:=none }),
  (240,{ desc:=.sl 4,size:=1,bytes:=24,zero:=[.slice none 0 0],dt:=some (.sl .bool) }),
  (242,{ desc:=.other,size:=1,bytes:=8,zero:=[.pointer none],dt:=none }),
  (244,{ desc:=.other,size:=1,bytes:=8,zero:=[.pointer none],dt:=none })]
def l5:Tab:=a9x b8r
theorem r4:y8 Try.prog l5:=a9w b8r (by kernel_rfl)
theorem b6t (a:Array Operand):((#[]:Array Operand)++a).toList=a.toList:=by simp
theorem b6s (f:Operand) (a:Array Operand):(#[f]++a).toList=f::a.toList:=by simp
attribute [go_sem high] b6t b6s
theorem p5:Try.prog.follows .mixedOrders=true:=by kernel_rfl
theorem b14:EqTy Try.prog 68 (.pair .i (.pair .i (.pair .i (.pair .i (.pair .i .i))))):=a8x 5 (by decide) (by kernel_rfl) (by kernel_rfl) (by kernel_rfl) (by kernel_rfl) (by kernel_rfl) (by kernel_rfl) (by kernel_rfl) rfl
theorem b6H:EqTy Try.prog 74 (.pair .i (.pair .i (.pair .i .i))):=a8x 5 (by decide) (by kernel_rfl) (by kernel_rfl) (by kernel_rfl) (by kernel_rfl) (by kernel_rfl) (by kernel_rfl) (by kernel_rfl) rfl
theorem a8j:MapTy Try.prog 138 146 3 true false (.pair (.pair .i .i) (.int .u64)) .i:=b1e (m:=5) (by kernel_rfl) (by decide) (by kernel_rfl) (by kernel_rfl) (by kernel_rfl) (by kernel_rfl) (by kernel_rfl) (by kernel_rfl) (fun _=>by kernel_rfl) rfl rfl (.inr rfl)
theorem b7d:l5 3=some { desc:=.int .i64,size:=1,bytes:=8,zero:=[.int .i64 0],dt:=some .i }:=rfl
theorem b8q:l5 4=some { desc:=.bool,size:=1,bytes:=1,zero:=[.bool false],dt:=some (.bool) }:=rfl
theorem b8p:l5 5=some { desc:=.int .u8,size:=1,bytes:=1,zero:=[.int .u8 0],dt:=some (.int .u8) }:=rfl
theorem b7Q:l5 22=some { desc:=.sl 28,size:=1,bytes:=24,zero:=[.slice none 0 0],dt:=some (.sl (.sl .i)) }:=rfl
theorem b7P:l5 24=some { desc:=.struct [(0,3,1),(1,3,1),(2,22,1),(3,22,1)],size:=4,bytes:=64,zero:=[.int .i64 0,.int .i64 0,.slice none 0 0,.slice none 0 0],dt:=some (.pair .i (.pair .i (.pair (.sl (.sl .i)) (.sl (.sl .i))))) }:=rfl
theorem b7O:l5 25=some { desc:=.sl 71,size:=1,bytes:=24,zero:=[.slice none 0 0],dt:=some (.sl (.sl (.pair .i (.pair .i (.pair .i .i))))) }:=rfl
theorem b31:l5 27=some { desc:=.struct [(0,24,4),(4,25,1),(5,22,1)],size:=6,bytes:=112,zero:=[.int .i64 0,.int .i64 0,.slice none 0 0,.slice none 0 0,.slice none 0 0,.slice none 0 0],dt:=some (.pair (.pair .i (.pair .i (.pair (.sl (.sl .i)) (.sl (.sl .i))))) (.pair (.sl (.sl (.pair .i (.pair .i (.pair .i .i))))) (.sl (.sl .i)))) }:=rfl
theorem b30:l5 28=some { desc:=.sl 3,size:=1,bytes:=24,zero:=[.slice none 0 0],dt:=some (.sl .i) }:=rfl
theorem b7N:l5 30=some { desc:=.other,size:=1,bytes:=8,zero:=[.nilFunc],dt:=none }:=rfl
theorem b7M:l5 31=some { desc:=.int .i64,size:=1,bytes:=8,zero:=[.int .i64 0],dt:=some .i }:=rfl
theorem b3Z:l5 34=some { desc:=.sl 68,size:=1,bytes:=24,zero:=[.slice none 0 0],dt:=some (.sl (.pair .i (.pair .i (.pair .i (.pair .i (.pair .i .i)))))) }:=rfl
theorem b7L:l5 38=some { desc:=.other,size:=1,bytes:=8,zero:=[.nilFunc],dt:=none }:=rfl
theorem b7K:l5 45=some { desc:=.sl 34,size:=1,bytes:=24,zero:=[.slice none 0 0],dt:=some (.sl (.sl (.pair .i (.pair .i (.pair .i (.pair .i (.pair .i .i))))))) }:=rfl
theorem b7J:l5 51=some { desc:=.arr 2 3,size:=2,bytes:=16,zero:=[.int .i64 0,.int .i64 0],dt:=some (.pair .i .i) }:=rfl
theorem b3Y:l5 57=some { desc:=.arr 2 5,size:=2,bytes:=2,zero:=[.int .u8 0,.int .u8 0],dt:=some (.pair (.int .u8) (.int .u8)) }:=rfl
theorem b3X:l5 58=some { desc:=.sl 5,size:=1,bytes:=24,zero:=[.slice none 0 0],dt:=some (.sl (.int .u8)) }:=rfl
theorem b7I:l5 64=some { desc:=.sl 24,size:=1,bytes:=24,zero:=[.slice none 0 0],dt:=some (.sl (.pair .i (.pair .i (.pair (.sl (.sl .i)) (.sl (.sl .i)))))) }:=rfl
theorem b7H:l5 68=some { desc:=.struct [(0,3,1),(1,3,1),(2,3,1),(3,3,1),(4,3,1),(5,3,1)],size:=6,bytes:=48,zero:=[.int .i64 0,.int .i64 0,.int .i64 0,.int .i64 0,.int .i64 0,.int .i64 0],dt:=some (.pair .i (.pair .i (.pair .i (.pair .i (.pair .i .i))))) }:=rfl
theorem b7G:l5 71=some { desc:=.sl 74,size:=1,bytes:=24,zero:=[.slice none 0 0],dt:=some (.sl (.pair .i (.pair .i (.pair .i .i)))) }:=rfl
theorem b7F:l5 74=some { desc:=.struct [(0,3,1),(1,3,1),(2,3,1),(3,3,1)],size:=4,bytes:=32,zero:=[.int .i64 0,.int .i64 0,.int .i64 0,.int .i64 0],dt:=some (.pair .i (.pair .i (.pair .i .i))) }:=rfl
theorem b7E:l5 77=some { desc:=.struct [(0,25,1),(1,22,1)],size:=2,bytes:=48,zero:=[.slice none 0 0,.slice none 0 0],dt:=some (.pair (.sl (.sl (.pair .i (.pair .i (.pair .i .i))))) (.sl (.sl .i))) }:=rfl
theorem b7D:l5 79=some { desc:=.struct [(0,3,1),(1,3,1)],size:=2,bytes:=16,zero:=[.int .i64 0,.int .i64 0],dt:=some (.pair .i .i) }:=rfl
theorem b7C:l5 80=some { desc:=.arr 12 79,size:=24,bytes:=192,zero:=Z80,dt:=some (T80) }:=rfl
theorem b7B:l5 81=some { desc:=.arr 3 3,size:=3,bytes:=24,zero:=[.int .i64 0,.int .i64 0,.int .i64 0],dt:=some (.pair .i (.pair .i .i)) }:=rfl
theorem b7A:l5 82=some { desc:=.arr 4 3,size:=4,bytes:=32,zero:=[.int .i64 0,.int .i64 0,.int .i64 0,.int .i64 0],dt:=some (.pair .i (.pair .i (.pair .i .i))) }:=rfl
theorem b7z:l5 84=some { desc:=.struct [(0,3,1),(1,4,1),(2,3,1),(3,3,1),(4,82,4)],size:=8,bytes:=64,zero:=[.int .i64 0,.bool false,.int .i64 0,.int .i64 0,.int .i64 0,.int .i64 0,.int .i64 0,.int .i64 0],dt:=some (.pair .i (.pair (.bool) (.pair .i (.pair .i (.pair .i (.pair .i (.pair .i .i))))))) }:=rfl
theorem b7y:l5 85=some { desc:=.arr 2 84,size:=16,bytes:=128,zero:=Z85,dt:=some (T85) }:=rfl
theorem b7x:l5 86=some { desc:=.arr 6 68,size:=36,bytes:=288,zero:=Z86,dt:=some (T86) }:=rfl
theorem b3W:l5 88=some { desc:=.struct [(0,77,2),(2,28,1),(3,80,24),(27,81,3),(30,85,16),(46,86,36),(82,3,1)],size:=83,bytes:=712,zero:=([.slice none 0 0,.slice none 0 0,.slice none 0 0]++(Z80++([.int .i64 0,.int .i64 0,.int .i64 0]++(Z85++(Z86++([.int .i64 0])))))),dt:=some (.pair (.pair (.sl (.sl (.pair .i (.pair .i (.pair .i .i))))) (.sl (.sl .i))) (.pair (.sl .i) (.pair (T80) (.pair (.pair .i (.pair .i .i)) (.pair (T85) (.pair (T86) .i)))))) }:=rfl
theorem b7w:l5 91=some { desc:=.other,size:=1,bytes:=8,zero:=[.nilFunc],dt:=none }:=rfl
theorem b7v:l5 92=some { desc:=.other,size:=1,bytes:=8,zero:=[.pointer none],dt:=none }:=rfl
theorem b7u:l5 95=some { desc:=.sl 161,size:=1,bytes:=24,zero:=[.slice none 0 0],dt:=some (.sl (.pair .i (.pair .i (.pair (.bool) (.pair .i (.pair .i (.pair .i (.pair .i .i)))))))) }:=rfl
theorem b7t:l5 97=some { desc:=.struct [(0,25,1),(1,22,1),(2,28,1),(3,95,1),(4,3,1),(5,81,3),(8,34,1),(9,28,1)],size:=10,bytes:=176,zero:=[.slice none 0 0,.slice none 0 0,.slice none 0 0,.slice none 0 0,.int .i64 0,.int .i64 0,.int .i64 0,.int .i64 0,.slice none 0 0,.slice none 0 0],dt:=some (.pair (.sl (.sl (.pair .i (.pair .i (.pair .i .i))))) (.pair (.sl (.sl .i)) (.pair (.sl .i) (.pair (.sl (.pair .i (.pair .i (.pair (.bool) (.pair .i (.pair .i (.pair .i (.pair .i .i)))))))) (.pair .i (.pair (.pair .i (.pair .i .i)) (.pair (.sl (.pair .i (.pair .i (.pair .i (.pair .i (.pair .i .i)))))) (.sl .i)))))))) }:=rfl
theorem b7s:l5 98=some { desc:=.other,size:=1,bytes:=8,zero:=[.nilFunc],dt:=none }:=rfl
theorem b6d:l5 104=some { desc:=.other,size:=1,bytes:=8,zero:=[.nilFunc],dt:=none }:=rfl
theorem b6c:l5 106=some { desc:=.other,size:=1,bytes:=8,zero:=[.nilFunc],dt:=none }:=rfl
theorem b6b:l5 110=some { desc:=.sl 117,size:=1,bytes:=24,zero:=[.slice none 0 0],dt:=none }:=rfl
theorem b6a:l5 113=some { desc:=.other,size:=1,bytes:=8,zero:=[.nilFunc],dt:=none }:=rfl
theorem b59:l5 117=some { desc:=.struct [(0,92,1),(1,28,1)],size:=2,bytes:=32,zero:=[.pointer none,.slice none 0 0],dt:=none }:=rfl
theorem b58:l5 137=some { desc:=.other,size:=1,bytes:=8,zero:=[.nilFunc],dt:=none }:=rfl
theorem b57:l5 138=some { desc:=.other,size:=1,bytes:=8,zero:=[.map none],dt:=none }:=rfl
theorem b56:l5 140=some { desc:=.struct [(0,64,1),(1,34,1),(2,137,1),(3,138,1)],size:=4,bytes:=64,zero:=[.slice none 0 0,.slice none 0 0,.nilFunc,.map none],dt:=none }:=rfl
theorem b55:l5 143=some { desc:=.arr 2 3,size:=2,bytes:=16,zero:=[.int .i64 0,.int .i64 0],dt:=some (.pair .i .i) }:=rfl
theorem b54:l5 144=some { desc:=.int .u64,size:=1,bytes:=8,zero:=[.int .u64 0],dt:=some (.int .u64) }:=rfl
theorem b53:l5 146=some { desc:=.struct [(0,143,2),(2,144,1)],size:=3,bytes:=24,zero:=[.int .i64 0,.int .i64 0,.int .u64 0],dt:=some (.pair (.pair .i .i) (.int .u64)) }:=rfl
theorem b52:l5 150=some { desc:=.other,size:=1,bytes:=8,zero:=[.nilFunc],dt:=none }:=rfl
theorem b51:l5 151=some { desc:=.other,size:=1,bytes:=8,zero:=[.nilFunc],dt:=none }:=rfl
theorem b50:l5 157=some { desc:=.other,size:=1,bytes:=8,zero:=[.nilFunc],dt:=none }:=rfl
theorem b5Z:l5 161=some { desc:=.struct [(0,3,1),(1,3,1),(2,4,1),(3,3,1),(4,82,4)],size:=8,bytes:=64,zero:=[.int .i64 0,.int .i64 0,.bool false,.int .i64 0,.int .i64 0,.int .i64 0,.int .i64 0,.int .i64 0],dt:=some (.pair .i (.pair .i (.pair (.bool) (.pair .i (.pair .i (.pair .i (.pair .i .i))))))) }:=rfl
theorem b5Y:l5 162=some { desc:=.other,size:=1,bytes:=8,zero:=[.nilFunc],dt:=none }:=rfl
theorem b5X:l5 167=some { desc:=.other,size:=1,bytes:=8,zero:=[.nilFunc],dt:=none }:=rfl
theorem b5W:l5 171=some { desc:=.struct [(0,3,1),(1,3,1),(2,22,1),(3,22,1)],size:=4,bytes:=64,zero:=[.int .i64 0,.int .i64 0,.slice none 0 0,.slice none 0 0],dt:=some (.pair .i (.pair .i (.pair (.sl (.sl .i)) (.sl (.sl .i))))) }:=rfl
theorem b5V:l5 176=some { desc:=.other,size:=1,bytes:=8,zero:=[.nilFunc],dt:=none }:=rfl
theorem b1L:l5 177=some { desc:=.sl 88,size:=1,bytes:=24,zero:=[.slice none 0 0],dt:=some (.sl (.pair (.pair (.sl (.sl (.pair .i (.pair .i (.pair .i .i))))) (.sl (.sl .i))) (.pair (.sl .i) (.pair (T80) (.pair (.pair .i (.pair .i .i)) (.pair (T85) (.pair (T86) .i))))))) }:=rfl
theorem b5U:l5 179=some { desc:=.other,size:=1,bytes:=8,zero:=[.nilFunc],dt:=none }:=rfl
theorem b5T:l5 192=some { desc:=.other,size:=1,bytes:=8,zero:=[.nilFunc],dt:=none }:=rfl
theorem b5S:l5 199=some { desc:=.int .i64,size:=1,bytes:=8,zero:=[.int .i64 0],dt:=some .i }:=rfl
theorem b5R:l5 208=some { desc:=.int .u64,size:=1,bytes:=8,zero:=[.int .u64 0],dt:=some (.int .u64) }:=rfl
theorem b5Q:l5 211=some { desc:=.sl 213,size:=1,bytes:=24,zero:=[.slice none 0 0],dt:=some (.sl (.pair .i (.pair .i (.pair .i (.pair .i .i))))) }:=rfl
theorem b5P:l5 213=some { desc:=.arr 5 3,size:=5,bytes:=40,zero:=[.int .i64 0,.int .i64 0,.int .i64 0,.int .i64 0,.int .i64 0],dt:=some (.pair .i (.pair .i (.pair .i (.pair .i .i)))) }:=rfl
theorem b5O:l5 216=some { desc:=.other,size:=1,bytes:=8,zero:=[.nilFunc],dt:=none }:=rfl
theorem b5N:l5 218=some { desc:=.sl 79,size:=1,bytes:=24,zero:=[.slice none 0 0],dt:=some (.sl (.pair .i .i)) }:=rfl
theorem b5M:l5 225=some { desc:=.other,size:=1,bytes:=8,zero:=[.pointer none],dt:=none }:=rfl
theorem b5L:l5 228=some { desc:=.other,size:=1,bytes:=8,zero:=[.pointer none],dt:=none }:=rfl
theorem b5K:l5 229=some { desc:=.other,size:=1,bytes:=8,zero:=[.nilFunc],dt:=none }:=rfl
theorem b5J:l5 232=some { desc:=.int .u64,size:=1,bytes:=8,zero:=[.int .u64 0],dt:=some (.int .u64) }:=rfl
theorem b5I:l5 236=some { desc:=.other,size:=1,bytes:=8,zero:=[.pointer none],dt:=none }:=rfl
theorem b5H:l5 238=some { desc:=.other,size:=1,bytes:=8,zero:=[.nilFunc],dt:=none }:=rfl
theorem b5G:l5 240=some { desc:=.sl 4,size:=1,bytes:=24,zero:=[.slice none 0 0],dt:=some (.sl .bool) }:=rfl
theorem b5F:l5 242=some { desc:=.other,size:=1,bytes:=8,zero:=[.pointer none],dt:=none }:=rfl
theorem b5E:l5 244=some { desc:=.other,size:=1,bytes:=8,zero:=[.pointer none],dt:=none }:=rfl
attribute [go_sem] b7d b8q b8p b7Q b7P b7O b31 b30 b7N b7M b3Z b7L b7K b7J b3Y b3X b7I b7H b7G b7F b7E b7D b7C b7B b7A b7z b7y b7x b3W b7w b7v b7u b7t b7s b6d b6c b6b b6a b59 b58 b57 b56 b55 b54 b53 b52 b51 b50 b5Z b5Y b5X b5W b5V b1L b5U b5T b5S b5R b5Q b5P b5O b5N b5M b5L b5K b5J b5I b5H b5G b5F b5E
end Go.Proofs.Ytenchhmcjmjlbaa
