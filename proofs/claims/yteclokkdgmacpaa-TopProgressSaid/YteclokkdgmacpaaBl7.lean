import Derived.Test.YteclokkdgmacpaaTb7
import Derived.Lib.QuietBelow
namespace Go.Proofs.Yteclokkdgmacpaa
open Go.RowKit
set_option linter.unusedVariables false
set_option linter.constructorNameAsVariable false
def bitsLen (x:Int):Int:=if x≤0 then 0 else if x=1 then 1 else if x≤3 then 2 else if x≤7 then 3 else 4
set_option maxRecDepth 100000 in
set_option maxHeartbeats 2000000 in
theorem Len64_0 (w:World):Calls Try.prog 124 #[.int .u64 0] w fun e w'=>e=.returned (.int .i64 (bitsLen 0))∧w'=w:=by
  go_enter Try.func124,Try.ntmps124
  go_wp2_with fail
  go_ret
  refine ⟨?_,rfl⟩
  simp [bitsLen]<;>first|kernel_rfl|decide +kernel
set_option maxRecDepth 100000 in
set_option maxHeartbeats 2000000 in
theorem Len64_1 (w:World):Calls Try.prog 124 #[.int .u64 1] w fun e w'=>e=.returned (.int .i64 (bitsLen 1))∧w'=w:=by
  go_enter Try.func124,Try.ntmps124
  go_wp2_with fail
  go_ret
  refine ⟨?_,rfl⟩
  simp [bitsLen]<;>first|kernel_rfl|decide +kernel
set_option maxRecDepth 100000 in
set_option maxHeartbeats 2000000 in
theorem Len64_2 (w:World):Calls Try.prog 124 #[.int .u64 2] w fun e w'=>e=.returned (.int .i64 (bitsLen 2))∧w'=w:=by
  go_enter Try.func124,Try.ntmps124
  go_wp2_with fail
  go_ret
  refine ⟨?_,rfl⟩
  simp [bitsLen]<;>first|kernel_rfl|decide +kernel
set_option maxRecDepth 100000 in
set_option maxHeartbeats 2000000 in
theorem Len64_3 (w:World):Calls Try.prog 124 #[.int .u64 3] w fun e w'=>e=.returned (.int .i64 (bitsLen 3))∧w'=w:=by
  go_enter Try.func124,Try.ntmps124
  go_wp2_with fail
  go_ret
  refine ⟨?_,rfl⟩
  simp [bitsLen]<;>first|kernel_rfl|decide +kernel
set_option maxRecDepth 100000 in
set_option maxHeartbeats 2000000 in
theorem Len64_4 (w:World):Calls Try.prog 124 #[.int .u64 4] w fun e w'=>e=.returned (.int .i64 (bitsLen 4))∧w'=w:=by
  go_enter Try.func124,Try.ntmps124
  go_wp2_with fail
  go_ret
  refine ⟨?_,rfl⟩
  simp [bitsLen]<;>first|kernel_rfl|decide +kernel
set_option maxRecDepth 100000 in
set_option maxHeartbeats 2000000 in
theorem Len64_5 (w:World):Calls Try.prog 124 #[.int .u64 5] w fun e w'=>e=.returned (.int .i64 (bitsLen 5))∧w'=w:=by
  go_enter Try.func124,Try.ntmps124
  go_wp2_with fail
  go_ret
  refine ⟨?_,rfl⟩
  simp [bitsLen]<;>first|kernel_rfl|decide +kernel
set_option maxRecDepth 100000 in
set_option maxHeartbeats 2000000 in
theorem Len64_6 (w:World):Calls Try.prog 124 #[.int .u64 6] w fun e w'=>e=.returned (.int .i64 (bitsLen 6))∧w'=w:=by
  go_enter Try.func124,Try.ntmps124
  go_wp2_with fail
  go_ret
  refine ⟨?_,rfl⟩
  simp [bitsLen]<;>first|kernel_rfl|decide +kernel
set_option maxRecDepth 100000 in
set_option maxHeartbeats 2000000 in
theorem Len64_7 (w:World):Calls Try.prog 124 #[.int .u64 7] w fun e w'=>e=.returned (.int .i64 (bitsLen 7))∧w'=w:=by
  go_enter Try.func124,Try.ntmps124
  go_wp2_with fail
  go_ret
  refine ⟨?_,rfl⟩
  simp [bitsLen]<;>first|kernel_rfl|decide +kernel
set_option maxRecDepth 100000 in
set_option maxHeartbeats 2000000 in
theorem Len64_8 (w:World):Calls Try.prog 124 #[.int .u64 8] w fun e w'=>e=.returned (.int .i64 (bitsLen 8))∧w'=w:=by
  go_enter Try.func124,Try.ntmps124
  go_wp2_with fail
  go_ret
  refine ⟨?_,rfl⟩
  simp [bitsLen]<;>first|kernel_rfl|decide +kernel
theorem Len64_any (x:Int) (hx:0≤x∧x≤8) (w:World):Calls Try.prog 124 #[.int .u64 x] w fun e w'=>e=.returned (.int .i64 (bitsLen x))∧w'=w:=by
  have hc:x=0∨x=1∨x=2∨x=3∨x=4∨x=5∨x=6∨x=7∨x=8:=by omega
  rcases hc with rfl|rfl|rfl|rfl|rfl|rfl|rfl|rfl|rfl
  · exact Len64_0 w
  · exact Len64_1 w
  · exact Len64_2 w
  · exact Len64_3 w
  · exact Len64_4 w
  · exact Len64_5 w
  · exact Len64_6 w
  · exact Len64_7 w
  · exact Len64_8 w
set_option maxRecDepth 100000 in
theorem Len_any (x:Int) (hx:0≤x∧x≤8) (w:World):Calls Try.prog 111 #[.int .u64 x] w fun e w'=>e=.returned (.int .i64 (bitsLen x))∧w'=w:=by
  have hxw:(IntKind.wrap .u64 x)=x:=by simp [IntKind.wrap,IntKind.signed,IntKind.bits]; omega
  go_enter Try.func111,Try.ntmps111
  go_wp2_with fail
  try simp only [hxw]
  refine (Len64_any x hx _).mono ?_
  rintro e w1 ⟨rfl,rfl⟩
  go_wp2_with fail
  go_ret
  exact ⟨rfl,rfl⟩
noncomputable def math_bits_Len (x:Int):Option Int:=ck (0≤x) <| ck (x≤8) <| some (bitsLen x)
theorem hc_math_bits_Len (x:Int) {r:Int} (h:math_bits_Len x=some r):HC Try.prog 111 [] [.int .u64 x] [] (.int .i64 r):=by
  unfold math_bits_Len at h
  obtain ⟨h0,h⟩:=ck_some.1 h
  obtain ⟨h8,h⟩:=ck_some.1 h
  obtain rfl:=Option.some.inj h
  refine ⟨⟨_,Try.func111,by kernel_rfl,by kernel_rfl⟩,fun η A0 w vs hp hv=>?_⟩
  obtain ⟨u,us,e1,e2,e3⟩:=hv
  unfold RepV at e2
  unfold RepVs at e3
  subst e2; subst e3
  obtain rfl:vs=#[.int .u64 x]:=Array.toList_inj.1 e1
  refine (Len_any x ⟨h0,h8⟩ w).mono fun e w' ⟨he,hw⟩=>?_
  subst hw
  exact ⟨_,η,he,fun _ _ _=>rfl,hp,by unfold RepV; rfl,⟨rfl,rfl,rfl,Nat.le_refl _,fun _ _ _=>rfl⟩,fun g hg _=>hg⟩
end Go.Proofs.Yteclokkdgmacpaa
