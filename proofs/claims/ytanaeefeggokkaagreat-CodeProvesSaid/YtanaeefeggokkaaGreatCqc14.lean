import Derived.Test.YtanaeefeggokkaaGreatCkp
import Derived.Test.YtanaeefeggokkaaGreatShk
namespace Go.Proofs.YtanaeefeggokkaaGreat
open Go.RowKit
set_option linter.unusedSimpArgs false
set_option linter.unusedVariables false
set_option linter.constructorNameAsVariable false
set_option maxRecDepth 100000
set_option maxHeartbeats 40000000
theorem a06 {S R:Type} (a1:List Int) (yl:Int×Int→S→Option (Step S R)) (s0:S) {r:Sum S R} (h:w8 S R a1 yl s0=some r):IC Tryz.prog 149 [(1000,.box 33 [.sl .i a1])] [] [.bp 1000 0] (fun (y:Int×Int)=>[.ii y.1,.ii y.2]) yl s0 r:=by
 unfold w8 at h;refine IC.of_body Tryz.func149 rfl (by kernel_rfl) rfl (nt:=19) rfl (by decide) (by simp) ?_;intro Γ Γx lp hΓ hΓx hY;refine zo ?_;obtain ⟨c1,h⟩:=b4.1 h;refine zB [(0,.fn (.yield lp) [] []),(1,.bp 1000 0),(3,.ii ((a1.length:Int) - 1))] [(1000,.box 33 [.sl .i a1])] ?_;refine AW.block ?_;obtain ⟨rv6,hw2,ho3⟩:=zw h;refine AW.loopO (o7 S R a1 yl) (fun st1=>⟨fr [(0,.fn (.yield lp) [] []),(1,.bp 1000 0),(3,.ii st1.1)],b6 [(1000,.box 33 [.sl .i a1])],(Γ st1.2)⟩) (((a1.length:Int) - 1),s0) hw2 (zL [] [] []) ?_
 as_aux_lemma =>
  intro st1 x5 h hd4;unfold o7 at h;refine AW.seq ?_;refine zo ?_;refine zB [(0,.fn (.yield lp) [] []),(1,.bp 1000 0),(3,.ii st1.1),(8,.bool (decide (0≤st1.1)))] [(1000,.box 33 [.sl .i a1])] ?_;refine zQ h (fun hb7 h=>?_) (fun hb7 h=>?_)
  ·refine zk ?_;refine AW.seq ?_;refine AW.block ?_;refine zo ?_;obtain ⟨c8,h⟩:=b4.1 h;obtain ⟨c9,h⟩:=b4.1 h;refine zS 5 [(0,.fn (.yield lp) [] []),(1,.bp 1000 0),(3,.ii st1.1),(11,.fn (.yield lp) [] []),(12,.ii st1.1),(15,.dp .i (a1.getD st1.1.toNat 0) 0)] [(1000,.box 33 [.sl .i a1])] ?_;refine zS 1 [(0,.fn (.yield lp) [] []),(1,.bp 1000 0),(3,.ii st1.1),(11,.fn (.yield lp) [] []),(12,.ii st1.1),(16,.ii (a1.getD st1.1.toNat 0))] [(1000,.box 33 [.sl .i a1])] ?_;obtain ⟨x10,hx11,h⟩:=zw h;refine a30 rfl rfl rfl (by decide) _ rfl hY hΓ hΓx (st1.1,(a1.getD st1.1.toNat 0)) [] (by (simp only [go_sem,hb7])<;>(with_reducible and_intros)<;>first|assumption|rfl|omega|(unfold maxLen; omega)) hx11 ?_
   cases x10 with
   | next s =>
    try simp only at h
    refine zT [(0,.fn (.yield lp) [] []),(1,.bp 1000 0),(3,.ii st1.1),(17,.bool true)] [(1000,.box 33 [.sl .i a1])] (Γ s) ?_;refine zB [(0,.fn (.yield lp) [] []),(1,.bp 1000 0),(3,.ii st1.1),(18,.bool false)] [(1000,.box 33 [.sl .i a1])] ?_;refine AW.cond (b:=false) rfl (fun hb12=>by cases hb12) (fun _=>?_);refine zm ?_;refine f7 ?_;refine AW.ops ?_;obtain ⟨c13,h⟩:=b4.1 h;refine zA [(0,.fn (.yield lp) [] []),(1,.bp 1000 0),(3,.ii (st1.1 - 1))] [(1000,.box 33 [.sl .i a1])] ?_;obtain rfl:=zj h;exact ⟨_,rfl,zL [] [] []⟩
   | done e =>
    try simp only at h
    refine zT [(0,.fn (.yield lp) [] []),(1,.bp 1000 0),(3,.ii st1.1),(17,.bool false)] [(1000,.box 33 [.sl .i a1])] (Γx e) ?_;refine zB [(0,.fn (.yield lp) [] []),(1,.bp 1000 0),(3,.ii st1.1),(18,.bool true)] [(1000,.box 33 [.sl .i a1])] ?_;refine AW.cond (b:=true) rfl (fun _=>?_) (fun hb14=>by cases hb14);refine AW.ret ?_;refine d5 ?_;refine b9 ?_;obtain rfl:=zj h;rw [← hd4 _ rfl] at ho3;have h:=ho3
    try simp only at h
    refine b9 ?_;refine d5 ?_;obtain rfl:=zj h;exact rfl
  refine AW.exit ?_;refine g4 ?_;obtain rfl:=zj h;rw [← hd4 _ rfl] at ho3;have h:=ho3
  try simp only at h
  refine g4 ?_;refine j5 ?_;obtain rfl:=zj h;exact rfl
end Go.Proofs.YtanaeefeggokkaaGreat
