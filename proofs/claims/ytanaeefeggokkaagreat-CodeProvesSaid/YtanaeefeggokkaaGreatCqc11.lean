import Derived.Test.YtanaeefeggokkaaGreatCkp
import Derived.Test.YtanaeefeggokkaaGreatShk
import Derived.Test.YtanaeefeggokkaaGreatAvd
import Derived.Test.YtanaeefeggokkaaGreatCqc1
import Derived.Test.YtanaeefeggokkaaGreatCqc2
import Derived.Test.YtanaeefeggokkaaGreatCqc9
namespace Go.Proofs.YtanaeefeggokkaaGreat
open Go.RowKit
set_option linter.unusedSimpArgs false
set_option linter.unusedVariables false
set_option linter.constructorNameAsVariable false
set_option maxRecDepth 100000
set_option maxHeartbeats 40000000
theorem a4f (c:List (List (Int×Int×Int×Int))) (use:List (List Int)) {r:Bool} (h:O3 c use=some r):HC Tryz.prog 45 [] [.sl (.sl Y4) c,.sl (.sl .i) use] [] (.bool r):=by
 unfold O3 at h;refine zH Tryz.func45 [.tmp 4] 44 ?_;refine zo ?_;refine zB [(0,.sl (.sl Y4) c),(1,.sl (.sl .i) use)] [] ?_;refine AW.seq ?_;refine zo ?_;refine zS 2 [(0,.sl (.sl Y4) c),(1,.sl (.sl .i) use),(8,.ii (use.length:Int))] [] ?_;obtain ⟨v0,hv1,h⟩:=zw h;refine zC [] [] (q7 1 (use.length:Int) 2 hv1) [(0,.sl (.sl Y4) c),(1,.sl (.sl .i) use),(9,.bool v0)] [] ?_;refine zB [(0,.sl (.sl Y4) c),(1,.sl (.sl .i) use),(10,.bool (!v0))] [] ?_;refine zQ h (fun hb2 h=>?_) (fun hb2 h=>?_)
 ·refine zo ?_;refine zB [(4,.bool false)] [] ?_;refine zr ?_;obtain rfl:=zj h;exact zR [] [] []
 refine zk ?_;refine AW.have1 (fun _:Unit=>U6=some r) (fun _=>⟨fr [],b6 [],gt⟩) (fun _ h=>?_) (fun hk_linealref08_IsUse_k1=>?_)
 ·as_aux_lemma =>
   unfold U6 at h;refine zo ?_;refine zB [(4,.bool true)] [] ?_;refine AW.ret ?_;obtain rfl:=zj h;exact zR [] [] []
 refine AW.seq ?_;refine zo ?_;refine zB [(0,.sl (.sl Y4) c),(1,.sl (.sl .i) use),(5,.ii 0)] [] ?_;refine AW.block ?_;obtain ⟨rv7,hw3,ho4⟩:=zw h;refine AW.loopO (A8 c use) (fun st1=>⟨fr [(0,.sl (.sl Y4) c),(1,.sl (.sl .i) use),(5,.ii st1)],b6 [],gt⟩) 0 hw3 (zL [] [] []) ?_
 as_aux_lemma =>
  intro st1 x6 h hd5;unfold A8 at h;refine AW.seq ?_;refine zo ?_;refine zB [(0,.sl (.sl Y4) c),(1,.sl (.sl .i) use),(5,.ii st1),(14,.bool (decide (st1<(use.length:Int))))] [] ?_;refine zQ h (fun hb8 h=>?_) (fun hb8 h=>?_)
  ·refine zk ?_;refine AW.have1 (fun _:Unit=>O2 st1=some x6) (fun _=>⟨fr [(0,.sl (.sl Y4) c),(1,.sl (.sl .i) use),(5,.ii st1)],b6 [],gt⟩) (fun _ h=>?_) (fun hk_linealref08_IsUse_k2=>?_)
   ·as_aux_lemma =>
     unfold O2 at h;refine AW.ops ?_;obtain ⟨c9,h⟩:=b4.1 h;refine zA [(0,.sl (.sl Y4) c),(1,.sl (.sl .i) use),(5,.ii (st1+1))] [] ?_;obtain rfl:=zj h;exact ⟨_,rfl,zL [] [] []⟩
   refine AW.seq ?_;refine AW.block ?_;refine AW.seq ?_;refine zo ?_;obtain ⟨c10,h⟩:=b4.1 h;obtain ⟨c11,h⟩:=b4.1 h;refine zS 5 [(0,.sl (.sl Y4) c),(1,.sl (.sl .i) use),(5,.ii st1),(21,.ii ((use.getD st1.toNat []).length:Int))] [] ?_;refine zB [(0,.sl (.sl Y4) c),(1,.sl (.sl .i) use),(5,.ii st1),(22,.bool (decide (3<((use.getD st1.toNat []).length:Int))))] [] ?_;refine zQ h (fun hb12 h=>?_) (fun hb12 h=>?_)
   ·refine zo ?_;refine zB [(4,.bool false)] [] ?_;refine zr ?_;refine d5 ?_;refine b9 ?_;obtain rfl:=zj h
    try rw [← hd5 _ rfl] at ho4
    have h:=ho4
    try simp only at h
    refine b9 ?_;refine d5 ?_;refine b9 ?_;obtain rfl:=zj h;exact zR [] [] []
   refine zk ?_;refine zo ?_;refine zB [(0,.sl (.sl Y4) c),(1,.sl (.sl .i) use),(5,.ii st1),(6,.ii 0)] [] ?_;refine AW.block ?_;obtain ⟨rv17,hw13,ho14⟩:=zw h;refine AW.loopO (A7 c use st1) (fun st2=>⟨fr [(0,.sl (.sl Y4) c),(1,.sl (.sl .i) use),(5,.ii st1),(6,.ii st2)],b6 [],gt⟩) 0 hw13 (zL [] [] []) ?_
   as_aux_lemma =>
    intro st2 x16 h hd15;unfold A7 at h;refine AW.seq ?_;refine zo ?_;obtain ⟨c18,h⟩:=b4.1 h;obtain ⟨c19,h⟩:=b4.1 h;refine zS 5 [(0,.sl (.sl Y4) c),(1,.sl (.sl .i) use),(5,.ii st1),(6,.ii st2),(23,.ii st2),(27,.sl .i (use.getD st1.toNat []))] [] ?_;refine zB [(0,.sl (.sl Y4) c),(1,.sl (.sl .i) use),(5,.ii st1),(6,.ii st2),(29,.bool (decide (st2<((use.getD st1.toNat []).length:Int))))] [] ?_;refine zQ h (fun hb20 h=>?_) (fun hb20 h=>?_)
    ·refine zk ?_;refine AW.seq ?_;refine AW.block ?_;refine zo ?_;obtain ⟨c21,h⟩:=b4.1 h;obtain ⟨c22,h⟩:=b4.1 h;refine zS 5 [(0,.sl (.sl Y4) c),(1,.sl (.sl .i) use),(5,.ii st1),(6,.ii st2),(35,.sl .i (use.getD st1.toNat [])),(36,.ii st2)] [] ?_;obtain ⟨c23,h⟩:=b4.1 h;obtain ⟨c24,h⟩:=b4.1 h;obtain ⟨c25,h⟩:=b4.1 h;refine zS 5 [(0,.sl (.sl Y4) c),(1,.sl (.sl .i) use),(5,.ii st1),(6,.ii st2),(38,.ii ((use.getD st1.toNat []).getD st2.toNat 0)),(41,.ii ((c.length:Int) - 1))] [] ?_;obtain ⟨v0_2,hv26,h⟩:=zw h;refine zC [] [] (q7 0 ((use.getD st1.toNat []).getD st2.toNat 0) ((c.length:Int) - 1) hv26) [(0,.sl (.sl Y4) c),(1,.sl (.sl .i) use),(5,.ii st1),(6,.ii st2),(42,.bool v0_2)] [] ?_;refine zB [(0,.sl (.sl Y4) c),(1,.sl (.sl .i) use),(5,.ii st1),(6,.ii st2),(43,.bool (!v0_2))] [] ?_;refine zQ h (fun hb27 h=>?_) (fun hb27 h=>?_)
     ·refine zo ?_;refine zB [(4,.bool false)] [] ?_;refine AW.ret ?_;refine d5 ?_;refine b9 ?_;obtain rfl:=zj h
      try rw [← hd15 _ rfl] at ho14
      have h:=ho14
      try simp only at h
      refine b9 ?_;refine d5 ?_;refine d5 ?_;refine b9 ?_;obtain rfl:=zj h
      try rw [← hd5 _ rfl] at ho4
      have h:=ho4
      try simp only at h
      refine b9 ?_;refine d5 ?_;refine b9 ?_;obtain rfl:=zj h;exact zR [] [] []
     refine zm ?_;refine f7 ?_;refine AW.ops ?_;obtain ⟨c28,h⟩:=b4.1 h;refine zA [(0,.sl (.sl Y4) c),(1,.sl (.sl .i) use),(5,.ii st1),(6,.ii (st2+1))] [] ?_;obtain rfl:=zj h;exact ⟨_,rfl,zL [] [] []⟩
    refine AW.exit ?_;refine g4 ?_;obtain rfl:=zj h
    try rw [← hd15 _ rfl] at ho14
    have h:=ho14
    try simp only at h
    refine g4 ?_;refine j5 ?_;refine l8 ?_;refine f7 ?_;exact AW.weaken (zL [] [] []) (hk_linealref08_IsUse_k2 () h)
  refine AW.exit ?_;refine g4 ?_;obtain rfl:=zj h
  try rw [← hd5 _ rfl] at ho4
  have h:=ho4
  try simp only at h
  refine g4 ?_;refine j5 ?_;refine f7 ?_;exact AW.weaken (zL [] [] []) (hk_linealref08_IsUse_k1 () h)
theorem a0M (c:List (List (Int×Int×Int×Int))) (b8:List Int) {r:Bool} (h:P9 c b8=some r):HC Tryz.prog 37 [] [.sl (.sl Y4) c,.sl .i b8] [] (.bool r):=by
 unfold P9 at h;refine zH Tryz.func37 [.tmp 4] 28 ?_;refine zo ?_;refine zB [(0,.sl (.sl Y4) c),(1,.sl .i b8)] [] ?_;refine AW.seq ?_;refine zo ?_;refine zB [(0,.sl (.sl Y4) c),(1,.sl .i b8),(11,.bool (!(decide ((b8.length:Int)=(c.length:Int)))))] [] ?_;refine zQ h (fun hb1 h=>?_) (fun hb1 h=>?_)
 ·refine zo ?_;refine zB [(4,.bool false)] [] ?_;refine zr ?_;obtain rfl:=zj h;exact zR [] [] []
 refine zk ?_;refine AW.have1 (fun _:Unit=>a0P=some r) (fun _=>⟨fr [],b6 [],gt⟩) (fun _ h=>?_) (fun hk_code_areMarks_k1=>?_)
 ·as_aux_lemma =>
   unfold a0P at h;refine zo ?_;refine zB [(4,.bool true)] [] ?_;refine AW.ret ?_;obtain rfl:=zj h;exact zR [] [] []
 refine AW.seq ?_;refine zo ?_;refine zB [(0,.sl (.sl Y4) c),(12,.sl .i b8),(13,.ii (b8.length:Int)),(14,.ii 0)] [] ?_;refine AW.block ?_;obtain ⟨rv6,hw2,ho3⟩:=zw h;refine AW.loopO (K8 c b8) (fun st1=>⟨fr [(0,.sl (.sl Y4) c),(12,.sl .i b8),(13,.ii (b8.length:Int)),(14,.ii st1)],b6 [],gt⟩) 0 hw2 (zL [] [] []) ?_
 as_aux_lemma =>
  intro st1 x5 h hd4;unfold K8 at h;refine zo ?_;refine zB [(0,.sl (.sl Y4) c),(12,.sl .i b8),(13,.ii (b8.length:Int)),(14,.ii st1),(15,.bool (decide (st1<(b8.length:Int))))] [] ?_;refine AW.seq ?_;refine zQ h (fun hb7 h=>?_) (fun hb7 h=>?_)
  ·refine zk ?_;refine AW.seq ?_;refine AW.block ?_;refine zo ?_;obtain ⟨c8,h⟩:=b4.1 h;obtain ⟨c9,h⟩:=b4.1 h;refine zB [(0,.sl (.sl Y4) c),(5,.ii st1),(6,.ii (b8.getD st1.toNat 0)),(12,.sl .i b8),(13,.ii (b8.length:Int)),(14,.ii st1)] [] ?_;refine zo ?_;obtain ⟨c10,h⟩:=b4.1 h;obtain ⟨c11,h⟩:=b4.1 h;refine zS 5 [(0,.sl (.sl Y4) c),(12,.sl .i b8),(13,.ii (b8.length:Int)),(14,.ii st1),(19,.ii (b8.getD st1.toNat 0)),(23,.sl Y4 (c.getD st1.toNat []))] [] ?_;refine zS 1 [(0,.sl (.sl Y4) c),(12,.sl .i b8),(13,.ii (b8.length:Int)),(14,.ii st1),(19,.ii (b8.getD st1.toNat 0)),(24,.ii ((c.getD st1.toNat []).length:Int))] [] ?_;obtain ⟨v0,hv12,h⟩:=zw h;refine zC [] [] (D8 (b8.getD st1.toNat 0) ((c.getD st1.toNat []).length:Int) hv12) [(0,.sl (.sl Y4) c),(12,.sl .i b8),(13,.ii (b8.length:Int)),(14,.ii st1),(25,.bool v0)] [] ?_;refine zB [(0,.sl (.sl Y4) c),(12,.sl .i b8),(13,.ii (b8.length:Int)),(14,.ii st1),(26,.bool (!v0))] [] ?_;refine zQ h (fun hb13 h=>?_) (fun hb13 h=>?_)
   ·refine zo ?_;refine zB [(4,.bool false)] [] ?_;refine AW.ret ?_;refine d5 ?_;refine b9 ?_;obtain rfl:=zj h
    try rw [← hd4 _ rfl] at ho3
    have h:=ho3
    try simp only at h
    refine b9 ?_;refine d5 ?_;refine b9 ?_;obtain rfl:=zj h;exact zR [] [] []
   refine zm ?_;refine f7 ?_;refine AW.ops ?_;obtain ⟨c14,h⟩:=b4.1 h;refine zA [(0,.sl (.sl Y4) c),(12,.sl .i b8),(13,.ii (b8.length:Int)),(14,.ii (st1+1))] [] ?_;obtain rfl:=zj h;exact ⟨_,rfl,zL [] [] []⟩
  refine AW.exit ?_;refine g4 ?_;obtain rfl:=zj h
  try rw [← hd4 _ rfl] at ho3
  have h:=ho3
  try simp only at h
  refine g4 ?_;refine j5 ?_;refine f7 ?_;exact AW.weaken (zL [] [] []) (hk_code_areMarks_k1 () h)
theorem a3S (s:List (Int×Int)) {r:Unit} (h:S0 s=some r):HC Tryz.prog 75 [] [.sl (.pair .i .i) s] [(2000,.box 131 [.sl (.pair .i .i) s])] (.fn (.func 115) [] [.bp 2000 0]):=by
 unfold S0 at h;refine zH Tryz.func75 [.tmp 2] 4 ?_;refine zo ?_;refine zB [(1,.bp 1 0)] [(1,.box 131 [.sl (.pair .i .i) s])] ?_;refine zo ?_;refine zB [(2,.fn (.func 115) [] [.bp 1 0])] [(1,.box 131 [.sl (.pair .i .i) s])] ?_;refine AW.ret ?_;obtain rfl:=zj h;exact zR [] [] [(2000,1)]
theorem a7r (s:List Int) (v0:Int) {r:Int} (h:a1w s v0=some r):HC Tryz.prog 116 [] [.sl .i s,.ii v0] [] (.ii r):=by
 unfold a1w at h;refine zH Tryz.func116 [.tmp 4] 19 ?_;refine zo ?_;refine zB [(0,.sl .i s),(1,.ii v0)] [] ?_;refine AW.have1 (fun _:Unit=>Z5=some r) (fun _=>⟨fr [],b6 [],gt⟩) (fun _ h=>?_) (fun hk_slices_Index_k1=>?_)
 ·as_aux_lemma =>
   unfold Z5 at h;refine zo ?_;refine zB [(4,.ii (-1))] [] ?_;refine AW.ret ?_;obtain rfl:=zj h;exact zR [] [] []
 refine AW.seq ?_;refine zo ?_;refine zB [(0,.sl .i s),(1,.ii v0),(7,.ii (s.length:Int)),(8,.ii 0)] [] ?_;refine AW.block ?_;obtain ⟨rv5,hw1,ho2⟩:=zw h;refine AW.loopO (M9 s v0) (fun st1=>⟨fr [(0,.sl .i s),(1,.ii v0),(7,.ii (s.length:Int)),(8,.ii st1)],b6 [],gt⟩) 0 hw1 (zL [] [] []) ?_
 as_aux_lemma =>
  intro st1 x4 h hd3;unfold M9 at h;refine zo ?_;refine zB [(0,.sl .i s),(1,.ii v0),(7,.ii (s.length:Int)),(8,.ii st1),(9,.bool (decide (st1<(s.length:Int))))] [] ?_;refine AW.seq ?_;refine zQ h (fun hb6 h=>?_) (fun hb6 h=>?_)
  ·refine zk ?_;refine AW.seq ?_;refine AW.block ?_;refine zo ?_;refine zB [(0,.sl .i s),(1,.ii v0),(5,.ii st1),(7,.ii (s.length:Int)),(8,.ii st1)] [] ?_;refine zo ?_;obtain ⟨c7,h⟩:=b4.1 h;obtain ⟨c8,h⟩:=b4.1 h;refine zS 5 [(0,.sl .i s),(1,.ii v0),(5,.ii st1),(7,.ii (s.length:Int)),(8,.ii st1),(11,.ii v0),(15,.ii (s.getD st1.toNat 0))] [] ?_;refine zB [(0,.sl .i s),(1,.ii v0),(5,.ii st1),(7,.ii (s.length:Int)),(8,.ii st1),(16,.bool (decide (v0=(s.getD st1.toNat 0))))] [] ?_;refine zQ h (fun hb9 h=>?_) (fun hb9 h=>?_)
   ·refine zo ?_;refine zB [(4,.ii st1)] [] ?_;refine AW.ret ?_;refine d5 ?_;refine b9 ?_;obtain rfl:=zj h;rw [← hd3 _ rfl] at ho2;have h:=ho2
    try simp only at h
    refine b9 ?_;refine d5 ?_;refine b9 ?_;obtain rfl:=zj h;exact zR [] [] []
   refine zm ?_;refine f7 ?_;refine AW.ops ?_;obtain ⟨c10,h⟩:=b4.1 h;refine zA [(0,.sl .i s),(1,.ii v0),(7,.ii (s.length:Int)),(8,.ii (st1+1))] [] ?_;obtain rfl:=zj h;exact ⟨_,rfl,zL [] [] []⟩
  refine AW.exit ?_;refine g4 ?_;obtain rfl:=zj h
  try rw [← hd3 _ rfl] at ho2
  have h:=ho2
  try simp only at h
  refine g4 ?_;refine j5 ?_;refine f7 ?_;exact AW.weaken (zL [] [] []) (hk_slices_Index_k1 () h)
theorem a5i (s:List Int) (v0:Int) {r:Bool} (h:S4 s v0=some r):HC Tryz.prog 76 [] [.sl .i s,.ii v0] [] (.bool r):=by
 unfold S4 at h;refine zH Tryz.func76 [.tmp 4] 9 ?_;refine zo ?_;refine zB [(0,.sl .i s),(1,.ii v0)] [] ?_;refine zo ?_;refine zS 2 [(5,.sl .i s),(6,.ii v0)] [] ?_;obtain ⟨v0_2,hv1,h⟩:=zw h;refine zC [] [] (a7r s v0 hv1) [(7,.ii v0_2)] [] ?_;refine zB [(4,.bool (decide (0≤v0_2)))] [] ?_;refine AW.ret ?_;obtain rfl:=zj h;exact zR [] [] []
theorem a0l {S R:Type} (a1:List (Int×Int)) (yl:Int×(Int×Int)→S→Option (Step S R)) (s0:S) {r:Sum S R} (h:N7 S R a1 yl s0=some r):IC Tryz.prog 115 [(1000,.box 131 [.sl (.pair .i .i) a1])] [] [.bp 1000 0] (fun (y:Int×(Int×Int))=>[.ii y.1,.agg [.ii y.2.1,.ii y.2.2]]) yl s0 r:=by
 unfold N7 at h;refine IC.of_body Tryz.func115 rfl (by kernel_rfl) rfl (nt:=19) rfl (by decide) (by simp) ?_;intro Γ Γx lp hΓ hΓx hY;refine zo ?_;obtain ⟨c1,h⟩:=b4.1 h;refine zB [(0,.fn (.yield lp) [] []),(1,.bp 1000 0),(3,.ii ((a1.length:Int) - 1))] [(1000,.box 131 [.sl (.pair .i .i) a1])] ?_;refine AW.block ?_;obtain ⟨rv6,hw2,ho3⟩:=zw h;refine AW.loopO (q8 S R a1 yl) (fun st1=>⟨fr [(0,.fn (.yield lp) [] []),(1,.bp 1000 0),(3,.ii st1.1)],b6 [(1000,.box 131 [.sl (.pair .i .i) a1])],(Γ st1.2)⟩) (((a1.length:Int) - 1),s0) hw2 (zL [] [] []) ?_
 as_aux_lemma =>
  intro st1 x5 h hd4;unfold q8 at h;refine AW.seq ?_;refine zo ?_;refine zB [(0,.fn (.yield lp) [] []),(1,.bp 1000 0),(3,.ii st1.1),(8,.bool (decide (0≤st1.1)))] [(1000,.box 131 [.sl (.pair .i .i) a1])] ?_;refine zQ h (fun hb7 h=>?_) (fun hb7 h=>?_)
  ·refine zk ?_;refine AW.seq ?_;refine AW.block ?_;refine zo ?_;obtain ⟨c8,h⟩:=b4.1 h;obtain ⟨c9,h⟩:=b4.1 h;refine zS 5 [(0,.fn (.yield lp) [] []),(1,.bp 1000 0),(3,.ii st1.1),(11,.fn (.yield lp) [] []),(12,.ii st1.1),(15,.dp (.pair .i .i) (a1.getD st1.1.toNat (0,0)) 0)] [(1000,.box 131 [.sl (.pair .i .i) a1])] ?_;refine zS 1 [(0,.fn (.yield lp) [] []),(1,.bp 1000 0),(3,.ii st1.1),(11,.fn (.yield lp) [] []),(12,.ii st1.1),(16,.agg [.ii (a1.getD st1.1.toNat (0,0)).1,.ii (a1.getD st1.1.toNat (0,0)).2])] [(1000,.box 131 [.sl (.pair .i .i) a1])] ?_;obtain ⟨x10,hx11,h⟩:=zw h;refine a30 rfl rfl rfl (by decide) _ rfl hY hΓ hΓx (st1.1,(a1.getD st1.1.toNat (0,0))) [] (by (simp only [go_sem,hb7])<;>(with_reducible and_intros)<;>first|assumption|rfl|omega|(unfold maxLen; omega)) hx11 ?_
   cases x10 with
   | next s =>
    try simp only at h
    refine zT [(0,.fn (.yield lp) [] []),(1,.bp 1000 0),(3,.ii st1.1),(17,.bool true)] [(1000,.box 131 [.sl (.pair .i .i) a1])] (Γ s) ?_;refine zB [(0,.fn (.yield lp) [] []),(1,.bp 1000 0),(3,.ii st1.1),(18,.bool false)] [(1000,.box 131 [.sl (.pair .i .i) a1])] ?_;refine AW.cond (b:=false) rfl (fun hb12=>by cases hb12) (fun _=>?_);refine zm ?_;refine f7 ?_;refine AW.ops ?_;obtain ⟨c13,h⟩:=b4.1 h;refine zA [(0,.fn (.yield lp) [] []),(1,.bp 1000 0),(3,.ii (st1.1 - 1))] [(1000,.box 131 [.sl (.pair .i .i) a1])] ?_;obtain rfl:=zj h;exact ⟨_,rfl,zL [] [] []⟩
   | done e =>
    try simp only at h
    refine zT [(0,.fn (.yield lp) [] []),(1,.bp 1000 0),(3,.ii st1.1),(17,.bool false)] [(1000,.box 131 [.sl (.pair .i .i) a1])] (Γx e) ?_;refine zB [(0,.fn (.yield lp) [] []),(1,.bp 1000 0),(3,.ii st1.1),(18,.bool true)] [(1000,.box 131 [.sl (.pair .i .i) a1])] ?_;refine AW.cond (b:=true) rfl (fun _=>?_) (fun hb14=>by cases hb14);refine AW.ret ?_;refine d5 ?_;refine b9 ?_;obtain rfl:=zj h;rw [← hd4 _ rfl] at ho3;have h:=ho3
    try simp only at h
    refine b9 ?_;refine d5 ?_;obtain rfl:=zj h;exact rfl
  refine AW.exit ?_;refine g4 ?_;obtain rfl:=zj h;rw [← hd4 _ rfl] at ho3;have h:=ho3
  try simp only at h
  refine g4 ?_;refine j5 ?_;obtain rfl:=zj h;exact rfl
theorem a0L (r0:((List (List (Int×Int×Int×Int)))×(List (List Int)))×(List Int)×(El T72)×(Int×Int×Int)×(El T77)×(El T78)×Int) {r:(List Int)} (h:C5 r0=some r):HC Tryz.prog 83 [] [.agg (.sl (.sl Y4) r0.1.1::(.sl (.sl .i) r0.1.2::(.sl .i r0.2.1::(b3 T72 r0.2.2.1++(.ii r0.2.2.2.1.1::(.ii r0.2.2.2.1.2.1::(.ii r0.2.2.2.1.2.2::(b3 T77 r0.2.2.2.2.1++(b3 T78 r0.2.2.2.2.2.1++(.ii r0.2.2.2.2.2.2::[]))))))))))] [(2000,.arr 3 .i r)] (.own 2000):=by
 unfold C5 at h;refine zH Tryz.func83 [.tmp 2] 21 ?_;refine zo ?_;refine zB [(1,.bp 1 0)] [(1,.box 80 (.sl (.sl Y4) r0.1.1::(.sl (.sl .i) r0.1.2::(.sl .i r0.2.1::(b3 T72 r0.2.2.1++(.ii r0.2.2.2.1.1::(.ii r0.2.2.2.1.2.1::(.ii r0.2.2.2.1.2.2::(b3 T77 r0.2.2.2.2.1++(b3 T78 r0.2.2.2.2.2.1++(.ii r0.2.2.2.2.2.2::[])))))))))))] ?_;refine zo ?_;refine zB [(1,.bp 1 0),(3,.cv (.slice none 0 0))] [(1,.box 80 (.sl (.sl Y4) r0.1.1::(.sl (.sl .i) r0.1.2::(.sl .i r0.2.1::(b3 T72 r0.2.2.1++(.ii r0.2.2.2.1.1::(.ii r0.2.2.2.1.2.1::(.ii r0.2.2.2.1.2.2::(b3 T77 r0.2.2.2.2.1++(b3 T78 r0.2.2.2.2.2.1++(.ii r0.2.2.2.2.2.2::[])))))))))))] ?_;refine AW.have1 (fun b1:(List Int)=>a0O b1=some r) (fun b1=>⟨fr [(3,.own 18)],b6 [(18,.arr 3 .i b1)],gt⟩) (fun b1 h=>?_) (fun hk_code_run_left_k1=>?_)
 ·as_aux_lemma =>
   unfold a0O at h;refine zo ?_;refine zB [(2,.own 18)] [(18,.arr 3 .i b1)] ?_;refine AW.ret ?_;obtain rfl:=zj h;exact zR [] [] [(2000,18)]
 refine AW.seq ?_;refine zo ?_;refine zB [(1,.bp 1 0),(3,.cv (.slice none 0 0)),(8,.ii (r0.1.2.length:Int)),(9,.ii 0)] [(1,.box 80 (.sl (.sl Y4) r0.1.1::(.sl (.sl .i) r0.1.2::(.sl .i r0.2.1::(b3 T72 r0.2.2.1++(.ii r0.2.2.2.1.1::(.ii r0.2.2.2.1.2.1::(.ii r0.2.2.2.1.2.2::(b3 T77 r0.2.2.2.2.1++(b3 T78 r0.2.2.2.2.2.1++(.ii r0.2.2.2.2.2.2::[])))))))))))] ?_;refine AW.block ?_;obtain ⟨rv5,hw1,ho2⟩:=zw h;refine AW.loopO (R4 r0) (fun st1=>⟨fr [(1,.bp 1 0),(3,.own 18),(8,.ii (r0.1.2.length:Int)),(9,.ii st1.2)],b6 [(1,.box 80 (.sl (.sl Y4) r0.1.1::(.sl (.sl .i) r0.1.2::(.sl .i r0.2.1::(b3 T72 r0.2.2.1++(.ii r0.2.2.2.1.1::(.ii r0.2.2.2.1.2.1::(.ii r0.2.2.2.1.2.2::(b3 T77 r0.2.2.2.2.1++(b3 T78 r0.2.2.2.2.2.1++(.ii r0.2.2.2.2.2.2::[]))))))))))),(18,.arr 3 .i st1.1)],gt⟩) ([],0) hw1 (zL [] [18] []) ?_
 as_aux_lemma =>
  intro st1 x4 h hd3;unfold R4 at h;refine zo ?_;refine zB [(1,.bp 1 0),(3,.own 18),(8,.ii (r0.1.2.length:Int)),(9,.ii st1.2),(10,.bool (decide (st1.2<(r0.1.2.length:Int))))] [(1,.box 80 (.sl (.sl Y4) r0.1.1::(.sl (.sl .i) r0.1.2::(.sl .i r0.2.1::(b3 T72 r0.2.2.1++(.ii r0.2.2.2.1.1::(.ii r0.2.2.2.1.2.1::(.ii r0.2.2.2.1.2.2::(b3 T77 r0.2.2.2.2.1++(b3 T78 r0.2.2.2.2.2.1++(.ii r0.2.2.2.2.2.2::[]))))))))))),(18,.arr 3 .i st1.1)] ?_;refine AW.seq ?_;refine zQ h (fun hb6 h=>?_) (fun hb6 h=>?_)
  ·refine zk ?_;refine AW.seq ?_;refine AW.block ?_;refine zo ?_;refine zB [(1,.bp 1 0),(3,.own 18),(4,.ii st1.2),(8,.ii (r0.1.2.length:Int)),(9,.ii st1.2)] [(1,.box 80 (.sl (.sl Y4) r0.1.1::(.sl (.sl .i) r0.1.2::(.sl .i r0.2.1::(b3 T72 r0.2.2.1++(.ii r0.2.2.2.1.1::(.ii r0.2.2.2.1.2.1::(.ii r0.2.2.2.1.2.2::(b3 T77 r0.2.2.2.2.1++(b3 T78 r0.2.2.2.2.2.1++(.ii r0.2.2.2.2.2.2::[]))))))))))),(18,.arr 3 .i st1.1)] ?_;refine zo ?_;refine zS 2 [(1,.bp 1 0),(3,.own 18),(4,.ii st1.2),(8,.ii (r0.1.2.length:Int)),(9,.ii st1.2),(12,.agg (.sl (.sl Y4) r0.1.1::(.sl (.sl .i) r0.1.2::(.sl .i r0.2.1::(b3 T72 r0.2.2.1++(.ii r0.2.2.2.1.1::(.ii r0.2.2.2.1.2.1::(.ii r0.2.2.2.1.2.2::(b3 T77 r0.2.2.2.2.1++(b3 T78 r0.2.2.2.2.2.1++(.ii r0.2.2.2.2.2.2::[]))))))))))),(13,.ii st1.2)] [(1,.box 80 (.sl (.sl Y4) r0.1.1::(.sl (.sl .i) r0.1.2::(.sl .i r0.2.1::(b3 T72 r0.2.2.1++(.ii r0.2.2.2.1.1::(.ii r0.2.2.2.1.2.1::(.ii r0.2.2.2.1.2.2::(b3 T77 r0.2.2.2.2.1++(b3 T78 r0.2.2.2.2.2.1++(.ii r0.2.2.2.2.2.2::[]))))))))))),(18,.arr 3 .i st1.1)] ?_;obtain ⟨v0,hv7,h⟩:=zw h;refine zC [] [] (a1s r0 st1.2 hv7) [(1,.bp 1 0),(3,.own 18),(4,.ii st1.2),(8,.ii (r0.1.2.length:Int)),(9,.ii st1.2),(14,.bool v0)] [(1,.box 80 (.sl (.sl Y4) r0.1.1::(.sl (.sl .i) r0.1.2::(.sl .i r0.2.1::(b3 T72 r0.2.2.1++(.ii r0.2.2.2.1.1::(.ii r0.2.2.2.1.2.1::(.ii r0.2.2.2.1.2.2::(b3 T77 r0.2.2.2.2.1++(b3 T78 r0.2.2.2.2.2.1++(.ii r0.2.2.2.2.2.2::[]))))))))))),(18,.arr 3 .i st1.1)] ?_;refine zB [(1,.bp 1 0),(3,.own 18),(4,.ii st1.2),(8,.ii (r0.1.2.length:Int)),(9,.ii st1.2),(14,.bool v0)] [(1,.box 80 (.sl (.sl Y4) r0.1.1::(.sl (.sl .i) r0.1.2::(.sl .i r0.2.1::(b3 T72 r0.2.2.1++(.ii r0.2.2.2.1.1::(.ii r0.2.2.2.1.2.1::(.ii r0.2.2.2.1.2.2::(b3 T77 r0.2.2.2.2.1++(b3 T78 r0.2.2.2.2.2.1++(.ii r0.2.2.2.2.2.2::[]))))))))))),(18,.arr 3 .i st1.1)] ?_;refine zQ h (fun hb8 h=>?_) (fun hb8 h=>?_)
   ·refine AW.ops ?_;obtain ⟨c9,h⟩:=b4.1 h;refine zA [(1,.bp 1 0),(3,.own 18),(8,.ii (r0.1.2.length:Int)),(9,.ii st1.2)] [(1,.box 80 (.sl (.sl Y4) r0.1.1::(.sl (.sl .i) r0.1.2::(.sl .i r0.2.1::(b3 T72 r0.2.2.1++(.ii r0.2.2.2.1.1::(.ii r0.2.2.2.1.2.1::(.ii r0.2.2.2.1.2.2::(b3 T77 r0.2.2.2.2.1++(b3 T78 r0.2.2.2.2.2.1++(.ii r0.2.2.2.2.2.2::[]))))))))))),(18,.arr 3 .i (st1.1++[st1.2]))] ?_;refine l8 ?_;refine f7 ?_;refine AW.ops ?_;obtain ⟨c10,h⟩:=b4.1 h;refine zA [(1,.bp 1 0),(3,.own 18),(8,.ii (r0.1.2.length:Int)),(9,.ii (st1.2+1))] [(1,.box 80 (.sl (.sl Y4) r0.1.1::(.sl (.sl .i) r0.1.2::(.sl .i r0.2.1::(b3 T72 r0.2.2.1++(.ii r0.2.2.2.1.1::(.ii r0.2.2.2.1.2.1::(.ii r0.2.2.2.1.2.2::(b3 T77 r0.2.2.2.2.1++(b3 T78 r0.2.2.2.2.2.1++(.ii r0.2.2.2.2.2.2::[]))))))))))),(18,.arr 3 .i (st1.1++[st1.2]))] ?_;obtain rfl:=zj h;exact ⟨_,rfl,zL [] [] []⟩
   refine zm ?_;refine f7 ?_;refine AW.ops ?_;obtain ⟨c11,h⟩:=b4.1 h;refine zA [(1,.bp 1 0),(3,.own 18),(8,.ii (r0.1.2.length:Int)),(9,.ii (st1.2+1))] [(1,.box 80 (.sl (.sl Y4) r0.1.1::(.sl (.sl .i) r0.1.2::(.sl .i r0.2.1::(b3 T72 r0.2.2.1++(.ii r0.2.2.2.1.1::(.ii r0.2.2.2.1.2.1::(.ii r0.2.2.2.1.2.2::(b3 T77 r0.2.2.2.2.1++(b3 T78 r0.2.2.2.2.2.1++(.ii r0.2.2.2.2.2.2::[]))))))))))),(18,.arr 3 .i st1.1)] ?_;obtain rfl:=zj h;exact ⟨_,rfl,zL [] [] []⟩
  refine AW.exit ?_;refine g4 ?_;obtain rfl:=zj h;rw [← hd3 _ rfl] at ho2;have h:=ho2;refine g4 ?_;refine j5 ?_;refine f7 ?_;have hj:=hk_code_run_left_k1 _ h;exact AW.weaken (zL [] [] []) hj
theorem a1U (r0:((List (List (Int×Int×Int×Int)))×(List (List Int)))×(List Int)×(El T72)×(Int×Int×Int)×(El T77)×(El T78)×Int) {r:Bool} (h:N4 r0=some r):HC Tryz.prog 46 [] [.agg (.sl (.sl Y4) r0.1.1::(.sl (.sl .i) r0.1.2::(.sl .i r0.2.1::(b3 T72 r0.2.2.1++(.ii r0.2.2.2.1.1::(.ii r0.2.2.2.1.2.1::(.ii r0.2.2.2.1.2.2::(b3 T77 r0.2.2.2.2.1++(b3 T78 r0.2.2.2.2.2.1++(.ii r0.2.2.2.2.2.2::[]))))))))))] [] (.bool r):=by
 unfold N4 at h;refine zH Tryz.func46 [.tmp 2] 7 ?_;refine zo ?_;refine zB [(1,.bp 1 0)] [(1,.box 80 (.sl (.sl Y4) r0.1.1::(.sl (.sl .i) r0.1.2::(.sl .i r0.2.1::(b3 T72 r0.2.2.1++(.ii r0.2.2.2.1.1::(.ii r0.2.2.2.1.2.1::(.ii r0.2.2.2.1.2.2::(b3 T77 r0.2.2.2.2.1++(b3 T78 r0.2.2.2.2.2.1++(.ii r0.2.2.2.2.2.2::[])))))))))))] ?_;refine zo ?_;refine zS 1 [(3,.agg (.sl (.sl Y4) r0.1.1::(.sl (.sl .i) r0.1.2::(.sl .i r0.2.1::(b3 T72 r0.2.2.1++(.ii r0.2.2.2.1.1::(.ii r0.2.2.2.1.2.1::(.ii r0.2.2.2.1.2.2::(b3 T77 r0.2.2.2.2.1++(b3 T78 r0.2.2.2.2.2.1++(.ii r0.2.2.2.2.2.2::[])))))))))))] [] ?_;obtain ⟨v0,hv1,h⟩:=zw h;refine zC [] [] (a0L r0 hv1) [(4,.own 14000)] [(14000,.arr 3 .i v0)] ?_;refine zB [(2,.bool (decide ((v0.length:Int)=0)))] [] ?_;refine AW.ret ?_;obtain rfl:=zj h;exact zR [] [] []
theorem a5S (s:List Int) {r:(List Int)} (h:U3 s=some r):HC Tryz.prog 77 [(1000,.arr 3 .i s)] [.own 1000] [(1000,.arr 3 .i r)] (.tup []):=by
 unfold U3 at h;refine zH Tryz.func77 [] 28 ?_;refine zo ?_;obtain ⟨c1,h⟩:=b4.1 h;refine zB [(0,.own 1000),(2,.ii 0),(3,.ii ((s.length:Int) - 1))] [(1000,.arr 3 .i s)] ?_;refine AW.block ?_;obtain ⟨rv6,hw2,ho3⟩:=zw h;refine AW.loopO (N6) (fun st1=>⟨fr [(0,.own 1000),(2,.ii st1.2.1),(3,.ii st1.2.2)],b6 [(1000,.arr 3 .i st1.1)],gt⟩) (s,0,((s.length:Int) - 1)) hw2 (zL [] [] []) ?_
 as_aux_lemma =>
  intro st1 x5 h hd4;unfold N6 at h;refine AW.seq ?_;refine zo ?_;refine zB [(0,.own 1000),(2,.ii st1.2.1),(3,.ii st1.2.2),(9,.bool (decide (st1.2.1<st1.2.2)))] [(1000,.arr 3 .i st1.1)] ?_;refine zQ h (fun hb7 h=>?_) (fun hb7 h=>?_)
  ·refine zk ?_;refine AW.seq ?_;refine AW.block ?_;refine AW.draw m7 l7 [(13,[1000]),(15,[1000])] [(2,[1000]),(3,[]),(100013,[]),(100015,[])] (by decide) (o8 (by kernel_rfl)) ?_
   as_aux_lemma =>
    refine d7 6 (fun K' hK8=>?_)
    try dsimp only [y1,y2,y3,y4]
    simp only [go_sem,hb7]
    repeat with_reducible refine zN ?_
    refine hK8 _ ?_
    as_aux_lemma =>
     obtain ⟨c10,h⟩:=b4.1 h;obtain ⟨c11,h⟩:=b4.1 h;obtain ⟨c12,h⟩:=b4.1 h;obtain ⟨c13,h⟩:=b4.1 h;refine d7 6 (fun K' hK9=>?_)
     try dsimp only [y1,y2,y3,y4]
     simp only [go_sem,hb7]
     repeat with_reducible refine zN ?_
     refine hK9 _ ?_
     as_aux_lemma =>
      obtain ⟨c15,h⟩:=b4.1 h;obtain ⟨c16,h⟩:=b4.1 h;obtain ⟨c17,h⟩:=b4.1 h;obtain ⟨c18,h⟩:=b4.1 h;refine d7 4 (fun K' hK14=>?_)
      try dsimp only [y1,y2,y3,y4]
      simp only [go_sem,hb7]
      repeat with_reducible refine zN ?_
      refine hK14 _ ?_;refine g8 ?_;refine l8 ?_;refine f7 ?_;refine zV [(0,.own 1000),(2,.ii st1.2.1),(3,.ii st1.2.2)] [(1000,.arr 3 .i ((st1.1.set st1.2.1.toNat (st1.1.getD st1.2.2.toNat 0)).set st1.2.2.toNat (st1.1.getD st1.2.1.toNat 0)))] gt ?_
      as_aux_lemma =>
       refine AW.ops ?_;obtain ⟨c19,h⟩:=b4.1 h;obtain ⟨c20,h⟩:=b4.1 h;refine zS 5 [(0,.own 1000),(2,.ii (st1.2.1+1)),(13,.ii (st1.2.2 - 1))] [(1000,.arr 3 .i ((st1.1.set st1.2.1.toNat (st1.1.getD st1.2.2.toNat 0)).set st1.2.2.toNat (st1.1.getD st1.2.1.toNat 0)))] ?_;refine zA [(0,.own 1000),(2,.ii (st1.2.1+1)),(3,.ii (st1.2.2 - 1))] [(1000,.arr 3 .i ((st1.1.set st1.2.1.toNat (st1.1.getD st1.2.2.toNat 0)).set st1.2.2.toNat (st1.1.getD st1.2.1.toNat 0)))] ?_;obtain rfl:=zj h;exact ⟨_,rfl,zL [] [] []⟩
  refine AW.exit ?_;refine g4 ?_;obtain rfl:=zj h;rw [← hd4 _ rfl] at ho3;have h:=ho3;refine g4 ?_;refine j5 ?_;obtain rfl:=zj h;exact zR [] [] []
end Go.Proofs.YtanaeefeggokkaaGreat
