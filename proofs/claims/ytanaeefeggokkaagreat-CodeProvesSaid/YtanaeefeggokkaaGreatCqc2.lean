import Derived.Test.YtanaeefeggokkaaGreatCkp
import Derived.Test.YtanaeefeggokkaaGreatShk
import Derived.Test.YtanaeefeggokkaaGreatAvd
import Derived.Test.YtanaeefeggokkaaGreatCqc1
namespace Go.Proofs.YtanaeefeggokkaaGreat
open Go.RowKit
set_option linter.unusedSimpArgs false
set_option linter.unusedVariables false
set_option linter.constructorNameAsVariable false
set_option maxRecDepth 100000
set_option maxHeartbeats 40000000
theorem a6G (l:Int×Int×Int×Int) (a1:Int) {r:Bool} (h:a0X l a1=some r):HC Tryz.prog 143 [(1000,.box 3 [.ii a1])] [.agg [.ii l.1,.ii l.2.1,.ii l.2.2.1,.ii l.2.2.2],.bp 1000 0] [(1000,.box 3 [.ii a1])] (.bool r):=by
 unfold a0X at h;refine zH Tryz.func143 [.tmp 3] 8 ?_;refine zo ?_;refine zB [(1,.bp 1000 0),(2,.bp 2 0)] [(2,.box 60 [.ii l.1,.ii l.2.1,.ii l.2.2.1,.ii l.2.2.2]),(1000,.box 3 [.ii a1])] ?_;refine zo ?_;refine zS 2 [(4,.agg [.ii l.1,.ii l.2.1,.ii l.2.2.1,.ii l.2.2.2]),(5,.ii a1)] [(1000,.box 3 [.ii a1])] ?_;obtain ⟨v0,hv1,h⟩:=zw h;refine zC [] [] (a8m l a1 hv1) [(6,.bool v0)] [(1000,.box 3 [.ii a1])] ?_;refine zB [(3,.bool (!v0))] [(1000,.box 3 [.ii a1])] ?_;refine AW.ret ?_;obtain rfl:=zj h;exact zR [] [] []
theorem a3R (s:List (Int×Int×Int×Int)) (c0:Int) {r:Int} (h:a0e s c0=some r):HC Tryz.prog 163 [(1000,.box 3 [.ii c0])] [.sl Y4 s,.fn (.func 143) [] [.bp 1000 0]] [(1000,.box 3 [.ii c0])] (.ii r):=by
 unfold a0e at h;refine zH Tryz.func163 [.tmp 4] 19 ?_;refine zo ?_;refine zB [(0,.sl Y4 s),(1,.fn (.func 143) [] [.bp 1000 0])] [(1000,.box 3 [.ii c0])] ?_;refine AW.have1 (fun _:Unit=>T4=some r) (fun _=>⟨fr [],b6 [(1000,.box 3 [.ii c0])],gt⟩) (fun _ h=>?_) (fun hk_slices_IndexFunc_2_k1=>?_)
 ·as_aux_lemma =>
   unfold T4 at h;refine zo ?_;refine zB [(4,.ii (-1))] [(1000,.box 3 [.ii c0])] ?_;refine AW.ret ?_;obtain rfl:=zj h;exact zR [] [] []
 refine AW.seq ?_;refine zo ?_;refine zB [(0,.sl Y4 s),(1,.fn (.func 143) [] [.bp 1000 0]),(7,.ii (s.length:Int)),(8,.ii 0)] [(1000,.box 3 [.ii c0])] ?_;refine AW.block ?_;obtain ⟨rv5,hw1,ho2⟩:=zw h;refine AW.loopO (y5 s c0) (fun st1=>⟨fr [(0,.sl Y4 s),(1,.fn (.func 143) [] [.bp 1000 0]),(7,.ii (s.length:Int)),(8,.ii st1)],b6 [(1000,.box 3 [.ii c0])],gt⟩) 0 hw1 (zL [] [] []) ?_
 as_aux_lemma =>
  intro st1 x4 h hd3;unfold y5 at h;refine zo ?_;refine zB [(0,.sl Y4 s),(1,.fn (.func 143) [] [.bp 1000 0]),(7,.ii (s.length:Int)),(8,.ii st1),(9,.bool (decide (st1<(s.length:Int))))] [(1000,.box 3 [.ii c0])] ?_;refine AW.seq ?_;refine zQ h (fun hb6 h=>?_) (fun hb6 h=>?_)
  ·refine zk ?_;refine AW.seq ?_;refine AW.block ?_;refine zo ?_;refine zB [(0,.sl Y4 s),(1,.fn (.func 143) [] [.bp 1000 0]),(5,.ii st1),(7,.ii (s.length:Int)),(8,.ii st1)] [(1000,.box 3 [.ii c0])] ?_;refine zo ?_;obtain ⟨c7,h⟩:=b4.1 h;obtain ⟨c8,h⟩:=b4.1 h;refine zS 5 [(0,.sl Y4 s),(1,.fn (.func 143) [] [.bp 1000 0]),(5,.ii st1),(7,.ii (s.length:Int)),(8,.ii st1),(11,.fn (.func 143) [] [.bp 1000 0]),(15,.agg [.ii (s.getD st1.toNat (0,0,0,0)).1,.ii (s.getD st1.toNat (0,0,0,0)).2.1,.ii (s.getD st1.toNat (0,0,0,0)).2.2.1,.ii (s.getD st1.toNat (0,0,0,0)).2.2.2])] [(1000,.box 3 [.ii c0])] ?_;obtain ⟨v0,hv9,h⟩:=zw h;refine zC [] [(1000,1000)] (a6G (s.getD st1.toNat (0,0,0,0)) c0 hv9) [(0,.sl Y4 s),(1,.fn (.func 143) [] [.bp 1000 0]),(5,.ii st1),(7,.ii (s.length:Int)),(8,.ii st1),(16,.bool v0)] [(1000,.box 3 [.ii c0])] ?_;refine zB [(0,.sl Y4 s),(1,.fn (.func 143) [] [.bp 1000 0]),(5,.ii st1),(7,.ii (s.length:Int)),(8,.ii st1),(16,.bool v0)] [(1000,.box 3 [.ii c0])] ?_;refine zQ h (fun hb10 h=>?_) (fun hb10 h=>?_)
   ·refine zo ?_;refine zB [(4,.ii st1)] [(1000,.box 3 [.ii c0])] ?_;refine AW.ret ?_;refine d5 ?_;refine b9 ?_;obtain rfl:=zj h;rw [← hd3 _ rfl] at ho2;have h:=ho2
    try simp only at h
    refine b9 ?_;refine d5 ?_;refine b9 ?_;obtain rfl:=zj h;exact zR [] [] []
   refine zm ?_;refine f7 ?_;refine AW.ops ?_;obtain ⟨c11,h⟩:=b4.1 h;refine zA [(0,.sl Y4 s),(1,.fn (.func 143) [] [.bp 1000 0]),(7,.ii (s.length:Int)),(8,.ii (st1+1))] [(1000,.box 3 [.ii c0])] ?_;obtain rfl:=zj h;exact ⟨_,rfl,zL [] [] []⟩
  refine AW.exit ?_;refine g4 ?_;obtain rfl:=zj h
  try rw [← hd3 _ rfl] at ho2
  have h:=ho2
  try simp only at h
  refine g4 ?_;refine j5 ?_;refine f7 ?_;exact AW.weaken (zL [] [] []) (hk_slices_IndexFunc_2_k1 () h)
theorem a2G (s:List (Int×Int×Int×Int)) (c0:Int) {r:Bool} (h:M5 s c0=some r):HC Tryz.prog 145 [(1000,.box 3 [.ii c0])] [.sl Y4 s,.fn (.func 143) [] [.bp 1000 0]] [(1000,.box 3 [.ii c0])] (.bool r):=by
 unfold M5 at h;refine zH Tryz.func145 [.tmp 4] 9 ?_;refine zo ?_;refine zB [(0,.sl Y4 s),(1,.fn (.func 143) [] [.bp 1000 0])] [(1000,.box 3 [.ii c0])] ?_;refine zo ?_;refine zS 2 [(5,.sl Y4 s),(6,.fn (.func 143) [] [.bp 1000 0])] [(1000,.box 3 [.ii c0])] ?_;obtain ⟨v0,hv1,h⟩:=zw h;refine zC [] [(1000,1000)] (a3R s c0 hv1) [(7,.ii v0)] [(1000,.box 3 [.ii c0])] ?_;refine zB [(4,.bool (decide (0≤v0)))] [(1000,.box 3 [.ii c0])] ?_;refine AW.ret ?_;obtain rfl:=zj h;exact zR [] [] []
theorem a8n (lines:List (Int×Int×Int×Int)) {r:Bool} (h:a1c lines=some r):HC Tryz.prog 101 [] [.sl Y4 lines] [] (.bool r):=by
 unfold a1c at h;refine zH Tryz.func101 [.tmp 2] 27 ?_;refine zo ?_;refine zB [(0,.sl Y4 lines)] [] ?_;refine zo ?_;refine zB [(0,.sl Y4 lines),(3,.bp 3 0)] [(3,.box 3 [.ii (lines.length:Int)])] ?_;refine AW.seq ?_;refine zo ?_;refine zS 3 [(0,.sl Y4 lines),(3,.bp 3 0),(9,.bool (decide ((lines.length:Int)<1)))] [(3,.box 3 [.ii (lines.length:Int)])] ?_;rcases zI h with ⟨hb1,h⟩|⟨hb1,h⟩
 ·refine zS 5 [(0,.sl Y4 lines),(3,.bp 3 0),(13,.bool true),(14,.cv (undef))] [(3,.box 3 [.ii (lines.length:Int)])] ?_;refine zS 4 [(0,.sl Y4 lines),(3,.bp 3 0),(13,.bool true),(18,.cv (undef))] [(3,.box 3 [.ii (lines.length:Int)])] ?_;refine zB [(0,.sl Y4 lines),(3,.bp 3 0),(21,.bool true)] [(3,.box 3 [.ii (lines.length:Int)])] ?_;refine AW.cond (b:=true) rfl (fun _=>?_) (fun hb2=>by cases hb2);refine zo ?_;refine zB [(2,.bool false)] [] ?_;refine zr ?_;obtain rfl:=zj h;exact zR [] [] []
 refine zS 4 [(0,.sl Y4 lines),(3,.bp 3 0),(13,.bool (decide (8<(lines.length:Int))))] [(3,.box 3 [.ii (lines.length:Int)])] ?_;rcases zI h with ⟨hb3,h⟩|⟨hb3,h⟩
 ·refine zS 4 [(0,.sl Y4 lines),(3,.bp 3 0),(13,.bool true),(17,.cv (undef))] [(3,.box 3 [.ii (lines.length:Int)])] ?_;refine zB [(0,.sl Y4 lines),(3,.bp 3 0),(21,.bool true)] [(3,.box 3 [.ii (lines.length:Int)])] ?_;refine AW.cond (b:=true) rfl (fun _=>?_) (fun hb4=>by cases hb4);refine zo ?_;refine zB [(2,.bool false)] [] ?_;refine zr ?_;obtain rfl:=zj h;exact zR [] [] []
 obtain ⟨c5,h⟩:=b4.1 h;obtain ⟨c6,h⟩:=b4.1 h;obtain ⟨c7,h⟩:=b4.1 h;refine zS 5 [(0,.sl Y4 lines),(3,.bp 3 0),(13,.bool false),(18,.dp Y4 (lines.getD ((lines.length:Int) - 1).toNat (0,0,0,0)) 0)] [(3,.box 3 [.ii (lines.length:Int)])] ?_;refine zB [(0,.sl Y4 lines),(3,.bp 3 0),(21,.bool (!(decide ((lines.getD ((lines.length:Int) - 1).toNat (0,0,0,0)).1=7))))] [(3,.box 3 [.ii (lines.length:Int)])] ?_;refine zQ h (fun hb8 h=>?_) (fun hb8 h=>?_)
 ·refine zo ?_;refine zB [(2,.bool false)] [] ?_;refine zr ?_;obtain rfl:=zj h;exact zR [] [] []
 refine zk ?_;refine zo ?_;refine zB [(0,.sl Y4 lines),(4,.fn (.func 143) [] [.bp 3 0])] [(3,.box 3 [.ii (lines.length:Int)])] ?_;refine zo ?_;refine zS 2 [(23,.sl Y4 lines),(24,.fn (.func 143) [] [.bp 3 0])] [(3,.box 3 [.ii (lines.length:Int)])] ?_;obtain ⟨v0,hv9,h⟩:=zw h;refine zC [] [(1000,3)] (a2G lines (lines.length:Int) hv9) [(25,.bool v0)] [] ?_;refine zB [(2,.bool (!v0))] [] ?_;refine AW.ret ?_;obtain rfl:=zj h;exact zR [] [] []
theorem a7v (lines:List (Int×Int×Int×Int)) {r:Bool} (h:a1B lines=some r):HC Tryz.prog 100 [] [.sl Y4 lines] [] (.bool r):=by
 unfold a1B at h;refine zH Tryz.func100 [.tmp 2] 6 ?_;refine zo ?_;refine zB [(0,.sl Y4 lines)] [] ?_;refine zo ?_;refine zS 1 [(3,.sl Y4 lines)] [] ?_;obtain ⟨v0,hv1,h⟩:=zw h;refine zC [] [] (a8n lines hv1) [(4,.bool v0)] [] ?_;refine zB [(2,.bool (!v0))] [] ?_;refine AW.ret ?_;obtain rfl:=zj h;exact zR [] [] []
theorem a4P (s:List (List (Int×Int×Int×Int))) {r:Int} (h:a0I s=some r):HC Tryz.prog 146 [] [.sl (.sl Y4) s,.fn (.func 100) [] []] [] (.ii r):=by
 unfold a0I at h;refine zH Tryz.func146 [.tmp 4] 19 ?_;refine zo ?_;refine zB [(0,.sl (.sl Y4) s),(1,.fn (.func 100) [] [])] [] ?_;refine AW.have1 (fun _:Unit=>X3=some r) (fun _=>⟨fr [],b6 [],gt⟩) (fun _ h=>?_) (fun hk_slices_IndexFunc_k1=>?_)
 ·as_aux_lemma =>
   unfold X3 at h;refine zo ?_;refine zB [(4,.ii (-1))] [] ?_;refine AW.ret ?_;obtain rfl:=zj h;exact zR [] [] []
 refine AW.seq ?_;refine zo ?_;refine zB [(0,.sl (.sl Y4) s),(1,.fn (.func 100) [] []),(7,.ii (s.length:Int)),(8,.ii 0)] [] ?_;refine AW.block ?_;obtain ⟨rv5,hw1,ho2⟩:=zw h;refine AW.loopO (D4 s) (fun st1=>⟨fr [(0,.sl (.sl Y4) s),(1,.fn (.func 100) [] []),(7,.ii (s.length:Int)),(8,.ii st1)],b6 [],gt⟩) 0 hw1 (zL [] [] []) ?_
 as_aux_lemma =>
  intro st1 x4 h hd3;unfold D4 at h;refine zo ?_;refine zB [(0,.sl (.sl Y4) s),(1,.fn (.func 100) [] []),(7,.ii (s.length:Int)),(8,.ii st1),(9,.bool (decide (st1<(s.length:Int))))] [] ?_;refine AW.seq ?_;refine zQ h (fun hb6 h=>?_) (fun hb6 h=>?_)
  ·refine zk ?_;refine AW.seq ?_;refine AW.block ?_;refine zo ?_;refine zB [(0,.sl (.sl Y4) s),(1,.fn (.func 100) [] []),(5,.ii st1),(7,.ii (s.length:Int)),(8,.ii st1)] [] ?_;refine zo ?_;obtain ⟨c7,h⟩:=b4.1 h;obtain ⟨c8,h⟩:=b4.1 h;refine zS 5 [(0,.sl (.sl Y4) s),(1,.fn (.func 100) [] []),(5,.ii st1),(7,.ii (s.length:Int)),(8,.ii st1),(11,.fn (.func 100) [] []),(15,.sl Y4 (s.getD st1.toNat []))] [] ?_;obtain ⟨v0,hv9,h⟩:=zw h;refine zC [] [] (a7v (s.getD st1.toNat []) hv9) [(0,.sl (.sl Y4) s),(1,.fn (.func 100) [] []),(5,.ii st1),(7,.ii (s.length:Int)),(8,.ii st1),(16,.bool v0)] [] ?_;refine zB [(0,.sl (.sl Y4) s),(1,.fn (.func 100) [] []),(5,.ii st1),(7,.ii (s.length:Int)),(8,.ii st1),(16,.bool v0)] [] ?_;refine zQ h (fun hb10 h=>?_) (fun hb10 h=>?_)
   ·refine zo ?_;refine zB [(4,.ii st1)] [] ?_;refine AW.ret ?_;refine d5 ?_;refine b9 ?_;obtain rfl:=zj h;rw [← hd3 _ rfl] at ho2;have h:=ho2
    try simp only at h
    refine b9 ?_;refine d5 ?_;refine b9 ?_;obtain rfl:=zj h;exact zR [] [] []
   refine zm ?_;refine f7 ?_;refine AW.ops ?_;obtain ⟨c11,h⟩:=b4.1 h;refine zA [(0,.sl (.sl Y4) s),(1,.fn (.func 100) [] []),(7,.ii (s.length:Int)),(8,.ii (st1+1))] [] ?_;obtain rfl:=zj h;exact ⟨_,rfl,zL [] [] []⟩
  refine AW.exit ?_;refine g4 ?_;obtain rfl:=zj h
  try rw [← hd3 _ rfl] at ho2
  have h:=ho2
  try simp only at h
  refine g4 ?_;refine j5 ?_;refine f7 ?_;exact AW.weaken (zL [] [] []) (hk_slices_IndexFunc_k1 () h)
theorem a3x (s:List (List (Int×Int×Int×Int))) {r:Bool} (h:Q0 s=some r):HC Tryz.prog 102 [] [.sl (.sl Y4) s,.fn (.func 100) [] []] [] (.bool r):=by
 unfold Q0 at h;refine zH Tryz.func102 [.tmp 4] 9 ?_;refine zo ?_;refine zB [(0,.sl (.sl Y4) s),(1,.fn (.func 100) [] [])] [] ?_;refine zo ?_;refine zS 2 [(5,.sl (.sl Y4) s),(6,.fn (.func 100) [] [])] [] ?_;obtain ⟨v0,hv1,h⟩:=zw h;refine zC [] [] (a4P s hv1) [(7,.ii v0)] [] ?_;refine zB [(4,.bool (decide (0≤v0)))] [] ?_;refine AW.ret ?_;obtain rfl:=zj h;exact zR [] [] []
theorem a41 (c:List (List (Int×Int×Int×Int))) {r:Bool} (h:a0Q c=some r):HC Tryz.prog 64 [] [.sl (.sl Y4) c] [] (.bool r):=by
 unfold a0Q at h;refine zH Tryz.func64 [.tmp 2] 18 ?_;refine zo ?_;refine zB [(0,.sl (.sl Y4) c)] [] ?_;refine zo ?_;refine zB [(0,.sl (.sl Y4) c),(3,.fn (.func 100) [] [])] [] ?_;refine zo ?_;refine zS 4 [(0,.sl (.sl Y4) c),(3,.fn (.func 100) [] []),(7,.bool (decide (1≤(c.length:Int))))] [] ?_;rcases zI h with ⟨hb1,h⟩|⟨hb1,h⟩
 ·refine zS 5 [(0,.sl (.sl Y4) c),(3,.fn (.func 100) [] []),(12,.bool (decide ((c.length:Int)≤4)))] [] ?_;rcases zI h with ⟨hb2,h⟩|⟨hb2,h⟩
  ·refine zS 2 [(12,.bool true),(13,.sl (.sl Y4) c),(14,.fn (.func 100) [] [])] [] ?_;obtain ⟨v0,hv3,h⟩:=zw h;refine zG [] [] (a3x c hv3) [(12,.bool true),(15,.bool v0)] [] ?_;refine zB [(2,.bool (!v0))] [] ?_;refine AW.ret ?_;obtain rfl:=zj h;exact zR [] [] []
  refine zS 4 [(12,.bool false),(16,.cv (undef))] [] ?_;refine zB [(2,.bool false)] [] ?_;refine AW.ret ?_;obtain rfl:=zj h;exact zR [] [] []
 refine zS 5 [(0,.sl (.sl Y4) c),(3,.fn (.func 100) [] []),(12,.bool false)] [] ?_;refine zS 4 [(12,.bool false),(16,.cv (undef))] [] ?_;refine zB [(2,.bool false)] [] ?_;refine AW.ret ?_;obtain rfl:=zj h;exact zR [] [] []
theorem a6F (op0:Int) (a1:List (List (Int×Int×Int×Int))) {r:Bool} (h:a0W op0 a1=some r):HC Tryz.prog 171 [(1000,.box 25 [.sl (.sl Y4) a1])] [.ii op0,.bp 1000 0] [(1000,.box 25 [.sl (.sl Y4) a1])] (.bool r):=by
 unfold a0W at h;refine zH Tryz.func171 [.tmp 3] 9 ?_;refine zo ?_;refine zB [(0,.ii op0),(1,.bp 1000 0)] [(1000,.box 25 [.sl (.sl Y4) a1])] ?_;refine zo ?_;refine zS 3 [(4,.ii op0),(6,.ii (a1.length:Int))] [(1000,.box 25 [.sl (.sl Y4) a1])] ?_;obtain ⟨v0,hv1,h⟩:=zw h;refine zC [] [] (D8 op0 (a1.length:Int) hv1) [(7,.bool v0)] [(1000,.box 25 [.sl (.sl Y4) a1])] ?_;refine zB [(3,.bool (!v0))] [(1000,.box 25 [.sl (.sl Y4) a1])] ?_;refine AW.ret ?_;obtain rfl:=zj h;exact zR [] [] []
theorem a3P (s:List Int) (c0:List (List (Int×Int×Int×Int))) {r:Int} (h:a0c s c0=some r):HC Tryz.prog 174 [(1000,.box 25 [.sl (.sl Y4) c0])] [.sl .i s,.fn (.func 171) [] [.bp 1000 0]] [(1000,.box 25 [.sl (.sl Y4) c0])] (.ii r):=by
 unfold a0c at h;refine zH Tryz.func174 [.tmp 4] 19 ?_;refine zo ?_;refine zB [(0,.sl .i s),(1,.fn (.func 171) [] [.bp 1000 0])] [(1000,.box 25 [.sl (.sl Y4) c0])] ?_;refine AW.have1 (fun _:Unit=>T2=some r) (fun _=>⟨fr [],b6 [(1000,.box 25 [.sl (.sl Y4) c0])],gt⟩) (fun _ h=>?_) (fun hk_slices_IndexFunc_4_k1=>?_)
 ·as_aux_lemma =>
   unfold T2 at h;refine zo ?_;refine zB [(4,.ii (-1))] [(1000,.box 25 [.sl (.sl Y4) c0])] ?_;refine AW.ret ?_;obtain rfl:=zj h;exact zR [] [] []
 refine AW.seq ?_;refine zo ?_;refine zB [(0,.sl .i s),(1,.fn (.func 171) [] [.bp 1000 0]),(7,.ii (s.length:Int)),(8,.ii 0)] [(1000,.box 25 [.sl (.sl Y4) c0])] ?_;refine AW.block ?_;obtain ⟨rv5,hw1,ho2⟩:=zw h;refine AW.loopO (w9 s c0) (fun st1=>⟨fr [(0,.sl .i s),(1,.fn (.func 171) [] [.bp 1000 0]),(7,.ii (s.length:Int)),(8,.ii st1)],b6 [(1000,.box 25 [.sl (.sl Y4) c0])],gt⟩) 0 hw1 (zL [] [] []) ?_
 as_aux_lemma =>
  intro st1 x4 h hd3;unfold w9 at h;refine zo ?_;refine zB [(0,.sl .i s),(1,.fn (.func 171) [] [.bp 1000 0]),(7,.ii (s.length:Int)),(8,.ii st1),(9,.bool (decide (st1<(s.length:Int))))] [(1000,.box 25 [.sl (.sl Y4) c0])] ?_;refine AW.seq ?_;refine zQ h (fun hb6 h=>?_) (fun hb6 h=>?_)
  ·refine zk ?_;refine AW.seq ?_;refine AW.block ?_;refine zo ?_;refine zB [(0,.sl .i s),(1,.fn (.func 171) [] [.bp 1000 0]),(5,.ii st1),(7,.ii (s.length:Int)),(8,.ii st1)] [(1000,.box 25 [.sl (.sl Y4) c0])] ?_;refine zo ?_;obtain ⟨c7,h⟩:=b4.1 h;obtain ⟨c8,h⟩:=b4.1 h;refine zS 5 [(0,.sl .i s),(1,.fn (.func 171) [] [.bp 1000 0]),(5,.ii st1),(7,.ii (s.length:Int)),(8,.ii st1),(11,.fn (.func 171) [] [.bp 1000 0]),(15,.ii (s.getD st1.toNat 0))] [(1000,.box 25 [.sl (.sl Y4) c0])] ?_;obtain ⟨v0,hv9,h⟩:=zw h;refine zC [] [(1000,1000)] (a6F (s.getD st1.toNat 0) c0 hv9) [(0,.sl .i s),(1,.fn (.func 171) [] [.bp 1000 0]),(5,.ii st1),(7,.ii (s.length:Int)),(8,.ii st1),(16,.bool v0)] [(1000,.box 25 [.sl (.sl Y4) c0])] ?_;refine zB [(0,.sl .i s),(1,.fn (.func 171) [] [.bp 1000 0]),(5,.ii st1),(7,.ii (s.length:Int)),(8,.ii st1),(16,.bool v0)] [(1000,.box 25 [.sl (.sl Y4) c0])] ?_;refine zQ h (fun hb10 h=>?_) (fun hb10 h=>?_)
   ·refine zo ?_;refine zB [(4,.ii st1)] [(1000,.box 25 [.sl (.sl Y4) c0])] ?_;refine AW.ret ?_;refine d5 ?_;refine b9 ?_;obtain rfl:=zj h;rw [← hd3 _ rfl] at ho2;have h:=ho2
    try simp only at h
    refine b9 ?_;refine d5 ?_;refine b9 ?_;obtain rfl:=zj h;exact zR [] [] []
   refine zm ?_;refine f7 ?_;refine AW.ops ?_;obtain ⟨c11,h⟩:=b4.1 h;refine zA [(0,.sl .i s),(1,.fn (.func 171) [] [.bp 1000 0]),(7,.ii (s.length:Int)),(8,.ii (st1+1))] [(1000,.box 25 [.sl (.sl Y4) c0])] ?_;obtain rfl:=zj h;exact ⟨_,rfl,zL [] [] []⟩
  refine AW.exit ?_;refine g4 ?_;obtain rfl:=zj h
  try rw [← hd3 _ rfl] at ho2
  have h:=ho2
  try simp only at h
  refine g4 ?_;refine j5 ?_;refine f7 ?_;exact AW.weaken (zL [] [] []) (hk_slices_IndexFunc_4_k1 () h)
theorem a2E (s:List Int) (c0:List (List (Int×Int×Int×Int))) {r:Bool} (h:M3 s c0=some r):HC Tryz.prog 172 [(1000,.box 25 [.sl (.sl Y4) c0])] [.sl .i s,.fn (.func 171) [] [.bp 1000 0]] [(1000,.box 25 [.sl (.sl Y4) c0])] (.bool r):=by
 unfold M3 at h;refine zH Tryz.func172 [.tmp 4] 9 ?_;refine zo ?_;refine zB [(0,.sl .i s),(1,.fn (.func 171) [] [.bp 1000 0])] [(1000,.box 25 [.sl (.sl Y4) c0])] ?_;refine zo ?_;refine zS 2 [(5,.sl .i s),(6,.fn (.func 171) [] [.bp 1000 0])] [(1000,.box 25 [.sl (.sl Y4) c0])] ?_;obtain ⟨v0,hv1,h⟩:=zw h;refine zC [] [(1000,1000)] (a3P s c0 hv1) [(7,.ii v0)] [(1000,.box 25 [.sl (.sl Y4) c0])] ?_;refine zB [(4,.bool (decide (0≤v0)))] [(1000,.box 25 [.sl (.sl Y4) c0])] ?_;refine AW.ret ?_;obtain rfl:=zj h;exact zR [] [] []
theorem a8l (c:List (List (Int×Int×Int×Int))) (word:List Int) {r:Bool} (h:a1a c word=some r):HC Tryz.prog 165 [] [.sl (.sl Y4) c,.sl .i word] [] (.bool r):=by
 unfold a1a at h;refine zH Tryz.func165 [.tmp 4] 16 ?_;refine zo ?_;refine zB [(1,.sl .i word),(2,.bp 2 0)] [(2,.box 25 [.sl (.sl Y4) c])] ?_;refine zo ?_;refine zB [(1,.sl .i word),(5,.fn (.func 171) [] [.bp 2 0])] [(2,.box 25 [.sl (.sl Y4) c])] ?_;refine zo ?_;refine zS 4 [(1,.sl .i word),(5,.fn (.func 171) [] [.bp 2 0]),(10,.bool (decide ((word.length:Int)≤3)))] [(2,.box 25 [.sl (.sl Y4) c])] ?_;rcases zI h with ⟨hb1,h⟩|⟨hb1,h⟩
 ·refine zS 2 [(10,.bool true),(11,.sl .i word),(12,.fn (.func 171) [] [.bp 2 0])] [(2,.box 25 [.sl (.sl Y4) c])] ?_;obtain ⟨v0,hv2,h⟩:=zw h;refine zG [] [(1000,2)] (a2E word c hv2) [(10,.bool true),(13,.bool v0)] [] ?_;refine zB [(4,.bool (!v0))] [] ?_;refine AW.ret ?_;obtain rfl:=zj h;exact zR [] [] []
 refine zS 4 [(10,.bool false),(14,.cv (undef))] [] ?_;refine zB [(4,.bool false)] [] ?_;refine AW.ret ?_;obtain rfl:=zj h;exact zR [] [] []
theorem a7u (word:List Int) (a1:List (List (Int×Int×Int×Int))) {r:Bool} (h:a1A word a1=some r):HC Tryz.prog 164 [(1000,.box 25 [.sl (.sl Y4) a1])] [.sl .i word,.bp 1000 0] [(1000,.box 25 [.sl (.sl Y4) a1])] (.bool r):=by
 unfold a1A at h;refine zH Tryz.func164 [.tmp 3] 8 ?_;refine zo ?_;refine zB [(0,.sl .i word),(1,.bp 1000 0)] [(1000,.box 25 [.sl (.sl Y4) a1])] ?_;refine zo ?_;refine zS 2 [(4,.sl (.sl Y4) a1),(5,.sl .i word)] [(1000,.box 25 [.sl (.sl Y4) a1])] ?_;obtain ⟨v0,hv1,h⟩:=zw h;refine zC [] [] (a8l a1 word hv1) [(6,.bool v0)] [(1000,.box 25 [.sl (.sl Y4) a1])] ?_;refine zB [(3,.bool (!v0))] [(1000,.box 25 [.sl (.sl Y4) a1])] ?_;refine AW.ret ?_;obtain rfl:=zj h;exact zR [] [] []
theorem a3Q (s:List (List Int)) (c0:List (List (Int×Int×Int×Int))) {r:Int} (h:a0d s c0=some r):HC Tryz.prog 173 [(1000,.box 25 [.sl (.sl Y4) c0])] [.sl (.sl .i) s,.fn (.func 164) [] [.bp 1000 0]] [(1000,.box 25 [.sl (.sl Y4) c0])] (.ii r):=by
 unfold a0d at h;refine zH Tryz.func173 [.tmp 4] 19 ?_;refine zo ?_;refine zB [(0,.sl (.sl .i) s),(1,.fn (.func 164) [] [.bp 1000 0])] [(1000,.box 25 [.sl (.sl Y4) c0])] ?_;refine AW.have1 (fun _:Unit=>T3=some r) (fun _=>⟨fr [],b6 [(1000,.box 25 [.sl (.sl Y4) c0])],gt⟩) (fun _ h=>?_) (fun hk_slices_IndexFunc_3_k1=>?_)
 ·as_aux_lemma =>
   unfold T3 at h;refine zo ?_;refine zB [(4,.ii (-1))] [(1000,.box 25 [.sl (.sl Y4) c0])] ?_;refine AW.ret ?_;obtain rfl:=zj h;exact zR [] [] []
 refine AW.seq ?_;refine zo ?_;refine zB [(0,.sl (.sl .i) s),(1,.fn (.func 164) [] [.bp 1000 0]),(7,.ii (s.length:Int)),(8,.ii 0)] [(1000,.box 25 [.sl (.sl Y4) c0])] ?_;refine AW.block ?_;obtain ⟨rv5,hw1,ho2⟩:=zw h;refine AW.loopO (y0 s c0) (fun st1=>⟨fr [(0,.sl (.sl .i) s),(1,.fn (.func 164) [] [.bp 1000 0]),(7,.ii (s.length:Int)),(8,.ii st1)],b6 [(1000,.box 25 [.sl (.sl Y4) c0])],gt⟩) 0 hw1 (zL [] [] []) ?_
 as_aux_lemma =>
  intro st1 x4 h hd3;unfold y0 at h;refine zo ?_;refine zB [(0,.sl (.sl .i) s),(1,.fn (.func 164) [] [.bp 1000 0]),(7,.ii (s.length:Int)),(8,.ii st1),(9,.bool (decide (st1<(s.length:Int))))] [(1000,.box 25 [.sl (.sl Y4) c0])] ?_;refine AW.seq ?_;refine zQ h (fun hb6 h=>?_) (fun hb6 h=>?_)
  ·refine zk ?_;refine AW.seq ?_;refine AW.block ?_;refine zo ?_;refine zB [(0,.sl (.sl .i) s),(1,.fn (.func 164) [] [.bp 1000 0]),(5,.ii st1),(7,.ii (s.length:Int)),(8,.ii st1)] [(1000,.box 25 [.sl (.sl Y4) c0])] ?_;refine zo ?_;obtain ⟨c7,h⟩:=b4.1 h;obtain ⟨c8,h⟩:=b4.1 h;refine zS 5 [(0,.sl (.sl .i) s),(1,.fn (.func 164) [] [.bp 1000 0]),(5,.ii st1),(7,.ii (s.length:Int)),(8,.ii st1),(11,.fn (.func 164) [] [.bp 1000 0]),(15,.sl .i (s.getD st1.toNat []))] [(1000,.box 25 [.sl (.sl Y4) c0])] ?_;obtain ⟨v0,hv9,h⟩:=zw h;refine zC [] [(1000,1000)] (a7u (s.getD st1.toNat []) c0 hv9) [(0,.sl (.sl .i) s),(1,.fn (.func 164) [] [.bp 1000 0]),(5,.ii st1),(7,.ii (s.length:Int)),(8,.ii st1),(16,.bool v0)] [(1000,.box 25 [.sl (.sl Y4) c0])] ?_;refine zB [(0,.sl (.sl .i) s),(1,.fn (.func 164) [] [.bp 1000 0]),(5,.ii st1),(7,.ii (s.length:Int)),(8,.ii st1),(16,.bool v0)] [(1000,.box 25 [.sl (.sl Y4) c0])] ?_;refine zQ h (fun hb10 h=>?_) (fun hb10 h=>?_)
   ·refine zo ?_;refine zB [(4,.ii st1)] [(1000,.box 25 [.sl (.sl Y4) c0])] ?_;refine AW.ret ?_;refine d5 ?_;refine b9 ?_;obtain rfl:=zj h;rw [← hd3 _ rfl] at ho2;have h:=ho2
    try simp only at h
    refine b9 ?_;refine d5 ?_;refine b9 ?_;obtain rfl:=zj h;exact zR [] [] []
   refine zm ?_;refine f7 ?_;refine AW.ops ?_;obtain ⟨c11,h⟩:=b4.1 h;refine zA [(0,.sl (.sl .i) s),(1,.fn (.func 164) [] [.bp 1000 0]),(7,.ii (s.length:Int)),(8,.ii (st1+1))] [(1000,.box 25 [.sl (.sl Y4) c0])] ?_;obtain rfl:=zj h;exact ⟨_,rfl,zL [] [] []⟩
  refine AW.exit ?_;refine g4 ?_;obtain rfl:=zj h
  try rw [← hd3 _ rfl] at ho2
  have h:=ho2
  try simp only at h
  refine g4 ?_;refine j5 ?_;refine f7 ?_;exact AW.weaken (zL [] [] []) (hk_slices_IndexFunc_3_k1 () h)
theorem a2F (s:List (List Int)) (c0:List (List (Int×Int×Int×Int))) {r:Bool} (h:M4 s c0=some r):HC Tryz.prog 166 [(1000,.box 25 [.sl (.sl Y4) c0])] [.sl (.sl .i) s,.fn (.func 164) [] [.bp 1000 0]] [(1000,.box 25 [.sl (.sl Y4) c0])] (.bool r):=by
 unfold M4 at h;refine zH Tryz.func166 [.tmp 4] 9 ?_;refine zo ?_;refine zB [(0,.sl (.sl .i) s),(1,.fn (.func 164) [] [.bp 1000 0])] [(1000,.box 25 [.sl (.sl Y4) c0])] ?_;refine zo ?_;refine zS 2 [(5,.sl (.sl .i) s),(6,.fn (.func 164) [] [.bp 1000 0])] [(1000,.box 25 [.sl (.sl Y4) c0])] ?_;obtain ⟨v0,hv1,h⟩:=zw h;refine zC [] [(1000,1000)] (a3Q s c0 hv1) [(7,.ii v0)] [(1000,.box 25 [.sl (.sl Y4) c0])] ?_;refine zB [(4,.bool (decide (0≤v0)))] [(1000,.box 25 [.sl (.sl Y4) c0])] ?_;refine AW.ret ?_;obtain rfl:=zj h;exact zR [] [] []
theorem a8U (c:List (List (Int×Int×Int×Int))) (use:List (List Int)) {r:Bool} (h:a1Y c use=some r):HC Tryz.prog 148 [] [.sl (.sl Y4) c,.sl (.sl .i) use] [] (.bool r):=by
 unfold a1Y at h;refine zH Tryz.func148 [.tmp 4] 21 ?_;refine zo ?_;refine zB [(1,.sl (.sl .i) use),(2,.bp 2 0)] [(2,.box 25 [.sl (.sl Y4) c])] ?_;refine zo ?_;refine zB [(1,.sl (.sl .i) use),(5,.fn (.func 164) [] [.bp 2 0])] [(2,.box 25 [.sl (.sl Y4) c])] ?_;refine zo ?_;refine zS 4 [(1,.sl (.sl .i) use),(5,.fn (.func 164) [] [.bp 2 0]),(10,.bool (decide (1≤(use.length:Int))))] [(2,.box 25 [.sl (.sl Y4) c])] ?_;rcases zI h with ⟨hb1,h⟩|⟨hb1,h⟩
 ·refine zS 5 [(1,.sl (.sl .i) use),(5,.fn (.func 164) [] [.bp 2 0]),(15,.bool (decide ((use.length:Int)≤2)))] [(2,.box 25 [.sl (.sl Y4) c])] ?_;rcases zI h with ⟨hb2,h⟩|⟨hb2,h⟩
  ·refine zS 2 [(15,.bool true),(16,.sl (.sl .i) use),(17,.fn (.func 164) [] [.bp 2 0])] [(2,.box 25 [.sl (.sl Y4) c])] ?_;obtain ⟨v0,hv3,h⟩:=zw h;refine zG [] [(1000,2)] (a2F use c hv3) [(15,.bool true),(18,.bool v0)] [] ?_;refine zB [(4,.bool (!v0))] [] ?_;refine AW.ret ?_;obtain rfl:=zj h;exact zR [] [] []
  refine zS 4 [(15,.bool false),(19,.cv (undef))] [] ?_;refine zB [(4,.bool false)] [] ?_;refine AW.ret ?_;obtain rfl:=zj h;exact zR [] [] []
 refine zS 5 [(1,.sl (.sl .i) use),(5,.fn (.func 164) [] [.bp 2 0]),(15,.bool false)] [(2,.box 25 [.sl (.sl Y4) c])] ?_;refine zS 4 [(15,.bool false),(19,.cv (undef))] [] ?_;refine zB [(4,.bool false)] [] ?_;refine AW.ret ?_;obtain rfl:=zj h;exact zR [] [] []
theorem a6H (c:List (List (Int×Int×Int×Int))) (use:List (List Int)) {r:Bool×Int} (h:a0Y c use=some r):HC Tryz.prog 106 [] [.sl (.sl Y4) c,.sl (.sl .i) use] [] (.tup [.bool r.1,.ii r.2]):=by
 unfold a0Y at h;refine zH Tryz.func106 [.tmp 4,.tmp 5] 12 ?_;refine zo ?_;refine zB [(0,.sl (.sl Y4) c),(1,.sl (.sl .i) use)] [] ?_;refine AW.seq ?_;refine zo ?_;refine zS 1 [(0,.sl (.sl Y4) c),(1,.sl (.sl .i) use),(6,.sl (.sl Y4) c)] [] ?_;obtain ⟨v0,hv1,h⟩:=zw h;refine zC [] [] (a41 c hv1) [(0,.sl (.sl Y4) c),(1,.sl (.sl .i) use),(7,.bool v0)] [] ?_;refine zB [(0,.sl (.sl Y4) c),(1,.sl (.sl .i) use),(8,.bool (!v0))] [] ?_;refine zQ h (fun hb2 h=>?_) (fun hb2 h=>?_)
 ·refine zo ?_;refine zB [(4,.bool false),(5,.ii 80)] [] ?_;refine zr ?_;obtain rfl:=zj h;exact zR [] [] []
 refine zk ?_;refine zo ?_;refine zS 2 [(9,.sl (.sl Y4) c),(10,.sl (.sl .i) use)] [] ?_;obtain ⟨v0_2,hv3,h⟩:=zw h;refine zC [] [] (a8U c use hv3) [(11,.bool v0_2)] [] ?_;refine zB [(4,.bool v0_2),(5,.ii 0)] [] ?_;refine AW.ret ?_;obtain rfl:=zj h;exact zR [] [] []
theorem a29 (c:List (List (Int×Int×Int×Int))) (use:List (List Int)) {r:Int} (h:T0 c use=some r):HC Tryz.prog 66 [] [.sl (.sl Y4) c,.sl (.sl .i) use] [] (.ii r):=by
 unfold T0 at h;refine zH Tryz.func66 [.tmp 4] 20 ?_;refine zo ?_;refine zB [(0,.sl (.sl Y4) c),(1,.sl (.sl .i) use)] [] ?_;refine zo ?_;refine zS 2 [(8,.sl (.sl Y4) c),(9,.sl (.sl .i) use)] [] ?_;obtain ⟨v0,hv1,h⟩:=zw h;refine zC [] [] (a6H c use hv1) [(10,.tup [.bool v0.1,.ii v0.2])] [] ?_;refine zB [(5,.bool v0.1),(6,.ii v0.2)] [] ?_;refine AW.seq ?_;refine zo ?_;refine zS 3 [(5,.bool v0.1),(6,.ii v0.2),(15,.bool (decide (v0.2=0)))] [] ?_;rcases zI h with ⟨hb2,h⟩|⟨hb2,h⟩
 ·refine zB [(6,.ii v0.2),(18,.bool (!v0.1))] [] ?_;refine zQ h (fun hb3 h=>?_) (fun hb3 h=>?_)
  ·refine zo ?_;refine zB [(4,.ii 81)] [] ?_;refine zr ?_;obtain rfl:=zj h;exact zR [] [] []
  refine zk ?_;refine zo ?_;refine zB [(4,.ii v0.2)] [] ?_;refine AW.ret ?_;obtain rfl:=zj h;exact zR [] [] []
 refine zB [(6,.ii v0.2),(18,.bool false)] [] ?_;refine AW.cond (b:=false) rfl (fun hb4=>by cases hb4) (fun _=>?_);refine zk ?_;refine zo ?_;refine zB [(4,.ii v0.2)] [] ?_;refine AW.ret ?_;obtain rfl:=zj h;exact zR [] [] []
theorem a1s (r0:((List (List (Int×Int×Int×Int)))×(List (List Int)))×(List Int)×(El T72)×(Int×Int×Int)×(El T77)×(El T78)×Int) (thread:Int) {r:Bool} (h:C4 r0 thread=some r):HC Tryz.prog 114 [] [.agg (.sl (.sl Y4) r0.1.1::(.sl (.sl .i) r0.1.2::(.sl .i r0.2.1::(b3 T72 r0.2.2.1++(.ii r0.2.2.2.1.1::(.ii r0.2.2.2.1.2.1::(.ii r0.2.2.2.1.2.2::(b3 T77 r0.2.2.2.2.1++(b3 T78 r0.2.2.2.2.2.1++(.ii r0.2.2.2.2.2.2::[])))))))))),.ii thread] [] (.bool r):=by
 unfold C4 at h;refine zH Tryz.func114 [.tmp 4] 26 ?_;refine zo ?_;refine zB [(1,.ii thread),(2,.bp 2 0)] [(2,.box 80 (.sl (.sl Y4) r0.1.1::(.sl (.sl .i) r0.1.2::(.sl .i r0.2.1::(b3 T72 r0.2.2.1++(.ii r0.2.2.2.1.1::(.ii r0.2.2.2.1.2.1::(.ii r0.2.2.2.1.2.2::(b3 T77 r0.2.2.2.2.1++(b3 T78 r0.2.2.2.2.2.1++(.ii r0.2.2.2.2.2.2::[])))))))))))] ?_;refine AW.seq ?_;refine AW.draw m7 l7 [] [] (by decide) (o8 (by kernel_rfl)) ?_
 as_aux_lemma =>
  refine d7 5 (fun K' hK1=>?_)
  try dsimp only [y1,y2,y3,y4]
  simp only [go_sem]
  repeat with_reducible refine zN ?_
  refine hK1 _ ?_
  as_aux_lemma =>
   obtain ⟨v0,hv2,h⟩:=zw h;refine I6.call (by first|trivial|rfl) rfl rfl rfl (fun _ h=>h) [] [] (D8 thread (r0.1.2.length:Int) hv2) rfl (by (simp only [go_sem])<;>(with_reducible and_intros)<;>first|assumption|rfl|omega|(unfold maxLen; omega)) (by (simp only [go_sem])<;>(with_reducible and_intros)<;>first|assumption|rfl|omega|(unfold maxLen; omega)) rfl ?_;refine d7 1 (fun K' hK3=>?_)
   try dsimp only [y1,y2,y3,y4]
   simp only [go_sem]
   repeat with_reducible refine zN ?_
   refine hK3 _ ?_
   as_aux_lemma =>
    rcases zI h with ⟨hb4,h⟩|⟨hb4,h⟩
    ·simp only [hb4]
     as_aux_lemma =>
      obtain ⟨c6,h⟩:=b4.1 h;obtain ⟨c7,h⟩:=b4.1 h;obtain ⟨c8,h⟩:=b4.1 h;have hx9:(thread.toNat*8)<16:=n8 c8;refine d7 6 (fun K' hK5=>?_)
      try dsimp only [y1,y2,y3,y4]
      simp only [go_sem,hb4,c8]
      repeat with_reducible refine zN ?_
      refine hK5 _ ?_
      as_aux_lemma =>
       obtain ⟨c11,h⟩:=b4.1 h;obtain ⟨c12,h⟩:=b4.1 h;refine d7 6 (fun K' hK10=>?_)
       try dsimp only [y1,y2,y3,y4]
       simp only [go_sem,hb4,c8]
       repeat with_reducible refine zN ?_
       refine hK10 _ ?_
       as_aux_lemma =>
        refine d7 3 (fun K' hK13=>?_)
        try dsimp only [y1,y2,y3,y4]
        simp only [go_sem,hb4,c8]
        repeat with_reducible refine zN ?_
        refine hK13 _ ?_;refine g8 ?_;refine f7 ?_;refine zV [(4,.bool (decide ((b7 T77 r0.2.2.2.2.1 (thread.toNat*8))<((r0.1.2.getD thread.toNat []).length:Int))))] [] gt ?_
        as_aux_lemma =>
         refine AW.ret ?_;obtain rfl:=zj h;exact zR [] [] []
    simp only [hb4]
    as_aux_lemma =>
     refine d7 4 (fun K' hK14=>?_)
     try dsimp only [y1,y2,y3,y4]
     simp only [go_sem,hb4]
     repeat with_reducible refine zN ?_
     refine hK14 _ ?_
     as_aux_lemma =>
      refine d7 4 (fun K' hK15=>?_)
      try dsimp only [y1,y2,y3,y4]
      simp only [go_sem,hb4]
      repeat with_reducible refine zN ?_
      refine hK15 _ ?_
      as_aux_lemma =>
       refine d7 4 (fun K' hK16=>?_)
       try dsimp only [y1,y2,y3,y4]
       simp only [go_sem,hb4]
       repeat with_reducible refine zN ?_
       refine hK16 _ ?_
       as_aux_lemma =>
        refine d7 3 (fun K' hK17=>?_)
        try dsimp only [y1,y2,y3,y4]
        simp only [go_sem,hb4]
        repeat with_reducible refine zN ?_
        refine hK17 _ ?_;refine g8 ?_;refine f7 ?_;refine zV [(4,.bool false)] [] gt ?_
        as_aux_lemma =>
         refine AW.ret ?_;obtain rfl:=zj h;exact zR [] [] []
end Go.Proofs.YtanaeefeggokkaaGreat
