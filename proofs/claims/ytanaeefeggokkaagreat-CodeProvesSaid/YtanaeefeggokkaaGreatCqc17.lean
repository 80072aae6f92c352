import Derived.Test.YtanaeefeggokkaaGreatCkp
import Derived.Test.YtanaeefeggokkaaGreatShk
import Derived.Test.YtanaeefeggokkaaGreatAvd
import Derived.Test.YtanaeefeggokkaaGreatCqc13
import Derived.Test.YtanaeefeggokkaaGreatCqc7
import Derived.Test.YtanaeefeggokkaaGreatCqc8
namespace Go.Proofs.YtanaeefeggokkaaGreat
open Go.RowKit
set_option linter.unusedSimpArgs false
set_option linter.unusedVariables false
set_option linter.constructorNameAsVariable false
set_option maxRecDepth 100000
set_option maxHeartbeats 40000000
theorem a6C (h0:ZH) (order:List Int) {r:Bool} (h:Y8 h0 order=some r):HC Tryz.prog 54 [] [.sl Y0 h0,.sl .i order,.fn (.func 55) [] []] [] (.bool r):=by
 unfold Y8 at h;refine zH Tryz.func54 [.tmp 6] 38 ?_;refine zo ?_;refine zB [(0,.sl Y0 h0),(1,.sl .i order),(2,.fn (.func 55) [] [])] [] ?_;refine AW.have1 (fun _:Unit=>a0K=some r) (fun _=>⟨fr [],b6 [],gt⟩) (fun _ h=>?_) (fun hk_history_keeps_k1=>?_)
 ·as_aux_lemma =>
   unfold a0K at h;refine zo ?_;refine zB [(6,.bool true)] [] ?_;refine AW.ret ?_;obtain rfl:=zj h;exact zR [] [] []
 refine AW.seq ?_;refine zo ?_;refine zB [(0,.sl Y0 h0),(1,.sl .i order),(2,.fn (.func 55) [] []),(11,.sl .i order),(12,.ii (order.length:Int)),(13,.ii 0)] [] ?_;refine AW.block ?_;obtain ⟨rv5,hw1,ho2⟩:=zw h;refine AW.loopO (K4 h0 order) (fun st1=>⟨fr [(0,.sl Y0 h0),(1,.sl .i order),(2,.fn (.func 55) [] []),(11,.sl .i order),(12,.ii (order.length:Int)),(13,.ii st1)],b6 [],gt⟩) 0 hw1 (zL [] [] []) ?_
 as_aux_lemma =>
  intro st1 x4 h hd3;unfold K4 at h;refine zo ?_;refine zB [(0,.sl Y0 h0),(1,.sl .i order),(2,.fn (.func 55) [] []),(11,.sl .i order),(12,.ii (order.length:Int)),(13,.ii st1),(14,.bool (decide (st1<(order.length:Int))))] [] ?_;refine AW.seq ?_;refine zQ h (fun hb6 h=>?_) (fun hb6 h=>?_)
  ·refine zk ?_;refine AW.have1 (fun _:Unit=>W7 st1=some x4) (fun _=>⟨fr [(0,.sl Y0 h0),(1,.sl .i order),(2,.fn (.func 55) [] []),(11,.sl .i order),(12,.ii (order.length:Int)),(13,.ii st1)],b6 [],gt⟩) (fun _ h=>?_) (fun hk_history_keeps_k2=>?_)
   ·as_aux_lemma =>
     unfold W7 at h;refine AW.ops ?_;obtain ⟨c7,h⟩:=b4.1 h;refine zA [(0,.sl Y0 h0),(1,.sl .i order),(2,.fn (.func 55) [] []),(11,.sl .i order),(12,.ii (order.length:Int)),(13,.ii (st1+1))] [] ?_;obtain rfl:=zj h;exact ⟨_,rfl,zL [] [] []⟩
   refine AW.seq ?_;refine AW.block ?_;refine zo ?_;obtain ⟨c8,h⟩:=b4.1 h;obtain ⟨c9,h⟩:=b4.1 h;refine zB [(0,.sl Y0 h0),(1,.sl .i order),(2,.fn (.func 55) [] []),(7,.ii st1),(8,.ii (order.getD st1.toNat 0)),(11,.sl .i order),(12,.ii (order.length:Int)),(13,.ii st1)] [] ?_;refine zo ?_;obtain ⟨c10,h⟩:=b4.1 h;obtain ⟨c11,h⟩:=b4.1 h;refine zB [(0,.sl Y0 h0),(1,.sl .i order),(2,.fn (.func 55) [] []),(8,.ii (order.getD st1.toNat 0)),(11,.sl .i order),(12,.ii (order.length:Int)),(13,.ii st1),(20,.sl .i (order.take st1.toNat)),(21,.ii ((order.take st1.toNat).length:Int)),(22,.ii 0)] [] ?_;refine AW.block ?_;obtain ⟨rv16,hw12,ho13⟩:=zw h;refine AW.loopO (K3 h0 order st1) (fun st2=>⟨fr [(0,.sl Y0 h0),(1,.sl .i order),(2,.fn (.func 55) [] []),(8,.ii (order.getD st1.toNat 0)),(11,.sl .i order),(12,.ii (order.length:Int)),(13,.ii st1),(20,.sl .i (order.take st1.toNat)),(21,.ii ((order.take st1.toNat).length:Int)),(22,.ii st2)],b6 [],gt⟩) 0 hw12 (zL [] [] []) ?_
   as_aux_lemma =>
    intro st2 x15 h hd14;unfold K3 at h;refine zo ?_;refine zB [(0,.sl Y0 h0),(1,.sl .i order),(2,.fn (.func 55) [] []),(8,.ii (order.getD st1.toNat 0)),(11,.sl .i order),(12,.ii (order.length:Int)),(13,.ii st1),(20,.sl .i (order.take st1.toNat)),(21,.ii ((order.take st1.toNat).length:Int)),(22,.ii st2),(23,.bool (decide (st2<((order.take st1.toNat).length:Int))))] [] ?_;refine AW.seq ?_;refine zQ h (fun hb17 h=>?_) (fun hb17 h=>?_)
    ·refine zk ?_;refine AW.seq ?_;refine AW.block ?_;refine zo ?_;obtain ⟨c18,h⟩:=b4.1 h;obtain ⟨c19,h⟩:=b4.1 h;refine zB [(0,.sl Y0 h0),(1,.sl .i order),(2,.fn (.func 55) [] []),(8,.ii (order.getD st1.toNat 0)),(10,.ii ((order.take st1.toNat).getD st2.toNat 0)),(11,.sl .i order),(12,.ii (order.length:Int)),(13,.ii st1),(20,.sl .i (order.take st1.toNat)),(21,.ii ((order.take st1.toNat).length:Int)),(22,.ii st2)] [] ?_;refine AW.seq ?_;refine AW.draw m7 l7 [] [] (by decide) (o8 (by kernel_rfl)) ?_
     as_aux_lemma =>
      obtain ⟨c21,h⟩:=b4.1 h;obtain ⟨c22,h⟩:=b4.1 h;refine d7 6 (fun K' hK20=>?_)
      try dsimp only [y1,y2,y3,y4]
      simp only [go_sem,hb6,hb17]
      repeat with_reducible refine zN ?_
      refine hK20 _ ?_
      as_aux_lemma =>
       obtain ⟨c24,h⟩:=b4.1 h;obtain ⟨c25,h⟩:=b4.1 h;refine d7 3 (fun K' hK23=>?_)
       try dsimp only [y1,y2,y3,y4]
       simp only [go_sem,hb6,hb17]
       repeat with_reducible refine zN ?_
       refine hK23 _ ?_
       as_aux_lemma =>
        obtain ⟨v0,hv26,h⟩:=zw h;refine I6.call (by first|trivial|rfl) rfl rfl rfl (fun _ h=>h) [] [] (a2q (h0.getD ((order.take st1.toNat).getD st2.toNat 0).toNat (0,0,0,0,0,0)) (h0.getD (order.getD st1.toNat 0).toNat (0,0,0,0,0,0)) hv26) rfl (by (simp only [go_sem,hb6,hb17])<;>(with_reducible and_intros)<;>first|assumption|rfl|omega|(unfold maxLen; omega)) (by (simp only [go_sem,hb6,hb17])<;>(with_reducible and_intros)<;>first|assumption|rfl|omega|(unfold maxLen; omega)) rfl ?_;refine d7 0 (fun K' hK27=>?_)
        try dsimp only [y1,y2,y3,y4]
        simp only [go_sem,hb6,hb17]
        repeat with_reducible refine zN ?_
        refine hK27 _ ?_;refine g8 ?_;refine f7 ?_;refine zV [(0,.sl Y0 h0),(1,.sl .i order),(2,.fn (.func 55) [] []),(8,.ii (order.getD st1.toNat 0)),(11,.sl .i order),(12,.ii (order.length:Int)),(13,.ii st1),(20,.sl .i (order.take st1.toNat)),(21,.ii ((order.take st1.toNat).length:Int)),(22,.ii st2),(35,.bool v0)] [] gt ?_
        as_aux_lemma =>
         refine zQ h (fun hb28 h=>?_) (fun hb28 h=>?_)
         ·refine zo ?_;refine zB [(6,.bool false)] [] ?_;refine AW.ret ?_;refine d5 ?_;refine b9 ?_;obtain rfl:=zj h
          try rw [← hd14 _ rfl] at ho13
          have h:=ho13
          try simp only at h
          refine b9 ?_;refine d5 ?_;refine d5 ?_;refine b9 ?_;obtain rfl:=zj h
          try rw [← hd3 _ rfl] at ho2
          have h:=ho2
          try simp only at h
          refine b9 ?_;refine d5 ?_;refine b9 ?_;obtain rfl:=zj h;exact zR [] [] []
         refine zm ?_;refine f7 ?_;refine AW.ops ?_;obtain ⟨c29,h⟩:=b4.1 h;refine zA [(0,.sl Y0 h0),(1,.sl .i order),(2,.fn (.func 55) [] []),(8,.ii (order.getD st1.toNat 0)),(11,.sl .i order),(12,.ii (order.length:Int)),(13,.ii st1),(20,.sl .i (order.take st1.toNat)),(21,.ii ((order.take st1.toNat).length:Int)),(22,.ii (st2+1))] [] ?_;obtain rfl:=zj h;exact ⟨_,rfl,zL [] [] []⟩
    refine AW.exit ?_;refine g4 ?_;obtain rfl:=zj h
    try rw [← hd14 _ rfl] at ho13
    have h:=ho13
    try simp only at h
    refine g4 ?_;refine j5 ?_;refine l8 ?_;refine f7 ?_;exact AW.weaken (zL [] [] []) (hk_history_keeps_k2 () h)
  refine AW.exit ?_;refine g4 ?_;obtain rfl:=zj h
  try rw [← hd3 _ rfl] at ho2
  have h:=ho2
  try simp only at h
  refine g4 ?_;refine j5 ?_;refine f7 ?_;exact AW.weaken (zL [] [] []) (hk_history_keeps_k1 () h)
theorem a4k (a0:ZH) (a1:List Int) (a2:ZS) {r:Bool} (h:U0 a0 a1 a2=some r):HC Tryz.prog 52 [(1000,.box 45 [.sl Y0 a0]),(1001,.box 33 [.sl .i a1]),(1002,.box 49 [.sl Y3 a2])] [.bp 1000 0,.bp 1001 0,.bp 1002 0] [(1000,.box 45 [.sl Y0 a0]),(1001,.box 33 [.sl .i a1]),(1002,.box 49 [.sl Y3 a2])] (.bool r):=by
 unfold U0 at h;refine zH Tryz.func52 [.tmp 3] 18 ?_;refine zo ?_;refine zB [(0,.bp 1000 0),(1,.bp 1001 0),(2,.bp 1002 0)] [(1000,.box 45 [.sl Y0 a0]),(1001,.box 33 [.sl .i a1]),(1002,.box 49 [.sl Y3 a2])] ?_;refine zo ?_;refine zS 2 [(0,.bp 1000 0),(1,.bp 1001 0),(2,.bp 1002 0),(4,.sl Y0 a0),(5,.sl .i a1)] [(1000,.box 45 [.sl Y0 a0]),(1001,.box 33 [.sl .i a1]),(1002,.box 49 [.sl Y3 a2])] ?_;obtain ⟨v0,hv1,h⟩:=zw h;refine zC [] [] (a1S a0 a1 hv1) [(0,.bp 1000 0),(1,.bp 1001 0),(2,.bp 1002 0),(6,.bool v0)] [(1000,.box 45 [.sl Y0 a0]),(1001,.box 33 [.sl .i a1]),(1002,.box 49 [.sl Y3 a2])] ?_;refine zS 1 [(0,.bp 1000 0),(1,.bp 1001 0),(2,.bp 1002 0),(7,.bool v0)] [(1000,.box 45 [.sl Y0 a0]),(1001,.box 33 [.sl .i a1]),(1002,.box 49 [.sl Y3 a2])] ?_;rcases zI h with ⟨hb2,h⟩|⟨hb2,h⟩
 ·refine zS 2 [(0,.bp 1000 0),(1,.bp 1001 0),(2,.bp 1002 0),(7,.bool true),(8,.sl Y0 a0),(9,.sl .i a1)] [(1000,.box 45 [.sl Y0 a0]),(1001,.box 33 [.sl .i a1]),(1002,.box 49 [.sl Y3 a2])] ?_;obtain ⟨v0_2,hv3,h⟩:=zw h;refine zG [] [] (a6C a0 a1 hv3) [(0,.bp 1000 0),(1,.bp 1001 0),(2,.bp 1002 0),(7,.bool true),(10,.bool v0_2)] [(1000,.box 45 [.sl Y0 a0]),(1001,.box 33 [.sl .i a1]),(1002,.box 49 [.sl Y3 a2])] ?_;refine zS 2 [(0,.bp 1000 0),(1,.bp 1001 0),(2,.bp 1002 0),(12,.bool v0_2)] [(1000,.box 45 [.sl Y0 a0]),(1001,.box 33 [.sl .i a1]),(1002,.box 49 [.sl Y3 a2])] ?_;rcases zI h with ⟨hb4,h⟩|⟨hb4,h⟩
  ·refine zS 3 [(12,.bool true),(13,.sl Y3 a2),(14,.sl Y0 a0),(15,.sl .i a1)] [(1000,.box 45 [.sl Y0 a0]),(1001,.box 33 [.sl .i a1]),(1002,.box 49 [.sl Y3 a2])] ?_;obtain ⟨v0_3,hv5,h⟩:=zw h;refine zG [] [] (a2r a2 a0 a1 hv5) [(12,.bool true),(16,.bool v0_3)] [(1000,.box 45 [.sl Y0 a0]),(1001,.box 33 [.sl .i a1]),(1002,.box 49 [.sl Y3 a2])] ?_;refine zB [(3,.bool v0_3)] [(1000,.box 45 [.sl Y0 a0]),(1001,.box 33 [.sl .i a1]),(1002,.box 49 [.sl Y3 a2])] ?_;refine AW.ret ?_;obtain rfl:=zj h;exact zR [] [] []
  refine zS 4 [(12,.bool false),(16,.cv (undef))] [(1000,.box 45 [.sl Y0 a0]),(1001,.box 33 [.sl .i a1]),(1002,.box 49 [.sl Y3 a2])] ?_;refine zB [(3,.bool false)] [(1000,.box 45 [.sl Y0 a0]),(1001,.box 33 [.sl .i a1]),(1002,.box 49 [.sl Y3 a2])] ?_;refine AW.ret ?_;obtain rfl:=zj h;exact zR [] [] []
 refine zS 5 [(0,.bp 1000 0),(1,.bp 1001 0),(2,.bp 1002 0),(12,.bool false)] [(1000,.box 45 [.sl Y0 a0]),(1001,.box 33 [.sl .i a1]),(1002,.box 49 [.sl Y3 a2])] ?_;refine zS 4 [(12,.bool false),(16,.cv (undef))] [(1000,.box 45 [.sl Y0 a0]),(1001,.box 33 [.sl .i a1]),(1002,.box 49 [.sl Y3 a2])] ?_;refine zB [(3,.bool false)] [(1000,.box 45 [.sl Y0 a0]),(1001,.box 33 [.sl .i a1]),(1002,.box 49 [.sl Y3 a2])] ?_;refine AW.ret ?_;obtain rfl:=zj h;exact zR [] [] []
theorem a5l (c0:ZH) (c1:List Int) (c2:ZS) {r:Bool} (h:Z7 c0 c1 c2=some r):HC Tryz.prog 50 [(1000,.box 45 [.sl Y0 c0]),(1001,.box 33 [.sl .i c1]),(1002,.box 49 [.sl Y3 c2])] [.ii 0,.fn (.func 52) [] [.bp 1000 0,.bp 1001 0,.bp 1002 0]] [(1000,.box 45 [.sl Y0 c0]),(1001,.box 33 [.sl .i c1]),(1002,.box 49 [.sl Y3 c2])] (.tup [.bool r,.ii 0]):=by
 unfold Z7 at h;refine zH Tryz.func50 [.tmp 4,.tmp 5] 13 ?_;refine zo ?_;refine zB [(0,.ii 0),(1,.fn (.func 52) [] [.bp 1000 0,.bp 1001 0,.bp 1002 0])] [(1000,.box 45 [.sl Y0 c0]),(1001,.box 33 [.sl .i c1]),(1002,.box 49 [.sl Y3 c2])] ?_;refine AW.seq ?_;refine zo ?_;have hx1:(!decide ((0:Int)=0))=false:=rfl;refine zB [(0,.ii 0),(1,.fn (.func 52) [] [.bp 1000 0,.bp 1001 0,.bp 1002 0]),(8,.bool false)] [(1000,.box 45 [.sl Y0 c0]),(1001,.box 33 [.sl .i c1]),(1002,.box 49 [.sl Y3 c2])] ?_;refine AW.cond (b:=false) rfl (fun hb2=>by cases hb2) (fun _=>?_);refine zk ?_;refine zo ?_;refine zS 1 [(11,.fn (.func 52) [] [.bp 1000 0,.bp 1001 0,.bp 1002 0])] [(1000,.box 45 [.sl Y0 c0]),(1001,.box 33 [.sl .i c1]),(1002,.box 49 [.sl Y3 c2])] ?_;obtain ⟨v0,hv3,h⟩:=zw h;refine zC [] [(1000,1000),(1001,1001),(1002,1002)] (a4k c0 c1 c2 hv3) [(12,.bool v0)] [(1000,.box 45 [.sl Y0 c0]),(1001,.box 33 [.sl .i c1]),(1002,.box 49 [.sl Y3 c2])] ?_;refine zB [(4,.bool v0),(5,.ii 0)] [(1000,.box 45 [.sl Y0 c0]),(1001,.box 33 [.sl .i c1]),(1002,.box 49 [.sl Y3 c2])] ?_;refine AW.ret ?_;obtain rfl:=zj h;exact zR [] [] []
theorem a5k (err:Int) (c0:ZH) (c1:List Int) (c2:ZS) (hnz_err:decide (err=0)=false) {r:Unit} (h:a1n err c0 c1 c2=some r):HC Tryz.prog 50 [(1000,.box 45 [.sl Y0 c0]),(1001,.box 33 [.sl .i c1]),(1002,.box 49 [.sl Y3 c2])] [.ii err,.fn (.func 52) [] [.bp 1000 0,.bp 1001 0,.bp 1002 0]] [(1000,.box 45 [.sl Y0 c0]),(1001,.box 33 [.sl .i c1]),(1002,.box 49 [.sl Y3 c2])] (.tup [.bool false,.ii err]):=by
 unfold a1n at h;refine zH Tryz.func50 [.tmp 4,.tmp 5] 13 ?_;refine zo ?_;refine zB [(0,.ii err),(1,.fn (.func 52) [] [.bp 1000 0,.bp 1001 0,.bp 1002 0])] [(1000,.box 45 [.sl Y0 c0]),(1001,.box 33 [.sl .i c1]),(1002,.box 49 [.sl Y3 c2])] ?_;refine AW.seq ?_;refine zo ?_;refine zB [(0,.ii err),(1,.fn (.func 52) [] [.bp 1000 0,.bp 1001 0,.bp 1002 0]),(8,.bool true)] [(1000,.box 45 [.sl Y0 c0]),(1001,.box 33 [.sl .i c1]),(1002,.box 49 [.sl Y3 c2])] ?_;refine AW.cond (b:=true) rfl (fun _=>?_) (fun hb1=>by cases hb1);refine zo ?_;refine zB [(0,.ii err),(6,.bool false)] [(1000,.box 45 [.sl Y0 c0]),(1001,.box 33 [.sl .i c1]),(1002,.box 49 [.sl Y3 c2])] ?_;refine zo ?_;refine zB [(4,.bool false),(5,.ii err)] [(1000,.box 45 [.sl Y0 c0]),(1001,.box 33 [.sl .i c1]),(1002,.box 49 [.sl Y3 c2])] ?_;refine zr ?_;obtain rfl:=zj h;exact zR [] [] []
theorem a5p (specs:ZS) (h0:ZH) (order:List Int) {r:Bool×Int} (h:S7 specs h0 order=some r):HC Tryz.prog 22 [] [.sl Y3 specs,.sl Y0 h0,.sl .i order] [] (.tup [.bool r.1,.ii r.2]):=by
 unfold S7 at h;refine zH Tryz.func22 [.tmp 6,.tmp 7] 15 ?_;refine zo ?_;refine zB [(3,.bp 3 0),(4,.bp 4 0),(5,.bp 5 0)] [(3,.box 49 [.sl Y3 specs]),(4,.box 45 [.sl Y0 h0]),(5,.box 33 [.sl .i order])] ?_;refine zo ?_;refine zS 2 [(3,.bp 3 0),(4,.bp 4 0),(5,.bp 5 0),(8,.sl Y3 specs),(9,.sl Y0 h0)] [(3,.box 49 [.sl Y3 specs]),(4,.box 45 [.sl Y0 h0]),(5,.box 33 [.sl .i order])] ?_;obtain ⟨v0,hv1,h⟩:=zw h;refine zC [] [] (X4 specs h0 hv1) [(3,.bp 3 0),(4,.bp 4 0),(5,.bp 5 0),(10,.ii v0)] [(3,.box 49 [.sl Y3 specs]),(4,.box 45 [.sl Y0 h0]),(5,.box 33 [.sl .i order])] ?_;refine zS 1 [(10,.ii v0),(11,.fn (.func 52) [] [.bp 4 0,.bp 5 0,.bp 3 0])] [(3,.box 49 [.sl Y3 specs]),(4,.box 45 [.sl Y0 h0]),(5,.box 33 [.sl .i order])] ?_;rcases Bool.eq_false_or_eq_true (decide (v0=0)) with hb2|hb2
 ·rw [if_pos hb2] at h;have hz3:v0=0:=by simpa using hb2
  refine zT [(10,.ii 0),(11,.fn (.func 52) [] [.bp 4 0,.bp 5 0,.bp 3 0])] [(3,.box 49 [.sl Y3 specs]),(4,.box 45 [.sl Y0 h0]),(5,.box 33 [.sl .i order])] gt ?_;obtain ⟨v0_2,hv4,h⟩:=zw h;refine zC [] [(1000,4),(1001,5),(1002,3)] (a5l h0 order specs hv4) [(12,.tup [.bool v0_2,.ii 0])] [] ?_;refine zB [(6,.bool v0_2),(7,.ii 0)] [] ?_;refine AW.ret ?_;obtain rfl:=zj h;exact zR [] [] []
 rw [if_neg (Bool.eq_false_iff.1 hb2)] at h;refine zT [(10,.ii v0),(11,.fn (.func 52) [] [.bp 4 0,.bp 5 0,.bp 3 0])] [(3,.box 49 [.sl Y3 specs]),(4,.box 45 [.sl Y0 h0]),(5,.box 33 [.sl .i order])] gt ?_;obtain ⟨v0_3,hv5,h⟩:=zw h;refine zC [] [(1000,4),(1001,5),(1002,3)] (a5k v0 h0 order specs hb2 hv5) [(12,.tup [.bool false,.ii v0])] [] ?_;refine zB [(6,.bool false),(7,.ii v0)] [] ?_;refine AW.ret ?_;obtain rfl:=zj h;exact zR [] [] []
end Go.Proofs.YtanaeefeggokkaaGreat
