import Derived.Test.YtenchhmcjmjlbaaCkp
import Derived.Test.YtenchhmcjmjlbaaShk
import Derived.Test.YtenchhmcjmjlbaaAvd
import Derived.Test.YtenchhmcjmjlbaaCfc1
import Derived.Test.YtenchhmcjmjlbaaCfc13
import Derived.Test.YtenchhmcjmjlbaaCfc2
import Derived.Test.YtenchhmcjmjlbaaCfc5
import Derived.Test.YtenchhmcjmjlbaaCfc6
namespace Go.Proofs.Ytenchhmcjmjlbaa
open Go.RowKit
set_option linter.unusedSimpArgs false
set_option linter.unusedVariables false
set_option linter.constructorNameAsVariable false
set_option maxRecDepth 100000
set_option maxHeartbeats 40000000
theorem a5s (c:List (List (Int×Int×Int×Int))) (a:Int) (b:Int) {r:(List (List (Int×Int×Int×Int)))×Int} (h:W3 c a b=some r):HC Try.prog 35 [] [.sl (.sl Y4) c,.ii a,.ii b] [(2000,.arr 71 (.sl Y4) r.1)] (.tup [.own 2000,.ii r.2]):=by
 unfold W3 at h
 refine zH Try.func35 [.tmp 6,.tmp 7] 53 ?_
 refine zo ?_
 refine zB [(0,.sl (.sl Y4) c),(1,.ii a),(2,.ii b)] [] ?_
 refine AW.seq ?_
 refine zo ?_
 refine zS 1 [(0,.sl (.sl Y4) c),(1,.ii a),(2,.ii b),(13,.sl (.sl Y4) c)] [] ?_
 obtain ⟨v0,hv1,h⟩:=zw h
 refine zC [] [] (a1e c hv1) [(0,.sl (.sl Y4) c),(1,.ii a),(2,.ii b),(14,.bool v0)] [] ?_
 refine zB [(0,.sl (.sl Y4) c),(1,.ii a),(2,.ii b),(15,.bool (!v0))] [] ?_
 refine zQ h (fun hb2 h=>?_) (fun hb2 h=>?_)
 ·refine zo ?_
  refine zB [(6,.cv (.slice none 0 0)),(7,.ii 80)] [] ?_
  refine zr ?_
  obtain rfl:=zj h
  exact zR [] [2000] []
 refine zk ?_
 refine AW.seq ?_
 refine zo ?_
 refine zS 1 [(0,.sl (.sl Y4) c),(1,.ii a),(2,.ii b),(16,.ii a)] [] ?_
 obtain ⟨v0_2,hv3,h⟩:=zw h
 refine zC [] [] (Q3 a hv3) [(0,.sl (.sl Y4) c),(1,.ii a),(2,.ii b),(17,.bool v0_2)] [] ?_
 refine zS 2 [(0,.sl (.sl Y4) c),(1,.ii a),(2,.ii b),(19,.bool (!v0_2))] [] ?_
 rcases zI h with ⟨hb4,h⟩|⟨hb4,h⟩
 ·refine zB [(0,.sl (.sl Y4) c),(1,.ii a),(2,.ii b),(23,.bool true)] [] ?_
  refine AW.cond (b:=true) rfl (fun _=>?_) (fun hb5=>by cases hb5)
  refine zo ?_
  refine zB [(6,.cv (.slice none 0 0)),(7,.ii 2)] [] ?_
  refine zr ?_
  obtain rfl:=zj h
  exact zR [] [2000] []
 refine zS 1 [(0,.sl (.sl Y4) c),(1,.ii a),(2,.ii b),(19,.bool false),(20,.ii b)] [] ?_
 obtain ⟨v0_3,hv6,h⟩:=zw h
 refine zG [] [] (Q3 b hv6) [(0,.sl (.sl Y4) c),(1,.ii a),(2,.ii b),(19,.bool false),(21,.bool v0_3)] [] ?_
 refine zB [(0,.sl (.sl Y4) c),(1,.ii a),(2,.ii b),(23,.bool (!v0_3))] [] ?_
 refine zQ h (fun hb7 h=>?_) (fun hb7 h=>?_)
 ·refine zo ?_
  refine zB [(6,.cv (.slice none 0 0)),(7,.ii 2)] [] ?_
  refine zr ?_
  obtain rfl:=zj h
  exact zR [] [2000] []
 refine zk ?_
 refine zo ?_
 refine zB [(0,.sl (.sl Y4) c),(1,.ii a),(2,.ii b),(8,.cv (.slice none 0 0))] [] ?_
 refine AW.have1 (fun b3_3:(List (List (Int×Int×Int×Int)))=>a0i b3_3=some r) (fun b3_3=>⟨fr [(8,.own 50)],b8 [(50,.arr 71 (.sl Y4) b3_3)],gt⟩) (fun b3_3 h=>?_) (fun hk_code_Swapped_k1=>?_)
 ·as_aux_lemma =>
   unfold a0i at h
   refine zo ?_
   refine zB [(6,.own 50),(7,.ii 0)] [(50,.arr 71 (.sl Y4) b3_3)] ?_
   refine AW.ret ?_
   obtain rfl:=zj h
   exact zR [] [] [(2000,50)]
 refine AW.seq ?_
 refine zo ?_
 refine zB [(1,.ii a),(2,.ii b),(8,.cv (.slice none 0 0)),(24,.sl (.sl Y4) c),(25,.ii (c.length:Int)),(26,.ii 0)] [] ?_
 refine AW.block ?_
 obtain ⟨rv12,hw8,ho9⟩:=zw h
 refine AW.loopO (J4 c a b) (fun st1=>⟨fr [(1,.ii a),(2,.ii b),(8,.own 50),(24,.sl (.sl Y4) c),(25,.ii (c.length:Int)),(26,.ii st1.2)],b8 [(50,.arr 71 (.sl Y4) st1.1)],gt⟩) ([],0) hw8 (zL [] [50] []) ?_
 as_aux_lemma =>
  intro st1 x11 h hd10
  unfold J4 at h
  refine zo ?_
  refine zB [(1,.ii a),(2,.ii b),(8,.own 50),(24,.sl (.sl Y4) c),(25,.ii (c.length:Int)),(26,.ii st1.2),(27,.bool (decide (st1.2<(c.length:Int))))] [(50,.arr 71 (.sl Y4) st1.1)] ?_
  refine AW.seq ?_
  refine zQ h (fun hb13 h=>?_) (fun hb13 h=>?_)
  ·refine zk ?_
   refine AW.have1 (fun b3_2:(List (List (Int×Int×Int×Int)))=>T6 st1 b3_2=some x11) (fun b3_2=>⟨fr [(1,.ii a),(2,.ii b),(8,.own 50),(24,.sl (.sl Y4) c),(25,.ii (c.length:Int)),(26,.ii st1.2)],b8 [(50,.arr 71 (.sl Y4) b3_2)],gt⟩) (fun b3_2 h=>?_) (fun hk_code_Swapped_k2=>?_)
   ·as_aux_lemma =>
     unfold T6 at h
     refine AW.ops ?_
     obtain ⟨c14,h⟩:=b5.1 h
     refine zA [(1,.ii a),(2,.ii b),(8,.own 50),(24,.sl (.sl Y4) c),(25,.ii (c.length:Int)),(26,.ii (st1.2+1))] [(50,.arr 71 (.sl Y4) b3_2)] ?_
     obtain rfl:=zj h
     exact ⟨_,rfl,zL [] [] []⟩
   refine AW.seq ?_
   refine AW.block ?_
   refine zo ?_
   obtain ⟨c15,h⟩:=b5.1 h
   obtain ⟨c16,h⟩:=b5.1 h
   refine zB [(1,.ii a),(2,.ii b),(8,.own 50),(10,.sl Y4 (c.getD st1.2.toNat [])),(24,.sl (.sl Y4) c),(25,.ii (c.length:Int)),(26,.ii st1.2)] [(50,.arr 71 (.sl Y4) st1.1)] ?_
   refine zo ?_
   refine zS 1 [(1,.ii a),(2,.ii b),(8,.own 50),(24,.sl (.sl Y4) c),(25,.ii (c.length:Int)),(26,.ii st1.2),(30,.sl Y4 (c.getD st1.2.toNat []))] [(50,.arr 71 (.sl Y4) st1.1)] ?_
   obtain ⟨v0_4,hv17,h⟩:=zw h
   refine zC [] [] (a34 (c.getD st1.2.toNat []) hv17) [(1,.ii a),(2,.ii b),(8,.own 50),(24,.sl (.sl Y4) c),(25,.ii (c.length:Int)),(26,.ii st1.2),(31,.own 41000)] [(50,.arr 71 (.sl Y4) st1.1),(41000,.arr 74 Y4 v0_4)] ?_
   refine zB [(1,.ii a),(2,.ii b),(8,.own 50),(10,.own 41000),(24,.sl (.sl Y4) c),(25,.ii (c.length:Int)),(26,.ii st1.2)] [(50,.arr 71 (.sl Y4) st1.1),(41000,.arr 74 Y4 v0_4)] ?_
   refine AW.have1 (fun b3:(List (Int×Int×Int×Int))=>T5 st1 b3=some x11) (fun b3=>⟨fr [(1,.ii a),(2,.ii b),(8,.own 50),(10,.own 41000),(24,.sl (.sl Y4) c),(25,.ii (c.length:Int)),(26,.ii st1.2)],b8 [(50,.arr 71 (.sl Y4) st1.1),(41000,.arr 74 Y4 b3)],gt⟩) (fun b3 h=>?_) (fun hk_code_Swapped_k3=>?_)
   ·as_aux_lemma =>
     unfold T5 at h
     refine AW.ops ?_
     obtain ⟨c18,h⟩:=b5.1 h
     refine zA [(1,.ii a),(2,.ii b),(8,.own 50),(24,.sl (.sl Y4) c),(25,.ii (c.length:Int)),(26,.ii st1.2)] [(50,.arr 71 (.sl Y4) (st1.1++[b3]))] ?_
     refine i6 ?_
     refine f7 ?_
     have hj:=hk_code_Swapped_k2 _ h
     exact AW.weaken (zL [] [] []) hj
   refine AW.seq ?_
   refine zo ?_
   refine zB [(1,.ii a),(2,.ii b),(8,.own 50),(10,.own 41000),(24,.sl (.sl Y4) c),(25,.ii (c.length:Int)),(26,.ii st1.2),(32,.own 41000),(33,.ii (v0_4.length:Int)),(34,.ii 0)] [(50,.arr 71 (.sl Y4) st1.1),(41000,.arr 74 Y4 v0_4)] ?_
   refine AW.block ?_
   obtain ⟨rv23,hw19,ho20⟩:=zw h
   refine AW.loopO (J3 a b v0_4) (fun st2=>⟨fr [(1,.ii a),(2,.ii b),(8,.own 50),(10,.own 41000),(24,.sl (.sl Y4) c),(25,.ii (c.length:Int)),(26,.ii st1.2),(32,.own 41000),(33,.ii (v0_4.length:Int)),(34,.ii st2.2)],b8 [(50,.arr 71 (.sl Y4) st1.1),(41000,.arr 74 Y4 st2.1)],gt⟩) (v0_4,0) hw19 (zL [] [] []) ?_
   as_aux_lemma =>
    intro st2 x22 h hd21
    unfold J3 at h
    refine zo ?_
    refine zB [(1,.ii a),(2,.ii b),(8,.own 50),(10,.own 41000),(24,.sl (.sl Y4) c),(25,.ii (c.length:Int)),(26,.ii st1.2),(32,.own 41000),(33,.ii (v0_4.length:Int)),(34,.ii st2.2),(35,.bool (decide (st2.2<(v0_4.length:Int))))] [(50,.arr 71 (.sl Y4) st1.1),(41000,.arr 74 Y4 st2.1)] ?_
    refine AW.seq ?_
    refine zQ h (fun hb24 h=>?_) (fun hb24 h=>?_)
    ·refine zk ?_
     refine AW.seq ?_
     refine AW.block ?_
     refine zo ?_
     obtain ⟨c25,h⟩:=b5.1 h
     obtain ⟨c26,h⟩:=b5.1 h
     refine zS 5 [(1,.ii a),(2,.ii b),(8,.own 50),(10,.own 41000),(11,.ii st2.2),(12,.bp 12 0),(24,.sl (.sl Y4) c),(25,.ii (c.length:Int)),(26,.ii st1.2),(32,.own 41000),(33,.ii (v0_4.length:Int)),(34,.ii st2.2),(38,.agg [.ii (st2.1.getD st2.2.toNat (0,0,0,0)).1,.ii (st2.1.getD st2.2.toNat (0,0,0,0)).2.1,.ii (st2.1.getD st2.2.toNat (0,0,0,0)).2.2.1,.ii (st2.1.getD st2.2.toNat (0,0,0,0)).2.2.2])] [(12,.box 74 [.ii 0,.ii 0,.ii 0,.ii 0]),(50,.arr 71 (.sl Y4) st1.1),(41000,.arr 74 Y4 st2.1)] ?_
     refine zB [(1,.ii a),(2,.ii b),(8,.own 50),(10,.own 41000),(11,.ii st2.2),(12,.bp 12 0),(24,.sl (.sl Y4) c),(25,.ii (c.length:Int)),(26,.ii st1.2),(32,.own 41000),(33,.ii (v0_4.length:Int)),(34,.ii st2.2)] [(12,.box 74 [.ii (st2.1.getD st2.2.toNat (0,0,0,0)).1,.ii (st2.1.getD st2.2.toNat (0,0,0,0)).2.1,.ii (st2.1.getD st2.2.toNat (0,0,0,0)).2.2.1,.ii (st2.1.getD st2.2.toNat (0,0,0,0)).2.2.2]),(50,.arr 71 (.sl Y4) st1.1),(41000,.arr 74 Y4 st2.1)] ?_
     refine AW.ops ?_
     refine zS 5 [(1,.ii a),(2,.ii b),(8,.own 50),(10,.own 41000),(24,.sl (.sl Y4) c),(25,.ii (c.length:Int)),(26,.ii st1.2),(32,.own 41000),(33,.ii (v0_4.length:Int)),(34,.ii st2.2),(39,.own 41000),(40,.ii st2.2),(41,.agg [.ii (st2.1.getD st2.2.toNat (0,0,0,0)).1,.ii (st2.1.getD st2.2.toNat (0,0,0,0)).2.1,.ii (st2.1.getD st2.2.toNat (0,0,0,0)).2.2.1,.ii (st2.1.getD st2.2.toNat (0,0,0,0)).2.2.2]),(42,.ii a),(43,.ii b)] [(50,.arr 71 (.sl Y4) st1.1),(41000,.arr 74 Y4 st2.1)] ?_
     obtain ⟨v0_5,hv27,h⟩:=zw h
     refine zC [] [] (a36 (st2.1.getD st2.2.toNat (0,0,0,0)) a b hv27) [(1,.ii a),(2,.ii b),(8,.own 50),(10,.own 41000),(24,.sl (.sl Y4) c),(25,.ii (c.length:Int)),(26,.ii st1.2),(32,.own 41000),(33,.ii (v0_4.length:Int)),(34,.ii st2.2),(39,.own 41000),(40,.ii st2.2),(44,.agg [.ii (st2.1.getD st2.2.toNat (0,0,0,0)).1,.ii v0_5.1,.ii v0_5.2,.ii (st2.1.getD st2.2.toNat (0,0,0,0)).2.2.2])] [(50,.arr 71 (.sl Y4) st1.1),(41000,.arr 74 Y4 st2.1)] ?_
     obtain ⟨c28,h⟩:=b5.1 h
     obtain ⟨c29,h⟩:=b5.1 h
     refine zA [(1,.ii a),(2,.ii b),(8,.own 50),(10,.own 41000),(24,.sl (.sl Y4) c),(25,.ii (c.length:Int)),(26,.ii st1.2),(32,.own 41000),(33,.ii (v0_4.length:Int)),(34,.ii st2.2)] [(50,.arr 71 (.sl Y4) st1.1),(41000,.arr 74 Y4 (st2.1.set st2.2.toNat ((st2.1.getD st2.2.toNat (0,0,0,0)).1,v0_5.1,v0_5.2,(st2.1.getD st2.2.toNat (0,0,0,0)).2.2.2)))] ?_
     refine i6 ?_
     refine f7 ?_
     refine AW.ops ?_
     obtain ⟨c30,h⟩:=b5.1 h
     refine zA [(1,.ii a),(2,.ii b),(8,.own 50),(10,.own 41000),(24,.sl (.sl Y4) c),(25,.ii (c.length:Int)),(26,.ii st1.2),(32,.own 41000),(33,.ii (v0_4.length:Int)),(34,.ii (st2.2+1))] [(50,.arr 71 (.sl Y4) st1.1),(41000,.arr 74 Y4 (st2.1.set st2.2.toNat ((st2.1.getD st2.2.toNat (0,0,0,0)).1,v0_5.1,v0_5.2,(st2.1.getD st2.2.toNat (0,0,0,0)).2.2.2)))] ?_
     obtain rfl:=zj h
     exact ⟨_,rfl,zL [] [] []⟩
    refine AW.exit ?_
    refine g7 ?_
    obtain rfl:=zj h
    rw [← hd21 _ rfl] at ho20
    have h:=ho20
    refine g7 ?_
    refine l9 ?_
    refine f7 ?_
    have hj:=hk_code_Swapped_k3 _ h
    exact AW.weaken (zL [] [] []) hj
  refine AW.exit ?_
  refine g7 ?_
  obtain rfl:=zj h
  rw [← hd10 _ rfl] at ho9
  have h:=ho9
  refine g7 ?_
  refine l9 ?_
  refine f7 ?_
  have hj:=hk_code_Swapped_k1 _ h
  exact AW.weaken (zL [] [] []) hj
theorem Q1 (n:Int) (a:Int) (b:Int) {r:Int} (h:A3 n a b=some r):HC Try.prog 88 [] [.ii n,.ii a,.ii b] [] (.ii r):=by
 unfold A3 at h
 refine zH Try.func88 [.tmp 6] 16 ?_
 refine zo ?_
 refine zB [(0,.ii n),(1,.ii a),(2,.ii b)] [] ?_
 refine AW.seq ?_
 refine zo ?_
 refine zB [(0,.ii n),(1,.ii a),(2,.ii b),(9,.bool (decide (n=a)))] [] ?_
 refine zQ h (fun hb1 h=>?_) (fun hb1 h=>?_)
 ·refine zo ?_
  refine zB [(6,.ii b)] [] ?_
  refine zr ?_
  obtain rfl:=zj h
  exact zR [] [] []
 refine zk ?_
 refine AW.seq ?_
 refine zo ?_
 refine zB [(0,.ii n),(1,.ii a),(13,.bool (decide (n=b)))] [] ?_
 refine zQ h (fun hb2 h=>?_) (fun hb2 h=>?_)
 ·refine zo ?_
  refine zB [(6,.ii a)] [] ?_
  refine zr ?_
  obtain rfl:=zj h
  exact zR [] [] []
 refine zk ?_
 refine zo ?_
 refine zB [(6,.ii n)] [] ?_
 refine AW.ret ?_
 obtain rfl:=zj h
 exact zR [] [] []
theorem a12 (c:List (List (Int×Int×Int×Int))) (a:Int) (b:Int) {r:(List (List (Int×Int×Int×Int)))×Int} (h:F1 c a b=some r):HC Try.prog 36 [] [.sl (.sl Y4) c,.ii a,.ii b] [(2000,.arr 71 (.sl Y4) r.1)] (.tup [.own 2000,.ii r.2]):=by
 unfold F1 at h
 refine zH Try.func36 [.tmp 6,.tmp 7] 80 ?_
 refine zo ?_
 refine zB [(0,.sl (.sl Y4) c),(1,.ii a),(2,.ii b)] [] ?_
 refine AW.seq ?_
 refine zo ?_
 refine zS 1 [(0,.sl (.sl Y4) c),(1,.ii a),(2,.ii b),(12,.sl (.sl Y4) c)] [] ?_
 obtain ⟨v0,hv1,h⟩:=zw h
 refine zC [] [] (Z4 c hv1) [(0,.sl (.sl Y4) c),(1,.ii a),(2,.ii b),(13,.bool v0)] [] ?_
 refine zB [(0,.sl (.sl Y4) c),(1,.ii a),(2,.ii b),(14,.bool (!v0))] [] ?_
 refine zQ h (fun hb2 h=>?_) (fun hb2 h=>?_)
 ·refine zo ?_
  refine zB [(6,.cv (.slice none 0 0)),(7,.ii 80)] [] ?_
  refine zr ?_
  obtain rfl:=zj h
  exact zR [] [2000] []
 refine zk ?_
 refine AW.seq ?_
 refine zo ?_
 refine zS 1 [(0,.sl (.sl Y4) c),(1,.ii a),(2,.ii b),(15,.ii a)] [] ?_
 obtain ⟨v0_2,hv3,h⟩:=zw h
 refine zC [] [] (C4 a hv3) [(0,.sl (.sl Y4) c),(1,.ii a),(2,.ii b),(16,.bool v0_2)] [] ?_
 refine zS 2 [(0,.sl (.sl Y4) c),(1,.ii a),(2,.ii b),(18,.bool (!v0_2))] [] ?_
 rcases zI h with ⟨hb4,h⟩|⟨hb4,h⟩
 ·refine zB [(0,.sl (.sl Y4) c),(1,.ii a),(2,.ii b),(22,.bool true)] [] ?_
  refine AW.cond (b:=true) rfl (fun _=>?_) (fun hb5=>by cases hb5)
  refine zo ?_
  refine zB [(6,.cv (.slice none 0 0)),(7,.ii 2)] [] ?_
  refine zr ?_
  obtain rfl:=zj h
  exact zR [] [2000] []
 refine zS 1 [(0,.sl (.sl Y4) c),(1,.ii a),(2,.ii b),(18,.bool false),(19,.ii b)] [] ?_
 obtain ⟨v0_3,hv6,h⟩:=zw h
 refine zG [] [] (C4 b hv6) [(0,.sl (.sl Y4) c),(1,.ii a),(2,.ii b),(18,.bool false),(20,.bool v0_3)] [] ?_
 refine zB [(0,.sl (.sl Y4) c),(1,.ii a),(2,.ii b),(22,.bool (!v0_3))] [] ?_
 refine zQ h (fun hb7 h=>?_) (fun hb7 h=>?_)
 ·refine zo ?_
  refine zB [(6,.cv (.slice none 0 0)),(7,.ii 2)] [] ?_
  refine zr ?_
  obtain rfl:=zj h
  exact zR [] [2000] []
 refine zk ?_
 refine zo ?_
 refine zB [(0,.sl (.sl Y4) c),(1,.ii a),(2,.ii b),(8,.cv (.slice none 0 0))] [] ?_
 refine AW.have1 (fun b3_3:(List (List (Int×Int×Int×Int)))=>N8 b3_3=some r) (fun b3_3=>⟨fr [(8,.own 78)],b8 [(78,.arr 71 (.sl Y4) b3_3)],gt⟩) (fun b3_3 h=>?_) (fun hk_linealref08_Swapped_k1=>?_)
 ·as_aux_lemma =>
   unfold N8 at h
   refine zo ?_
   refine zB [(6,.own 78),(7,.ii 0)] [(78,.arr 71 (.sl Y4) b3_3)] ?_
   refine AW.ret ?_
   obtain rfl:=zj h
   exact zR [] [] [(2000,78)]
 refine AW.seq ?_
 refine zo ?_
 refine zB [(0,.sl (.sl Y4) c),(1,.ii a),(2,.ii b),(8,.cv (.slice none 0 0)),(9,.ii 0)] [] ?_
 refine AW.block ?_
 obtain ⟨rv12,hw8,ho9⟩:=zw h
 refine AW.loopO (s6 c a b) (fun st1=>⟨fr [(0,.sl (.sl Y4) c),(1,.ii a),(2,.ii b),(8,.own 78),(9,.ii st1.2)],b8 [(78,.arr 71 (.sl Y4) st1.1)],gt⟩) ([],0) hw8 (zL [] [78] []) ?_
 as_aux_lemma =>
  intro st1 x11 h hd10
  unfold s6 at h
  refine AW.seq ?_
  refine zo ?_
  refine zB [(0,.sl (.sl Y4) c),(1,.ii a),(2,.ii b),(8,.own 78),(9,.ii st1.2),(26,.bool (decide (st1.2<(c.length:Int))))] [(78,.arr 71 (.sl Y4) st1.1)] ?_
  refine zQ h (fun hb13 h=>?_) (fun hb13 h=>?_)
  ·refine zk ?_
   refine AW.have1 (fun b3_2:(List (List (Int×Int×Int×Int)))=>F6 st1 b3_2=some x11) (fun b3_2=>⟨fr [(0,.sl (.sl Y4) c),(1,.ii a),(2,.ii b),(8,.own 78),(9,.ii st1.2)],b8 [(78,.arr 71 (.sl Y4) b3_2)],gt⟩) (fun b3_2 h=>?_) (fun hk_linealref08_Swapped_k2=>?_)
   ·as_aux_lemma =>
     unfold F6 at h
     refine AW.ops ?_
     obtain ⟨c14,h⟩:=b5.1 h
     refine zA [(0,.sl (.sl Y4) c),(1,.ii a),(2,.ii b),(8,.own 78),(9,.ii (st1.2+1))] [(78,.arr 71 (.sl Y4) b3_2)] ?_
     obtain rfl:=zj h
     exact ⟨_,rfl,zL [] [] []⟩
   refine AW.seq ?_
   refine AW.block ?_
   refine zo ?_
   obtain ⟨c15,h⟩:=b5.1 h
   obtain ⟨c16,h⟩:=b5.1 h
   refine zS 5 [(0,.sl (.sl Y4) c),(1,.ii a),(2,.ii b),(8,.own 78),(9,.ii st1.2),(29,.own 29),(33,.sl Y4 (c.getD st1.2.toNat []))] [(29,.arr 74 Y4 []),(78,.arr 71 (.sl Y4) st1.1)] ?_
   obtain ⟨c17,h⟩:=b5.1 h
   refine zB [(0,.sl (.sl Y4) c),(1,.ii a),(2,.ii b),(8,.own 78),(9,.ii st1.2),(10,.own 34)] [(34,.arr 74 Y4 (c.getD st1.2.toNat [])),(78,.arr 71 (.sl Y4) st1.1)] ?_
   refine AW.have1 (fun b3:(List (Int×Int×Int×Int))=>F5 st1 b3=some x11) (fun b3=>⟨fr [(0,.sl (.sl Y4) c),(1,.ii a),(2,.ii b),(8,.own 78),(9,.ii st1.2),(10,.own 34)],b8 [(34,.arr 74 Y4 b3),(78,.arr 71 (.sl Y4) st1.1)],gt⟩) (fun b3 h=>?_) (fun hk_linealref08_Swapped_k3=>?_)
   ·as_aux_lemma =>
     unfold F5 at h
     refine AW.ops ?_
     obtain ⟨c18,h⟩:=b5.1 h
     refine zA [(0,.sl (.sl Y4) c),(1,.ii a),(2,.ii b),(8,.own 78),(9,.ii st1.2)] [(78,.arr 71 (.sl Y4) (st1.1++[b3]))] ?_
     refine i6 ?_
     refine f7 ?_
     have hj:=hk_linealref08_Swapped_k2 _ h
     exact AW.weaken (zL [] [] []) hj
   refine AW.seq ?_
   refine zo ?_
   refine zB [(0,.sl (.sl Y4) c),(1,.ii a),(2,.ii b),(8,.own 78),(9,.ii st1.2),(10,.own 34),(11,.ii 0)] [(34,.arr 74 Y4 (c.getD st1.2.toNat [])),(78,.arr 71 (.sl Y4) st1.1)] ?_
   refine AW.block ?_
   obtain ⟨rv23,hw19,ho20⟩:=zw h
   refine AW.loopO (s5 a b) (fun st2=>⟨fr [(0,.sl (.sl Y4) c),(1,.ii a),(2,.ii b),(8,.own 78),(9,.ii st1.2),(10,.own 34),(11,.ii st2.2)],b8 [(34,.arr 74 Y4 st2.1),(78,.arr 71 (.sl Y4) st1.1)],gt⟩) ((c.getD st1.2.toNat []),0) hw19 (zL [] [] []) ?_
   as_aux_lemma =>
    intro st2 x22 h hd21
    unfold s5 at h
    refine AW.seq ?_
    refine zo ?_
    refine zB [(0,.sl (.sl Y4) c),(1,.ii a),(2,.ii b),(8,.own 78),(9,.ii st1.2),(10,.own 34),(11,.ii st2.2),(38,.bool (decide (st2.2<(st2.1.length:Int))))] [(34,.arr 74 Y4 st2.1),(78,.arr 71 (.sl Y4) st1.1)] ?_
    refine zQ h (fun hb24 h=>?_) (fun hb24 h=>?_)
    ·refine zk ?_
     refine AW.seq ?_
     refine AW.block ?_
     refine zo ?_
     obtain ⟨c25,h⟩:=b5.1 h
     obtain ⟨c26,h⟩:=b5.1 h
     refine zB [(0,.sl (.sl Y4) c),(1,.ii a),(2,.ii b),(8,.own 78),(9,.ii st1.2),(10,.own 34),(11,.ii st2.2),(45,.ii (st2.1.getD st2.2.toNat (0,0,0,0)).1)] [(34,.arr 74 Y4 st2.1),(78,.arr 71 (.sl Y4) st1.1)] ?_
     refine AW.block ?_
     refine zo ?_
     refine zB [(0,.sl (.sl Y4) c),(1,.ii a),(2,.ii b),(8,.own 78),(9,.ii st1.2),(10,.own 34),(11,.ii st2.2),(45,.ii (st2.1.getD st2.2.toNat (0,0,0,0)).1),(46,.bool (decide ((st2.1.getD st2.2.toNat (0,0,0,0)).1=1)))] [(34,.arr 74 Y4 st2.1),(78,.arr 71 (.sl Y4) st1.1)] ?_
     refine zQ h (fun hb27 h=>?_) (fun hb27 h=>?_)
     ·refine AW.ops ?_
      obtain ⟨c28,h⟩:=b5.1 h
      obtain ⟨c29,h⟩:=b5.1 h
      refine zS 5 [(0,.sl (.sl Y4) c),(1,.ii a),(2,.ii b),(8,.own 78),(9,.ii st1.2),(10,.own 34),(11,.ii st2.2),(48,.own 34),(49,.ii st2.2),(52,.ap 34 4 st2.2.toNat 0)] [(34,.arr 74 Y4 st2.1),(78,.arr 71 (.sl Y4) st1.1)] ?_
      refine zS 4 [(0,.sl (.sl Y4) c),(1,.ii a),(2,.ii b),(8,.own 78),(9,.ii st1.2),(10,.own 34),(11,.ii st2.2),(48,.own 34),(49,.ii st2.2),(54,.ii (st2.1.getD st2.2.toNat (0,0,0,0)).2.2.1),(55,.ii a),(56,.ii b)] [(34,.arr 74 Y4 st2.1),(78,.arr 71 (.sl Y4) st1.1)] ?_
      obtain ⟨v0_4,hv30,h⟩:=zw h
      refine zC [] [] (Q1 (st2.1.getD st2.2.toNat (0,0,0,0)).2.2.1 a b hv30) [(0,.sl (.sl Y4) c),(1,.ii a),(2,.ii b),(8,.own 78),(9,.ii st1.2),(10,.own 34),(11,.ii st2.2),(48,.own 34),(49,.ii st2.2),(57,.ii v0_4)] [(34,.arr 74 Y4 st2.1),(78,.arr 71 (.sl Y4) st1.1)] ?_
      obtain ⟨c31,h⟩:=b5.1 h
      obtain ⟨c32,h⟩:=b5.1 h
      refine zA [(0,.sl (.sl Y4) c),(1,.ii a),(2,.ii b),(8,.own 78),(9,.ii st1.2),(10,.own 34),(11,.ii st2.2)] [(34,.arr 74 Y4 (st2.1.set st2.2.toNat ((st2.1.getD st2.2.toNat (0,0,0,0)).1,(st2.1.getD st2.2.toNat (0,0,0,0)).2.1,v0_4,(st2.1.getD st2.2.toNat (0,0,0,0)).2.2.2))),(78,.arr 71 (.sl Y4) st1.1)] ?_
      refine i6 ?_
      refine i6 ?_
      refine f7 ?_
      refine AW.ops ?_
      obtain ⟨c33,h⟩:=b5.1 h
      refine zA [(0,.sl (.sl Y4) c),(1,.ii a),(2,.ii b),(8,.own 78),(9,.ii st1.2),(10,.own 34),(11,.ii (st2.2+1))] [(34,.arr 74 Y4 (st2.1.set st2.2.toNat ((st2.1.getD st2.2.toNat (0,0,0,0)).1,(st2.1.getD st2.2.toNat (0,0,0,0)).2.1,v0_4,(st2.1.getD st2.2.toNat (0,0,0,0)).2.2.2))),(78,.arr 71 (.sl Y4) st1.1)] ?_
      obtain rfl:=zj h
      exact ⟨_,rfl,zL [] [] []⟩
     refine AW.seq ?_
     refine zo ?_
     refine zB [(0,.sl (.sl Y4) c),(1,.ii a),(2,.ii b),(8,.own 78),(9,.ii st1.2),(10,.own 34),(11,.ii st2.2),(45,.ii (st2.1.getD st2.2.toNat (0,0,0,0)).1),(60,.bool (decide ((st2.1.getD st2.2.toNat (0,0,0,0)).1=2)))] [(34,.arr 74 Y4 st2.1),(78,.arr 71 (.sl Y4) st1.1)] ?_
     refine zQ h (fun hb34 h=>?_) (fun hb34 h=>?_)
     ·refine zk ?_
      refine zQ h (fun hb35 h=>?_) (fun hb35 h=>?_)
      ·refine AW.ops ?_
       obtain ⟨c36,h⟩:=b5.1 h
       obtain ⟨c37,h⟩:=b5.1 h
       refine zS 5 [(0,.sl (.sl Y4) c),(1,.ii a),(2,.ii b),(8,.own 78),(9,.ii st1.2),(10,.own 34),(11,.ii st2.2),(63,.own 34),(64,.ii st2.2),(67,.ap 34 4 st2.2.toNat 0)] [(34,.arr 74 Y4 st2.1),(78,.arr 71 (.sl Y4) st1.1)] ?_
       refine zS 4 [(0,.sl (.sl Y4) c),(1,.ii a),(2,.ii b),(8,.own 78),(9,.ii st1.2),(10,.own 34),(11,.ii st2.2),(63,.own 34),(64,.ii st2.2),(69,.ii (st2.1.getD st2.2.toNat (0,0,0,0)).2.1),(70,.ii a),(71,.ii b)] [(34,.arr 74 Y4 st2.1),(78,.arr 71 (.sl Y4) st1.1)] ?_
       obtain ⟨v0_5,hv38,h⟩:=zw h
       refine zC [] [] (Q1 (st2.1.getD st2.2.toNat (0,0,0,0)).2.1 a b hv38) [(0,.sl (.sl Y4) c),(1,.ii a),(2,.ii b),(8,.own 78),(9,.ii st1.2),(10,.own 34),(11,.ii st2.2),(63,.own 34),(64,.ii st2.2),(72,.ii v0_5)] [(34,.arr 74 Y4 st2.1),(78,.arr 71 (.sl Y4) st1.1)] ?_
       obtain ⟨c39,h⟩:=b5.1 h
       obtain ⟨c40,h⟩:=b5.1 h
       refine zA [(0,.sl (.sl Y4) c),(1,.ii a),(2,.ii b),(8,.own 78),(9,.ii st1.2),(10,.own 34),(11,.ii st2.2)] [(34,.arr 74 Y4 (st2.1.set st2.2.toNat ((st2.1.getD st2.2.toNat (0,0,0,0)).1,v0_5,(st2.1.getD st2.2.toNat (0,0,0,0)).2.2))),(78,.arr 71 (.sl Y4) st1.1)] ?_
       refine i6 ?_
       refine i6 ?_
       refine f7 ?_
       refine AW.ops ?_
       obtain ⟨c41,h⟩:=b5.1 h
       refine zA [(0,.sl (.sl Y4) c),(1,.ii a),(2,.ii b),(8,.own 78),(9,.ii st1.2),(10,.own 34),(11,.ii (st2.2+1))] [(34,.arr 74 Y4 (st2.1.set st2.2.toNat ((st2.1.getD st2.2.toNat (0,0,0,0)).1,v0_5,(st2.1.getD st2.2.toNat (0,0,0,0)).2.2))),(78,.arr 71 (.sl Y4) st1.1)] ?_
       obtain rfl:=zj h
       exact ⟨_,rfl,zL [] [] []⟩
      exact absurd (hb34.symm.trans hb35) (by decide)
     refine AW.ops ?_
     refine zB [(0,.sl (.sl Y4) c),(1,.ii a),(2,.ii b),(8,.own 78),(9,.ii st1.2),(10,.own 34),(11,.ii st2.2),(60,.bool (decide ((st2.1.getD st2.2.toNat (0,0,0,0)).1=3)))] [(34,.arr 74 Y4 st2.1),(78,.arr 71 (.sl Y4) st1.1)] ?_
     refine zQ h (fun hb42 h=>?_) (fun hb42 h=>?_)
     ·refine AW.ops ?_
      obtain ⟨c43,h⟩:=b5.1 h
      obtain ⟨c44,h⟩:=b5.1 h
      refine zS 5 [(0,.sl (.sl Y4) c),(1,.ii a),(2,.ii b),(8,.own 78),(9,.ii st1.2),(10,.own 34),(11,.ii st2.2),(63,.own 34),(64,.ii st2.2),(67,.ap 34 4 st2.2.toNat 0)] [(34,.arr 74 Y4 st2.1),(78,.arr 71 (.sl Y4) st1.1)] ?_
      refine zS 4 [(0,.sl (.sl Y4) c),(1,.ii a),(2,.ii b),(8,.own 78),(9,.ii st1.2),(10,.own 34),(11,.ii st2.2),(63,.own 34),(64,.ii st2.2),(69,.ii (st2.1.getD st2.2.toNat (0,0,0,0)).2.1),(70,.ii a),(71,.ii b)] [(34,.arr 74 Y4 st2.1),(78,.arr 71 (.sl Y4) st1.1)] ?_
      obtain ⟨v0_6,hv45,h⟩:=zw h
      refine zC [] [] (Q1 (st2.1.getD st2.2.toNat (0,0,0,0)).2.1 a b hv45) [(0,.sl (.sl Y4) c),(1,.ii a),(2,.ii b),(8,.own 78),(9,.ii st1.2),(10,.own 34),(11,.ii st2.2),(63,.own 34),(64,.ii st2.2),(72,.ii v0_6)] [(34,.arr 74 Y4 st2.1),(78,.arr 71 (.sl Y4) st1.1)] ?_
      obtain ⟨c46,h⟩:=b5.1 h
      obtain ⟨c47,h⟩:=b5.1 h
      refine zA [(0,.sl (.sl Y4) c),(1,.ii a),(2,.ii b),(8,.own 78),(9,.ii st1.2),(10,.own 34),(11,.ii st2.2)] [(34,.arr 74 Y4 (st2.1.set st2.2.toNat ((st2.1.getD st2.2.toNat (0,0,0,0)).1,v0_6,(st2.1.getD st2.2.toNat (0,0,0,0)).2.2))),(78,.arr 71 (.sl Y4) st1.1)] ?_
      refine i6 ?_
      refine i6 ?_
      refine f7 ?_
      refine AW.ops ?_
      obtain ⟨c48,h⟩:=b5.1 h
      refine zA [(0,.sl (.sl Y4) c),(1,.ii a),(2,.ii b),(8,.own 78),(9,.ii st1.2),(10,.own 34),(11,.ii (st2.2+1))] [(34,.arr 74 Y4 (st2.1.set st2.2.toNat ((st2.1.getD st2.2.toNat (0,0,0,0)).1,v0_6,(st2.1.getD st2.2.toNat (0,0,0,0)).2.2))),(78,.arr 71 (.sl Y4) st1.1)] ?_
      obtain rfl:=zj h
      exact ⟨_,rfl,zL [] [] []⟩
     refine zm ?_
     refine i6 ?_
     refine f7 ?_
     refine AW.ops ?_
     obtain ⟨c49,h⟩:=b5.1 h
     refine zA [(0,.sl (.sl Y4) c),(1,.ii a),(2,.ii b),(8,.own 78),(9,.ii st1.2),(10,.own 34),(11,.ii (st2.2+1))] [(34,.arr 74 Y4 st2.1),(78,.arr 71 (.sl Y4) st1.1)] ?_
     obtain rfl:=zj h
     exact ⟨_,rfl,zL [] [] []⟩
    refine AW.exit ?_
    refine g7 ?_
    obtain rfl:=zj h
    rw [← hd21 _ rfl] at ho20
    have h:=ho20
    refine g7 ?_
    refine l9 ?_
    refine f7 ?_
    have hj:=hk_linealref08_Swapped_k3 _ h
    exact AW.weaken (zL [] [] []) hj
  refine AW.exit ?_
  refine g7 ?_
  obtain rfl:=zj h
  rw [← hd10 _ rfl] at ho9
  have h:=ho9
  refine g7 ?_
  refine l9 ?_
  refine f7 ?_
  have hj:=hk_linealref08_Swapped_k1 _ h
  exact AW.weaken (zL [] [] []) hj
theorem a1v (a:List (List (Int×Int×Int×Int))) (b:List (List (Int×Int×Int×Int))) {r:Bool} (h:s4 a b=some r):HC Try.prog 37 [] [.sl (.sl Y4) a,.sl (.sl Y4) b] [] (.bool r):=by
 unfold s4 at h
 refine zH Try.func37 [.tmp 4] 53 ?_
 refine zo ?_
 refine zB [(0,.sl (.sl Y4) a),(1,.sl (.sl Y4) b)] [] ?_
 refine AW.seq ?_
 refine zo ?_
 refine zB [(0,.sl (.sl Y4) a),(1,.sl (.sl Y4) b),(11,.bool (!(decide ((a.length:Int)=(b.length:Int)))))] [] ?_
 refine zQ h (fun hb1 h=>?_) (fun hb1 h=>?_)
 ·refine zo ?_
  refine zB [(4,.bool false)] [] ?_
  refine zr ?_
  obtain rfl:=zj h
  exact zR [] [] []
 refine zk ?_
 refine AW.have1 (fun _:Unit=>N0=some r) (fun _=>⟨fr [],b8 [],gt⟩) (fun _ h=>?_) (fun hk_linealref08_SameCode_k1=>?_)
 ·as_aux_lemma =>
   unfold N0 at h
   refine zo ?_
   refine zB [(4,.bool true)] [] ?_
   refine AW.ret ?_
   obtain rfl:=zj h
   exact zR [] [] []
 refine AW.seq ?_
 refine zo ?_
 refine zB [(0,.sl (.sl Y4) a),(1,.sl (.sl Y4) b),(5,.ii 0)] [] ?_
 refine AW.block ?_
 obtain ⟨rv6,hw2,ho3⟩:=zw h
 refine AW.loopO (r7 a b) (fun st1=>⟨fr [(0,.sl (.sl Y4) a),(1,.sl (.sl Y4) b),(5,.ii st1)],b8 [],gt⟩) 0 hw2 (zL [] [] []) ?_
 as_aux_lemma =>
  intro st1 x5 h hd4
  unfold r7 at h
  refine AW.seq ?_
  refine zo ?_
  refine zB [(0,.sl (.sl Y4) a),(1,.sl (.sl Y4) b),(5,.ii st1),(15,.bool (decide (st1<(a.length:Int))))] [] ?_
  refine zQ h (fun hb7 h=>?_) (fun hb7 h=>?_)
  ·refine zk ?_
   refine AW.have1 (fun _:Unit=>E5 st1=some x5) (fun _=>⟨fr [(0,.sl (.sl Y4) a),(1,.sl (.sl Y4) b),(5,.ii st1)],b8 [],gt⟩) (fun _ h=>?_) (fun hk_linealref08_SameCode_k2=>?_)
   ·as_aux_lemma =>
     unfold E5 at h
     refine AW.ops ?_
     obtain ⟨c8,h⟩:=b5.1 h
     refine zA [(0,.sl (.sl Y4) a),(1,.sl (.sl Y4) b),(5,.ii (st1+1))] [] ?_
     obtain rfl:=zj h
     exact ⟨_,rfl,zL [] [] []⟩
   refine AW.seq ?_
   refine AW.block ?_
   refine AW.seq ?_
   refine AW.seq ?_
   refine AW.draw m8 l6 [] [] (by decide) (n6 (by kernel_rfl)) ?_
   as_aux_lemma =>
    obtain ⟨c10,h⟩:=b5.1 h
    obtain ⟨c11,h⟩:=b5.1 h
    refine b9 6 (fun K' hK9=>?_)
    try dsimp only [y1,y2,y3,y4]
    simp only [go_sem,hb1,hb7]
    repeat with_reducible refine zN ?_
    refine hK9 _ ?_
    as_aux_lemma =>
     obtain ⟨c13,h⟩:=b5.1 h
     obtain ⟨c14,h⟩:=b5.1 h
     refine b9 5 (fun K' hK12=>?_)
     try dsimp only [y1,y2,y3,y4]
     simp only [go_sem,hb1,hb7]
     repeat with_reducible refine zN ?_
     refine hK12 _ ?_
     refine g6 ?_
     refine f7 ?_
     refine zV [(0,.sl (.sl Y4) a),(1,.sl (.sl Y4) b),(5,.ii st1),(28,.bool (!(decide (((a.getD st1.toNat []).length:Int)=((b.getD st1.toNat []).length:Int)))))] [] gt ?_
     as_aux_lemma =>
      refine zQ h (fun hb15 h=>?_) (fun hb15 h=>?_)
      ·refine zo ?_
       refine zB [(4,.bool false)] [] ?_
       refine zr ?_
       refine d7 ?_
       refine d6 ?_
       obtain rfl:=zj h
       try rw [← hd4 _ rfl] at ho3
       have h:=ho3
       try simp only at h
       refine d6 ?_
       refine d7 ?_
       refine d6 ?_
       obtain rfl:=zj h
       exact zR [] [] []
      refine zk ?_
      refine zo ?_
      refine zB [(0,.sl (.sl Y4) a),(1,.sl (.sl Y4) b),(5,.ii st1),(6,.ii 0)] [] ?_
      refine AW.block ?_
      obtain ⟨rv20,hw16,ho17⟩:=zw h
      refine AW.loopO (r6 a b st1) (fun st2=>⟨fr [(0,.sl (.sl Y4) a),(1,.sl (.sl Y4) b),(5,.ii st1),(6,.ii st2)],b8 [],gt⟩) 0 hw16 (zL [] [] []) ?_
      as_aux_lemma =>
       intro st2 x19 h hd18
       unfold r6 at h
       refine AW.seq ?_
       refine zo ?_
       obtain ⟨c21,h⟩:=b5.1 h
       obtain ⟨c22,h⟩:=b5.1 h
       refine zS 5 [(0,.sl (.sl Y4) a),(1,.sl (.sl Y4) b),(5,.ii st1),(6,.ii st2),(29,.ii st2),(33,.sl Y4 (a.getD st1.toNat []))] [] ?_
       refine zB [(0,.sl (.sl Y4) a),(1,.sl (.sl Y4) b),(5,.ii st1),(6,.ii st2),(35,.bool (decide (st2<((a.getD st1.toNat []).length:Int))))] [] ?_
       refine zQ h (fun hb23 h=>?_) (fun hb23 h=>?_)
       ·refine zk ?_
        refine AW.seq ?_
        refine AW.block ?_
        refine AW.seq ?_
        refine AW.drawTail m8 l6 14 [] [] (by decide) (by kernel_rfl) (by kernel_rfl) (by decide) ?_
        dsimp only [List.take_succ_cons,List.take_zero]
        obtain ⟨c25,h⟩:=b5.1 h
        obtain ⟨c26,h⟩:=b5.1 h
        obtain ⟨c27,h⟩:=b5.1 h
        obtain ⟨c28,h⟩:=b5.1 h
        refine b9 6 (fun K' hK24=>?_)
        try dsimp only [y1,y2,y3,y4]
        simp only [go_sem,hb1,hb7,hb15,hb23]
        repeat with_reducible refine zN ?_
        refine hK24 _ ?_
        as_aux_lemma =>
         obtain ⟨c30,h⟩:=b5.1 h
         obtain ⟨c31,h⟩:=b5.1 h
         refine b9 6 (fun K' hK29=>?_)
         try dsimp only [y1,y2,y3,y4]
         simp only [go_sem,hb1,hb7,hb15,hb23]
         repeat with_reducible refine zN ?_
         refine hK29 _ ?_
         as_aux_lemma =>
          obtain ⟨c33,h⟩:=b5.1 h
          obtain ⟨c34,h⟩:=b5.1 h
          refine b9 2 (fun K' hK32=>?_)
          try dsimp only [y1,y2,y3,y4]
          simp only [go_sem,hb1,hb7,hb15,hb23]
          repeat with_reducible refine zN ?_
          refine hK32 _ ?_
          refine g6 ?_
          refine zT [(0,.sl (.sl Y4) a),(1,.sl (.sl Y4) b),(5,.ii st1),(6,.ii st2),(44,.agg [.ii ((a.getD st1.toNat []).getD st2.toNat (0,0,0,0)).1,.ii ((a.getD st1.toNat []).getD st2.toNat (0,0,0,0)).2.1,.ii ((a.getD st1.toNat []).getD st2.toNat (0,0,0,0)).2.2.1,.ii ((a.getD st1.toNat []).getD st2.toNat (0,0,0,0)).2.2.2]),(51,.agg [.ii ((b.getD st1.toNat []).getD st2.toNat (0,0,0,0)).1,.ii ((b.getD st1.toNat []).getD st2.toNat (0,0,0,0)).2.1,.ii ((b.getD st1.toNat []).getD st2.toNat (0,0,0,0)).2.2.1,.ii ((b.getD st1.toNat []).getD st2.toNat (0,0,0,0)).2.2.2])] [] gt ?_
          obtain ⟨c35,h⟩:=b5.1 h
          obtain ⟨c36,h⟩:=b5.1 h
          obtain ⟨c37,h⟩:=b5.1 h
          obtain ⟨c38,h⟩:=b5.1 h
          obtain ⟨c39,h⟩:=b5.1 h
          obtain ⟨c40,h⟩:=b5.1 h
          obtain ⟨c41,h⟩:=b5.1 h
          obtain ⟨c42,h⟩:=b5.1 h
          refine AO.aggEq (neg:=true) b0p (by decide) rfl rfl (lx:=[.ii ((a.getD st1.toNat []).getD st2.toNat (0,0,0,0)).1,.ii ((a.getD st1.toNat []).getD st2.toNat (0,0,0,0)).2.1,.ii ((a.getD st1.toNat []).getD st2.toNat (0,0,0,0)).2.2.1,.ii ((a.getD st1.toNat []).getD st2.toNat (0,0,0,0)).2.2.2]) (ly:=[.ii ((b.getD st1.toNat []).getD st2.toNat (0,0,0,0)).1,.ii ((b.getD st1.toNat []).getD st2.toNat (0,0,0,0)).2.1,.ii ((b.getD st1.toNat []).getD st2.toNat (0,0,0,0)).2.2.1,.ii ((b.getD st1.toNat []).getD st2.toNat (0,0,0,0)).2.2.2]) (by first|rfl|(simp only [go_sem,hb1,hb7,hb15,hb23])<;>(with_reducible and_intros)<;>first|assumption|rfl|omega|(unfold maxLen; omega)) (by first|rfl|(simp only [go_sem,hb1,hb7,hb15,hb23])<;>(with_reducible and_intros)<;>first|assumption|rfl|omega|(unfold maxLen; omega)) (by first|rfl|(simp only [go_sem,hb1,hb7,hb15,hb23])<;>(with_reducible and_intros)<;>first|assumption|rfl|omega|(unfold maxLen; omega)) (by first|rfl|(simp only [go_sem,hb1,hb7,hb15,hb23])<;>(with_reducible and_intros)<;>first|assumption|rfl|omega|(unfold maxLen; omega)) (by first|assumption|omega|(simp only [go_sem,hb1,hb7,hb15,hb23])<;>(with_reducible and_intros)<;>first|assumption|rfl|omega|(unfold maxLen; omega)) (by first|assumption|omega|(simp only [go_sem,hb1,hb7,hb15,hb23])<;>(with_reducible and_intros)<;>first|assumption|rfl|omega|(unfold maxLen; omega)) ?_
          refine zT [(0,.sl (.sl Y4) a),(1,.sl (.sl Y4) b),(5,.ii st1),(6,.ii st2),(52,.bool (!(decide (((a.getD st1.toNat []).getD st2.toNat (0,0,0,0))=((b.getD st1.toNat []).getD st2.toNat (0,0,0,0))))))] [] gt ?_
          refine zB [(0,.sl (.sl Y4) a),(1,.sl (.sl Y4) b),(5,.ii st1),(6,.ii st2),(52,.bool (!(decide (((a.getD st1.toNat []).getD st2.toNat (0,0,0,0))=((b.getD st1.toNat []).getD st2.toNat (0,0,0,0))))))] [] ?_
          refine zQ h (fun hb43 h=>?_) (fun hb43 h=>?_)
          ·refine zo ?_
           refine zB [(4,.bool false)] [] ?_
           refine AW.ret ?_
           refine d7 ?_
           refine d6 ?_
           obtain rfl:=zj h
           try rw [← hd18 _ rfl] at ho17
           have h:=ho17
           try simp only at h
           refine d6 ?_
           refine d7 ?_
           refine d7 ?_
           refine d6 ?_
           obtain rfl:=zj h
           try rw [← hd4 _ rfl] at ho3
           have h:=ho3
           try simp only at h
           refine d6 ?_
           refine d7 ?_
           refine d6 ?_
           obtain rfl:=zj h
           exact zR [] [] []
          refine zm ?_
          refine f7 ?_
          refine AW.ops ?_
          obtain ⟨c44,h⟩:=b5.1 h
          refine zA [(0,.sl (.sl Y4) a),(1,.sl (.sl Y4) b),(5,.ii st1),(6,.ii (st2+1))] [] ?_
          obtain rfl:=zj h
          exact ⟨_,rfl,zL [] [] []⟩
       refine AW.exit ?_
       refine g7 ?_
       obtain rfl:=zj h
       try rw [← hd18 _ rfl] at ho17
       have h:=ho17
       try simp only at h
       refine g7 ?_
       refine l9 ?_
       refine i6 ?_
       refine f7 ?_
       exact AW.weaken (zL [] [] []) (hk_linealref08_SameCode_k2 () h)
  refine AW.exit ?_
  refine g7 ?_
  obtain rfl:=zj h
  try rw [← hd4 _ rfl] at ho3
  have h:=ho3
  try simp only at h
  refine g7 ?_
  refine l9 ?_
  refine f7 ?_
  exact AW.weaken (zL [] [] []) (hk_linealref08_SameCode_k1 () h)
end Go.Proofs.Ytenchhmcjmjlbaa
