import Derived.Test.YtanaeefeggokkaaGreatCkp
import Derived.Test.YtanaeefeggokkaaGreatShk
import Derived.Test.YtanaeefeggokkaaGreatAvd
import Derived.Test.YtanaeefeggokkaaGreatCqc9
namespace Go.Proofs.YtanaeefeggokkaaGreat
open Go.RowKit
set_option linter.unusedSimpArgs false
set_option linter.unusedVariables false
set_option linter.constructorNameAsVariable false
set_option maxRecDepth 100000
set_option maxHeartbeats 40000000
theorem a3T (l:Int×Int×Int×Int) (lines:Int) {r:Bool} (h:L5 l lines=some r):HC Tryz.prog 81 [] [.agg [.ii l.1,.ii l.2.1,.ii l.2.2.1,.ii l.2.2.2],.ii lines] [] (.bool r):=by
 unfold L5 at h;refine zH Tryz.func81 [.tmp 4] 114 ?_;refine zo ?_;refine zB [(1,.ii lines),(2,.bp 2 0)] [(2,.box 60 [.ii l.1,.ii l.2.1,.ii l.2.2.1,.ii l.2.2.2])] ?_;refine AW.seq ?_;refine zo ?_;refine zB [(1,.ii lines),(2,.bp 2 0),(6,.ii l.1)] [(2,.box 60 [.ii l.1,.ii l.2.1,.ii l.2.2.1,.ii l.2.2.2])] ?_;refine AW.block ?_;refine zo ?_;refine zB [(1,.ii lines),(2,.bp 2 0),(6,.ii l.1),(7,.bool (decide (l.1=1)))] [(2,.box 60 [.ii l.1,.ii l.2.1,.ii l.2.2.1,.ii l.2.2.2])] ?_;refine zQ h (fun hb1 h=>?_) (fun hb1 h=>?_)
 ·refine zo ?_;refine zS 2 [(2,.bp 2 0),(10,.ii l.2.1)] [(2,.box 60 [.ii l.1,.ii l.2.1,.ii l.2.2.1,.ii l.2.2.2])] ?_;obtain ⟨v0,hv2,h⟩:=zw h;refine zC [] [] (j8 l.2.1 hv2) [(2,.bp 2 0),(11,.bool v0)] [(2,.box 60 [.ii l.1,.ii l.2.1,.ii l.2.2.1,.ii l.2.2.2])] ?_;refine zS 1 [(2,.bp 2 0),(12,.bool v0)] [(2,.box 60 [.ii l.1,.ii l.2.1,.ii l.2.2.1,.ii l.2.2.2])] ?_;rcases zI h with ⟨hb3,h⟩|⟨hb3,h⟩
  ·refine zS 2 [(2,.bp 2 0),(12,.bool true),(14,.ii l.2.2.1)] [(2,.box 60 [.ii l.1,.ii l.2.1,.ii l.2.2.1,.ii l.2.2.2])] ?_;obtain ⟨v0_2,hv4,h⟩:=zw h;refine zG [] [] (T6 l.2.2.1 hv4) [(2,.bp 2 0),(12,.bool true),(15,.bool v0_2)] [(2,.box 60 [.ii l.1,.ii l.2.1,.ii l.2.2.1,.ii l.2.2.2])] ?_;refine zS 2 [(2,.bp 2 0),(17,.bool v0_2)] [(2,.box 60 [.ii l.1,.ii l.2.1,.ii l.2.2.1,.ii l.2.2.2])] ?_;rcases zI h with ⟨hb5,h⟩|⟨hb5,h⟩
   ·refine zB [(4,.bool (decide (l.2.2.2=0)))] [] ?_;refine AW.ret ?_;refine d5 ?_;refine b9 ?_;obtain rfl:=zj h;exact zR [] [] []
   refine zB [(4,.bool false)] [] ?_;refine AW.ret ?_;refine d5 ?_;refine b9 ?_;obtain rfl:=zj h;exact zR [] [] []
  refine zS 5 [(2,.bp 2 0),(17,.bool false)] [(2,.box 60 [.ii l.1,.ii l.2.1,.ii l.2.2.1,.ii l.2.2.2])] ?_;refine zB [(4,.bool false)] [] ?_;refine AW.ret ?_;refine d5 ?_;refine b9 ?_;obtain rfl:=zj h;exact zR [] [] []
 refine zo ?_;refine zB [(1,.ii lines),(2,.bp 2 0),(6,.ii l.1),(22,.bool (decide (l.1=2)))] [(2,.box 60 [.ii l.1,.ii l.2.1,.ii l.2.2.1,.ii l.2.2.2])] ?_;refine zQ h (fun hb6 h=>?_) (fun hb6 h=>?_)
 ·refine zo ?_;refine zS 2 [(2,.bp 2 0),(25,.ii l.2.1)] [(2,.box 60 [.ii l.1,.ii l.2.1,.ii l.2.2.1,.ii l.2.2.2])] ?_;obtain ⟨v0_3,hv7,h⟩:=zw h;refine zC [] [] (T6 l.2.1 hv7) [(2,.bp 2 0),(26,.bool v0_3)] [(2,.box 60 [.ii l.1,.ii l.2.1,.ii l.2.2.1,.ii l.2.2.2])] ?_;refine zS 1 [(2,.bp 2 0),(27,.bool v0_3)] [(2,.box 60 [.ii l.1,.ii l.2.1,.ii l.2.2.1,.ii l.2.2.2])] ?_;rcases zI h with ⟨hb8,h⟩|⟨hb8,h⟩
  ·refine zS 2 [(2,.bp 2 0),(27,.bool true),(29,.ii l.2.2.1)] [(2,.box 60 [.ii l.1,.ii l.2.1,.ii l.2.2.1,.ii l.2.2.2])] ?_;obtain ⟨v0_4,hv9,h⟩:=zw h;refine zG [] [] (j8 l.2.2.1 hv9) [(2,.bp 2 0),(27,.bool true),(30,.bool v0_4)] [(2,.box 60 [.ii l.1,.ii l.2.1,.ii l.2.2.1,.ii l.2.2.2])] ?_;refine zS 2 [(2,.bp 2 0),(32,.bool v0_4)] [(2,.box 60 [.ii l.1,.ii l.2.1,.ii l.2.2.1,.ii l.2.2.2])] ?_;rcases zI h with ⟨hb10,h⟩|⟨hb10,h⟩
   ·refine zB [(4,.bool (decide (l.2.2.2=0)))] [] ?_;refine AW.ret ?_;refine d5 ?_;refine b9 ?_;obtain rfl:=zj h;exact zR [] [] []
   refine zB [(4,.bool false)] [] ?_;refine AW.ret ?_;refine d5 ?_;refine b9 ?_;obtain rfl:=zj h;exact zR [] [] []
  refine zS 5 [(2,.bp 2 0),(32,.bool false)] [(2,.box 60 [.ii l.1,.ii l.2.1,.ii l.2.2.1,.ii l.2.2.2])] ?_;refine zB [(4,.bool false)] [] ?_;refine AW.ret ?_;refine d5 ?_;refine b9 ?_;obtain rfl:=zj h;exact zR [] [] []
 refine zo ?_;refine zB [(1,.ii lines),(2,.bp 2 0),(6,.ii l.1),(37,.bool (decide (l.1=3)))] [(2,.box 60 [.ii l.1,.ii l.2.1,.ii l.2.2.1,.ii l.2.2.2])] ?_;refine zQ h (fun hb11 h=>?_) (fun hb11 h=>?_)
 ·refine zo ?_;refine zS 2 [(2,.bp 2 0),(40,.ii l.2.1)] [(2,.box 60 [.ii l.1,.ii l.2.1,.ii l.2.2.1,.ii l.2.2.2])] ?_;obtain ⟨v0_5,hv12,h⟩:=zw h;refine zC [] [] (T6 l.2.1 hv12) [(2,.bp 2 0),(41,.bool v0_5)] [(2,.box 60 [.ii l.1,.ii l.2.1,.ii l.2.2.1,.ii l.2.2.2])] ?_;refine zS 1 [(2,.bp 2 0),(42,.bool v0_5)] [(2,.box 60 [.ii l.1,.ii l.2.1,.ii l.2.2.1,.ii l.2.2.2])] ?_;rcases zI h with ⟨hb13,h⟩|⟨hb13,h⟩
  ·refine zS 2 [(2,.bp 2 0),(42,.bool true),(44,.ii l.2.2.1)] [(2,.box 60 [.ii l.1,.ii l.2.1,.ii l.2.2.1,.ii l.2.2.2])] ?_;obtain ⟨v0_6,hv14,h⟩:=zw h;refine zG [] [] (j8 l.2.2.1 hv14) [(2,.bp 2 0),(42,.bool true),(45,.bool v0_6)] [(2,.box 60 [.ii l.1,.ii l.2.1,.ii l.2.2.1,.ii l.2.2.2])] ?_;refine zS 2 [(2,.bp 2 0),(47,.bool v0_6)] [(2,.box 60 [.ii l.1,.ii l.2.1,.ii l.2.2.1,.ii l.2.2.2])] ?_;rcases zI h with ⟨hb15,h⟩|⟨hb15,h⟩
   ·refine zS 2 [(47,.bool true),(49,.ii l.2.2.2)] [] ?_;obtain ⟨v0_7,hv16,h⟩:=zw h;refine zG [] [] (j8 l.2.2.2 hv16) [(47,.bool true),(50,.bool v0_7)] [] ?_;refine zB [(4,.bool v0_7)] [] ?_;refine AW.ret ?_;refine d5 ?_;refine b9 ?_;obtain rfl:=zj h;exact zR [] [] []
   refine zB [(4,.bool false)] [] ?_;refine AW.ret ?_;refine d5 ?_;refine b9 ?_;obtain rfl:=zj h;exact zR [] [] []
  refine zS 5 [(2,.bp 2 0),(47,.bool false)] [(2,.box 60 [.ii l.1,.ii l.2.1,.ii l.2.2.1,.ii l.2.2.2])] ?_;refine zB [(4,.bool false)] [] ?_;refine AW.ret ?_;refine d5 ?_;refine b9 ?_;obtain rfl:=zj h;exact zR [] [] []
 refine zo ?_;refine zB [(1,.ii lines),(2,.bp 2 0),(6,.ii l.1),(52,.bool (decide (l.1=4)))] [(2,.box 60 [.ii l.1,.ii l.2.1,.ii l.2.2.1,.ii l.2.2.2])] ?_;refine zQ h (fun hb17 h=>?_) (fun hb17 h=>?_)
 ·refine zo ?_;refine zS 2 [(2,.bp 2 0),(55,.ii l.2.1)] [(2,.box 60 [.ii l.1,.ii l.2.1,.ii l.2.2.1,.ii l.2.2.2])] ?_;obtain ⟨v0_8,hv18,h⟩:=zw h;refine zC [] [] (j8 l.2.1 hv18) [(2,.bp 2 0),(56,.bool v0_8)] [(2,.box 60 [.ii l.1,.ii l.2.1,.ii l.2.2.1,.ii l.2.2.2])] ?_;refine zS 1 [(2,.bp 2 0),(57,.bool v0_8)] [(2,.box 60 [.ii l.1,.ii l.2.1,.ii l.2.2.1,.ii l.2.2.2])] ?_;rcases zI h with ⟨hb19,h⟩|⟨hb19,h⟩
  ·refine zS 2 [(2,.bp 2 0),(57,.bool true),(59,.ii l.2.2.1)] [(2,.box 60 [.ii l.1,.ii l.2.1,.ii l.2.2.1,.ii l.2.2.2])] ?_;obtain ⟨v0_9,hv20,h⟩:=zw h;refine zG [] [] (a22 l.2.2.1 hv20) [(2,.bp 2 0),(57,.bool true),(60,.bool v0_9)] [(2,.box 60 [.ii l.1,.ii l.2.1,.ii l.2.2.1,.ii l.2.2.2])] ?_;refine zS 2 [(2,.bp 2 0),(62,.bool v0_9)] [(2,.box 60 [.ii l.1,.ii l.2.1,.ii l.2.2.1,.ii l.2.2.2])] ?_;rcases zI h with ⟨hb21,h⟩|⟨hb21,h⟩
   ·refine zB [(4,.bool (decide (l.2.2.2=0)))] [] ?_;refine AW.ret ?_;refine d5 ?_;refine b9 ?_;obtain rfl:=zj h;exact zR [] [] []
   refine zB [(4,.bool false)] [] ?_;refine AW.ret ?_;refine d5 ?_;refine b9 ?_;obtain rfl:=zj h;exact zR [] [] []
  refine zS 5 [(2,.bp 2 0),(62,.bool false)] [(2,.box 60 [.ii l.1,.ii l.2.1,.ii l.2.2.1,.ii l.2.2.2])] ?_;refine zB [(4,.bool false)] [] ?_;refine AW.ret ?_;refine d5 ?_;refine b9 ?_;obtain rfl:=zj h;exact zR [] [] []
 refine zo ?_;refine zB [(1,.ii lines),(2,.bp 2 0),(6,.ii l.1),(67,.bool (decide (l.1=5)))] [(2,.box 60 [.ii l.1,.ii l.2.1,.ii l.2.2.1,.ii l.2.2.2])] ?_;refine zQ h (fun hb22 h=>?_) (fun hb22 h=>?_)
 ·refine zo ?_;refine zS 2 [(2,.bp 2 0),(70,.ii l.2.1)] [(2,.box 60 [.ii l.1,.ii l.2.1,.ii l.2.2.1,.ii l.2.2.2])] ?_;obtain ⟨v0_10,hv23,h⟩:=zw h;refine zC [] [] (j8 l.2.1 hv23) [(2,.bp 2 0),(71,.bool v0_10)] [(2,.box 60 [.ii l.1,.ii l.2.1,.ii l.2.2.1,.ii l.2.2.2])] ?_;refine zS 1 [(2,.bp 2 0),(72,.bool v0_10)] [(2,.box 60 [.ii l.1,.ii l.2.1,.ii l.2.2.1,.ii l.2.2.2])] ?_;rcases zI h with ⟨hb24,h⟩|⟨hb24,h⟩
  ·refine zS 2 [(2,.bp 2 0),(72,.bool true),(74,.ii l.2.2.1)] [(2,.box 60 [.ii l.1,.ii l.2.1,.ii l.2.2.1,.ii l.2.2.2])] ?_;obtain ⟨v0_11,hv25,h⟩:=zw h;refine zG [] [] (j8 l.2.2.1 hv25) [(2,.bp 2 0),(72,.bool true),(75,.bool v0_11)] [(2,.box 60 [.ii l.1,.ii l.2.1,.ii l.2.2.1,.ii l.2.2.2])] ?_;refine zS 2 [(2,.bp 2 0),(77,.bool v0_11)] [(2,.box 60 [.ii l.1,.ii l.2.1,.ii l.2.2.1,.ii l.2.2.2])] ?_;rcases zI h with ⟨hb26,h⟩|⟨hb26,h⟩
   ·refine zS 2 [(77,.bool true),(79,.ii l.2.2.2)] [] ?_;obtain ⟨v0_12,hv27,h⟩:=zw h;refine zG [] [] (j8 l.2.2.2 hv27) [(77,.bool true),(80,.bool v0_12)] [] ?_;refine zB [(4,.bool v0_12)] [] ?_;refine AW.ret ?_;refine d5 ?_;refine b9 ?_;obtain rfl:=zj h;exact zR [] [] []
   refine zB [(4,.bool false)] [] ?_;refine AW.ret ?_;refine d5 ?_;refine b9 ?_;obtain rfl:=zj h;exact zR [] [] []
  refine zS 5 [(2,.bp 2 0),(77,.bool false)] [(2,.box 60 [.ii l.1,.ii l.2.1,.ii l.2.2.1,.ii l.2.2.2])] ?_;refine zB [(4,.bool false)] [] ?_;refine AW.ret ?_;refine d5 ?_;refine b9 ?_;obtain rfl:=zj h;exact zR [] [] []
 refine zo ?_;refine zB [(1,.ii lines),(2,.bp 2 0),(6,.ii l.1),(82,.bool (decide (l.1=6)))] [(2,.box 60 [.ii l.1,.ii l.2.1,.ii l.2.2.1,.ii l.2.2.2])] ?_;refine zQ h (fun hb28 h=>?_) (fun hb28 h=>?_)
 ·refine zo ?_;refine zS 2 [(1,.ii lines),(2,.bp 2 0),(85,.ii l.2.1)] [(2,.box 60 [.ii l.1,.ii l.2.1,.ii l.2.2.1,.ii l.2.2.2])] ?_;obtain ⟨v0_13,hv29,h⟩:=zw h;refine zC [] [] (j8 l.2.1 hv29) [(1,.ii lines),(2,.bp 2 0),(86,.bool v0_13)] [(2,.box 60 [.ii l.1,.ii l.2.1,.ii l.2.2.1,.ii l.2.2.2])] ?_;refine zS 1 [(1,.ii lines),(2,.bp 2 0),(87,.bool v0_13)] [(2,.box 60 [.ii l.1,.ii l.2.1,.ii l.2.2.1,.ii l.2.2.2])] ?_;rcases zI h with ⟨hb30,h⟩|⟨hb30,h⟩
  ·obtain ⟨c31,h⟩:=b4.1 h;refine zS 4 [(2,.bp 2 0),(87,.bool true),(89,.ii l.2.2.1),(91,.ii (lines - 1))] [(2,.box 60 [.ii l.1,.ii l.2.1,.ii l.2.2.1,.ii l.2.2.2])] ?_;obtain ⟨v0_14,hv32,h⟩:=zw h;refine zG [] [] (q7 0 l.2.2.1 (lines - 1) hv32) [(2,.bp 2 0),(87,.bool true),(92,.bool v0_14)] [(2,.box 60 [.ii l.1,.ii l.2.1,.ii l.2.2.1,.ii l.2.2.2])] ?_;refine zS 2 [(2,.bp 2 0),(94,.bool v0_14)] [(2,.box 60 [.ii l.1,.ii l.2.1,.ii l.2.2.1,.ii l.2.2.2])] ?_;rcases zI h with ⟨hb33,h⟩|⟨hb33,h⟩
   ·refine zB [(4,.bool (decide (l.2.2.2=0)))] [] ?_;refine AW.ret ?_;refine d5 ?_;refine b9 ?_;obtain rfl:=zj h;exact zR [] [] []
   refine zB [(4,.bool false)] [] ?_;refine AW.ret ?_;refine d5 ?_;refine b9 ?_;obtain rfl:=zj h;exact zR [] [] []
  refine zS 4 [(2,.bp 2 0),(87,.bool false),(89,.cv (undef)),(91,.cv (undef))] [(2,.box 60 [.ii l.1,.ii l.2.1,.ii l.2.2.1,.ii l.2.2.2])] ?_;refine zS 5 [(94,.bool false),(96,.cv (undef))] [] ?_;refine zB [(4,.bool false)] [] ?_;refine AW.ret ?_;refine d5 ?_;refine b9 ?_;obtain rfl:=zj h;exact zR [] [] []
 refine zo ?_;refine zB [(2,.bp 2 0),(99,.bool (decide (l.1=7)))] [(2,.box 60 [.ii l.1,.ii l.2.1,.ii l.2.2.1,.ii l.2.2.2])] ?_;refine zQ h (fun hb34 h=>?_) (fun hb34 h=>?_)
 ·refine zo ?_;refine zS 2 [(2,.bp 2 0),(102,.ii l.2.1)] [(2,.box 60 [.ii l.1,.ii l.2.1,.ii l.2.2.1,.ii l.2.2.2])] ?_;obtain ⟨v0_15,hv35,h⟩:=zw h;refine zC [] [] (j8 l.2.1 hv35) [(2,.bp 2 0),(103,.bool v0_15)] [(2,.box 60 [.ii l.1,.ii l.2.1,.ii l.2.2.1,.ii l.2.2.2])] ?_;refine zS 1 [(2,.bp 2 0),(104,.bool v0_15)] [(2,.box 60 [.ii l.1,.ii l.2.1,.ii l.2.2.1,.ii l.2.2.2])] ?_;rcases zI h with ⟨hb36,h⟩|⟨hb36,h⟩
  ·refine zS 5 [(2,.bp 2 0),(109,.bool (decide (l.2.2.1=0)))] [(2,.box 60 [.ii l.1,.ii l.2.1,.ii l.2.2.1,.ii l.2.2.2])] ?_;rcases zI h with ⟨hb37,h⟩|⟨hb37,h⟩
   ·refine zB [(4,.bool (decide (l.2.2.2=0)))] [] ?_;refine AW.ret ?_;refine d5 ?_;refine b9 ?_;obtain rfl:=zj h;exact zR [] [] []
   refine zB [(4,.bool false)] [] ?_;refine AW.ret ?_;refine d5 ?_;refine b9 ?_;obtain rfl:=zj h;exact zR [] [] []
  refine zS 5 [(2,.bp 2 0),(109,.bool false)] [(2,.box 60 [.ii l.1,.ii l.2.1,.ii l.2.2.1,.ii l.2.2.2])] ?_;refine zB [(4,.bool false)] [] ?_;refine AW.ret ?_;refine d5 ?_;refine b9 ?_;obtain rfl:=zj h;exact zR [] [] []
 refine zm ?_;refine f7 ?_;refine zo ?_;refine zB [(4,.bool false)] [] ?_;refine AW.ret ?_;obtain rfl:=zj h;exact zR [] [] []
theorem a4e (c:List (List (Int×Int×Int×Int))) {r:Bool} (h:O1 c=some r):HC Tryz.prog 43 [] [.sl (.sl Y4) c] [] (.bool r):=by
 unfold O1 at h;refine zH Tryz.func43 [.tmp 2] 59 ?_;refine zo ?_;refine zB [(0,.sl (.sl Y4) c)] [] ?_;refine AW.seq ?_;refine zo ?_;refine zS 2 [(0,.sl (.sl Y4) c),(6,.ii (c.length:Int))] [] ?_;obtain ⟨v0,hv1,h⟩:=zw h;refine zC [] [] (q7 1 (c.length:Int) 4 hv1) [(0,.sl (.sl Y4) c),(7,.bool v0)] [] ?_;refine zB [(0,.sl (.sl Y4) c),(8,.bool (!v0))] [] ?_;refine zQ h (fun hb2 h=>?_) (fun hb2 h=>?_)
 ·refine zo ?_;refine zB [(2,.bool false)] [] ?_;refine zr ?_;obtain rfl:=zj h;exact zR [] [] []
 refine zk ?_;refine AW.have1 (fun _:Unit=>U5=some r) (fun _=>⟨fr [],b6 [],gt⟩) (fun _ h=>?_) (fun hk_linealref08_Valid_k1=>?_)
 ·as_aux_lemma =>
   unfold U5 at h;refine zo ?_;refine zB [(2,.bool true)] [] ?_;refine AW.ret ?_;obtain rfl:=zj h;exact zR [] [] []
 refine AW.seq ?_;refine zo ?_;refine zB [(0,.sl (.sl Y4) c),(3,.ii 0)] [] ?_;refine AW.block ?_;obtain ⟨rv7,hw3,ho4⟩:=zw h;refine AW.loopO (A6 c) (fun st1=>⟨fr [(0,.sl (.sl Y4) c),(3,.ii st1)],b6 [],gt⟩) 0 hw3 (zL [] [] []) ?_
 as_aux_lemma =>
  intro st1 x6 h hd5;unfold A6 at h;refine AW.seq ?_;refine zo ?_;refine zB [(0,.sl (.sl Y4) c),(3,.ii st1),(12,.bool (decide (st1<(c.length:Int))))] [] ?_;refine zQ h (fun hb8 h=>?_) (fun hb8 h=>?_)
  ·refine zk ?_;refine AW.have1 (fun _:Unit=>O0 st1=some x6) (fun _=>⟨fr [(0,.sl (.sl Y4) c),(3,.ii st1)],b6 [],gt⟩) (fun _ h=>?_) (fun hk_linealref08_Valid_k2=>?_)
   ·as_aux_lemma =>
     unfold O0 at h;refine AW.ops ?_;obtain ⟨c9,h⟩:=b4.1 h;refine zA [(0,.sl (.sl Y4) c),(3,.ii (st1+1))] [] ?_;obtain rfl:=zj h;exact ⟨_,rfl,zL [] [] []⟩
   refine AW.seq ?_;refine AW.block ?_;refine AW.seq ?_;refine zo ?_;obtain ⟨c10,h⟩:=b4.1 h;obtain ⟨c11,h⟩:=b4.1 h;refine zS 5 [(0,.sl (.sl Y4) c),(3,.ii st1),(19,.ii ((c.getD st1.toNat []).length:Int))] [] ?_;obtain ⟨v0_2,hv12,h⟩:=zw h;refine zC [] [] (q7 1 ((c.getD st1.toNat []).length:Int) 8 hv12) [(0,.sl (.sl Y4) c),(3,.ii st1),(20,.bool v0_2)] [] ?_;refine zB [(0,.sl (.sl Y4) c),(3,.ii st1),(21,.bool (!v0_2))] [] ?_;refine zQ h (fun hb13 h=>?_) (fun hb13 h=>?_)
   ·refine zo ?_;refine zB [(2,.bool false)] [] ?_;refine zr ?_;refine d5 ?_;refine b9 ?_;obtain rfl:=zj h
    try rw [← hd5 _ rfl] at ho4
    have h:=ho4
    try simp only at h
    refine b9 ?_;refine d5 ?_;refine b9 ?_;obtain rfl:=zj h;exact zR [] [] []
   refine zk ?_;refine AW.have1 (fun _:Unit=>N9 c st1=some x6) (fun _=>⟨fr [(0,.sl (.sl Y4) c),(3,.ii st1)],b6 [],gt⟩) (fun _ h=>?_) (fun hk_linealref08_Valid_k3=>?_)
   ·as_aux_lemma =>
     unfold N9 at h;refine AW.seq ?_;refine AW.draw m7 l7 [] [] (by decide) (o8 (by kernel_rfl)) ?_
     as_aux_lemma =>
      obtain ⟨c15,h⟩:=b4.1 h;obtain ⟨c16,h⟩:=b4.1 h;refine d7 6 (fun K' hK14=>?_)
      try dsimp only [y1,y2,y3,y4]
      simp only [go_sem,hb2,hb8,hb13]
      repeat with_reducible refine zN ?_
      refine hK14 _ ?_
      as_aux_lemma =>
       obtain ⟨c18,h⟩:=b4.1 h;obtain ⟨c19,h⟩:=b4.1 h;obtain ⟨c20,h⟩:=b4.1 h;obtain ⟨c21,h⟩:=b4.1 h;obtain ⟨c22,h⟩:=b4.1 h;refine d7 6 (fun K' hK17=>?_)
       try dsimp only [y1,y2,y3,y4]
       simp only [go_sem,hb2,hb8,hb13]
       repeat with_reducible refine zN ?_
       refine hK17 _ ?_
       as_aux_lemma =>
        refine d7 2 (fun K' hK23=>?_)
        try dsimp only [y1,y2,y3,y4]
        simp only [go_sem,hb2,hb8,hb13]
        repeat with_reducible refine zN ?_
        refine hK23 _ ?_;refine g8 ?_;refine f7 ?_;refine zV [(0,.sl (.sl Y4) c),(3,.ii st1),(58,.bool (!(decide (((c.getD st1.toNat []).getD (((c.getD st1.toNat []).length:Int) - 1).toNat (0,0,0,0)).1=7))))] [] gt ?_
        as_aux_lemma =>
         refine zQ h (fun hb24 h=>?_) (fun hb24 h=>?_)
         ·refine zo ?_;refine zB [(2,.bool false)] [] ?_;refine AW.ret ?_;refine d5 ?_;refine b9 ?_;obtain rfl:=zj h
          try rw [← hd5 _ rfl] at ho4
          have h:=ho4
          try simp only at h
          refine b9 ?_;refine d5 ?_;refine b9 ?_;obtain rfl:=zj h;exact zR [] [] []
         refine zm ?_;refine f7 ?_;exact AW.weaken (zL [] [] []) (hk_linealref08_Valid_k2 () h)
   refine AW.seq ?_;refine zo ?_;refine zB [(0,.sl (.sl Y4) c),(3,.ii st1),(4,.ii 0)] [] ?_;refine AW.block ?_;obtain ⟨rv29,hw25,ho26⟩:=zw h;refine AW.loopO (A5 c st1) (fun st2=>⟨fr [(0,.sl (.sl Y4) c),(3,.ii st1),(4,.ii st2)],b6 [],gt⟩) 0 hw25 (zL [] [] []) ?_
   as_aux_lemma =>
    intro st2 x28 h hd27;unfold A5 at h;refine AW.seq ?_;refine zo ?_;obtain ⟨c30,h⟩:=b4.1 h;obtain ⟨c31,h⟩:=b4.1 h;refine zS 5 [(0,.sl (.sl Y4) c),(3,.ii st1),(4,.ii st2),(22,.ii st2),(26,.sl Y4 (c.getD st1.toNat []))] [] ?_;refine zB [(0,.sl (.sl Y4) c),(3,.ii st1),(4,.ii st2),(28,.bool (decide (st2<((c.getD st1.toNat []).length:Int))))] [] ?_;refine zQ h (fun hb32 h=>?_) (fun hb32 h=>?_)
    ·refine zk ?_;refine AW.seq ?_;refine AW.block ?_;refine AW.seq ?_;refine AW.draw m7 l7 [] [] (by decide) (o8 (by kernel_rfl)) ?_
     as_aux_lemma =>
      obtain ⟨c34,h⟩:=b4.1 h;obtain ⟨c35,h⟩:=b4.1 h;obtain ⟨c36,h⟩:=b4.1 h;obtain ⟨c37,h⟩:=b4.1 h;refine d7 6 (fun K' hK33=>?_)
      try dsimp only [y1,y2,y3,y4]
      simp only [go_sem,hb2,hb8,hb13,hb32]
      repeat with_reducible refine zN ?_
      refine hK33 _ ?_
      as_aux_lemma =>
       obtain ⟨c39,h⟩:=b4.1 h;obtain ⟨c40,h⟩:=b4.1 h;refine d7 6 (fun K' hK38=>?_)
       try dsimp only [y1,y2,y3,y4]
       simp only [go_sem,hb2,hb8,hb13,hb32]
       repeat with_reducible refine zN ?_
       refine hK38 _ ?_
       as_aux_lemma =>
        obtain ⟨v0_3,hv41,h⟩:=zw h;refine I6.call (by first|trivial|rfl) rfl rfl rfl (fun _ h=>h) [] [] (a3T ((c.getD st1.toNat []).getD st2.toNat (0,0,0,0)) ((c.getD st1.toNat []).length:Int) hv41) rfl (by (simp only [go_sem,hb2,hb8,hb13,hb32])<;>(with_reducible and_intros)<;>first|assumption|rfl|omega|(unfold maxLen; omega)) (by (simp only [go_sem,hb2,hb8,hb13,hb32])<;>(with_reducible and_intros)<;>first|assumption|rfl|omega|(unfold maxLen; omega)) rfl ?_;refine d7 1 (fun K' hK42=>?_)
        try dsimp only [y1,y2,y3,y4]
        simp only [go_sem,hb2,hb8,hb13,hb32]
        repeat with_reducible refine zN ?_
        refine hK42 _ ?_;refine g8 ?_;refine f7 ?_;refine zV [(0,.sl (.sl Y4) c),(3,.ii st1),(4,.ii st2),(44,.bool (!v0_3))] [] gt ?_
        as_aux_lemma =>
         refine zQ h (fun hb43 h=>?_) (fun hb43 h=>?_)
         ·refine zo ?_;refine zB [(2,.bool false)] [] ?_;refine AW.ret ?_;refine d5 ?_;refine b9 ?_;obtain rfl:=zj h
          try rw [← hd27 _ rfl] at ho26
          have h:=ho26
          try simp only at h
          refine b9 ?_;refine d5 ?_;refine b9 ?_;refine d5 ?_;refine b9 ?_;obtain rfl:=zj h
          try rw [← hd5 _ rfl] at ho4
          have h:=ho4
          try simp only at h
          refine b9 ?_;refine d5 ?_;refine b9 ?_;obtain rfl:=zj h;exact zR [] [] []
         refine zm ?_;refine f7 ?_;refine AW.ops ?_;obtain ⟨c44,h⟩:=b4.1 h;refine zA [(0,.sl (.sl Y4) c),(3,.ii st1),(4,.ii (st2+1))] [] ?_;obtain rfl:=zj h;exact ⟨_,rfl,zL [] [] []⟩
    refine AW.exit ?_;refine g4 ?_;obtain rfl:=zj h
    try rw [← hd27 _ rfl] at ho26
    have h:=ho26
    try simp only at h
    refine g4 ?_;refine j5 ?_;refine f7 ?_;exact AW.weaken (zL [] [] []) (hk_linealref08_Valid_k3 () h)
  refine AW.exit ?_;refine g4 ?_;obtain rfl:=zj h
  try rw [← hd5 _ rfl] at ho4
  have h:=ho4
  try simp only at h
  refine g4 ?_;refine j5 ?_;refine f7 ?_;exact AW.weaken (zL [] [] []) (hk_linealref08_Valid_k1 () h)
theorem a0x (s:Int×Int×(List (List Int))×(List (List Int))) (l:List (List Int)) (limit:Int) {r:Bool} (h:D5 s l limit=some r):HC Tryz.prog 82 [] [.agg [.ii s.1,.ii s.2.1,.sl (.sl .i) s.2.2.1,.sl (.sl .i) s.2.2.2],.sl (.sl .i) l,.ii limit] [] (.bool r):=by
 unfold D5 at h;refine zH Tryz.func82 [.tmp 6] 42 ?_;refine zo ?_;refine zB [(1,.sl (.sl .i) l),(2,.ii limit),(3,.bp 3 0)] [(3,.box 24 [.ii s.1,.ii s.2.1,.sl (.sl .i) s.2.2.1,.sl (.sl .i) s.2.2.2])] ?_;refine AW.seq ?_;refine zo ?_;refine zB [(1,.sl (.sl .i) l),(2,.ii limit),(3,.bp 3 0),(15,.bool (!(decide ((l.length:Int)=s.1))))] [(3,.box 24 [.ii s.1,.ii s.2.1,.sl (.sl .i) s.2.2.1,.sl (.sl .i) s.2.2.2])] ?_;refine zQ h (fun hb1 h=>?_) (fun hb1 h=>?_)
 ·refine zo ?_;refine zB [(6,.bool false)] [] ?_;refine zr ?_;obtain rfl:=zj h;exact zR [] [] []
 refine zk ?_;refine AW.have1 (fun _:Unit=>J0=some r) (fun _=>⟨fr [],b6 [],gt⟩) (fun _ h=>?_) (fun hk_linealref01_isTable_k1=>?_)
 ·as_aux_lemma =>
   unfold J0 at h;refine zo ?_;refine zB [(6,.bool true)] [] ?_;refine AW.ret ?_;obtain rfl:=zj h;exact zR [] [] []
 refine AW.seq ?_;refine zo ?_;refine zB [(2,.ii limit),(3,.bp 3 0),(16,.sl (.sl .i) l),(17,.ii (l.length:Int)),(18,.ii 0)] [(3,.box 24 [.ii s.1,.ii s.2.1,.sl (.sl .i) s.2.2.1,.sl (.sl .i) s.2.2.2])] ?_;refine AW.block ?_;obtain ⟨rv6,hw2,ho3⟩:=zw h;refine AW.loopO (C9 s l limit) (fun st1=>⟨fr [(2,.ii limit),(3,.bp 3 0),(16,.sl (.sl .i) l),(17,.ii (l.length:Int)),(18,.ii st1)],b6 [(3,.box 24 [.ii s.1,.ii s.2.1,.sl (.sl .i) s.2.2.1,.sl (.sl .i) s.2.2.2])],gt⟩) 0 hw2 (zL [] [] []) ?_
 as_aux_lemma =>
  intro st1 x5 h hd4;unfold C9 at h;refine zo ?_;refine zB [(2,.ii limit),(3,.bp 3 0),(16,.sl (.sl .i) l),(17,.ii (l.length:Int)),(18,.ii st1),(19,.bool (decide (st1<(l.length:Int))))] [(3,.box 24 [.ii s.1,.ii s.2.1,.sl (.sl .i) s.2.2.1,.sl (.sl .i) s.2.2.2])] ?_;refine AW.seq ?_;refine zQ h (fun hb7 h=>?_) (fun hb7 h=>?_)
  ·refine zk ?_;refine AW.have1 (fun _:Unit=>I9 st1=some x5) (fun _=>⟨fr [(2,.ii limit),(3,.bp 3 0),(16,.sl (.sl .i) l),(17,.ii (l.length:Int)),(18,.ii st1)],b6 [(3,.box 24 [.ii s.1,.ii s.2.1,.sl (.sl .i) s.2.2.1,.sl (.sl .i) s.2.2.2])],gt⟩) (fun _ h=>?_) (fun hk_linealref01_isTable_k2=>?_)
   ·as_aux_lemma =>
     unfold I9 at h;refine AW.ops ?_;obtain ⟨c8,h⟩:=b4.1 h;refine zA [(2,.ii limit),(3,.bp 3 0),(16,.sl (.sl .i) l),(17,.ii (l.length:Int)),(18,.ii (st1+1))] [(3,.box 24 [.ii s.1,.ii s.2.1,.sl (.sl .i) s.2.2.1,.sl (.sl .i) s.2.2.2])] ?_;obtain rfl:=zj h;exact ⟨_,rfl,zL [] [] []⟩
   refine AW.seq ?_;refine AW.block ?_;refine zo ?_;obtain ⟨c9,h⟩:=b4.1 h;obtain ⟨c10,h⟩:=b4.1 h;refine zB [(2,.ii limit),(3,.bp 3 0),(8,.sl .i (l.getD st1.toNat [])),(16,.sl (.sl .i) l),(17,.ii (l.length:Int)),(18,.ii st1)] [(3,.box 24 [.ii s.1,.ii s.2.1,.sl (.sl .i) s.2.2.1,.sl (.sl .i) s.2.2.2])] ?_;refine AW.seq ?_;refine zo ?_;refine zB [(2,.ii limit),(3,.bp 3 0),(8,.sl .i (l.getD st1.toNat [])),(16,.sl (.sl .i) l),(17,.ii (l.length:Int)),(18,.ii st1),(26,.bool (!(decide (((l.getD st1.toNat []).length:Int)=s.2.1))))] [(3,.box 24 [.ii s.1,.ii s.2.1,.sl (.sl .i) s.2.2.1,.sl (.sl .i) s.2.2.2])] ?_;refine zQ h (fun hb11 h=>?_) (fun hb11 h=>?_)
   ·refine zo ?_;refine zB [(6,.bool false)] [] ?_;refine zr ?_;refine d5 ?_;refine b9 ?_;obtain rfl:=zj h
    try rw [← hd4 _ rfl] at ho3
    have h:=ho3
    try simp only at h
    refine b9 ?_;refine d5 ?_;refine b9 ?_;obtain rfl:=zj h;exact zR [] [] []
   refine zk ?_;refine zo ?_;refine zB [(2,.ii limit),(3,.bp 3 0),(16,.sl (.sl .i) l),(17,.ii (l.length:Int)),(18,.ii st1),(27,.sl .i (l.getD st1.toNat [])),(28,.ii ((l.getD st1.toNat []).length:Int)),(29,.ii 0)] [(3,.box 24 [.ii s.1,.ii s.2.1,.sl (.sl .i) s.2.2.1,.sl (.sl .i) s.2.2.2])] ?_;refine AW.block ?_;obtain ⟨rv16,hw12,ho13⟩:=zw h;refine AW.loopO (C8 l limit st1) (fun st2=>⟨fr [(2,.ii limit),(3,.bp 3 0),(16,.sl (.sl .i) l),(17,.ii (l.length:Int)),(18,.ii st1),(27,.sl .i (l.getD st1.toNat [])),(28,.ii ((l.getD st1.toNat []).length:Int)),(29,.ii st2)],b6 [(3,.box 24 [.ii s.1,.ii s.2.1,.sl (.sl .i) s.2.2.1,.sl (.sl .i) s.2.2.2])],gt⟩) 0 hw12 (zL [] [] []) ?_
   as_aux_lemma =>
    intro st2 x15 h hd14;unfold C8 at h;refine zo ?_;refine zB [(2,.ii limit),(3,.bp 3 0),(16,.sl (.sl .i) l),(17,.ii (l.length:Int)),(18,.ii st1),(27,.sl .i (l.getD st1.toNat [])),(28,.ii ((l.getD st1.toNat []).length:Int)),(29,.ii st2),(30,.bool (decide (st2<((l.getD st1.toNat []).length:Int))))] [(3,.box 24 [.ii s.1,.ii s.2.1,.sl (.sl .i) s.2.2.1,.sl (.sl .i) s.2.2.2])] ?_;refine AW.seq ?_;refine zQ h (fun hb17 h=>?_) (fun hb17 h=>?_)
    ·refine zk ?_;refine AW.seq ?_;refine AW.block ?_;refine zo ?_;obtain ⟨c18,h⟩:=b4.1 h;obtain ⟨c19,h⟩:=b4.1 h;refine zB [(2,.ii limit),(3,.bp 3 0),(10,.ii ((l.getD st1.toNat []).getD st2.toNat 0)),(16,.sl (.sl .i) l),(17,.ii (l.length:Int)),(18,.ii st1),(27,.sl .i (l.getD st1.toNat [])),(28,.ii ((l.getD st1.toNat []).length:Int)),(29,.ii st2)] [(3,.box 24 [.ii s.1,.ii s.2.1,.sl (.sl .i) s.2.2.1,.sl (.sl .i) s.2.2.2])] ?_;refine zo ?_;refine zS 3 [(2,.ii limit),(3,.bp 3 0),(10,.ii ((l.getD st1.toNat []).getD st2.toNat 0)),(16,.sl (.sl .i) l),(17,.ii (l.length:Int)),(18,.ii st1),(27,.sl .i (l.getD st1.toNat [])),(28,.ii ((l.getD st1.toNat []).length:Int)),(29,.ii st2),(35,.bool (decide (((l.getD st1.toNat []).getD st2.toNat 0)<0)))] [(3,.box 24 [.ii s.1,.ii s.2.1,.sl (.sl .i) s.2.2.1,.sl (.sl .i) s.2.2.2])] ?_;rcases zI h with ⟨hb20,h⟩|⟨hb20,h⟩
     ·refine zB [(2,.ii limit),(3,.bp 3 0),(16,.sl (.sl .i) l),(17,.ii (l.length:Int)),(18,.ii st1),(27,.sl .i (l.getD st1.toNat [])),(28,.ii ((l.getD st1.toNat []).length:Int)),(29,.ii st2),(39,.bool true)] [(3,.box 24 [.ii s.1,.ii s.2.1,.sl (.sl .i) s.2.2.1,.sl (.sl .i) s.2.2.2])] ?_;refine AW.cond (b:=true) rfl (fun _=>?_) (fun hb21=>by cases hb21);refine zo ?_;refine zB [(6,.bool false)] [] ?_;refine AW.ret ?_;refine d5 ?_;refine b9 ?_;obtain rfl:=zj h
      try rw [← hd14 _ rfl] at ho13
      have h:=ho13
      try simp only at h
      refine b9 ?_;refine d5 ?_;refine d5 ?_;refine b9 ?_;obtain rfl:=zj h
      try rw [← hd4 _ rfl] at ho3
      have h:=ho3
      try simp only at h
      refine b9 ?_;refine d5 ?_;refine b9 ?_;obtain rfl:=zj h;exact zR [] [] []
     refine zB [(2,.ii limit),(3,.bp 3 0),(16,.sl (.sl .i) l),(17,.ii (l.length:Int)),(18,.ii st1),(27,.sl .i (l.getD st1.toNat [])),(28,.ii ((l.getD st1.toNat []).length:Int)),(29,.ii st2),(39,.bool (decide (limit≤((l.getD st1.toNat []).getD st2.toNat 0))))] [(3,.box 24 [.ii s.1,.ii s.2.1,.sl (.sl .i) s.2.2.1,.sl (.sl .i) s.2.2.2])] ?_;refine zQ h (fun hb22 h=>?_) (fun hb22 h=>?_)
     ·refine zo ?_;refine zB [(6,.bool false)] [] ?_;refine AW.ret ?_;refine d5 ?_;refine b9 ?_;obtain rfl:=zj h
      try rw [← hd14 _ rfl] at ho13
      have h:=ho13
      try simp only at h
      refine b9 ?_;refine d5 ?_;refine d5 ?_;refine b9 ?_;obtain rfl:=zj h
      try rw [← hd4 _ rfl] at ho3
      have h:=ho3
      try simp only at h
      refine b9 ?_;refine d5 ?_;refine b9 ?_;obtain rfl:=zj h;exact zR [] [] []
     refine zm ?_;refine f7 ?_;refine AW.ops ?_;obtain ⟨c23,h⟩:=b4.1 h;refine zA [(2,.ii limit),(3,.bp 3 0),(16,.sl (.sl .i) l),(17,.ii (l.length:Int)),(18,.ii st1),(27,.sl .i (l.getD st1.toNat [])),(28,.ii ((l.getD st1.toNat []).length:Int)),(29,.ii (st2+1))] [(3,.box 24 [.ii s.1,.ii s.2.1,.sl (.sl .i) s.2.2.1,.sl (.sl .i) s.2.2.2])] ?_;obtain rfl:=zj h;exact ⟨_,rfl,zL [] [] []⟩
    refine AW.exit ?_;refine g4 ?_;obtain rfl:=zj h
    try rw [← hd14 _ rfl] at ho13
    have h:=ho13
    try simp only at h
    refine g4 ?_;refine j5 ?_;refine l8 ?_;refine f7 ?_;exact AW.weaken (zL [] [] []) (hk_linealref01_isTable_k2 () h)
  refine AW.exit ?_;refine g4 ?_;obtain rfl:=zj h
  try rw [← hd4 _ rfl] at ho3
  have h:=ho3
  try simp only at h
  refine g4 ?_;refine j5 ?_;refine f7 ?_;exact AW.weaken (zL [] [] []) (hk_linealref01_isTable_k1 () h)
theorem a4g (s:Int×Int×(List (List Int))×(List (List Int))) {r:Bool} (h:O4 s=some r):HC Tryz.prog 44 [] [.agg [.ii s.1,.ii s.2.1,.sl (.sl .i) s.2.2.1,.sl (.sl .i) s.2.2.2]] [] (.bool r):=by
 unfold O4 at h;refine zH Tryz.func44 [.tmp 2] 35 ?_;refine zo ?_;refine zB [(1,.bp 1 0)] [(1,.box 24 [.ii s.1,.ii s.2.1,.sl (.sl .i) s.2.2.1,.sl (.sl .i) s.2.2.2])] ?_;refine zo ?_;refine zS 4 [(1,.bp 1 0),(6,.bool (decide (1≤s.1)))] [(1,.box 24 [.ii s.1,.ii s.2.1,.sl (.sl .i) s.2.2.1,.sl (.sl .i) s.2.2.2])] ?_;rcases zI h with ⟨hb1,h⟩|⟨hb1,h⟩
 ·refine zS 5 [(1,.bp 1 0),(11,.bool (decide (s.1≤8)))] [(1,.box 24 [.ii s.1,.ii s.2.1,.sl (.sl .i) s.2.2.1,.sl (.sl .i) s.2.2.2])] ?_;rcases zI h with ⟨hb2,h⟩|⟨hb2,h⟩
  ·refine zS 5 [(1,.bp 1 0),(16,.bool (decide (1≤s.2.1)))] [(1,.box 24 [.ii s.1,.ii s.2.1,.sl (.sl .i) s.2.2.1,.sl (.sl .i) s.2.2.2])] ?_;rcases zI h with ⟨hb3,h⟩|⟨hb3,h⟩
   ·refine zS 5 [(1,.bp 1 0),(21,.bool (decide (s.2.1≤4)))] [(1,.box 24 [.ii s.1,.ii s.2.1,.sl (.sl .i) s.2.2.1,.sl (.sl .i) s.2.2.2])] ?_;rcases zI h with ⟨hb4,h⟩|⟨hb4,h⟩
    ·refine zS 5 [(1,.bp 1 0),(21,.bool true),(22,.agg [.ii s.1,.ii s.2.1,.sl (.sl .i) s.2.2.1,.sl (.sl .i) s.2.2.2]),(24,.sl (.sl .i) s.2.2.1),(26,.ii s.1)] [(1,.box 24 [.ii s.1,.ii s.2.1,.sl (.sl .i) s.2.2.1,.sl (.sl .i) s.2.2.2])] ?_;obtain ⟨v0,hv5,h⟩:=zw h;refine zG [] [] (a0x s s.2.2.1 s.1 hv5) [(1,.bp 1 0),(21,.bool true),(27,.bool v0)] [(1,.box 24 [.ii s.1,.ii s.2.1,.sl (.sl .i) s.2.2.1,.sl (.sl .i) s.2.2.2])] ?_;refine zS 2 [(1,.bp 1 0),(29,.bool v0)] [(1,.box 24 [.ii s.1,.ii s.2.1,.sl (.sl .i) s.2.2.1,.sl (.sl .i) s.2.2.2])] ?_;rcases zI h with ⟨hb6,h⟩|⟨hb6,h⟩
     ·refine zS 3 [(29,.bool true),(30,.agg [.ii s.1,.ii s.2.1,.sl (.sl .i) s.2.2.1,.sl (.sl .i) s.2.2.2]),(32,.sl (.sl .i) s.2.2.2)] [] ?_;obtain ⟨v0_2,hv7,h⟩:=zw h;refine zG [] [] (a0x s s.2.2.2 6 hv7) [(29,.bool true),(33,.bool v0_2)] [] ?_;refine zB [(2,.bool v0_2)] [] ?_;refine AW.ret ?_;obtain rfl:=zj h;exact zR [] [] []
     refine zS 4 [(29,.bool false),(33,.cv (undef))] [] ?_;refine zB [(2,.bool false)] [] ?_;refine AW.ret ?_;obtain rfl:=zj h;exact zR [] [] []
    refine zS 4 [(1,.bp 1 0),(21,.bool false),(22,.cv (undef)),(24,.cv (undef)),(25,.cv (undef))] [(1,.box 24 [.ii s.1,.ii s.2.1,.sl (.sl .i) s.2.2.1,.sl (.sl .i) s.2.2.2])] ?_;refine zS 5 [(1,.bp 1 0),(29,.bool false),(30,.cv (undef))] [(1,.box 24 [.ii s.1,.ii s.2.1,.sl (.sl .i) s.2.2.1,.sl (.sl .i) s.2.2.2])] ?_;refine zB [(2,.bool false)] [] ?_;refine AW.ret ?_;obtain rfl:=zj h;exact zR [] [] []
   refine zS 5 [(1,.bp 1 0),(21,.bool false)] [(1,.box 24 [.ii s.1,.ii s.2.1,.sl (.sl .i) s.2.2.1,.sl (.sl .i) s.2.2.2])] ?_;refine zS 4 [(1,.bp 1 0),(21,.bool false),(22,.cv (undef)),(24,.cv (undef)),(25,.cv (undef))] [(1,.box 24 [.ii s.1,.ii s.2.1,.sl (.sl .i) s.2.2.1,.sl (.sl .i) s.2.2.2])] ?_;refine zS 5 [(1,.bp 1 0),(29,.bool false),(30,.cv (undef))] [(1,.box 24 [.ii s.1,.ii s.2.1,.sl (.sl .i) s.2.2.1,.sl (.sl .i) s.2.2.2])] ?_;refine zB [(2,.bool false)] [] ?_;refine AW.ret ?_;obtain rfl:=zj h;exact zR [] [] []
  refine zS 5 [(1,.bp 1 0),(16,.bool false)] [(1,.box 24 [.ii s.1,.ii s.2.1,.sl (.sl .i) s.2.2.1,.sl (.sl .i) s.2.2.2])] ?_;refine zS 5 [(1,.bp 1 0),(21,.bool false)] [(1,.box 24 [.ii s.1,.ii s.2.1,.sl (.sl .i) s.2.2.1,.sl (.sl .i) s.2.2.2])] ?_;refine zS 4 [(1,.bp 1 0),(21,.bool false),(22,.cv (undef)),(24,.cv (undef)),(25,.cv (undef))] [(1,.box 24 [.ii s.1,.ii s.2.1,.sl (.sl .i) s.2.2.1,.sl (.sl .i) s.2.2.2])] ?_;refine zS 5 [(1,.bp 1 0),(29,.bool false),(30,.cv (undef))] [(1,.box 24 [.ii s.1,.ii s.2.1,.sl (.sl .i) s.2.2.1,.sl (.sl .i) s.2.2.2])] ?_;refine zB [(2,.bool false)] [] ?_;refine AW.ret ?_;obtain rfl:=zj h;exact zR [] [] []
 refine zS 5 [(1,.bp 1 0),(11,.bool false)] [(1,.box 24 [.ii s.1,.ii s.2.1,.sl (.sl .i) s.2.2.1,.sl (.sl .i) s.2.2.2])] ?_;refine zS 5 [(1,.bp 1 0),(16,.bool false)] [(1,.box 24 [.ii s.1,.ii s.2.1,.sl (.sl .i) s.2.2.1,.sl (.sl .i) s.2.2.2])] ?_;refine zS 5 [(1,.bp 1 0),(21,.bool false)] [(1,.box 24 [.ii s.1,.ii s.2.1,.sl (.sl .i) s.2.2.1,.sl (.sl .i) s.2.2.2])] ?_;refine zS 4 [(1,.bp 1 0),(21,.bool false),(22,.cv (undef)),(24,.cv (undef)),(25,.cv (undef))] [(1,.box 24 [.ii s.1,.ii s.2.1,.sl (.sl .i) s.2.2.1,.sl (.sl .i) s.2.2.2])] ?_;refine zS 5 [(1,.bp 1 0),(29,.bool false),(30,.cv (undef))] [(1,.box 24 [.ii s.1,.ii s.2.1,.sl (.sl .i) s.2.2.1,.sl (.sl .i) s.2.2.2])] ?_;refine zB [(2,.bool false)] [] ?_;refine AW.ret ?_;obtain rfl:=zj h;exact zR [] [] []
end Go.Proofs.YtanaeefeggokkaaGreat
