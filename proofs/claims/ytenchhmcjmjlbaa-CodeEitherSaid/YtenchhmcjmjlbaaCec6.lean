import Derived.Test.YtenchhmcjmjlbaaCkp
import Derived.Test.YtenchhmcjmjlbaaShk
import Derived.Test.YtenchhmcjmjlbaaAvd
import Derived.Test.YtenchhmcjmjlbaaCec2
import Derived.Test.YtenchhmcjmjlbaaCec5
namespace Go.Proofs.Ytenchhmcjmjlbaa
open Go.RowKit
set_option linter.unusedSimpArgs false
set_option linter.unusedVariables false
set_option linter.constructorNameAsVariable false
set_option maxRecDepth 100000
set_option maxHeartbeats 40000000
theorem a25 (l:Int×Int×Int×Int) (lines:Int) {r:Bool} (h:K3 l lines=some r):HC Try.prog 56 [] [.agg [.ii l.1,.ii l.2.1,.ii l.2.2.1,.ii l.2.2.2],.ii lines] [] (.bool r):=by
 unfold K3 at h
 refine zH Try.func56 [.tmp 4] 114 ?_
 refine zo ?_
 refine zB [(1,.ii lines),(2,.bp 2 0)] [(2,.box 74 [.ii l.1,.ii l.2.1,.ii l.2.2.1,.ii l.2.2.2])] ?_
 refine AW.seq ?_
 refine zo ?_
 refine zB [(1,.ii lines),(2,.bp 2 0),(6,.ii l.1)] [(2,.box 74 [.ii l.1,.ii l.2.1,.ii l.2.2.1,.ii l.2.2.2])] ?_
 refine AW.block ?_
 refine zo ?_
 refine zB [(1,.ii lines),(2,.bp 2 0),(6,.ii l.1),(7,.bool (decide (l.1=1)))] [(2,.box 74 [.ii l.1,.ii l.2.1,.ii l.2.2.1,.ii l.2.2.2])] ?_
 refine zQ h (fun hb1 h=>?_) (fun hb1 h=>?_)
 ·refine zo ?_
  refine zS 2 [(2,.bp 2 0),(10,.ii l.2.1)] [(2,.box 74 [.ii l.1,.ii l.2.1,.ii l.2.2.1,.ii l.2.2.2])] ?_
  obtain ⟨v0,hv2,h⟩:=zw h
  refine zC [] [] (l3 l.2.1 hv2) [(2,.bp 2 0),(11,.bool v0)] [(2,.box 74 [.ii l.1,.ii l.2.1,.ii l.2.2.1,.ii l.2.2.2])] ?_
  refine zS 1 [(2,.bp 2 0),(12,.bool v0)] [(2,.box 74 [.ii l.1,.ii l.2.1,.ii l.2.2.1,.ii l.2.2.2])] ?_
  rcases zI h with ⟨hb3,h⟩|⟨hb3,h⟩
  ·refine zS 2 [(2,.bp 2 0),(12,.bool true),(14,.ii l.2.2.1)] [(2,.box 74 [.ii l.1,.ii l.2.1,.ii l.2.2.1,.ii l.2.2.2])] ?_
   obtain ⟨v0_2,hv4,h⟩:=zw h
   refine zG [] [] (R6 l.2.2.1 hv4) [(2,.bp 2 0),(12,.bool true),(15,.bool v0_2)] [(2,.box 74 [.ii l.1,.ii l.2.1,.ii l.2.2.1,.ii l.2.2.2])] ?_
   refine zS 2 [(2,.bp 2 0),(17,.bool v0_2)] [(2,.box 74 [.ii l.1,.ii l.2.1,.ii l.2.2.1,.ii l.2.2.2])] ?_
   rcases zI h with ⟨hb5,h⟩|⟨hb5,h⟩
   ·refine zB [(4,.bool (decide (l.2.2.2=0)))] [] ?_
    refine AW.ret ?_
    refine d7 ?_
    refine b9 ?_
    obtain rfl:=zj h
    exact zR [] [] []
   refine zB [(4,.bool false)] [] ?_
   refine AW.ret ?_
   refine d7 ?_
   refine b9 ?_
   obtain rfl:=zj h
   exact zR [] [] []
  refine zS 5 [(2,.bp 2 0),(17,.bool false)] [(2,.box 74 [.ii l.1,.ii l.2.1,.ii l.2.2.1,.ii l.2.2.2])] ?_
  refine zB [(4,.bool false)] [] ?_
  refine AW.ret ?_
  refine d7 ?_
  refine b9 ?_
  obtain rfl:=zj h
  exact zR [] [] []
 refine zo ?_
 refine zB [(1,.ii lines),(2,.bp 2 0),(6,.ii l.1),(22,.bool (decide (l.1=2)))] [(2,.box 74 [.ii l.1,.ii l.2.1,.ii l.2.2.1,.ii l.2.2.2])] ?_
 refine zQ h (fun hb6 h=>?_) (fun hb6 h=>?_)
 ·refine zo ?_
  refine zS 2 [(2,.bp 2 0),(25,.ii l.2.1)] [(2,.box 74 [.ii l.1,.ii l.2.1,.ii l.2.2.1,.ii l.2.2.2])] ?_
  obtain ⟨v0_3,hv7,h⟩:=zw h
  refine zC [] [] (R6 l.2.1 hv7) [(2,.bp 2 0),(26,.bool v0_3)] [(2,.box 74 [.ii l.1,.ii l.2.1,.ii l.2.2.1,.ii l.2.2.2])] ?_
  refine zS 1 [(2,.bp 2 0),(27,.bool v0_3)] [(2,.box 74 [.ii l.1,.ii l.2.1,.ii l.2.2.1,.ii l.2.2.2])] ?_
  rcases zI h with ⟨hb8,h⟩|⟨hb8,h⟩
  ·refine zS 2 [(2,.bp 2 0),(27,.bool true),(29,.ii l.2.2.1)] [(2,.box 74 [.ii l.1,.ii l.2.1,.ii l.2.2.1,.ii l.2.2.2])] ?_
   obtain ⟨v0_4,hv9,h⟩:=zw h
   refine zG [] [] (l3 l.2.2.1 hv9) [(2,.bp 2 0),(27,.bool true),(30,.bool v0_4)] [(2,.box 74 [.ii l.1,.ii l.2.1,.ii l.2.2.1,.ii l.2.2.2])] ?_
   refine zS 2 [(2,.bp 2 0),(32,.bool v0_4)] [(2,.box 74 [.ii l.1,.ii l.2.1,.ii l.2.2.1,.ii l.2.2.2])] ?_
   rcases zI h with ⟨hb10,h⟩|⟨hb10,h⟩
   ·refine zB [(4,.bool (decide (l.2.2.2=0)))] [] ?_
    refine AW.ret ?_
    refine d7 ?_
    refine b9 ?_
    obtain rfl:=zj h
    exact zR [] [] []
   refine zB [(4,.bool false)] [] ?_
   refine AW.ret ?_
   refine d7 ?_
   refine b9 ?_
   obtain rfl:=zj h
   exact zR [] [] []
  refine zS 5 [(2,.bp 2 0),(32,.bool false)] [(2,.box 74 [.ii l.1,.ii l.2.1,.ii l.2.2.1,.ii l.2.2.2])] ?_
  refine zB [(4,.bool false)] [] ?_
  refine AW.ret ?_
  refine d7 ?_
  refine b9 ?_
  obtain rfl:=zj h
  exact zR [] [] []
 refine zo ?_
 refine zB [(1,.ii lines),(2,.bp 2 0),(6,.ii l.1),(37,.bool (decide (l.1=3)))] [(2,.box 74 [.ii l.1,.ii l.2.1,.ii l.2.2.1,.ii l.2.2.2])] ?_
 refine zQ h (fun hb11 h=>?_) (fun hb11 h=>?_)
 ·refine zo ?_
  refine zS 2 [(2,.bp 2 0),(40,.ii l.2.1)] [(2,.box 74 [.ii l.1,.ii l.2.1,.ii l.2.2.1,.ii l.2.2.2])] ?_
  obtain ⟨v0_5,hv12,h⟩:=zw h
  refine zC [] [] (R6 l.2.1 hv12) [(2,.bp 2 0),(41,.bool v0_5)] [(2,.box 74 [.ii l.1,.ii l.2.1,.ii l.2.2.1,.ii l.2.2.2])] ?_
  refine zS 1 [(2,.bp 2 0),(42,.bool v0_5)] [(2,.box 74 [.ii l.1,.ii l.2.1,.ii l.2.2.1,.ii l.2.2.2])] ?_
  rcases zI h with ⟨hb13,h⟩|⟨hb13,h⟩
  ·refine zS 2 [(2,.bp 2 0),(42,.bool true),(44,.ii l.2.2.1)] [(2,.box 74 [.ii l.1,.ii l.2.1,.ii l.2.2.1,.ii l.2.2.2])] ?_
   obtain ⟨v0_6,hv14,h⟩:=zw h
   refine zG [] [] (l3 l.2.2.1 hv14) [(2,.bp 2 0),(42,.bool true),(45,.bool v0_6)] [(2,.box 74 [.ii l.1,.ii l.2.1,.ii l.2.2.1,.ii l.2.2.2])] ?_
   refine zS 2 [(2,.bp 2 0),(47,.bool v0_6)] [(2,.box 74 [.ii l.1,.ii l.2.1,.ii l.2.2.1,.ii l.2.2.2])] ?_
   rcases zI h with ⟨hb15,h⟩|⟨hb15,h⟩
   ·refine zS 2 [(47,.bool true),(49,.ii l.2.2.2)] [] ?_
    obtain ⟨v0_7,hv16,h⟩:=zw h
    refine zG [] [] (l3 l.2.2.2 hv16) [(47,.bool true),(50,.bool v0_7)] [] ?_
    refine zB [(4,.bool v0_7)] [] ?_
    refine AW.ret ?_
    refine d7 ?_
    refine b9 ?_
    obtain rfl:=zj h
    exact zR [] [] []
   refine zB [(4,.bool false)] [] ?_
   refine AW.ret ?_
   refine d7 ?_
   refine b9 ?_
   obtain rfl:=zj h
   exact zR [] [] []
  refine zS 5 [(2,.bp 2 0),(47,.bool false)] [(2,.box 74 [.ii l.1,.ii l.2.1,.ii l.2.2.1,.ii l.2.2.2])] ?_
  refine zB [(4,.bool false)] [] ?_
  refine AW.ret ?_
  refine d7 ?_
  refine b9 ?_
  obtain rfl:=zj h
  exact zR [] [] []
 refine zo ?_
 refine zB [(1,.ii lines),(2,.bp 2 0),(6,.ii l.1),(52,.bool (decide (l.1=4)))] [(2,.box 74 [.ii l.1,.ii l.2.1,.ii l.2.2.1,.ii l.2.2.2])] ?_
 refine zQ h (fun hb17 h=>?_) (fun hb17 h=>?_)
 ·refine zo ?_
  refine zS 2 [(2,.bp 2 0),(55,.ii l.2.1)] [(2,.box 74 [.ii l.1,.ii l.2.1,.ii l.2.2.1,.ii l.2.2.2])] ?_
  obtain ⟨v0_8,hv18,h⟩:=zw h
  refine zC [] [] (l3 l.2.1 hv18) [(2,.bp 2 0),(56,.bool v0_8)] [(2,.box 74 [.ii l.1,.ii l.2.1,.ii l.2.2.1,.ii l.2.2.2])] ?_
  refine zS 1 [(2,.bp 2 0),(57,.bool v0_8)] [(2,.box 74 [.ii l.1,.ii l.2.1,.ii l.2.2.1,.ii l.2.2.2])] ?_
  rcases zI h with ⟨hb19,h⟩|⟨hb19,h⟩
  ·refine zS 2 [(2,.bp 2 0),(57,.bool true),(59,.ii l.2.2.1)] [(2,.box 74 [.ii l.1,.ii l.2.1,.ii l.2.2.1,.ii l.2.2.2])] ?_
   obtain ⟨v0_9,hv20,h⟩:=zw h
   refine zG [] [] (a2g l.2.2.1 hv20) [(2,.bp 2 0),(57,.bool true),(60,.bool v0_9)] [(2,.box 74 [.ii l.1,.ii l.2.1,.ii l.2.2.1,.ii l.2.2.2])] ?_
   refine zS 2 [(2,.bp 2 0),(62,.bool v0_9)] [(2,.box 74 [.ii l.1,.ii l.2.1,.ii l.2.2.1,.ii l.2.2.2])] ?_
   rcases zI h with ⟨hb21,h⟩|⟨hb21,h⟩
   ·refine zB [(4,.bool (decide (l.2.2.2=0)))] [] ?_
    refine AW.ret ?_
    refine d7 ?_
    refine b9 ?_
    obtain rfl:=zj h
    exact zR [] [] []
   refine zB [(4,.bool false)] [] ?_
   refine AW.ret ?_
   refine d7 ?_
   refine b9 ?_
   obtain rfl:=zj h
   exact zR [] [] []
  refine zS 5 [(2,.bp 2 0),(62,.bool false)] [(2,.box 74 [.ii l.1,.ii l.2.1,.ii l.2.2.1,.ii l.2.2.2])] ?_
  refine zB [(4,.bool false)] [] ?_
  refine AW.ret ?_
  refine d7 ?_
  refine b9 ?_
  obtain rfl:=zj h
  exact zR [] [] []
 refine zo ?_
 refine zB [(1,.ii lines),(2,.bp 2 0),(6,.ii l.1),(67,.bool (decide (l.1=5)))] [(2,.box 74 [.ii l.1,.ii l.2.1,.ii l.2.2.1,.ii l.2.2.2])] ?_
 refine zQ h (fun hb22 h=>?_) (fun hb22 h=>?_)
 ·refine zo ?_
  refine zS 2 [(2,.bp 2 0),(70,.ii l.2.1)] [(2,.box 74 [.ii l.1,.ii l.2.1,.ii l.2.2.1,.ii l.2.2.2])] ?_
  obtain ⟨v0_10,hv23,h⟩:=zw h
  refine zC [] [] (l3 l.2.1 hv23) [(2,.bp 2 0),(71,.bool v0_10)] [(2,.box 74 [.ii l.1,.ii l.2.1,.ii l.2.2.1,.ii l.2.2.2])] ?_
  refine zS 1 [(2,.bp 2 0),(72,.bool v0_10)] [(2,.box 74 [.ii l.1,.ii l.2.1,.ii l.2.2.1,.ii l.2.2.2])] ?_
  rcases zI h with ⟨hb24,h⟩|⟨hb24,h⟩
  ·refine zS 2 [(2,.bp 2 0),(72,.bool true),(74,.ii l.2.2.1)] [(2,.box 74 [.ii l.1,.ii l.2.1,.ii l.2.2.1,.ii l.2.2.2])] ?_
   obtain ⟨v0_11,hv25,h⟩:=zw h
   refine zG [] [] (l3 l.2.2.1 hv25) [(2,.bp 2 0),(72,.bool true),(75,.bool v0_11)] [(2,.box 74 [.ii l.1,.ii l.2.1,.ii l.2.2.1,.ii l.2.2.2])] ?_
   refine zS 2 [(2,.bp 2 0),(77,.bool v0_11)] [(2,.box 74 [.ii l.1,.ii l.2.1,.ii l.2.2.1,.ii l.2.2.2])] ?_
   rcases zI h with ⟨hb26,h⟩|⟨hb26,h⟩
   ·refine zS 2 [(77,.bool true),(79,.ii l.2.2.2)] [] ?_
    obtain ⟨v0_12,hv27,h⟩:=zw h
    refine zG [] [] (l3 l.2.2.2 hv27) [(77,.bool true),(80,.bool v0_12)] [] ?_
    refine zB [(4,.bool v0_12)] [] ?_
    refine AW.ret ?_
    refine d7 ?_
    refine b9 ?_
    obtain rfl:=zj h
    exact zR [] [] []
   refine zB [(4,.bool false)] [] ?_
   refine AW.ret ?_
   refine d7 ?_
   refine b9 ?_
   obtain rfl:=zj h
   exact zR [] [] []
  refine zS 5 [(2,.bp 2 0),(77,.bool false)] [(2,.box 74 [.ii l.1,.ii l.2.1,.ii l.2.2.1,.ii l.2.2.2])] ?_
  refine zB [(4,.bool false)] [] ?_
  refine AW.ret ?_
  refine d7 ?_
  refine b9 ?_
  obtain rfl:=zj h
  exact zR [] [] []
 refine zo ?_
 refine zB [(1,.ii lines),(2,.bp 2 0),(6,.ii l.1),(82,.bool (decide (l.1=6)))] [(2,.box 74 [.ii l.1,.ii l.2.1,.ii l.2.2.1,.ii l.2.2.2])] ?_
 refine zQ h (fun hb28 h=>?_) (fun hb28 h=>?_)
 ·refine zo ?_
  refine zS 2 [(1,.ii lines),(2,.bp 2 0),(85,.ii l.2.1)] [(2,.box 74 [.ii l.1,.ii l.2.1,.ii l.2.2.1,.ii l.2.2.2])] ?_
  obtain ⟨v0_13,hv29,h⟩:=zw h
  refine zC [] [] (l3 l.2.1 hv29) [(1,.ii lines),(2,.bp 2 0),(86,.bool v0_13)] [(2,.box 74 [.ii l.1,.ii l.2.1,.ii l.2.2.1,.ii l.2.2.2])] ?_
  refine zS 1 [(1,.ii lines),(2,.bp 2 0),(87,.bool v0_13)] [(2,.box 74 [.ii l.1,.ii l.2.1,.ii l.2.2.1,.ii l.2.2.2])] ?_
  rcases zI h with ⟨hb30,h⟩|⟨hb30,h⟩
  ·obtain ⟨c31,h⟩:=b5.1 h
   refine zS 4 [(2,.bp 2 0),(87,.bool true),(89,.ii l.2.2.1),(91,.ii (lines - 1))] [(2,.box 74 [.ii l.1,.ii l.2.1,.ii l.2.2.1,.ii l.2.2.2])] ?_
   obtain ⟨v0_14,hv32,h⟩:=zw h
   refine zG [] [] (q9 0 l.2.2.1 (lines - 1) hv32) [(2,.bp 2 0),(87,.bool true),(92,.bool v0_14)] [(2,.box 74 [.ii l.1,.ii l.2.1,.ii l.2.2.1,.ii l.2.2.2])] ?_
   refine zS 2 [(2,.bp 2 0),(94,.bool v0_14)] [(2,.box 74 [.ii l.1,.ii l.2.1,.ii l.2.2.1,.ii l.2.2.2])] ?_
   rcases zI h with ⟨hb33,h⟩|⟨hb33,h⟩
   ·refine zB [(4,.bool (decide (l.2.2.2=0)))] [] ?_
    refine AW.ret ?_
    refine d7 ?_
    refine b9 ?_
    obtain rfl:=zj h
    exact zR [] [] []
   refine zB [(4,.bool false)] [] ?_
   refine AW.ret ?_
   refine d7 ?_
   refine b9 ?_
   obtain rfl:=zj h
   exact zR [] [] []
  refine zS 4 [(2,.bp 2 0),(87,.bool false),(89,.cv (undef)),(91,.cv (undef))] [(2,.box 74 [.ii l.1,.ii l.2.1,.ii l.2.2.1,.ii l.2.2.2])] ?_
  refine zS 5 [(94,.bool false),(96,.cv (undef))] [] ?_
  refine zB [(4,.bool false)] [] ?_
  refine AW.ret ?_
  refine d7 ?_
  refine b9 ?_
  obtain rfl:=zj h
  exact zR [] [] []
 refine zo ?_
 refine zB [(2,.bp 2 0),(99,.bool (decide (l.1=7)))] [(2,.box 74 [.ii l.1,.ii l.2.1,.ii l.2.2.1,.ii l.2.2.2])] ?_
 refine zQ h (fun hb34 h=>?_) (fun hb34 h=>?_)
 ·refine zo ?_
  refine zS 2 [(2,.bp 2 0),(102,.ii l.2.1)] [(2,.box 74 [.ii l.1,.ii l.2.1,.ii l.2.2.1,.ii l.2.2.2])] ?_
  obtain ⟨v0_15,hv35,h⟩:=zw h
  refine zC [] [] (l3 l.2.1 hv35) [(2,.bp 2 0),(103,.bool v0_15)] [(2,.box 74 [.ii l.1,.ii l.2.1,.ii l.2.2.1,.ii l.2.2.2])] ?_
  refine zS 1 [(2,.bp 2 0),(104,.bool v0_15)] [(2,.box 74 [.ii l.1,.ii l.2.1,.ii l.2.2.1,.ii l.2.2.2])] ?_
  rcases zI h with ⟨hb36,h⟩|⟨hb36,h⟩
  ·refine zS 5 [(2,.bp 2 0),(109,.bool (decide (l.2.2.1=0)))] [(2,.box 74 [.ii l.1,.ii l.2.1,.ii l.2.2.1,.ii l.2.2.2])] ?_
   rcases zI h with ⟨hb37,h⟩|⟨hb37,h⟩
   ·refine zB [(4,.bool (decide (l.2.2.2=0)))] [] ?_
    refine AW.ret ?_
    refine d7 ?_
    refine b9 ?_
    obtain rfl:=zj h
    exact zR [] [] []
   refine zB [(4,.bool false)] [] ?_
   refine AW.ret ?_
   refine d7 ?_
   refine b9 ?_
   obtain rfl:=zj h
   exact zR [] [] []
  refine zS 5 [(2,.bp 2 0),(109,.bool false)] [(2,.box 74 [.ii l.1,.ii l.2.1,.ii l.2.2.1,.ii l.2.2.2])] ?_
  refine zB [(4,.bool false)] [] ?_
  refine AW.ret ?_
  refine d7 ?_
  refine b9 ?_
  obtain rfl:=zj h
  exact zR [] [] []
 refine zm ?_
 refine g5 ?_
 refine zo ?_
 refine zB [(4,.bool false)] [] ?_
 refine AW.ret ?_
 obtain rfl:=zj h
 exact zR [] [] []
theorem a3s (c:List (List (Int×Int×Int×Int))) {r:Bool} (h:G0 c=some r):HC Try.prog 17 [] [.sl (.sl Y4) c] [] (.bool r):=by
 unfold G0 at h
 refine zH Try.func17 [.tmp 2] 59 ?_
 refine zo ?_
 refine zB [(0,.sl (.sl Y4) c)] [] ?_
 refine AW.seq ?_
 refine zo ?_
 refine zS 2 [(0,.sl (.sl Y4) c),(6,.ii (c.length:Int))] [] ?_
 obtain ⟨v0,hv1,h⟩:=zw h
 refine zC [] [] (q9 1 (c.length:Int) 4 hv1) [(0,.sl (.sl Y4) c),(7,.bool v0)] [] ?_
 refine zB [(0,.sl (.sl Y4) c),(8,.bool (!v0))] [] ?_
 refine zQ h (fun hb2 h=>?_) (fun hb2 h=>?_)
 ·refine zo ?_
  refine zB [(2,.bool false)] [] ?_
  refine zr ?_
  obtain rfl:=zj h
  exact zR [] [] []
 refine zk ?_
 refine AW.have1 (fun _:Unit=>S2=some r) (fun _=>⟨fr [],b6 [],gt⟩) (fun _ h=>?_) (fun hk_linealref08_Valid_k1=>?_)
 ·as_aux_lemma =>
   unfold S2 at h
   refine zo ?_
   refine zB [(2,.bool true)] [] ?_
   refine AW.ret ?_
   obtain rfl:=zj h
   exact zR [] [] []
 refine AW.seq ?_
 refine zo ?_
 refine zB [(0,.sl (.sl Y4) c),(3,.ii 0)] [] ?_
 refine AW.block ?_
 obtain ⟨rv7,hw3,ho4⟩:=zw h
 refine AW.loopO (z9 c) (fun st1=>⟨fr [(0,.sl (.sl Y4) c),(3,.ii st1)],b6 [],gt⟩) 0 hw3 (zL [] [] []) ?_
 as_aux_lemma =>
  intro st1 x6 h hd5
  unfold z9 at h
  refine AW.seq ?_
  refine zo ?_
  refine zB [(0,.sl (.sl Y4) c),(3,.ii st1),(12,.bool (decide (st1<(c.length:Int))))] [] ?_
  refine zQ h (fun hb8 h=>?_) (fun hb8 h=>?_)
  ·refine zk ?_
   refine AW.have1 (fun _:Unit=>M5 st1=some x6) (fun _=>⟨fr [(0,.sl (.sl Y4) c),(3,.ii st1)],b6 [],gt⟩) (fun _ h=>?_) (fun hk_linealref08_Valid_k2=>?_)
   ·as_aux_lemma =>
     unfold M5 at h
     refine AW.ops ?_
     obtain ⟨c9,h⟩:=b5.1 h
     refine zA [(0,.sl (.sl Y4) c),(3,.ii (st1+1))] [] ?_
     obtain rfl:=zj h
     exact ⟨_,rfl,zL [] [] []⟩
   refine AW.seq ?_
   refine AW.block ?_
   refine AW.seq ?_
   refine zo ?_
   obtain ⟨c10,h⟩:=b5.1 h
   obtain ⟨c11,h⟩:=b5.1 h
   refine zS 5 [(0,.sl (.sl Y4) c),(3,.ii st1),(19,.ii ((c.getD st1.toNat []).length:Int))] [] ?_
   obtain ⟨v0_2,hv12,h⟩:=zw h
   refine zC [] [] (q9 1 ((c.getD st1.toNat []).length:Int) 8 hv12) [(0,.sl (.sl Y4) c),(3,.ii st1),(20,.bool v0_2)] [] ?_
   refine zB [(0,.sl (.sl Y4) c),(3,.ii st1),(21,.bool (!v0_2))] [] ?_
   refine zQ h (fun hb13 h=>?_) (fun hb13 h=>?_)
   ·refine zo ?_
    refine zB [(2,.bool false)] [] ?_
    refine zr ?_
    refine d7 ?_
    refine b9 ?_
    obtain rfl:=zj h
    try rw [← hd5 _ rfl] at ho4
    have h:=ho4
    try simp only at h
    refine b9 ?_
    refine d7 ?_
    refine b9 ?_
    obtain rfl:=zj h
    exact zR [] [] []
   refine zk ?_
   refine AW.have1 (fun _:Unit=>M4 c st1=some x6) (fun _=>⟨fr [(0,.sl (.sl Y4) c),(3,.ii st1)],b6 [],gt⟩) (fun _ h=>?_) (fun hk_linealref08_Valid_k3=>?_)
   ·as_aux_lemma =>
     unfold M4 at h
     refine AW.seq ?_
     refine AW.draw r4 p5 [] [] (by decide) (v9 (by kernel_rfl)) ?_
     as_aux_lemma =>
      obtain ⟨c15,h⟩:=b5.1 h
      obtain ⟨c16,h⟩:=b5.1 h
      refine f8 6 (fun K' hK14=>?_)
      try dsimp only [y1,y2,y3,y4]
      simp only [go_sem,hb2,hb8,hb13]
      repeat with_reducible refine zN ?_
      refine hK14 _ ?_
      as_aux_lemma =>
       obtain ⟨c18,h⟩:=b5.1 h
       obtain ⟨c19,h⟩:=b5.1 h
       obtain ⟨c20,h⟩:=b5.1 h
       obtain ⟨c21,h⟩:=b5.1 h
       obtain ⟨c22,h⟩:=b5.1 h
       refine f8 6 (fun K' hK17=>?_)
       try dsimp only [y1,y2,y3,y4]
       simp only [go_sem,hb2,hb8,hb13]
       repeat with_reducible refine zN ?_
       refine hK17 _ ?_
       as_aux_lemma =>
        refine f8 2 (fun K' hK23=>?_)
        try dsimp only [y1,y2,y3,y4]
        simp only [go_sem,hb2,hb8,hb13]
        repeat with_reducible refine zN ?_
        refine hK23 _ ?_
        refine j8 ?_
        refine g5 ?_
        refine zV [(0,.sl (.sl Y4) c),(3,.ii st1),(58,.bool (!(decide (((c.getD st1.toNat []).getD (((c.getD st1.toNat []).length:Int) - 1).toNat (0,0,0,0)).1=7))))] [] gt ?_
        as_aux_lemma =>
         refine zQ h (fun hb24 h=>?_) (fun hb24 h=>?_)
         ·refine zo ?_
          refine zB [(2,.bool false)] [] ?_
          refine AW.ret ?_
          refine d7 ?_
          refine b9 ?_
          obtain rfl:=zj h
          try rw [← hd5 _ rfl] at ho4
          have h:=ho4
          try simp only at h
          refine b9 ?_
          refine d7 ?_
          refine b9 ?_
          obtain rfl:=zj h
          exact zR [] [] []
         refine zm ?_
         refine g5 ?_
         exact AW.weaken (zL [] [] []) (hk_linealref08_Valid_k2 () h)
   refine AW.seq ?_
   refine zo ?_
   refine zB [(0,.sl (.sl Y4) c),(3,.ii st1),(4,.ii 0)] [] ?_
   refine AW.block ?_
   obtain ⟨rv29,hw25,ho26⟩:=zw h
   refine AW.loopO (z8 c st1) (fun st2=>⟨fr [(0,.sl (.sl Y4) c),(3,.ii st1),(4,.ii st2)],b6 [],gt⟩) 0 hw25 (zL [] [] []) ?_
   as_aux_lemma =>
    intro st2 x28 h hd27
    unfold z8 at h
    refine AW.seq ?_
    refine zo ?_
    obtain ⟨c30,h⟩:=b5.1 h
    obtain ⟨c31,h⟩:=b5.1 h
    refine zS 5 [(0,.sl (.sl Y4) c),(3,.ii st1),(4,.ii st2),(22,.ii st2),(26,.sl Y4 (c.getD st1.toNat []))] [] ?_
    refine zB [(0,.sl (.sl Y4) c),(3,.ii st1),(4,.ii st2),(28,.bool (decide (st2<((c.getD st1.toNat []).length:Int))))] [] ?_
    refine zQ h (fun hb32 h=>?_) (fun hb32 h=>?_)
    ·refine zk ?_
     refine AW.seq ?_
     refine AW.block ?_
     refine AW.seq ?_
     refine AW.draw r4 p5 [] [] (by decide) (v9 (by kernel_rfl)) ?_
     as_aux_lemma =>
      obtain ⟨c34,h⟩:=b5.1 h
      obtain ⟨c35,h⟩:=b5.1 h
      obtain ⟨c36,h⟩:=b5.1 h
      obtain ⟨c37,h⟩:=b5.1 h
      refine f8 6 (fun K' hK33=>?_)
      try dsimp only [y1,y2,y3,y4]
      simp only [go_sem,hb2,hb8,hb13,hb32]
      repeat with_reducible refine zN ?_
      refine hK33 _ ?_
      as_aux_lemma =>
       obtain ⟨c39,h⟩:=b5.1 h
       obtain ⟨c40,h⟩:=b5.1 h
       refine f8 6 (fun K' hK38=>?_)
       try dsimp only [y1,y2,y3,y4]
       simp only [go_sem,hb2,hb8,hb13,hb32]
       repeat with_reducible refine zN ?_
       refine hK38 _ ?_
       as_aux_lemma =>
        obtain ⟨v0_3,hv41,h⟩:=zw h
        refine N7.call (by first|trivial|rfl) rfl rfl rfl (fun _ h=>h) [] [] (a25 ((c.getD st1.toNat []).getD st2.toNat (0,0,0,0)) ((c.getD st1.toNat []).length:Int) hv41) rfl (by (simp only [go_sem,hb2,hb8,hb13,hb32])<;>(with_reducible and_intros)<;>first|assumption|rfl|omega|(unfold maxLen; omega)) (by (simp only [go_sem,hb2,hb8,hb13,hb32])<;>(with_reducible and_intros)<;>first|assumption|rfl|omega|(unfold maxLen; omega)) rfl ?_
        refine f8 1 (fun K' hK42=>?_)
        try dsimp only [y1,y2,y3,y4]
        simp only [go_sem,hb2,hb8,hb13,hb32]
        repeat with_reducible refine zN ?_
        refine hK42 _ ?_
        refine j8 ?_
        refine g5 ?_
        refine zV [(0,.sl (.sl Y4) c),(3,.ii st1),(4,.ii st2),(44,.bool (!v0_3))] [] gt ?_
        as_aux_lemma =>
         refine zQ h (fun hb43 h=>?_) (fun hb43 h=>?_)
         ·refine zo ?_
          refine zB [(2,.bool false)] [] ?_
          refine AW.ret ?_
          refine d7 ?_
          refine b9 ?_
          obtain rfl:=zj h
          try rw [← hd27 _ rfl] at ho26
          have h:=ho26
          try simp only at h
          refine b9 ?_
          refine d7 ?_
          refine b9 ?_
          refine d7 ?_
          refine b9 ?_
          obtain rfl:=zj h
          try rw [← hd5 _ rfl] at ho4
          have h:=ho4
          try simp only at h
          refine b9 ?_
          refine d7 ?_
          refine b9 ?_
          obtain rfl:=zj h
          exact zR [] [] []
         refine zm ?_
         refine g5 ?_
         refine AW.ops ?_
         obtain ⟨c44,h⟩:=b5.1 h
         refine zA [(0,.sl (.sl Y4) c),(3,.ii st1),(4,.ii (st2+1))] [] ?_
         obtain rfl:=zj h
         exact ⟨_,rfl,zL [] [] []⟩
    refine AW.exit ?_
    refine i6 ?_
    obtain rfl:=zj h
    try rw [← hd27 _ rfl] at ho26
    have h:=ho26
    try simp only at h
    refine i6 ?_
    refine m7 ?_
    refine g5 ?_
    exact AW.weaken (zL [] [] []) (hk_linealref08_Valid_k3 () h)
  refine AW.exit ?_
  refine i6 ?_
  obtain rfl:=zj h
  try rw [← hd5 _ rfl] at ho4
  have h:=ho4
  try simp only at h
  refine i6 ?_
  refine m7 ?_
  refine g5 ?_
  exact AW.weaken (zL [] [] []) (hk_linealref08_Valid_k1 () h)
theorem a3t (c:List (List (Int×Int×Int×Int))) (use:List (List Int)) {r:Bool} (h:G4 c use=some r):HC Try.prog 48 [] [.sl (.sl Y4) c,.sl (.sl .i) use] [] (.bool r):=by
 unfold G4 at h
 refine zH Try.func48 [.tmp 4] 44 ?_
 refine zo ?_
 refine zB [(0,.sl (.sl Y4) c),(1,.sl (.sl .i) use)] [] ?_
 refine AW.seq ?_
 refine zo ?_
 refine zS 2 [(0,.sl (.sl Y4) c),(1,.sl (.sl .i) use),(8,.ii (use.length:Int))] [] ?_
 obtain ⟨v0,hv1,h⟩:=zw h
 refine zC [] [] (q9 1 (use.length:Int) 2 hv1) [(0,.sl (.sl Y4) c),(1,.sl (.sl .i) use),(9,.bool v0)] [] ?_
 refine zB [(0,.sl (.sl Y4) c),(1,.sl (.sl .i) use),(10,.bool (!v0))] [] ?_
 refine zQ h (fun hb2 h=>?_) (fun hb2 h=>?_)
 ·refine zo ?_
  refine zB [(4,.bool false)] [] ?_
  refine zr ?_
  obtain rfl:=zj h
  exact zR [] [] []
 refine zk ?_
 refine AW.have1 (fun _:Unit=>S3=some r) (fun _=>⟨fr [],b6 [],gt⟩) (fun _ h=>?_) (fun hk_linealref08_IsUse_k1=>?_)
 ·as_aux_lemma =>
   unfold S3 at h
   refine zo ?_
   refine zB [(4,.bool true)] [] ?_
   refine AW.ret ?_
   obtain rfl:=zj h
   exact zR [] [] []
 refine AW.seq ?_
 refine zo ?_
 refine zB [(0,.sl (.sl Y4) c),(1,.sl (.sl .i) use),(5,.ii 0)] [] ?_
 refine AW.block ?_
 obtain ⟨rv7,hw3,ho4⟩:=zw h
 refine AW.loopO (A4 c use) (fun st1=>⟨fr [(0,.sl (.sl Y4) c),(1,.sl (.sl .i) use),(5,.ii st1)],b6 [],gt⟩) 0 hw3 (zL [] [] []) ?_
 as_aux_lemma =>
  intro st1 x6 h hd5
  unfold A4 at h
  refine AW.seq ?_
  refine zo ?_
  refine zB [(0,.sl (.sl Y4) c),(1,.sl (.sl .i) use),(5,.ii st1),(14,.bool (decide (st1<(use.length:Int))))] [] ?_
  refine zQ h (fun hb8 h=>?_) (fun hb8 h=>?_)
  ·refine zk ?_
   refine AW.have1 (fun _:Unit=>M6 st1=some x6) (fun _=>⟨fr [(0,.sl (.sl Y4) c),(1,.sl (.sl .i) use),(5,.ii st1)],b6 [],gt⟩) (fun _ h=>?_) (fun hk_linealref08_IsUse_k2=>?_)
   ·as_aux_lemma =>
     unfold M6 at h
     refine AW.ops ?_
     obtain ⟨c9,h⟩:=b5.1 h
     refine zA [(0,.sl (.sl Y4) c),(1,.sl (.sl .i) use),(5,.ii (st1+1))] [] ?_
     obtain rfl:=zj h
     exact ⟨_,rfl,zL [] [] []⟩
   refine AW.seq ?_
   refine AW.block ?_
   refine AW.seq ?_
   refine zo ?_
   obtain ⟨c10,h⟩:=b5.1 h
   obtain ⟨c11,h⟩:=b5.1 h
   refine zS 5 [(0,.sl (.sl Y4) c),(1,.sl (.sl .i) use),(5,.ii st1),(21,.ii ((use.getD st1.toNat []).length:Int))] [] ?_
   refine zB [(0,.sl (.sl Y4) c),(1,.sl (.sl .i) use),(5,.ii st1),(22,.bool (decide (3<((use.getD st1.toNat []).length:Int))))] [] ?_
   refine zQ h (fun hb12 h=>?_) (fun hb12 h=>?_)
   ·refine zo ?_
    refine zB [(4,.bool false)] [] ?_
    refine zr ?_
    refine d7 ?_
    refine b9 ?_
    obtain rfl:=zj h
    try rw [← hd5 _ rfl] at ho4
    have h:=ho4
    try simp only at h
    refine b9 ?_
    refine d7 ?_
    refine b9 ?_
    obtain rfl:=zj h
    exact zR [] [] []
   refine zk ?_
   refine zo ?_
   refine zB [(0,.sl (.sl Y4) c),(1,.sl (.sl .i) use),(5,.ii st1),(6,.ii 0)] [] ?_
   refine AW.block ?_
   obtain ⟨rv17,hw13,ho14⟩:=zw h
   refine AW.loopO (A3 c use st1) (fun st2=>⟨fr [(0,.sl (.sl Y4) c),(1,.sl (.sl .i) use),(5,.ii st1),(6,.ii st2)],b6 [],gt⟩) 0 hw13 (zL [] [] []) ?_
   as_aux_lemma =>
    intro st2 x16 h hd15
    unfold A3 at h
    refine AW.seq ?_
    refine zo ?_
    obtain ⟨c18,h⟩:=b5.1 h
    obtain ⟨c19,h⟩:=b5.1 h
    refine zS 5 [(0,.sl (.sl Y4) c),(1,.sl (.sl .i) use),(5,.ii st1),(6,.ii st2),(23,.ii st2),(27,.sl .i (use.getD st1.toNat []))] [] ?_
    refine zB [(0,.sl (.sl Y4) c),(1,.sl (.sl .i) use),(5,.ii st1),(6,.ii st2),(29,.bool (decide (st2<((use.getD st1.toNat []).length:Int))))] [] ?_
    refine zQ h (fun hb20 h=>?_) (fun hb20 h=>?_)
    ·refine zk ?_
     refine AW.seq ?_
     refine AW.block ?_
     refine zo ?_
     obtain ⟨c21,h⟩:=b5.1 h
     obtain ⟨c22,h⟩:=b5.1 h
     refine zS 5 [(0,.sl (.sl Y4) c),(1,.sl (.sl .i) use),(5,.ii st1),(6,.ii st2),(35,.sl .i (use.getD st1.toNat [])),(36,.ii st2)] [] ?_
     obtain ⟨c23,h⟩:=b5.1 h
     obtain ⟨c24,h⟩:=b5.1 h
     obtain ⟨c25,h⟩:=b5.1 h
     refine zS 5 [(0,.sl (.sl Y4) c),(1,.sl (.sl .i) use),(5,.ii st1),(6,.ii st2),(38,.ii ((use.getD st1.toNat []).getD st2.toNat 0)),(41,.ii ((c.length:Int) - 1))] [] ?_
     obtain ⟨v0_2,hv26,h⟩:=zw h
     refine zC [] [] (q9 0 ((use.getD st1.toNat []).getD st2.toNat 0) ((c.length:Int) - 1) hv26) [(0,.sl (.sl Y4) c),(1,.sl (.sl .i) use),(5,.ii st1),(6,.ii st2),(42,.bool v0_2)] [] ?_
     refine zB [(0,.sl (.sl Y4) c),(1,.sl (.sl .i) use),(5,.ii st1),(6,.ii st2),(43,.bool (!v0_2))] [] ?_
     refine zQ h (fun hb27 h=>?_) (fun hb27 h=>?_)
     ·refine zo ?_
      refine zB [(4,.bool false)] [] ?_
      refine AW.ret ?_
      refine d7 ?_
      refine b9 ?_
      obtain rfl:=zj h
      try rw [← hd15 _ rfl] at ho14
      have h:=ho14
      try simp only at h
      refine b9 ?_
      refine d7 ?_
      refine d7 ?_
      refine b9 ?_
      obtain rfl:=zj h
      try rw [← hd5 _ rfl] at ho4
      have h:=ho4
      try simp only at h
      refine b9 ?_
      refine d7 ?_
      refine b9 ?_
      obtain rfl:=zj h
      exact zR [] [] []
     refine zm ?_
     refine g5 ?_
     refine AW.ops ?_
     obtain ⟨c28,h⟩:=b5.1 h
     refine zA [(0,.sl (.sl Y4) c),(1,.sl (.sl .i) use),(5,.ii st1),(6,.ii (st2+1))] [] ?_
     obtain rfl:=zj h
     exact ⟨_,rfl,zL [] [] []⟩
    refine AW.exit ?_
    refine i6 ?_
    obtain rfl:=zj h
    try rw [← hd15 _ rfl] at ho14
    have h:=ho14
    try simp only at h
    refine i6 ?_
    refine m7 ?_
    refine p6 ?_
    refine g5 ?_
    exact AW.weaken (zL [] [] []) (hk_linealref08_IsUse_k2 () h)
  refine AW.exit ?_
  refine i6 ?_
  obtain rfl:=zj h
  try rw [← hd5 _ rfl] at ho4
  have h:=ho4
  try simp only at h
  refine i6 ?_
  refine m7 ?_
  refine g5 ?_
  exact AW.weaken (zL [] [] []) (hk_linealref08_IsUse_k1 () h)
theorem a2n (r0:((List (List (Int×Int×Int×Int)))×(List (List Int)))×(List Int)×(El T80)×(Int×Int×Int)×(El T85)×(El T86)×Int) {r:(List Int)} (h:E7 r0=some r):HC Try.prog 58 [] [.agg (.sl (.sl Y4) r0.1.1::(.sl (.sl .i) r0.1.2::(.sl .i r0.2.1::(b3 T80 r0.2.2.1++(.ii r0.2.2.2.1.1::(.ii r0.2.2.2.1.2.1::(.ii r0.2.2.2.1.2.2::(b3 T85 r0.2.2.2.2.1++(b3 T86 r0.2.2.2.2.2.1++(.ii r0.2.2.2.2.2.2::[]))))))))))] [(2000,.arr 3 .i r)] (.own 2000):=by
 unfold E7 at h
 refine zH Try.func58 [.tmp 2] 21 ?_
 refine zo ?_
 refine zB [(1,.bp 1 0)] [(1,.box 88 (.sl (.sl Y4) r0.1.1::(.sl (.sl .i) r0.1.2::(.sl .i r0.2.1::(b3 T80 r0.2.2.1++(.ii r0.2.2.2.1.1::(.ii r0.2.2.2.1.2.1::(.ii r0.2.2.2.1.2.2::(b3 T85 r0.2.2.2.2.1++(b3 T86 r0.2.2.2.2.2.1++(.ii r0.2.2.2.2.2.2::[])))))))))))] ?_
 refine zo ?_
 refine zB [(1,.bp 1 0),(3,.cv (.slice none 0 0))] [(1,.box 88 (.sl (.sl Y4) r0.1.1::(.sl (.sl .i) r0.1.2::(.sl .i r0.2.1::(b3 T80 r0.2.2.1++(.ii r0.2.2.2.1.1::(.ii r0.2.2.2.1.2.1::(.ii r0.2.2.2.1.2.2::(b3 T85 r0.2.2.2.2.1++(b3 T86 r0.2.2.2.2.2.1++(.ii r0.2.2.2.2.2.2::[])))))))))))] ?_
 refine AW.have1 (fun b1:(List Int)=>a0d b1=some r) (fun b1=>⟨fr [(3,.own 18)],b6 [(18,.arr 3 .i b1)],gt⟩) (fun b1 h=>?_) (fun hk_code_run_left_k1=>?_)
 ·as_aux_lemma =>
   unfold a0d at h
   refine zo ?_
   refine zB [(2,.own 18)] [(18,.arr 3 .i b1)] ?_
   refine AW.ret ?_
   obtain rfl:=zj h
   exact zR [] [] [(2000,18)]
 refine AW.seq ?_
 refine zo ?_
 refine zB [(1,.bp 1 0),(3,.cv (.slice none 0 0)),(8,.ii (r0.1.2.length:Int)),(9,.ii 0)] [(1,.box 88 (.sl (.sl Y4) r0.1.1::(.sl (.sl .i) r0.1.2::(.sl .i r0.2.1::(b3 T80 r0.2.2.1++(.ii r0.2.2.2.1.1::(.ii r0.2.2.2.1.2.1::(.ii r0.2.2.2.1.2.2::(b3 T85 r0.2.2.2.2.1++(b3 T86 r0.2.2.2.2.2.1++(.ii r0.2.2.2.2.2.2::[])))))))))))] ?_
 refine AW.block ?_
 obtain ⟨rv5,hw1,ho2⟩:=zw h
 refine AW.loopO (P8 r0) (fun st1=>⟨fr [(1,.bp 1 0),(3,.own 18),(8,.ii (r0.1.2.length:Int)),(9,.ii st1.2)],b6 [(1,.box 88 (.sl (.sl Y4) r0.1.1::(.sl (.sl .i) r0.1.2::(.sl .i r0.2.1::(b3 T80 r0.2.2.1++(.ii r0.2.2.2.1.1::(.ii r0.2.2.2.1.2.1::(.ii r0.2.2.2.1.2.2::(b3 T85 r0.2.2.2.2.1++(b3 T86 r0.2.2.2.2.2.1++(.ii r0.2.2.2.2.2.2::[]))))))))))),(18,.arr 3 .i st1.1)],gt⟩) ([],0) hw1 (zL [] [18] []) ?_
 as_aux_lemma =>
  intro st1 x4 h hd3
  unfold P8 at h
  refine zo ?_
  refine zB [(1,.bp 1 0),(3,.own 18),(8,.ii (r0.1.2.length:Int)),(9,.ii st1.2),(10,.bool (decide (st1.2<(r0.1.2.length:Int))))] [(1,.box 88 (.sl (.sl Y4) r0.1.1::(.sl (.sl .i) r0.1.2::(.sl .i r0.2.1::(b3 T80 r0.2.2.1++(.ii r0.2.2.2.1.1::(.ii r0.2.2.2.1.2.1::(.ii r0.2.2.2.1.2.2::(b3 T85 r0.2.2.2.2.1++(b3 T86 r0.2.2.2.2.2.1++(.ii r0.2.2.2.2.2.2::[]))))))))))),(18,.arr 3 .i st1.1)] ?_
  refine AW.seq ?_
  refine zQ h (fun hb6 h=>?_) (fun hb6 h=>?_)
  ·refine zk ?_
   refine AW.seq ?_
   refine AW.block ?_
   refine zo ?_
   refine zB [(1,.bp 1 0),(3,.own 18),(4,.ii st1.2),(8,.ii (r0.1.2.length:Int)),(9,.ii st1.2)] [(1,.box 88 (.sl (.sl Y4) r0.1.1::(.sl (.sl .i) r0.1.2::(.sl .i r0.2.1::(b3 T80 r0.2.2.1++(.ii r0.2.2.2.1.1::(.ii r0.2.2.2.1.2.1::(.ii r0.2.2.2.1.2.2::(b3 T85 r0.2.2.2.2.1++(b3 T86 r0.2.2.2.2.2.1++(.ii r0.2.2.2.2.2.2::[]))))))))))),(18,.arr 3 .i st1.1)] ?_
   refine zo ?_
   refine zS 2 [(1,.bp 1 0),(3,.own 18),(4,.ii st1.2),(8,.ii (r0.1.2.length:Int)),(9,.ii st1.2),(12,.agg (.sl (.sl Y4) r0.1.1::(.sl (.sl .i) r0.1.2::(.sl .i r0.2.1::(b3 T80 r0.2.2.1++(.ii r0.2.2.2.1.1::(.ii r0.2.2.2.1.2.1::(.ii r0.2.2.2.1.2.2::(b3 T85 r0.2.2.2.2.1++(b3 T86 r0.2.2.2.2.2.1++(.ii r0.2.2.2.2.2.2::[]))))))))))),(13,.ii st1.2)] [(1,.box 88 (.sl (.sl Y4) r0.1.1::(.sl (.sl .i) r0.1.2::(.sl .i r0.2.1::(b3 T80 r0.2.2.1++(.ii r0.2.2.2.1.1::(.ii r0.2.2.2.1.2.1::(.ii r0.2.2.2.1.2.2::(b3 T85 r0.2.2.2.2.1++(b3 T86 r0.2.2.2.2.2.1++(.ii r0.2.2.2.2.2.2::[]))))))))))),(18,.arr 3 .i st1.1)] ?_
   obtain ⟨v0,hv7,h⟩:=zw h
   refine zC [] [] (a0S r0 st1.2 hv7) [(1,.bp 1 0),(3,.own 18),(4,.ii st1.2),(8,.ii (r0.1.2.length:Int)),(9,.ii st1.2),(14,.bool v0)] [(1,.box 88 (.sl (.sl Y4) r0.1.1::(.sl (.sl .i) r0.1.2::(.sl .i r0.2.1::(b3 T80 r0.2.2.1++(.ii r0.2.2.2.1.1::(.ii r0.2.2.2.1.2.1::(.ii r0.2.2.2.1.2.2::(b3 T85 r0.2.2.2.2.1++(b3 T86 r0.2.2.2.2.2.1++(.ii r0.2.2.2.2.2.2::[]))))))))))),(18,.arr 3 .i st1.1)] ?_
   refine zB [(1,.bp 1 0),(3,.own 18),(4,.ii st1.2),(8,.ii (r0.1.2.length:Int)),(9,.ii st1.2),(14,.bool v0)] [(1,.box 88 (.sl (.sl Y4) r0.1.1::(.sl (.sl .i) r0.1.2::(.sl .i r0.2.1::(b3 T80 r0.2.2.1++(.ii r0.2.2.2.1.1::(.ii r0.2.2.2.1.2.1::(.ii r0.2.2.2.1.2.2::(b3 T85 r0.2.2.2.2.1++(b3 T86 r0.2.2.2.2.2.1++(.ii r0.2.2.2.2.2.2::[]))))))))))),(18,.arr 3 .i st1.1)] ?_
   refine zQ h (fun hb8 h=>?_) (fun hb8 h=>?_)
   ·refine AW.ops ?_
    obtain ⟨c9,h⟩:=b5.1 h
    refine zA [(1,.bp 1 0),(3,.own 18),(8,.ii (r0.1.2.length:Int)),(9,.ii st1.2)] [(1,.box 88 (.sl (.sl Y4) r0.1.1::(.sl (.sl .i) r0.1.2::(.sl .i r0.2.1::(b3 T80 r0.2.2.1++(.ii r0.2.2.2.1.1::(.ii r0.2.2.2.1.2.1::(.ii r0.2.2.2.1.2.2::(b3 T85 r0.2.2.2.2.1++(b3 T86 r0.2.2.2.2.2.1++(.ii r0.2.2.2.2.2.2::[]))))))))))),(18,.arr 3 .i (st1.1++[st1.2]))] ?_
    refine p6 ?_
    refine g5 ?_
    refine AW.ops ?_
    obtain ⟨c10,h⟩:=b5.1 h
    refine zA [(1,.bp 1 0),(3,.own 18),(8,.ii (r0.1.2.length:Int)),(9,.ii (st1.2+1))] [(1,.box 88 (.sl (.sl Y4) r0.1.1::(.sl (.sl .i) r0.1.2::(.sl .i r0.2.1::(b3 T80 r0.2.2.1++(.ii r0.2.2.2.1.1::(.ii r0.2.2.2.1.2.1::(.ii r0.2.2.2.1.2.2::(b3 T85 r0.2.2.2.2.1++(b3 T86 r0.2.2.2.2.2.1++(.ii r0.2.2.2.2.2.2::[]))))))))))),(18,.arr 3 .i (st1.1++[st1.2]))] ?_
    obtain rfl:=zj h
    exact ⟨_,rfl,zL [] [] []⟩
   refine zm ?_
   refine g5 ?_
   refine AW.ops ?_
   obtain ⟨c11,h⟩:=b5.1 h
   refine zA [(1,.bp 1 0),(3,.own 18),(8,.ii (r0.1.2.length:Int)),(9,.ii (st1.2+1))] [(1,.box 88 (.sl (.sl Y4) r0.1.1::(.sl (.sl .i) r0.1.2::(.sl .i r0.2.1::(b3 T80 r0.2.2.1++(.ii r0.2.2.2.1.1::(.ii r0.2.2.2.1.2.1::(.ii r0.2.2.2.1.2.2::(b3 T85 r0.2.2.2.2.1++(b3 T86 r0.2.2.2.2.2.1++(.ii r0.2.2.2.2.2.2::[]))))))))))),(18,.arr 3 .i st1.1)] ?_
   obtain rfl:=zj h
   exact ⟨_,rfl,zL [] [] []⟩
  refine AW.exit ?_
  refine i6 ?_
  obtain rfl:=zj h
  rw [← hd3 _ rfl] at ho2
  have h:=ho2
  refine i6 ?_
  refine m7 ?_
  refine g5 ?_
  have hj:=hk_code_run_left_k1 _ h
  exact AW.weaken (zL [] [] []) hj
end Go.Proofs.Ytenchhmcjmjlbaa
