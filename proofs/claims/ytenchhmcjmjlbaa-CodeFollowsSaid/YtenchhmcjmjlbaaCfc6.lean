import Derived.Test.YtenchhmcjmjlbaaCkp
import Derived.Test.YtenchhmcjmjlbaaShk
import Derived.Test.YtenchhmcjmjlbaaAvd
import Derived.Test.YtenchhmcjmjlbaaCfc5
namespace Go.Proofs.Ytenchhmcjmjlbaa
open Go.RowKit
set_option linter.unusedSimpArgs false
set_option linter.unusedVariables false
set_option linter.constructorNameAsVariable false
set_option maxRecDepth 100000
set_option maxHeartbeats 40000000
theorem a2p (l:Int×Int×Int×Int) (lines:Int) {r:Bool} (h:H8 l lines=some r):HC Try.prog 56 [] [.agg [.ii l.1,.ii l.2.1,.ii l.2.2.1,.ii l.2.2.2],.ii lines] [] (.bool r):=by
 unfold H8 at h
 refine zH Try.func56 [.tmp 4] 114 ?_
 refine zo ?_
 refine zB [(1,.ii lines),(2,.bp 2 0)] [(2,.box 74 [.ii l.1,.ii l.2.1,.ii l.2.2.1,.ii l.2.2.2])] ?_
 refine AW.seq ?_
 refine zo ?_
 refine zB [(1,.ii lines),(2,.bp 2 0),(6,.ii l.1)] [(2,.box 74 [.ii l.1,.ii l.2.1,.ii l.2.2.1,.ii l.2.2.2])] ?_
 refine AW.block ?_
 refine zo ?_
 refine zB [(1,.ii lines),(2,.bp 2 0),(6,.ii l.1),(7,.bool (decide (l.1=1)))] [(2,.box 74 [.ii l.1,.ii l.2.1,.ii l.2.2.1,.ii l.2.2.2])] ?_
 refine zQ h (fun hb1 h=>?_) (fun hb1 h=>?_)
 ·refine zo ?_
  refine zS 2 [(2,.bp 2 0),(10,.ii l.2.1)] [(2,.box 74 [.ii l.1,.ii l.2.1,.ii l.2.2.1,.ii l.2.2.2])] ?_
  obtain ⟨v0,hv2,h⟩:=zw h
  refine zC [] [] (l4 l.2.1 hv2) [(2,.bp 2 0),(11,.bool v0)] [(2,.box 74 [.ii l.1,.ii l.2.1,.ii l.2.2.1,.ii l.2.2.2])] ?_
  refine zS 1 [(2,.bp 2 0),(12,.bool v0)] [(2,.box 74 [.ii l.1,.ii l.2.1,.ii l.2.2.1,.ii l.2.2.2])] ?_
  rcases zI h with ⟨hb3,h⟩|⟨hb3,h⟩
  ·refine zS 2 [(2,.bp 2 0),(12,.bool true),(14,.ii l.2.2.1)] [(2,.box 74 [.ii l.1,.ii l.2.1,.ii l.2.2.1,.ii l.2.2.2])] ?_
   obtain ⟨v0_2,hv4,h⟩:=zw h
   refine zG [] [] (C4 l.2.2.1 hv4) [(2,.bp 2 0),(12,.bool true),(15,.bool v0_2)] [(2,.box 74 [.ii l.1,.ii l.2.1,.ii l.2.2.1,.ii l.2.2.2])] ?_
   refine zS 2 [(2,.bp 2 0),(17,.bool v0_2)] [(2,.box 74 [.ii l.1,.ii l.2.1,.ii l.2.2.1,.ii l.2.2.2])] ?_
   rcases zI h with ⟨hb5,h⟩|⟨hb5,h⟩
   ·refine zB [(4,.bool (decide (l.2.2.2=0)))] [] ?_
    refine AW.ret ?_
    refine d7 ?_
    refine d6 ?_
    obtain rfl:=zj h
    exact zR [] [] []
   refine zB [(4,.bool false)] [] ?_
   refine AW.ret ?_
   refine d7 ?_
   refine d6 ?_
   obtain rfl:=zj h
   exact zR [] [] []
  refine zS 5 [(2,.bp 2 0),(17,.bool false)] [(2,.box 74 [.ii l.1,.ii l.2.1,.ii l.2.2.1,.ii l.2.2.2])] ?_
  refine zB [(4,.bool false)] [] ?_
  refine AW.ret ?_
  refine d7 ?_
  refine d6 ?_
  obtain rfl:=zj h
  exact zR [] [] []
 refine zo ?_
 refine zB [(1,.ii lines),(2,.bp 2 0),(6,.ii l.1),(22,.bool (decide (l.1=2)))] [(2,.box 74 [.ii l.1,.ii l.2.1,.ii l.2.2.1,.ii l.2.2.2])] ?_
 refine zQ h (fun hb6 h=>?_) (fun hb6 h=>?_)
 ·refine zo ?_
  refine zS 2 [(2,.bp 2 0),(25,.ii l.2.1)] [(2,.box 74 [.ii l.1,.ii l.2.1,.ii l.2.2.1,.ii l.2.2.2])] ?_
  obtain ⟨v0_3,hv7,h⟩:=zw h
  refine zC [] [] (C4 l.2.1 hv7) [(2,.bp 2 0),(26,.bool v0_3)] [(2,.box 74 [.ii l.1,.ii l.2.1,.ii l.2.2.1,.ii l.2.2.2])] ?_
  refine zS 1 [(2,.bp 2 0),(27,.bool v0_3)] [(2,.box 74 [.ii l.1,.ii l.2.1,.ii l.2.2.1,.ii l.2.2.2])] ?_
  rcases zI h with ⟨hb8,h⟩|⟨hb8,h⟩
  ·refine zS 2 [(2,.bp 2 0),(27,.bool true),(29,.ii l.2.2.1)] [(2,.box 74 [.ii l.1,.ii l.2.1,.ii l.2.2.1,.ii l.2.2.2])] ?_
   obtain ⟨v0_4,hv9,h⟩:=zw h
   refine zG [] [] (l4 l.2.2.1 hv9) [(2,.bp 2 0),(27,.bool true),(30,.bool v0_4)] [(2,.box 74 [.ii l.1,.ii l.2.1,.ii l.2.2.1,.ii l.2.2.2])] ?_
   refine zS 2 [(2,.bp 2 0),(32,.bool v0_4)] [(2,.box 74 [.ii l.1,.ii l.2.1,.ii l.2.2.1,.ii l.2.2.2])] ?_
   rcases zI h with ⟨hb10,h⟩|⟨hb10,h⟩
   ·refine zB [(4,.bool (decide (l.2.2.2=0)))] [] ?_
    refine AW.ret ?_
    refine d7 ?_
    refine d6 ?_
    obtain rfl:=zj h
    exact zR [] [] []
   refine zB [(4,.bool false)] [] ?_
   refine AW.ret ?_
   refine d7 ?_
   refine d6 ?_
   obtain rfl:=zj h
   exact zR [] [] []
  refine zS 5 [(2,.bp 2 0),(32,.bool false)] [(2,.box 74 [.ii l.1,.ii l.2.1,.ii l.2.2.1,.ii l.2.2.2])] ?_
  refine zB [(4,.bool false)] [] ?_
  refine AW.ret ?_
  refine d7 ?_
  refine d6 ?_
  obtain rfl:=zj h
  exact zR [] [] []
 refine zo ?_
 refine zB [(1,.ii lines),(2,.bp 2 0),(6,.ii l.1),(37,.bool (decide (l.1=3)))] [(2,.box 74 [.ii l.1,.ii l.2.1,.ii l.2.2.1,.ii l.2.2.2])] ?_
 refine zQ h (fun hb11 h=>?_) (fun hb11 h=>?_)
 ·refine zo ?_
  refine zS 2 [(2,.bp 2 0),(40,.ii l.2.1)] [(2,.box 74 [.ii l.1,.ii l.2.1,.ii l.2.2.1,.ii l.2.2.2])] ?_
  obtain ⟨v0_5,hv12,h⟩:=zw h
  refine zC [] [] (C4 l.2.1 hv12) [(2,.bp 2 0),(41,.bool v0_5)] [(2,.box 74 [.ii l.1,.ii l.2.1,.ii l.2.2.1,.ii l.2.2.2])] ?_
  refine zS 1 [(2,.bp 2 0),(42,.bool v0_5)] [(2,.box 74 [.ii l.1,.ii l.2.1,.ii l.2.2.1,.ii l.2.2.2])] ?_
  rcases zI h with ⟨hb13,h⟩|⟨hb13,h⟩
  ·refine zS 2 [(2,.bp 2 0),(42,.bool true),(44,.ii l.2.2.1)] [(2,.box 74 [.ii l.1,.ii l.2.1,.ii l.2.2.1,.ii l.2.2.2])] ?_
   obtain ⟨v0_6,hv14,h⟩:=zw h
   refine zG [] [] (l4 l.2.2.1 hv14) [(2,.bp 2 0),(42,.bool true),(45,.bool v0_6)] [(2,.box 74 [.ii l.1,.ii l.2.1,.ii l.2.2.1,.ii l.2.2.2])] ?_
   refine zS 2 [(2,.bp 2 0),(47,.bool v0_6)] [(2,.box 74 [.ii l.1,.ii l.2.1,.ii l.2.2.1,.ii l.2.2.2])] ?_
   rcases zI h with ⟨hb15,h⟩|⟨hb15,h⟩
   ·refine zS 2 [(47,.bool true),(49,.ii l.2.2.2)] [] ?_
    obtain ⟨v0_7,hv16,h⟩:=zw h
    refine zG [] [] (l4 l.2.2.2 hv16) [(47,.bool true),(50,.bool v0_7)] [] ?_
    refine zB [(4,.bool v0_7)] [] ?_
    refine AW.ret ?_
    refine d7 ?_
    refine d6 ?_
    obtain rfl:=zj h
    exact zR [] [] []
   refine zB [(4,.bool false)] [] ?_
   refine AW.ret ?_
   refine d7 ?_
   refine d6 ?_
   obtain rfl:=zj h
   exact zR [] [] []
  refine zS 5 [(2,.bp 2 0),(47,.bool false)] [(2,.box 74 [.ii l.1,.ii l.2.1,.ii l.2.2.1,.ii l.2.2.2])] ?_
  refine zB [(4,.bool false)] [] ?_
  refine AW.ret ?_
  refine d7 ?_
  refine d6 ?_
  obtain rfl:=zj h
  exact zR [] [] []
 refine zo ?_
 refine zB [(1,.ii lines),(2,.bp 2 0),(6,.ii l.1),(52,.bool (decide (l.1=4)))] [(2,.box 74 [.ii l.1,.ii l.2.1,.ii l.2.2.1,.ii l.2.2.2])] ?_
 refine zQ h (fun hb17 h=>?_) (fun hb17 h=>?_)
 ·refine zo ?_
  refine zS 2 [(2,.bp 2 0),(55,.ii l.2.1)] [(2,.box 74 [.ii l.1,.ii l.2.1,.ii l.2.2.1,.ii l.2.2.2])] ?_
  obtain ⟨v0_8,hv18,h⟩:=zw h
  refine zC [] [] (l4 l.2.1 hv18) [(2,.bp 2 0),(56,.bool v0_8)] [(2,.box 74 [.ii l.1,.ii l.2.1,.ii l.2.2.1,.ii l.2.2.2])] ?_
  refine zS 1 [(2,.bp 2 0),(57,.bool v0_8)] [(2,.box 74 [.ii l.1,.ii l.2.1,.ii l.2.2.1,.ii l.2.2.2])] ?_
  rcases zI h with ⟨hb19,h⟩|⟨hb19,h⟩
  ·refine zS 2 [(2,.bp 2 0),(57,.bool true),(59,.ii l.2.2.1)] [(2,.box 74 [.ii l.1,.ii l.2.1,.ii l.2.2.1,.ii l.2.2.2])] ?_
   obtain ⟨v0_9,hv20,h⟩:=zw h
   refine zG [] [] (a1u l.2.2.1 hv20) [(2,.bp 2 0),(57,.bool true),(60,.bool v0_9)] [(2,.box 74 [.ii l.1,.ii l.2.1,.ii l.2.2.1,.ii l.2.2.2])] ?_
   refine zS 2 [(2,.bp 2 0),(62,.bool v0_9)] [(2,.box 74 [.ii l.1,.ii l.2.1,.ii l.2.2.1,.ii l.2.2.2])] ?_
   rcases zI h with ⟨hb21,h⟩|⟨hb21,h⟩
   ·refine zB [(4,.bool (decide (l.2.2.2=0)))] [] ?_
    refine AW.ret ?_
    refine d7 ?_
    refine d6 ?_
    obtain rfl:=zj h
    exact zR [] [] []
   refine zB [(4,.bool false)] [] ?_
   refine AW.ret ?_
   refine d7 ?_
   refine d6 ?_
   obtain rfl:=zj h
   exact zR [] [] []
  refine zS 5 [(2,.bp 2 0),(62,.bool false)] [(2,.box 74 [.ii l.1,.ii l.2.1,.ii l.2.2.1,.ii l.2.2.2])] ?_
  refine zB [(4,.bool false)] [] ?_
  refine AW.ret ?_
  refine d7 ?_
  refine d6 ?_
  obtain rfl:=zj h
  exact zR [] [] []
 refine zo ?_
 refine zB [(1,.ii lines),(2,.bp 2 0),(6,.ii l.1),(67,.bool (decide (l.1=5)))] [(2,.box 74 [.ii l.1,.ii l.2.1,.ii l.2.2.1,.ii l.2.2.2])] ?_
 refine zQ h (fun hb22 h=>?_) (fun hb22 h=>?_)
 ·refine zo ?_
  refine zS 2 [(2,.bp 2 0),(70,.ii l.2.1)] [(2,.box 74 [.ii l.1,.ii l.2.1,.ii l.2.2.1,.ii l.2.2.2])] ?_
  obtain ⟨v0_10,hv23,h⟩:=zw h
  refine zC [] [] (l4 l.2.1 hv23) [(2,.bp 2 0),(71,.bool v0_10)] [(2,.box 74 [.ii l.1,.ii l.2.1,.ii l.2.2.1,.ii l.2.2.2])] ?_
  refine zS 1 [(2,.bp 2 0),(72,.bool v0_10)] [(2,.box 74 [.ii l.1,.ii l.2.1,.ii l.2.2.1,.ii l.2.2.2])] ?_
  rcases zI h with ⟨hb24,h⟩|⟨hb24,h⟩
  ·refine zS 2 [(2,.bp 2 0),(72,.bool true),(74,.ii l.2.2.1)] [(2,.box 74 [.ii l.1,.ii l.2.1,.ii l.2.2.1,.ii l.2.2.2])] ?_
   obtain ⟨v0_11,hv25,h⟩:=zw h
   refine zG [] [] (l4 l.2.2.1 hv25) [(2,.bp 2 0),(72,.bool true),(75,.bool v0_11)] [(2,.box 74 [.ii l.1,.ii l.2.1,.ii l.2.2.1,.ii l.2.2.2])] ?_
   refine zS 2 [(2,.bp 2 0),(77,.bool v0_11)] [(2,.box 74 [.ii l.1,.ii l.2.1,.ii l.2.2.1,.ii l.2.2.2])] ?_
   rcases zI h with ⟨hb26,h⟩|⟨hb26,h⟩
   ·refine zS 2 [(77,.bool true),(79,.ii l.2.2.2)] [] ?_
    obtain ⟨v0_12,hv27,h⟩:=zw h
    refine zG [] [] (l4 l.2.2.2 hv27) [(77,.bool true),(80,.bool v0_12)] [] ?_
    refine zB [(4,.bool v0_12)] [] ?_
    refine AW.ret ?_
    refine d7 ?_
    refine d6 ?_
    obtain rfl:=zj h
    exact zR [] [] []
   refine zB [(4,.bool false)] [] ?_
   refine AW.ret ?_
   refine d7 ?_
   refine d6 ?_
   obtain rfl:=zj h
   exact zR [] [] []
  refine zS 5 [(2,.bp 2 0),(77,.bool false)] [(2,.box 74 [.ii l.1,.ii l.2.1,.ii l.2.2.1,.ii l.2.2.2])] ?_
  refine zB [(4,.bool false)] [] ?_
  refine AW.ret ?_
  refine d7 ?_
  refine d6 ?_
  obtain rfl:=zj h
  exact zR [] [] []
 refine zo ?_
 refine zB [(1,.ii lines),(2,.bp 2 0),(6,.ii l.1),(82,.bool (decide (l.1=6)))] [(2,.box 74 [.ii l.1,.ii l.2.1,.ii l.2.2.1,.ii l.2.2.2])] ?_
 refine zQ h (fun hb28 h=>?_) (fun hb28 h=>?_)
 ·refine zo ?_
  refine zS 2 [(1,.ii lines),(2,.bp 2 0),(85,.ii l.2.1)] [(2,.box 74 [.ii l.1,.ii l.2.1,.ii l.2.2.1,.ii l.2.2.2])] ?_
  obtain ⟨v0_13,hv29,h⟩:=zw h
  refine zC [] [] (l4 l.2.1 hv29) [(1,.ii lines),(2,.bp 2 0),(86,.bool v0_13)] [(2,.box 74 [.ii l.1,.ii l.2.1,.ii l.2.2.1,.ii l.2.2.2])] ?_
  refine zS 1 [(1,.ii lines),(2,.bp 2 0),(87,.bool v0_13)] [(2,.box 74 [.ii l.1,.ii l.2.1,.ii l.2.2.1,.ii l.2.2.2])] ?_
  rcases zI h with ⟨hb30,h⟩|⟨hb30,h⟩
  ·obtain ⟨c31,h⟩:=b5.1 h
   refine zS 4 [(2,.bp 2 0),(87,.bool true),(89,.ii l.2.2.1),(91,.ii (lines - 1))] [(2,.box 74 [.ii l.1,.ii l.2.1,.ii l.2.2.1,.ii l.2.2.2])] ?_
   obtain ⟨v0_14,hv32,h⟩:=zw h
   refine zG [] [] (q4 0 l.2.2.1 (lines - 1) hv32) [(2,.bp 2 0),(87,.bool true),(92,.bool v0_14)] [(2,.box 74 [.ii l.1,.ii l.2.1,.ii l.2.2.1,.ii l.2.2.2])] ?_
   refine zS 2 [(2,.bp 2 0),(94,.bool v0_14)] [(2,.box 74 [.ii l.1,.ii l.2.1,.ii l.2.2.1,.ii l.2.2.2])] ?_
   rcases zI h with ⟨hb33,h⟩|⟨hb33,h⟩
   ·refine zB [(4,.bool (decide (l.2.2.2=0)))] [] ?_
    refine AW.ret ?_
    refine d7 ?_
    refine d6 ?_
    obtain rfl:=zj h
    exact zR [] [] []
   refine zB [(4,.bool false)] [] ?_
   refine AW.ret ?_
   refine d7 ?_
   refine d6 ?_
   obtain rfl:=zj h
   exact zR [] [] []
  refine zS 4 [(2,.bp 2 0),(87,.bool false),(89,.cv (undef)),(91,.cv (undef))] [(2,.box 74 [.ii l.1,.ii l.2.1,.ii l.2.2.1,.ii l.2.2.2])] ?_
  refine zS 5 [(94,.bool false),(96,.cv (undef))] [] ?_
  refine zB [(4,.bool false)] [] ?_
  refine AW.ret ?_
  refine d7 ?_
  refine d6 ?_
  obtain rfl:=zj h
  exact zR [] [] []
 refine zo ?_
 refine zB [(2,.bp 2 0),(99,.bool (decide (l.1=7)))] [(2,.box 74 [.ii l.1,.ii l.2.1,.ii l.2.2.1,.ii l.2.2.2])] ?_
 refine zQ h (fun hb34 h=>?_) (fun hb34 h=>?_)
 ·refine zo ?_
  refine zS 2 [(2,.bp 2 0),(102,.ii l.2.1)] [(2,.box 74 [.ii l.1,.ii l.2.1,.ii l.2.2.1,.ii l.2.2.2])] ?_
  obtain ⟨v0_15,hv35,h⟩:=zw h
  refine zC [] [] (l4 l.2.1 hv35) [(2,.bp 2 0),(103,.bool v0_15)] [(2,.box 74 [.ii l.1,.ii l.2.1,.ii l.2.2.1,.ii l.2.2.2])] ?_
  refine zS 1 [(2,.bp 2 0),(104,.bool v0_15)] [(2,.box 74 [.ii l.1,.ii l.2.1,.ii l.2.2.1,.ii l.2.2.2])] ?_
  rcases zI h with ⟨hb36,h⟩|⟨hb36,h⟩
  ·refine zS 5 [(2,.bp 2 0),(109,.bool (decide (l.2.2.1=0)))] [(2,.box 74 [.ii l.1,.ii l.2.1,.ii l.2.2.1,.ii l.2.2.2])] ?_
   rcases zI h with ⟨hb37,h⟩|⟨hb37,h⟩
   ·refine zB [(4,.bool (decide (l.2.2.2=0)))] [] ?_
    refine AW.ret ?_
    refine d7 ?_
    refine d6 ?_
    obtain rfl:=zj h
    exact zR [] [] []
   refine zB [(4,.bool false)] [] ?_
   refine AW.ret ?_
   refine d7 ?_
   refine d6 ?_
   obtain rfl:=zj h
   exact zR [] [] []
  refine zS 5 [(2,.bp 2 0),(109,.bool false)] [(2,.box 74 [.ii l.1,.ii l.2.1,.ii l.2.2.1,.ii l.2.2.2])] ?_
  refine zB [(4,.bool false)] [] ?_
  refine AW.ret ?_
  refine d7 ?_
  refine d6 ?_
  obtain rfl:=zj h
  exact zR [] [] []
 refine zm ?_
 refine f7 ?_
 refine zo ?_
 refine zB [(4,.bool false)] [] ?_
 refine AW.ret ?_
 obtain rfl:=zj h
 exact zR [] [] []
theorem Z4 (c:List (List (Int×Int×Int×Int))) {r:Bool} (h:A4 c=some r):HC Try.prog 17 [] [.sl (.sl Y4) c] [] (.bool r):=by
 unfold A4 at h
 refine zH Try.func17 [.tmp 2] 59 ?_
 refine zo ?_
 refine zB [(0,.sl (.sl Y4) c)] [] ?_
 refine AW.seq ?_
 refine zo ?_
 refine zS 2 [(0,.sl (.sl Y4) c),(6,.ii (c.length:Int))] [] ?_
 obtain ⟨v0,hv1,h⟩:=zw h
 refine zC [] [] (q4 1 (c.length:Int) 4 hv1) [(0,.sl (.sl Y4) c),(7,.bool v0)] [] ?_
 refine zB [(0,.sl (.sl Y4) c),(8,.bool (!v0))] [] ?_
 refine zQ h (fun hb2 h=>?_) (fun hb2 h=>?_)
 ·refine zo ?_
  refine zB [(2,.bool false)] [] ?_
  refine zr ?_
  obtain rfl:=zj h
  exact zR [] [] []
 refine zk ?_
 refine AW.have1 (fun _:Unit=>P7=some r) (fun _=>⟨fr [],b8 [],gt⟩) (fun _ h=>?_) (fun hk_linealref08_Valid_k1=>?_)
 ·as_aux_lemma =>
   unfold P7 at h
   refine zo ?_
   refine zB [(2,.bool true)] [] ?_
   refine AW.ret ?_
   obtain rfl:=zj h
   exact zR [] [] []
 refine AW.seq ?_
 refine zo ?_
 refine zB [(0,.sl (.sl Y4) c),(3,.ii 0)] [] ?_
 refine AW.block ?_
 obtain ⟨rv7,hw3,ho4⟩:=zw h
 refine AW.loopO (x8 c) (fun st1=>⟨fr [(0,.sl (.sl Y4) c),(3,.ii st1)],b8 [],gt⟩) 0 hw3 (zL [] [] []) ?_
 as_aux_lemma =>
  intro st1 x6 h hd5
  unfold x8 at h
  refine AW.seq ?_
  refine zo ?_
  refine zB [(0,.sl (.sl Y4) c),(3,.ii st1),(12,.bool (decide (st1<(c.length:Int))))] [] ?_
  refine zQ h (fun hb8 h=>?_) (fun hb8 h=>?_)
  ·refine zk ?_
   refine AW.have1 (fun _:Unit=>K3 st1=some x6) (fun _=>⟨fr [(0,.sl (.sl Y4) c),(3,.ii st1)],b8 [],gt⟩) (fun _ h=>?_) (fun hk_linealref08_Valid_k2=>?_)
   ·as_aux_lemma =>
     unfold K3 at h
     refine AW.ops ?_
     obtain ⟨c9,h⟩:=b5.1 h
     refine zA [(0,.sl (.sl Y4) c),(3,.ii (st1+1))] [] ?_
     obtain rfl:=zj h
     exact ⟨_,rfl,zL [] [] []⟩
   refine AW.seq ?_
   refine AW.block ?_
   refine AW.seq ?_
   refine zo ?_
   obtain ⟨c10,h⟩:=b5.1 h
   obtain ⟨c11,h⟩:=b5.1 h
   refine zS 5 [(0,.sl (.sl Y4) c),(3,.ii st1),(19,.ii ((c.getD st1.toNat []).length:Int))] [] ?_
   obtain ⟨v0_2,hv12,h⟩:=zw h
   refine zC [] [] (q4 1 ((c.getD st1.toNat []).length:Int) 8 hv12) [(0,.sl (.sl Y4) c),(3,.ii st1),(20,.bool v0_2)] [] ?_
   refine zB [(0,.sl (.sl Y4) c),(3,.ii st1),(21,.bool (!v0_2))] [] ?_
   refine zQ h (fun hb13 h=>?_) (fun hb13 h=>?_)
   ·refine zo ?_
    refine zB [(2,.bool false)] [] ?_
    refine zr ?_
    refine d7 ?_
    refine d6 ?_
    obtain rfl:=zj h
    try rw [← hd5 _ rfl] at ho4
    have h:=ho4
    try simp only at h
    refine d6 ?_
    refine d7 ?_
    refine d6 ?_
    obtain rfl:=zj h
    exact zR [] [] []
   refine zk ?_
   refine AW.have1 (fun _:Unit=>K1 c st1=some x6) (fun _=>⟨fr [(0,.sl (.sl Y4) c),(3,.ii st1)],b8 [],gt⟩) (fun _ h=>?_) (fun hk_linealref08_Valid_k3=>?_)
   ·as_aux_lemma =>
     unfold K1 at h
     refine AW.seq ?_
     refine AW.draw m8 l6 [] [] (by decide) (n6 (by kernel_rfl)) ?_
     as_aux_lemma =>
      obtain ⟨c15,h⟩:=b5.1 h
      obtain ⟨c16,h⟩:=b5.1 h
      refine b9 6 (fun K' hK14=>?_)
      try dsimp only [y1,y2,y3,y4]
      simp only [go_sem,hb2,hb8,hb13]
      repeat with_reducible refine zN ?_
      refine hK14 _ ?_
      as_aux_lemma =>
       obtain ⟨c18,h⟩:=b5.1 h
       obtain ⟨c19,h⟩:=b5.1 h
       obtain ⟨c20,h⟩:=b5.1 h
       obtain ⟨c21,h⟩:=b5.1 h
       obtain ⟨c22,h⟩:=b5.1 h
       refine b9 6 (fun K' hK17=>?_)
       try dsimp only [y1,y2,y3,y4]
       simp only [go_sem,hb2,hb8,hb13]
       repeat with_reducible refine zN ?_
       refine hK17 _ ?_
       as_aux_lemma =>
        refine b9 2 (fun K' hK23=>?_)
        try dsimp only [y1,y2,y3,y4]
        simp only [go_sem,hb2,hb8,hb13]
        repeat with_reducible refine zN ?_
        refine hK23 _ ?_
        refine g6 ?_
        refine f7 ?_
        refine zV [(0,.sl (.sl Y4) c),(3,.ii st1),(58,.bool (!(decide (((c.getD st1.toNat []).getD (((c.getD st1.toNat []).length:Int) - 1).toNat (0,0,0,0)).1=7))))] [] gt ?_
        as_aux_lemma =>
         refine zQ h (fun hb24 h=>?_) (fun hb24 h=>?_)
         ·refine zo ?_
          refine zB [(2,.bool false)] [] ?_
          refine AW.ret ?_
          refine d7 ?_
          refine d6 ?_
          obtain rfl:=zj h
          try rw [← hd5 _ rfl] at ho4
          have h:=ho4
          try simp only at h
          refine d6 ?_
          refine d7 ?_
          refine d6 ?_
          obtain rfl:=zj h
          exact zR [] [] []
         refine zm ?_
         refine f7 ?_
         exact AW.weaken (zL [] [] []) (hk_linealref08_Valid_k2 () h)
   refine AW.seq ?_
   refine zo ?_
   refine zB [(0,.sl (.sl Y4) c),(3,.ii st1),(4,.ii 0)] [] ?_
   refine AW.block ?_
   obtain ⟨rv29,hw25,ho26⟩:=zw h
   refine AW.loopO (w9 c st1) (fun st2=>⟨fr [(0,.sl (.sl Y4) c),(3,.ii st1),(4,.ii st2)],b8 [],gt⟩) 0 hw25 (zL [] [] []) ?_
   as_aux_lemma =>
    intro st2 x28 h hd27
    unfold w9 at h
    refine AW.seq ?_
    refine zo ?_
    obtain ⟨c30,h⟩:=b5.1 h
    obtain ⟨c31,h⟩:=b5.1 h
    refine zS 5 [(0,.sl (.sl Y4) c),(3,.ii st1),(4,.ii st2),(22,.ii st2),(26,.sl Y4 (c.getD st1.toNat []))] [] ?_
    refine zB [(0,.sl (.sl Y4) c),(3,.ii st1),(4,.ii st2),(28,.bool (decide (st2<((c.getD st1.toNat []).length:Int))))] [] ?_
    refine zQ h (fun hb32 h=>?_) (fun hb32 h=>?_)
    ·refine zk ?_
     refine AW.seq ?_
     refine AW.block ?_
     refine AW.seq ?_
     refine AW.draw m8 l6 [] [] (by decide) (n6 (by kernel_rfl)) ?_
     as_aux_lemma =>
      obtain ⟨c34,h⟩:=b5.1 h
      obtain ⟨c35,h⟩:=b5.1 h
      obtain ⟨c36,h⟩:=b5.1 h
      obtain ⟨c37,h⟩:=b5.1 h
      refine b9 6 (fun K' hK33=>?_)
      try dsimp only [y1,y2,y3,y4]
      simp only [go_sem,hb2,hb8,hb13,hb32]
      repeat with_reducible refine zN ?_
      refine hK33 _ ?_
      as_aux_lemma =>
       obtain ⟨c39,h⟩:=b5.1 h
       obtain ⟨c40,h⟩:=b5.1 h
       refine b9 6 (fun K' hK38=>?_)
       try dsimp only [y1,y2,y3,y4]
       simp only [go_sem,hb2,hb8,hb13,hb32]
       repeat with_reducible refine zN ?_
       refine hK38 _ ?_
       as_aux_lemma =>
        obtain ⟨v0_3,hv41,h⟩:=zw h
        refine P2.call (by first|trivial|rfl) rfl rfl rfl (fun _ h=>h) [] [] (a2p ((c.getD st1.toNat []).getD st2.toNat (0,0,0,0)) ((c.getD st1.toNat []).length:Int) hv41) rfl (by (simp only [go_sem,hb2,hb8,hb13,hb32])<;>(with_reducible and_intros)<;>first|assumption|rfl|omega|(unfold maxLen; omega)) (by (simp only [go_sem,hb2,hb8,hb13,hb32])<;>(with_reducible and_intros)<;>first|assumption|rfl|omega|(unfold maxLen; omega)) rfl ?_
        refine b9 1 (fun K' hK42=>?_)
        try dsimp only [y1,y2,y3,y4]
        simp only [go_sem,hb2,hb8,hb13,hb32]
        repeat with_reducible refine zN ?_
        refine hK42 _ ?_
        refine g6 ?_
        refine f7 ?_
        refine zV [(0,.sl (.sl Y4) c),(3,.ii st1),(4,.ii st2),(44,.bool (!v0_3))] [] gt ?_
        as_aux_lemma =>
         refine zQ h (fun hb43 h=>?_) (fun hb43 h=>?_)
         ·refine zo ?_
          refine zB [(2,.bool false)] [] ?_
          refine AW.ret ?_
          refine d7 ?_
          refine d6 ?_
          obtain rfl:=zj h
          try rw [← hd27 _ rfl] at ho26
          have h:=ho26
          try simp only at h
          refine d6 ?_
          refine d7 ?_
          refine d6 ?_
          refine d7 ?_
          refine d6 ?_
          obtain rfl:=zj h
          try rw [← hd5 _ rfl] at ho4
          have h:=ho4
          try simp only at h
          refine d6 ?_
          refine d7 ?_
          refine d6 ?_
          obtain rfl:=zj h
          exact zR [] [] []
         refine zm ?_
         refine f7 ?_
         refine AW.ops ?_
         obtain ⟨c44,h⟩:=b5.1 h
         refine zA [(0,.sl (.sl Y4) c),(3,.ii st1),(4,.ii (st2+1))] [] ?_
         obtain rfl:=zj h
         exact ⟨_,rfl,zL [] [] []⟩
    refine AW.exit ?_
    refine g7 ?_
    obtain rfl:=zj h
    try rw [← hd27 _ rfl] at ho26
    have h:=ho26
    try simp only at h
    refine g7 ?_
    refine l9 ?_
    refine f7 ?_
    exact AW.weaken (zL [] [] []) (hk_linealref08_Valid_k3 () h)
  refine AW.exit ?_
  refine g7 ?_
  obtain rfl:=zj h
  try rw [← hd5 _ rfl] at ho4
  have h:=ho4
  try simp only at h
  refine g7 ?_
  refine l9 ?_
  refine f7 ?_
  exact AW.weaken (zL [] [] []) (hk_linealref08_Valid_k1 () h)
theorem a2F (c:List (List (Int×Int×Int×Int))) (use:List (List Int)) {r:Bool} (h:E6 c use=some r):HC Try.prog 48 [] [.sl (.sl Y4) c,.sl (.sl .i) use] [] (.bool r):=by
 unfold E6 at h
 refine zH Try.func48 [.tmp 4] 44 ?_
 refine zo ?_
 refine zB [(0,.sl (.sl Y4) c),(1,.sl (.sl .i) use)] [] ?_
 refine AW.seq ?_
 refine zo ?_
 refine zS 2 [(0,.sl (.sl Y4) c),(1,.sl (.sl .i) use),(8,.ii (use.length:Int))] [] ?_
 obtain ⟨v0,hv1,h⟩:=zw h
 refine zC [] [] (q4 1 (use.length:Int) 2 hv1) [(0,.sl (.sl Y4) c),(1,.sl (.sl .i) use),(9,.bool v0)] [] ?_
 refine zB [(0,.sl (.sl Y4) c),(1,.sl (.sl .i) use),(10,.bool (!v0))] [] ?_
 refine zQ h (fun hb2 h=>?_) (fun hb2 h=>?_)
 ·refine zo ?_
  refine zB [(4,.bool false)] [] ?_
  refine zr ?_
  obtain rfl:=zj h
  exact zR [] [] []
 refine zk ?_
 refine AW.have1 (fun _:Unit=>P8=some r) (fun _=>⟨fr [],b8 [],gt⟩) (fun _ h=>?_) (fun hk_linealref08_IsUse_k1=>?_)
 ·as_aux_lemma =>
   unfold P8 at h
   refine zo ?_
   refine zB [(4,.bool true)] [] ?_
   refine AW.ret ?_
   obtain rfl:=zj h
   exact zR [] [] []
 refine AW.seq ?_
 refine zo ?_
 refine zB [(0,.sl (.sl Y4) c),(1,.sl (.sl .i) use),(5,.ii 0)] [] ?_
 refine AW.block ?_
 obtain ⟨rv7,hw3,ho4⟩:=zw h
 refine AW.loopO (y5 c use) (fun st1=>⟨fr [(0,.sl (.sl Y4) c),(1,.sl (.sl .i) use),(5,.ii st1)],b8 [],gt⟩) 0 hw3 (zL [] [] []) ?_
 as_aux_lemma =>
  intro st1 x6 h hd5
  unfold y5 at h
  refine AW.seq ?_
  refine zo ?_
  refine zB [(0,.sl (.sl Y4) c),(1,.sl (.sl .i) use),(5,.ii st1),(14,.bool (decide (st1<(use.length:Int))))] [] ?_
  refine zQ h (fun hb8 h=>?_) (fun hb8 h=>?_)
  ·refine zk ?_
   refine AW.have1 (fun _:Unit=>K4 st1=some x6) (fun _=>⟨fr [(0,.sl (.sl Y4) c),(1,.sl (.sl .i) use),(5,.ii st1)],b8 [],gt⟩) (fun _ h=>?_) (fun hk_linealref08_IsUse_k2=>?_)
   ·as_aux_lemma =>
     unfold K4 at h
     refine AW.ops ?_
     obtain ⟨c9,h⟩:=b5.1 h
     refine zA [(0,.sl (.sl Y4) c),(1,.sl (.sl .i) use),(5,.ii (st1+1))] [] ?_
     obtain rfl:=zj h
     exact ⟨_,rfl,zL [] [] []⟩
   refine AW.seq ?_
   refine AW.block ?_
   refine AW.seq ?_
   refine zo ?_
   obtain ⟨c10,h⟩:=b5.1 h
   obtain ⟨c11,h⟩:=b5.1 h
   refine zS 5 [(0,.sl (.sl Y4) c),(1,.sl (.sl .i) use),(5,.ii st1),(21,.ii ((use.getD st1.toNat []).length:Int))] [] ?_
   refine zB [(0,.sl (.sl Y4) c),(1,.sl (.sl .i) use),(5,.ii st1),(22,.bool (decide (3<((use.getD st1.toNat []).length:Int))))] [] ?_
   refine zQ h (fun hb12 h=>?_) (fun hb12 h=>?_)
   ·refine zo ?_
    refine zB [(4,.bool false)] [] ?_
    refine zr ?_
    refine d7 ?_
    refine d6 ?_
    obtain rfl:=zj h
    try rw [← hd5 _ rfl] at ho4
    have h:=ho4
    try simp only at h
    refine d6 ?_
    refine d7 ?_
    refine d6 ?_
    obtain rfl:=zj h
    exact zR [] [] []
   refine zk ?_
   refine zo ?_
   refine zB [(0,.sl (.sl Y4) c),(1,.sl (.sl .i) use),(5,.ii st1),(6,.ii 0)] [] ?_
   refine AW.block ?_
   obtain ⟨rv17,hw13,ho14⟩:=zw h
   refine AW.loopO (y0 c use st1) (fun st2=>⟨fr [(0,.sl (.sl Y4) c),(1,.sl (.sl .i) use),(5,.ii st1),(6,.ii st2)],b8 [],gt⟩) 0 hw13 (zL [] [] []) ?_
   as_aux_lemma =>
    intro st2 x16 h hd15
    unfold y0 at h
    refine AW.seq ?_
    refine zo ?_
    obtain ⟨c18,h⟩:=b5.1 h
    obtain ⟨c19,h⟩:=b5.1 h
    refine zS 5 [(0,.sl (.sl Y4) c),(1,.sl (.sl .i) use),(5,.ii st1),(6,.ii st2),(23,.ii st2),(27,.sl .i (use.getD st1.toNat []))] [] ?_
    refine zB [(0,.sl (.sl Y4) c),(1,.sl (.sl .i) use),(5,.ii st1),(6,.ii st2),(29,.bool (decide (st2<((use.getD st1.toNat []).length:Int))))] [] ?_
    refine zQ h (fun hb20 h=>?_) (fun hb20 h=>?_)
    ·refine zk ?_
     refine AW.seq ?_
     refine AW.block ?_
     refine zo ?_
     obtain ⟨c21,h⟩:=b5.1 h
     obtain ⟨c22,h⟩:=b5.1 h
     refine zS 5 [(0,.sl (.sl Y4) c),(1,.sl (.sl .i) use),(5,.ii st1),(6,.ii st2),(35,.sl .i (use.getD st1.toNat [])),(36,.ii st2)] [] ?_
     obtain ⟨c23,h⟩:=b5.1 h
     obtain ⟨c24,h⟩:=b5.1 h
     obtain ⟨c25,h⟩:=b5.1 h
     refine zS 5 [(0,.sl (.sl Y4) c),(1,.sl (.sl .i) use),(5,.ii st1),(6,.ii st2),(38,.ii ((use.getD st1.toNat []).getD st2.toNat 0)),(41,.ii ((c.length:Int) - 1))] [] ?_
     obtain ⟨v0_2,hv26,h⟩:=zw h
     refine zC [] [] (q4 0 ((use.getD st1.toNat []).getD st2.toNat 0) ((c.length:Int) - 1) hv26) [(0,.sl (.sl Y4) c),(1,.sl (.sl .i) use),(5,.ii st1),(6,.ii st2),(42,.bool v0_2)] [] ?_
     refine zB [(0,.sl (.sl Y4) c),(1,.sl (.sl .i) use),(5,.ii st1),(6,.ii st2),(43,.bool (!v0_2))] [] ?_
     refine zQ h (fun hb27 h=>?_) (fun hb27 h=>?_)
     ·refine zo ?_
      refine zB [(4,.bool false)] [] ?_
      refine AW.ret ?_
      refine d7 ?_
      refine d6 ?_
      obtain rfl:=zj h
      try rw [← hd15 _ rfl] at ho14
      have h:=ho14
      try simp only at h
      refine d6 ?_
      refine d7 ?_
      refine d7 ?_
      refine d6 ?_
      obtain rfl:=zj h
      try rw [← hd5 _ rfl] at ho4
      have h:=ho4
      try simp only at h
      refine d6 ?_
      refine d7 ?_
      refine d6 ?_
      obtain rfl:=zj h
      exact zR [] [] []
     refine zm ?_
     refine f7 ?_
     refine AW.ops ?_
     obtain ⟨c28,h⟩:=b5.1 h
     refine zA [(0,.sl (.sl Y4) c),(1,.sl (.sl .i) use),(5,.ii st1),(6,.ii (st2+1))] [] ?_
     obtain rfl:=zj h
     exact ⟨_,rfl,zL [] [] []⟩
    refine AW.exit ?_
    refine g7 ?_
    obtain rfl:=zj h
    try rw [← hd15 _ rfl] at ho14
    have h:=ho14
    try simp only at h
    refine g7 ?_
    refine l9 ?_
    refine i6 ?_
    refine f7 ?_
    exact AW.weaken (zL [] [] []) (hk_linealref08_IsUse_k2 () h)
  refine AW.exit ?_
  refine g7 ?_
  obtain rfl:=zj h
  try rw [← hd5 _ rfl] at ho4
  have h:=ho4
  try simp only at h
  refine g7 ?_
  refine l9 ?_
  refine f7 ?_
  exact AW.weaken (zL [] [] []) (hk_linealref08_IsUse_k1 () h)
theorem a2G (c:List (List (Int×Int×Int×Int))) (use:List (List Int)) (n5:List Int) {r:Unit} (h:E7 c use n5=some r):HC Try.prog 82 [] [.sl (.sl Y4) c,.sl (.sl .i) use,.sl .i n5] [(2000,.box 97 [.sl (.sl Y4) c,.sl (.sl .i) use,.sl .i n5,.own 2001,.ii 0,.ii 0,.ii 0,.ii 0,.cv (.slice none 0 0),.cv (.slice none 0 0)]),(2001,.arr 161 Y2 (List.replicate use.length ((0,0,false,0,0,0,0,0):Int×Int×Bool×Int×Int×Int×Int×Int)))] (.bp 2000 0):=by
 unfold E7 at h
 refine zH Try.func82 [.tmp 6] 15 ?_
 refine zo ?_
 refine zB [(0,.sl (.sl Y4) c),(1,.sl (.sl .i) use),(2,.sl .i n5)] [] ?_
 refine zo ?_
 refine zS 5 [(7,.sl (.sl Y4) c),(8,.sl (.sl .i) use),(9,.sl .i n5),(11,.ii (use.length:Int))] [] ?_
 obtain ⟨c1,h⟩:=b5.1 h
 refine zB [(6,.bp 14 0)] [(12,.arr 161 Y2 (List.replicate use.length ((0,0,false,0,0,0,0,0):Int×Int×Bool×Int×Int×Int×Int×Int))),(14,.box 97 [.sl (.sl Y4) c,.sl (.sl .i) use,.sl .i n5,.own 12,.ii 0,.ii 0,.ii 0,.ii 0,.cv (.slice none 0 0),.cv (.slice none 0 0)])] ?_
 refine AW.ret ?_
 obtain rfl:=zj h
 exact zR [] [] [(2000,14),(2001,12)]
theorem Z5 (t:Int) (p:List (List (Int×Int×Int×Int))) (p_2:List (List Int)) (p_3:List Int) (p_4:Int) (p_5:Int) (p_6:Int) (p_7:Int) (p_8:List (Int×Int×Bool×Int×Int×Int×Int×Int)) (p_9:ZH) (p_10:List Int) {r:Bool} (h:o7 t p p_2 p_3 p_4 p_5 p_6 p_7 p_8 p_9 p_10=some r):HC Try.prog 59 [(1000,.box 97 [.sl (.sl Y4) p,.sl (.sl .i) p_2,.sl .i p_3,.own 1001,.ii p_4,.ii p_5,.ii p_6,.ii p_7,.own 1002,.own 1003]),(1001,.arr 161 Y2 p_8),(1002,.arr 68 Y0 p_9),(1003,.arr 3 .i p_10)] [.bp 1000 0,.ii t] [(1000,.box 97 [.sl (.sl Y4) p,.sl (.sl .i) p_2,.sl .i p_3,.own 1001,.ii p_4,.ii p_5,.ii p_6,.ii p_7,.own 1002,.own 1003]),(1001,.arr 161 Y2 p_8),(1002,.arr 68 Y0 p_9),(1003,.arr 3 .i p_10)] (.bool r):=by
 unfold o7 at h
 refine zH Try.func59 [.tmp 4] 32 ?_
 refine zo ?_
 refine zB [(0,.bp 1000 0),(1,.ii t)] [(1000,.box 97 [.sl (.sl Y4) p,.sl (.sl .i) p_2,.sl .i p_3,.own 1001,.ii p_4,.ii p_5,.ii p_6,.ii p_7,.own 1002,.own 1003]),(1001,.arr 161 Y2 p_8),(1002,.arr 68 Y0 p_9),(1003,.arr 3 .i p_10)] ?_
 refine AW.seq ?_
 refine AW.draw m8 l6 [] [] (by decide) (n6 (by kernel_rfl)) ?_
 as_aux_lemma =>
  obtain ⟨c2,h⟩:=b5.1 h
  obtain ⟨c3,h⟩:=b5.1 h
  refine b9 6 (fun K' hK1=>?_)
  try dsimp only [y1,y2,y3,y4]
  simp only [go_sem]
  repeat with_reducible refine zN ?_
  refine hK1 _ ?_
  as_aux_lemma =>
   refine b9 3 (fun K' hK4=>?_)
   try dsimp only [y1,y2,y3,y4]
   simp only [go_sem]
   repeat with_reducible refine zN ?_
   refine hK4 _ ?_
   as_aux_lemma =>
    rcases zI h with ⟨hb5,h⟩|⟨hb5,h⟩
    ·simp only [hb5]
     as_aux_lemma =>
      refine b9 4 (fun K' hK6=>?_)
      try dsimp only [y1,y2,y3,y4]
      simp only [go_sem,hb5]
      repeat with_reducible refine zN ?_
      refine hK6 _ ?_
      as_aux_lemma =>
       refine b9 4 (fun K' hK7=>?_)
       try dsimp only [y1,y2,y3,y4]
       simp only [go_sem,hb5]
       repeat with_reducible refine zN ?_
       refine hK7 _ ?_
       as_aux_lemma =>
        refine b9 4 (fun K' hK8=>?_)
        try dsimp only [y1,y2,y3,y4]
        simp only [go_sem,hb5]
        repeat with_reducible refine zN ?_
        refine hK8 _ ?_
        as_aux_lemma =>
         refine b9 4 (fun K' hK9=>?_)
         try dsimp only [y1,y2,y3,y4]
         simp only [go_sem,hb5]
         repeat with_reducible refine zN ?_
         refine hK9 _ ?_
         as_aux_lemma =>
          refine b9 3 (fun K' hK10=>?_)
          try dsimp only [y1,y2,y3,y4]
          simp only [go_sem,hb5]
          repeat with_reducible refine zN ?_
          refine hK10 _ ?_
          refine g6 ?_
          refine f7 ?_
          refine zV [(4,.bool true)] [(1000,.box 97 [.sl (.sl Y4) p,.sl (.sl .i) p_2,.sl .i p_3,.own 1001,.ii p_4,.ii p_5,.ii p_6,.ii p_7,.own 1002,.own 1003]),(1001,.arr 161 Y2 p_8),(1002,.arr 68 Y0 p_9),(1003,.arr 3 .i p_10)] gt ?_
          as_aux_lemma =>
           refine AW.ret ?_
           obtain rfl:=zj h
           exact zR [] [] []
    simp only [hb5]
    as_aux_lemma =>
     obtain ⟨c12,h⟩:=b5.1 h
     obtain ⟨c13,h⟩:=b5.1 h
     refine b9 6 (fun K' hK11=>?_)
     try dsimp only [y1,y2,y3,y4]
     simp only [go_sem,hb5]
     repeat with_reducible refine zN ?_
     refine hK11 _ ?_
     as_aux_lemma =>
      refine b9 6 (fun K' hK14=>?_)
      try dsimp only [y1,y2,y3,y4]
      simp only [go_sem,hb5]
      repeat with_reducible refine zN ?_
      refine hK14 _ ?_
      as_aux_lemma =>
       obtain ⟨c16,h⟩:=b5.1 h
       obtain ⟨c17,h⟩:=b5.1 h
       refine b9 6 (fun K' hK15=>?_)
       try dsimp only [y1,y2,y3,y4]
       simp only [go_sem,hb5]
       repeat with_reducible refine zN ?_
       refine hK15 _ ?_
       as_aux_lemma =>
        refine b9 1 (fun K' hK18=>?_)
        try dsimp only [y1,y2,y3,y4]
        simp only [go_sem,hb5]
        repeat with_reducible refine zN ?_
        refine hK18 _ ?_
        refine g6 ?_
        refine f7 ?_
        refine zV [(4,.bool (decide ((p_8.getD t.toNat (0,0,false,0,0,0,0,0)).1<((p_2.getD t.toNat []).length:Int))))] [(1000,.box 97 [.sl (.sl Y4) p,.sl (.sl .i) p_2,.sl .i p_3,.own 1001,.ii p_4,.ii p_5,.ii p_6,.ii p_7,.own 1002,.own 1003]),(1001,.arr 161 Y2 p_8),(1002,.arr 68 Y0 p_9),(1003,.arr 3 .i p_10)] gt ?_
        as_aux_lemma =>
         refine AW.ret ?_
         obtain rfl:=zj h
         exact zR [] [] []
end Go.Proofs.Ytenchhmcjmjlbaa
