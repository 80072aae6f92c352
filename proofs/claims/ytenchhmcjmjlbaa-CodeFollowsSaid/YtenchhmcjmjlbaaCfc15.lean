import Derived.Test.YtenchhmcjmjlbaaCkp
import Derived.Test.YtenchhmcjmjlbaaShk
import Derived.Test.YtenchhmcjmjlbaaCfc1
import Derived.Test.YtenchhmcjmjlbaaCfc12
import Derived.Test.YtenchhmcjmjlbaaCfc13
import Derived.Test.YtenchhmcjmjlbaaCfc14
import Derived.Test.YtenchhmcjmjlbaaCfc5
namespace Go.Proofs.Ytenchhmcjmjlbaa
open Go.RowKit
set_option linter.unusedSimpArgs false
set_option linter.unusedVariables false
set_option linter.constructorNameAsVariable false
set_option maxRecDepth 100000
set_option maxHeartbeats 40000000
theorem a0K (x0:(Int×Int×(List (List Int))×(List (List Int)))×(List (List (Int×Int×Int×Int)))×(List (List Int))) (word:List Int) (cells:Int×Int) {r:Bool} (h:E8 x0 word cells=some r):HC Try.prog 6 [] [.agg [.ii x0.1.1,.ii x0.1.2.1,.sl (.sl .i) x0.1.2.2.1,.sl (.sl .i) x0.1.2.2.2,.sl (.sl Y4) x0.2.1,.sl (.sl .i) x0.2.2],.sl .i word,.agg [.ii cells.1,.ii cells.2]] [] (.bool r):=by
 unfold E8 at h
 refine zH Try.func6 [.tmp 6] 82 ?_
 refine zo ?_
 refine zB [(1,.sl .i word),(3,.bp 3 0),(5,.bp 5 0)] [(3,.box 27 [.ii x0.1.1,.ii x0.1.2.1,.sl (.sl .i) x0.1.2.2.1,.sl (.sl .i) x0.1.2.2.2,.sl (.sl Y4) x0.2.1,.sl (.sl .i) x0.2.2]),(5,.box 51 [.ii cells.1,.ii cells.2])] ?_
 refine AW.seq ?_
 refine zo ?_
 refine zS 1 [(1,.sl .i word),(3,.bp 3 0),(5,.bp 5 0),(15,.agg [.ii x0.1.1,.ii x0.1.2.1,.sl (.sl .i) x0.1.2.2.1,.sl (.sl .i) x0.1.2.2.2,.sl (.sl Y4) x0.2.1,.sl (.sl .i) x0.2.2])] [(3,.box 27 [.ii x0.1.1,.ii x0.1.2.1,.sl (.sl .i) x0.1.2.2.1,.sl (.sl .i) x0.1.2.2.2,.sl (.sl Y4) x0.2.1,.sl (.sl .i) x0.2.2]),(5,.box 51 [.ii cells.1,.ii cells.2])] ?_
 obtain ⟨v0,hv1,h⟩:=zw h
 refine zC [] [] (a2I x0 hv1) [(1,.sl .i word),(3,.bp 3 0),(5,.bp 5 0),(16,.bool v0)] [(3,.box 27 [.ii x0.1.1,.ii x0.1.2.1,.sl (.sl .i) x0.1.2.2.1,.sl (.sl .i) x0.1.2.2.2,.sl (.sl Y4) x0.2.1,.sl (.sl .i) x0.2.2]),(5,.box 51 [.ii cells.1,.ii cells.2])] ?_
 refine zS 1 [(1,.sl .i word),(3,.bp 3 0),(5,.bp 5 0),(17,.bool v0)] [(3,.box 27 [.ii x0.1.1,.ii x0.1.2.1,.sl (.sl .i) x0.1.2.2.1,.sl (.sl .i) x0.1.2.2.2,.sl (.sl Y4) x0.2.1,.sl (.sl .i) x0.2.2]),(5,.box 51 [.ii cells.1,.ii cells.2])] ?_
 rcases zI h with ⟨hb2,h⟩|⟨hb2,h⟩
 ·refine zB [(1,.sl .i word),(3,.bp 3 0),(5,.bp 5 0),(21,.bool true)] [(3,.box 27 [.ii x0.1.1,.ii x0.1.2.1,.sl (.sl .i) x0.1.2.2.1,.sl (.sl .i) x0.1.2.2.2,.sl (.sl Y4) x0.2.1,.sl (.sl .i) x0.2.2]),(5,.box 51 [.ii cells.1,.ii cells.2])] ?_
  refine AW.cond (b:=true) rfl (fun _=>?_) (fun hb3=>by cases hb3)
  refine zo ?_
  obtain ⟨v0_2,hv4,h⟩:=zw h
  refine zC [] [] (S0 hv4) [(22,.bool v0_2)] [] ?_
  refine zB [(6,.bool v0_2)] [] ?_
  refine zr ?_
  obtain rfl:=zj h
  exact zR [] [] []
 refine zB [(1,.sl .i word),(3,.bp 3 0),(5,.bp 5 0),(21,.bool (decide (60<(word.length:Int))))] [(3,.box 27 [.ii x0.1.1,.ii x0.1.2.1,.sl (.sl .i) x0.1.2.2.1,.sl (.sl .i) x0.1.2.2.2,.sl (.sl Y4) x0.2.1,.sl (.sl .i) x0.2.2]),(5,.box 51 [.ii cells.1,.ii cells.2])] ?_
 refine zQ h (fun hb5 h=>?_) (fun hb5 h=>?_)
 ·refine zo ?_
  obtain ⟨v0_3,hv6,h⟩:=zw h
  refine zC [] [] (S0 hv6) [(22,.bool v0_3)] [] ?_
  refine zB [(6,.bool v0_3)] [] ?_
  refine zr ?_
  obtain rfl:=zj h
  exact zR [] [] []
 refine zk ?_
 refine zo ?_
 refine zS 5 [(1,.sl .i word),(3,.bp 3 0),(5,.bp 5 0),(25,.agg [.ii x0.1.1,.ii x0.1.2.1,.sl (.sl .i) x0.1.2.2.1,.sl (.sl .i) x0.1.2.2.2]),(27,.sl (.sl Y4) x0.2.1),(28,.sl .i word)] [(3,.box 27 [.ii x0.1.1,.ii x0.1.2.1,.sl (.sl .i) x0.1.2.2.1,.sl (.sl .i) x0.1.2.2.2,.sl (.sl Y4) x0.2.1,.sl (.sl .i) x0.2.2]),(5,.box 51 [.ii cells.1,.ii cells.2])] ?_
 obtain ⟨v0_4,hv7,h⟩:=zw h
 refine zC [] [] (a5t x0.1 x0.2.1 word hv7) [(1,.sl .i word),(3,.bp 3 0),(5,.bp 5 0),(29,.tup [.bool v0_4.1,.ii v0_4.2])] [(3,.box 27 [.ii x0.1.1,.ii x0.1.2.1,.sl (.sl .i) x0.1.2.2.1,.sl (.sl .i) x0.1.2.2.2,.sl (.sl Y4) x0.2.1,.sl (.sl .i) x0.2.2]),(5,.box 51 [.ii cells.1,.ii cells.2])] ?_
 refine zB [(1,.sl .i word),(3,.bp 3 0),(5,.bp 5 0),(7,.bool v0_4.1),(8,.ii v0_4.2)] [(3,.box 27 [.ii x0.1.1,.ii x0.1.2.1,.sl (.sl .i) x0.1.2.2.1,.sl (.sl .i) x0.1.2.2.2,.sl (.sl Y4) x0.2.1,.sl (.sl .i) x0.2.2]),(5,.box 51 [.ii cells.1,.ii cells.2])] ?_
 refine zo ?_
 refine zS 5 [(3,.bp 3 0),(5,.bp 5 0),(7,.bool v0_4.1),(8,.ii v0_4.2),(34,.agg [.ii x0.1.1,.ii x0.1.2.1,.sl (.sl .i) x0.1.2.2.1,.sl (.sl .i) x0.1.2.2.2]),(36,.sl (.sl Y4) x0.2.1),(37,.sl .i word)] [(3,.box 27 [.ii x0.1.1,.ii x0.1.2.1,.sl (.sl .i) x0.1.2.2.1,.sl (.sl .i) x0.1.2.2.2,.sl (.sl Y4) x0.2.1,.sl (.sl .i) x0.2.2]),(5,.box 51 [.ii cells.1,.ii cells.2])] ?_
 obtain ⟨v0_5,hv8,h⟩:=zw h
 refine zC [] [] (a13 x0.1 x0.2.1 word hv8) [(3,.bp 3 0),(5,.bp 5 0),(7,.bool v0_4.1),(8,.ii v0_4.2),(38,.tup [.bool v0_5.1,.ii v0_5.2])] [(3,.box 27 [.ii x0.1.1,.ii x0.1.2.1,.sl (.sl .i) x0.1.2.2.1,.sl (.sl .i) x0.1.2.2.2,.sl (.sl Y4) x0.2.1,.sl (.sl .i) x0.2.2]),(5,.box 51 [.ii cells.1,.ii cells.2])] ?_
 refine zB [(3,.bp 3 0),(5,.bp 5 0),(7,.bool v0_4.1),(8,.ii v0_4.2),(9,.bool v0_5.1),(10,.ii v0_5.2)] [(3,.box 27 [.ii x0.1.1,.ii x0.1.2.1,.sl (.sl .i) x0.1.2.2.1,.sl (.sl .i) x0.1.2.2.2,.sl (.sl Y4) x0.2.1,.sl (.sl .i) x0.2.2]),(5,.box 51 [.ii cells.1,.ii cells.2])] ?_
 refine zo ?_
 refine zS 5 [(3,.bp 3 0),(5,.bp 5 0),(7,.bool v0_4.1),(8,.ii v0_4.2),(9,.bool v0_5.1),(10,.ii v0_5.2),(43,.sl (.sl Y4) x0.2.1),(45,.ii cells.1),(46,.bp 5 1)] [(3,.box 27 [.ii x0.1.1,.ii x0.1.2.1,.sl (.sl .i) x0.1.2.2.1,.sl (.sl .i) x0.1.2.2.2,.sl (.sl Y4) x0.2.1,.sl (.sl .i) x0.2.2]),(5,.box 51 [.ii cells.1,.ii cells.2])] ?_
 refine zS 1 [(3,.bp 3 0),(5,.bp 5 0),(7,.bool v0_4.1),(8,.ii v0_4.2),(9,.bool v0_5.1),(10,.ii v0_5.2),(43,.sl (.sl Y4) x0.2.1),(45,.ii cells.1),(47,.ii cells.2)] [(3,.box 27 [.ii x0.1.1,.ii x0.1.2.1,.sl (.sl .i) x0.1.2.2.1,.sl (.sl .i) x0.1.2.2.2,.sl (.sl Y4) x0.2.1,.sl (.sl .i) x0.2.2]),(5,.box 51 [.ii cells.1,.ii cells.2])] ?_
 obtain ⟨v0_6,hv9,h⟩:=zw h
 refine zC [] [] (a5s x0.2.1 cells.1 cells.2 hv9) [(3,.bp 3 0),(5,.bp 5 0),(7,.bool v0_4.1),(8,.ii v0_4.2),(9,.bool v0_5.1),(10,.ii v0_5.2),(48,.tup [.own 58000,.ii v0_6.2])] [(3,.box 27 [.ii x0.1.1,.ii x0.1.2.1,.sl (.sl .i) x0.1.2.2.1,.sl (.sl .i) x0.1.2.2.2,.sl (.sl Y4) x0.2.1,.sl (.sl .i) x0.2.2]),(5,.box 51 [.ii cells.1,.ii cells.2]),(58000,.arr 71 (.sl Y4) v0_6.1)] ?_
 refine zB [(3,.bp 3 0),(5,.bp 5 0),(7,.bool v0_4.1),(8,.ii v0_4.2),(9,.bool v0_5.1),(10,.ii v0_5.2),(11,.own 58000),(12,.ii v0_6.2)] [(3,.box 27 [.ii x0.1.1,.ii x0.1.2.1,.sl (.sl .i) x0.1.2.2.1,.sl (.sl .i) x0.1.2.2.2,.sl (.sl Y4) x0.2.1,.sl (.sl .i) x0.2.2]),(5,.box 51 [.ii cells.1,.ii cells.2]),(58000,.arr 71 (.sl Y4) v0_6.1)] ?_
 refine zo ?_
 refine zS 5 [(7,.bool v0_4.1),(8,.ii v0_4.2),(9,.bool v0_5.1),(10,.ii v0_5.2),(11,.own 58000),(12,.ii v0_6.2),(53,.sl (.sl Y4) x0.2.1),(55,.ii cells.1),(56,.bp 5 1)] [(5,.box 51 [.ii cells.1,.ii cells.2]),(58000,.arr 71 (.sl Y4) v0_6.1)] ?_
 refine zS 1 [(7,.bool v0_4.1),(8,.ii v0_4.2),(9,.bool v0_5.1),(10,.ii v0_5.2),(11,.own 58000),(12,.ii v0_6.2),(53,.sl (.sl Y4) x0.2.1),(55,.ii cells.1),(57,.ii cells.2)] [(58000,.arr 71 (.sl Y4) v0_6.1)] ?_
 obtain ⟨v0_7,hv10,h⟩:=zw h
 refine zC [] [] (a12 x0.2.1 cells.1 cells.2 hv10) [(7,.bool v0_4.1),(8,.ii v0_4.2),(9,.bool v0_5.1),(10,.ii v0_5.2),(11,.own 58000),(12,.ii v0_6.2),(58,.tup [.own 68000,.ii v0_7.2])] [(58000,.arr 71 (.sl Y4) v0_6.1),(68000,.arr 71 (.sl Y4) v0_7.1)] ?_
 refine zB [(7,.bool v0_4.1),(8,.ii v0_4.2),(9,.bool v0_5.1),(10,.ii v0_5.2),(11,.own 58000),(12,.ii v0_6.2),(13,.own 68000),(14,.ii v0_7.2)] [(58000,.arr 71 (.sl Y4) v0_6.1),(68000,.arr 71 (.sl Y4) v0_7.1)] ?_
 refine zo ?_
 refine zS 4 [(8,.ii v0_4.2),(10,.ii v0_5.2),(11,.own 58000),(12,.ii v0_6.2),(13,.own 68000),(14,.ii v0_7.2),(64,.bool ((v0_4.1==v0_5.1) != false))] [(58000,.arr 71 (.sl Y4) v0_6.1),(68000,.arr 71 (.sl Y4) v0_7.1)] ?_
 rcases zI h with ⟨hb11,h⟩|⟨hb11,h⟩
 ·refine zS 5 [(11,.own 58000),(12,.ii v0_6.2),(13,.own 68000),(14,.ii v0_7.2),(69,.bool (decide (v0_4.2=v0_5.2)))] [(58000,.arr 71 (.sl Y4) v0_6.1),(68000,.arr 71 (.sl Y4) v0_7.1)] ?_
  rcases zI h with ⟨hb12,h⟩|⟨hb12,h⟩
  ·refine zS 2 [(12,.ii v0_6.2),(14,.ii v0_7.2),(69,.bool true),(70,.own 58000),(71,.own 68000)] [(58000,.arr 71 (.sl Y4) v0_6.1),(68000,.arr 71 (.sl Y4) v0_7.1)] ?_
   obtain ⟨v0_8,hv13,h⟩:=zw h
   refine zG [58000,68000] [] (a1v v0_6.1 v0_7.1 hv13) [(12,.ii v0_6.2),(14,.ii v0_7.2),(69,.bool true),(72,.bool v0_8)] [] ?_
   refine zS 2 [(12,.ii v0_6.2),(14,.ii v0_7.2),(74,.bool v0_8)] [] ?_
   rcases zI h with ⟨hb14,h⟩|⟨hb14,h⟩
   ·refine zS 5 [(79,.bool (decide (v0_6.2=v0_7.2)))] [] ?_
    rcases zI h with ⟨hb15,h⟩|⟨hb15,h⟩
    ·refine zT [(79,.bool true)] [] gt ?_
     obtain ⟨v0_9,hv16,h⟩:=zw h
     refine zG [] [] (S0 hv16) [(79,.bool true),(80,.bool v0_9)] [] ?_
     refine zB [(6,.bool v0_9)] [] ?_
     refine AW.ret ?_
     obtain rfl:=zj h
     exact zR [] [] []
    refine zB [(6,.bool false)] [] ?_
    refine AW.ret ?_
    obtain rfl:=zj h
    exact zR [] [] []
   refine zS 5 [(79,.bool false)] [] ?_
   refine zB [(6,.bool false)] [] ?_
   refine AW.ret ?_
   obtain rfl:=zj h
   exact zR [] [] []
  refine zS 5 [(12,.ii v0_6.2),(14,.ii v0_7.2),(74,.bool false)] [] ?_
  refine zS 5 [(79,.bool false)] [] ?_
  refine zB [(6,.bool false)] [] ?_
  refine AW.ret ?_
  obtain rfl:=zj h
  exact zR [] [] []
 refine zS 5 [(11,.own 58000),(12,.ii v0_6.2),(13,.own 68000),(14,.ii v0_7.2),(69,.bool false)] [(58000,.arr 71 (.sl Y4) v0_6.1),(68000,.arr 71 (.sl Y4) v0_7.1)] ?_
 refine zS 5 [(12,.ii v0_6.2),(14,.ii v0_7.2),(74,.bool false)] [] ?_
 refine zS 5 [(79,.bool false)] [] ?_
 refine zB [(6,.bool false)] [] ?_
 refine AW.ret ?_
 obtain rfl:=zj h
 exact zR [] [] []
end Go.Proofs.Ytenchhmcjmjlbaa
