/-
  Made by wip/tool/dc.py out of the print of the program: contracts.
-/
import Derived.Test.YteclokkdgmacpaaGrp
import Derived.Test.YteclokkdgmacpaaSh7
import Derived.Test.YteclokkdgmacpaaAvd
import Derived.Test.YteclokkdgmacpaaKlc10
import Derived.Test.YteclokkdgmacpaaKlc16
import Derived.Test.YteclokkdgmacpaaKlc6
import Derived.Test.YteclokkdgmacpaaKlc7
import Derived.Test.YteclokkdgmacpaaKlc8
import Derived.Test.YteclokkdgmacpaaYa7
namespace Go.Proofs.Yteclokkdgmacpaa
open Go.RowKit
set_option linter.unusedSimpArgs false
set_option linter.unusedVariables false
set_option linter.constructorNameAsVariable false
set_option maxRecDepth 100000
set_option maxHeartbeats 2000000
theorem hc_lineallaw07_ProgressEither (g:Int×(List (Int×Int×Int×Bool))) (claim:Int) (thread:Int) (ranks:List Int) (path:List Int) (circle:List Int) {r:Bool} (h:lineallaw07_ProgressEither g claim thread ranks path circle=some r):HC Try.prog 8 [] [.agg [.int .i64 g.1,.sl Y7 g.2],.int .u8 claim,.int .u8 thread,.sl (.int .i64) ranks,.sl (.int .i64) path,.sl (.int .i64) circle] [] (.bool r):=by
 unfold lineallaw07_ProgressEither at h
 refine zH Try.func8 [.tmp 12] 237 ?_
 refine zo ?_
 refine zB [(1,.int .u8 claim),(2,.int .u8 thread),(3,.sl (.int .i64) ranks),(4,.sl (.int .i64) path),(5,.sl (.int .i64) circle),(6,.bp 6 0)] [(6,.box 24 [.int .i64 g.1,.sl Y7 g.2])] ?_
 refine AW.seq ?_
 refine zo ?_
 refine zS 1 [(1,.int .u8 claim),(2,.int .u8 thread),(3,.sl (.int .i64) ranks),(4,.sl (.int .i64) path),(5,.sl (.int .i64) circle),(6,.bp 6 0),(32,.agg [.int .i64 g.1,.sl Y7 g.2])] [(6,.box 24 [.int .i64 g.1,.sl Y7 g.2])] ?_
 obtain ⟨v0,hv1,h⟩:=Option.bind_eq_some_iff.1 h
 refine zC [] [] (hc_lineallaw07_Long g hv1) [(1,.int .u8 claim),(2,.int .u8 thread),(3,.sl (.int .i64) ranks),(4,.sl (.int .i64) path),(5,.sl (.int .i64) circle),(6,.bp 6 0),(33,.bool (decide (100 < (g.2.length:Int))))] [(6,.box 24 [.int .i64 g.1,.sl Y7 g.2])] ?_
 refine zS 1 [(1,.int .u8 claim),(2,.int .u8 thread),(3,.sl (.int .i64) ranks),(4,.sl (.int .i64) path),(5,.sl (.int .i64) circle),(6,.bp 6 0),(34,.bool (decide (100 < (g.2.length:Int))))] [(6,.box 24 [.int .i64 g.1,.sl Y7 g.2])] ?_
 rcases zI h with ⟨hb2,h⟩ | ⟨hb2,h⟩
 ·refine zS 5 [(1,.int .u8 claim),(2,.int .u8 thread),(3,.sl (.int .i64) ranks),(4,.sl (.int .i64) path),(5,.sl (.int .i64) circle),(6,.bp 6 0),(39,.bool true)] [(6,.box 24 [.int .i64 g.1,.sl Y7 g.2])] ?_
  refine zS 5 [(1,.int .u8 claim),(2,.int .u8 thread),(3,.sl (.int .i64) ranks),(4,.sl (.int .i64) path),(5,.sl (.int .i64) circle),(6,.bp 6 0),(43,.bool true),(44,.cv (undef))] [(6,.box 24 [.int .i64 g.1,.sl Y7 g.2])] ?_
  refine zS 5 [(1,.int .u8 claim),(2,.int .u8 thread),(3,.sl (.int .i64) ranks),(4,.sl (.int .i64) path),(5,.sl (.int .i64) circle),(6,.bp 6 0),(47,.bool true),(49,.cv (undef))] [(6,.box 24 [.int .i64 g.1,.sl Y7 g.2])] ?_
  refine zB [(1,.int .u8 claim),(2,.int .u8 thread),(3,.sl (.int .i64) ranks),(4,.sl (.int .i64) path),(5,.sl (.int .i64) circle),(6,.bp 6 0),(50,.bool true)] [(6,.box 24 [.int .i64 g.1,.sl Y7 g.2])] ?_
  refine AW.cond (b:=true) rfl (fun _=>?_) (fun hb3=>by cases hb3)
  refine zo ?_
  obtain ⟨v0_2,hv4,h⟩:=Option.bind_eq_some_iff.1 h
  refine zC [] [] (hc_lineallaw07_Awake hv4) [(51,.bool v0_2)] [] ?_
  refine zB [(12,.bool v0_2)] [] ?_
  refine zr ?_
  obtain rfl:=Option.some.inj h
  exact zR [] [] []
 ·refine zS 1 [(1,.int .u8 claim),(2,.int .u8 thread),(3,.sl (.int .i64) ranks),(4,.sl (.int .i64) path),(5,.sl (.int .i64) circle),(6,.bp 6 0),(34,.bool false),(35,.agg [.int .i64 g.1,.sl Y7 g.2])] [(6,.box 24 [.int .i64 g.1,.sl Y7 g.2])] ?_
  obtain ⟨v0_3,hv5,h⟩:=Option.bind_eq_some_iff.1 h
  refine zG [] [] (hc_linealref07_Valid g hv5) [(1,.int .u8 claim),(2,.int .u8 thread),(3,.sl (.int .i64) ranks),(4,.sl (.int .i64) path),(5,.sl (.int .i64) circle),(6,.bp 6 0),(34,.bool false),(36,.bool v0_3)] [(6,.box 24 [.int .i64 g.1,.sl Y7 g.2])] ?_
  refine zS 3 [(1,.int .u8 claim),(2,.int .u8 thread),(3,.sl (.int .i64) ranks),(4,.sl (.int .i64) path),(5,.sl (.int .i64) circle),(6,.bp 6 0),(39,.bool (!v0_3))] [(6,.box 24 [.int .i64 g.1,.sl Y7 g.2])] ?_
  rcases zI h with ⟨hb6,h⟩ | ⟨hb6,h⟩
  ·refine zS 5 [(1,.int .u8 claim),(2,.int .u8 thread),(3,.sl (.int .i64) ranks),(4,.sl (.int .i64) path),(5,.sl (.int .i64) circle),(6,.bp 6 0),(43,.bool true),(44,.cv (undef))] [(6,.box 24 [.int .i64 g.1,.sl Y7 g.2])] ?_
   refine zS 5 [(1,.int .u8 claim),(2,.int .u8 thread),(3,.sl (.int .i64) ranks),(4,.sl (.int .i64) path),(5,.sl (.int .i64) circle),(6,.bp 6 0),(47,.bool true),(49,.cv (undef))] [(6,.box 24 [.int .i64 g.1,.sl Y7 g.2])] ?_
   refine zB [(1,.int .u8 claim),(2,.int .u8 thread),(3,.sl (.int .i64) ranks),(4,.sl (.int .i64) path),(5,.sl (.int .i64) circle),(6,.bp 6 0),(50,.bool true)] [(6,.box 24 [.int .i64 g.1,.sl Y7 g.2])] ?_
   refine AW.cond (b:=true) rfl (fun _=>?_) (fun hb7=>by cases hb7)
   refine zo ?_
   obtain ⟨v0_4,hv8,h⟩:=Option.bind_eq_some_iff.1 h
   refine zC [] [] (hc_lineallaw07_Awake hv8) [(51,.bool v0_4)] [] ?_
   refine zB [(12,.bool v0_4)] [] ?_
   refine zr ?_
   obtain rfl:=Option.some.inj h
   exact zR [] [] []
  ·refine zS 1 [(1,.int .u8 claim),(2,.int .u8 thread),(3,.sl (.int .i64) ranks),(4,.sl (.int .i64) path),(5,.sl (.int .i64) circle),(6,.bp 6 0),(39,.bool false),(40,.sl (.int .i64) ranks)] [(6,.box 24 [.int .i64 g.1,.sl Y7 g.2])] ?_
   obtain ⟨v0_5,hv9,h⟩:=Option.bind_eq_some_iff.1 h
   refine zG [] [] (hc_lineallaw07_many ranks hv9) [(1,.int .u8 claim),(2,.int .u8 thread),(3,.sl (.int .i64) ranks),(4,.sl (.int .i64) path),(5,.sl (.int .i64) circle),(6,.bp 6 0),(39,.bool false),(41,.bool (decide (1100 < (ranks.length:Int))))] [(6,.box 24 [.int .i64 g.1,.sl Y7 g.2])] ?_
   refine zS 2 [(1,.int .u8 claim),(2,.int .u8 thread),(3,.sl (.int .i64) ranks),(4,.sl (.int .i64) path),(5,.sl (.int .i64) circle),(6,.bp 6 0),(43,.bool (decide (1100 < (ranks.length:Int))))] [(6,.box 24 [.int .i64 g.1,.sl Y7 g.2])] ?_
   rcases zI h with ⟨hb10,h⟩ | ⟨hb10,h⟩
   ·refine zS 5 [(1,.int .u8 claim),(2,.int .u8 thread),(3,.sl (.int .i64) ranks),(4,.sl (.int .i64) path),(5,.sl (.int .i64) circle),(6,.bp 6 0),(47,.bool true),(48,.cv (undef))] [(6,.box 24 [.int .i64 g.1,.sl Y7 g.2])] ?_
    refine zB [(1,.int .u8 claim),(2,.int .u8 thread),(3,.sl (.int .i64) ranks),(4,.sl (.int .i64) path),(5,.sl (.int .i64) circle),(6,.bp 6 0),(50,.bool true)] [(6,.box 24 [.int .i64 g.1,.sl Y7 g.2])] ?_
    refine AW.cond (b:=true) rfl (fun _=>?_) (fun hb11=>by cases hb11)
    refine zo ?_
    obtain ⟨v0_6,hv12,h⟩:=Option.bind_eq_some_iff.1 h
    refine zC [] [] (hc_lineallaw07_Awake hv12) [(51,.bool v0_6)] [] ?_
    refine zB [(12,.bool v0_6)] [] ?_
    refine zr ?_
    obtain rfl:=Option.some.inj h
    exact zR [] [] []
   ·refine zS 1 [(1,.int .u8 claim),(2,.int .u8 thread),(3,.sl (.int .i64) ranks),(4,.sl (.int .i64) path),(5,.sl (.int .i64) circle),(6,.bp 6 0),(43,.bool false),(44,.sl (.int .i64) path)] [(6,.box 24 [.int .i64 g.1,.sl Y7 g.2])] ?_
    obtain ⟨v0_7,hv13,h⟩:=Option.bind_eq_some_iff.1 h
    refine zG [] [] (hc_lineallaw07_many path hv13) [(1,.int .u8 claim),(2,.int .u8 thread),(3,.sl (.int .i64) ranks),(4,.sl (.int .i64) path),(5,.sl (.int .i64) circle),(6,.bp 6 0),(43,.bool false),(45,.bool (decide (1100 < (path.length:Int))))] [(6,.box 24 [.int .i64 g.1,.sl Y7 g.2])] ?_
    refine zS 2 [(1,.int .u8 claim),(2,.int .u8 thread),(3,.sl (.int .i64) ranks),(4,.sl (.int .i64) path),(5,.sl (.int .i64) circle),(6,.bp 6 0),(47,.bool (decide (1100 < (path.length:Int))))] [(6,.box 24 [.int .i64 g.1,.sl Y7 g.2])] ?_
    rcases zI h with ⟨hb14,h⟩ | ⟨hb14,h⟩
    ·refine zB [(1,.int .u8 claim),(2,.int .u8 thread),(3,.sl (.int .i64) ranks),(4,.sl (.int .i64) path),(5,.sl (.int .i64) circle),(6,.bp 6 0),(50,.bool true)] [(6,.box 24 [.int .i64 g.1,.sl Y7 g.2])] ?_
     refine AW.cond (b:=true) rfl (fun _=>?_) (fun hb15=>by cases hb15)
     refine zo ?_
     obtain ⟨v0_8,hv16,h⟩:=Option.bind_eq_some_iff.1 h
     refine zC [] [] (hc_lineallaw07_Awake hv16) [(51,.bool v0_8)] [] ?_
     refine zB [(12,.bool v0_8)] [] ?_
     refine zr ?_
     obtain rfl:=Option.some.inj h
     exact zR [] [] []
    ·refine zS 1 [(1,.int .u8 claim),(2,.int .u8 thread),(3,.sl (.int .i64) ranks),(4,.sl (.int .i64) path),(5,.sl (.int .i64) circle),(6,.bp 6 0),(47,.bool false),(48,.sl (.int .i64) circle)] [(6,.box 24 [.int .i64 g.1,.sl Y7 g.2])] ?_
     obtain ⟨v0_9,hv17,h⟩:=Option.bind_eq_some_iff.1 h
     refine zG [] [] (hc_lineallaw07_many circle hv17) [(1,.int .u8 claim),(2,.int .u8 thread),(3,.sl (.int .i64) ranks),(4,.sl (.int .i64) path),(5,.sl (.int .i64) circle),(6,.bp 6 0),(47,.bool false),(49,.bool (decide (1100 < (circle.length:Int))))] [(6,.box 24 [.int .i64 g.1,.sl Y7 g.2])] ?_
     refine zB [(1,.int .u8 claim),(2,.int .u8 thread),(3,.sl (.int .i64) ranks),(4,.sl (.int .i64) path),(5,.sl (.int .i64) circle),(6,.bp 6 0),(50,.bool (decide (1100 < (circle.length:Int))))] [(6,.box 24 [.int .i64 g.1,.sl Y7 g.2])] ?_
     refine zQ h (fun hb18 h=>?_) (fun hb18 h=>?_)
     ·refine zo ?_
      obtain ⟨v0_10,hv19,h⟩:=Option.bind_eq_some_iff.1 h
      refine zC [] [] (hc_lineallaw07_Awake hv19) [(51,.bool v0_10)] [] ?_
      refine zB [(12,.bool v0_10)] [] ?_
      refine zr ?_
      obtain rfl:=Option.some.inj h
      exact zR [] [] []
     ·refine zk ?_
      refine zo ?_
      refine zS 2 [(3,.sl (.int .i64) ranks),(4,.sl (.int .i64) path),(5,.sl (.int .i64) circle),(6,.bp 6 0),(53,.int .u8 claim),(54,.int .u8 thread)] [(6,.box 24 [.int .i64 g.1,.sl Y7 g.2])] ?_
      obtain ⟨v0_11,hv20,h⟩:=Option.bind_eq_some_iff.1 h
      refine zC [] [] (hc_lineallaw07_asked claim thread hv20) [(3,.sl (.int .i64) ranks),(4,.sl (.int .i64) path),(5,.sl (.int .i64) circle),(6,.bp 6 0),(55,.tup [.int .i64 v0_11.1,.int .i64 v0_11.2])] [(6,.box 24 [.int .i64 g.1,.sl Y7 g.2])] ?_
      refine zB [(3,.sl (.int .i64) ranks),(4,.sl (.int .i64) path),(5,.sl (.int .i64) circle),(6,.bp 6 0),(13,.int .i64 v0_11.1),(14,.int .i64 v0_11.2)] [(6,.box 24 [.int .i64 g.1,.sl Y7 g.2])] ?_
      refine zo ?_
      refine zS 3 [(3,.sl (.int .i64) ranks),(4,.sl (.int .i64) path),(5,.sl (.int .i64) circle),(6,.bp 6 0),(13,.int .i64 v0_11.1),(14,.int .i64 v0_11.2),(59,.agg [.int .i64 g.1,.sl Y7 g.2]),(60,.int .i64 v0_11.1),(61,.int .i64 v0_11.2)] [(6,.box 24 [.int .i64 g.1,.sl Y7 g.2])] ?_
      obtain ⟨v0_12,hv21,h⟩:=Option.bind_eq_some_iff.1 h
      refine zC [] [] (hc_progress_Holds g v0_11.1 v0_11.2 hv21) [(3,.sl (.int .i64) ranks),(4,.sl (.int .i64) path),(5,.sl (.int .i64) circle),(6,.bp 6 0),(13,.int .i64 v0_11.1),(14,.int .i64 v0_11.2),(62,.tup [.bool v0_12.1,.int .i64 v0_12.2])] [(6,.box 24 [.int .i64 g.1,.sl Y7 g.2])] ?_
      refine zB [(3,.sl (.int .i64) ranks),(4,.sl (.int .i64) path),(5,.sl (.int .i64) circle),(6,.bp 6 0),(13,.int .i64 v0_11.1),(14,.int .i64 v0_11.2),(15,.bool v0_12.1),(16,.int .i64 v0_12.2)] [(6,.box 24 [.int .i64 g.1,.sl Y7 g.2])] ?_
      refine zo ?_
      refine zS 3 [(3,.sl (.int .i64) ranks),(4,.sl (.int .i64) path),(5,.sl (.int .i64) circle),(6,.bp 6 0),(13,.int .i64 v0_11.1),(14,.int .i64 v0_11.2),(15,.bool v0_12.1),(16,.int .i64 v0_12.2),(66,.agg [.int .i64 g.1,.sl Y7 g.2]),(67,.int .i64 v0_11.1),(68,.int .i64 v0_11.2)] [(6,.box 24 [.int .i64 g.1,.sl Y7 g.2])] ?_
      obtain ⟨v0_13,hv22,h⟩:=Option.bind_eq_some_iff.1 h
      refine zC [] [] (hc_progress_Ranks g v0_11.1 v0_11.2 hv22) [(3,.sl (.int .i64) ranks),(4,.sl (.int .i64) path),(5,.sl (.int .i64) circle),(6,.bp 6 0),(13,.int .i64 v0_11.1),(14,.int .i64 v0_11.2),(15,.bool v0_12.1),(16,.int .i64 v0_12.2),(69,.tup [.own 79000,.int .i64 v0_13.2])] [(6,.box 24 [.int .i64 g.1,.sl Y7 g.2]),(79000,.arr 3 (.int .i64) v0_13.1)] ?_
      refine zB [(3,.sl (.int .i64) ranks),(4,.sl (.int .i64) path),(5,.sl (.int .i64) circle),(6,.bp 6 0),(13,.int .i64 v0_11.1),(14,.int .i64 v0_11.2),(15,.bool v0_12.1),(16,.int .i64 v0_12.2),(17,.own 79000),(18,.int .i64 v0_13.2)] [(6,.box 24 [.int .i64 g.1,.sl Y7 g.2]),(79000,.arr 3 (.int .i64) v0_13.1)] ?_
      refine zo ?_
      refine zS 3 [(3,.sl (.int .i64) ranks),(4,.sl (.int .i64) path),(5,.sl (.int .i64) circle),(6,.bp 6 0),(13,.int .i64 v0_11.1),(14,.int .i64 v0_11.2),(15,.bool v0_12.1),(16,.int .i64 v0_12.2),(17,.own 79000),(18,.int .i64 v0_13.2),(73,.agg [.int .i64 g.1,.sl Y7 g.2]),(74,.int .i64 v0_11.1),(75,.int .i64 v0_11.2)] [(6,.box 24 [.int .i64 g.1,.sl Y7 g.2]),(79000,.arr 3 (.int .i64) v0_13.1)] ?_
      obtain ⟨v0_14,hv23,h⟩:=Option.bind_eq_some_iff.1 h
      refine zC [] [] (hc_progress_Lasso g v0_11.1 v0_11.2 hv23) [(3,.sl (.int .i64) ranks),(4,.sl (.int .i64) path),(5,.sl (.int .i64) circle),(6,.bp 6 0),(13,.int .i64 v0_11.1),(14,.int .i64 v0_11.2),(15,.bool v0_12.1),(16,.int .i64 v0_12.2),(17,.own 79000),(18,.int .i64 v0_13.2),(76,.tup [.sl (.int .i64) v0_14.1,.own 86000,.int .i64 v0_14.2.2])] [(6,.box 24 [.int .i64 g.1,.sl Y7 g.2]),(79000,.arr 3 (.int .i64) v0_13.1),(86000,.arr 3 (.int .i64) v0_14.2.1)] ?_
      refine zS 5 [(3,.sl (.int .i64) ranks),(4,.sl (.int .i64) path),(5,.sl (.int .i64) circle),(6,.bp 6 0),(13,.int .i64 v0_11.1),(14,.int .i64 v0_11.2),(15,.bool v0_12.1),(16,.int .i64 v0_12.2),(17,.own 79000),(18,.int .i64 v0_13.2),(19,.sl (.int .i64) v0_14.1),(78,.own 86000),(79,.int .i64 v0_14.2.2)] [(6,.box 24 [.int .i64 g.1,.sl Y7 g.2]),(79000,.arr 3 (.int .i64) v0_13.1),(86000,.arr 3 (.int .i64) v0_14.2.1)] ?_
      refine zB [(3,.sl (.int .i64) ranks),(4,.sl (.int .i64) path),(5,.sl (.int .i64) circle),(6,.bp 6 0),(13,.int .i64 v0_11.1),(14,.int .i64 v0_11.2),(15,.bool v0_12.1),(16,.int .i64 v0_12.2),(17,.own 79000),(18,.int .i64 v0_13.2),(19,.sl (.int .i64) v0_14.1),(20,.own 86000),(21,.int .i64 v0_14.2.2)] [(6,.box 24 [.int .i64 g.1,.sl Y7 g.2]),(79000,.arr 3 (.int .i64) v0_13.1),(86000,.arr 3 (.int .i64) v0_14.2.1)] ?_
      refine AW.have1 (fun _:Unit=>lineallaw07_ProgressEither_k1 g ranks path circle v0_11 v0_12 v0_13 v0_14=some r) (fun _=>⟨fr [(3,.sl (.int .i64) ranks),(4,.sl (.int .i64) path),(5,.sl (.int .i64) circle),(6,.bp 6 0),(13,.int .i64 v0_11.1),(14,.int .i64 v0_11.2),(15,.bool v0_12.1),(17,.own 79000),(19,.sl (.int .i64) v0_14.1),(20,.own 86000)],hpGet [(6,.box 24 [.int .i64 g.1,.sl Y7 g.2]),(79000,.arr 3 (.int .i64) v0_13.1),(86000,.arr 3 (.int .i64) v0_14.2.1)],gt⟩) (fun _ h=>?_) (fun hk_lineallaw07_ProgressEither_k1=>?_)
      ·as_aux_lemma =>
        unfold lineallaw07_ProgressEither_k1 at h
        refine zo ?_
        refine zS 4 [(3,.sl (.int .i64) ranks),(4,.sl (.int .i64) path),(5,.sl (.int .i64) circle),(6,.bp 6 0),(13,.int .i64 v0_11.1),(14,.int .i64 v0_11.2),(15,.bool v0_12.1),(17,.own 79000),(19,.sl (.int .i64) v0_14.1),(20,.own 86000),(107,.agg [.int .i64 g.1,.sl Y7 g.2]),(108,.int .i64 v0_11.1),(109,.int .i64 v0_11.2),(110,.sl (.int .i64) ranks)] [(6,.box 24 [.int .i64 g.1,.sl Y7 g.2]),(79000,.arr 3 (.int .i64) v0_13.1),(86000,.arr 3 (.int .i64) v0_14.2.1)] ?_
        obtain ⟨v0_15,hv24,h⟩:=Option.bind_eq_some_iff.1 h
        refine zC [] [] (hc_progress_Prove g v0_11.1 v0_11.2 ranks hv24) [(3,.sl (.int .i64) ranks),(4,.sl (.int .i64) path),(5,.sl (.int .i64) circle),(6,.bp 6 0),(13,.int .i64 v0_11.1),(14,.int .i64 v0_11.2),(15,.bool v0_12.1),(17,.own 79000),(19,.sl (.int .i64) v0_14.1),(20,.own 86000),(111,.tup [.bool v0_15.1,.int .i64 v0_15.2])] [(6,.box 24 [.int .i64 g.1,.sl Y7 g.2]),(79000,.arr 3 (.int .i64) v0_13.1),(86000,.arr 3 (.int .i64) v0_14.2.1)] ?_
        refine zB [(3,.sl (.int .i64) ranks),(4,.sl (.int .i64) path),(5,.sl (.int .i64) circle),(6,.bp 6 0),(13,.int .i64 v0_11.1),(14,.int .i64 v0_11.2),(15,.bool v0_12.1),(16,.int .i64 v0_15.2),(17,.own 79000),(19,.sl (.int .i64) v0_14.1),(20,.own 86000),(22,.bool v0_15.1)] [(6,.box 24 [.int .i64 g.1,.sl Y7 g.2]),(79000,.arr 3 (.int .i64) v0_13.1),(86000,.arr 3 (.int .i64) v0_14.2.1)] ?_
        refine zo ?_
        refine zS 5 [(3,.sl (.int .i64) ranks),(6,.bp 6 0),(13,.int .i64 v0_11.1),(14,.int .i64 v0_11.2),(15,.bool v0_12.1),(16,.int .i64 v0_15.2),(17,.own 79000),(19,.sl (.int .i64) v0_14.1),(20,.own 86000),(22,.bool v0_15.1),(115,.agg [.int .i64 g.1,.sl Y7 g.2]),(116,.int .i64 v0_11.1),(117,.int .i64 v0_11.2),(118,.sl (.int .i64) path),(119,.sl (.int .i64) circle)] [(6,.box 24 [.int .i64 g.1,.sl Y7 g.2]),(79000,.arr 3 (.int .i64) v0_13.1),(86000,.arr 3 (.int .i64) v0_14.2.1)] ?_
        obtain ⟨v0_16,hv25,h⟩:=Option.bind_eq_some_iff.1 h
        refine zC [] [] (hc_progress_Refutes g v0_11.1 v0_11.2 path circle hv25) [(3,.sl (.int .i64) ranks),(6,.bp 6 0),(13,.int .i64 v0_11.1),(14,.int .i64 v0_11.2),(15,.bool v0_12.1),(16,.int .i64 v0_15.2),(17,.own 79000),(19,.sl (.int .i64) v0_14.1),(20,.own 86000),(22,.bool v0_15.1),(120,.tup [.bool v0_16.1,.int .i64 v0_16.2])] [(6,.box 24 [.int .i64 g.1,.sl Y7 g.2]),(79000,.arr 3 (.int .i64) v0_13.1),(86000,.arr 3 (.int .i64) v0_14.2.1)] ?_
        refine zB [(3,.sl (.int .i64) ranks),(6,.bp 6 0),(13,.int .i64 v0_11.1),(14,.int .i64 v0_11.2),(15,.bool v0_12.1),(16,.int .i64 v0_15.2),(17,.own 79000),(18,.int .i64 v0_16.2),(19,.sl (.int .i64) v0_14.1),(20,.own 86000),(22,.bool v0_15.1),(23,.bool v0_16.1)] [(6,.box 24 [.int .i64 g.1,.sl Y7 g.2]),(79000,.arr 3 (.int .i64) v0_13.1),(86000,.arr 3 (.int .i64) v0_14.2.1)] ?_
        refine AW.have1 (fun b2:Bool=>lineallaw07_ProgressEither_k2 g ranks v0_11 v0_12 v0_13 v0_14 b2=some r) (fun b2=>⟨fr [(3,.sl (.int .i64) ranks),(6,.bp 6 0),(13,.int .i64 v0_11.1),(14,.int .i64 v0_11.2),(15,.bool v0_12.1),(17,.own 79000),(19,.sl (.int .i64) v0_14.1),(20,.own 86000),(22,.bool b2)],hpGet [(6,.box 24 [.int .i64 g.1,.sl Y7 g.2]),(79000,.arr 3 (.int .i64) v0_13.1),(86000,.arr 3 (.int .i64) v0_14.2.1)],gt⟩) (fun b2 h=>?_) (fun hk_lineallaw07_ProgressEither_k2=>?_)
        ·as_aux_lemma =>
          unfold lineallaw07_ProgressEither_k2 at h
          refine AW.seq ?_
          refine zo ?_
          refine zB [(3,.sl (.int .i64) ranks),(6,.bp 6 0),(13,.int .i64 v0_11.1),(14,.int .i64 v0_11.2),(17,.own 79000),(19,.sl (.int .i64) v0_14.1),(20,.own 86000),(22,.bool b2),(147,.bool (!v0_12.1))] [(6,.box 24 [.int .i64 g.1,.sl Y7 g.2]),(79000,.arr 3 (.int .i64) v0_13.1),(86000,.arr 3 (.int .i64) v0_14.2.1)] ?_
          refine zQ h (fun hb26 h=>?_) (fun hb26 h=>?_)
          ·refine zo ?_
           refine zS 5 [(17,.own 79000),(149,.agg [.int .i64 g.1,.sl Y7 g.2]),(150,.int .i64 v0_11.1),(151,.int .i64 v0_11.2),(152,.sl (.int .i64) v0_14.1),(153,.own 86000)] [(79000,.arr 3 (.int .i64) v0_13.1),(86000,.arr 3 (.int .i64) v0_14.2.1)] ?_
           obtain ⟨v0_17,hv27,h⟩:=Option.bind_eq_some_iff.1 h
           refine zC [86000] [] (hc_progress_Refutes g v0_11.1 v0_11.2 v0_14.1 v0_14.2.1 hv27) [(17,.own 79000),(154,.tup [.bool v0_17.1,.int .i64 v0_17.2])] [(79000,.arr 3 (.int .i64) v0_13.1)] ?_
           refine zB [(17,.own 79000),(24,.bool v0_17.1),(25,.int .i64 v0_17.2)] [(79000,.arr 3 (.int .i64) v0_13.1)] ?_
           refine zo ?_
           refine zS 3 [(17,.own 79000),(24,.bool v0_17.1),(159,.bool (decide (v0_17.2=0)))] [(79000,.arr 3 (.int .i64) v0_13.1)] ?_
           rcases zI h with ⟨hb28,h⟩ | ⟨hb28,h⟩
           ·refine zS 3 [(17,.own 79000),(162,.bool v0_17.1)] [(79000,.arr 3 (.int .i64) v0_13.1)] ?_
            rcases zI h with ⟨hb29,h⟩ | ⟨hb29,h⟩
            ·refine zS 5 [(167,.bool (decide ((v0_13.1.length:Int)=0)))] [] ?_
             rcases zI h with ⟨hb30,h⟩ | ⟨hb30,h⟩
             ·refine zT [(167,.bool true)] [] gt ?_
              obtain ⟨v0_18,hv31,h⟩:=Option.bind_eq_some_iff.1 h
              refine zG [] [] (hc_lineallaw07_Awake hv31) [(167,.bool true),(168,.bool v0_18)] [] ?_
              refine zB [(12,.bool v0_18)] [] ?_
              refine zr ?_
              obtain rfl:=Option.some.inj h
              exact zR [] [] []
             ·refine zB [(12,.bool false)] [] ?_
              refine zr ?_
              obtain rfl:=Option.some.inj h
              exact zR [] [] []
            ·refine zS 5 [(167,.bool false)] [] ?_
             refine zB [(12,.bool false)] [] ?_
             refine zr ?_
             obtain rfl:=Option.some.inj h
             exact zR [] [] []
           ·refine zS 5 [(162,.bool false),(164,.cv (undef))] [] ?_
            refine zS 5 [(169,.bool false)] [] ?_
            refine zB [(12,.bool false)] [] ?_
            refine zr ?_
            obtain rfl:=Option.some.inj h
            exact zR [] [] []
          ·refine zk ?_
           refine zo ?_
           refine zS 4 [(3,.sl (.int .i64) ranks),(6,.bp 6 0),(17,.own 79000),(22,.bool b2),(171,.agg [.int .i64 g.1,.sl Y7 g.2]),(172,.int .i64 v0_11.1),(173,.int .i64 v0_11.2),(174,.own 79000)] [(6,.box 24 [.int .i64 g.1,.sl Y7 g.2]),(79000,.arr 3 (.int .i64) v0_13.1)] ?_
           obtain ⟨v0_19,hv32,h⟩:=Option.bind_eq_some_iff.1 h
           refine zC [79000] [] (hc_progress_Prove g v0_11.1 v0_11.2 v0_13.1 hv32) [(3,.sl (.int .i64) ranks),(6,.bp 6 0),(17,.own 79000),(22,.bool b2),(175,.tup [.bool v0_19.1,.int .i64 v0_19.2])] [(6,.box 24 [.int .i64 g.1,.sl Y7 g.2]),(79000,.arr 3 (.int .i64) v0_13.1)] ?_
           refine zB [(3,.sl (.int .i64) ranks),(6,.bp 6 0),(17,.own 79000),(22,.bool b2),(26,.bool v0_19.1),(27,.int .i64 v0_19.2)] [(6,.box 24 [.int .i64 g.1,.sl Y7 g.2]),(79000,.arr 3 (.int .i64) v0_13.1)] ?_
           refine zo ?_
           refine zS 1 [(3,.sl (.int .i64) ranks),(6,.bp 6 0),(17,.own 79000),(22,.bool b2),(26,.bool v0_19.1),(27,.int .i64 v0_19.2),(179,.agg [.int .i64 g.1,.sl Y7 g.2])] [(6,.box 24 [.int .i64 g.1,.sl Y7 g.2]),(79000,.arr 3 (.int .i64) v0_13.1)] ?_
           obtain ⟨v0_20,hv33,h⟩:=Option.bind_eq_some_iff.1 h
           refine zC [] [] (hc_progress_Reached g hv33) [(3,.sl (.int .i64) ranks),(6,.bp 6 0),(17,.own 79000),(22,.bool b2),(26,.bool v0_19.1),(27,.int .i64 v0_19.2),(180,.tup [.own 190000,.int .i64 v0_20.2])] [(6,.box 24 [.int .i64 g.1,.sl Y7 g.2]),(79000,.arr 3 (.int .i64) v0_13.1),(190000,.arr 3 (.int .i64) v0_20.1)] ?_
           refine zB [(3,.sl (.int .i64) ranks),(6,.bp 6 0),(17,.own 79000),(22,.bool b2),(26,.bool v0_19.1),(27,.int .i64 v0_19.2),(28,.own 190000),(29,.int .i64 v0_20.2)] [(6,.box 24 [.int .i64 g.1,.sl Y7 g.2]),(79000,.arr 3 (.int .i64) v0_13.1),(190000,.arr 3 (.int .i64) v0_20.1)] ?_
           refine AW.seq ?_
           refine zo ?_
           refine zS 3 [(3,.sl (.int .i64) ranks),(6,.bp 6 0),(17,.own 79000),(22,.bool b2),(26,.bool v0_19.1),(28,.own 190000),(29,.int .i64 v0_20.2),(185,.bool (!(decide (v0_19.2=0))))] [(6,.box 24 [.int .i64 g.1,.sl Y7 g.2]),(79000,.arr 3 (.int .i64) v0_13.1),(190000,.arr 3 (.int .i64) v0_20.1)] ?_
           rcases zI h with ⟨hb34,h⟩ | ⟨hb34,h⟩
           ·refine zS 5 [(3,.sl (.int .i64) ranks),(6,.bp 6 0),(17,.own 79000),(22,.bool b2),(28,.own 190000),(189,.bool true),(190,.cv (undef))] [(6,.box 24 [.int .i64 g.1,.sl Y7 g.2]),(79000,.arr 3 (.int .i64) v0_13.1),(190000,.arr 3 (.int .i64) v0_20.1)] ?_
            refine zS 5 [(3,.sl (.int .i64) ranks),(6,.bp 6 0),(17,.own 79000),(22,.bool b2),(28,.own 190000),(193,.bool true),(195,.cv (undef))] [(6,.box 24 [.int .i64 g.1,.sl Y7 g.2]),(79000,.arr 3 (.int .i64) v0_13.1),(190000,.arr 3 (.int .i64) v0_20.1)] ?_
            refine zB [(3,.sl (.int .i64) ranks),(6,.bp 6 0),(17,.own 79000),(22,.bool b2),(28,.own 190000),(199,.bool true)] [(6,.box 24 [.int .i64 g.1,.sl Y7 g.2]),(79000,.arr 3 (.int .i64) v0_13.1),(190000,.arr 3 (.int .i64) v0_20.1)] ?_
            refine AW.cond (b:=true) rfl (fun _=>?_) (fun hb35=>by cases hb35)
            refine zo ?_
            refine zB [(12,.bool false)] [] ?_
            refine zr ?_
            obtain rfl:=Option.some.inj h
            exact zR [] [] []
           ·refine zS 4 [(3,.sl (.int .i64) ranks),(6,.bp 6 0),(17,.own 79000),(22,.bool b2),(26,.bool v0_19.1),(28,.own 190000),(189,.bool (!(decide (v0_20.2=0))))] [(6,.box 24 [.int .i64 g.1,.sl Y7 g.2]),(79000,.arr 3 (.int .i64) v0_13.1),(190000,.arr 3 (.int .i64) v0_20.1)] ?_
            rcases zI h with ⟨hb36,h⟩ | ⟨hb36,h⟩
            ·refine zS 5 [(3,.sl (.int .i64) ranks),(6,.bp 6 0),(17,.own 79000),(22,.bool b2),(28,.own 190000),(193,.bool true),(194,.cv (undef))] [(6,.box 24 [.int .i64 g.1,.sl Y7 g.2]),(79000,.arr 3 (.int .i64) v0_13.1),(190000,.arr 3 (.int .i64) v0_20.1)] ?_
             refine zS 4 [(3,.sl (.int .i64) ranks),(6,.bp 6 0),(17,.own 79000),(22,.bool b2),(28,.own 190000),(193,.bool true),(198,.cv (undef))] [(6,.box 24 [.int .i64 g.1,.sl Y7 g.2]),(79000,.arr 3 (.int .i64) v0_13.1),(190000,.arr 3 (.int .i64) v0_20.1)] ?_
             refine zB [(3,.sl (.int .i64) ranks),(6,.bp 6 0),(17,.own 79000),(22,.bool b2),(28,.own 190000),(199,.bool true)] [(6,.box 24 [.int .i64 g.1,.sl Y7 g.2]),(79000,.arr 3 (.int .i64) v0_13.1),(190000,.arr 3 (.int .i64) v0_20.1)] ?_
             refine AW.cond (b:=true) rfl (fun _=>?_) (fun hb37=>by cases hb37)
             refine zo ?_
             refine zB [(12,.bool false)] [] ?_
             refine zr ?_
             obtain rfl:=Option.some.inj h
             exact zR [] [] []
            ·refine zS 4 [(3,.sl (.int .i64) ranks),(6,.bp 6 0),(17,.own 79000),(22,.bool b2),(28,.own 190000),(193,.bool (!v0_19.1))] [(6,.box 24 [.int .i64 g.1,.sl Y7 g.2]),(79000,.arr 3 (.int .i64) v0_13.1),(190000,.arr 3 (.int .i64) v0_20.1)] ?_
             rcases zI h with ⟨hb38,h⟩ | ⟨hb38,h⟩
             ·refine zS 4 [(3,.sl (.int .i64) ranks),(6,.bp 6 0),(17,.own 79000),(22,.bool b2),(28,.own 190000),(193,.bool true),(195,.cv (undef)),(197,.cv (undef))] [(6,.box 24 [.int .i64 g.1,.sl Y7 g.2]),(79000,.arr 3 (.int .i64) v0_13.1),(190000,.arr 3 (.int .i64) v0_20.1)] ?_
              refine zB [(3,.sl (.int .i64) ranks),(6,.bp 6 0),(17,.own 79000),(22,.bool b2),(28,.own 190000),(199,.bool true)] [(6,.box 24 [.int .i64 g.1,.sl Y7 g.2]),(79000,.arr 3 (.int .i64) v0_13.1),(190000,.arr 3 (.int .i64) v0_20.1)] ?_
              refine AW.cond (b:=true) rfl (fun _=>?_) (fun hb39=>by cases hb39)
              refine zo ?_
              refine zB [(12,.bool false)] [] ?_
              refine zr ?_
              obtain rfl:=Option.some.inj h
              exact zR [] [] []
             ·refine zS 5 [(3,.sl (.int .i64) ranks),(6,.bp 6 0),(17,.own 79000),(22,.bool b2),(28,.own 190000),(193,.bool false),(198,.bool (!(decide ((v0_13.1.length:Int)=g.1))))] [(6,.box 24 [.int .i64 g.1,.sl Y7 g.2]),(79000,.arr 3 (.int .i64) v0_13.1),(190000,.arr 3 (.int .i64) v0_20.1)] ?_
              refine zB [(3,.sl (.int .i64) ranks),(6,.bp 6 0),(17,.own 79000),(22,.bool b2),(28,.own 190000),(199,.bool (!(decide ((v0_13.1.length:Int)=g.1))))] [(6,.box 24 [.int .i64 g.1,.sl Y7 g.2]),(79000,.arr 3 (.int .i64) v0_13.1),(190000,.arr 3 (.int .i64) v0_20.1)] ?_
              refine zQ h (fun hb40 h=>?_) (fun hb40 h=>?_)
              ·refine zo ?_
               refine zB [(12,.bool false)] [] ?_
               refine zr ?_
               obtain rfl:=Option.some.inj h
               exact zR [] [] []
              ·refine zk ?_
               refine AW.have1 (fun _:Unit=>lineallaw07_ProgressEither_k3=some r) (fun _=>⟨fr [],hpGet [],gt⟩) (fun _ h=>?_) (fun hk_lineallaw07_ProgressEither_k3=>?_)
               ·as_aux_lemma =>
                 unfold lineallaw07_ProgressEither_k3 at h
                 refine zo ?_
                 obtain ⟨v0_21,hv41,h⟩:=Option.bind_eq_some_iff.1 h
                 refine zC [] [] (hc_lineallaw07_Awake hv41) [(236,.bool v0_21)] [] ?_
                 refine zB [(12,.bool v0_21)] [] ?_
                 refine AW.ret ?_
                 obtain rfl:=Option.some.inj h
                 exact zR [] [] []
               ·refine AW.seq ?_
                refine zo ?_
                refine zB [(3,.sl (.int .i64) ranks),(6,.bp 6 0),(17,.own 79000),(22,.bool b2),(200,.own 190000),(201,.int .i64 (v0_20.1.length:Int)),(202,.int .i64 0)] [(6,.box 24 [.int .i64 g.1,.sl Y7 g.2]),(79000,.arr 3 (.int .i64) v0_13.1),(190000,.arr 3 (.int .i64) v0_20.1)] ?_
                refine AW.block ?_
                obtain ⟨rv46,hw42,ho43⟩:=Option.bind_eq_some_iff.1 h
                refine AW.loopO (lineallaw07_ProgressEither_b1 g ranks v0_13 v0_20) (fun st1=>⟨fr [(3,.sl (.int .i64) ranks),(6,.bp 6 0),(17,.own 79000),(22,.bool st1.1),(200,.own 190000),(201,.int .i64 (v0_20.1.length:Int)),(202,.int .i64 st1.2)],hpGet [(6,.box 24 [.int .i64 g.1,.sl Y7 g.2]),(79000,.arr 3 (.int .i64) v0_13.1),(190000,.arr 3 (.int .i64) v0_20.1)],gt⟩) (b2,0) hw42 (zL [] [] []) ?_
                as_aux_lemma =>
                 intro st1 x45 h hd44
                 unfold lineallaw07_ProgressEither_b1 at h
                 refine zo ?_
                 refine zB [(3,.sl (.int .i64) ranks),(6,.bp 6 0),(17,.own 79000),(22,.bool st1.1),(200,.own 190000),(201,.int .i64 (v0_20.1.length:Int)),(202,.int .i64 st1.2),(203,.bool (decide (st1.2 < (v0_20.1.length:Int))))] [(6,.box 24 [.int .i64 g.1,.sl Y7 g.2]),(79000,.arr 3 (.int .i64) v0_13.1),(190000,.arr 3 (.int .i64) v0_20.1)] ?_
                 refine AW.seq ?_
                 refine zQ h (fun hb47 h=>?_) (fun hb47 h=>?_)
                 ·refine zk ?_
                  refine AW.seq ?_
                  refine AW.block ?_
                  refine zo ?_
                  obtain ⟨c48,h⟩:=ck_some.1 h
                  obtain ⟨c49,h⟩:=ck_some.1 h
                  refine zB [(3,.sl (.int .i64) ranks),(6,.bp 6 0),(17,.own 79000),(22,.bool st1.1),(31,.int .i64 (v0_20.1.getD st1.2.toNat 0)),(200,.own 190000),(201,.int .i64 (v0_20.1.length:Int)),(202,.int .i64 st1.2)] [(6,.box 24 [.int .i64 g.1,.sl Y7 g.2]),(79000,.arr 3 (.int .i64) v0_13.1),(190000,.arr 3 (.int .i64) v0_20.1)] ?_
                  refine AW.seq ?_
                  refine AW.draw tab_ok mixed_ok [] [] (by decide) (lex_fast (by kernel_rfl)) ?_
                  as_aux_lemma =>
                   refine adops_cut 3 (fun K' hK50=>?_)
                   try dsimp only [List.drop_succ_cons,List.drop_zero,List.take_succ_cons,List.take_zero]
                   simp only [go_sem,hb2,hb6,hb10,hb14,hb18,hb26,hb34,hb36,hb38,hb40,hb47]
                   repeat with_reducible refine zN ?_
                   refine hK50 _ ?_
                   as_aux_lemma =>
                    rcases zI h with ⟨hb51,h⟩ | ⟨hb51,h⟩
                    ·simp only [hb51]
                     as_aux_lemma =>
                      refine adops_cut 4 (fun K' hK52=>?_)
                      try dsimp only [List.drop_succ_cons,List.drop_zero,List.take_succ_cons,List.take_zero]
                      simp only [go_sem,hb2,hb6,hb10,hb14,hb18,hb26,hb34,hb36,hb38,hb40,hb47,hb51]
                      repeat with_reducible refine zN ?_
                      refine hK52 _ ?_
                      as_aux_lemma =>
                       refine adops_cut 6 (fun K' hK53=>?_)
                       try dsimp only [List.drop_succ_cons,List.drop_zero,List.take_succ_cons,List.take_zero]
                       simp only [go_sem,hb2,hb6,hb10,hb14,hb18,hb26,hb34,hb36,hb38,hb40,hb47,hb51]
                       repeat with_reducible refine zN ?_
                       refine hK53 _ ?_
                       as_aux_lemma =>
                        refine adops_cut 4 (fun K' hK54=>?_)
                        try dsimp only [List.drop_succ_cons,List.drop_zero,List.take_succ_cons,List.take_zero]
                        simp only [go_sem,hb2,hb6,hb10,hb14,hb18,hb26,hb34,hb36,hb38,hb40,hb47,hb51]
                        repeat with_reducible refine zN ?_
                        refine hK54 _ ?_
                        as_aux_lemma =>
                         refine adops_cut 4 (fun K' hK55=>?_)
                         try dsimp only [List.drop_succ_cons,List.drop_zero,List.take_succ_cons,List.take_zero]
                         simp only [go_sem,hb2,hb6,hb10,hb14,hb18,hb26,hb34,hb36,hb38,hb40,hb47,hb51]
                         repeat with_reducible refine zN ?_
                         refine hK55 _ ?_
                         as_aux_lemma =>
                          refine adops_cut 4 (fun K' hK56=>?_)
                          try dsimp only [List.drop_succ_cons,List.drop_zero,List.take_succ_cons,List.take_zero]
                          simp only [go_sem,hb2,hb6,hb10,hb14,hb18,hb26,hb34,hb36,hb38,hb40,hb47,hb51]
                          repeat with_reducible refine zN ?_
                          refine hK56 _ ?_
                          as_aux_lemma =>
                           refine adops_cut 4 (fun K' hK57=>?_)
                           try dsimp only [List.drop_succ_cons,List.drop_zero,List.take_succ_cons,List.take_zero]
                           simp only [go_sem,hb2,hb6,hb10,hb14,hb18,hb26,hb34,hb36,hb38,hb40,hb47,hb51]
                           repeat with_reducible refine zN ?_
                           refine hK57 _ ?_
                           refine adops_nil ?_
                           refine athen_n ?_
                           refine zV [(3,.sl (.int .i64) ranks),(6,.bp 6 0),(17,.own 79000),(22,.bool st1.1),(200,.own 190000),(201,.int .i64 (v0_20.1.length:Int)),(202,.int .i64 st1.2),(234,.bool true)] [(6,.box 24 [.int .i64 g.1,.sl Y7 g.2]),(79000,.arr 3 (.int .i64) v0_13.1),(190000,.arr 3 (.int .i64) v0_20.1)] gt ?_
                           as_aux_lemma =>
                            refine AW.cond (b:=true) rfl (fun _=>?_) (fun hb58=>by cases hb58)
                            refine zo ?_
                            refine zB [(12,.bool false)] [] ?_
                            refine AW.ret ?_
                            refine ablock_r ?_
                            refine athen_r ?_
                            obtain rfl:=Option.some.inj h
                            rw [← hd44 _ rfl] at ho43
                            have h:=ho43
                            try simp only at h
                            refine athen_r ?_
                            refine ablock_r ?_
                            refine athen_r ?_
                            obtain rfl:=Option.some.inj h
                            exact zR [] [] []
                    ·simp only [hb51]
                     as_aux_lemma =>
                      refine adops_cut 6 (fun K' hK59=>?_)
                      try dsimp only [List.drop_succ_cons,List.drop_zero,List.take_succ_cons,List.take_zero]
                      simp only [go_sem,hb2,hb6,hb10,hb14,hb18,hb26,hb34,hb36,hb38,hb40,hb47,hb51]
                      repeat with_reducible refine zN ?_
                      refine hK59 _ ?_
                      as_aux_lemma =>
                       rcases zI h with ⟨hb60,h⟩ | ⟨hb60,h⟩
                       ·simp only [hb60]
                        as_aux_lemma =>
                         refine adops_cut 4 (fun K' hK61=>?_)
                         try dsimp only [List.drop_succ_cons,List.drop_zero,List.take_succ_cons,List.take_zero]
                         simp only [go_sem,hb2,hb6,hb10,hb14,hb18,hb26,hb34,hb36,hb38,hb40,hb47,hb51,hb60]
                         repeat with_reducible refine zN ?_
                         refine hK61 _ ?_
                         as_aux_lemma =>
                          refine adops_cut 4 (fun K' hK62=>?_)
                          try dsimp only [List.drop_succ_cons,List.drop_zero,List.take_succ_cons,List.take_zero]
                          simp only [go_sem,hb2,hb6,hb10,hb14,hb18,hb26,hb34,hb36,hb38,hb40,hb47,hb51,hb60]
                          repeat with_reducible refine zN ?_
                          refine hK62 _ ?_
                          as_aux_lemma =>
                           refine adops_cut 4 (fun K' hK63=>?_)
                           try dsimp only [List.drop_succ_cons,List.drop_zero,List.take_succ_cons,List.take_zero]
                           simp only [go_sem,hb2,hb6,hb10,hb14,hb18,hb26,hb34,hb36,hb38,hb40,hb47,hb51,hb60]
                           repeat with_reducible refine zN ?_
                           refine hK63 _ ?_
                           as_aux_lemma =>
                            refine adops_cut 4 (fun K' hK64=>?_)
                            try dsimp only [List.drop_succ_cons,List.drop_zero,List.take_succ_cons,List.take_zero]
                            simp only [go_sem,hb2,hb6,hb10,hb14,hb18,hb26,hb34,hb36,hb38,hb40,hb47,hb51,hb60]
                            repeat with_reducible refine zN ?_
                            refine hK64 _ ?_
                            as_aux_lemma =>
                             refine adops_cut 4 (fun K' hK65=>?_)
                             try dsimp only [List.drop_succ_cons,List.drop_zero,List.take_succ_cons,List.take_zero]
                             simp only [go_sem,hb2,hb6,hb10,hb14,hb18,hb26,hb34,hb36,hb38,hb40,hb47,hb51,hb60]
                             repeat with_reducible refine zN ?_
                             refine hK65 _ ?_
                             refine adops_nil ?_
                             refine athen_n ?_
                             refine zV [(3,.sl (.int .i64) ranks),(6,.bp 6 0),(17,.own 79000),(22,.bool st1.1),(200,.own 190000),(201,.int .i64 (v0_20.1.length:Int)),(202,.int .i64 st1.2),(234,.bool true)] [(6,.box 24 [.int .i64 g.1,.sl Y7 g.2]),(79000,.arr 3 (.int .i64) v0_13.1),(190000,.arr 3 (.int .i64) v0_20.1)] gt ?_
                             as_aux_lemma =>
                              refine AW.cond (b:=true) rfl (fun _=>?_) (fun hb66=>by cases hb66)
                              refine zo ?_
                              refine zB [(12,.bool false)] [] ?_
                              refine AW.ret ?_
                              refine ablock_r ?_
                              refine athen_r ?_
                              obtain rfl:=Option.some.inj h
                              rw [← hd44 _ rfl] at ho43
                              have h:=ho43
                              try simp only at h
                              refine athen_r ?_
                              refine ablock_r ?_
                              refine athen_r ?_
                              obtain rfl:=Option.some.inj h
                              exact zR [] [] []
                       ·simp only [hb60]
                        as_aux_lemma =>
                         refine adops_cut 2 (fun K' hK67=>?_)
                         try dsimp only [List.drop_succ_cons,List.drop_zero,List.take_succ_cons,List.take_zero]
                         simp only [go_sem,hb2,hb6,hb10,hb14,hb18,hb26,hb34,hb36,hb38,hb40,hb47,hb51,hb60]
                         repeat with_reducible refine zN ?_
                         refine hK67 _ ?_
                         as_aux_lemma =>
                          rcases zI h with ⟨hb68,h⟩ | ⟨hb68,h⟩
                          ·simp only [hb68]
                           as_aux_lemma =>
                            refine adops_cut 6 (fun K' hK69=>?_)
                            try dsimp only [List.drop_succ_cons,List.drop_zero,List.take_succ_cons,List.take_zero]
                            simp only [go_sem,hb2,hb6,hb10,hb14,hb18,hb26,hb34,hb36,hb38,hb40,hb47,hb51,hb60,hb68]
                            repeat with_reducible refine zN ?_
                            refine hK69 _ ?_
                            as_aux_lemma =>
                             rcases zI h with ⟨hb70,h⟩ | ⟨hb70,h⟩
                             ·simp only [hb70]
                              as_aux_lemma =>
                               refine adops_cut 4 (fun K' hK71=>?_)
                               try dsimp only [List.drop_succ_cons,List.drop_zero,List.take_succ_cons,List.take_zero]
                               simp only [go_sem,hb2,hb6,hb10,hb14,hb18,hb26,hb34,hb36,hb38,hb40,hb47,hb51,hb60,hb68,hb70]
                               repeat with_reducible refine zN ?_
                               refine hK71 _ ?_
                               as_aux_lemma =>
                                refine adops_cut 4 (fun K' hK72=>?_)
                                try dsimp only [List.drop_succ_cons,List.drop_zero,List.take_succ_cons,List.take_zero]
                                simp only [go_sem,hb2,hb6,hb10,hb14,hb18,hb26,hb34,hb36,hb38,hb40,hb47,hb51,hb60,hb68,hb70]
                                repeat with_reducible refine zN ?_
                                refine hK72 _ ?_
                                as_aux_lemma =>
                                 refine adops_cut 4 (fun K' hK73=>?_)
                                 try dsimp only [List.drop_succ_cons,List.drop_zero,List.take_succ_cons,List.take_zero]
                                 simp only [go_sem,hb2,hb6,hb10,hb14,hb18,hb26,hb34,hb36,hb38,hb40,hb47,hb51,hb60,hb68,hb70]
                                 repeat with_reducible refine zN ?_
                                 refine hK73 _ ?_
                                 refine adops_nil ?_
                                 refine athen_n ?_
                                 refine zV [(3,.sl (.int .i64) ranks),(6,.bp 6 0),(17,.own 79000),(22,.bool true),(200,.own 190000),(201,.int .i64 (v0_20.1.length:Int)),(202,.int .i64 st1.2),(234,.bool true)] [(6,.box 24 [.int .i64 g.1,.sl Y7 g.2]),(79000,.arr 3 (.int .i64) v0_13.1),(190000,.arr 3 (.int .i64) v0_20.1)] gt ?_
                                 as_aux_lemma =>
                                  refine AW.cond (b:=true) rfl (fun _=>?_) (fun hb74=>by cases hb74)
                                  refine zo ?_
                                  refine zB [(12,.bool false)] [] ?_
                                  refine AW.ret ?_
                                  refine ablock_r ?_
                                  refine athen_r ?_
                                  obtain rfl:=Option.some.inj h
                                  rw [← hd44 _ rfl] at ho43
                                  have h:=ho43
                                  try simp only at h
                                  refine athen_r ?_
                                  refine ablock_r ?_
                                  refine athen_r ?_
                                  obtain rfl:=Option.some.inj h
                                  exact zR [] [] []
                             ·simp only [hb70]
                              as_aux_lemma =>
                               obtain ⟨c76,h⟩:=ck_some.1 h
                               obtain ⟨c77,h⟩:=ck_some.1 h
                               refine adops_cut 6 (fun K' hK75=>?_)
                               try dsimp only [List.drop_succ_cons,List.drop_zero,List.take_succ_cons,List.take_zero]
                               simp only [go_sem,hb2,hb6,hb10,hb14,hb18,hb26,hb34,hb36,hb38,hb40,hb47,hb51,hb60,hb68,hb70]
                               repeat with_reducible refine zN ?_
                               refine hK75 _ ?_
                               as_aux_lemma =>
                                obtain ⟨c79,h⟩:=ck_some.1 h
                                obtain ⟨c80,h⟩:=ck_some.1 h
                                refine adops_cut 6 (fun K' hK78=>?_)
                                try dsimp only [List.drop_succ_cons,List.drop_zero,List.take_succ_cons,List.take_zero]
                                simp only [go_sem,hb2,hb6,hb10,hb14,hb18,hb26,hb34,hb36,hb38,hb40,hb47,hb51,hb60,hb68,hb70]
                                repeat with_reducible refine zN ?_
                                refine hK78 _ ?_
                                refine adops_nil ?_
                                refine athen_n ?_
                                refine zV [(3,.sl (.int .i64) ranks),(6,.bp 6 0),(17,.own 79000),(22,.bool true),(200,.own 190000),(201,.int .i64 (v0_20.1.length:Int)),(202,.int .i64 st1.2),(234,.bool (decide ((ranks.getD (v0_20.1.getD st1.2.toNat 0).toNat 0) < (v0_13.1.getD (v0_20.1.getD st1.2.toNat 0).toNat 0))))] [(6,.box 24 [.int .i64 g.1,.sl Y7 g.2]),(79000,.arr 3 (.int .i64) v0_13.1),(190000,.arr 3 (.int .i64) v0_20.1)] gt ?_
                                as_aux_lemma =>
                                 refine zQ h (fun hb81 h=>?_) (fun hb81 h=>?_)
                                 ·refine zo ?_
                                  refine zB [(12,.bool false)] [] ?_
                                  refine AW.ret ?_
                                  refine ablock_r ?_
                                  refine athen_r ?_
                                  obtain rfl:=Option.some.inj h
                                  rw [← hd44 _ rfl] at ho43
                                  have h:=ho43
                                  try simp only at h
                                  refine athen_r ?_
                                  refine ablock_r ?_
                                  refine athen_r ?_
                                  obtain rfl:=Option.some.inj h
                                  exact zR [] [] []
                                 ·refine zm ?_
                                  refine athen_n ?_
                                  refine AW.ops ?_
                                  obtain ⟨c82,h⟩:=ck_some.1 h
                                  refine zA [(3,.sl (.int .i64) ranks),(6,.bp 6 0),(17,.own 79000),(22,.bool true),(200,.own 190000),(201,.int .i64 (v0_20.1.length:Int)),(202,.int .i64 (st1.2 + 1))] [(6,.box 24 [.int .i64 g.1,.sl Y7 g.2]),(79000,.arr 3 (.int .i64) v0_13.1),(190000,.arr 3 (.int .i64) v0_20.1)] ?_
                                  obtain rfl:=Option.some.inj h
                                  exact ⟨_,rfl,zL [] [] []⟩
                          ·simp only [hb68]
                           as_aux_lemma =>
                            refine adops_cut 4 (fun K' hK83=>?_)
                            try dsimp only [List.drop_succ_cons,List.drop_zero,List.take_succ_cons,List.take_zero]
                            simp only [go_sem,hb2,hb6,hb10,hb14,hb18,hb26,hb34,hb36,hb38,hb40,hb47,hb51,hb60,hb68]
                            repeat with_reducible refine zN ?_
                            refine hK83 _ ?_
                            as_aux_lemma =>
                             refine adops_cut 4 (fun K' hK84=>?_)
                             try dsimp only [List.drop_succ_cons,List.drop_zero,List.take_succ_cons,List.take_zero]
                             simp only [go_sem,hb2,hb6,hb10,hb14,hb18,hb26,hb34,hb36,hb38,hb40,hb47,hb51,hb60,hb68]
                             repeat with_reducible refine zN ?_
                             refine hK84 _ ?_
                             as_aux_lemma =>
                              refine adops_cut 4 (fun K' hK85=>?_)
                              try dsimp only [List.drop_succ_cons,List.drop_zero,List.take_succ_cons,List.take_zero]
                              simp only [go_sem,hb2,hb6,hb10,hb14,hb18,hb26,hb34,hb36,hb38,hb40,hb47,hb51,hb60,hb68]
                              repeat with_reducible refine zN ?_
                              refine hK85 _ ?_
                              as_aux_lemma =>
                               refine adops_cut 4 (fun K' hK86=>?_)
                               try dsimp only [List.drop_succ_cons,List.drop_zero,List.take_succ_cons,List.take_zero]
                               simp only [go_sem,hb2,hb6,hb10,hb14,hb18,hb26,hb34,hb36,hb38,hb40,hb47,hb51,hb60,hb68]
                               repeat with_reducible refine zN ?_
                               refine hK86 _ ?_
                               as_aux_lemma =>
                                refine adops_cut 2 (fun K' hK87=>?_)
                                try dsimp only [List.drop_succ_cons,List.drop_zero,List.take_succ_cons,List.take_zero]
                                simp only [go_sem,hb2,hb6,hb10,hb14,hb18,hb26,hb34,hb36,hb38,hb40,hb47,hb51,hb60,hb68]
                                repeat with_reducible refine zN ?_
                                refine hK87 _ ?_
                                refine adops_nil ?_
                                refine athen_n ?_
                                refine zV [(3,.sl (.int .i64) ranks),(6,.bp 6 0),(17,.own 79000),(22,.bool false),(200,.own 190000),(201,.int .i64 (v0_20.1.length:Int)),(202,.int .i64 st1.2),(234,.bool false)] [(6,.box 24 [.int .i64 g.1,.sl Y7 g.2]),(79000,.arr 3 (.int .i64) v0_13.1),(190000,.arr 3 (.int .i64) v0_20.1)] gt ?_
                                as_aux_lemma =>
                                 refine AW.cond (b:=false) rfl (fun hb88=>by cases hb88) (fun _=>?_)
                                 refine zm ?_
                                 refine athen_n ?_
                                 refine AW.ops ?_
                                 obtain ⟨c89,h⟩:=ck_some.1 h
                                 refine zA [(3,.sl (.int .i64) ranks),(6,.bp 6 0),(17,.own 79000),(22,.bool false),(200,.own 190000),(201,.int .i64 (v0_20.1.length:Int)),(202,.int .i64 (st1.2 + 1))] [(6,.box 24 [.int .i64 g.1,.sl Y7 g.2]),(79000,.arr 3 (.int .i64) v0_13.1),(190000,.arr 3 (.int .i64) v0_20.1)] ?_
                                 obtain rfl:=Option.some.inj h
                                 exact ⟨_,rfl,zL [] [] []⟩
                 ·refine AW.exit ?_
                  refine athen_e ?_
                  obtain rfl:=Option.some.inj h
                  rw [← hd44 _ rfl] at ho43
                  have h:=ho43
                  try simp only at h
                  refine athen_e ?_
                  refine ablock_s ?_
                  refine athen_n ?_
                  exact AW.weaken (zL [] [] []) (hk_lineallaw07_ProgressEither_k3 () h)
        ·refine AW.seq ?_
         refine zo ?_
         refine zS 3 [(3,.sl (.int .i64) ranks),(6,.bp 6 0),(13,.int .i64 v0_11.1),(14,.int .i64 v0_11.2),(15,.bool v0_12.1),(16,.int .i64 v0_15.2),(17,.own 79000),(18,.int .i64 v0_16.2),(19,.sl (.int .i64) v0_14.1),(20,.own 86000),(22,.bool v0_15.1),(23,.bool v0_16.1),(125,.bool (!(decide (v0_15.2=0))))] [(6,.box 24 [.int .i64 g.1,.sl Y7 g.2]),(79000,.arr 3 (.int .i64) v0_13.1),(86000,.arr 3 (.int .i64) v0_14.2.1)] ?_
         rcases zI h with ⟨hb90,h⟩ | ⟨hb90,h⟩
         ·refine zS 4 [(3,.sl (.int .i64) ranks),(6,.bp 6 0),(13,.int .i64 v0_11.1),(14,.int .i64 v0_11.2),(15,.bool v0_12.1),(17,.own 79000),(18,.int .i64 v0_16.2),(19,.sl (.int .i64) v0_14.1),(20,.own 86000),(22,.bool v0_15.1),(23,.bool v0_16.1),(129,.bool (!(decide (v0_15.2=2))))] [(6,.box 24 [.int .i64 g.1,.sl Y7 g.2]),(79000,.arr 3 (.int .i64) v0_13.1),(86000,.arr 3 (.int .i64) v0_14.2.1)] ?_
          rcases zI h with ⟨hb91,h⟩ | ⟨hb91,h⟩
          ·refine zS 5 [(3,.sl (.int .i64) ranks),(6,.bp 6 0),(13,.int .i64 v0_11.1),(14,.int .i64 v0_11.2),(15,.bool v0_12.1),(17,.own 79000),(19,.sl (.int .i64) v0_14.1),(20,.own 86000),(22,.bool v0_15.1),(23,.bool v0_16.1),(133,.bool true),(134,.cv (undef))] [(6,.box 24 [.int .i64 g.1,.sl Y7 g.2]),(79000,.arr 3 (.int .i64) v0_13.1),(86000,.arr 3 (.int .i64) v0_14.2.1)] ?_
           refine zS 4 [(3,.sl (.int .i64) ranks),(6,.bp 6 0),(13,.int .i64 v0_11.1),(14,.int .i64 v0_11.2),(15,.bool v0_12.1),(17,.own 79000),(19,.sl (.int .i64) v0_14.1),(20,.own 86000),(22,.bool v0_15.1),(23,.bool v0_16.1),(133,.bool true),(138,.cv (undef))] [(6,.box 24 [.int .i64 g.1,.sl Y7 g.2]),(79000,.arr 3 (.int .i64) v0_13.1),(86000,.arr 3 (.int .i64) v0_14.2.1)] ?_
           refine zS 5 [(3,.sl (.int .i64) ranks),(6,.bp 6 0),(13,.int .i64 v0_11.1),(14,.int .i64 v0_11.2),(15,.bool v0_12.1),(17,.own 79000),(19,.sl (.int .i64) v0_14.1),(20,.own 86000),(22,.bool v0_15.1),(140,.bool true),(142,.cv (undef)),(143,.cv (undef))] [(6,.box 24 [.int .i64 g.1,.sl Y7 g.2]),(79000,.arr 3 (.int .i64) v0_13.1),(86000,.arr 3 (.int .i64) v0_14.2.1)] ?_
           refine zB [(3,.sl (.int .i64) ranks),(6,.bp 6 0),(13,.int .i64 v0_11.1),(14,.int .i64 v0_11.2),(15,.bool v0_12.1),(17,.own 79000),(19,.sl (.int .i64) v0_14.1),(20,.own 86000),(22,.bool v0_15.1),(145,.bool true)] [(6,.box 24 [.int .i64 g.1,.sl Y7 g.2]),(79000,.arr 3 (.int .i64) v0_13.1),(86000,.arr 3 (.int .i64) v0_14.2.1)] ?_
           refine AW.cond (b:=true) rfl (fun _=>?_) (fun hb92=>by cases hb92)
           refine zo ?_
           refine zB [(12,.bool false)] [] ?_
           refine zr ?_
           obtain rfl:=Option.some.inj h
           exact zR [] [] []
          ·refine zS 4 [(3,.sl (.int .i64) ranks),(6,.bp 6 0),(13,.int .i64 v0_11.1),(14,.int .i64 v0_11.2),(15,.bool v0_12.1),(17,.own 79000),(19,.sl (.int .i64) v0_14.1),(20,.own 86000),(22,.bool v0_15.1),(23,.bool v0_16.1),(133,.bool (!(decide (v0_16.2=0))))] [(6,.box 24 [.int .i64 g.1,.sl Y7 g.2]),(79000,.arr 3 (.int .i64) v0_13.1),(86000,.arr 3 (.int .i64) v0_14.2.1)] ?_
           rcases zI h with ⟨hb93,h⟩ | ⟨hb93,h⟩
           ·refine zS 4 [(3,.sl (.int .i64) ranks),(6,.bp 6 0),(13,.int .i64 v0_11.1),(14,.int .i64 v0_11.2),(15,.bool v0_12.1),(17,.own 79000),(19,.sl (.int .i64) v0_14.1),(20,.own 86000),(22,.bool v0_15.1),(23,.bool v0_16.1),(133,.bool true),(135,.cv (undef)),(137,.cv (undef))] [(6,.box 24 [.int .i64 g.1,.sl Y7 g.2]),(79000,.arr 3 (.int .i64) v0_13.1),(86000,.arr 3 (.int .i64) v0_14.2.1)] ?_
            refine zS 5 [(3,.sl (.int .i64) ranks),(6,.bp 6 0),(13,.int .i64 v0_11.1),(14,.int .i64 v0_11.2),(15,.bool v0_12.1),(17,.own 79000),(19,.sl (.int .i64) v0_14.1),(20,.own 86000),(22,.bool v0_15.1),(140,.bool true),(142,.cv (undef))] [(6,.box 24 [.int .i64 g.1,.sl Y7 g.2]),(79000,.arr 3 (.int .i64) v0_13.1),(86000,.arr 3 (.int .i64) v0_14.2.1)] ?_
            refine zB [(3,.sl (.int .i64) ranks),(6,.bp 6 0),(13,.int .i64 v0_11.1),(14,.int .i64 v0_11.2),(15,.bool v0_12.1),(17,.own 79000),(19,.sl (.int .i64) v0_14.1),(20,.own 86000),(22,.bool v0_15.1),(145,.bool true)] [(6,.box 24 [.int .i64 g.1,.sl Y7 g.2]),(79000,.arr 3 (.int .i64) v0_13.1),(86000,.arr 3 (.int .i64) v0_14.2.1)] ?_
            refine AW.cond (b:=true) rfl (fun _=>?_) (fun hb94=>by cases hb94)
            refine zo ?_
            refine zB [(12,.bool false)] [] ?_
            refine zr ?_
            obtain rfl:=Option.some.inj h
            exact zR [] [] []
           ·refine zS 2 [(3,.sl (.int .i64) ranks),(6,.bp 6 0),(13,.int .i64 v0_11.1),(14,.int .i64 v0_11.2),(15,.bool v0_12.1),(17,.own 79000),(19,.sl (.int .i64) v0_14.1),(20,.own 86000),(22,.bool v0_15.1),(23,.bool v0_16.1),(133,.bool false),(135,.bool v0_15.1)] [(6,.box 24 [.int .i64 g.1,.sl Y7 g.2]),(79000,.arr 3 (.int .i64) v0_13.1),(86000,.arr 3 (.int .i64) v0_14.2.1)] ?_
            rcases zI h with ⟨hb95,h⟩ | ⟨hb95,h⟩
            ·refine zS 5 [(3,.sl (.int .i64) ranks),(6,.bp 6 0),(13,.int .i64 v0_11.1),(14,.int .i64 v0_11.2),(15,.bool v0_12.1),(17,.own 79000),(19,.sl (.int .i64) v0_14.1),(20,.own 86000),(22,.bool true),(23,.bool v0_16.1),(140,.bool (!v0_12.1))] [(6,.box 24 [.int .i64 g.1,.sl Y7 g.2]),(79000,.arr 3 (.int .i64) v0_13.1),(86000,.arr 3 (.int .i64) v0_14.2.1)] ?_
             rcases zI h with ⟨hb96,h⟩ | ⟨hb96,h⟩
             ·refine zS 4 [(3,.sl (.int .i64) ranks),(6,.bp 6 0),(13,.int .i64 v0_11.1),(14,.int .i64 v0_11.2),(15,.bool v0_12.1),(17,.own 79000),(19,.sl (.int .i64) v0_14.1),(20,.own 86000),(22,.bool true),(140,.bool true),(144,.cv (undef))] [(6,.box 24 [.int .i64 g.1,.sl Y7 g.2]),(79000,.arr 3 (.int .i64) v0_13.1),(86000,.arr 3 (.int .i64) v0_14.2.1)] ?_
              refine zB [(3,.sl (.int .i64) ranks),(6,.bp 6 0),(13,.int .i64 v0_11.1),(14,.int .i64 v0_11.2),(15,.bool v0_12.1),(17,.own 79000),(19,.sl (.int .i64) v0_14.1),(20,.own 86000),(22,.bool true),(145,.bool true)] [(6,.box 24 [.int .i64 g.1,.sl Y7 g.2]),(79000,.arr 3 (.int .i64) v0_13.1),(86000,.arr 3 (.int .i64) v0_14.2.1)] ?_
              refine AW.cond (b:=true) rfl (fun _=>?_) (fun hb97=>by cases hb97)
              refine zo ?_
              refine zB [(12,.bool false)] [] ?_
              refine zr ?_
              obtain rfl:=Option.some.inj h
              exact zR [] [] []
             ·refine zS 2 [(3,.sl (.int .i64) ranks),(6,.bp 6 0),(13,.int .i64 v0_11.1),(14,.int .i64 v0_11.2),(15,.bool v0_12.1),(17,.own 79000),(19,.sl (.int .i64) v0_14.1),(20,.own 86000),(22,.bool true),(140,.bool false),(142,.bool v0_16.1)] [(6,.box 24 [.int .i64 g.1,.sl Y7 g.2]),(79000,.arr 3 (.int .i64) v0_13.1),(86000,.arr 3 (.int .i64) v0_14.2.1)] ?_
              rcases zI h with ⟨hb98,h⟩ | ⟨hb98,h⟩
              ·refine zB [(3,.sl (.int .i64) ranks),(6,.bp 6 0),(13,.int .i64 v0_11.1),(14,.int .i64 v0_11.2),(15,.bool v0_12.1),(17,.own 79000),(19,.sl (.int .i64) v0_14.1),(20,.own 86000),(22,.bool true),(145,.bool v0_12.1)] [(6,.box 24 [.int .i64 g.1,.sl Y7 g.2]),(79000,.arr 3 (.int .i64) v0_13.1),(86000,.arr 3 (.int .i64) v0_14.2.1)] ?_
               refine zQ h (fun hb99 h=>?_) (fun hb99 h=>?_)
               ·refine zo ?_
                refine zB [(12,.bool false)] [] ?_
                refine zr ?_
                obtain rfl:=Option.some.inj h
                exact zR [] [] []
               ·refine zk ?_
                exact AW.weaken (zL [] [] []) (hk_lineallaw07_ProgressEither_k2 _ h)
              ·refine zB [(3,.sl (.int .i64) ranks),(6,.bp 6 0),(13,.int .i64 v0_11.1),(14,.int .i64 v0_11.2),(15,.bool v0_12.1),(17,.own 79000),(19,.sl (.int .i64) v0_14.1),(20,.own 86000),(22,.bool true),(145,.bool false)] [(6,.box 24 [.int .i64 g.1,.sl Y7 g.2]),(79000,.arr 3 (.int .i64) v0_13.1),(86000,.arr 3 (.int .i64) v0_14.2.1)] ?_
               refine AW.cond (b:=false) rfl (fun hb100=>by cases hb100) (fun _=>?_)
               refine zk ?_
               exact AW.weaken (zL [] [] []) (hk_lineallaw07_ProgressEither_k2 _ h)
            ·refine zS 5 [(3,.sl (.int .i64) ranks),(6,.bp 6 0),(13,.int .i64 v0_11.1),(14,.int .i64 v0_11.2),(15,.bool v0_12.1),(17,.own 79000),(19,.sl (.int .i64) v0_14.1),(20,.own 86000),(22,.bool false),(23,.bool v0_16.1),(140,.bool false)] [(6,.box 24 [.int .i64 g.1,.sl Y7 g.2]),(79000,.arr 3 (.int .i64) v0_13.1),(86000,.arr 3 (.int .i64) v0_14.2.1)] ?_
             refine zS 2 [(3,.sl (.int .i64) ranks),(6,.bp 6 0),(13,.int .i64 v0_11.1),(14,.int .i64 v0_11.2),(15,.bool v0_12.1),(17,.own 79000),(19,.sl (.int .i64) v0_14.1),(20,.own 86000),(22,.bool false),(140,.bool false),(142,.bool v0_16.1)] [(6,.box 24 [.int .i64 g.1,.sl Y7 g.2]),(79000,.arr 3 (.int .i64) v0_13.1),(86000,.arr 3 (.int .i64) v0_14.2.1)] ?_
             rcases zI h with ⟨hb101,h⟩ | ⟨hb101,h⟩
             ·refine zB [(3,.sl (.int .i64) ranks),(6,.bp 6 0),(13,.int .i64 v0_11.1),(14,.int .i64 v0_11.2),(15,.bool v0_12.1),(17,.own 79000),(19,.sl (.int .i64) v0_14.1),(20,.own 86000),(22,.bool false),(145,.bool v0_12.1)] [(6,.box 24 [.int .i64 g.1,.sl Y7 g.2]),(79000,.arr 3 (.int .i64) v0_13.1),(86000,.arr 3 (.int .i64) v0_14.2.1)] ?_
              refine zQ h (fun hb102 h=>?_) (fun hb102 h=>?_)
              ·refine zo ?_
               refine zB [(12,.bool false)] [] ?_
               refine zr ?_
               obtain rfl:=Option.some.inj h
               exact zR [] [] []
              ·refine zk ?_
               exact AW.weaken (zL [] [] []) (hk_lineallaw07_ProgressEither_k2 _ h)
             ·refine zB [(3,.sl (.int .i64) ranks),(6,.bp 6 0),(13,.int .i64 v0_11.1),(14,.int .i64 v0_11.2),(15,.bool v0_12.1),(17,.own 79000),(19,.sl (.int .i64) v0_14.1),(20,.own 86000),(22,.bool false),(145,.bool false)] [(6,.box 24 [.int .i64 g.1,.sl Y7 g.2]),(79000,.arr 3 (.int .i64) v0_13.1),(86000,.arr 3 (.int .i64) v0_14.2.1)] ?_
              refine AW.cond (b:=false) rfl (fun hb103=>by cases hb103) (fun _=>?_)
              refine zk ?_
              exact AW.weaken (zL [] [] []) (hk_lineallaw07_ProgressEither_k2 _ h)
         ·refine zS 5 [(3,.sl (.int .i64) ranks),(6,.bp 6 0),(13,.int .i64 v0_11.1),(14,.int .i64 v0_11.2),(15,.bool v0_12.1),(17,.own 79000),(19,.sl (.int .i64) v0_14.1),(20,.own 86000),(22,.bool v0_15.1),(23,.bool v0_16.1),(129,.bool false),(130,.int .i64 v0_16.2)] [(6,.box 24 [.int .i64 g.1,.sl Y7 g.2]),(79000,.arr 3 (.int .i64) v0_13.1),(86000,.arr 3 (.int .i64) v0_14.2.1)] ?_
          refine zS 3 [(3,.sl (.int .i64) ranks),(6,.bp 6 0),(13,.int .i64 v0_11.1),(14,.int .i64 v0_11.2),(15,.bool v0_12.1),(17,.own 79000),(19,.sl (.int .i64) v0_14.1),(20,.own 86000),(22,.bool v0_15.1),(23,.bool v0_16.1),(133,.bool (!(decide (v0_16.2=0))))] [(6,.box 24 [.int .i64 g.1,.sl Y7 g.2]),(79000,.arr 3 (.int .i64) v0_13.1),(86000,.arr 3 (.int .i64) v0_14.2.1)] ?_
          rcases zI h with ⟨hb104,h⟩ | ⟨hb104,h⟩
          ·refine zS 4 [(3,.sl (.int .i64) ranks),(6,.bp 6 0),(13,.int .i64 v0_11.1),(14,.int .i64 v0_11.2),(15,.bool v0_12.1),(17,.own 79000),(19,.sl (.int .i64) v0_14.1),(20,.own 86000),(22,.bool v0_15.1),(23,.bool v0_16.1),(133,.bool true),(135,.cv (undef)),(137,.cv (undef))] [(6,.box 24 [.int .i64 g.1,.sl Y7 g.2]),(79000,.arr 3 (.int .i64) v0_13.1),(86000,.arr 3 (.int .i64) v0_14.2.1)] ?_
           refine zS 5 [(3,.sl (.int .i64) ranks),(6,.bp 6 0),(13,.int .i64 v0_11.1),(14,.int .i64 v0_11.2),(15,.bool v0_12.1),(17,.own 79000),(19,.sl (.int .i64) v0_14.1),(20,.own 86000),(22,.bool v0_15.1),(140,.bool true),(142,.cv (undef))] [(6,.box 24 [.int .i64 g.1,.sl Y7 g.2]),(79000,.arr 3 (.int .i64) v0_13.1),(86000,.arr 3 (.int .i64) v0_14.2.1)] ?_
           refine zB [(3,.sl (.int .i64) ranks),(6,.bp 6 0),(13,.int .i64 v0_11.1),(14,.int .i64 v0_11.2),(15,.bool v0_12.1),(17,.own 79000),(19,.sl (.int .i64) v0_14.1),(20,.own 86000),(22,.bool v0_15.1),(145,.bool true)] [(6,.box 24 [.int .i64 g.1,.sl Y7 g.2]),(79000,.arr 3 (.int .i64) v0_13.1),(86000,.arr 3 (.int .i64) v0_14.2.1)] ?_
           refine AW.cond (b:=true) rfl (fun _=>?_) (fun hb105=>by cases hb105)
           refine zo ?_
           refine zB [(12,.bool false)] [] ?_
           refine zr ?_
           obtain rfl:=Option.some.inj h
           exact zR [] [] []
          ·refine zS 2 [(3,.sl (.int .i64) ranks),(6,.bp 6 0),(13,.int .i64 v0_11.1),(14,.int .i64 v0_11.2),(15,.bool v0_12.1),(17,.own 79000),(19,.sl (.int .i64) v0_14.1),(20,.own 86000),(22,.bool v0_15.1),(23,.bool v0_16.1),(133,.bool false),(135,.bool v0_15.1)] [(6,.box 24 [.int .i64 g.1,.sl Y7 g.2]),(79000,.arr 3 (.int .i64) v0_13.1),(86000,.arr 3 (.int .i64) v0_14.2.1)] ?_
           rcases zI h with ⟨hb106,h⟩ | ⟨hb106,h⟩
           ·refine zS 5 [(3,.sl (.int .i64) ranks),(6,.bp 6 0),(13,.int .i64 v0_11.1),(14,.int .i64 v0_11.2),(15,.bool v0_12.1),(17,.own 79000),(19,.sl (.int .i64) v0_14.1),(20,.own 86000),(22,.bool true),(23,.bool v0_16.1),(140,.bool (!v0_12.1))] [(6,.box 24 [.int .i64 g.1,.sl Y7 g.2]),(79000,.arr 3 (.int .i64) v0_13.1),(86000,.arr 3 (.int .i64) v0_14.2.1)] ?_
            rcases zI h with ⟨hb107,h⟩ | ⟨hb107,h⟩
            ·refine zS 4 [(3,.sl (.int .i64) ranks),(6,.bp 6 0),(13,.int .i64 v0_11.1),(14,.int .i64 v0_11.2),(15,.bool v0_12.1),(17,.own 79000),(19,.sl (.int .i64) v0_14.1),(20,.own 86000),(22,.bool true),(140,.bool true),(144,.cv (undef))] [(6,.box 24 [.int .i64 g.1,.sl Y7 g.2]),(79000,.arr 3 (.int .i64) v0_13.1),(86000,.arr 3 (.int .i64) v0_14.2.1)] ?_
             refine zB [(3,.sl (.int .i64) ranks),(6,.bp 6 0),(13,.int .i64 v0_11.1),(14,.int .i64 v0_11.2),(15,.bool v0_12.1),(17,.own 79000),(19,.sl (.int .i64) v0_14.1),(20,.own 86000),(22,.bool true),(145,.bool true)] [(6,.box 24 [.int .i64 g.1,.sl Y7 g.2]),(79000,.arr 3 (.int .i64) v0_13.1),(86000,.arr 3 (.int .i64) v0_14.2.1)] ?_
             refine AW.cond (b:=true) rfl (fun _=>?_) (fun hb108=>by cases hb108)
             refine zo ?_
             refine zB [(12,.bool false)] [] ?_
             refine zr ?_
             obtain rfl:=Option.some.inj h
             exact zR [] [] []
            ·refine zS 2 [(3,.sl (.int .i64) ranks),(6,.bp 6 0),(13,.int .i64 v0_11.1),(14,.int .i64 v0_11.2),(15,.bool v0_12.1),(17,.own 79000),(19,.sl (.int .i64) v0_14.1),(20,.own 86000),(22,.bool true),(140,.bool false),(142,.bool v0_16.1)] [(6,.box 24 [.int .i64 g.1,.sl Y7 g.2]),(79000,.arr 3 (.int .i64) v0_13.1),(86000,.arr 3 (.int .i64) v0_14.2.1)] ?_
             rcases zI h with ⟨hb109,h⟩ | ⟨hb109,h⟩
             ·refine zB [(3,.sl (.int .i64) ranks),(6,.bp 6 0),(13,.int .i64 v0_11.1),(14,.int .i64 v0_11.2),(15,.bool v0_12.1),(17,.own 79000),(19,.sl (.int .i64) v0_14.1),(20,.own 86000),(22,.bool true),(145,.bool v0_12.1)] [(6,.box 24 [.int .i64 g.1,.sl Y7 g.2]),(79000,.arr 3 (.int .i64) v0_13.1),(86000,.arr 3 (.int .i64) v0_14.2.1)] ?_
              refine zQ h (fun hb110 h=>?_) (fun hb110 h=>?_)
              ·refine zo ?_
               refine zB [(12,.bool false)] [] ?_
               refine zr ?_
               obtain rfl:=Option.some.inj h
               exact zR [] [] []
              ·refine zk ?_
               exact AW.weaken (zL [] [] []) (hk_lineallaw07_ProgressEither_k2 _ h)
             ·refine zB [(3,.sl (.int .i64) ranks),(6,.bp 6 0),(13,.int .i64 v0_11.1),(14,.int .i64 v0_11.2),(15,.bool v0_12.1),(17,.own 79000),(19,.sl (.int .i64) v0_14.1),(20,.own 86000),(22,.bool true),(145,.bool false)] [(6,.box 24 [.int .i64 g.1,.sl Y7 g.2]),(79000,.arr 3 (.int .i64) v0_13.1),(86000,.arr 3 (.int .i64) v0_14.2.1)] ?_
              refine AW.cond (b:=false) rfl (fun hb111=>by cases hb111) (fun _=>?_)
              refine zk ?_
              exact AW.weaken (zL [] [] []) (hk_lineallaw07_ProgressEither_k2 _ h)
           ·refine zS 5 [(3,.sl (.int .i64) ranks),(6,.bp 6 0),(13,.int .i64 v0_11.1),(14,.int .i64 v0_11.2),(15,.bool v0_12.1),(17,.own 79000),(19,.sl (.int .i64) v0_14.1),(20,.own 86000),(22,.bool false),(23,.bool v0_16.1),(140,.bool false)] [(6,.box 24 [.int .i64 g.1,.sl Y7 g.2]),(79000,.arr 3 (.int .i64) v0_13.1),(86000,.arr 3 (.int .i64) v0_14.2.1)] ?_
            refine zS 2 [(3,.sl (.int .i64) ranks),(6,.bp 6 0),(13,.int .i64 v0_11.1),(14,.int .i64 v0_11.2),(15,.bool v0_12.1),(17,.own 79000),(19,.sl (.int .i64) v0_14.1),(20,.own 86000),(22,.bool false),(140,.bool false),(142,.bool v0_16.1)] [(6,.box 24 [.int .i64 g.1,.sl Y7 g.2]),(79000,.arr 3 (.int .i64) v0_13.1),(86000,.arr 3 (.int .i64) v0_14.2.1)] ?_
            rcases zI h with ⟨hb112,h⟩ | ⟨hb112,h⟩
            ·refine zB [(3,.sl (.int .i64) ranks),(6,.bp 6 0),(13,.int .i64 v0_11.1),(14,.int .i64 v0_11.2),(15,.bool v0_12.1),(17,.own 79000),(19,.sl (.int .i64) v0_14.1),(20,.own 86000),(22,.bool false),(145,.bool v0_12.1)] [(6,.box 24 [.int .i64 g.1,.sl Y7 g.2]),(79000,.arr 3 (.int .i64) v0_13.1),(86000,.arr 3 (.int .i64) v0_14.2.1)] ?_
             refine zQ h (fun hb113 h=>?_) (fun hb113 h=>?_)
             ·refine zo ?_
              refine zB [(12,.bool false)] [] ?_
              refine zr ?_
              obtain rfl:=Option.some.inj h
              exact zR [] [] []
             ·refine zk ?_
              exact AW.weaken (zL [] [] []) (hk_lineallaw07_ProgressEither_k2 _ h)
            ·refine zB [(3,.sl (.int .i64) ranks),(6,.bp 6 0),(13,.int .i64 v0_11.1),(14,.int .i64 v0_11.2),(15,.bool v0_12.1),(17,.own 79000),(19,.sl (.int .i64) v0_14.1),(20,.own 86000),(22,.bool false),(145,.bool false)] [(6,.box 24 [.int .i64 g.1,.sl Y7 g.2]),(79000,.arr 3 (.int .i64) v0_13.1),(86000,.arr 3 (.int .i64) v0_14.2.1)] ?_
             refine AW.cond (b:=false) rfl (fun hb114=>by cases hb114) (fun _=>?_)
             refine zk ?_
             exact AW.weaken (zL [] [] []) (hk_lineallaw07_ProgressEither_k2 _ h)
      ·refine AW.seq ?_
       refine zo ?_
       refine zS 3 [(3,.sl (.int .i64) ranks),(4,.sl (.int .i64) path),(5,.sl (.int .i64) circle),(6,.bp 6 0),(13,.int .i64 v0_11.1),(14,.int .i64 v0_11.2),(15,.bool v0_12.1),(17,.own 79000),(18,.int .i64 v0_13.2),(19,.sl (.int .i64) v0_14.1),(20,.own 86000),(21,.int .i64 v0_14.2.2),(82,.bool (!(decide (v0_12.2=0))))] [(6,.box 24 [.int .i64 g.1,.sl Y7 g.2]),(79000,.arr 3 (.int .i64) v0_13.1),(86000,.arr 3 (.int .i64) v0_14.2.1)] ?_
       rcases zI h with ⟨hb115,h⟩ | ⟨hb115,h⟩
       ·refine zS 4 [(3,.sl (.int .i64) ranks),(4,.sl (.int .i64) path),(5,.sl (.int .i64) circle),(6,.bp 6 0),(13,.int .i64 v0_11.1),(14,.int .i64 v0_11.2),(15,.bool v0_12.1),(17,.own 79000),(18,.int .i64 v0_13.2),(19,.sl (.int .i64) v0_14.1),(20,.own 86000),(21,.int .i64 v0_14.2.2),(82,.bool true),(86,.cv (undef))] [(6,.box 24 [.int .i64 g.1,.sl Y7 g.2]),(79000,.arr 3 (.int .i64) v0_13.1),(86000,.arr 3 (.int .i64) v0_14.2.1)] ?_
        refine zS 5 [(3,.sl (.int .i64) ranks),(4,.sl (.int .i64) path),(5,.sl (.int .i64) circle),(6,.bp 6 0),(13,.int .i64 v0_11.1),(14,.int .i64 v0_11.2),(15,.bool v0_12.1),(17,.own 79000),(18,.int .i64 v0_13.2),(19,.sl (.int .i64) v0_14.1),(20,.own 86000),(21,.int .i64 v0_14.2.2),(88,.bool true),(89,.cv (undef)),(91,.cv (undef))] [(6,.box 24 [.int .i64 g.1,.sl Y7 g.2]),(79000,.arr 3 (.int .i64) v0_13.1),(86000,.arr 3 (.int .i64) v0_14.2.1)] ?_
        refine zS 5 [(3,.sl (.int .i64) ranks),(4,.sl (.int .i64) path),(5,.sl (.int .i64) circle),(6,.bp 6 0),(13,.int .i64 v0_11.1),(14,.int .i64 v0_11.2),(15,.bool v0_12.1),(17,.own 79000),(18,.int .i64 v0_13.2),(19,.sl (.int .i64) v0_14.1),(20,.own 86000),(21,.int .i64 v0_14.2.2),(94,.bool true),(96,.cv (undef))] [(6,.box 24 [.int .i64 g.1,.sl Y7 g.2]),(79000,.arr 3 (.int .i64) v0_13.1),(86000,.arr 3 (.int .i64) v0_14.2.1)] ?_
        refine zS 4 [(3,.sl (.int .i64) ranks),(4,.sl (.int .i64) path),(5,.sl (.int .i64) circle),(6,.bp 6 0),(13,.int .i64 v0_11.1),(14,.int .i64 v0_11.2),(15,.bool v0_12.1),(17,.own 79000),(19,.sl (.int .i64) v0_14.1),(20,.own 86000),(21,.int .i64 v0_14.2.2),(94,.bool true),(97,.cv (undef)),(100,.cv (undef))] [(6,.box 24 [.int .i64 g.1,.sl Y7 g.2]),(79000,.arr 3 (.int .i64) v0_13.1),(86000,.arr 3 (.int .i64) v0_14.2.1)] ?_
        refine zS 4 [(3,.sl (.int .i64) ranks),(4,.sl (.int .i64) path),(5,.sl (.int .i64) circle),(6,.bp 6 0),(13,.int .i64 v0_11.1),(14,.int .i64 v0_11.2),(15,.bool v0_12.1),(17,.own 79000),(19,.sl (.int .i64) v0_14.1),(20,.own 86000),(94,.bool true),(104,.cv (undef))] [(6,.box 24 [.int .i64 g.1,.sl Y7 g.2]),(79000,.arr 3 (.int .i64) v0_13.1),(86000,.arr 3 (.int .i64) v0_14.2.1)] ?_
        refine zB [(3,.sl (.int .i64) ranks),(4,.sl (.int .i64) path),(5,.sl (.int .i64) circle),(6,.bp 6 0),(13,.int .i64 v0_11.1),(14,.int .i64 v0_11.2),(15,.bool v0_12.1),(17,.own 79000),(19,.sl (.int .i64) v0_14.1),(20,.own 86000),(105,.bool true)] [(6,.box 24 [.int .i64 g.1,.sl Y7 g.2]),(79000,.arr 3 (.int .i64) v0_13.1),(86000,.arr 3 (.int .i64) v0_14.2.1)] ?_
        refine AW.cond (b:=true) rfl (fun _=>?_) (fun hb116=>by cases hb116)
        refine zo ?_
        refine zB [(12,.bool false)] [] ?_
        refine zr ?_
        obtain rfl:=Option.some.inj h
        exact zR [] [] []
       ·refine zS 5 [(3,.sl (.int .i64) ranks),(4,.sl (.int .i64) path),(5,.sl (.int .i64) circle),(6,.bp 6 0),(13,.int .i64 v0_11.1),(14,.int .i64 v0_11.2),(15,.bool v0_12.1),(17,.own 79000),(18,.int .i64 v0_13.2),(19,.sl (.int .i64) v0_14.1),(20,.own 86000),(21,.int .i64 v0_14.2.2),(87,.bool ((v0_12.1 == (decide (v0_13.2=0))) != true))] [(6,.box 24 [.int .i64 g.1,.sl Y7 g.2]),(79000,.arr 3 (.int .i64) v0_13.1),(86000,.arr 3 (.int .i64) v0_14.2.1)] ?_
        refine zS 1 [(3,.sl (.int .i64) ranks),(4,.sl (.int .i64) path),(5,.sl (.int .i64) circle),(6,.bp 6 0),(13,.int .i64 v0_11.1),(14,.int .i64 v0_11.2),(15,.bool v0_12.1),(17,.own 79000),(18,.int .i64 v0_13.2),(19,.sl (.int .i64) v0_14.1),(20,.own 86000),(21,.int .i64 v0_14.2.2),(88,.bool ((v0_12.1 == (decide (v0_13.2=0))) != true))] [(6,.box 24 [.int .i64 g.1,.sl Y7 g.2]),(79000,.arr 3 (.int .i64) v0_13.1),(86000,.arr 3 (.int .i64) v0_14.2.1)] ?_
        rcases zI h with ⟨hb117,h⟩ | ⟨hb117,h⟩
        ·refine zS 4 [(3,.sl (.int .i64) ranks),(4,.sl (.int .i64) path),(5,.sl (.int .i64) circle),(6,.bp 6 0),(13,.int .i64 v0_11.1),(14,.int .i64 v0_11.2),(15,.bool v0_12.1),(17,.own 79000),(18,.int .i64 v0_13.2),(19,.sl (.int .i64) v0_14.1),(20,.own 86000),(21,.int .i64 v0_14.2.2),(88,.bool true),(92,.cv (undef))] [(6,.box 24 [.int .i64 g.1,.sl Y7 g.2]),(79000,.arr 3 (.int .i64) v0_13.1),(86000,.arr 3 (.int .i64) v0_14.2.1)] ?_
         refine zS 5 [(3,.sl (.int .i64) ranks),(4,.sl (.int .i64) path),(5,.sl (.int .i64) circle),(6,.bp 6 0),(13,.int .i64 v0_11.1),(14,.int .i64 v0_11.2),(15,.bool v0_12.1),(17,.own 79000),(18,.int .i64 v0_13.2),(19,.sl (.int .i64) v0_14.1),(20,.own 86000),(21,.int .i64 v0_14.2.2),(94,.bool true),(97,.cv (undef))] [(6,.box 24 [.int .i64 g.1,.sl Y7 g.2]),(79000,.arr 3 (.int .i64) v0_13.1),(86000,.arr 3 (.int .i64) v0_14.2.1)] ?_
         refine zS 4 [(3,.sl (.int .i64) ranks),(4,.sl (.int .i64) path),(5,.sl (.int .i64) circle),(6,.bp 6 0),(13,.int .i64 v0_11.1),(14,.int .i64 v0_11.2),(15,.bool v0_12.1),(17,.own 79000),(19,.sl (.int .i64) v0_14.1),(20,.own 86000),(94,.bool true),(97,.cv (undef)),(100,.cv (undef)),(101,.cv (undef))] [(6,.box 24 [.int .i64 g.1,.sl Y7 g.2]),(79000,.arr 3 (.int .i64) v0_13.1),(86000,.arr 3 (.int .i64) v0_14.2.1)] ?_
         refine zB [(3,.sl (.int .i64) ranks),(4,.sl (.int .i64) path),(5,.sl (.int .i64) circle),(6,.bp 6 0),(13,.int .i64 v0_11.1),(14,.int .i64 v0_11.2),(15,.bool v0_12.1),(17,.own 79000),(19,.sl (.int .i64) v0_14.1),(20,.own 86000),(105,.bool true)] [(6,.box 24 [.int .i64 g.1,.sl Y7 g.2]),(79000,.arr 3 (.int .i64) v0_13.1),(86000,.arr 3 (.int .i64) v0_14.2.1)] ?_
         refine AW.cond (b:=true) rfl (fun _=>?_) (fun hb118=>by cases hb118)
         refine zo ?_
         refine zB [(12,.bool false)] [] ?_
         refine zr ?_
         obtain rfl:=Option.some.inj h
         exact zR [] [] []
        ·refine zS 5 [(3,.sl (.int .i64) ranks),(4,.sl (.int .i64) path),(5,.sl (.int .i64) circle),(6,.bp 6 0),(13,.int .i64 v0_11.1),(14,.int .i64 v0_11.2),(15,.bool v0_12.1),(17,.own 79000),(18,.int .i64 v0_13.2),(19,.sl (.int .i64) v0_14.1),(20,.own 86000),(21,.int .i64 v0_14.2.2),(93,.bool ((v0_12.1 == (decide (v0_14.2.2=5))) != true))] [(6,.box 24 [.int .i64 g.1,.sl Y7 g.2]),(79000,.arr 3 (.int .i64) v0_13.1),(86000,.arr 3 (.int .i64) v0_14.2.1)] ?_
         refine zS 1 [(3,.sl (.int .i64) ranks),(4,.sl (.int .i64) path),(5,.sl (.int .i64) circle),(6,.bp 6 0),(13,.int .i64 v0_11.1),(14,.int .i64 v0_11.2),(15,.bool v0_12.1),(17,.own 79000),(18,.int .i64 v0_13.2),(19,.sl (.int .i64) v0_14.1),(20,.own 86000),(21,.int .i64 v0_14.2.2),(94,.bool ((v0_12.1 == (decide (v0_14.2.2=5))) != true))] [(6,.box 24 [.int .i64 g.1,.sl Y7 g.2]),(79000,.arr 3 (.int .i64) v0_13.1),(86000,.arr 3 (.int .i64) v0_14.2.1)] ?_
         rcases zI h with ⟨hb119,h⟩ | ⟨hb119,h⟩
         ·refine zS 4 [(3,.sl (.int .i64) ranks),(4,.sl (.int .i64) path),(5,.sl (.int .i64) circle),(6,.bp 6 0),(13,.int .i64 v0_11.1),(14,.int .i64 v0_11.2),(15,.bool v0_12.1),(17,.own 79000),(19,.sl (.int .i64) v0_14.1),(20,.own 86000),(21,.int .i64 v0_14.2.2),(94,.bool true),(97,.cv (undef)),(98,.cv (undef))] [(6,.box 24 [.int .i64 g.1,.sl Y7 g.2]),(79000,.arr 3 (.int .i64) v0_13.1),(86000,.arr 3 (.int .i64) v0_14.2.1)] ?_
          refine zS 4 [(3,.sl (.int .i64) ranks),(4,.sl (.int .i64) path),(5,.sl (.int .i64) circle),(6,.bp 6 0),(13,.int .i64 v0_11.1),(14,.int .i64 v0_11.2),(15,.bool v0_12.1),(17,.own 79000),(19,.sl (.int .i64) v0_14.1),(20,.own 86000),(94,.bool true),(97,.cv (undef)),(100,.cv (undef)),(102,.cv (undef))] [(6,.box 24 [.int .i64 g.1,.sl Y7 g.2]),(79000,.arr 3 (.int .i64) v0_13.1),(86000,.arr 3 (.int .i64) v0_14.2.1)] ?_
          refine zB [(3,.sl (.int .i64) ranks),(4,.sl (.int .i64) path),(5,.sl (.int .i64) circle),(6,.bp 6 0),(13,.int .i64 v0_11.1),(14,.int .i64 v0_11.2),(15,.bool v0_12.1),(17,.own 79000),(19,.sl (.int .i64) v0_14.1),(20,.own 86000),(105,.bool true)] [(6,.box 24 [.int .i64 g.1,.sl Y7 g.2]),(79000,.arr 3 (.int .i64) v0_13.1),(86000,.arr 3 (.int .i64) v0_14.2.1)] ?_
          refine AW.cond (b:=true) rfl (fun _=>?_) (fun hb120=>by cases hb120)
          refine zo ?_
          refine zB [(12,.bool false)] [] ?_
          refine zr ?_
          obtain rfl:=Option.some.inj h
          exact zR [] [] []
         ·refine zS 3 [(3,.sl (.int .i64) ranks),(4,.sl (.int .i64) path),(5,.sl (.int .i64) circle),(6,.bp 6 0),(13,.int .i64 v0_11.1),(14,.int .i64 v0_11.2),(15,.bool v0_12.1),(17,.own 79000),(18,.int .i64 v0_13.2),(19,.sl (.int .i64) v0_14.1),(20,.own 86000),(21,.int .i64 v0_14.2.2),(94,.bool false),(97,.bool (!v0_12.1))] [(6,.box 24 [.int .i64 g.1,.sl Y7 g.2]),(79000,.arr 3 (.int .i64) v0_13.1),(86000,.arr 3 (.int .i64) v0_14.2.1)] ?_
          rcases zI h with ⟨hb121,h⟩ | ⟨hb121,h⟩
          ·refine zS 3 [(3,.sl (.int .i64) ranks),(4,.sl (.int .i64) path),(5,.sl (.int .i64) circle),(6,.bp 6 0),(13,.int .i64 v0_11.1),(14,.int .i64 v0_11.2),(15,.bool v0_12.1),(17,.own 79000),(19,.sl (.int .i64) v0_14.1),(20,.own 86000),(21,.int .i64 v0_14.2.2),(94,.bool false),(97,.bool true),(100,.bool (!(decide (v0_13.2=5))))] [(6,.box 24 [.int .i64 g.1,.sl Y7 g.2]),(79000,.arr 3 (.int .i64) v0_13.1),(86000,.arr 3 (.int .i64) v0_14.2.1)] ?_
           rcases zI h with ⟨hb122,h⟩ | ⟨hb122,h⟩
           ·refine zB [(3,.sl (.int .i64) ranks),(4,.sl (.int .i64) path),(5,.sl (.int .i64) circle),(6,.bp 6 0),(13,.int .i64 v0_11.1),(14,.int .i64 v0_11.2),(15,.bool v0_12.1),(17,.own 79000),(19,.sl (.int .i64) v0_14.1),(20,.own 86000),(105,.bool true)] [(6,.box 24 [.int .i64 g.1,.sl Y7 g.2]),(79000,.arr 3 (.int .i64) v0_13.1),(86000,.arr 3 (.int .i64) v0_14.2.1)] ?_
            refine AW.cond (b:=true) rfl (fun _=>?_) (fun hb123=>by cases hb123)
            refine zo ?_
            refine zB [(12,.bool false)] [] ?_
            refine zr ?_
            obtain rfl:=Option.some.inj h
            exact zR [] [] []
           ·refine zB [(3,.sl (.int .i64) ranks),(4,.sl (.int .i64) path),(5,.sl (.int .i64) circle),(6,.bp 6 0),(13,.int .i64 v0_11.1),(14,.int .i64 v0_11.2),(15,.bool v0_12.1),(17,.own 79000),(19,.sl (.int .i64) v0_14.1),(20,.own 86000),(105,.bool (!(decide (v0_14.2.2=0))))] [(6,.box 24 [.int .i64 g.1,.sl Y7 g.2]),(79000,.arr 3 (.int .i64) v0_13.1),(86000,.arr 3 (.int .i64) v0_14.2.1)] ?_
            refine zQ h (fun hb124 h=>?_) (fun hb124 h=>?_)
            ·refine zo ?_
             refine zB [(12,.bool false)] [] ?_
             refine zr ?_
             obtain rfl:=Option.some.inj h
             exact zR [] [] []
            ·refine zk ?_
             exact AW.weaken (zL [] [] []) (hk_lineallaw07_ProgressEither_k1 () h)
          ·refine zS 4 [(3,.sl (.int .i64) ranks),(4,.sl (.int .i64) path),(5,.sl (.int .i64) circle),(6,.bp 6 0),(13,.int .i64 v0_11.1),(14,.int .i64 v0_11.2),(15,.bool v0_12.1),(17,.own 79000),(19,.sl (.int .i64) v0_14.1),(20,.own 86000),(94,.bool false),(97,.bool false),(100,.cv (undef)),(101,.cv (undef))] [(6,.box 24 [.int .i64 g.1,.sl Y7 g.2]),(79000,.arr 3 (.int .i64) v0_13.1),(86000,.arr 3 (.int .i64) v0_14.2.1)] ?_
           refine zB [(3,.sl (.int .i64) ranks),(4,.sl (.int .i64) path),(5,.sl (.int .i64) circle),(6,.bp 6 0),(13,.int .i64 v0_11.1),(14,.int .i64 v0_11.2),(15,.bool v0_12.1),(17,.own 79000),(19,.sl (.int .i64) v0_14.1),(20,.own 86000),(105,.bool false)] [(6,.box 24 [.int .i64 g.1,.sl Y7 g.2]),(79000,.arr 3 (.int .i64) v0_13.1),(86000,.arr 3 (.int .i64) v0_14.2.1)] ?_
           refine AW.cond (b:=false) rfl (fun hb125=>by cases hb125) (fun _=>?_)
           refine zk ?_
           exact AW.weaken (zL [] [] []) (hk_lineallaw07_ProgressEither_k1 () h)
end Go.Proofs.Yteclokkdgmacpaa
