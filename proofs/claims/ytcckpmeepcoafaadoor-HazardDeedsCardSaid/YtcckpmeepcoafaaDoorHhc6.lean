import Derived.Test.YtcckpmeepcoafaaDoorHzp
import Derived.Test.YtcckpmeepcoafaaDoorShz
import Derived.Test.YtcckpmeepcoafaaDoorHhc1
import Derived.Test.YtcckpmeepcoafaaDoorHhc2
import Derived.Test.YtcckpmeepcoafaaDoorHhc3
import Derived.Test.YtcckpmeepcoafaaDoorHhc5
namespace Go.Proofs.YtcckpmeepcoafaaDoor
open Go.RowKit
set_option linter.unusedSimpArgs false
set_option linter.unusedVariables false
set_option linter.constructorNameAsVariable false
set_option maxRecDepth 100000
set_option maxHeartbeats 40000000
theorem hc_hazard_Yard_fails_6 (y:Int×Int×(El T63)×(El T65)×(El T69)) (c0:Int) (checks:Int) (c0_2:Int) (checks_2:Int) (c0_3:Int) (c1:Int) (checks_3:Int) {r:Int} (h:hazard_Yard_fails_6 y c0 checks c0_2 checks_2 c0_3 c1 checks_3=some r):HC Tryd.prog 49 [(1000,.box 71 (.int .i64 y.1::(.int .i64 y.2.1::(cellsX T63 y.2.2.1++(cellsX T65 y.2.2.2.1++(cellsX T69 y.2.2.2.2)))))),(1001,.box 81 [.fn (.func 72) [] [.dp (.int .i64) c0 0],.int .i64 checks,.fn (.func 74) [] [.dp (.int .i64) c0_2 0],.int .i64 checks_2,.fn (.func 75) [] [.dp (.int .i64) c0_3 0,.dp (.int .i64) c1 0],.int .i64 checks_3])] [.bp 1000 0,.vw 1001 2 0 3] [(1000,.box 71 (.int .i64 y.1::(.int .i64 y.2.1::(cellsX T63 y.2.2.1++(cellsX T65 y.2.2.2.1++(cellsX T69 y.2.2.2.2)))))),(1001,.box 81 [.fn (.func 72) [] [.dp (.int .i64) c0 0],.int .i64 checks,.fn (.func 74) [] [.dp (.int .i64) c0_2 0],.int .i64 checks_2,.fn (.func 75) [] [.dp (.int .i64) c0_3 0,.dp (.int .i64) c1 0],.int .i64 checks_3])] (.int .i64 r):=by
 unfold hazard_Yard_fails_6 at h
 refine zH Tryd.func49 [.tmp 4] 23 ?_
 refine zo ?_
 refine zB [(0,.bp 1000 0),(1,.vw 1001 2 0 3)] [(1000,.box 71 (.int .i64 y.1::(.int .i64 y.2.1::(cellsX T63 y.2.2.1++(cellsX T65 y.2.2.2.1++(cellsX T69 y.2.2.2.2)))))),(1001,.box 81 [.fn (.func 72) [] [.dp (.int .i64) c0 0],.int .i64 checks,.fn (.func 74) [] [.dp (.int .i64) c0_2 0],.int .i64 checks_2,.fn (.func 75) [] [.dp (.int .i64) c0_3 0,.dp (.int .i64) c1 0],.int .i64 checks_3])] ?_
 refine AW.seq ?_
 refine zo ?_
 refine zS 1 [(0,.bp 1000 0),(1,.vw 1001 2 0 3),(7,.bp 1000 0)] [(1000,.box 71 (.int .i64 y.1::(.int .i64 y.2.1::(cellsX T63 y.2.2.1++(cellsX T65 y.2.2.2.1++(cellsX T69 y.2.2.2.2)))))),(1001,.box 81 [.fn (.func 72) [] [.dp (.int .i64) c0 0],.int .i64 checks,.fn (.func 74) [] [.dp (.int .i64) c0_2 0],.int .i64 checks_2,.fn (.func 75) [] [.dp (.int .i64) c0_3 0,.dp (.int .i64) c1 0],.int .i64 checks_3])] ?_
 obtain ⟨v0,hv1,h⟩:=Option.bind_eq_some_iff.1 h
 refine zC [] [(1000,1000)] (hc_hazard_Yard_isNone y hv1) [(0,.bp 1000 0),(1,.vw 1001 2 0 3),(8,.bool (decide (y.1=0)))] [(1000,.box 71 (.int .i64 y.1::(.int .i64 y.2.1::(cellsX T63 y.2.2.1++(cellsX T65 y.2.2.2.1++(cellsX T69 y.2.2.2.2)))))),(1001,.box 81 [.fn (.func 72) [] [.dp (.int .i64) c0 0],.int .i64 checks,.fn (.func 74) [] [.dp (.int .i64) c0_2 0],.int .i64 checks_2,.fn (.func 75) [] [.dp (.int .i64) c0_3 0,.dp (.int .i64) c1 0],.int .i64 checks_3])] ?_
 refine zB [(0,.bp 1000 0),(1,.vw 1001 2 0 3),(8,.bool (decide (y.1=0)))] [(1000,.box 71 (.int .i64 y.1::(.int .i64 y.2.1::(cellsX T63 y.2.2.1++(cellsX T65 y.2.2.2.1++(cellsX T69 y.2.2.2.2)))))),(1001,.box 81 [.fn (.func 72) [] [.dp (.int .i64) c0 0],.int .i64 checks,.fn (.func 74) [] [.dp (.int .i64) c0_2 0],.int .i64 checks_2,.fn (.func 75) [] [.dp (.int .i64) c0_3 0,.dp (.int .i64) c1 0],.int .i64 checks_3])] ?_
 refine zQ h (fun hb2 h=>?_) (fun hb2 h=>?_)
 ·refine zo ?_
  refine zB [(4,.int .i64 60)] [(1000,.box 71 (.int .i64 y.1::(.int .i64 y.2.1::(cellsX T63 y.2.2.1++(cellsX T65 y.2.2.2.1++(cellsX T69 y.2.2.2.2)))))),(1001,.box 81 [.fn (.func 72) [] [.dp (.int .i64) c0 0],.int .i64 checks,.fn (.func 74) [] [.dp (.int .i64) c0_2 0],.int .i64 checks_2,.fn (.func 75) [] [.dp (.int .i64) c0_3 0,.dp (.int .i64) c1 0],.int .i64 checks_3])] ?_
  refine zr ?_
  obtain rfl:=Option.some.inj h
  exact zR [] [] []
 ·refine zk ?_
  refine AW.have1 (fun _:Unit=>hazard_Yard_fails_6_k1=some r) (fun _=>⟨fr [],hpGet [(1000,.box 71 (.int .i64 y.1::(.int .i64 y.2.1::(cellsX T63 y.2.2.1++(cellsX T65 y.2.2.2.1++(cellsX T69 y.2.2.2.2)))))),(1001,.box 81 [.fn (.func 72) [] [.dp (.int .i64) c0 0],.int .i64 checks,.fn (.func 74) [] [.dp (.int .i64) c0_2 0],.int .i64 checks_2,.fn (.func 75) [] [.dp (.int .i64) c0_3 0,.dp (.int .i64) c1 0],.int .i64 checks_3])],gt⟩) (fun _ h=>?_) (fun hk_hazard_Yard_fails_6_k1=>?_)
  ·as_aux_lemma =>
    unfold hazard_Yard_fails_6_k1 at h
    refine zo ?_
    refine zB [(4,.int .i64 0)] [(1000,.box 71 (.int .i64 y.1::(.int .i64 y.2.1::(cellsX T63 y.2.2.1++(cellsX T65 y.2.2.2.1++(cellsX T69 y.2.2.2.2)))))),(1001,.box 81 [.fn (.func 72) [] [.dp (.int .i64) c0 0],.int .i64 checks,.fn (.func 74) [] [.dp (.int .i64) c0_2 0],.int .i64 checks_2,.fn (.func 75) [] [.dp (.int .i64) c0_3 0,.dp (.int .i64) c1 0],.int .i64 checks_3])] ?_
    refine AW.ret ?_
    obtain rfl:=Option.some.inj h
    exact zR [] [] []
  ·refine AW.seq ?_
   refine zo ?_
   refine zB [(0,.bp 1000 0),(9,.vw 1001 2 0 3),(10,.int .i64 3),(11,.int .i64 0)] [(1000,.box 71 (.int .i64 y.1::(.int .i64 y.2.1::(cellsX T63 y.2.2.1++(cellsX T65 y.2.2.2.1++(cellsX T69 y.2.2.2.2)))))),(1001,.box 81 [.fn (.func 72) [] [.dp (.int .i64) c0 0],.int .i64 checks,.fn (.func 74) [] [.dp (.int .i64) c0_2 0],.int .i64 checks_2,.fn (.func 75) [] [.dp (.int .i64) c0_3 0,.dp (.int .i64) c1 0],.int .i64 checks_3])] ?_
   refine AW.block ?_
   refine AW.unroll 8 ?_
   refine LoopU.nx ?_
   refine zo ?_
   refine zB [(0,.bp 1000 0),(9,.vw 1001 2 0 3),(10,.int .i64 3),(11,.int .i64 0),(12,.bool true)] [(1000,.box 71 (.int .i64 y.1::(.int .i64 y.2.1::(cellsX T63 y.2.2.1++(cellsX T65 y.2.2.2.1++(cellsX T69 y.2.2.2.2)))))),(1001,.box 81 [.fn (.func 72) [] [.dp (.int .i64) c0 0],.int .i64 checks,.fn (.func 74) [] [.dp (.int .i64) c0_2 0],.int .i64 checks_2,.fn (.func 75) [] [.dp (.int .i64) c0_3 0,.dp (.int .i64) c1 0],.int .i64 checks_3])] ?_
   refine AW.seq ?_
   refine AW.cond (b:=true) rfl (fun _=>?_) (fun hb3=>by cases hb3)
   refine zk ?_
   refine AW.seq ?_
   refine AW.block ?_
   refine zo ?_
   refine AO.idxBox tab_ok (by decide) rfl rfl tab_92 rfl tab_81 rfl rfl rfl (by decide) (by decide) (at_:=0) rfl ?_
   refine zT [(0,.bp 1000 0),(9,.vw 1001 2 0 3),(10,.int .i64 3),(11,.int .i64 0),(13,.bp 1001 0)] [(1000,.box 71 (.int .i64 y.1::(.int .i64 y.2.1::(cellsX T63 y.2.2.1++(cellsX T65 y.2.2.2.1++(cellsX T69 y.2.2.2.2)))))),(1001,.box 81 [.fn (.func 72) [] [.dp (.int .i64) c0 0],.int .i64 checks,.fn (.func 74) [] [.dp (.int .i64) c0_2 0],.int .i64 checks_2,.fn (.func 75) [] [.dp (.int .i64) c0_3 0,.dp (.int .i64) c1 0],.int .i64 checks_3])] gt ?_
   refine zB [(0,.bp 1000 0),(6,.bp 6 0),(9,.vw 1001 2 0 3),(10,.int .i64 3),(11,.int .i64 0)] [(6,.box 81 [.fn (.func 72) [] [.dp (.int .i64) c0 0],.int .i64 checks]),(1000,.box 71 (.int .i64 y.1::(.int .i64 y.2.1::(cellsX T63 y.2.2.1++(cellsX T65 y.2.2.2.1++(cellsX T69 y.2.2.2.2)))))),(1001,.box 81 [.fn (.func 72) [] [.dp (.int .i64) c0 0],.int .i64 checks,.fn (.func 74) [] [.dp (.int .i64) c0_2 0],.int .i64 checks_2,.fn (.func 75) [] [.dp (.int .i64) c0_3 0,.dp (.int .i64) c1 0],.int .i64 checks_3])] ?_
   refine zo ?_
   refine zS 3 [(0,.bp 1000 0),(6,.bp 6 0),(9,.vw 1001 2 0 3),(10,.int .i64 3),(11,.int .i64 0),(16,.fn (.func 72) [] [.dp (.int .i64) c0 0]),(17,.bp 1000 0)] [(6,.box 81 [.fn (.func 72) [] [.dp (.int .i64) c0 0],.int .i64 checks]),(1000,.box 71 (.int .i64 y.1::(.int .i64 y.2.1::(cellsX T63 y.2.2.1++(cellsX T65 y.2.2.2.1++(cellsX T69 y.2.2.2.2)))))),(1001,.box 81 [.fn (.func 72) [] [.dp (.int .i64) c0 0],.int .i64 checks,.fn (.func 74) [] [.dp (.int .i64) c0_2 0],.int .i64 checks_2,.fn (.func 75) [] [.dp (.int .i64) c0_3 0,.dp (.int .i64) c1 0],.int .i64 checks_3])] ?_
   obtain ⟨v0_2,hv4,h⟩:=Option.bind_eq_some_iff.1 h
   refine zC [] [(1000,1000)] (hc_hazard_isThread_1 c0 y hv4) [(0,.bp 1000 0),(6,.bp 6 0),(9,.vw 1001 2 0 3),(10,.int .i64 3),(11,.int .i64 0),(18,.bool v0_2)] [(6,.box 81 [.fn (.func 72) [] [.dp (.int .i64) c0 0],.int .i64 checks]),(1000,.box 71 (.int .i64 y.1::(.int .i64 y.2.1::(cellsX T63 y.2.2.1++(cellsX T65 y.2.2.2.1++(cellsX T69 y.2.2.2.2)))))),(1001,.box 81 [.fn (.func 72) [] [.dp (.int .i64) c0 0],.int .i64 checks,.fn (.func 74) [] [.dp (.int .i64) c0_2 0],.int .i64 checks_2,.fn (.func 75) [] [.dp (.int .i64) c0_3 0,.dp (.int .i64) c1 0],.int .i64 checks_3])] ?_
   refine zB [(0,.bp 1000 0),(6,.bp 6 0),(9,.vw 1001 2 0 3),(10,.int .i64 3),(11,.int .i64 0),(19,.bool (!v0_2))] [(6,.box 81 [.fn (.func 72) [] [.dp (.int .i64) c0 0],.int .i64 checks]),(1000,.box 71 (.int .i64 y.1::(.int .i64 y.2.1::(cellsX T63 y.2.2.1++(cellsX T65 y.2.2.2.1++(cellsX T69 y.2.2.2.2)))))),(1001,.box 81 [.fn (.func 72) [] [.dp (.int .i64) c0 0],.int .i64 checks,.fn (.func 74) [] [.dp (.int .i64) c0_2 0],.int .i64 checks_2,.fn (.func 75) [] [.dp (.int .i64) c0_3 0,.dp (.int .i64) c1 0],.int .i64 checks_3])] ?_
   refine zQ h (fun hb5 h=>?_) (fun hb5 h=>?_)
   ·refine zo ?_
    refine zB [(4,.int .i64 checks)] [(1000,.box 71 (.int .i64 y.1::(.int .i64 y.2.1::(cellsX T63 y.2.2.1++(cellsX T65 y.2.2.2.1++(cellsX T69 y.2.2.2.2)))))),(1001,.box 81 [.fn (.func 72) [] [.dp (.int .i64) c0 0],.int .i64 checks,.fn (.func 74) [] [.dp (.int .i64) c0_2 0],.int .i64 checks_2,.fn (.func 75) [] [.dp (.int .i64) c0_3 0,.dp (.int .i64) c1 0],.int .i64 checks_3])] ?_
    refine AW.ret ?_
    refine ablock_r ?_
    refine athen_r ?_
    refine athen_r ?_
    refine ablock_r ?_
    refine athen_r ?_
    obtain rfl:=Option.some.inj h
    exact zR [] [] []
   ·refine zm ?_
    refine athen_n ?_
    refine AW.ops ?_
    obtain ⟨c6,h⟩:=ck_some.1 h
    refine zA [(0,.bp 1000 0),(9,.vw 1001 2 0 3),(10,.int .i64 3),(11,.int .i64 1)] [(1000,.box 71 (.int .i64 y.1::(.int .i64 y.2.1::(cellsX T63 y.2.2.1++(cellsX T65 y.2.2.2.1++(cellsX T69 y.2.2.2.2)))))),(1001,.box 81 [.fn (.func 72) [] [.dp (.int .i64) c0 0],.int .i64 checks,.fn (.func 74) [] [.dp (.int .i64) c0_2 0],.int .i64 checks_2,.fn (.func 75) [] [.dp (.int .i64) c0_3 0,.dp (.int .i64) c1 0],.int .i64 checks_3])] ?_
    refine LoopU.at_ ?_
    refine LoopU.nx ?_
    refine zo ?_
    refine zB [(0,.bp 1000 0),(9,.vw 1001 2 0 3),(10,.int .i64 3),(11,.int .i64 1),(12,.bool true)] [(1000,.box 71 (.int .i64 y.1::(.int .i64 y.2.1::(cellsX T63 y.2.2.1++(cellsX T65 y.2.2.2.1++(cellsX T69 y.2.2.2.2)))))),(1001,.box 81 [.fn (.func 72) [] [.dp (.int .i64) c0 0],.int .i64 checks,.fn (.func 74) [] [.dp (.int .i64) c0_2 0],.int .i64 checks_2,.fn (.func 75) [] [.dp (.int .i64) c0_3 0,.dp (.int .i64) c1 0],.int .i64 checks_3])] ?_
    refine AW.seq ?_
    refine AW.cond (b:=true) rfl (fun _=>?_) (fun hb7=>by cases hb7)
    refine zk ?_
    refine AW.seq ?_
    refine AW.block ?_
    refine zo ?_
    refine AO.idxBox tab_ok (by decide) rfl rfl tab_92 rfl tab_81 rfl rfl rfl (by decide) (by decide) (at_:=2) rfl ?_
    refine zT [(0,.bp 1000 0),(9,.vw 1001 2 0 3),(10,.int .i64 3),(11,.int .i64 1),(13,.bp 1001 2)] [(1000,.box 71 (.int .i64 y.1::(.int .i64 y.2.1::(cellsX T63 y.2.2.1++(cellsX T65 y.2.2.2.1++(cellsX T69 y.2.2.2.2)))))),(1001,.box 81 [.fn (.func 72) [] [.dp (.int .i64) c0 0],.int .i64 checks,.fn (.func 74) [] [.dp (.int .i64) c0_2 0],.int .i64 checks_2,.fn (.func 75) [] [.dp (.int .i64) c0_3 0,.dp (.int .i64) c1 0],.int .i64 checks_3])] gt ?_
    refine zB [(0,.bp 1000 0),(6,.bp 6 0),(9,.vw 1001 2 0 3),(10,.int .i64 3),(11,.int .i64 1)] [(6,.box 81 [.fn (.func 74) [] [.dp (.int .i64) c0_2 0],.int .i64 checks_2]),(1000,.box 71 (.int .i64 y.1::(.int .i64 y.2.1::(cellsX T63 y.2.2.1++(cellsX T65 y.2.2.2.1++(cellsX T69 y.2.2.2.2)))))),(1001,.box 81 [.fn (.func 72) [] [.dp (.int .i64) c0 0],.int .i64 checks,.fn (.func 74) [] [.dp (.int .i64) c0_2 0],.int .i64 checks_2,.fn (.func 75) [] [.dp (.int .i64) c0_3 0,.dp (.int .i64) c1 0],.int .i64 checks_3])] ?_
    refine zo ?_
    refine zS 3 [(0,.bp 1000 0),(6,.bp 6 0),(9,.vw 1001 2 0 3),(10,.int .i64 3),(11,.int .i64 1),(16,.fn (.func 74) [] [.dp (.int .i64) c0_2 0]),(17,.bp 1000 0)] [(6,.box 81 [.fn (.func 74) [] [.dp (.int .i64) c0_2 0],.int .i64 checks_2]),(1000,.box 71 (.int .i64 y.1::(.int .i64 y.2.1::(cellsX T63 y.2.2.1++(cellsX T65 y.2.2.2.1++(cellsX T69 y.2.2.2.2)))))),(1001,.box 81 [.fn (.func 72) [] [.dp (.int .i64) c0 0],.int .i64 checks,.fn (.func 74) [] [.dp (.int .i64) c0_2 0],.int .i64 checks_2,.fn (.func 75) [] [.dp (.int .i64) c0_3 0,.dp (.int .i64) c1 0],.int .i64 checks_3])] ?_
    obtain ⟨v0_3,hv8,h⟩:=Option.bind_eq_some_iff.1 h
    refine zC [] [(1000,1000)] (hc_hazard_isSlot_1 c0_2 y hv8) [(0,.bp 1000 0),(6,.bp 6 0),(9,.vw 1001 2 0 3),(10,.int .i64 3),(11,.int .i64 1),(18,.bool v0_3)] [(6,.box 81 [.fn (.func 74) [] [.dp (.int .i64) c0_2 0],.int .i64 checks_2]),(1000,.box 71 (.int .i64 y.1::(.int .i64 y.2.1::(cellsX T63 y.2.2.1++(cellsX T65 y.2.2.2.1++(cellsX T69 y.2.2.2.2)))))),(1001,.box 81 [.fn (.func 72) [] [.dp (.int .i64) c0 0],.int .i64 checks,.fn (.func 74) [] [.dp (.int .i64) c0_2 0],.int .i64 checks_2,.fn (.func 75) [] [.dp (.int .i64) c0_3 0,.dp (.int .i64) c1 0],.int .i64 checks_3])] ?_
    refine zB [(0,.bp 1000 0),(6,.bp 6 0),(9,.vw 1001 2 0 3),(10,.int .i64 3),(11,.int .i64 1),(19,.bool (!v0_3))] [(6,.box 81 [.fn (.func 74) [] [.dp (.int .i64) c0_2 0],.int .i64 checks_2]),(1000,.box 71 (.int .i64 y.1::(.int .i64 y.2.1::(cellsX T63 y.2.2.1++(cellsX T65 y.2.2.2.1++(cellsX T69 y.2.2.2.2)))))),(1001,.box 81 [.fn (.func 72) [] [.dp (.int .i64) c0 0],.int .i64 checks,.fn (.func 74) [] [.dp (.int .i64) c0_2 0],.int .i64 checks_2,.fn (.func 75) [] [.dp (.int .i64) c0_3 0,.dp (.int .i64) c1 0],.int .i64 checks_3])] ?_
    refine zQ h (fun hb9 h=>?_) (fun hb9 h=>?_)
    ·refine zo ?_
     refine zB [(4,.int .i64 checks_2)] [(1000,.box 71 (.int .i64 y.1::(.int .i64 y.2.1::(cellsX T63 y.2.2.1++(cellsX T65 y.2.2.2.1++(cellsX T69 y.2.2.2.2)))))),(1001,.box 81 [.fn (.func 72) [] [.dp (.int .i64) c0 0],.int .i64 checks,.fn (.func 74) [] [.dp (.int .i64) c0_2 0],.int .i64 checks_2,.fn (.func 75) [] [.dp (.int .i64) c0_3 0,.dp (.int .i64) c1 0],.int .i64 checks_3])] ?_
     refine AW.ret ?_
     refine ablock_r ?_
     refine athen_r ?_
     refine athen_r ?_
     refine ablock_r ?_
     refine athen_r ?_
     obtain rfl:=Option.some.inj h
     exact zR [] [] []
    ·refine zm ?_
     refine athen_n ?_
     refine AW.ops ?_
     obtain ⟨c10,h⟩:=ck_some.1 h
     refine zA [(0,.bp 1000 0),(9,.vw 1001 2 0 3),(10,.int .i64 3),(11,.int .i64 2)] [(1000,.box 71 (.int .i64 y.1::(.int .i64 y.2.1::(cellsX T63 y.2.2.1++(cellsX T65 y.2.2.2.1++(cellsX T69 y.2.2.2.2)))))),(1001,.box 81 [.fn (.func 72) [] [.dp (.int .i64) c0 0],.int .i64 checks,.fn (.func 74) [] [.dp (.int .i64) c0_2 0],.int .i64 checks_2,.fn (.func 75) [] [.dp (.int .i64) c0_3 0,.dp (.int .i64) c1 0],.int .i64 checks_3])] ?_
     refine LoopU.at_ ?_
     refine LoopU.nx ?_
     refine zo ?_
     refine zB [(0,.bp 1000 0),(9,.vw 1001 2 0 3),(10,.int .i64 3),(11,.int .i64 2),(12,.bool true)] [(1000,.box 71 (.int .i64 y.1::(.int .i64 y.2.1::(cellsX T63 y.2.2.1++(cellsX T65 y.2.2.2.1++(cellsX T69 y.2.2.2.2)))))),(1001,.box 81 [.fn (.func 72) [] [.dp (.int .i64) c0 0],.int .i64 checks,.fn (.func 74) [] [.dp (.int .i64) c0_2 0],.int .i64 checks_2,.fn (.func 75) [] [.dp (.int .i64) c0_3 0,.dp (.int .i64) c1 0],.int .i64 checks_3])] ?_
     refine AW.seq ?_
     refine AW.cond (b:=true) rfl (fun _=>?_) (fun hb11=>by cases hb11)
     refine zk ?_
     refine AW.seq ?_
     refine AW.block ?_
     refine zo ?_
     refine AO.idxBox tab_ok (by decide) rfl rfl tab_92 rfl tab_81 rfl rfl rfl (by decide) (by decide) (at_:=4) rfl ?_
     refine zT [(0,.bp 1000 0),(9,.vw 1001 2 0 3),(10,.int .i64 3),(11,.int .i64 2),(13,.bp 1001 4)] [(1000,.box 71 (.int .i64 y.1::(.int .i64 y.2.1::(cellsX T63 y.2.2.1++(cellsX T65 y.2.2.2.1++(cellsX T69 y.2.2.2.2)))))),(1001,.box 81 [.fn (.func 72) [] [.dp (.int .i64) c0 0],.int .i64 checks,.fn (.func 74) [] [.dp (.int .i64) c0_2 0],.int .i64 checks_2,.fn (.func 75) [] [.dp (.int .i64) c0_3 0,.dp (.int .i64) c1 0],.int .i64 checks_3])] gt ?_
     refine zB [(0,.bp 1000 0),(6,.bp 6 0),(9,.vw 1001 2 0 3),(10,.int .i64 3),(11,.int .i64 2)] [(6,.box 81 [.fn (.func 75) [] [.dp (.int .i64) c0_3 0,.dp (.int .i64) c1 0],.int .i64 checks_3]),(1000,.box 71 (.int .i64 y.1::(.int .i64 y.2.1::(cellsX T63 y.2.2.1++(cellsX T65 y.2.2.2.1++(cellsX T69 y.2.2.2.2)))))),(1001,.box 81 [.fn (.func 72) [] [.dp (.int .i64) c0 0],.int .i64 checks,.fn (.func 74) [] [.dp (.int .i64) c0_2 0],.int .i64 checks_2,.fn (.func 75) [] [.dp (.int .i64) c0_3 0,.dp (.int .i64) c1 0],.int .i64 checks_3])] ?_
     refine zo ?_
     refine zS 3 [(0,.bp 1000 0),(6,.bp 6 0),(9,.vw 1001 2 0 3),(10,.int .i64 3),(11,.int .i64 2),(16,.fn (.func 75) [] [.dp (.int .i64) c0_3 0,.dp (.int .i64) c1 0]),(17,.bp 1000 0)] [(6,.box 81 [.fn (.func 75) [] [.dp (.int .i64) c0_3 0,.dp (.int .i64) c1 0],.int .i64 checks_3]),(1000,.box 71 (.int .i64 y.1::(.int .i64 y.2.1::(cellsX T63 y.2.2.1++(cellsX T65 y.2.2.2.1++(cellsX T69 y.2.2.2.2)))))),(1001,.box 81 [.fn (.func 72) [] [.dp (.int .i64) c0 0],.int .i64 checks,.fn (.func 74) [] [.dp (.int .i64) c0_2 0],.int .i64 checks_2,.fn (.func 75) [] [.dp (.int .i64) c0_3 0,.dp (.int .i64) c1 0],.int .i64 checks_3])] ?_
     obtain ⟨v0_4,hv12,h⟩:=Option.bind_eq_some_iff.1 h
     refine zC [] [(1000,1000)] (hc_hazard_points_1 c0_3 c1 y hv12) [(0,.bp 1000 0),(6,.bp 6 0),(9,.vw 1001 2 0 3),(10,.int .i64 3),(11,.int .i64 2),(18,.bool (!(decide ((intAt T65 y.2.2.2.1 ((c0_3.toNat*2)+c1.toNat*1))=(-1)))))] [(6,.box 81 [.fn (.func 75) [] [.dp (.int .i64) c0_3 0,.dp (.int .i64) c1 0],.int .i64 checks_3]),(1000,.box 71 (.int .i64 y.1::(.int .i64 y.2.1::(cellsX T63 y.2.2.1++(cellsX T65 y.2.2.2.1++(cellsX T69 y.2.2.2.2)))))),(1001,.box 81 [.fn (.func 72) [] [.dp (.int .i64) c0 0],.int .i64 checks,.fn (.func 74) [] [.dp (.int .i64) c0_2 0],.int .i64 checks_2,.fn (.func 75) [] [.dp (.int .i64) c0_3 0,.dp (.int .i64) c1 0],.int .i64 checks_3])] ?_
     refine zB [(0,.bp 1000 0),(6,.bp 6 0),(9,.vw 1001 2 0 3),(10,.int .i64 3),(11,.int .i64 2),(19,.bool (!(!(decide ((intAt T65 y.2.2.2.1 ((c0_3.toNat*2)+c1.toNat*1))=(-1))))))] [(6,.box 81 [.fn (.func 75) [] [.dp (.int .i64) c0_3 0,.dp (.int .i64) c1 0],.int .i64 checks_3]),(1000,.box 71 (.int .i64 y.1::(.int .i64 y.2.1::(cellsX T63 y.2.2.1++(cellsX T65 y.2.2.2.1++(cellsX T69 y.2.2.2.2)))))),(1001,.box 81 [.fn (.func 72) [] [.dp (.int .i64) c0 0],.int .i64 checks,.fn (.func 74) [] [.dp (.int .i64) c0_2 0],.int .i64 checks_2,.fn (.func 75) [] [.dp (.int .i64) c0_3 0,.dp (.int .i64) c1 0],.int .i64 checks_3])] ?_
     refine zQ h (fun hb13 h=>?_) (fun hb13 h=>?_)
     ·refine zo ?_
      refine zB [(4,.int .i64 checks_3)] [(1000,.box 71 (.int .i64 y.1::(.int .i64 y.2.1::(cellsX T63 y.2.2.1++(cellsX T65 y.2.2.2.1++(cellsX T69 y.2.2.2.2)))))),(1001,.box 81 [.fn (.func 72) [] [.dp (.int .i64) c0 0],.int .i64 checks,.fn (.func 74) [] [.dp (.int .i64) c0_2 0],.int .i64 checks_2,.fn (.func 75) [] [.dp (.int .i64) c0_3 0,.dp (.int .i64) c1 0],.int .i64 checks_3])] ?_
      refine AW.ret ?_
      refine ablock_r ?_
      refine athen_r ?_
      refine athen_r ?_
      refine ablock_r ?_
      refine athen_r ?_
      obtain rfl:=Option.some.inj h
      exact zR [] [] []
     ·refine zm ?_
      refine athen_n ?_
      refine AW.ops ?_
      obtain ⟨c14,h⟩:=ck_some.1 h
      refine zA [(0,.bp 1000 0),(9,.vw 1001 2 0 3),(10,.int .i64 3),(11,.int .i64 3)] [(1000,.box 71 (.int .i64 y.1::(.int .i64 y.2.1::(cellsX T63 y.2.2.1++(cellsX T65 y.2.2.2.1++(cellsX T69 y.2.2.2.2)))))),(1001,.box 81 [.fn (.func 72) [] [.dp (.int .i64) c0 0],.int .i64 checks,.fn (.func 74) [] [.dp (.int .i64) c0_2 0],.int .i64 checks_2,.fn (.func 75) [] [.dp (.int .i64) c0_3 0,.dp (.int .i64) c1 0],.int .i64 checks_3])] ?_
      refine LoopU.at_ ?_
      refine LoopU.nx ?_
      refine zo ?_
      refine zB [(0,.bp 1000 0),(9,.vw 1001 2 0 3),(10,.int .i64 3),(11,.int .i64 3),(12,.bool false)] [(1000,.box 71 (.int .i64 y.1::(.int .i64 y.2.1::(cellsX T63 y.2.2.1++(cellsX T65 y.2.2.2.1++(cellsX T69 y.2.2.2.2)))))),(1001,.box 81 [.fn (.func 72) [] [.dp (.int .i64) c0 0],.int .i64 checks,.fn (.func 74) [] [.dp (.int .i64) c0_2 0],.int .i64 checks_2,.fn (.func 75) [] [.dp (.int .i64) c0_3 0,.dp (.int .i64) c1 0],.int .i64 checks_3])] ?_
      refine AW.seq ?_
      refine AW.cond (b:=false) rfl (fun hb15=>by cases hb15) (fun _=>?_)
      refine AW.exit ?_
      refine athen_e ?_
      refine athen_e ?_
      refine ablock_s ?_
      refine athen_n ?_
      exact AW.weaken (zL [] [] []) (hk_hazard_Yard_fails_6_k1 () h)
theorem hc_hazard_Yard_Use (thread:Int) (slot:Int) (y:Int×Int×(El T63)×(El T65)×(El T69)) {r:Int×Int} (h:hazard_Yard_Use thread slot y=some r):HC Tryd.prog 29 [(1000,.box 71 (.int .i64 y.1::(.int .i64 y.2.1::(cellsX T63 y.2.2.1++(cellsX T65 y.2.2.2.1++(cellsX T69 y.2.2.2.2))))))] [.bp 1000 0,.int .i64 thread,.int .i64 slot] [(1000,.box 71 (.int .i64 y.1::(.int .i64 y.2.1::(cellsX T63 y.2.2.1++(cellsX T65 y.2.2.2.1++(cellsX T69 y.2.2.2.2))))))] (.tup [.int .i64 r.1,.int .i64 r.2]):=by
 unfold hazard_Yard_Use at h
 refine zH Tryd.func29 [.tmp 6,.tmp 7] 30 ?_
 refine zo ?_
 refine zB [(0,.bp 1000 0),(1,.int .i64 thread),(2,.int .i64 slot)] [(1000,.box 71 (.int .i64 y.1::(.int .i64 y.2.1::(cellsX T63 y.2.2.1++(cellsX T65 y.2.2.2.1++(cellsX T69 y.2.2.2.2))))))] ?_
 refine AW.seq ?_
 refine zo ?_
 refine zS 2 [(0,.bp 1000 0),(1,.int .i64 thread),(2,.int .i64 slot),(9,.bp 1000 0),(10,.int .i64 thread)] [(1000,.box 71 (.int .i64 y.1::(.int .i64 y.2.1::(cellsX T63 y.2.2.1++(cellsX T65 y.2.2.2.1++(cellsX T69 y.2.2.2.2))))))] ?_
 obtain ⟨v0,hv1,h⟩:=Option.bind_eq_some_iff.1 h
 refine zC [] [] (hc_hazard_isThread thread hv1) [(0,.bp 1000 0),(1,.int .i64 thread),(2,.int .i64 slot),(9,.bp 1000 0),(11,.agg [.fn (.func 72) [] [.dp (.int .i64) thread 0],.int .i64 2])] [(1000,.box 71 (.int .i64 y.1::(.int .i64 y.2.1::(cellsX T63 y.2.2.1++(cellsX T65 y.2.2.2.1++(cellsX T69 y.2.2.2.2))))))] ?_
 refine zS 1 [(0,.bp 1000 0),(1,.int .i64 thread),(2,.int .i64 slot),(9,.bp 1000 0),(11,.agg [.fn (.func 72) [] [.dp (.int .i64) thread 0],.int .i64 2]),(12,.int .i64 slot)] [(1000,.box 71 (.int .i64 y.1::(.int .i64 y.2.1::(cellsX T63 y.2.2.1++(cellsX T65 y.2.2.2.1++(cellsX T69 y.2.2.2.2))))))] ?_
 obtain ⟨v0_2,hv2,h⟩:=Option.bind_eq_some_iff.1 h
 refine zC [] [] (hc_hazard_isSlot slot hv2) [(0,.bp 1000 0),(1,.int .i64 thread),(2,.int .i64 slot),(9,.bp 1000 0),(11,.agg [.fn (.func 72) [] [.dp (.int .i64) thread 0],.int .i64 2]),(13,.agg [.fn (.func 74) [] [.dp (.int .i64) slot 0],.int .i64 2])] [(1000,.box 71 (.int .i64 y.1::(.int .i64 y.2.1::(cellsX T63 y.2.2.1++(cellsX T65 y.2.2.2.1++(cellsX T69 y.2.2.2.2))))))] ?_
 refine zS 2 [(0,.bp 1000 0),(1,.int .i64 thread),(2,.int .i64 slot),(9,.bp 1000 0),(11,.agg [.fn (.func 72) [] [.dp (.int .i64) thread 0],.int .i64 2]),(13,.agg [.fn (.func 74) [] [.dp (.int .i64) slot 0],.int .i64 2]),(14,.int .i64 thread),(15,.int .i64 slot)] [(1000,.box 71 (.int .i64 y.1::(.int .i64 y.2.1::(cellsX T63 y.2.2.1++(cellsX T65 y.2.2.2.1++(cellsX T69 y.2.2.2.2))))))] ?_
 obtain ⟨v0_3,hv3,h⟩:=Option.bind_eq_some_iff.1 h
 refine zC [] [] (hc_hazard_points thread slot hv3) [(0,.bp 1000 0),(1,.int .i64 thread),(2,.int .i64 slot),(9,.bp 1000 0),(11,.agg [.fn (.func 72) [] [.dp (.int .i64) thread 0],.int .i64 2]),(13,.agg [.fn (.func 74) [] [.dp (.int .i64) slot 0],.int .i64 2]),(16,.agg [.fn (.func 75) [] [.dp (.int .i64) thread 0,.dp (.int .i64) slot 0],.int .i64 5])] [(1000,.box 71 (.int .i64 y.1::(.int .i64 y.2.1::(cellsX T63 y.2.2.1++(cellsX T65 y.2.2.2.1++(cellsX T69 y.2.2.2.2))))))] ?_
 refine AO.buildBox tab_ok rfl (by decide) (by decide) rfl rfl tab_92 rfl tab_81 (by decide) (by decide) rfl (by decide) (cs:=[.fn (.func 72) [] [.dp (.int .i64) thread 0],.int .i64 2,.fn (.func 74) [] [.dp (.int .i64) slot 0],.int .i64 2,.fn (.func 75) [] [.dp (.int .i64) thread 0,.dp (.int .i64) slot 0],.int .i64 5]) rfl rfl rfl ?_
 refine zT [(0,.bp 1000 0),(1,.int .i64 thread),(2,.int .i64 slot),(9,.bp 1000 0),(17,.vw 17 2 0 3)] [(17,.box 81 [.fn (.func 72) [] [.dp (.int .i64) thread 0],.int .i64 2,.fn (.func 74) [] [.dp (.int .i64) slot 0],.int .i64 2,.fn (.func 75) [] [.dp (.int .i64) thread 0,.dp (.int .i64) slot 0],.int .i64 5]),(1000,.box 71 (.int .i64 y.1::(.int .i64 y.2.1::(cellsX T63 y.2.2.1++(cellsX T65 y.2.2.2.1++(cellsX T69 y.2.2.2.2))))))] gt ?_
 obtain ⟨v0_4,hv4,h⟩:=Option.bind_eq_some_iff.1 h
 refine zC [] [(1000,1000),(1001,17)] (hc_hazard_Yard_fails_6 y thread 2 slot 2 thread slot 5 hv4) [(0,.bp 1000 0),(1,.int .i64 thread),(2,.int .i64 slot),(18,.int .i64 v0_4)] [(1000,.box 71 (.int .i64 y.1::(.int .i64 y.2.1::(cellsX T63 y.2.2.1++(cellsX T65 y.2.2.2.1++(cellsX T69 y.2.2.2.2))))))] ?_
 refine zB [(0,.bp 1000 0),(1,.int .i64 thread),(2,.int .i64 slot),(8,.int .i64 v0_4)] [(1000,.box 71 (.int .i64 y.1::(.int .i64 y.2.1::(cellsX T63 y.2.2.1++(cellsX T65 y.2.2.2.1++(cellsX T69 y.2.2.2.2))))))] ?_
 refine zo ?_
 refine zB [(0,.bp 1000 0),(1,.int .i64 thread),(2,.int .i64 slot),(8,.int .i64 v0_4),(20,.bool (!(decide (v0_4=0))))] [(1000,.box 71 (.int .i64 y.1::(.int .i64 y.2.1::(cellsX T63 y.2.2.1++(cellsX T65 y.2.2.2.1++(cellsX T69 y.2.2.2.2))))))] ?_
 refine zQ h (fun hb5 h=>?_) (fun hb5 h=>?_)
 ·refine zo ?_
  refine zB [(6,.int .i64 0),(7,.int .i64 v0_4)] [(1000,.box 71 (.int .i64 y.1::(.int .i64 y.2.1::(cellsX T63 y.2.2.1++(cellsX T65 y.2.2.2.1++(cellsX T69 y.2.2.2.2))))))] ?_
  refine zr ?_
  obtain rfl:=Option.some.inj h
  exact zR [] [] []
 ·refine zk ?_
  refine zo ?_
  refine zS 5 [(23,.int .i64 thread),(24,.int .i64 slot),(26,.bp 1000 10)] [(1000,.box 71 (.int .i64 y.1::(.int .i64 y.2.1::(cellsX T63 y.2.2.1++(cellsX T65 y.2.2.2.1++(cellsX T69 y.2.2.2.2))))))] ?_
  obtain ⟨c6,h⟩:=ck_some.1 h
  obtain ⟨c7,h⟩:=ck_some.1 h
  obtain ⟨c8,h⟩:=ck_some.1 h
  obtain ⟨c9,h⟩:=ck_some.1 h
  have hx10:((thread.toNat*2)+slot.toNat*1)<8:=by omega
  refine zB [(6,.int .i64 (intAt T65 y.2.2.2.1 ((thread.toNat*2)+slot.toNat*1))),(7,.int .i64 0)] [(1000,.box 71 (.int .i64 y.1::(.int .i64 y.2.1::(cellsX T63 y.2.2.1++(cellsX T65 y.2.2.2.1++(cellsX T69 y.2.2.2.2))))))] ?_
  refine AW.ret ?_
  obtain rfl:=Option.some.inj h
  exact zR [] [] []
theorem hc_hazard_Yard_Do (d:Int×Int×Int×Int) (y:Int×Int×(El T63)×(El T65)×(El T69)) {r:Int×Int×(El T63)×(El T65)×(El T69)} (h:hazard_Yard_Do d y=some r):HC Tryd.prog 17 [(1000,.box 71 (.int .i64 y.1::(.int .i64 y.2.1::(cellsX T63 y.2.2.1++(cellsX T65 y.2.2.2.1++(cellsX T69 y.2.2.2.2))))))] [.bp 1000 0,.agg [.int .i64 d.1,.int .i64 d.2.1,.int .i64 d.2.2.1,.int .i64 d.2.2.2]] [(1000,.box 71 (.int .i64 y.1::(.int .i64 y.2.1::(cellsX T63 r.2.2.1++(cellsX T65 r.2.2.2.1++(cellsX T69 r.2.2.2.2))))))] (.tup [.int .i64 r.1,.int .i64 r.2.1]):=by
 unfold hazard_Yard_Do at h
 refine zH Tryd.func17 [.tmp 4,.tmp 5] 69 ?_
 refine zo ?_
 refine zS 1 [(0,.bp 1000 0),(3,.bp 3 0)] [(3,.box 33 [.int .i64 d.1,.int .i64 d.2.1,.int .i64 d.2.2.1,.int .i64 d.2.2.2]),(1000,.box 71 (.int .i64 y.1::(.int .i64 y.2.1::(cellsX T63 y.2.2.1++(cellsX T65 y.2.2.2.1++(cellsX T69 y.2.2.2.2))))))] ?_
 refine AO.weaken (s':=⟨fr [(0,.bp 1000 0),(3,.dp (.pair (.int .i64) (.pair (.int .i64) (.pair (.int .i64) (.int .i64)))) d 0)],hpGet [(1000,.box 71 (.int .i64 y.1::(.int .i64 y.2.1::(cellsX T63 y.2.2.1++(cellsX T65 y.2.2.2.1++(cellsX T69 y.2.2.2.2))))))],gt⟩) (Wk.boxes [3] rfl rfl (by (simp only [go_sem])<;>(with_reducible and_intros)<;>first|assumption|rfl|omega|(unfold maxLen; omega)) (by (simp only [go_sem])<;>(with_reducible and_intros)<;>first|assumption|rfl|omega|(unfold maxLen; omega))) ?_
 refine zB [(0,.bp 1000 0),(3,.dp (.pair (.int .i64) (.pair (.int .i64) (.pair (.int .i64) (.int .i64)))) d 0)] [(1000,.box 71 (.int .i64 y.1::(.int .i64 y.2.1::(cellsX T63 y.2.2.1++(cellsX T65 y.2.2.2.1++(cellsX T69 y.2.2.2.2))))))] ?_
 refine AW.seq ?_
 refine zo ?_
 refine zS 2 [(0,.bp 1000 0),(3,.dp (.pair (.int .i64) (.pair (.int .i64) (.pair (.int .i64) (.int .i64)))) d 0),(7,.bp 1000 0),(8,.agg [.int .i64 d.1,.int .i64 d.2.1,.int .i64 d.2.2.1,.int .i64 d.2.2.2])] [(1000,.box 71 (.int .i64 y.1::(.int .i64 y.2.1::(cellsX T63 y.2.2.1++(cellsX T65 y.2.2.2.1++(cellsX T69 y.2.2.2.2))))))] ?_
 obtain ⟨v0,hv1,h⟩:=Option.bind_eq_some_iff.1 h
 refine zC [] [] (hc_hazard_isDeed d hv1) [(0,.bp 1000 0),(3,.dp (.pair (.int .i64) (.pair (.int .i64) (.pair (.int .i64) (.int .i64)))) d 0),(7,.bp 1000 0),(9,.agg [.fn (.func 69) [] [.dp (.pair (.int .i64) (.pair (.int .i64) (.pair (.int .i64) (.int .i64)))) d 0],.int .i64 2])] [(1000,.box 71 (.int .i64 y.1::(.int .i64 y.2.1::(cellsX T63 y.2.2.1++(cellsX T65 y.2.2.2.1++(cellsX T69 y.2.2.2.2))))))] ?_
 refine AO.buildBox tab_ok rfl (by decide) (by decide) rfl rfl tab_92 rfl tab_81 (by decide) (by decide) rfl (by decide) (cs:=[.fn (.func 69) [] [.dp (.pair (.int .i64) (.pair (.int .i64) (.pair (.int .i64) (.int .i64)))) d 0],.int .i64 2]) rfl rfl rfl ?_
 refine zT [(0,.bp 1000 0),(3,.dp (.pair (.int .i64) (.pair (.int .i64) (.pair (.int .i64) (.int .i64)))) d 0),(7,.bp 1000 0),(10,.vw 10 2 0 1)] [(10,.box 81 [.fn (.func 69) [] [.dp (.pair (.int .i64) (.pair (.int .i64) (.pair (.int .i64) (.int .i64)))) d 0],.int .i64 2]),(1000,.box 71 (.int .i64 y.1::(.int .i64 y.2.1::(cellsX T63 y.2.2.1++(cellsX T65 y.2.2.2.1++(cellsX T69 y.2.2.2.2))))))] gt ?_
 obtain ⟨v0_2,hv2,h⟩:=Option.bind_eq_some_iff.1 h
 refine zC [] [(1000,1000),(1001,10)] (hc_hazard_Yard_fails y d 2 hv2) [(0,.bp 1000 0),(3,.dp (.pair (.int .i64) (.pair (.int .i64) (.pair (.int .i64) (.int .i64)))) d 0),(11,.int .i64 v0_2)] [(1000,.box 71 (.int .i64 y.1::(.int .i64 y.2.1::(cellsX T63 y.2.2.1++(cellsX T65 y.2.2.2.1++(cellsX T69 y.2.2.2.2))))))] ?_
 refine zB [(0,.bp 1000 0),(3,.dp (.pair (.int .i64) (.pair (.int .i64) (.pair (.int .i64) (.int .i64)))) d 0),(6,.int .i64 v0_2)] [(1000,.box 71 (.int .i64 y.1::(.int .i64 y.2.1::(cellsX T63 y.2.2.1++(cellsX T65 y.2.2.2.1++(cellsX T69 y.2.2.2.2))))))] ?_
 refine zo ?_
 refine zB [(0,.bp 1000 0),(3,.dp (.pair (.int .i64) (.pair (.int .i64) (.pair (.int .i64) (.int .i64)))) d 0),(6,.int .i64 v0_2),(13,.bool (!(decide (v0_2=0))))] [(1000,.box 71 (.int .i64 y.1::(.int .i64 y.2.1::(cellsX T63 y.2.2.1++(cellsX T65 y.2.2.2.1++(cellsX T69 y.2.2.2.2))))))] ?_
 refine zQ h (fun hb3 h=>?_) (fun hb3 h=>?_)
 ·refine zo ?_
  refine zB [(4,.int .i64 0),(5,.int .i64 v0_2)] [(1000,.box 71 (.int .i64 y.1::(.int .i64 y.2.1::(cellsX T63 y.2.2.1++(cellsX T65 y.2.2.2.1++(cellsX T69 y.2.2.2.2))))))] ?_
  refine zr ?_
  obtain rfl:=Option.some.inj h
  exact zR [] [] []
 ·refine zk ?_
  refine zo ?_
  refine zB [(0,.bp 1000 0),(3,.dp (.pair (.int .i64) (.pair (.int .i64) (.pair (.int .i64) (.int .i64)))) d 0),(16,.int .i64 d.1)] [(1000,.box 71 (.int .i64 y.1::(.int .i64 y.2.1::(cellsX T63 y.2.2.1++(cellsX T65 y.2.2.2.1++(cellsX T69 y.2.2.2.2))))))] ?_
  refine AW.block ?_
  refine zo ?_
  refine zB [(0,.bp 1000 0),(3,.dp (.pair (.int .i64) (.pair (.int .i64) (.pair (.int .i64) (.int .i64)))) d 0),(16,.int .i64 d.1),(25,.bool (decide (d.1=1)))] [(1000,.box 71 (.int .i64 y.1::(.int .i64 y.2.1::(cellsX T63 y.2.2.1++(cellsX T65 y.2.2.2.1++(cellsX T69 y.2.2.2.2))))))] ?_
  refine zQ h (fun hb4 h=>?_) (fun hb4 h=>?_)
  ·refine zo ?_
   refine zS 3 [(27,.bp 1000 0),(29,.int .i64 d.2.1)] [(1000,.box 71 (.int .i64 y.1::(.int .i64 y.2.1::(cellsX T63 y.2.2.1++(cellsX T65 y.2.2.2.1++(cellsX T69 y.2.2.2.2))))))] ?_
   obtain ⟨v0_3,hv5,h⟩:=Option.bind_eq_some_iff.1 h
   refine zC [] [(1000,1000)] (hc_hazard_Yard_Take d.2.1 y hv5) [(30,.tup [.int .i64 v0_3.1,.int .i64 v0_3.2.1])] [(1000,.box 71 (.int .i64 y.1::(.int .i64 y.2.1::(cellsX T63 v0_3.2.2++(cellsX T65 y.2.2.2.1++(cellsX T69 y.2.2.2.2))))))] ?_
   refine zB [(4,.int .i64 v0_3.1),(5,.int .i64 v0_3.2.1)] [(1000,.box 71 (.int .i64 y.1::(.int .i64 y.2.1::(cellsX T63 v0_3.2.2++(cellsX T65 y.2.2.2.1++(cellsX T69 y.2.2.2.2))))))] ?_
   refine AW.ret ?_
   refine ablock_r ?_
   obtain rfl:=Option.some.inj h
   exact zR [] [] []
  ·refine zo ?_
   refine zB [(0,.bp 1000 0),(3,.dp (.pair (.int .i64) (.pair (.int .i64) (.pair (.int .i64) (.int .i64)))) d 0),(16,.int .i64 d.1),(33,.bool (decide (d.1=2)))] [(1000,.box 71 (.int .i64 y.1::(.int .i64 y.2.1::(cellsX T63 y.2.2.1++(cellsX T65 y.2.2.2.1++(cellsX T69 y.2.2.2.2))))))] ?_
   refine zQ h (fun hb6 h=>?_) (fun hb6 h=>?_)
   ·refine zo ?_
    refine zS 5 [(3,.dp (.pair (.int .i64) (.pair (.int .i64) (.pair (.int .i64) (.int .i64)))) d 0),(35,.bp 1000 0),(37,.int .i64 d.2.1),(39,.int .i64 d.2.2.1)] [(1000,.box 71 (.int .i64 y.1::(.int .i64 y.2.1::(cellsX T63 y.2.2.1++(cellsX T65 y.2.2.2.1++(cellsX T69 y.2.2.2.2))))))] ?_
    refine zS 2 [(35,.bp 1000 0),(37,.int .i64 d.2.1),(39,.int .i64 d.2.2.1),(41,.int .i64 d.2.2.2)] [(1000,.box 71 (.int .i64 y.1::(.int .i64 y.2.1::(cellsX T63 y.2.2.1++(cellsX T65 y.2.2.2.1++(cellsX T69 y.2.2.2.2))))))] ?_
    obtain ⟨v0_4,hv7,h⟩:=Option.bind_eq_some_iff.1 h
    refine zC [] [(1000,1000)] (hc_hazard_Yard_Point d.2.1 d.2.2.1 d.2.2.2 y hv7) [(42,.int .i64 v0_4.1)] [(1000,.box 71 (.int .i64 y.1::(.int .i64 y.2.1::(cellsX T63 y.2.2.1++(cellsX T65 v0_4.2++(cellsX T69 y.2.2.2.2))))))] ?_
    refine zB [(4,.int .i64 0),(5,.int .i64 v0_4.1)] [(1000,.box 71 (.int .i64 y.1::(.int .i64 y.2.1::(cellsX T63 y.2.2.1++(cellsX T65 v0_4.2++(cellsX T69 y.2.2.2.2))))))] ?_
    refine AW.ret ?_
    refine ablock_r ?_
    obtain rfl:=Option.some.inj h
    exact zR [] [] []
   ·refine zo ?_
    refine zB [(0,.bp 1000 0),(3,.dp (.pair (.int .i64) (.pair (.int .i64) (.pair (.int .i64) (.int .i64)))) d 0),(16,.int .i64 d.1),(43,.bool (decide (d.1=3)))] [(1000,.box 71 (.int .i64 y.1::(.int .i64 y.2.1::(cellsX T63 y.2.2.1++(cellsX T65 y.2.2.2.1++(cellsX T69 y.2.2.2.2))))))] ?_
    refine zQ h (fun hb8 h=>?_) (fun hb8 h=>?_)
    ·refine zo ?_
     refine zS 5 [(45,.bp 1000 0),(47,.int .i64 d.2.1),(49,.int .i64 d.2.2.1)] [(1000,.box 71 (.int .i64 y.1::(.int .i64 y.2.1::(cellsX T63 y.2.2.1++(cellsX T65 y.2.2.2.1++(cellsX T69 y.2.2.2.2))))))] ?_
     obtain ⟨v0_5,hv9,h⟩:=Option.bind_eq_some_iff.1 h
     refine zC [] [(1000,1000)] (hc_hazard_Yard_Clear d.2.1 d.2.2.1 y hv9) [(50,.int .i64 v0_5.1)] [(1000,.box 71 (.int .i64 y.1::(.int .i64 y.2.1::(cellsX T63 y.2.2.1++(cellsX T65 v0_5.2++(cellsX T69 y.2.2.2.2))))))] ?_
     refine zB [(4,.int .i64 0),(5,.int .i64 v0_5.1)] [(1000,.box 71 (.int .i64 y.1::(.int .i64 y.2.1::(cellsX T63 y.2.2.1++(cellsX T65 v0_5.2++(cellsX T69 y.2.2.2.2))))))] ?_
     refine AW.ret ?_
     refine ablock_r ?_
     obtain rfl:=Option.some.inj h
     exact zR [] [] []
    ·refine zo ?_
     refine zB [(0,.bp 1000 0),(3,.dp (.pair (.int .i64) (.pair (.int .i64) (.pair (.int .i64) (.int .i64)))) d 0),(16,.int .i64 d.1),(51,.bool (decide (d.1=4)))] [(1000,.box 71 (.int .i64 y.1::(.int .i64 y.2.1::(cellsX T63 y.2.2.1++(cellsX T65 y.2.2.2.1++(cellsX T69 y.2.2.2.2))))))] ?_
     refine zQ h (fun hb10 h=>?_) (fun hb10 h=>?_)
     ·refine zo ?_
      refine zS 5 [(53,.bp 1000 0),(55,.int .i64 d.2.1),(57,.int .i64 d.2.2.1)] [(1000,.box 71 (.int .i64 y.1::(.int .i64 y.2.1::(cellsX T63 y.2.2.1++(cellsX T65 y.2.2.2.1++(cellsX T69 y.2.2.2.2))))))] ?_
      obtain ⟨v0_6,hv11,h⟩:=Option.bind_eq_some_iff.1 h
      refine zC [] [(1000,1000)] (hc_hazard_Yard_PutBy d.2.1 d.2.2.1 y hv11) [(58,.tup [.int .i64 v0_6.1,.int .i64 v0_6.2.1])] [(1000,.box 71 (.int .i64 y.1::(.int .i64 y.2.1::(cellsX T63 v0_6.2.2.1++(cellsX T65 y.2.2.2.1++(cellsX T69 v0_6.2.2.2))))))] ?_
      refine zB [(4,.int .i64 v0_6.1),(5,.int .i64 v0_6.2.1)] [(1000,.box 71 (.int .i64 y.1::(.int .i64 y.2.1::(cellsX T63 v0_6.2.2.1++(cellsX T65 y.2.2.2.1++(cellsX T69 v0_6.2.2.2))))))] ?_
      refine AW.ret ?_
      refine ablock_r ?_
      obtain rfl:=Option.some.inj h
      exact zR [] [] []
     ·refine zo ?_
      refine zB [(0,.bp 1000 0),(3,.dp (.pair (.int .i64) (.pair (.int .i64) (.pair (.int .i64) (.int .i64)))) d 0),(61,.bool (decide (d.1=5)))] [(1000,.box 71 (.int .i64 y.1::(.int .i64 y.2.1::(cellsX T63 y.2.2.1++(cellsX T65 y.2.2.2.1++(cellsX T69 y.2.2.2.2))))))] ?_
      refine zQ h (fun hb12 h=>?_) (fun hb12 h=>?_)
      ·refine zo ?_
       refine zS 3 [(63,.bp 1000 0),(65,.int .i64 d.2.1)] [(1000,.box 71 (.int .i64 y.1::(.int .i64 y.2.1::(cellsX T63 y.2.2.1++(cellsX T65 y.2.2.2.1++(cellsX T69 y.2.2.2.2))))))] ?_
       obtain ⟨v0_7,hv13,h⟩:=Option.bind_eq_some_iff.1 h
       refine zC [] [(1000,1000)] (hc_hazard_Yard_Sweep d.2.1 y hv13) [(66,.tup [.int .i64 v0_7.1,.int .i64 v0_7.2.1])] [(1000,.box 71 (.int .i64 y.1::(.int .i64 y.2.1::(cellsX T63 v0_7.2.2.1++(cellsX T65 y.2.2.2.1++(cellsX T69 v0_7.2.2.2))))))] ?_
       refine zB [(4,.int .i64 v0_7.1),(5,.int .i64 v0_7.2.1)] [(1000,.box 71 (.int .i64 y.1::(.int .i64 y.2.1::(cellsX T63 v0_7.2.2.1++(cellsX T65 y.2.2.2.1++(cellsX T69 v0_7.2.2.2))))))] ?_
       refine AW.ret ?_
       refine ablock_r ?_
       obtain rfl:=Option.some.inj h
       exact zR [] [] []
      ·refine zo ?_
       refine zS 5 [(17,.bp 1000 0),(19,.int .i64 d.2.1),(21,.int .i64 d.2.2.1)] [(1000,.box 71 (.int .i64 y.1::(.int .i64 y.2.1::(cellsX T63 y.2.2.1++(cellsX T65 y.2.2.2.1++(cellsX T69 y.2.2.2.2))))))] ?_
       obtain ⟨v0_8,hv14,h⟩:=Option.bind_eq_some_iff.1 h
       refine zC [] [(1000,1000)] (hc_hazard_Yard_Use d.2.1 d.2.2.1 y hv14) [(22,.tup [.int .i64 v0_8.1,.int .i64 v0_8.2])] [(1000,.box 71 (.int .i64 y.1::(.int .i64 y.2.1::(cellsX T63 y.2.2.1++(cellsX T65 y.2.2.2.1++(cellsX T69 y.2.2.2.2))))))] ?_
       refine zB [(4,.int .i64 v0_8.1),(5,.int .i64 v0_8.2)] [(1000,.box 71 (.int .i64 y.1::(.int .i64 y.2.1::(cellsX T63 y.2.2.1++(cellsX T65 y.2.2.2.1++(cellsX T69 y.2.2.2.2))))))] ?_
       refine AW.ret ?_
       refine ablock_r ?_
       obtain rfl:=Option.some.inj h
       exact zR [] [] []
end Go.Proofs.YtcckpmeepcoafaaDoor
