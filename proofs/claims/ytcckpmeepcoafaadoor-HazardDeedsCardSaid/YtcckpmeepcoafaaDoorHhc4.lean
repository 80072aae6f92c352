import Derived.Test.YtcckpmeepcoafaaDoorHzp
import Derived.Test.YtcckpmeepcoafaaDoorShz
import Derived.Test.YtcckpmeepcoafaaDoorAvd
import Derived.Test.YtcckpmeepcoafaaDoorHhc1
import Derived.Test.YtcckpmeepcoafaaDoorHhc2
namespace Go.Proofs.YtcckpmeepcoafaaDoor
open Go.RowKit
set_option linter.unusedSimpArgs false
set_option linter.unusedVariables false
set_option linter.constructorNameAsVariable false
set_option maxRecDepth 100000
set_option maxHeartbeats 40000000
theorem hc_hazard_Yard_fails_5 (y:Int×Int×(El T63)×(El T65)×(El T69)) (c0:Int) (checks:Int) (c0_2:Int) (checks_2:Int) (c0_3:Int) (checks_3:Int) {r:Int} (h:hazard_Yard_fails_5 y c0 checks c0_2 checks_2 c0_3 checks_3=some r):HC Tryd.prog 49 [(1000,.box 71 (.int .i64 y.1::(.int .i64 y.2.1::(cellsX T63 y.2.2.1++(cellsX T65 y.2.2.2.1++(cellsX T69 y.2.2.2.2)))))),(1001,.box 81 [.fn (.func 72) [] [.dp (.int .i64) c0 0],.int .i64 checks,.fn (.func 70) [] [.dp (.int .i64) c0_2 0],.int .i64 checks_2,.fn (.func 76) [] [.dp (.int .i64) c0_3 0],.int .i64 checks_3])] [.bp 1000 0,.vw 1001 2 0 3] [(1000,.box 71 (.int .i64 y.1::(.int .i64 y.2.1::(cellsX T63 y.2.2.1++(cellsX T65 y.2.2.2.1++(cellsX T69 y.2.2.2.2)))))),(1001,.box 81 [.fn (.func 72) [] [.dp (.int .i64) c0 0],.int .i64 checks,.fn (.func 70) [] [.dp (.int .i64) c0_2 0],.int .i64 checks_2,.fn (.func 76) [] [.dp (.int .i64) c0_3 0],.int .i64 checks_3])] (.int .i64 r):=by
 unfold hazard_Yard_fails_5 at h
 refine zH Tryd.func49 [.tmp 4] 23 ?_
 refine zo ?_
 refine zB [(0,.bp 1000 0),(1,.vw 1001 2 0 3)] [(1000,.box 71 (.int .i64 y.1::(.int .i64 y.2.1::(cellsX T63 y.2.2.1++(cellsX T65 y.2.2.2.1++(cellsX T69 y.2.2.2.2)))))),(1001,.box 81 [.fn (.func 72) [] [.dp (.int .i64) c0 0],.int .i64 checks,.fn (.func 70) [] [.dp (.int .i64) c0_2 0],.int .i64 checks_2,.fn (.func 76) [] [.dp (.int .i64) c0_3 0],.int .i64 checks_3])] ?_
 refine AW.seq ?_
 refine zo ?_
 refine zS 1 [(0,.bp 1000 0),(1,.vw 1001 2 0 3),(7,.bp 1000 0)] [(1000,.box 71 (.int .i64 y.1::(.int .i64 y.2.1::(cellsX T63 y.2.2.1++(cellsX T65 y.2.2.2.1++(cellsX T69 y.2.2.2.2)))))),(1001,.box 81 [.fn (.func 72) [] [.dp (.int .i64) c0 0],.int .i64 checks,.fn (.func 70) [] [.dp (.int .i64) c0_2 0],.int .i64 checks_2,.fn (.func 76) [] [.dp (.int .i64) c0_3 0],.int .i64 checks_3])] ?_
 obtain ⟨v0,hv1,h⟩:=Option.bind_eq_some_iff.1 h
 refine zC [] [(1000,1000)] (hc_hazard_Yard_isNone y hv1) [(0,.bp 1000 0),(1,.vw 1001 2 0 3),(8,.bool (decide (y.1=0)))] [(1000,.box 71 (.int .i64 y.1::(.int .i64 y.2.1::(cellsX T63 y.2.2.1++(cellsX T65 y.2.2.2.1++(cellsX T69 y.2.2.2.2)))))),(1001,.box 81 [.fn (.func 72) [] [.dp (.int .i64) c0 0],.int .i64 checks,.fn (.func 70) [] [.dp (.int .i64) c0_2 0],.int .i64 checks_2,.fn (.func 76) [] [.dp (.int .i64) c0_3 0],.int .i64 checks_3])] ?_
 refine zB [(0,.bp 1000 0),(1,.vw 1001 2 0 3),(8,.bool (decide (y.1=0)))] [(1000,.box 71 (.int .i64 y.1::(.int .i64 y.2.1::(cellsX T63 y.2.2.1++(cellsX T65 y.2.2.2.1++(cellsX T69 y.2.2.2.2)))))),(1001,.box 81 [.fn (.func 72) [] [.dp (.int .i64) c0 0],.int .i64 checks,.fn (.func 70) [] [.dp (.int .i64) c0_2 0],.int .i64 checks_2,.fn (.func 76) [] [.dp (.int .i64) c0_3 0],.int .i64 checks_3])] ?_
 refine zQ h (fun hb2 h=>?_) (fun hb2 h=>?_)
 ·refine zo ?_
  refine zB [(4,.int .i64 60)] [(1000,.box 71 (.int .i64 y.1::(.int .i64 y.2.1::(cellsX T63 y.2.2.1++(cellsX T65 y.2.2.2.1++(cellsX T69 y.2.2.2.2)))))),(1001,.box 81 [.fn (.func 72) [] [.dp (.int .i64) c0 0],.int .i64 checks,.fn (.func 70) [] [.dp (.int .i64) c0_2 0],.int .i64 checks_2,.fn (.func 76) [] [.dp (.int .i64) c0_3 0],.int .i64 checks_3])] ?_
  refine zr ?_
  obtain rfl:=Option.some.inj h
  exact zR [] [] []
 ·refine zk ?_
  refine AW.have1 (fun _:Unit=>hazard_Yard_fails_5_k1=some r) (fun _=>⟨fr [],hpGet [(1000,.box 71 (.int .i64 y.1::(.int .i64 y.2.1::(cellsX T63 y.2.2.1++(cellsX T65 y.2.2.2.1++(cellsX T69 y.2.2.2.2)))))),(1001,.box 81 [.fn (.func 72) [] [.dp (.int .i64) c0 0],.int .i64 checks,.fn (.func 70) [] [.dp (.int .i64) c0_2 0],.int .i64 checks_2,.fn (.func 76) [] [.dp (.int .i64) c0_3 0],.int .i64 checks_3])],gt⟩) (fun _ h=>?_) (fun hk_hazard_Yard_fails_5_k1=>?_)
  ·as_aux_lemma =>
    unfold hazard_Yard_fails_5_k1 at h
    refine zo ?_
    refine zB [(4,.int .i64 0)] [(1000,.box 71 (.int .i64 y.1::(.int .i64 y.2.1::(cellsX T63 y.2.2.1++(cellsX T65 y.2.2.2.1++(cellsX T69 y.2.2.2.2)))))),(1001,.box 81 [.fn (.func 72) [] [.dp (.int .i64) c0 0],.int .i64 checks,.fn (.func 70) [] [.dp (.int .i64) c0_2 0],.int .i64 checks_2,.fn (.func 76) [] [.dp (.int .i64) c0_3 0],.int .i64 checks_3])] ?_
    refine AW.ret ?_
    obtain rfl:=Option.some.inj h
    exact zR [] [] []
  ·refine AW.seq ?_
   refine zo ?_
   refine zB [(0,.bp 1000 0),(9,.vw 1001 2 0 3),(10,.int .i64 3),(11,.int .i64 0)] [(1000,.box 71 (.int .i64 y.1::(.int .i64 y.2.1::(cellsX T63 y.2.2.1++(cellsX T65 y.2.2.2.1++(cellsX T69 y.2.2.2.2)))))),(1001,.box 81 [.fn (.func 72) [] [.dp (.int .i64) c0 0],.int .i64 checks,.fn (.func 70) [] [.dp (.int .i64) c0_2 0],.int .i64 checks_2,.fn (.func 76) [] [.dp (.int .i64) c0_3 0],.int .i64 checks_3])] ?_
   refine AW.block ?_
   refine AW.unroll 8 ?_
   refine LoopU.nx ?_
   refine zo ?_
   refine zB [(0,.bp 1000 0),(9,.vw 1001 2 0 3),(10,.int .i64 3),(11,.int .i64 0),(12,.bool true)] [(1000,.box 71 (.int .i64 y.1::(.int .i64 y.2.1::(cellsX T63 y.2.2.1++(cellsX T65 y.2.2.2.1++(cellsX T69 y.2.2.2.2)))))),(1001,.box 81 [.fn (.func 72) [] [.dp (.int .i64) c0 0],.int .i64 checks,.fn (.func 70) [] [.dp (.int .i64) c0_2 0],.int .i64 checks_2,.fn (.func 76) [] [.dp (.int .i64) c0_3 0],.int .i64 checks_3])] ?_
   refine AW.seq ?_
   refine AW.cond (b:=true) rfl (fun _=>?_) (fun hb3=>by cases hb3)
   refine zk ?_
   refine AW.seq ?_
   refine AW.block ?_
   refine zo ?_
   refine AO.idxBox tab_ok (by decide) rfl rfl tab_92 rfl tab_81 rfl rfl rfl (by decide) (by decide) (at_:=0) rfl ?_
   refine zT [(0,.bp 1000 0),(9,.vw 1001 2 0 3),(10,.int .i64 3),(11,.int .i64 0),(13,.bp 1001 0)] [(1000,.box 71 (.int .i64 y.1::(.int .i64 y.2.1::(cellsX T63 y.2.2.1++(cellsX T65 y.2.2.2.1++(cellsX T69 y.2.2.2.2)))))),(1001,.box 81 [.fn (.func 72) [] [.dp (.int .i64) c0 0],.int .i64 checks,.fn (.func 70) [] [.dp (.int .i64) c0_2 0],.int .i64 checks_2,.fn (.func 76) [] [.dp (.int .i64) c0_3 0],.int .i64 checks_3])] gt ?_
   refine zB [(0,.bp 1000 0),(6,.bp 6 0),(9,.vw 1001 2 0 3),(10,.int .i64 3),(11,.int .i64 0)] [(6,.box 81 [.fn (.func 72) [] [.dp (.int .i64) c0 0],.int .i64 checks]),(1000,.box 71 (.int .i64 y.1::(.int .i64 y.2.1::(cellsX T63 y.2.2.1++(cellsX T65 y.2.2.2.1++(cellsX T69 y.2.2.2.2)))))),(1001,.box 81 [.fn (.func 72) [] [.dp (.int .i64) c0 0],.int .i64 checks,.fn (.func 70) [] [.dp (.int .i64) c0_2 0],.int .i64 checks_2,.fn (.func 76) [] [.dp (.int .i64) c0_3 0],.int .i64 checks_3])] ?_
   refine zo ?_
   refine zS 3 [(0,.bp 1000 0),(6,.bp 6 0),(9,.vw 1001 2 0 3),(10,.int .i64 3),(11,.int .i64 0),(16,.fn (.func 72) [] [.dp (.int .i64) c0 0]),(17,.bp 1000 0)] [(6,.box 81 [.fn (.func 72) [] [.dp (.int .i64) c0 0],.int .i64 checks]),(1000,.box 71 (.int .i64 y.1::(.int .i64 y.2.1::(cellsX T63 y.2.2.1++(cellsX T65 y.2.2.2.1++(cellsX T69 y.2.2.2.2)))))),(1001,.box 81 [.fn (.func 72) [] [.dp (.int .i64) c0 0],.int .i64 checks,.fn (.func 70) [] [.dp (.int .i64) c0_2 0],.int .i64 checks_2,.fn (.func 76) [] [.dp (.int .i64) c0_3 0],.int .i64 checks_3])] ?_
   obtain ⟨v0_2,hv4,h⟩:=Option.bind_eq_some_iff.1 h
   refine zC [] [(1000,1000)] (hc_hazard_isThread_1 c0 y hv4) [(0,.bp 1000 0),(6,.bp 6 0),(9,.vw 1001 2 0 3),(10,.int .i64 3),(11,.int .i64 0),(18,.bool v0_2)] [(6,.box 81 [.fn (.func 72) [] [.dp (.int .i64) c0 0],.int .i64 checks]),(1000,.box 71 (.int .i64 y.1::(.int .i64 y.2.1::(cellsX T63 y.2.2.1++(cellsX T65 y.2.2.2.1++(cellsX T69 y.2.2.2.2)))))),(1001,.box 81 [.fn (.func 72) [] [.dp (.int .i64) c0 0],.int .i64 checks,.fn (.func 70) [] [.dp (.int .i64) c0_2 0],.int .i64 checks_2,.fn (.func 76) [] [.dp (.int .i64) c0_3 0],.int .i64 checks_3])] ?_
   refine zB [(0,.bp 1000 0),(6,.bp 6 0),(9,.vw 1001 2 0 3),(10,.int .i64 3),(11,.int .i64 0),(19,.bool (!v0_2))] [(6,.box 81 [.fn (.func 72) [] [.dp (.int .i64) c0 0],.int .i64 checks]),(1000,.box 71 (.int .i64 y.1::(.int .i64 y.2.1::(cellsX T63 y.2.2.1++(cellsX T65 y.2.2.2.1++(cellsX T69 y.2.2.2.2)))))),(1001,.box 81 [.fn (.func 72) [] [.dp (.int .i64) c0 0],.int .i64 checks,.fn (.func 70) [] [.dp (.int .i64) c0_2 0],.int .i64 checks_2,.fn (.func 76) [] [.dp (.int .i64) c0_3 0],.int .i64 checks_3])] ?_
   refine zQ h (fun hb5 h=>?_) (fun hb5 h=>?_)
   ·refine zo ?_
    refine zB [(4,.int .i64 checks)] [(1000,.box 71 (.int .i64 y.1::(.int .i64 y.2.1::(cellsX T63 y.2.2.1++(cellsX T65 y.2.2.2.1++(cellsX T69 y.2.2.2.2)))))),(1001,.box 81 [.fn (.func 72) [] [.dp (.int .i64) c0 0],.int .i64 checks,.fn (.func 70) [] [.dp (.int .i64) c0_2 0],.int .i64 checks_2,.fn (.func 76) [] [.dp (.int .i64) c0_3 0],.int .i64 checks_3])] ?_
    refine AW.ret ?_
    refine ablock_r ?_
    refine athen_r ?_
    refine athen_r ?_
    refine ablock_r ?_
    refine athen_r ?_
    obtain rfl:=Option.some.inj h
    exact zR [] [] []
   ·refine zm ?_
    refine athen_n ?_
    refine AW.ops ?_
    obtain ⟨c6,h⟩:=ck_some.1 h
    refine zA [(0,.bp 1000 0),(9,.vw 1001 2 0 3),(10,.int .i64 3),(11,.int .i64 1)] [(1000,.box 71 (.int .i64 y.1::(.int .i64 y.2.1::(cellsX T63 y.2.2.1++(cellsX T65 y.2.2.2.1++(cellsX T69 y.2.2.2.2)))))),(1001,.box 81 [.fn (.func 72) [] [.dp (.int .i64) c0 0],.int .i64 checks,.fn (.func 70) [] [.dp (.int .i64) c0_2 0],.int .i64 checks_2,.fn (.func 76) [] [.dp (.int .i64) c0_3 0],.int .i64 checks_3])] ?_
    refine LoopU.at_ ?_
    refine LoopU.nx ?_
    refine zo ?_
    refine zB [(0,.bp 1000 0),(9,.vw 1001 2 0 3),(10,.int .i64 3),(11,.int .i64 1),(12,.bool true)] [(1000,.box 71 (.int .i64 y.1::(.int .i64 y.2.1::(cellsX T63 y.2.2.1++(cellsX T65 y.2.2.2.1++(cellsX T69 y.2.2.2.2)))))),(1001,.box 81 [.fn (.func 72) [] [.dp (.int .i64) c0 0],.int .i64 checks,.fn (.func 70) [] [.dp (.int .i64) c0_2 0],.int .i64 checks_2,.fn (.func 76) [] [.dp (.int .i64) c0_3 0],.int .i64 checks_3])] ?_
    refine AW.seq ?_
    refine AW.cond (b:=true) rfl (fun _=>?_) (fun hb7=>by cases hb7)
    refine zk ?_
    refine AW.seq ?_
    refine AW.block ?_
    refine zo ?_
    refine AO.idxBox tab_ok (by decide) rfl rfl tab_92 rfl tab_81 rfl rfl rfl (by decide) (by decide) (at_:=2) rfl ?_
    refine zT [(0,.bp 1000 0),(9,.vw 1001 2 0 3),(10,.int .i64 3),(11,.int .i64 1),(13,.bp 1001 2)] [(1000,.box 71 (.int .i64 y.1::(.int .i64 y.2.1::(cellsX T63 y.2.2.1++(cellsX T65 y.2.2.2.1++(cellsX T69 y.2.2.2.2)))))),(1001,.box 81 [.fn (.func 72) [] [.dp (.int .i64) c0 0],.int .i64 checks,.fn (.func 70) [] [.dp (.int .i64) c0_2 0],.int .i64 checks_2,.fn (.func 76) [] [.dp (.int .i64) c0_3 0],.int .i64 checks_3])] gt ?_
    refine zB [(0,.bp 1000 0),(6,.bp 6 0),(9,.vw 1001 2 0 3),(10,.int .i64 3),(11,.int .i64 1)] [(6,.box 81 [.fn (.func 70) [] [.dp (.int .i64) c0_2 0],.int .i64 checks_2]),(1000,.box 71 (.int .i64 y.1::(.int .i64 y.2.1::(cellsX T63 y.2.2.1++(cellsX T65 y.2.2.2.1++(cellsX T69 y.2.2.2.2)))))),(1001,.box 81 [.fn (.func 72) [] [.dp (.int .i64) c0 0],.int .i64 checks,.fn (.func 70) [] [.dp (.int .i64) c0_2 0],.int .i64 checks_2,.fn (.func 76) [] [.dp (.int .i64) c0_3 0],.int .i64 checks_3])] ?_
    refine zo ?_
    refine zS 3 [(0,.bp 1000 0),(6,.bp 6 0),(9,.vw 1001 2 0 3),(10,.int .i64 3),(11,.int .i64 1),(16,.fn (.func 70) [] [.dp (.int .i64) c0_2 0]),(17,.bp 1000 0)] [(6,.box 81 [.fn (.func 70) [] [.dp (.int .i64) c0_2 0],.int .i64 checks_2]),(1000,.box 71 (.int .i64 y.1::(.int .i64 y.2.1::(cellsX T63 y.2.2.1++(cellsX T65 y.2.2.2.1++(cellsX T69 y.2.2.2.2)))))),(1001,.box 81 [.fn (.func 72) [] [.dp (.int .i64) c0 0],.int .i64 checks,.fn (.func 70) [] [.dp (.int .i64) c0_2 0],.int .i64 checks_2,.fn (.func 76) [] [.dp (.int .i64) c0_3 0],.int .i64 checks_3])] ?_
    obtain ⟨v0_3,hv8,h⟩:=Option.bind_eq_some_iff.1 h
    refine zC [] [(1000,1000)] (hc_hazard_isNode_1 c0_2 y hv8) [(0,.bp 1000 0),(6,.bp 6 0),(9,.vw 1001 2 0 3),(10,.int .i64 3),(11,.int .i64 1),(18,.bool v0_3)] [(6,.box 81 [.fn (.func 70) [] [.dp (.int .i64) c0_2 0],.int .i64 checks_2]),(1000,.box 71 (.int .i64 y.1::(.int .i64 y.2.1::(cellsX T63 y.2.2.1++(cellsX T65 y.2.2.2.1++(cellsX T69 y.2.2.2.2)))))),(1001,.box 81 [.fn (.func 72) [] [.dp (.int .i64) c0 0],.int .i64 checks,.fn (.func 70) [] [.dp (.int .i64) c0_2 0],.int .i64 checks_2,.fn (.func 76) [] [.dp (.int .i64) c0_3 0],.int .i64 checks_3])] ?_
    refine zB [(0,.bp 1000 0),(6,.bp 6 0),(9,.vw 1001 2 0 3),(10,.int .i64 3),(11,.int .i64 1),(19,.bool (!v0_3))] [(6,.box 81 [.fn (.func 70) [] [.dp (.int .i64) c0_2 0],.int .i64 checks_2]),(1000,.box 71 (.int .i64 y.1::(.int .i64 y.2.1::(cellsX T63 y.2.2.1++(cellsX T65 y.2.2.2.1++(cellsX T69 y.2.2.2.2)))))),(1001,.box 81 [.fn (.func 72) [] [.dp (.int .i64) c0 0],.int .i64 checks,.fn (.func 70) [] [.dp (.int .i64) c0_2 0],.int .i64 checks_2,.fn (.func 76) [] [.dp (.int .i64) c0_3 0],.int .i64 checks_3])] ?_
    refine zQ h (fun hb9 h=>?_) (fun hb9 h=>?_)
    ·refine zo ?_
     refine zB [(4,.int .i64 checks_2)] [(1000,.box 71 (.int .i64 y.1::(.int .i64 y.2.1::(cellsX T63 y.2.2.1++(cellsX T65 y.2.2.2.1++(cellsX T69 y.2.2.2.2)))))),(1001,.box 81 [.fn (.func 72) [] [.dp (.int .i64) c0 0],.int .i64 checks,.fn (.func 70) [] [.dp (.int .i64) c0_2 0],.int .i64 checks_2,.fn (.func 76) [] [.dp (.int .i64) c0_3 0],.int .i64 checks_3])] ?_
     refine AW.ret ?_
     refine ablock_r ?_
     refine athen_r ?_
     refine athen_r ?_
     refine ablock_r ?_
     refine athen_r ?_
     obtain rfl:=Option.some.inj h
     exact zR [] [] []
    ·refine zm ?_
     refine athen_n ?_
     refine AW.ops ?_
     obtain ⟨c10,h⟩:=ck_some.1 h
     refine zA [(0,.bp 1000 0),(9,.vw 1001 2 0 3),(10,.int .i64 3),(11,.int .i64 2)] [(1000,.box 71 (.int .i64 y.1::(.int .i64 y.2.1::(cellsX T63 y.2.2.1++(cellsX T65 y.2.2.2.1++(cellsX T69 y.2.2.2.2)))))),(1001,.box 81 [.fn (.func 72) [] [.dp (.int .i64) c0 0],.int .i64 checks,.fn (.func 70) [] [.dp (.int .i64) c0_2 0],.int .i64 checks_2,.fn (.func 76) [] [.dp (.int .i64) c0_3 0],.int .i64 checks_3])] ?_
     refine LoopU.at_ ?_
     refine LoopU.nx ?_
     refine zo ?_
     refine zB [(0,.bp 1000 0),(9,.vw 1001 2 0 3),(10,.int .i64 3),(11,.int .i64 2),(12,.bool true)] [(1000,.box 71 (.int .i64 y.1::(.int .i64 y.2.1::(cellsX T63 y.2.2.1++(cellsX T65 y.2.2.2.1++(cellsX T69 y.2.2.2.2)))))),(1001,.box 81 [.fn (.func 72) [] [.dp (.int .i64) c0 0],.int .i64 checks,.fn (.func 70) [] [.dp (.int .i64) c0_2 0],.int .i64 checks_2,.fn (.func 76) [] [.dp (.int .i64) c0_3 0],.int .i64 checks_3])] ?_
     refine AW.seq ?_
     refine AW.cond (b:=true) rfl (fun _=>?_) (fun hb11=>by cases hb11)
     refine zk ?_
     refine AW.seq ?_
     refine AW.block ?_
     refine zo ?_
     refine AO.idxBox tab_ok (by decide) rfl rfl tab_92 rfl tab_81 rfl rfl rfl (by decide) (by decide) (at_:=4) rfl ?_
     refine zT [(0,.bp 1000 0),(9,.vw 1001 2 0 3),(10,.int .i64 3),(11,.int .i64 2),(13,.bp 1001 4)] [(1000,.box 71 (.int .i64 y.1::(.int .i64 y.2.1::(cellsX T63 y.2.2.1++(cellsX T65 y.2.2.2.1++(cellsX T69 y.2.2.2.2)))))),(1001,.box 81 [.fn (.func 72) [] [.dp (.int .i64) c0 0],.int .i64 checks,.fn (.func 70) [] [.dp (.int .i64) c0_2 0],.int .i64 checks_2,.fn (.func 76) [] [.dp (.int .i64) c0_3 0],.int .i64 checks_3])] gt ?_
     refine zB [(0,.bp 1000 0),(6,.bp 6 0),(9,.vw 1001 2 0 3),(10,.int .i64 3),(11,.int .i64 2)] [(6,.box 81 [.fn (.func 76) [] [.dp (.int .i64) c0_3 0],.int .i64 checks_3]),(1000,.box 71 (.int .i64 y.1::(.int .i64 y.2.1::(cellsX T63 y.2.2.1++(cellsX T65 y.2.2.2.1++(cellsX T69 y.2.2.2.2)))))),(1001,.box 81 [.fn (.func 72) [] [.dp (.int .i64) c0 0],.int .i64 checks,.fn (.func 70) [] [.dp (.int .i64) c0_2 0],.int .i64 checks_2,.fn (.func 76) [] [.dp (.int .i64) c0_3 0],.int .i64 checks_3])] ?_
     refine zo ?_
     refine zS 3 [(0,.bp 1000 0),(6,.bp 6 0),(9,.vw 1001 2 0 3),(10,.int .i64 3),(11,.int .i64 2),(16,.fn (.func 76) [] [.dp (.int .i64) c0_3 0]),(17,.bp 1000 0)] [(6,.box 81 [.fn (.func 76) [] [.dp (.int .i64) c0_3 0],.int .i64 checks_3]),(1000,.box 71 (.int .i64 y.1::(.int .i64 y.2.1::(cellsX T63 y.2.2.1++(cellsX T65 y.2.2.2.1++(cellsX T69 y.2.2.2.2)))))),(1001,.box 81 [.fn (.func 72) [] [.dp (.int .i64) c0 0],.int .i64 checks,.fn (.func 70) [] [.dp (.int .i64) c0_2 0],.int .i64 checks_2,.fn (.func 76) [] [.dp (.int .i64) c0_3 0],.int .i64 checks_3])] ?_
     obtain ⟨v0_4,hv12,h⟩:=Option.bind_eq_some_iff.1 h
     refine zC [] [(1000,1000)] (hc_hazard_isIn_1 c0_3 y hv12) [(0,.bp 1000 0),(6,.bp 6 0),(9,.vw 1001 2 0 3),(10,.int .i64 3),(11,.int .i64 2),(18,.bool (decide ((intAt T63 y.2.2.1 (c0_3.toNat*1))=1)))] [(6,.box 81 [.fn (.func 76) [] [.dp (.int .i64) c0_3 0],.int .i64 checks_3]),(1000,.box 71 (.int .i64 y.1::(.int .i64 y.2.1::(cellsX T63 y.2.2.1++(cellsX T65 y.2.2.2.1++(cellsX T69 y.2.2.2.2)))))),(1001,.box 81 [.fn (.func 72) [] [.dp (.int .i64) c0 0],.int .i64 checks,.fn (.func 70) [] [.dp (.int .i64) c0_2 0],.int .i64 checks_2,.fn (.func 76) [] [.dp (.int .i64) c0_3 0],.int .i64 checks_3])] ?_
     refine zB [(0,.bp 1000 0),(6,.bp 6 0),(9,.vw 1001 2 0 3),(10,.int .i64 3),(11,.int .i64 2),(19,.bool (!(decide ((intAt T63 y.2.2.1 (c0_3.toNat*1))=1))))] [(6,.box 81 [.fn (.func 76) [] [.dp (.int .i64) c0_3 0],.int .i64 checks_3]),(1000,.box 71 (.int .i64 y.1::(.int .i64 y.2.1::(cellsX T63 y.2.2.1++(cellsX T65 y.2.2.2.1++(cellsX T69 y.2.2.2.2)))))),(1001,.box 81 [.fn (.func 72) [] [.dp (.int .i64) c0 0],.int .i64 checks,.fn (.func 70) [] [.dp (.int .i64) c0_2 0],.int .i64 checks_2,.fn (.func 76) [] [.dp (.int .i64) c0_3 0],.int .i64 checks_3])] ?_
     refine zQ h (fun hb13 h=>?_) (fun hb13 h=>?_)
     ·refine zo ?_
      refine zB [(4,.int .i64 checks_3)] [(1000,.box 71 (.int .i64 y.1::(.int .i64 y.2.1::(cellsX T63 y.2.2.1++(cellsX T65 y.2.2.2.1++(cellsX T69 y.2.2.2.2)))))),(1001,.box 81 [.fn (.func 72) [] [.dp (.int .i64) c0 0],.int .i64 checks,.fn (.func 70) [] [.dp (.int .i64) c0_2 0],.int .i64 checks_2,.fn (.func 76) [] [.dp (.int .i64) c0_3 0],.int .i64 checks_3])] ?_
      refine AW.ret ?_
      refine ablock_r ?_
      refine athen_r ?_
      refine athen_r ?_
      refine ablock_r ?_
      refine athen_r ?_
      obtain rfl:=Option.some.inj h
      exact zR [] [] []
     ·refine zm ?_
      refine athen_n ?_
      refine AW.ops ?_
      obtain ⟨c14,h⟩:=ck_some.1 h
      refine zA [(0,.bp 1000 0),(9,.vw 1001 2 0 3),(10,.int .i64 3),(11,.int .i64 3)] [(1000,.box 71 (.int .i64 y.1::(.int .i64 y.2.1::(cellsX T63 y.2.2.1++(cellsX T65 y.2.2.2.1++(cellsX T69 y.2.2.2.2)))))),(1001,.box 81 [.fn (.func 72) [] [.dp (.int .i64) c0 0],.int .i64 checks,.fn (.func 70) [] [.dp (.int .i64) c0_2 0],.int .i64 checks_2,.fn (.func 76) [] [.dp (.int .i64) c0_3 0],.int .i64 checks_3])] ?_
      refine LoopU.at_ ?_
      refine LoopU.nx ?_
      refine zo ?_
      refine zB [(0,.bp 1000 0),(9,.vw 1001 2 0 3),(10,.int .i64 3),(11,.int .i64 3),(12,.bool false)] [(1000,.box 71 (.int .i64 y.1::(.int .i64 y.2.1::(cellsX T63 y.2.2.1++(cellsX T65 y.2.2.2.1++(cellsX T69 y.2.2.2.2)))))),(1001,.box 81 [.fn (.func 72) [] [.dp (.int .i64) c0 0],.int .i64 checks,.fn (.func 70) [] [.dp (.int .i64) c0_2 0],.int .i64 checks_2,.fn (.func 76) [] [.dp (.int .i64) c0_3 0],.int .i64 checks_3])] ?_
      refine AW.seq ?_
      refine AW.cond (b:=false) rfl (fun hb15=>by cases hb15) (fun _=>?_)
      refine AW.exit ?_
      refine athen_e ?_
      refine athen_e ?_
      refine ablock_s ?_
      refine athen_n ?_
      exact AW.weaken (zL [] [] []) (hk_hazard_Yard_fails_5_k1 () h)
theorem hc_hazard_list_add (l:Nat) (node:Int) (l_2:Int×Int×(El T63)×(El T65)×(El T69)) {r:Unit} (h:hazard_list_add l node l_2=some r):HC Tryd.prog 62 [(1000,.box 71 (.int .i64 l_2.1::(.int .i64 l_2.2.1::(cellsX T63 l_2.2.2.1++(cellsX T65 l_2.2.2.2.1++(cellsX T69 l_2.2.2.2.2))))))] [.bp 1000 (18+l),.int .i64 node] [(1000,.box 71 (.int .i64 l_2.1::(.int .i64 l_2.2.1::(cellsX T63 l_2.2.2.1++(cellsX T65 l_2.2.2.2.1++(cellsX T69 (setInt T69 (setInt T69 l_2.2.2.2.2 ((l+1)+(intAt T69 l_2.2.2.2.2 l).toNat*1) node) l ((intAt T69 (setInt T69 l_2.2.2.2.2 ((l+1)+(intAt T69 l_2.2.2.2.2 l).toNat*1) node) l)+1))))))))] (.tup []):=by
 unfold hazard_list_add at h
 refine zH Tryd.func62 [] 20 ?_
 refine AW.seq ?_
 refine AW.draw tab_ok mixed_ok [(9,[1000])] [] (by decide) (lex_fast (by kernel_rfl)) ?_
 as_aux_lemma =>
  obtain ⟨c2,h⟩:=ck_some.1 h
  refine adops_cut 6 (fun K' hK1=>?_)
  try dsimp only [List.drop_succ_cons,List.drop_zero,List.take_succ_cons,List.take_zero]
  simp only [go_sem,c2]
  repeat with_reducible refine zN ?_
  refine hK1 _ ?_
  as_aux_lemma =>
   obtain ⟨c4,h⟩:=ck_some.1 h
   obtain ⟨c5,h⟩:=ck_some.1 h
   obtain ⟨c6,h⟩:=ck_some.1 h
   refine adops_cut 4 (fun K' hK3=>?_)
   try dsimp only [List.drop_succ_cons,List.drop_zero,List.take_succ_cons,List.take_zero]
   simp only [go_sem,c2,c6]
   repeat with_reducible refine zN ?_
   refine hK3 _ ?_
   refine adops_nil ?_
   refine athen_n ?_
   refine zV [(0,.bp 1000 (18+l))] [(1000,.box 71 (.int .i64 l_2.1::(.int .i64 l_2.2.1::(cellsX T63 l_2.2.2.1++(cellsX T65 l_2.2.2.2.1++(cellsX T69 (setInt T69 l_2.2.2.2.2 ((l+1)+(intAt T69 l_2.2.2.2.2 l).toNat*1) node)))))))] gt ?_
   as_aux_lemma =>
    refine AW.ops ?_
    obtain ⟨c7,h⟩:=ck_some.1 h
    obtain ⟨c8,h⟩:=ck_some.1 h
    refine zS 5 [(13,.bp 1000 (18+l)),(17,.int .i64 ((intAt T69 (setInt T69 l_2.2.2.2.2 ((l+1)+(intAt T69 l_2.2.2.2.2 l).toNat*1) node) l)+1))] [(1000,.box 71 (.int .i64 l_2.1::(.int .i64 l_2.2.1::(cellsX T63 l_2.2.2.1++(cellsX T65 l_2.2.2.2.1++(cellsX T69 (setInt T69 l_2.2.2.2.2 ((l+1)+(intAt T69 l_2.2.2.2.2 l).toNat*1) node)))))))] ?_
    obtain ⟨c9,h⟩:=ck_some.1 h
    refine zA [] [(1000,.box 71 (.int .i64 l_2.1::(.int .i64 l_2.2.1::(cellsX T63 l_2.2.2.1++(cellsX T65 l_2.2.2.2.1++(cellsX T69 (setInt T69 (setInt T69 l_2.2.2.2.2 ((l+1)+(intAt T69 l_2.2.2.2.2 l).toNat*1) node) l ((intAt T69 (setInt T69 l_2.2.2.2.2 ((l+1)+(intAt T69 l_2.2.2.2.2 l).toNat*1) node) l)+1))))))))] ?_
    obtain rfl:=Option.some.inj h
    exact zR [] [] []
theorem hc_slices_Clone (s:List Int) {r:(List Int)} (h:slices_Clone s=some r):HC Tryd.prog 73 [] [.sl (.int .i64) s] [(2000,.arr 3 (.int .i64) r)] (.own 2000):=by
 unfold slices_Clone at h
 refine zH Tryd.func73 [.tmp 2] 8 ?_
 refine zo ?_
 refine zB [(0,.sl (.int .i64) s)] [] ?_
 refine AW.seq ?_
 refine zo ?_
 refine zS 1 [(0,.sl (.int .i64) s),(3,.sl (.int .i64) s)] [] ?_
 refine AO.nilEq (neg:=false) tab_ok (by decide) rfl rfl tab_45 rfl rfl rfl (fun hnil1=>?_) ?_
 ·have h:(some [])=some r:=by
   first|(simp only [hnil1] at h ⊢; simpa [ck] using h)|(simp [hnil1,ck] at h ⊢; first|done|exact h)
  refine zT [(0,.sl (.int .i64) s),(4,.bool true)] [] gt ?_
  refine zB [(0,.sl (.int .i64) s),(4,.bool true)] [] ?_
  refine AW.cond (b:=true) rfl (fun _=>?_) (fun hb2=>by cases hb2)
  refine zo ?_
  refine zB [(2,.cv (.slice none 0 0))] [] ?_
  refine zr ?_
  obtain rfl:=Option.some.inj h
  exact zR [] [2000] []
 ·refine zT [(0,.sl (.int .i64) s),(4,.bool false)] [] gt ?_
  refine zB [(0,.sl (.int .i64) s),(4,.bool false)] [] ?_
  refine AW.cond (b:=false) rfl (fun hb3=>by cases hb3) (fun _=>?_)
  refine zk ?_
  refine zo ?_
  obtain ⟨c4,h⟩:=ck_some.1 h
  refine zB [(2,.own 7)] [(7,.arr 3 (.int .i64) s)] ?_
  refine AW.ret ?_
  obtain rfl:=Option.some.inj h
  exact zR [] [] [(2000,7)]
theorem hc_hazard_list_all (l:Int×(El T66)) {r:(List Int)} (h:hazard_list_all l=some r):HC Tryd.prog 56 [] [.agg (.int .i64 l.1::(cellsX T66 l.2))] [(2000,.arr 3 (.int .i64) r)] (.own 2000):=by
 unfold hazard_list_all at h
 refine zH Tryd.func56 [.tmp 2] 8 ?_
 refine zo ?_
 refine zS 1 [(1,.bp 1 0)] [(1,.box 68 (.int .i64 l.1::(cellsX T66 l.2)))] ?_
 refine AO.weaken (s':=⟨fr [(1,.dp (.pair (.int .i64) T66) l 0)],hpGet [],gt⟩) (Wk.boxes [1] rfl rfl (by (simp only [go_sem])<;>(with_reducible and_intros)<;>first|assumption|rfl|omega|(unfold maxLen; omega)) (by (simp only [go_sem])<;>(with_reducible and_intros)<;>first|assumption|rfl|omega|(unfold maxLen; omega))) ?_
 refine zB [(1,.dp (.pair (.int .i64) T66) l 0)] [] ?_
 refine zo ?_
 obtain ⟨c1,h⟩:=ck_some.1 h
 obtain ⟨c2,h⟩:=ck_some.1 h
 refine zS 4 [(6,.sl (.int .i64) ((rowX T66 l.2).take l.1.toNat))] [] ?_
 obtain ⟨v0,hv3,h⟩:=Option.bind_eq_some_iff.1 h
 refine zC [] [] (hc_slices_Clone ((rowX T66 l.2).take l.1.toNat) hv3) [(7,.own 17000)] [(17000,.arr 3 (.int .i64) v0)] ?_
 refine zB [(2,.own 17000)] [(17000,.arr 3 (.int .i64) v0)] ?_
 refine AW.ret ?_
 obtain rfl:=Option.some.inj h
 exact zR [] [] [(2000,17000)]
theorem hc_slices_Index_2 (v0:Int) (s:Int×Int) {r:Int} (h:slices_Index_2 v0 s=some r):HC Tryd.prog 78 [(1000,.box 64 [.int .i64 s.1,.int .i64 s.2])] [.vw 1000 1 0 2,.int .i64 v0] [(1000,.box 64 [.int .i64 s.1,.int .i64 s.2])] (.int .i64 r):=by
 unfold slices_Index_2 at h
 refine zH Tryd.func78 [.tmp 4] 19 ?_
 refine zo ?_
 refine zB [(0,.vw 1000 1 0 2),(1,.int .i64 v0)] [(1000,.box 64 [.int .i64 s.1,.int .i64 s.2])] ?_
 refine AW.have1 (fun _:Unit=>slices_Index_2_k1=some r) (fun _=>⟨fr [],hpGet [(1000,.box 64 [.int .i64 s.1,.int .i64 s.2])],gt⟩) (fun _ h=>?_) (fun hk_slices_Index_2_k1=>?_)
 ·as_aux_lemma =>
   unfold slices_Index_2_k1 at h
   refine zo ?_
   refine zB [(4,.int .i64 (-1))] [(1000,.box 64 [.int .i64 s.1,.int .i64 s.2])] ?_
   refine AW.ret ?_
   obtain rfl:=Option.some.inj h
   exact zR [] [] []
 ·refine AW.seq ?_
  refine zo ?_
  refine zB [(0,.vw 1000 1 0 2),(1,.int .i64 v0),(7,.int .i64 2),(8,.int .i64 0)] [(1000,.box 64 [.int .i64 s.1,.int .i64 s.2])] ?_
  refine AW.block ?_
  obtain ⟨rv5,hw1,ho2⟩:=Option.bind_eq_some_iff.1 h
  refine AW.loopO (slices_Index_2_b1 v0 s) (fun st1=>⟨fr [(0,.vw 1000 1 0 2),(1,.int .i64 v0),(7,.int .i64 2),(8,.int .i64 st1)],hpGet [(1000,.box 64 [.int .i64 s.1,.int .i64 s.2])],gt⟩) 0 hw1 (zL [] [] []) ?_
  as_aux_lemma =>
   intro st1 x4 h hd3
   unfold slices_Index_2_b1 at h
   refine zo ?_
   refine zB [(0,.vw 1000 1 0 2),(1,.int .i64 v0),(7,.int .i64 2),(8,.int .i64 st1),(9,.bool (decide (st1<2)))] [(1000,.box 64 [.int .i64 s.1,.int .i64 s.2])] ?_
   refine AW.seq ?_
   refine zQ h (fun hb6 h=>?_) (fun hb6 h=>?_)
   ·refine zk ?_
    refine AW.seq ?_
    refine AW.block ?_
    refine zo ?_
    refine zB [(0,.vw 1000 1 0 2),(1,.int .i64 v0),(5,.int .i64 st1),(7,.int .i64 2),(8,.int .i64 st1)] [(1000,.box 64 [.int .i64 s.1,.int .i64 s.2])] ?_
    refine zo ?_
    obtain ⟨c7,h⟩:=ck_some.1 h
    obtain ⟨c8,h⟩:=ck_some.1 h
    refine zS 3 [(0,.vw 1000 1 0 2),(1,.int .i64 v0),(5,.int .i64 st1),(7,.int .i64 2),(8,.int .i64 st1),(11,.int .i64 v0),(12,.vw 1000 1 0 2),(13,.int .i64 st1)] [(1000,.box 64 [.int .i64 s.1,.int .i64 s.2])] ?_
    rcases Bool.eq_false_or_eq_true (decide (st1=0)) with hb9|hb9
    ·rw [if_pos hb9] at h
     have hz10:st1=0:=by simpa using hb9
     refine zT [(0,.vw 1000 1 0 2),(1,.int .i64 v0),(5,.int .i64 0),(7,.int .i64 2),(8,.int .i64 0),(11,.int .i64 v0),(12,.vw 1000 1 0 2),(13,.int .i64 0)] [(1000,.box 64 [.int .i64 s.1,.int .i64 s.2])] gt ?_
     refine zB [(0,.vw 1000 1 0 2),(1,.int .i64 v0),(5,.int .i64 0),(7,.int .i64 2),(8,.int .i64 0),(16,.bool (decide (v0=s.1)))] [(1000,.box 64 [.int .i64 s.1,.int .i64 s.2])] ?_
     refine zQ h (fun hb11 h=>?_) (fun hb11 h=>?_)
     ·refine zo ?_
      refine zB [(4,.int .i64 0)] [(1000,.box 64 [.int .i64 s.1,.int .i64 s.2])] ?_
      refine AW.ret ?_
      refine ablock_r ?_
      refine athen_r ?_
      obtain rfl:=Option.some.inj h
      rw [← hd3 _ rfl] at ho2
      have h:=ho2
      try simp only at h
      refine athen_r ?_
      refine ablock_r ?_
      refine athen_r ?_
      obtain rfl:=Option.some.inj h
      exact zR [] [] []
     ·refine zm ?_
      refine athen_n ?_
      refine AW.ops ?_
      obtain ⟨c12,h⟩:=ck_some.1 h
      refine zA [(0,.vw 1000 1 0 2),(1,.int .i64 v0),(7,.int .i64 2),(8,.int .i64 (0+1))] [(1000,.box 64 [.int .i64 s.1,.int .i64 s.2])] ?_
      obtain rfl:=Option.some.inj h
      exact ⟨_,rfl,zL [] [] []⟩
    ·rw [if_neg (Bool.eq_false_iff.1 hb9)] at h
     have hz10:st1=1:=by have:=of_decide_eq_false hb9; omega
     refine zT [(0,.vw 1000 1 0 2),(1,.int .i64 v0),(5,.int .i64 1),(7,.int .i64 2),(8,.int .i64 1),(11,.int .i64 v0),(12,.vw 1000 1 0 2),(13,.int .i64 1)] [(1000,.box 64 [.int .i64 s.1,.int .i64 s.2])] gt ?_
     refine zB [(0,.vw 1000 1 0 2),(1,.int .i64 v0),(5,.int .i64 1),(7,.int .i64 2),(8,.int .i64 1),(16,.bool (decide (v0=s.2)))] [(1000,.box 64 [.int .i64 s.1,.int .i64 s.2])] ?_
     refine zQ h (fun hb13 h=>?_) (fun hb13 h=>?_)
     ·refine zo ?_
      refine zB [(4,.int .i64 1)] [(1000,.box 64 [.int .i64 s.1,.int .i64 s.2])] ?_
      refine AW.ret ?_
      refine ablock_r ?_
      refine athen_r ?_
      obtain rfl:=Option.some.inj h
      rw [← hd3 _ rfl] at ho2
      have h:=ho2
      try simp only at h
      refine athen_r ?_
      refine ablock_r ?_
      refine athen_r ?_
      obtain rfl:=Option.some.inj h
      exact zR [] [] []
     ·refine zm ?_
      refine athen_n ?_
      refine AW.ops ?_
      obtain ⟨c14,h⟩:=ck_some.1 h
      refine zA [(0,.vw 1000 1 0 2),(1,.int .i64 v0),(7,.int .i64 2),(8,.int .i64 (1+1))] [(1000,.box 64 [.int .i64 s.1,.int .i64 s.2])] ?_
      obtain rfl:=Option.some.inj h
      exact ⟨_,rfl,zL [] [] []⟩
   ·refine AW.exit ?_
    refine athen_e ?_
    obtain rfl:=Option.some.inj h
    try rw [← hd3 _ rfl] at ho2
    have h:=ho2
    try simp only at h
    refine athen_e ?_
    refine ablock_s ?_
    refine athen_n ?_
    exact AW.weaken (zL [] [] []) (hk_slices_Index_2_k1 () h)
theorem hc_slices_Contains (v0:Int) (s:Int×Int) {r:Bool} (h:slices_Contains v0 s=some r):HC Tryd.prog 77 [(1000,.box 64 [.int .i64 s.1,.int .i64 s.2])] [.vw 1000 1 0 2,.int .i64 v0] [(1000,.box 64 [.int .i64 s.1,.int .i64 s.2])] (.bool r):=by
 unfold slices_Contains at h
 refine zH Tryd.func77 [.tmp 4] 9 ?_
 refine zo ?_
 refine zB [(0,.vw 1000 1 0 2),(1,.int .i64 v0)] [(1000,.box 64 [.int .i64 s.1,.int .i64 s.2])] ?_
 refine zo ?_
 refine zS 2 [(5,.vw 1000 1 0 2),(6,.int .i64 v0)] [(1000,.box 64 [.int .i64 s.1,.int .i64 s.2])] ?_
 obtain ⟨v0_2,hv1,h⟩:=Option.bind_eq_some_iff.1 h
 refine zC [] [(1000,1000)] (hc_slices_Index_2 v0 s hv1) [(7,.int .i64 v0_2)] [(1000,.box 64 [.int .i64 s.1,.int .i64 s.2])] ?_
 refine zB [(4,.bool (decide (0≤v0_2)))] [(1000,.box 64 [.int .i64 s.1,.int .i64 s.2])] ?_
 refine AW.ret ?_
 obtain rfl:=Option.some.inj h
 exact zR [] [] []
theorem hc_hazard_Yard_isHeld (node:Int) (y:Int×Int×(El T63)×(El T65)×(El T69)) {r:Bool} (h:hazard_Yard_isHeld node y=some r):HC Tryd.prog 67 [(1000,.box 71 (.int .i64 y.1::(.int .i64 y.2.1::(cellsX T63 y.2.2.1++(cellsX T65 y.2.2.2.1++(cellsX T69 y.2.2.2.2))))))] [.bp 1000 0,.int .i64 node] [(1000,.box 71 (.int .i64 y.1::(.int .i64 y.2.1::(cellsX T63 y.2.2.1++(cellsX T65 y.2.2.2.1++(cellsX T69 y.2.2.2.2))))))] (.bool r):=by
 unfold hazard_Yard_isHeld at h
 refine zH Tryd.func67 [.tmp 4] 18 ?_
 refine zo ?_
 refine zB [(0,.bp 1000 0),(1,.int .i64 node)] [(1000,.box 71 (.int .i64 y.1::(.int .i64 y.2.1::(cellsX T63 y.2.2.1++(cellsX T65 y.2.2.2.1++(cellsX T69 y.2.2.2.2))))))] ?_
 refine AW.have1 (fun _:Unit=>hazard_Yard_isHeld_k1=some r) (fun _=>⟨fr [],hpGet [(1000,.box 71 (.int .i64 y.1::(.int .i64 y.2.1::(cellsX T63 y.2.2.1++(cellsX T65 y.2.2.2.1++(cellsX T69 y.2.2.2.2))))))],gt⟩) (fun _ h=>?_) (fun hk_hazard_Yard_isHeld_k1=>?_)
 ·as_aux_lemma =>
   unfold hazard_Yard_isHeld_k1 at h
   refine zo ?_
   refine zB [(4,.bool false)] [(1000,.box 71 (.int .i64 y.1::(.int .i64 y.2.1::(cellsX T63 y.2.2.1++(cellsX T65 y.2.2.2.1++(cellsX T69 y.2.2.2.2))))))] ?_
   refine AW.ret ?_
   obtain rfl:=Option.some.inj h
   exact zR [] [] []
 ·refine AW.seq ?_
  refine zo ?_
  refine zB [(1,.int .i64 node),(10,.agg (cellsX T65 y.2.2.2.1)),(11,.int .i64 0)] [(1000,.box 71 (.int .i64 y.1::(.int .i64 y.2.1::(cellsX T63 y.2.2.1++(cellsX T65 y.2.2.2.1++(cellsX T69 y.2.2.2.2))))))] ?_
  refine AW.block ?_
  obtain ⟨rv5,hw1,ho2⟩:=Option.bind_eq_some_iff.1 h
  refine AW.loopO (hazard_Yard_isHeld_b1 node y) (fun st1=>⟨fr [(1,.int .i64 node),(10,.agg (cellsX T65 y.2.2.2.1)),(11,.int .i64 st1)],hpGet [(1000,.box 71 (.int .i64 y.1::(.int .i64 y.2.1::(cellsX T63 y.2.2.1++(cellsX T65 y.2.2.2.1++(cellsX T69 y.2.2.2.2))))))],gt⟩) 0 hw1 (zL [] [] []) ?_
  as_aux_lemma =>
   intro st1 x4 h hd3
   unfold hazard_Yard_isHeld_b1 at h
   refine zo ?_
   refine zB [(1,.int .i64 node),(10,.agg (cellsX T65 y.2.2.2.1)),(11,.int .i64 st1),(12,.bool (decide (st1<4)))] [(1000,.box 71 (.int .i64 y.1::(.int .i64 y.2.1::(cellsX T63 y.2.2.1++(cellsX T65 y.2.2.2.1++(cellsX T69 y.2.2.2.2))))))] ?_
   refine AW.seq ?_
   refine zQ h (fun hb6 h=>?_) (fun hb6 h=>?_)
   ·refine zk ?_
    refine AW.seq ?_
    refine AW.block ?_
    refine zo ?_
    obtain ⟨c7,h⟩:=ck_some.1 h
    obtain ⟨c8,h⟩:=ck_some.1 h
    have hx9:((st1.toNat*2)+2)≤8:=by omega
    refine AO.idxA tab_ok (by decide) rfl rfl tab_65 rfl tab_64 rfl rfl (by first|assumption|omega|(simp only [go_sem,hb6,hx9])<;>(with_reducible and_intros)<;>first|assumption|rfl|omega|(unfold maxLen; omega)) (by first|assumption|omega|(simp only [go_sem,hb6,hx9])<;>(with_reducible and_intros)<;>first|assumption|rfl|omega|(unfold maxLen; omega)) (by first|assumption|omega|(simp only [go_sem,hb6,hx9])<;>(with_reducible and_intros)<;>first|assumption|rfl|omega|(unfold maxLen; omega)) (.inl rfl) (v:=.agg [.int .i64 (intAt T65 y.2.2.2.1 (st1.toNat*2)),.int .i64 (intAt T65 y.2.2.2.1 ((st1.toNat*2)+1))]) (by first|assumption|omega|(simp only [go_sem,hb6,hx9])<;>(with_reducible and_intros)<;>first|assumption|rfl|omega|(unfold maxLen; omega)) ?_
    refine zT [(1,.int .i64 node),(10,.agg (cellsX T65 y.2.2.2.1)),(11,.int .i64 st1),(13,.agg [.int .i64 (intAt T65 y.2.2.2.1 (st1.toNat*2)),.int .i64 (intAt T65 y.2.2.2.1 ((st1.toNat*2)+1))])] [(1000,.box 71 (.int .i64 y.1::(.int .i64 y.2.1::(cellsX T63 y.2.2.1++(cellsX T65 y.2.2.2.1++(cellsX T69 y.2.2.2.2))))))] gt ?_
    refine zB [(1,.int .i64 node),(6,.bp 6 0),(10,.agg (cellsX T65 y.2.2.2.1)),(11,.int .i64 st1)] [(6,.box 64 [.int .i64 (intAt T65 y.2.2.2.1 (st1.toNat*2)),.int .i64 (intAt T65 y.2.2.2.1 ((st1.toNat*2)+1))]),(1000,.box 71 (.int .i64 y.1::(.int .i64 y.2.1::(cellsX T63 y.2.2.1++(cellsX T65 y.2.2.2.1++(cellsX T69 y.2.2.2.2))))))] ?_
    refine zo ?_
    refine zS 2 [(1,.int .i64 node),(10,.agg (cellsX T65 y.2.2.2.1)),(11,.int .i64 st1),(14,.vw 6 1 0 2),(15,.int .i64 node)] [(6,.box 64 [.int .i64 (intAt T65 y.2.2.2.1 (st1.toNat*2)),.int .i64 (intAt T65 y.2.2.2.1 ((st1.toNat*2)+1))]),(1000,.box 71 (.int .i64 y.1::(.int .i64 y.2.1::(cellsX T63 y.2.2.1++(cellsX T65 y.2.2.2.1++(cellsX T69 y.2.2.2.2))))))] ?_
    obtain ⟨v0,hv10,h⟩:=Option.bind_eq_some_iff.1 h
    refine zC [] [(1000,6)] (hc_slices_Contains node ((intAt T65 y.2.2.2.1 (st1.toNat*2)),(intAt T65 y.2.2.2.1 ((st1.toNat*2)+1))) hv10) [(1,.int .i64 node),(10,.agg (cellsX T65 y.2.2.2.1)),(11,.int .i64 st1),(16,.bool v0)] [(1000,.box 71 (.int .i64 y.1::(.int .i64 y.2.1::(cellsX T63 y.2.2.1++(cellsX T65 y.2.2.2.1++(cellsX T69 y.2.2.2.2))))))] ?_
    refine zB [(1,.int .i64 node),(10,.agg (cellsX T65 y.2.2.2.1)),(11,.int .i64 st1),(16,.bool v0)] [(1000,.box 71 (.int .i64 y.1::(.int .i64 y.2.1::(cellsX T63 y.2.2.1++(cellsX T65 y.2.2.2.1++(cellsX T69 y.2.2.2.2))))))] ?_
    refine zQ h (fun hb11 h=>?_) (fun hb11 h=>?_)
    ·refine zo ?_
     refine zB [(4,.bool true)] [(1000,.box 71 (.int .i64 y.1::(.int .i64 y.2.1::(cellsX T63 y.2.2.1++(cellsX T65 y.2.2.2.1++(cellsX T69 y.2.2.2.2))))))] ?_
     refine AW.ret ?_
     refine ablock_r ?_
     refine athen_r ?_
     obtain rfl:=Option.some.inj h
     try rw [← hd3 _ rfl] at ho2
     have h:=ho2
     try simp only at h
     refine athen_r ?_
     refine ablock_r ?_
     refine athen_r ?_
     obtain rfl:=Option.some.inj h
     exact zR [] [] []
    ·refine zm ?_
     refine athen_n ?_
     refine AW.ops ?_
     obtain ⟨c12,h⟩:=ck_some.1 h
     refine zA [(1,.int .i64 node),(10,.agg (cellsX T65 y.2.2.2.1)),(11,.int .i64 (st1+1))] [(1000,.box 71 (.int .i64 y.1::(.int .i64 y.2.1::(cellsX T63 y.2.2.1++(cellsX T65 y.2.2.2.1++(cellsX T69 y.2.2.2.2))))))] ?_
     obtain rfl:=Option.some.inj h
     exact ⟨_,rfl,zL [] [] []⟩
   ·refine AW.exit ?_
    refine athen_e ?_
    obtain rfl:=Option.some.inj h
    try rw [← hd3 _ rfl] at ho2
    have h:=ho2
    try simp only at h
    refine athen_e ?_
    refine ablock_s ?_
    refine athen_n ?_
    exact AW.weaken (zL [] [] []) (hk_hazard_Yard_isHeld_k1 () h)
theorem hc_hazard_list_add_2 (node:Int) (l:Int×(El T66)) {r:Unit} (h:hazard_list_add_2 node l=some r):HC Tryd.prog 62 [(1000,.box 68 (.int .i64 l.1::(cellsX T66 l.2)))] [.bp 1000 0,.int .i64 node] [(1000,.box 68 (.int .i64 (l.1+1)::(cellsX T66 (setInt T66 l.2 (l.1.toNat*1) node))))] (.tup []):=by
 unfold hazard_list_add_2 at h
 refine zH Tryd.func62 [] 20 ?_
 refine AW.seq ?_
 refine AW.draw tab_ok mixed_ok [(9,[1000])] [] (by decide) (lex_fast (by kernel_rfl)) ?_
 as_aux_lemma =>
  refine adops_cut 6 (fun K' hK1=>?_)
  try dsimp only [List.drop_succ_cons,List.drop_zero,List.take_succ_cons,List.take_zero]
  simp only [go_sem]
  repeat with_reducible refine zN ?_
  refine hK1 _ ?_
  as_aux_lemma =>
   obtain ⟨c3,h⟩:=ck_some.1 h
   obtain ⟨c4,h⟩:=ck_some.1 h
   have hx5:(l.1.toNat*1)<8:=by omega
   refine adops_cut 4 (fun K' hK2=>?_)
   try dsimp only [List.drop_succ_cons,List.drop_zero,List.take_succ_cons,List.take_zero]
   simp only [go_sem,hx5]
   repeat with_reducible refine zN ?_
   refine hK2 _ ?_
   refine adops_nil ?_
   refine athen_n ?_
   refine zV [(0,.bp 1000 0)] [(1000,.box 68 (.int .i64 l.1::(cellsX T66 (setInt T66 l.2 (l.1.toNat*1) node))))] gt ?_
   as_aux_lemma =>
    refine AW.ops ?_
    obtain ⟨c6,h⟩:=ck_some.1 h
    refine zS 5 [(13,.bp 1000 0),(17,.int .i64 (l.1+1))] [(1000,.box 68 (.int .i64 l.1::(cellsX T66 (setInt T66 l.2 (l.1.toNat*1) node))))] ?_
    refine zA [] [(1000,.box 68 (.int .i64 (l.1+1)::(cellsX T66 (setInt T66 l.2 (l.1.toNat*1) node))))] ?_
    obtain rfl:=Option.some.inj h
    exact zR [] [] []
end Go.Proofs.YtcckpmeepcoafaaDoor
