import Derived.Test.YtcckpmeepcoafaaDoorHzp
import Derived.Test.YtcckpmeepcoafaaDoorShz
import Derived.Test.YtcckpmeepcoafaaDoorHhc1
import Derived.Test.YtcckpmeepcoafaaDoorHhc2
namespace Go.Proofs.YtcckpmeepcoafaaDoor
open Go.RowKit
set_option linter.unusedSimpArgs false
set_option linter.unusedVariables false
set_option linter.constructorNameAsVariable false
set_option maxRecDepth 100000
set_option maxHeartbeats 40000000
theorem hc_hazard_Yard_Point (thread:Int) (slot:Int) (node:Int) (y:Int×Int×(El T63)×(El T65)×(El T69)) {r:Int×(El T65)} (h:hazard_Yard_Point thread slot node y=some r):HC Tryd.prog 31 [(1000,.box 71 (.int .i64 y.1::(.int .i64 y.2.1::(cellsX T63 y.2.2.1++(cellsX T65 y.2.2.2.1++(cellsX T69 y.2.2.2.2))))))] [.bp 1000 0,.int .i64 thread,.int .i64 slot,.int .i64 node] [(1000,.box 71 (.int .i64 y.1::(.int .i64 y.2.1::(cellsX T63 y.2.2.1++(cellsX T65 r.2++(cellsX T69 y.2.2.2.2))))))] (.int .i64 r.1):=by
 unfold hazard_Yard_Point at h
 refine zH Tryd.func31 [.tmp 8] 32 ?_
 refine zo ?_
 refine zB [(0,.bp 1000 0),(1,.int .i64 thread),(2,.int .i64 slot),(3,.int .i64 node)] [(1000,.box 71 (.int .i64 y.1::(.int .i64 y.2.1::(cellsX T63 y.2.2.1++(cellsX T65 y.2.2.2.1++(cellsX T69 y.2.2.2.2))))))] ?_
 refine AW.seq ?_
 refine zo ?_
 refine zS 2 [(0,.bp 1000 0),(1,.int .i64 thread),(2,.int .i64 slot),(3,.int .i64 node),(10,.bp 1000 0),(11,.int .i64 thread)] [(1000,.box 71 (.int .i64 y.1::(.int .i64 y.2.1::(cellsX T63 y.2.2.1++(cellsX T65 y.2.2.2.1++(cellsX T69 y.2.2.2.2))))))] ?_
 obtain ⟨v0,hv1,h⟩:=Option.bind_eq_some_iff.1 h
 refine zC [] [] (hc_hazard_isThread thread hv1) [(0,.bp 1000 0),(1,.int .i64 thread),(2,.int .i64 slot),(3,.int .i64 node),(10,.bp 1000 0),(12,.agg [.fn (.func 72) [] [.dp (.int .i64) thread 0],.int .i64 2])] [(1000,.box 71 (.int .i64 y.1::(.int .i64 y.2.1::(cellsX T63 y.2.2.1++(cellsX T65 y.2.2.2.1++(cellsX T69 y.2.2.2.2))))))] ?_
 refine zS 1 [(0,.bp 1000 0),(1,.int .i64 thread),(2,.int .i64 slot),(3,.int .i64 node),(10,.bp 1000 0),(12,.agg [.fn (.func 72) [] [.dp (.int .i64) thread 0],.int .i64 2]),(13,.int .i64 slot)] [(1000,.box 71 (.int .i64 y.1::(.int .i64 y.2.1::(cellsX T63 y.2.2.1++(cellsX T65 y.2.2.2.1++(cellsX T69 y.2.2.2.2))))))] ?_
 obtain ⟨v0_2,hv2,h⟩:=Option.bind_eq_some_iff.1 h
 refine zC [] [] (hc_hazard_isSlot slot hv2) [(0,.bp 1000 0),(1,.int .i64 thread),(2,.int .i64 slot),(3,.int .i64 node),(10,.bp 1000 0),(12,.agg [.fn (.func 72) [] [.dp (.int .i64) thread 0],.int .i64 2]),(14,.agg [.fn (.func 74) [] [.dp (.int .i64) slot 0],.int .i64 2])] [(1000,.box 71 (.int .i64 y.1::(.int .i64 y.2.1::(cellsX T63 y.2.2.1++(cellsX T65 y.2.2.2.1++(cellsX T69 y.2.2.2.2))))))] ?_
 refine zS 1 [(0,.bp 1000 0),(1,.int .i64 thread),(2,.int .i64 slot),(3,.int .i64 node),(10,.bp 1000 0),(12,.agg [.fn (.func 72) [] [.dp (.int .i64) thread 0],.int .i64 2]),(14,.agg [.fn (.func 74) [] [.dp (.int .i64) slot 0],.int .i64 2]),(15,.int .i64 node)] [(1000,.box 71 (.int .i64 y.1::(.int .i64 y.2.1::(cellsX T63 y.2.2.1++(cellsX T65 y.2.2.2.1++(cellsX T69 y.2.2.2.2))))))] ?_
 obtain ⟨v0_3,hv3,h⟩:=Option.bind_eq_some_iff.1 h
 refine zC [] [] (hc_hazard_isNode node hv3) [(0,.bp 1000 0),(1,.int .i64 thread),(2,.int .i64 slot),(3,.int .i64 node),(10,.bp 1000 0),(12,.agg [.fn (.func 72) [] [.dp (.int .i64) thread 0],.int .i64 2]),(14,.agg [.fn (.func 74) [] [.dp (.int .i64) slot 0],.int .i64 2]),(16,.agg [.fn (.func 70) [] [.dp (.int .i64) node 0],.int .i64 2])] [(1000,.box 71 (.int .i64 y.1::(.int .i64 y.2.1::(cellsX T63 y.2.2.1++(cellsX T65 y.2.2.2.1++(cellsX T69 y.2.2.2.2))))))] ?_
 refine zS 1 [(0,.bp 1000 0),(1,.int .i64 thread),(2,.int .i64 slot),(3,.int .i64 node),(10,.bp 1000 0),(12,.agg [.fn (.func 72) [] [.dp (.int .i64) thread 0],.int .i64 2]),(14,.agg [.fn (.func 74) [] [.dp (.int .i64) slot 0],.int .i64 2]),(16,.agg [.fn (.func 70) [] [.dp (.int .i64) node 0],.int .i64 2]),(17,.int .i64 node)] [(1000,.box 71 (.int .i64 y.1::(.int .i64 y.2.1::(cellsX T63 y.2.2.1++(cellsX T65 y.2.2.2.1++(cellsX T69 y.2.2.2.2))))))] ?_
 obtain ⟨v0_4,hv4,h⟩:=Option.bind_eq_some_iff.1 h
 refine zC [] [] (hc_hazard_isIn node hv4) [(0,.bp 1000 0),(1,.int .i64 thread),(2,.int .i64 slot),(3,.int .i64 node),(10,.bp 1000 0),(12,.agg [.fn (.func 72) [] [.dp (.int .i64) thread 0],.int .i64 2]),(14,.agg [.fn (.func 74) [] [.dp (.int .i64) slot 0],.int .i64 2]),(16,.agg [.fn (.func 70) [] [.dp (.int .i64) node 0],.int .i64 2]),(18,.agg [.fn (.func 76) [] [.dp (.int .i64) node 0],.int .i64 5])] [(1000,.box 71 (.int .i64 y.1::(.int .i64 y.2.1::(cellsX T63 y.2.2.1++(cellsX T65 y.2.2.2.1++(cellsX T69 y.2.2.2.2))))))] ?_
 refine AO.buildBox tab_ok rfl (by decide) (by decide) rfl rfl tab_92 rfl tab_81 (by decide) (by decide) rfl (by decide) (cs:=[.fn (.func 72) [] [.dp (.int .i64) thread 0],.int .i64 2,.fn (.func 74) [] [.dp (.int .i64) slot 0],.int .i64 2,.fn (.func 70) [] [.dp (.int .i64) node 0],.int .i64 2,.fn (.func 76) [] [.dp (.int .i64) node 0],.int .i64 5]) rfl rfl rfl ?_
 refine zT [(0,.bp 1000 0),(1,.int .i64 thread),(2,.int .i64 slot),(3,.int .i64 node),(10,.bp 1000 0),(19,.vw 19 2 0 4)] [(19,.box 81 [.fn (.func 72) [] [.dp (.int .i64) thread 0],.int .i64 2,.fn (.func 74) [] [.dp (.int .i64) slot 0],.int .i64 2,.fn (.func 70) [] [.dp (.int .i64) node 0],.int .i64 2,.fn (.func 76) [] [.dp (.int .i64) node 0],.int .i64 5]),(1000,.box 71 (.int .i64 y.1::(.int .i64 y.2.1::(cellsX T63 y.2.2.1++(cellsX T65 y.2.2.2.1++(cellsX T69 y.2.2.2.2))))))] gt ?_
 obtain ⟨v0_5,hv5,h⟩:=Option.bind_eq_some_iff.1 h
 refine zC [] [(1000,1000),(1001,19)] (hc_hazard_Yard_fails_3 y thread 2 slot 2 node 2 node 5 hv5) [(0,.bp 1000 0),(1,.int .i64 thread),(2,.int .i64 slot),(3,.int .i64 node),(20,.int .i64 v0_5)] [(1000,.box 71 (.int .i64 y.1::(.int .i64 y.2.1::(cellsX T63 y.2.2.1++(cellsX T65 y.2.2.2.1++(cellsX T69 y.2.2.2.2))))))] ?_
 refine zB [(0,.bp 1000 0),(1,.int .i64 thread),(2,.int .i64 slot),(3,.int .i64 node),(9,.int .i64 v0_5)] [(1000,.box 71 (.int .i64 y.1::(.int .i64 y.2.1::(cellsX T63 y.2.2.1++(cellsX T65 y.2.2.2.1++(cellsX T69 y.2.2.2.2))))))] ?_
 refine zo ?_
 refine zB [(0,.bp 1000 0),(1,.int .i64 thread),(2,.int .i64 slot),(3,.int .i64 node),(9,.int .i64 v0_5),(22,.bool (!(decide (v0_5=0))))] [(1000,.box 71 (.int .i64 y.1::(.int .i64 y.2.1::(cellsX T63 y.2.2.1++(cellsX T65 y.2.2.2.1++(cellsX T69 y.2.2.2.2))))))] ?_
 refine zQ h (fun hb6 h=>?_) (fun hb6 h=>?_)
 ·refine zo ?_
  refine zB [(8,.int .i64 v0_5)] [(1000,.box 71 (.int .i64 y.1::(.int .i64 y.2.1::(cellsX T63 y.2.2.1++(cellsX T65 y.2.2.2.1++(cellsX T69 y.2.2.2.2))))))] ?_
  refine zr ?_
  obtain rfl:=Option.some.inj h
  exact zR [] [] []
 ·refine zk ?_
  refine zo ?_
  refine zS 5 [(25,.int .i64 thread),(26,.int .i64 slot),(27,.int .i64 node),(28,.bp 1000 0)] [(1000,.box 71 (.int .i64 y.1::(.int .i64 y.2.1::(cellsX T63 y.2.2.1++(cellsX T65 y.2.2.2.1++(cellsX T69 y.2.2.2.2))))))] ?_
  obtain ⟨c7,h⟩:=ck_some.1 h
  obtain ⟨c8,h⟩:=ck_some.1 h
  obtain ⟨c9,h⟩:=ck_some.1 h
  obtain ⟨c10,h⟩:=ck_some.1 h
  have hx11:((thread.toNat*2)+slot.toNat*1)<8:=by omega
  refine zB [] [(1000,.box 71 (.int .i64 y.1::(.int .i64 y.2.1::(cellsX T63 y.2.2.1++(cellsX T65 (setInt T65 y.2.2.2.1 ((thread.toNat*2)+slot.toNat*1) node)++(cellsX T69 y.2.2.2.2))))))] ?_
  refine zo ?_
  refine zB [(8,.int .i64 0)] [(1000,.box 71 (.int .i64 y.1::(.int .i64 y.2.1::(cellsX T63 y.2.2.1++(cellsX T65 (setInt T65 y.2.2.2.1 ((thread.toNat*2)+slot.toNat*1) node)++(cellsX T69 y.2.2.2.2))))))] ?_
  refine AW.ret ?_
  obtain rfl:=Option.some.inj h
  exact zR [] [] []
theorem hc_hazard_Yard_fails_4 (y:Int×Int×(El T63)×(El T65)×(El T69)) (c0:Int) (checks:Int) (c0_2:Int) (checks_2:Int) {r:Int} (h:hazard_Yard_fails_4 y c0 checks c0_2 checks_2=some r):HC Tryd.prog 49 [(1000,.box 71 (.int .i64 y.1::(.int .i64 y.2.1::(cellsX T63 y.2.2.1++(cellsX T65 y.2.2.2.1++(cellsX T69 y.2.2.2.2)))))),(1001,.box 81 [.fn (.func 72) [] [.dp (.int .i64) c0 0],.int .i64 checks,.fn (.func 74) [] [.dp (.int .i64) c0_2 0],.int .i64 checks_2])] [.bp 1000 0,.vw 1001 2 0 2] [(1000,.box 71 (.int .i64 y.1::(.int .i64 y.2.1::(cellsX T63 y.2.2.1++(cellsX T65 y.2.2.2.1++(cellsX T69 y.2.2.2.2)))))),(1001,.box 81 [.fn (.func 72) [] [.dp (.int .i64) c0 0],.int .i64 checks,.fn (.func 74) [] [.dp (.int .i64) c0_2 0],.int .i64 checks_2])] (.int .i64 r):=by
 unfold hazard_Yard_fails_4 at h
 refine zH Tryd.func49 [.tmp 4] 23 ?_
 refine zo ?_
 refine zB [(0,.bp 1000 0),(1,.vw 1001 2 0 2)] [(1000,.box 71 (.int .i64 y.1::(.int .i64 y.2.1::(cellsX T63 y.2.2.1++(cellsX T65 y.2.2.2.1++(cellsX T69 y.2.2.2.2)))))),(1001,.box 81 [.fn (.func 72) [] [.dp (.int .i64) c0 0],.int .i64 checks,.fn (.func 74) [] [.dp (.int .i64) c0_2 0],.int .i64 checks_2])] ?_
 refine AW.seq ?_
 refine zo ?_
 refine zS 1 [(0,.bp 1000 0),(1,.vw 1001 2 0 2),(7,.bp 1000 0)] [(1000,.box 71 (.int .i64 y.1::(.int .i64 y.2.1::(cellsX T63 y.2.2.1++(cellsX T65 y.2.2.2.1++(cellsX T69 y.2.2.2.2)))))),(1001,.box 81 [.fn (.func 72) [] [.dp (.int .i64) c0 0],.int .i64 checks,.fn (.func 74) [] [.dp (.int .i64) c0_2 0],.int .i64 checks_2])] ?_
 obtain ⟨v0,hv1,h⟩:=Option.bind_eq_some_iff.1 h
 refine zC [] [(1000,1000)] (hc_hazard_Yard_isNone y hv1) [(0,.bp 1000 0),(1,.vw 1001 2 0 2),(8,.bool (decide (y.1=0)))] [(1000,.box 71 (.int .i64 y.1::(.int .i64 y.2.1::(cellsX T63 y.2.2.1++(cellsX T65 y.2.2.2.1++(cellsX T69 y.2.2.2.2)))))),(1001,.box 81 [.fn (.func 72) [] [.dp (.int .i64) c0 0],.int .i64 checks,.fn (.func 74) [] [.dp (.int .i64) c0_2 0],.int .i64 checks_2])] ?_
 refine zB [(0,.bp 1000 0),(1,.vw 1001 2 0 2),(8,.bool (decide (y.1=0)))] [(1000,.box 71 (.int .i64 y.1::(.int .i64 y.2.1::(cellsX T63 y.2.2.1++(cellsX T65 y.2.2.2.1++(cellsX T69 y.2.2.2.2)))))),(1001,.box 81 [.fn (.func 72) [] [.dp (.int .i64) c0 0],.int .i64 checks,.fn (.func 74) [] [.dp (.int .i64) c0_2 0],.int .i64 checks_2])] ?_
 refine zQ h (fun hb2 h=>?_) (fun hb2 h=>?_)
 ·refine zo ?_
  refine zB [(4,.int .i64 60)] [(1000,.box 71 (.int .i64 y.1::(.int .i64 y.2.1::(cellsX T63 y.2.2.1++(cellsX T65 y.2.2.2.1++(cellsX T69 y.2.2.2.2)))))),(1001,.box 81 [.fn (.func 72) [] [.dp (.int .i64) c0 0],.int .i64 checks,.fn (.func 74) [] [.dp (.int .i64) c0_2 0],.int .i64 checks_2])] ?_
  refine zr ?_
  obtain rfl:=Option.some.inj h
  exact zR [] [] []
 ·refine zk ?_
  refine AW.have1 (fun _:Unit=>hazard_Yard_fails_4_k1=some r) (fun _=>⟨fr [],hpGet [(1000,.box 71 (.int .i64 y.1::(.int .i64 y.2.1::(cellsX T63 y.2.2.1++(cellsX T65 y.2.2.2.1++(cellsX T69 y.2.2.2.2)))))),(1001,.box 81 [.fn (.func 72) [] [.dp (.int .i64) c0 0],.int .i64 checks,.fn (.func 74) [] [.dp (.int .i64) c0_2 0],.int .i64 checks_2])],gt⟩) (fun _ h=>?_) (fun hk_hazard_Yard_fails_4_k1=>?_)
  ·as_aux_lemma =>
    unfold hazard_Yard_fails_4_k1 at h
    refine zo ?_
    refine zB [(4,.int .i64 0)] [(1000,.box 71 (.int .i64 y.1::(.int .i64 y.2.1::(cellsX T63 y.2.2.1++(cellsX T65 y.2.2.2.1++(cellsX T69 y.2.2.2.2)))))),(1001,.box 81 [.fn (.func 72) [] [.dp (.int .i64) c0 0],.int .i64 checks,.fn (.func 74) [] [.dp (.int .i64) c0_2 0],.int .i64 checks_2])] ?_
    refine AW.ret ?_
    obtain rfl:=Option.some.inj h
    exact zR [] [] []
  ·refine AW.seq ?_
   refine zo ?_
   refine zB [(0,.bp 1000 0),(9,.vw 1001 2 0 2),(10,.int .i64 2),(11,.int .i64 0)] [(1000,.box 71 (.int .i64 y.1::(.int .i64 y.2.1::(cellsX T63 y.2.2.1++(cellsX T65 y.2.2.2.1++(cellsX T69 y.2.2.2.2)))))),(1001,.box 81 [.fn (.func 72) [] [.dp (.int .i64) c0 0],.int .i64 checks,.fn (.func 74) [] [.dp (.int .i64) c0_2 0],.int .i64 checks_2])] ?_
   refine AW.block ?_
   refine AW.unroll 8 ?_
   refine LoopU.nx ?_
   refine zo ?_
   refine zB [(0,.bp 1000 0),(9,.vw 1001 2 0 2),(10,.int .i64 2),(11,.int .i64 0),(12,.bool true)] [(1000,.box 71 (.int .i64 y.1::(.int .i64 y.2.1::(cellsX T63 y.2.2.1++(cellsX T65 y.2.2.2.1++(cellsX T69 y.2.2.2.2)))))),(1001,.box 81 [.fn (.func 72) [] [.dp (.int .i64) c0 0],.int .i64 checks,.fn (.func 74) [] [.dp (.int .i64) c0_2 0],.int .i64 checks_2])] ?_
   refine AW.seq ?_
   refine AW.cond (b:=true) rfl (fun _=>?_) (fun hb3=>by cases hb3)
   refine zk ?_
   refine AW.seq ?_
   refine AW.block ?_
   refine zo ?_
   refine AO.idxBox tab_ok (by decide) rfl rfl tab_92 rfl tab_81 rfl rfl rfl (by decide) (by decide) (at_:=0) rfl ?_
   refine zT [(0,.bp 1000 0),(9,.vw 1001 2 0 2),(10,.int .i64 2),(11,.int .i64 0),(13,.bp 1001 0)] [(1000,.box 71 (.int .i64 y.1::(.int .i64 y.2.1::(cellsX T63 y.2.2.1++(cellsX T65 y.2.2.2.1++(cellsX T69 y.2.2.2.2)))))),(1001,.box 81 [.fn (.func 72) [] [.dp (.int .i64) c0 0],.int .i64 checks,.fn (.func 74) [] [.dp (.int .i64) c0_2 0],.int .i64 checks_2])] gt ?_
   refine zB [(0,.bp 1000 0),(6,.bp 6 0),(9,.vw 1001 2 0 2),(10,.int .i64 2),(11,.int .i64 0)] [(6,.box 81 [.fn (.func 72) [] [.dp (.int .i64) c0 0],.int .i64 checks]),(1000,.box 71 (.int .i64 y.1::(.int .i64 y.2.1::(cellsX T63 y.2.2.1++(cellsX T65 y.2.2.2.1++(cellsX T69 y.2.2.2.2)))))),(1001,.box 81 [.fn (.func 72) [] [.dp (.int .i64) c0 0],.int .i64 checks,.fn (.func 74) [] [.dp (.int .i64) c0_2 0],.int .i64 checks_2])] ?_
   refine zo ?_
   refine zS 3 [(0,.bp 1000 0),(6,.bp 6 0),(9,.vw 1001 2 0 2),(10,.int .i64 2),(11,.int .i64 0),(16,.fn (.func 72) [] [.dp (.int .i64) c0 0]),(17,.bp 1000 0)] [(6,.box 81 [.fn (.func 72) [] [.dp (.int .i64) c0 0],.int .i64 checks]),(1000,.box 71 (.int .i64 y.1::(.int .i64 y.2.1::(cellsX T63 y.2.2.1++(cellsX T65 y.2.2.2.1++(cellsX T69 y.2.2.2.2)))))),(1001,.box 81 [.fn (.func 72) [] [.dp (.int .i64) c0 0],.int .i64 checks,.fn (.func 74) [] [.dp (.int .i64) c0_2 0],.int .i64 checks_2])] ?_
   obtain ⟨v0_2,hv4,h⟩:=Option.bind_eq_some_iff.1 h
   refine zC [] [(1000,1000)] (hc_hazard_isThread_1 c0 y hv4) [(0,.bp 1000 0),(6,.bp 6 0),(9,.vw 1001 2 0 2),(10,.int .i64 2),(11,.int .i64 0),(18,.bool v0_2)] [(6,.box 81 [.fn (.func 72) [] [.dp (.int .i64) c0 0],.int .i64 checks]),(1000,.box 71 (.int .i64 y.1::(.int .i64 y.2.1::(cellsX T63 y.2.2.1++(cellsX T65 y.2.2.2.1++(cellsX T69 y.2.2.2.2)))))),(1001,.box 81 [.fn (.func 72) [] [.dp (.int .i64) c0 0],.int .i64 checks,.fn (.func 74) [] [.dp (.int .i64) c0_2 0],.int .i64 checks_2])] ?_
   refine zB [(0,.bp 1000 0),(6,.bp 6 0),(9,.vw 1001 2 0 2),(10,.int .i64 2),(11,.int .i64 0),(19,.bool (!v0_2))] [(6,.box 81 [.fn (.func 72) [] [.dp (.int .i64) c0 0],.int .i64 checks]),(1000,.box 71 (.int .i64 y.1::(.int .i64 y.2.1::(cellsX T63 y.2.2.1++(cellsX T65 y.2.2.2.1++(cellsX T69 y.2.2.2.2)))))),(1001,.box 81 [.fn (.func 72) [] [.dp (.int .i64) c0 0],.int .i64 checks,.fn (.func 74) [] [.dp (.int .i64) c0_2 0],.int .i64 checks_2])] ?_
   refine zQ h (fun hb5 h=>?_) (fun hb5 h=>?_)
   ·refine zo ?_
    refine zB [(4,.int .i64 checks)] [(1000,.box 71 (.int .i64 y.1::(.int .i64 y.2.1::(cellsX T63 y.2.2.1++(cellsX T65 y.2.2.2.1++(cellsX T69 y.2.2.2.2)))))),(1001,.box 81 [.fn (.func 72) [] [.dp (.int .i64) c0 0],.int .i64 checks,.fn (.func 74) [] [.dp (.int .i64) c0_2 0],.int .i64 checks_2])] ?_
    refine AW.ret ?_
    refine ablock_r ?_
    refine athen_r ?_
    refine athen_r ?_
    refine ablock_r ?_
    refine athen_r ?_
    obtain rfl:=Option.some.inj h
    exact zR [] [] []
   ·refine zm ?_
    refine athen_n ?_
    refine AW.ops ?_
    obtain ⟨c6,h⟩:=ck_some.1 h
    refine zA [(0,.bp 1000 0),(9,.vw 1001 2 0 2),(10,.int .i64 2),(11,.int .i64 1)] [(1000,.box 71 (.int .i64 y.1::(.int .i64 y.2.1::(cellsX T63 y.2.2.1++(cellsX T65 y.2.2.2.1++(cellsX T69 y.2.2.2.2)))))),(1001,.box 81 [.fn (.func 72) [] [.dp (.int .i64) c0 0],.int .i64 checks,.fn (.func 74) [] [.dp (.int .i64) c0_2 0],.int .i64 checks_2])] ?_
    refine LoopU.at_ ?_
    refine LoopU.nx ?_
    refine zo ?_
    refine zB [(0,.bp 1000 0),(9,.vw 1001 2 0 2),(10,.int .i64 2),(11,.int .i64 1),(12,.bool true)] [(1000,.box 71 (.int .i64 y.1::(.int .i64 y.2.1::(cellsX T63 y.2.2.1++(cellsX T65 y.2.2.2.1++(cellsX T69 y.2.2.2.2)))))),(1001,.box 81 [.fn (.func 72) [] [.dp (.int .i64) c0 0],.int .i64 checks,.fn (.func 74) [] [.dp (.int .i64) c0_2 0],.int .i64 checks_2])] ?_
    refine AW.seq ?_
    refine AW.cond (b:=true) rfl (fun _=>?_) (fun hb7=>by cases hb7)
    refine zk ?_
    refine AW.seq ?_
    refine AW.block ?_
    refine zo ?_
    refine AO.idxBox tab_ok (by decide) rfl rfl tab_92 rfl tab_81 rfl rfl rfl (by decide) (by decide) (at_:=2) rfl ?_
    refine zT [(0,.bp 1000 0),(9,.vw 1001 2 0 2),(10,.int .i64 2),(11,.int .i64 1),(13,.bp 1001 2)] [(1000,.box 71 (.int .i64 y.1::(.int .i64 y.2.1::(cellsX T63 y.2.2.1++(cellsX T65 y.2.2.2.1++(cellsX T69 y.2.2.2.2)))))),(1001,.box 81 [.fn (.func 72) [] [.dp (.int .i64) c0 0],.int .i64 checks,.fn (.func 74) [] [.dp (.int .i64) c0_2 0],.int .i64 checks_2])] gt ?_
    refine zB [(0,.bp 1000 0),(6,.bp 6 0),(9,.vw 1001 2 0 2),(10,.int .i64 2),(11,.int .i64 1)] [(6,.box 81 [.fn (.func 74) [] [.dp (.int .i64) c0_2 0],.int .i64 checks_2]),(1000,.box 71 (.int .i64 y.1::(.int .i64 y.2.1::(cellsX T63 y.2.2.1++(cellsX T65 y.2.2.2.1++(cellsX T69 y.2.2.2.2)))))),(1001,.box 81 [.fn (.func 72) [] [.dp (.int .i64) c0 0],.int .i64 checks,.fn (.func 74) [] [.dp (.int .i64) c0_2 0],.int .i64 checks_2])] ?_
    refine zo ?_
    refine zS 3 [(0,.bp 1000 0),(6,.bp 6 0),(9,.vw 1001 2 0 2),(10,.int .i64 2),(11,.int .i64 1),(16,.fn (.func 74) [] [.dp (.int .i64) c0_2 0]),(17,.bp 1000 0)] [(6,.box 81 [.fn (.func 74) [] [.dp (.int .i64) c0_2 0],.int .i64 checks_2]),(1000,.box 71 (.int .i64 y.1::(.int .i64 y.2.1::(cellsX T63 y.2.2.1++(cellsX T65 y.2.2.2.1++(cellsX T69 y.2.2.2.2)))))),(1001,.box 81 [.fn (.func 72) [] [.dp (.int .i64) c0 0],.int .i64 checks,.fn (.func 74) [] [.dp (.int .i64) c0_2 0],.int .i64 checks_2])] ?_
    obtain ⟨v0_3,hv8,h⟩:=Option.bind_eq_some_iff.1 h
    refine zC [] [(1000,1000)] (hc_hazard_isSlot_1 c0_2 y hv8) [(0,.bp 1000 0),(6,.bp 6 0),(9,.vw 1001 2 0 2),(10,.int .i64 2),(11,.int .i64 1),(18,.bool v0_3)] [(6,.box 81 [.fn (.func 74) [] [.dp (.int .i64) c0_2 0],.int .i64 checks_2]),(1000,.box 71 (.int .i64 y.1::(.int .i64 y.2.1::(cellsX T63 y.2.2.1++(cellsX T65 y.2.2.2.1++(cellsX T69 y.2.2.2.2)))))),(1001,.box 81 [.fn (.func 72) [] [.dp (.int .i64) c0 0],.int .i64 checks,.fn (.func 74) [] [.dp (.int .i64) c0_2 0],.int .i64 checks_2])] ?_
    refine zB [(0,.bp 1000 0),(6,.bp 6 0),(9,.vw 1001 2 0 2),(10,.int .i64 2),(11,.int .i64 1),(19,.bool (!v0_3))] [(6,.box 81 [.fn (.func 74) [] [.dp (.int .i64) c0_2 0],.int .i64 checks_2]),(1000,.box 71 (.int .i64 y.1::(.int .i64 y.2.1::(cellsX T63 y.2.2.1++(cellsX T65 y.2.2.2.1++(cellsX T69 y.2.2.2.2)))))),(1001,.box 81 [.fn (.func 72) [] [.dp (.int .i64) c0 0],.int .i64 checks,.fn (.func 74) [] [.dp (.int .i64) c0_2 0],.int .i64 checks_2])] ?_
    refine zQ h (fun hb9 h=>?_) (fun hb9 h=>?_)
    ·refine zo ?_
     refine zB [(4,.int .i64 checks_2)] [(1000,.box 71 (.int .i64 y.1::(.int .i64 y.2.1::(cellsX T63 y.2.2.1++(cellsX T65 y.2.2.2.1++(cellsX T69 y.2.2.2.2)))))),(1001,.box 81 [.fn (.func 72) [] [.dp (.int .i64) c0 0],.int .i64 checks,.fn (.func 74) [] [.dp (.int .i64) c0_2 0],.int .i64 checks_2])] ?_
     refine AW.ret ?_
     refine ablock_r ?_
     refine athen_r ?_
     refine athen_r ?_
     refine ablock_r ?_
     refine athen_r ?_
     obtain rfl:=Option.some.inj h
     exact zR [] [] []
    ·refine zm ?_
     refine athen_n ?_
     refine AW.ops ?_
     obtain ⟨c10,h⟩:=ck_some.1 h
     refine zA [(0,.bp 1000 0),(9,.vw 1001 2 0 2),(10,.int .i64 2),(11,.int .i64 2)] [(1000,.box 71 (.int .i64 y.1::(.int .i64 y.2.1::(cellsX T63 y.2.2.1++(cellsX T65 y.2.2.2.1++(cellsX T69 y.2.2.2.2)))))),(1001,.box 81 [.fn (.func 72) [] [.dp (.int .i64) c0 0],.int .i64 checks,.fn (.func 74) [] [.dp (.int .i64) c0_2 0],.int .i64 checks_2])] ?_
     refine LoopU.at_ ?_
     refine LoopU.nx ?_
     refine zo ?_
     refine zB [(0,.bp 1000 0),(9,.vw 1001 2 0 2),(10,.int .i64 2),(11,.int .i64 2),(12,.bool false)] [(1000,.box 71 (.int .i64 y.1::(.int .i64 y.2.1::(cellsX T63 y.2.2.1++(cellsX T65 y.2.2.2.1++(cellsX T69 y.2.2.2.2)))))),(1001,.box 81 [.fn (.func 72) [] [.dp (.int .i64) c0 0],.int .i64 checks,.fn (.func 74) [] [.dp (.int .i64) c0_2 0],.int .i64 checks_2])] ?_
     refine AW.seq ?_
     refine AW.cond (b:=false) rfl (fun hb11=>by cases hb11) (fun _=>?_)
     refine AW.exit ?_
     refine athen_e ?_
     refine athen_e ?_
     refine ablock_s ?_
     refine athen_n ?_
     exact AW.weaken (zL [] [] []) (hk_hazard_Yard_fails_4_k1 () h)
theorem hc_hazard_Yard_Clear (thread:Int) (slot:Int) (y:Int×Int×(El T63)×(El T65)×(El T69)) {r:Int×(El T65)} (h:hazard_Yard_Clear thread slot y=some r):HC Tryd.prog 33 [(1000,.box 71 (.int .i64 y.1::(.int .i64 y.2.1::(cellsX T63 y.2.2.1++(cellsX T65 y.2.2.2.1++(cellsX T69 y.2.2.2.2))))))] [.bp 1000 0,.int .i64 thread,.int .i64 slot] [(1000,.box 71 (.int .i64 y.1::(.int .i64 y.2.1::(cellsX T63 y.2.2.1++(cellsX T65 r.2++(cellsX T69 y.2.2.2.2))))))] (.int .i64 r.1):=by
 unfold hazard_Yard_Clear at h
 refine zH Tryd.func33 [.tmp 6] 25 ?_
 refine zo ?_
 refine zB [(0,.bp 1000 0),(1,.int .i64 thread),(2,.int .i64 slot)] [(1000,.box 71 (.int .i64 y.1::(.int .i64 y.2.1::(cellsX T63 y.2.2.1++(cellsX T65 y.2.2.2.1++(cellsX T69 y.2.2.2.2))))))] ?_
 refine AW.seq ?_
 refine zo ?_
 refine zS 2 [(0,.bp 1000 0),(1,.int .i64 thread),(2,.int .i64 slot),(8,.bp 1000 0),(9,.int .i64 thread)] [(1000,.box 71 (.int .i64 y.1::(.int .i64 y.2.1::(cellsX T63 y.2.2.1++(cellsX T65 y.2.2.2.1++(cellsX T69 y.2.2.2.2))))))] ?_
 obtain ⟨v0,hv1,h⟩:=Option.bind_eq_some_iff.1 h
 refine zC [] [] (hc_hazard_isThread thread hv1) [(0,.bp 1000 0),(1,.int .i64 thread),(2,.int .i64 slot),(8,.bp 1000 0),(10,.agg [.fn (.func 72) [] [.dp (.int .i64) thread 0],.int .i64 2])] [(1000,.box 71 (.int .i64 y.1::(.int .i64 y.2.1::(cellsX T63 y.2.2.1++(cellsX T65 y.2.2.2.1++(cellsX T69 y.2.2.2.2))))))] ?_
 refine zS 1 [(0,.bp 1000 0),(1,.int .i64 thread),(2,.int .i64 slot),(8,.bp 1000 0),(10,.agg [.fn (.func 72) [] [.dp (.int .i64) thread 0],.int .i64 2]),(11,.int .i64 slot)] [(1000,.box 71 (.int .i64 y.1::(.int .i64 y.2.1::(cellsX T63 y.2.2.1++(cellsX T65 y.2.2.2.1++(cellsX T69 y.2.2.2.2))))))] ?_
 obtain ⟨v0_2,hv2,h⟩:=Option.bind_eq_some_iff.1 h
 refine zC [] [] (hc_hazard_isSlot slot hv2) [(0,.bp 1000 0),(1,.int .i64 thread),(2,.int .i64 slot),(8,.bp 1000 0),(10,.agg [.fn (.func 72) [] [.dp (.int .i64) thread 0],.int .i64 2]),(12,.agg [.fn (.func 74) [] [.dp (.int .i64) slot 0],.int .i64 2])] [(1000,.box 71 (.int .i64 y.1::(.int .i64 y.2.1::(cellsX T63 y.2.2.1++(cellsX T65 y.2.2.2.1++(cellsX T69 y.2.2.2.2))))))] ?_
 refine AO.buildBox tab_ok rfl (by decide) (by decide) rfl rfl tab_92 rfl tab_81 (by decide) (by decide) rfl (by decide) (cs:=[.fn (.func 72) [] [.dp (.int .i64) thread 0],.int .i64 2,.fn (.func 74) [] [.dp (.int .i64) slot 0],.int .i64 2]) rfl rfl rfl ?_
 refine zT [(0,.bp 1000 0),(1,.int .i64 thread),(2,.int .i64 slot),(8,.bp 1000 0),(13,.vw 13 2 0 2)] [(13,.box 81 [.fn (.func 72) [] [.dp (.int .i64) thread 0],.int .i64 2,.fn (.func 74) [] [.dp (.int .i64) slot 0],.int .i64 2]),(1000,.box 71 (.int .i64 y.1::(.int .i64 y.2.1::(cellsX T63 y.2.2.1++(cellsX T65 y.2.2.2.1++(cellsX T69 y.2.2.2.2))))))] gt ?_
 obtain ⟨v0_3,hv3,h⟩:=Option.bind_eq_some_iff.1 h
 refine zC [] [(1000,1000),(1001,13)] (hc_hazard_Yard_fails_4 y thread 2 slot 2 hv3) [(0,.bp 1000 0),(1,.int .i64 thread),(2,.int .i64 slot),(14,.int .i64 v0_3)] [(1000,.box 71 (.int .i64 y.1::(.int .i64 y.2.1::(cellsX T63 y.2.2.1++(cellsX T65 y.2.2.2.1++(cellsX T69 y.2.2.2.2))))))] ?_
 refine zB [(0,.bp 1000 0),(1,.int .i64 thread),(2,.int .i64 slot),(7,.int .i64 v0_3)] [(1000,.box 71 (.int .i64 y.1::(.int .i64 y.2.1::(cellsX T63 y.2.2.1++(cellsX T65 y.2.2.2.1++(cellsX T69 y.2.2.2.2))))))] ?_
 refine zo ?_
 refine zB [(0,.bp 1000 0),(1,.int .i64 thread),(2,.int .i64 slot),(7,.int .i64 v0_3),(16,.bool (!(decide (v0_3=0))))] [(1000,.box 71 (.int .i64 y.1::(.int .i64 y.2.1::(cellsX T63 y.2.2.1++(cellsX T65 y.2.2.2.1++(cellsX T69 y.2.2.2.2))))))] ?_
 refine zQ h (fun hb4 h=>?_) (fun hb4 h=>?_)
 ·refine zo ?_
  refine zB [(6,.int .i64 v0_3)] [(1000,.box 71 (.int .i64 y.1::(.int .i64 y.2.1::(cellsX T63 y.2.2.1++(cellsX T65 y.2.2.2.1++(cellsX T69 y.2.2.2.2))))))] ?_
  refine zr ?_
  obtain rfl:=Option.some.inj h
  exact zR [] [] []
 ·refine zk ?_
  refine zo ?_
  refine zS 5 [(19,.int .i64 thread),(20,.int .i64 slot),(22,.bp 1000 10)] [(1000,.box 71 (.int .i64 y.1::(.int .i64 y.2.1::(cellsX T63 y.2.2.1++(cellsX T65 y.2.2.2.1++(cellsX T69 y.2.2.2.2))))))] ?_
  obtain ⟨c5,h⟩:=ck_some.1 h
  obtain ⟨c6,h⟩:=ck_some.1 h
  obtain ⟨c7,h⟩:=ck_some.1 h
  obtain ⟨c8,h⟩:=ck_some.1 h
  have hx9:((thread.toNat*2)+slot.toNat*1)<8:=by omega
  refine zB [] [(1000,.box 71 (.int .i64 y.1::(.int .i64 y.2.1::(cellsX T63 y.2.2.1++(cellsX T65 (setInt T65 y.2.2.2.1 ((thread.toNat*2)+slot.toNat*1) (-1))++(cellsX T69 y.2.2.2.2))))))] ?_
  refine zo ?_
  refine zB [(6,.int .i64 0)] [(1000,.box 71 (.int .i64 y.1::(.int .i64 y.2.1::(cellsX T63 y.2.2.1++(cellsX T65 (setInt T65 y.2.2.2.1 ((thread.toNat*2)+slot.toNat*1) (-1))++(cellsX T69 y.2.2.2.2))))))] ?_
  refine AW.ret ?_
  obtain rfl:=Option.some.inj h
  exact zR [] [] []
end Go.Proofs.YtcckpmeepcoafaaDoor
