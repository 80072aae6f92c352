import Derived.Test.YtcckpmeepcoafaaDoorHzp
import Derived.Test.YtcckpmeepcoafaaDoorShz
import Derived.Test.YtcckpmeepcoafaaDoorHhc1
import Derived.Test.YtcckpmeepcoafaaDoorHhc2
import Derived.Test.YtcckpmeepcoafaaDoorHhc5
namespace Go.Proofs.YtcckpmeepcoafaaDoor
open Go.RowKit
set_option linter.unusedSimpArgs false
set_option linter.unusedVariables false
set_option linter.constructorNameAsVariable false
set_option maxRecDepth 100000
set_option maxHeartbeats 40000000
theorem hc_hazard_Yard_Copy (y:Int×Int×(El T63)×(El T65)×(El T69)) {r:Sum Unit Unit} (h:hazard_Yard_Copy y=some r):HC Tryd.prog 15 [(1000,.box 71 (.int .i64 y.1::(.int .i64 y.2.1::(cellsX T63 y.2.2.1++(cellsX T65 y.2.2.2.1++(cellsX T69 y.2.2.2.2))))))] [.bp 1000 0] (match r with|.inl r=>[(1000,.box 71 (.int .i64 y.1::(.int .i64 y.2.1::(cellsX T63 y.2.2.1++(cellsX T65 y.2.2.2.1++(cellsX T69 y.2.2.2.2))))))]|.inr r=>[(1000,.box 71 (.int .i64 y.1::(.int .i64 y.2.1::(cellsX T63 y.2.2.1++(cellsX T65 y.2.2.2.1++(cellsX T69 y.2.2.2.2)))))),(2000,.box 71 (.int .i64 y.1::(.int .i64 y.2.1::(cellsX T63 y.2.2.1++(cellsX T65 y.2.2.2.1++(cellsX T69 y.2.2.2.2))))))]) ((match r with|.inl r=>.cv (.pointer none)|.inr r=>.bp 2000 0)):=by
 unfold hazard_Yard_Copy at h
 refine zH Tryd.func15 [.tmp 2] 9 ?_
 refine zo ?_
 refine zB [(0,.bp 1000 0)] [(1000,.box 71 (.int .i64 y.1::(.int .i64 y.2.1::(cellsX T63 y.2.2.1++(cellsX T65 y.2.2.2.1++(cellsX T69 y.2.2.2.2))))))] ?_
 refine AW.seq ?_
 refine zo ?_
 refine zS 1 [(0,.bp 1000 0),(4,.bp 1000 0)] [(1000,.box 71 (.int .i64 y.1::(.int .i64 y.2.1::(cellsX T63 y.2.2.1++(cellsX T65 y.2.2.2.1++(cellsX T69 y.2.2.2.2))))))] ?_
 obtain ⟨v0,hv1,h⟩:=Option.bind_eq_some_iff.1 h
 refine zC [] [(1000,1000)] (hc_hazard_Yard_isNone y hv1) [(0,.bp 1000 0),(5,.bool (decide (y.1=0)))] [(1000,.box 71 (.int .i64 y.1::(.int .i64 y.2.1::(cellsX T63 y.2.2.1++(cellsX T65 y.2.2.2.1++(cellsX T69 y.2.2.2.2))))))] ?_
 refine zB [(0,.bp 1000 0),(5,.bool (decide (y.1=0)))] [(1000,.box 71 (.int .i64 y.1::(.int .i64 y.2.1::(cellsX T63 y.2.2.1++(cellsX T65 y.2.2.2.1++(cellsX T69 y.2.2.2.2))))))] ?_
 refine zQ h (fun hb2 h=>?_) (fun hb2 h=>?_)
 ·refine zo ?_
  refine zB [(2,.cv (.pointer none))] [(1000,.box 71 (.int .i64 y.1::(.int .i64 y.2.1::(cellsX T63 y.2.2.1++(cellsX T65 y.2.2.2.1++(cellsX T69 y.2.2.2.2))))))] ?_
  refine zr ?_
  obtain rfl:=Option.some.inj h
  exact zR [] [] []
 ·refine zk ?_
  refine zo ?_
  refine zB [(3,.bp 3 0)] [(3,.box 71 (.int .i64 y.1::(.int .i64 y.2.1::(cellsX T63 y.2.2.1++(cellsX T65 y.2.2.2.1++(cellsX T69 y.2.2.2.2)))))),(1000,.box 71 (.int .i64 y.1::(.int .i64 y.2.1::(cellsX T63 y.2.2.1++(cellsX T65 y.2.2.2.1++(cellsX T69 y.2.2.2.2))))))] ?_
  refine zo ?_
  refine zB [(2,.bp 3 0)] [(3,.box 71 (.int .i64 y.1::(.int .i64 y.2.1::(cellsX T63 y.2.2.1++(cellsX T65 y.2.2.2.1++(cellsX T69 y.2.2.2.2)))))),(1000,.box 71 (.int .i64 y.1::(.int .i64 y.2.1::(cellsX T63 y.2.2.1++(cellsX T65 y.2.2.2.1++(cellsX T69 y.2.2.2.2))))))] ?_
  refine AW.ret ?_
  obtain rfl:=Option.some.inj h
  exact zR [] [] [(2000,3)]
theorem hc_hazard_Yard_Copy_a0 (y:Int×Int×(El T63)×(El T65)×(El T69)) {r:Unit} (h:hazard_Yard_Copy y=some (Sum.inl r)):HC Tryd.prog 15 [(1000,.box 71 (.int .i64 y.1::(.int .i64 y.2.1::(cellsX T63 y.2.2.1++(cellsX T65 y.2.2.2.1++(cellsX T69 y.2.2.2.2))))))] [.bp 1000 0] [(1000,.box 71 (.int .i64 y.1::(.int .i64 y.2.1::(cellsX T63 y.2.2.1++(cellsX T65 y.2.2.2.1++(cellsX T69 y.2.2.2.2))))))] (.cv (.pointer none)):=hc_hazard_Yard_Copy y h
theorem hc_hazard_Yard_Copy_a1 (y:Int×Int×(El T63)×(El T65)×(El T69)) {r:Unit} (h:hazard_Yard_Copy y=some (Sum.inr r)):HC Tryd.prog 15 [(1000,.box 71 (.int .i64 y.1::(.int .i64 y.2.1::(cellsX T63 y.2.2.1++(cellsX T65 y.2.2.2.1++(cellsX T69 y.2.2.2.2))))))] [.bp 1000 0] [(1000,.box 71 (.int .i64 y.1::(.int .i64 y.2.1::(cellsX T63 y.2.2.1++(cellsX T65 y.2.2.2.1++(cellsX T69 y.2.2.2.2)))))),(2000,.box 71 (.int .i64 y.1::(.int .i64 y.2.1::(cellsX T63 y.2.2.1++(cellsX T65 y.2.2.2.1++(cellsX T69 y.2.2.2.2))))))] (.bp 2000 0):=hc_hazard_Yard_Copy y h
theorem hc_hazard_Yard_isNone_2 {r:Unit} (h:hazard_Yard_isNone_2=some r):HC Tryd.prog 48 [] [.cv (.pointer none)] [] (.bool true):=by
 unfold hazard_Yard_isNone_2 at h
 refine zH Tryd.func48 [.tmp 2] 12 ?_
 refine zo ?_
 refine zB [(0,.cv (.pointer none))] [] ?_
 refine zo ?_
 refine zS 1 [(0,.cv (.pointer none)),(3,.cv (.pointer none))] [] ?_
 refine AO.ptrNil (neg:=false) (p:=true) (by decide) (.inl rfl) (by kernel_rfl) rfl rfl rfl ?_
 refine zT [(0,.cv (.pointer none)),(4,.bool true)] [] gt ?_
 refine zS 5 [(5,.bool true),(9,.cv (undef))] [] ?_
 refine zB [(2,.bool true)] [] ?_
 refine AW.ret ?_
 obtain rfl:=Option.some.inj h
 exact zR [] [] []
theorem hc_hazard_Yard_fails_8 (c0:Int) (checks:Int) {r:Unit} (h:hazard_Yard_fails_8 c0 checks=some r):HC Tryd.prog 49 [(1000,.box 81 [.fn (.func 72) [] [.dp (.int .i64) c0 0],.int .i64 checks])] [.cv (.pointer none),.vw 1000 2 0 1] [(1000,.box 81 [.fn (.func 72) [] [.dp (.int .i64) c0 0],.int .i64 checks])] (.int .i64 60):=by
 unfold hazard_Yard_fails_8 at h
 refine zH Tryd.func49 [.tmp 4] 23 ?_
 refine zo ?_
 refine zB [(0,.cv (.pointer none)),(1,.vw 1000 2 0 1)] [(1000,.box 81 [.fn (.func 72) [] [.dp (.int .i64) c0 0],.int .i64 checks])] ?_
 refine AW.seq ?_
 refine zo ?_
 refine zS 1 [(0,.cv (.pointer none)),(1,.vw 1000 2 0 1),(7,.cv (.pointer none))] [(1000,.box 81 [.fn (.func 72) [] [.dp (.int .i64) c0 0],.int .i64 checks])] ?_
 obtain ⟨v0,hv1,h⟩:=Option.bind_eq_some_iff.1 h
 refine zC [] [] (hc_hazard_Yard_isNone_2 hv1) [(0,.cv (.pointer none)),(1,.vw 1000 2 0 1),(8,.bool true)] [(1000,.box 81 [.fn (.func 72) [] [.dp (.int .i64) c0 0],.int .i64 checks])] ?_
 refine zB [(0,.cv (.pointer none)),(1,.vw 1000 2 0 1),(8,.bool true)] [(1000,.box 81 [.fn (.func 72) [] [.dp (.int .i64) c0 0],.int .i64 checks])] ?_
 refine AW.cond (b:=true) rfl (fun _=>?_) (fun hb2=>by cases hb2)
 refine zo ?_
 refine zB [(4,.int .i64 60)] [(1000,.box 81 [.fn (.func 72) [] [.dp (.int .i64) c0 0],.int .i64 checks])] ?_
 refine zr ?_
 obtain rfl:=Option.some.inj h
 exact zR [] [] []
theorem hc_hazard_Yard_Take_2 (thread:Int) {r:Unit} (h:hazard_Yard_Take_2 thread=some r):HC Tryd.prog 37 [] [.cv (.pointer none),.int .i64 thread] [] (.tup [.int .i64 0,.int .i64 60]):=by
 unfold hazard_Yard_Take_2 at h
 refine zH Tryd.func37 [.tmp 4,.tmp 5] 29 ?_
 refine zo ?_
 refine zB [(0,.cv (.pointer none)),(1,.int .i64 thread)] [] ?_
 refine AW.seq ?_
 refine zo ?_
 refine zS 2 [(0,.cv (.pointer none)),(8,.cv (.pointer none)),(9,.int .i64 thread)] [] ?_
 obtain ⟨v0,hv1,h⟩:=Option.bind_eq_some_iff.1 h
 refine zC [] [] (hc_hazard_isThread thread hv1) [(0,.cv (.pointer none)),(8,.cv (.pointer none)),(10,.agg [.fn (.func 72) [] [.dp (.int .i64) thread 0],.int .i64 2])] [] ?_
 refine AO.buildBox tab_ok rfl (by decide) (by decide) rfl rfl tab_92 rfl tab_81 (by decide) (by decide) rfl (by decide) (cs:=[.fn (.func 72) [] [.dp (.int .i64) thread 0],.int .i64 2]) rfl rfl rfl ?_
 refine zT [(0,.cv (.pointer none)),(8,.cv (.pointer none)),(11,.vw 11 2 0 1)] [(11,.box 81 [.fn (.func 72) [] [.dp (.int .i64) thread 0],.int .i64 2])] gt ?_
 obtain ⟨v0_2,hv2,h⟩:=Option.bind_eq_some_iff.1 h
 refine zC [] [(1000,11)] (hc_hazard_Yard_fails_8 thread 2 hv2) [(0,.cv (.pointer none)),(12,.int .i64 60)] [] ?_
 refine zB [(0,.cv (.pointer none)),(6,.int .i64 60)] [] ?_
 refine zo ?_
 have hx3:(!decide ((60:Int)=0))=true:=rfl
 refine zB [(0,.cv (.pointer none)),(6,.int .i64 60),(14,.bool true)] [] ?_
 refine AW.cond (b:=true) rfl (fun _=>?_) (fun hb4=>by cases hb4)
 refine zo ?_
 refine zB [(4,.int .i64 0),(5,.int .i64 60)] [] ?_
 refine zr ?_
 obtain rfl:=Option.some.inj h
 exact zR [] [] []
theorem hc_hazard_Yard_fails_9 (c0:Int) (checks:Int) (c0_2:Int) (checks_2:Int) (c0_3:Int) (checks_3:Int) (c0_4:Int) (checks_4:Int) {r:Unit} (h:hazard_Yard_fails_9 c0 checks c0_2 checks_2 c0_3 checks_3 c0_4 checks_4=some r):HC Tryd.prog 49 [(1000,.box 81 [.fn (.func 72) [] [.dp (.int .i64) c0 0],.int .i64 checks,.fn (.func 74) [] [.dp (.int .i64) c0_2 0],.int .i64 checks_2,.fn (.func 70) [] [.dp (.int .i64) c0_3 0],.int .i64 checks_3,.fn (.func 76) [] [.dp (.int .i64) c0_4 0],.int .i64 checks_4])] [.cv (.pointer none),.vw 1000 2 0 4] [(1000,.box 81 [.fn (.func 72) [] [.dp (.int .i64) c0 0],.int .i64 checks,.fn (.func 74) [] [.dp (.int .i64) c0_2 0],.int .i64 checks_2,.fn (.func 70) [] [.dp (.int .i64) c0_3 0],.int .i64 checks_3,.fn (.func 76) [] [.dp (.int .i64) c0_4 0],.int .i64 checks_4])] (.int .i64 60):=by
 unfold hazard_Yard_fails_9 at h
 refine zH Tryd.func49 [.tmp 4] 23 ?_
 refine zo ?_
 refine zB [(0,.cv (.pointer none)),(1,.vw 1000 2 0 4)] [(1000,.box 81 [.fn (.func 72) [] [.dp (.int .i64) c0 0],.int .i64 checks,.fn (.func 74) [] [.dp (.int .i64) c0_2 0],.int .i64 checks_2,.fn (.func 70) [] [.dp (.int .i64) c0_3 0],.int .i64 checks_3,.fn (.func 76) [] [.dp (.int .i64) c0_4 0],.int .i64 checks_4])] ?_
 refine AW.seq ?_
 refine zo ?_
 refine zS 1 [(0,.cv (.pointer none)),(1,.vw 1000 2 0 4),(7,.cv (.pointer none))] [(1000,.box 81 [.fn (.func 72) [] [.dp (.int .i64) c0 0],.int .i64 checks,.fn (.func 74) [] [.dp (.int .i64) c0_2 0],.int .i64 checks_2,.fn (.func 70) [] [.dp (.int .i64) c0_3 0],.int .i64 checks_3,.fn (.func 76) [] [.dp (.int .i64) c0_4 0],.int .i64 checks_4])] ?_
 obtain ⟨v0,hv1,h⟩:=Option.bind_eq_some_iff.1 h
 refine zC [] [] (hc_hazard_Yard_isNone_2 hv1) [(0,.cv (.pointer none)),(1,.vw 1000 2 0 4),(8,.bool true)] [(1000,.box 81 [.fn (.func 72) [] [.dp (.int .i64) c0 0],.int .i64 checks,.fn (.func 74) [] [.dp (.int .i64) c0_2 0],.int .i64 checks_2,.fn (.func 70) [] [.dp (.int .i64) c0_3 0],.int .i64 checks_3,.fn (.func 76) [] [.dp (.int .i64) c0_4 0],.int .i64 checks_4])] ?_
 refine zB [(0,.cv (.pointer none)),(1,.vw 1000 2 0 4),(8,.bool true)] [(1000,.box 81 [.fn (.func 72) [] [.dp (.int .i64) c0 0],.int .i64 checks,.fn (.func 74) [] [.dp (.int .i64) c0_2 0],.int .i64 checks_2,.fn (.func 70) [] [.dp (.int .i64) c0_3 0],.int .i64 checks_3,.fn (.func 76) [] [.dp (.int .i64) c0_4 0],.int .i64 checks_4])] ?_
 refine AW.cond (b:=true) rfl (fun _=>?_) (fun hb2=>by cases hb2)
 refine zo ?_
 refine zB [(4,.int .i64 60)] [(1000,.box 81 [.fn (.func 72) [] [.dp (.int .i64) c0 0],.int .i64 checks,.fn (.func 74) [] [.dp (.int .i64) c0_2 0],.int .i64 checks_2,.fn (.func 70) [] [.dp (.int .i64) c0_3 0],.int .i64 checks_3,.fn (.func 76) [] [.dp (.int .i64) c0_4 0],.int .i64 checks_4])] ?_
 refine zr ?_
 obtain rfl:=Option.some.inj h
 exact zR [] [] []
theorem hc_hazard_Yard_Point_2 (thread:Int) (slot:Int) (node:Int) {r:Unit} (h:hazard_Yard_Point_2 thread slot node=some r):HC Tryd.prog 31 [] [.cv (.pointer none),.int .i64 thread,.int .i64 slot,.int .i64 node] [] (.int .i64 60):=by
 unfold hazard_Yard_Point_2 at h
 refine zH Tryd.func31 [.tmp 8] 32 ?_
 refine zo ?_
 refine zB [(0,.cv (.pointer none)),(1,.int .i64 thread),(2,.int .i64 slot),(3,.int .i64 node)] [] ?_
 refine AW.seq ?_
 refine zo ?_
 refine zS 2 [(0,.cv (.pointer none)),(1,.int .i64 thread),(2,.int .i64 slot),(3,.int .i64 node),(10,.cv (.pointer none)),(11,.int .i64 thread)] [] ?_
 obtain ⟨v0,hv1,h⟩:=Option.bind_eq_some_iff.1 h
 refine zC [] [] (hc_hazard_isThread thread hv1) [(0,.cv (.pointer none)),(1,.int .i64 thread),(2,.int .i64 slot),(3,.int .i64 node),(10,.cv (.pointer none)),(12,.agg [.fn (.func 72) [] [.dp (.int .i64) thread 0],.int .i64 2])] [] ?_
 refine zS 1 [(0,.cv (.pointer none)),(1,.int .i64 thread),(2,.int .i64 slot),(3,.int .i64 node),(10,.cv (.pointer none)),(12,.agg [.fn (.func 72) [] [.dp (.int .i64) thread 0],.int .i64 2]),(13,.int .i64 slot)] [] ?_
 obtain ⟨v0_2,hv2,h⟩:=Option.bind_eq_some_iff.1 h
 refine zC [] [] (hc_hazard_isSlot slot hv2) [(0,.cv (.pointer none)),(1,.int .i64 thread),(2,.int .i64 slot),(3,.int .i64 node),(10,.cv (.pointer none)),(12,.agg [.fn (.func 72) [] [.dp (.int .i64) thread 0],.int .i64 2]),(14,.agg [.fn (.func 74) [] [.dp (.int .i64) slot 0],.int .i64 2])] [] ?_
 refine zS 1 [(0,.cv (.pointer none)),(1,.int .i64 thread),(2,.int .i64 slot),(3,.int .i64 node),(10,.cv (.pointer none)),(12,.agg [.fn (.func 72) [] [.dp (.int .i64) thread 0],.int .i64 2]),(14,.agg [.fn (.func 74) [] [.dp (.int .i64) slot 0],.int .i64 2]),(15,.int .i64 node)] [] ?_
 obtain ⟨v0_3,hv3,h⟩:=Option.bind_eq_some_iff.1 h
 refine zC [] [] (hc_hazard_isNode node hv3) [(0,.cv (.pointer none)),(1,.int .i64 thread),(2,.int .i64 slot),(3,.int .i64 node),(10,.cv (.pointer none)),(12,.agg [.fn (.func 72) [] [.dp (.int .i64) thread 0],.int .i64 2]),(14,.agg [.fn (.func 74) [] [.dp (.int .i64) slot 0],.int .i64 2]),(16,.agg [.fn (.func 70) [] [.dp (.int .i64) node 0],.int .i64 2])] [] ?_
 refine zS 1 [(0,.cv (.pointer none)),(1,.int .i64 thread),(2,.int .i64 slot),(3,.int .i64 node),(10,.cv (.pointer none)),(12,.agg [.fn (.func 72) [] [.dp (.int .i64) thread 0],.int .i64 2]),(14,.agg [.fn (.func 74) [] [.dp (.int .i64) slot 0],.int .i64 2]),(16,.agg [.fn (.func 70) [] [.dp (.int .i64) node 0],.int .i64 2]),(17,.int .i64 node)] [] ?_
 obtain ⟨v0_4,hv4,h⟩:=Option.bind_eq_some_iff.1 h
 refine zC [] [] (hc_hazard_isIn node hv4) [(0,.cv (.pointer none)),(1,.int .i64 thread),(2,.int .i64 slot),(3,.int .i64 node),(10,.cv (.pointer none)),(12,.agg [.fn (.func 72) [] [.dp (.int .i64) thread 0],.int .i64 2]),(14,.agg [.fn (.func 74) [] [.dp (.int .i64) slot 0],.int .i64 2]),(16,.agg [.fn (.func 70) [] [.dp (.int .i64) node 0],.int .i64 2]),(18,.agg [.fn (.func 76) [] [.dp (.int .i64) node 0],.int .i64 5])] [] ?_
 refine AO.buildBox tab_ok rfl (by decide) (by decide) rfl rfl tab_92 rfl tab_81 (by decide) (by decide) rfl (by decide) (cs:=[.fn (.func 72) [] [.dp (.int .i64) thread 0],.int .i64 2,.fn (.func 74) [] [.dp (.int .i64) slot 0],.int .i64 2,.fn (.func 70) [] [.dp (.int .i64) node 0],.int .i64 2,.fn (.func 76) [] [.dp (.int .i64) node 0],.int .i64 5]) rfl rfl rfl ?_
 refine zT [(0,.cv (.pointer none)),(1,.int .i64 thread),(2,.int .i64 slot),(3,.int .i64 node),(10,.cv (.pointer none)),(19,.vw 19 2 0 4)] [(19,.box 81 [.fn (.func 72) [] [.dp (.int .i64) thread 0],.int .i64 2,.fn (.func 74) [] [.dp (.int .i64) slot 0],.int .i64 2,.fn (.func 70) [] [.dp (.int .i64) node 0],.int .i64 2,.fn (.func 76) [] [.dp (.int .i64) node 0],.int .i64 5])] gt ?_
 obtain ⟨v0_5,hv5,h⟩:=Option.bind_eq_some_iff.1 h
 refine zC [] [(1000,19)] (hc_hazard_Yard_fails_9 thread 2 slot 2 node 2 node 5 hv5) [(0,.cv (.pointer none)),(1,.int .i64 thread),(2,.int .i64 slot),(3,.int .i64 node),(20,.int .i64 60)] [] ?_
 refine zB [(0,.cv (.pointer none)),(1,.int .i64 thread),(2,.int .i64 slot),(3,.int .i64 node),(9,.int .i64 60)] [] ?_
 refine zo ?_
 have hx6:(!decide ((60:Int)=0))=true:=rfl
 refine zB [(0,.cv (.pointer none)),(1,.int .i64 thread),(2,.int .i64 slot),(3,.int .i64 node),(9,.int .i64 60),(22,.bool true)] [] ?_
 refine AW.cond (b:=true) rfl (fun _=>?_) (fun hb7=>by cases hb7)
 refine zo ?_
 refine zB [(8,.int .i64 60)] [] ?_
 refine zr ?_
 obtain rfl:=Option.some.inj h
 exact zR [] [] []
theorem hc_hazard_Yard_fails_10 (c0:Int) (checks:Int) (c0_2:Int) (checks_2:Int) {r:Unit} (h:hazard_Yard_fails_10 c0 checks c0_2 checks_2=some r):HC Tryd.prog 49 [(1000,.box 81 [.fn (.func 72) [] [.dp (.int .i64) c0 0],.int .i64 checks,.fn (.func 74) [] [.dp (.int .i64) c0_2 0],.int .i64 checks_2])] [.cv (.pointer none),.vw 1000 2 0 2] [(1000,.box 81 [.fn (.func 72) [] [.dp (.int .i64) c0 0],.int .i64 checks,.fn (.func 74) [] [.dp (.int .i64) c0_2 0],.int .i64 checks_2])] (.int .i64 60):=by
 unfold hazard_Yard_fails_10 at h
 refine zH Tryd.func49 [.tmp 4] 23 ?_
 refine zo ?_
 refine zB [(0,.cv (.pointer none)),(1,.vw 1000 2 0 2)] [(1000,.box 81 [.fn (.func 72) [] [.dp (.int .i64) c0 0],.int .i64 checks,.fn (.func 74) [] [.dp (.int .i64) c0_2 0],.int .i64 checks_2])] ?_
 refine AW.seq ?_
 refine zo ?_
 refine zS 1 [(0,.cv (.pointer none)),(1,.vw 1000 2 0 2),(7,.cv (.pointer none))] [(1000,.box 81 [.fn (.func 72) [] [.dp (.int .i64) c0 0],.int .i64 checks,.fn (.func 74) [] [.dp (.int .i64) c0_2 0],.int .i64 checks_2])] ?_
 obtain ⟨v0,hv1,h⟩:=Option.bind_eq_some_iff.1 h
 refine zC [] [] (hc_hazard_Yard_isNone_2 hv1) [(0,.cv (.pointer none)),(1,.vw 1000 2 0 2),(8,.bool true)] [(1000,.box 81 [.fn (.func 72) [] [.dp (.int .i64) c0 0],.int .i64 checks,.fn (.func 74) [] [.dp (.int .i64) c0_2 0],.int .i64 checks_2])] ?_
 refine zB [(0,.cv (.pointer none)),(1,.vw 1000 2 0 2),(8,.bool true)] [(1000,.box 81 [.fn (.func 72) [] [.dp (.int .i64) c0 0],.int .i64 checks,.fn (.func 74) [] [.dp (.int .i64) c0_2 0],.int .i64 checks_2])] ?_
 refine AW.cond (b:=true) rfl (fun _=>?_) (fun hb2=>by cases hb2)
 refine zo ?_
 refine zB [(4,.int .i64 60)] [(1000,.box 81 [.fn (.func 72) [] [.dp (.int .i64) c0 0],.int .i64 checks,.fn (.func 74) [] [.dp (.int .i64) c0_2 0],.int .i64 checks_2])] ?_
 refine zr ?_
 obtain rfl:=Option.some.inj h
 exact zR [] [] []
theorem hc_hazard_Yard_Clear_2 (thread:Int) (slot:Int) {r:Unit} (h:hazard_Yard_Clear_2 thread slot=some r):HC Tryd.prog 33 [] [.cv (.pointer none),.int .i64 thread,.int .i64 slot] [] (.int .i64 60):=by
 unfold hazard_Yard_Clear_2 at h
 refine zH Tryd.func33 [.tmp 6] 25 ?_
 refine zo ?_
 refine zB [(0,.cv (.pointer none)),(1,.int .i64 thread),(2,.int .i64 slot)] [] ?_
 refine AW.seq ?_
 refine zo ?_
 refine zS 2 [(0,.cv (.pointer none)),(1,.int .i64 thread),(2,.int .i64 slot),(8,.cv (.pointer none)),(9,.int .i64 thread)] [] ?_
 obtain ⟨v0,hv1,h⟩:=Option.bind_eq_some_iff.1 h
 refine zC [] [] (hc_hazard_isThread thread hv1) [(0,.cv (.pointer none)),(1,.int .i64 thread),(2,.int .i64 slot),(8,.cv (.pointer none)),(10,.agg [.fn (.func 72) [] [.dp (.int .i64) thread 0],.int .i64 2])] [] ?_
 refine zS 1 [(0,.cv (.pointer none)),(1,.int .i64 thread),(2,.int .i64 slot),(8,.cv (.pointer none)),(10,.agg [.fn (.func 72) [] [.dp (.int .i64) thread 0],.int .i64 2]),(11,.int .i64 slot)] [] ?_
 obtain ⟨v0_2,hv2,h⟩:=Option.bind_eq_some_iff.1 h
 refine zC [] [] (hc_hazard_isSlot slot hv2) [(0,.cv (.pointer none)),(1,.int .i64 thread),(2,.int .i64 slot),(8,.cv (.pointer none)),(10,.agg [.fn (.func 72) [] [.dp (.int .i64) thread 0],.int .i64 2]),(12,.agg [.fn (.func 74) [] [.dp (.int .i64) slot 0],.int .i64 2])] [] ?_
 refine AO.buildBox tab_ok rfl (by decide) (by decide) rfl rfl tab_92 rfl tab_81 (by decide) (by decide) rfl (by decide) (cs:=[.fn (.func 72) [] [.dp (.int .i64) thread 0],.int .i64 2,.fn (.func 74) [] [.dp (.int .i64) slot 0],.int .i64 2]) rfl rfl rfl ?_
 refine zT [(0,.cv (.pointer none)),(1,.int .i64 thread),(2,.int .i64 slot),(8,.cv (.pointer none)),(13,.vw 13 2 0 2)] [(13,.box 81 [.fn (.func 72) [] [.dp (.int .i64) thread 0],.int .i64 2,.fn (.func 74) [] [.dp (.int .i64) slot 0],.int .i64 2])] gt ?_
 obtain ⟨v0_3,hv3,h⟩:=Option.bind_eq_some_iff.1 h
 refine zC [] [(1000,13)] (hc_hazard_Yard_fails_10 thread 2 slot 2 hv3) [(0,.cv (.pointer none)),(1,.int .i64 thread),(2,.int .i64 slot),(14,.int .i64 60)] [] ?_
 refine zB [(0,.cv (.pointer none)),(1,.int .i64 thread),(2,.int .i64 slot),(7,.int .i64 60)] [] ?_
 refine zo ?_
 have hx4:(!decide ((60:Int)=0))=true:=rfl
 refine zB [(0,.cv (.pointer none)),(1,.int .i64 thread),(2,.int .i64 slot),(7,.int .i64 60),(16,.bool true)] [] ?_
 refine AW.cond (b:=true) rfl (fun _=>?_) (fun hb5=>by cases hb5)
 refine zo ?_
 refine zB [(6,.int .i64 60)] [] ?_
 refine zr ?_
 obtain rfl:=Option.some.inj h
 exact zR [] [] []
theorem hc_hazard_Yard_fails_11 (c0:Int) (checks:Int) (c0_2:Int) (checks_2:Int) (c0_3:Int) (checks_3:Int) {r:Unit} (h:hazard_Yard_fails_11 c0 checks c0_2 checks_2 c0_3 checks_3=some r):HC Tryd.prog 49 [(1000,.box 81 [.fn (.func 72) [] [.dp (.int .i64) c0 0],.int .i64 checks,.fn (.func 70) [] [.dp (.int .i64) c0_2 0],.int .i64 checks_2,.fn (.func 76) [] [.dp (.int .i64) c0_3 0],.int .i64 checks_3])] [.cv (.pointer none),.vw 1000 2 0 3] [(1000,.box 81 [.fn (.func 72) [] [.dp (.int .i64) c0 0],.int .i64 checks,.fn (.func 70) [] [.dp (.int .i64) c0_2 0],.int .i64 checks_2,.fn (.func 76) [] [.dp (.int .i64) c0_3 0],.int .i64 checks_3])] (.int .i64 60):=by
 unfold hazard_Yard_fails_11 at h
 refine zH Tryd.func49 [.tmp 4] 23 ?_
 refine zo ?_
 refine zB [(0,.cv (.pointer none)),(1,.vw 1000 2 0 3)] [(1000,.box 81 [.fn (.func 72) [] [.dp (.int .i64) c0 0],.int .i64 checks,.fn (.func 70) [] [.dp (.int .i64) c0_2 0],.int .i64 checks_2,.fn (.func 76) [] [.dp (.int .i64) c0_3 0],.int .i64 checks_3])] ?_
 refine AW.seq ?_
 refine zo ?_
 refine zS 1 [(0,.cv (.pointer none)),(1,.vw 1000 2 0 3),(7,.cv (.pointer none))] [(1000,.box 81 [.fn (.func 72) [] [.dp (.int .i64) c0 0],.int .i64 checks,.fn (.func 70) [] [.dp (.int .i64) c0_2 0],.int .i64 checks_2,.fn (.func 76) [] [.dp (.int .i64) c0_3 0],.int .i64 checks_3])] ?_
 obtain ⟨v0,hv1,h⟩:=Option.bind_eq_some_iff.1 h
 refine zC [] [] (hc_hazard_Yard_isNone_2 hv1) [(0,.cv (.pointer none)),(1,.vw 1000 2 0 3),(8,.bool true)] [(1000,.box 81 [.fn (.func 72) [] [.dp (.int .i64) c0 0],.int .i64 checks,.fn (.func 70) [] [.dp (.int .i64) c0_2 0],.int .i64 checks_2,.fn (.func 76) [] [.dp (.int .i64) c0_3 0],.int .i64 checks_3])] ?_
 refine zB [(0,.cv (.pointer none)),(1,.vw 1000 2 0 3),(8,.bool true)] [(1000,.box 81 [.fn (.func 72) [] [.dp (.int .i64) c0 0],.int .i64 checks,.fn (.func 70) [] [.dp (.int .i64) c0_2 0],.int .i64 checks_2,.fn (.func 76) [] [.dp (.int .i64) c0_3 0],.int .i64 checks_3])] ?_
 refine AW.cond (b:=true) rfl (fun _=>?_) (fun hb2=>by cases hb2)
 refine zo ?_
 refine zB [(4,.int .i64 60)] [(1000,.box 81 [.fn (.func 72) [] [.dp (.int .i64) c0 0],.int .i64 checks,.fn (.func 70) [] [.dp (.int .i64) c0_2 0],.int .i64 checks_2,.fn (.func 76) [] [.dp (.int .i64) c0_3 0],.int .i64 checks_3])] ?_
 refine zr ?_
 obtain rfl:=Option.some.inj h
 exact zR [] [] []
theorem hc_hazard_Yard_PutBy_2 (thread:Int) (node:Int) {r:Unit} (h:hazard_Yard_PutBy_2 thread node=some r):HC Tryd.prog 35 [] [.cv (.pointer none),.int .i64 thread,.int .i64 node] [] (.tup [.int .i64 0,.int .i64 60]):=by
 unfold hazard_Yard_PutBy_2 at h
 refine zH Tryd.func35 [.tmp 6,.tmp 7] 48 ?_
 refine zo ?_
 refine zB [(0,.cv (.pointer none)),(1,.int .i64 thread),(2,.int .i64 node)] [] ?_
 refine AW.seq ?_
 refine zo ?_
 refine zS 2 [(0,.cv (.pointer none)),(1,.int .i64 thread),(2,.int .i64 node),(9,.cv (.pointer none)),(10,.int .i64 thread)] [] ?_
 obtain ⟨v0,hv1,h⟩:=Option.bind_eq_some_iff.1 h
 refine zC [] [] (hc_hazard_isThread thread hv1) [(0,.cv (.pointer none)),(1,.int .i64 thread),(2,.int .i64 node),(9,.cv (.pointer none)),(11,.agg [.fn (.func 72) [] [.dp (.int .i64) thread 0],.int .i64 2])] [] ?_
 refine zS 1 [(0,.cv (.pointer none)),(1,.int .i64 thread),(2,.int .i64 node),(9,.cv (.pointer none)),(11,.agg [.fn (.func 72) [] [.dp (.int .i64) thread 0],.int .i64 2]),(12,.int .i64 node)] [] ?_
 obtain ⟨v0_2,hv2,h⟩:=Option.bind_eq_some_iff.1 h
 refine zC [] [] (hc_hazard_isNode node hv2) [(0,.cv (.pointer none)),(1,.int .i64 thread),(2,.int .i64 node),(9,.cv (.pointer none)),(11,.agg [.fn (.func 72) [] [.dp (.int .i64) thread 0],.int .i64 2]),(13,.agg [.fn (.func 70) [] [.dp (.int .i64) node 0],.int .i64 2])] [] ?_
 refine zS 1 [(0,.cv (.pointer none)),(1,.int .i64 thread),(2,.int .i64 node),(9,.cv (.pointer none)),(11,.agg [.fn (.func 72) [] [.dp (.int .i64) thread 0],.int .i64 2]),(13,.agg [.fn (.func 70) [] [.dp (.int .i64) node 0],.int .i64 2]),(14,.int .i64 node)] [] ?_
 obtain ⟨v0_3,hv3,h⟩:=Option.bind_eq_some_iff.1 h
 refine zC [] [] (hc_hazard_isIn node hv3) [(0,.cv (.pointer none)),(1,.int .i64 thread),(2,.int .i64 node),(9,.cv (.pointer none)),(11,.agg [.fn (.func 72) [] [.dp (.int .i64) thread 0],.int .i64 2]),(13,.agg [.fn (.func 70) [] [.dp (.int .i64) node 0],.int .i64 2]),(15,.agg [.fn (.func 76) [] [.dp (.int .i64) node 0],.int .i64 5])] [] ?_
 refine AO.buildBox tab_ok rfl (by decide) (by decide) rfl rfl tab_92 rfl tab_81 (by decide) (by decide) rfl (by decide) (cs:=[.fn (.func 72) [] [.dp (.int .i64) thread 0],.int .i64 2,.fn (.func 70) [] [.dp (.int .i64) node 0],.int .i64 2,.fn (.func 76) [] [.dp (.int .i64) node 0],.int .i64 5]) rfl rfl rfl ?_
 refine zT [(0,.cv (.pointer none)),(1,.int .i64 thread),(2,.int .i64 node),(9,.cv (.pointer none)),(16,.vw 16 2 0 3)] [(16,.box 81 [.fn (.func 72) [] [.dp (.int .i64) thread 0],.int .i64 2,.fn (.func 70) [] [.dp (.int .i64) node 0],.int .i64 2,.fn (.func 76) [] [.dp (.int .i64) node 0],.int .i64 5])] gt ?_
 obtain ⟨v0_4,hv4,h⟩:=Option.bind_eq_some_iff.1 h
 refine zC [] [(1000,16)] (hc_hazard_Yard_fails_11 thread 2 node 2 node 5 hv4) [(0,.cv (.pointer none)),(1,.int .i64 thread),(2,.int .i64 node),(17,.int .i64 60)] [] ?_
 refine zB [(0,.cv (.pointer none)),(1,.int .i64 thread),(2,.int .i64 node),(8,.int .i64 60)] [] ?_
 refine zo ?_
 have hx5:(!decide ((60:Int)=0))=true:=rfl
 refine zB [(0,.cv (.pointer none)),(1,.int .i64 thread),(2,.int .i64 node),(8,.int .i64 60),(19,.bool true)] [] ?_
 refine AW.cond (b:=true) rfl (fun _=>?_) (fun hb6=>by cases hb6)
 refine zo ?_
 refine zB [(6,.int .i64 0),(7,.int .i64 60)] [] ?_
 refine zr ?_
 obtain rfl:=Option.some.inj h
 exact zR [] [] []
theorem hc_hazard_Yard_Sweep_2 (thread:Int) {r:Unit} (h:hazard_Yard_Sweep_2 thread=some r):HC Tryd.prog 39 [] [.cv (.pointer none),.int .i64 thread] [] (.tup [.int .i64 0,.int .i64 60]):=by
 unfold hazard_Yard_Sweep_2 at h
 refine zH Tryd.func39 [.tmp 4,.tmp 5] 18 ?_
 refine zo ?_
 refine zB [(0,.cv (.pointer none)),(1,.int .i64 thread)] [] ?_
 refine AW.seq ?_
 refine zo ?_
 refine zS 2 [(0,.cv (.pointer none)),(1,.int .i64 thread),(7,.cv (.pointer none)),(8,.int .i64 thread)] [] ?_
 obtain ⟨v0,hv1,h⟩:=Option.bind_eq_some_iff.1 h
 refine zC [] [] (hc_hazard_isThread thread hv1) [(0,.cv (.pointer none)),(1,.int .i64 thread),(7,.cv (.pointer none)),(9,.agg [.fn (.func 72) [] [.dp (.int .i64) thread 0],.int .i64 2])] [] ?_
 refine AO.buildBox tab_ok rfl (by decide) (by decide) rfl rfl tab_92 rfl tab_81 (by decide) (by decide) rfl (by decide) (cs:=[.fn (.func 72) [] [.dp (.int .i64) thread 0],.int .i64 2]) rfl rfl rfl ?_
 refine zT [(0,.cv (.pointer none)),(1,.int .i64 thread),(7,.cv (.pointer none)),(10,.vw 10 2 0 1)] [(10,.box 81 [.fn (.func 72) [] [.dp (.int .i64) thread 0],.int .i64 2])] gt ?_
 obtain ⟨v0_2,hv2,h⟩:=Option.bind_eq_some_iff.1 h
 refine zC [] [(1000,10)] (hc_hazard_Yard_fails_8 thread 2 hv2) [(0,.cv (.pointer none)),(1,.int .i64 thread),(11,.int .i64 60)] [] ?_
 refine zB [(0,.cv (.pointer none)),(1,.int .i64 thread),(6,.int .i64 60)] [] ?_
 refine zo ?_
 have hx3:(!decide ((60:Int)=0))=true:=rfl
 refine zB [(0,.cv (.pointer none)),(1,.int .i64 thread),(6,.int .i64 60),(13,.bool true)] [] ?_
 refine AW.cond (b:=true) rfl (fun _=>?_) (fun hb4=>by cases hb4)
 refine zo ?_
 refine zB [(4,.int .i64 0),(5,.int .i64 60)] [] ?_
 refine zr ?_
 obtain rfl:=Option.some.inj h
 exact zR [] [] []
theorem hc_hazard_Yard_fails_12 (c0:Int) (checks:Int) (c0_2:Int) (checks_2:Int) (c0_3:Int) (c1:Int) (checks_3:Int) {r:Unit} (h:hazard_Yard_fails_12 c0 checks c0_2 checks_2 c0_3 c1 checks_3=some r):HC Tryd.prog 49 [(1000,.box 81 [.fn (.func 72) [] [.dp (.int .i64) c0 0],.int .i64 checks,.fn (.func 74) [] [.dp (.int .i64) c0_2 0],.int .i64 checks_2,.fn (.func 75) [] [.dp (.int .i64) c0_3 0,.dp (.int .i64) c1 0],.int .i64 checks_3])] [.cv (.pointer none),.vw 1000 2 0 3] [(1000,.box 81 [.fn (.func 72) [] [.dp (.int .i64) c0 0],.int .i64 checks,.fn (.func 74) [] [.dp (.int .i64) c0_2 0],.int .i64 checks_2,.fn (.func 75) [] [.dp (.int .i64) c0_3 0,.dp (.int .i64) c1 0],.int .i64 checks_3])] (.int .i64 60):=by
 unfold hazard_Yard_fails_12 at h
 refine zH Tryd.func49 [.tmp 4] 23 ?_
 refine zo ?_
 refine zB [(0,.cv (.pointer none)),(1,.vw 1000 2 0 3)] [(1000,.box 81 [.fn (.func 72) [] [.dp (.int .i64) c0 0],.int .i64 checks,.fn (.func 74) [] [.dp (.int .i64) c0_2 0],.int .i64 checks_2,.fn (.func 75) [] [.dp (.int .i64) c0_3 0,.dp (.int .i64) c1 0],.int .i64 checks_3])] ?_
 refine AW.seq ?_
 refine zo ?_
 refine zS 1 [(0,.cv (.pointer none)),(1,.vw 1000 2 0 3),(7,.cv (.pointer none))] [(1000,.box 81 [.fn (.func 72) [] [.dp (.int .i64) c0 0],.int .i64 checks,.fn (.func 74) [] [.dp (.int .i64) c0_2 0],.int .i64 checks_2,.fn (.func 75) [] [.dp (.int .i64) c0_3 0,.dp (.int .i64) c1 0],.int .i64 checks_3])] ?_
 obtain ⟨v0,hv1,h⟩:=Option.bind_eq_some_iff.1 h
 refine zC [] [] (hc_hazard_Yard_isNone_2 hv1) [(0,.cv (.pointer none)),(1,.vw 1000 2 0 3),(8,.bool true)] [(1000,.box 81 [.fn (.func 72) [] [.dp (.int .i64) c0 0],.int .i64 checks,.fn (.func 74) [] [.dp (.int .i64) c0_2 0],.int .i64 checks_2,.fn (.func 75) [] [.dp (.int .i64) c0_3 0,.dp (.int .i64) c1 0],.int .i64 checks_3])] ?_
 refine zB [(0,.cv (.pointer none)),(1,.vw 1000 2 0 3),(8,.bool true)] [(1000,.box 81 [.fn (.func 72) [] [.dp (.int .i64) c0 0],.int .i64 checks,.fn (.func 74) [] [.dp (.int .i64) c0_2 0],.int .i64 checks_2,.fn (.func 75) [] [.dp (.int .i64) c0_3 0,.dp (.int .i64) c1 0],.int .i64 checks_3])] ?_
 refine AW.cond (b:=true) rfl (fun _=>?_) (fun hb2=>by cases hb2)
 refine zo ?_
 refine zB [(4,.int .i64 60)] [(1000,.box 81 [.fn (.func 72) [] [.dp (.int .i64) c0 0],.int .i64 checks,.fn (.func 74) [] [.dp (.int .i64) c0_2 0],.int .i64 checks_2,.fn (.func 75) [] [.dp (.int .i64) c0_3 0,.dp (.int .i64) c1 0],.int .i64 checks_3])] ?_
 refine zr ?_
 obtain rfl:=Option.some.inj h
 exact zR [] [] []
theorem hc_hazard_Yard_Use_2 (thread:Int) (slot:Int) {r:Unit} (h:hazard_Yard_Use_2 thread slot=some r):HC Tryd.prog 29 [] [.cv (.pointer none),.int .i64 thread,.int .i64 slot] [] (.tup [.int .i64 0,.int .i64 60]):=by
 unfold hazard_Yard_Use_2 at h
 refine zH Tryd.func29 [.tmp 6,.tmp 7] 30 ?_
 refine zo ?_
 refine zB [(0,.cv (.pointer none)),(1,.int .i64 thread),(2,.int .i64 slot)] [] ?_
 refine AW.seq ?_
 refine zo ?_
 refine zS 2 [(0,.cv (.pointer none)),(1,.int .i64 thread),(2,.int .i64 slot),(9,.cv (.pointer none)),(10,.int .i64 thread)] [] ?_
 obtain ⟨v0,hv1,h⟩:=Option.bind_eq_some_iff.1 h
 refine zC [] [] (hc_hazard_isThread thread hv1) [(0,.cv (.pointer none)),(1,.int .i64 thread),(2,.int .i64 slot),(9,.cv (.pointer none)),(11,.agg [.fn (.func 72) [] [.dp (.int .i64) thread 0],.int .i64 2])] [] ?_
 refine zS 1 [(0,.cv (.pointer none)),(1,.int .i64 thread),(2,.int .i64 slot),(9,.cv (.pointer none)),(11,.agg [.fn (.func 72) [] [.dp (.int .i64) thread 0],.int .i64 2]),(12,.int .i64 slot)] [] ?_
 obtain ⟨v0_2,hv2,h⟩:=Option.bind_eq_some_iff.1 h
 refine zC [] [] (hc_hazard_isSlot slot hv2) [(0,.cv (.pointer none)),(1,.int .i64 thread),(2,.int .i64 slot),(9,.cv (.pointer none)),(11,.agg [.fn (.func 72) [] [.dp (.int .i64) thread 0],.int .i64 2]),(13,.agg [.fn (.func 74) [] [.dp (.int .i64) slot 0],.int .i64 2])] [] ?_
 refine zS 2 [(0,.cv (.pointer none)),(1,.int .i64 thread),(2,.int .i64 slot),(9,.cv (.pointer none)),(11,.agg [.fn (.func 72) [] [.dp (.int .i64) thread 0],.int .i64 2]),(13,.agg [.fn (.func 74) [] [.dp (.int .i64) slot 0],.int .i64 2]),(14,.int .i64 thread),(15,.int .i64 slot)] [] ?_
 obtain ⟨v0_3,hv3,h⟩:=Option.bind_eq_some_iff.1 h
 refine zC [] [] (hc_hazard_points thread slot hv3) [(0,.cv (.pointer none)),(1,.int .i64 thread),(2,.int .i64 slot),(9,.cv (.pointer none)),(11,.agg [.fn (.func 72) [] [.dp (.int .i64) thread 0],.int .i64 2]),(13,.agg [.fn (.func 74) [] [.dp (.int .i64) slot 0],.int .i64 2]),(16,.agg [.fn (.func 75) [] [.dp (.int .i64) thread 0,.dp (.int .i64) slot 0],.int .i64 5])] [] ?_
 refine AO.buildBox tab_ok rfl (by decide) (by decide) rfl rfl tab_92 rfl tab_81 (by decide) (by decide) rfl (by decide) (cs:=[.fn (.func 72) [] [.dp (.int .i64) thread 0],.int .i64 2,.fn (.func 74) [] [.dp (.int .i64) slot 0],.int .i64 2,.fn (.func 75) [] [.dp (.int .i64) thread 0,.dp (.int .i64) slot 0],.int .i64 5]) rfl rfl rfl ?_
 refine zT [(0,.cv (.pointer none)),(1,.int .i64 thread),(2,.int .i64 slot),(9,.cv (.pointer none)),(17,.vw 17 2 0 3)] [(17,.box 81 [.fn (.func 72) [] [.dp (.int .i64) thread 0],.int .i64 2,.fn (.func 74) [] [.dp (.int .i64) slot 0],.int .i64 2,.fn (.func 75) [] [.dp (.int .i64) thread 0,.dp (.int .i64) slot 0],.int .i64 5])] gt ?_
 obtain ⟨v0_4,hv4,h⟩:=Option.bind_eq_some_iff.1 h
 refine zC [] [(1000,17)] (hc_hazard_Yard_fails_12 thread 2 slot 2 thread slot 5 hv4) [(0,.cv (.pointer none)),(1,.int .i64 thread),(2,.int .i64 slot),(18,.int .i64 60)] [] ?_
 refine zB [(0,.cv (.pointer none)),(1,.int .i64 thread),(2,.int .i64 slot),(8,.int .i64 60)] [] ?_
 refine zo ?_
 have hx5:(!decide ((60:Int)=0))=true:=rfl
 refine zB [(0,.cv (.pointer none)),(1,.int .i64 thread),(2,.int .i64 slot),(8,.int .i64 60),(20,.bool true)] [] ?_
 refine AW.cond (b:=true) rfl (fun _=>?_) (fun hb6=>by cases hb6)
 refine zo ?_
 refine zB [(6,.int .i64 0),(7,.int .i64 60)] [] ?_
 refine zr ?_
 obtain rfl:=Option.some.inj h
 exact zR [] [] []
theorem hc_hazard_Yard_fails_13 (c0:Int×Int×Int×Int) (checks:Int) {r:Unit} (h:hazard_Yard_fails_13 c0 checks=some r):HC Tryd.prog 49 [(1000,.box 81 [.fn (.func 69) [] [.dp (.pair (.int .i64) (.pair (.int .i64) (.pair (.int .i64) (.int .i64)))) c0 0],.int .i64 checks])] [.cv (.pointer none),.vw 1000 2 0 1] [(1000,.box 81 [.fn (.func 69) [] [.dp (.pair (.int .i64) (.pair (.int .i64) (.pair (.int .i64) (.int .i64)))) c0 0],.int .i64 checks])] (.int .i64 60):=by
 unfold hazard_Yard_fails_13 at h
 refine zH Tryd.func49 [.tmp 4] 23 ?_
 refine zo ?_
 refine zB [(0,.cv (.pointer none)),(1,.vw 1000 2 0 1)] [(1000,.box 81 [.fn (.func 69) [] [.dp (.pair (.int .i64) (.pair (.int .i64) (.pair (.int .i64) (.int .i64)))) c0 0],.int .i64 checks])] ?_
 refine AW.seq ?_
 refine zo ?_
 refine zS 1 [(0,.cv (.pointer none)),(1,.vw 1000 2 0 1),(7,.cv (.pointer none))] [(1000,.box 81 [.fn (.func 69) [] [.dp (.pair (.int .i64) (.pair (.int .i64) (.pair (.int .i64) (.int .i64)))) c0 0],.int .i64 checks])] ?_
 obtain ⟨v0,hv1,h⟩:=Option.bind_eq_some_iff.1 h
 refine zC [] [] (hc_hazard_Yard_isNone_2 hv1) [(0,.cv (.pointer none)),(1,.vw 1000 2 0 1),(8,.bool true)] [(1000,.box 81 [.fn (.func 69) [] [.dp (.pair (.int .i64) (.pair (.int .i64) (.pair (.int .i64) (.int .i64)))) c0 0],.int .i64 checks])] ?_
 refine zB [(0,.cv (.pointer none)),(1,.vw 1000 2 0 1),(8,.bool true)] [(1000,.box 81 [.fn (.func 69) [] [.dp (.pair (.int .i64) (.pair (.int .i64) (.pair (.int .i64) (.int .i64)))) c0 0],.int .i64 checks])] ?_
 refine AW.cond (b:=true) rfl (fun _=>?_) (fun hb2=>by cases hb2)
 refine zo ?_
 refine zB [(4,.int .i64 60)] [(1000,.box 81 [.fn (.func 69) [] [.dp (.pair (.int .i64) (.pair (.int .i64) (.pair (.int .i64) (.int .i64)))) c0 0],.int .i64 checks])] ?_
 refine zr ?_
 obtain rfl:=Option.some.inj h
 exact zR [] [] []
theorem hc_hazard_Yard_Do_2 (d:Int×Int×Int×Int) {r:Unit} (h:hazard_Yard_Do_2 d=some r):HC Tryd.prog 17 [] [.cv (.pointer none),.agg [.int .i64 d.1,.int .i64 d.2.1,.int .i64 d.2.2.1,.int .i64 d.2.2.2]] [] (.tup [.int .i64 0,.int .i64 60]):=by
 unfold hazard_Yard_Do_2 at h
 refine zH Tryd.func17 [.tmp 4,.tmp 5] 69 ?_
 refine zo ?_
 refine zS 1 [(0,.cv (.pointer none)),(3,.bp 3 0)] [(3,.box 33 [.int .i64 d.1,.int .i64 d.2.1,.int .i64 d.2.2.1,.int .i64 d.2.2.2])] ?_
 refine AO.weaken (s':=⟨fr [(0,.cv (.pointer none)),(3,.dp (.pair (.int .i64) (.pair (.int .i64) (.pair (.int .i64) (.int .i64)))) d 0)],hpGet [],gt⟩) (Wk.boxes [3] rfl rfl (by (simp only [go_sem])<;>(with_reducible and_intros)<;>first|assumption|rfl|omega|(unfold maxLen; omega)) (by (simp only [go_sem])<;>(with_reducible and_intros)<;>first|assumption|rfl|omega|(unfold maxLen; omega))) ?_
 refine zB [(0,.cv (.pointer none)),(3,.dp (.pair (.int .i64) (.pair (.int .i64) (.pair (.int .i64) (.int .i64)))) d 0)] [] ?_
 refine AW.seq ?_
 refine zo ?_
 refine zS 2 [(0,.cv (.pointer none)),(3,.dp (.pair (.int .i64) (.pair (.int .i64) (.pair (.int .i64) (.int .i64)))) d 0),(7,.cv (.pointer none)),(8,.agg [.int .i64 d.1,.int .i64 d.2.1,.int .i64 d.2.2.1,.int .i64 d.2.2.2])] [] ?_
 obtain ⟨v0,hv1,h⟩:=Option.bind_eq_some_iff.1 h
 refine zC [] [] (hc_hazard_isDeed d hv1) [(0,.cv (.pointer none)),(3,.dp (.pair (.int .i64) (.pair (.int .i64) (.pair (.int .i64) (.int .i64)))) d 0),(7,.cv (.pointer none)),(9,.agg [.fn (.func 69) [] [.dp (.pair (.int .i64) (.pair (.int .i64) (.pair (.int .i64) (.int .i64)))) d 0],.int .i64 2])] [] ?_
 refine AO.buildBox tab_ok rfl (by decide) (by decide) rfl rfl tab_92 rfl tab_81 (by decide) (by decide) rfl (by decide) (cs:=[.fn (.func 69) [] [.dp (.pair (.int .i64) (.pair (.int .i64) (.pair (.int .i64) (.int .i64)))) d 0],.int .i64 2]) rfl rfl rfl ?_
 refine zT [(0,.cv (.pointer none)),(3,.dp (.pair (.int .i64) (.pair (.int .i64) (.pair (.int .i64) (.int .i64)))) d 0),(7,.cv (.pointer none)),(10,.vw 10 2 0 1)] [(10,.box 81 [.fn (.func 69) [] [.dp (.pair (.int .i64) (.pair (.int .i64) (.pair (.int .i64) (.int .i64)))) d 0],.int .i64 2])] gt ?_
 obtain ⟨v0_2,hv2,h⟩:=Option.bind_eq_some_iff.1 h
 refine zC [] [(1000,10)] (hc_hazard_Yard_fails_13 d 2 hv2) [(0,.cv (.pointer none)),(3,.dp (.pair (.int .i64) (.pair (.int .i64) (.pair (.int .i64) (.int .i64)))) d 0),(11,.int .i64 60)] [] ?_
 refine zB [(0,.cv (.pointer none)),(3,.dp (.pair (.int .i64) (.pair (.int .i64) (.pair (.int .i64) (.int .i64)))) d 0),(6,.int .i64 60)] [] ?_
 refine zo ?_
 have hx3:(!decide ((60:Int)=0))=true:=rfl
 refine zB [(0,.cv (.pointer none)),(3,.dp (.pair (.int .i64) (.pair (.int .i64) (.pair (.int .i64) (.int .i64)))) d 0),(6,.int .i64 60),(13,.bool true)] [] ?_
 refine AW.cond (b:=true) rfl (fun _=>?_) (fun hb4=>by cases hb4)
 refine zo ?_
 refine zB [(4,.int .i64 0),(5,.int .i64 60)] [] ?_
 refine zr ?_
 obtain rfl:=Option.some.inj h
 exact zR [] [] []
theorem hc_lineallaw06_called (d:Int×Int×Int×Int) {r:Unit} (h:lineallaw06_called d=some r):HC Tryd.prog 20 [] [.cv (.pointer none),.agg [.int .i64 d.1,.int .i64 d.2.1,.int .i64 d.2.2.1,.int .i64 d.2.2.2]] [] (.tup [.int .i64 0,.int .i64 60]):=by
 unfold lineallaw06_called at h
 refine zH Tryd.func20 [.tmp 4,.tmp 5] 67 ?_
 refine zo ?_
 refine zS 1 [(0,.cv (.pointer none)),(3,.bp 3 0)] [(3,.box 33 [.int .i64 d.1,.int .i64 d.2.1,.int .i64 d.2.2.1,.int .i64 d.2.2.2])] ?_
 refine AO.weaken (s':=⟨fr [(0,.cv (.pointer none)),(3,.dp (.pair (.int .i64) (.pair (.int .i64) (.pair (.int .i64) (.int .i64)))) d 0)],hpGet [],gt⟩) (Wk.boxes [3] rfl rfl (by (simp only [go_sem])<;>(with_reducible and_intros)<;>first|assumption|rfl|omega|(unfold maxLen; omega)) (by (simp only [go_sem])<;>(with_reducible and_intros)<;>first|assumption|rfl|omega|(unfold maxLen; omega))) ?_
 refine zB [(0,.cv (.pointer none)),(3,.dp (.pair (.int .i64) (.pair (.int .i64) (.pair (.int .i64) (.int .i64)))) d 0)] [] ?_
 refine AW.seq ?_
 refine zo ?_
 refine zB [(0,.cv (.pointer none)),(3,.dp (.pair (.int .i64) (.pair (.int .i64) (.pair (.int .i64) (.int .i64)))) d 0),(7,.int .i64 d.1)] [] ?_
 refine AW.block ?_
 refine zo ?_
 refine zB [(0,.cv (.pointer none)),(3,.dp (.pair (.int .i64) (.pair (.int .i64) (.pair (.int .i64) (.int .i64)))) d 0),(7,.int .i64 d.1),(8,.bool (decide (d.1=1)))] [] ?_
 refine zQ h (fun hb1 h=>?_) (fun hb1 h=>?_)
 ·refine zo ?_
  refine zS 3 [(10,.cv (.pointer none)),(12,.int .i64 d.2.1)] [] ?_
  obtain ⟨v0,hv2,h⟩:=Option.bind_eq_some_iff.1 h
  refine zC [] [] (hc_hazard_Yard_Take_2 d.2.1 hv2) [(13,.tup [.int .i64 0,.int .i64 60])] [] ?_
  refine zB [(4,.int .i64 0),(5,.int .i64 60)] [] ?_
  refine AW.ret ?_
  refine ablock_r ?_
  refine athen_r ?_
  obtain rfl:=Option.some.inj h
  exact zR [] [] []
 ·refine zo ?_
  refine zB [(0,.cv (.pointer none)),(3,.dp (.pair (.int .i64) (.pair (.int .i64) (.pair (.int .i64) (.int .i64)))) d 0),(7,.int .i64 d.1),(16,.bool (decide (d.1=2)))] [] ?_
  refine zQ h (fun hb3 h=>?_) (fun hb3 h=>?_)
  ·refine zo ?_
   refine zS 5 [(3,.dp (.pair (.int .i64) (.pair (.int .i64) (.pair (.int .i64) (.int .i64)))) d 0),(18,.cv (.pointer none)),(20,.int .i64 d.2.1),(22,.int .i64 d.2.2.1)] [] ?_
   refine zS 2 [(18,.cv (.pointer none)),(20,.int .i64 d.2.1),(22,.int .i64 d.2.2.1),(24,.int .i64 d.2.2.2)] [] ?_
   obtain ⟨v0_2,hv4,h⟩:=Option.bind_eq_some_iff.1 h
   refine zC [] [] (hc_hazard_Yard_Point_2 d.2.1 d.2.2.1 d.2.2.2 hv4) [(25,.int .i64 60)] [] ?_
   refine zB [(4,.int .i64 0),(5,.int .i64 60)] [] ?_
   refine AW.ret ?_
   refine ablock_r ?_
   refine athen_r ?_
   obtain rfl:=Option.some.inj h
   exact zR [] [] []
  ·refine zo ?_
   refine zB [(0,.cv (.pointer none)),(3,.dp (.pair (.int .i64) (.pair (.int .i64) (.pair (.int .i64) (.int .i64)))) d 0),(7,.int .i64 d.1),(26,.bool (decide (d.1=3)))] [] ?_
   refine zQ h (fun hb5 h=>?_) (fun hb5 h=>?_)
   ·refine zo ?_
    refine zS 5 [(28,.cv (.pointer none)),(30,.int .i64 d.2.1),(32,.int .i64 d.2.2.1)] [] ?_
    obtain ⟨v0_3,hv6,h⟩:=Option.bind_eq_some_iff.1 h
    refine zC [] [] (hc_hazard_Yard_Clear_2 d.2.1 d.2.2.1 hv6) [(33,.int .i64 60)] [] ?_
    refine zB [(4,.int .i64 0),(5,.int .i64 60)] [] ?_
    refine AW.ret ?_
    refine ablock_r ?_
    refine athen_r ?_
    obtain rfl:=Option.some.inj h
    exact zR [] [] []
   ·refine zo ?_
    refine zB [(0,.cv (.pointer none)),(3,.dp (.pair (.int .i64) (.pair (.int .i64) (.pair (.int .i64) (.int .i64)))) d 0),(7,.int .i64 d.1),(34,.bool (decide (d.1=4)))] [] ?_
    refine zQ h (fun hb7 h=>?_) (fun hb7 h=>?_)
    ·refine zo ?_
     refine zS 5 [(36,.cv (.pointer none)),(38,.int .i64 d.2.1),(40,.int .i64 d.2.2.1)] [] ?_
     obtain ⟨v0_4,hv8,h⟩:=Option.bind_eq_some_iff.1 h
     refine zC [] [] (hc_hazard_Yard_PutBy_2 d.2.1 d.2.2.1 hv8) [(41,.tup [.int .i64 0,.int .i64 60])] [] ?_
     refine zB [(4,.int .i64 0),(5,.int .i64 60)] [] ?_
     refine AW.ret ?_
     refine ablock_r ?_
     refine athen_r ?_
     obtain rfl:=Option.some.inj h
     exact zR [] [] []
    ·refine zo ?_
     refine zB [(0,.cv (.pointer none)),(3,.dp (.pair (.int .i64) (.pair (.int .i64) (.pair (.int .i64) (.int .i64)))) d 0),(7,.int .i64 d.1),(44,.bool (decide (d.1=5)))] [] ?_
     refine zQ h (fun hb9 h=>?_) (fun hb9 h=>?_)
     ·refine zo ?_
      refine zS 3 [(46,.cv (.pointer none)),(48,.int .i64 d.2.1)] [] ?_
      obtain ⟨v0_5,hv10,h⟩:=Option.bind_eq_some_iff.1 h
      refine zC [] [] (hc_hazard_Yard_Sweep_2 d.2.1 hv10) [(49,.tup [.int .i64 0,.int .i64 60])] [] ?_
      refine zB [(4,.int .i64 0),(5,.int .i64 60)] [] ?_
      refine AW.ret ?_
      refine ablock_r ?_
      refine athen_r ?_
      obtain rfl:=Option.some.inj h
      exact zR [] [] []
     ·refine zo ?_
      refine zB [(0,.cv (.pointer none)),(3,.dp (.pair (.int .i64) (.pair (.int .i64) (.pair (.int .i64) (.int .i64)))) d 0),(52,.bool (decide (d.1=6)))] [] ?_
      refine zQ h (fun hb11 h=>?_) (fun hb11 h=>?_)
      ·refine zo ?_
       refine zS 5 [(54,.cv (.pointer none)),(56,.int .i64 d.2.1),(58,.int .i64 d.2.2.1)] [] ?_
       obtain ⟨v0_6,hv12,h⟩:=Option.bind_eq_some_iff.1 h
       refine zC [] [] (hc_hazard_Yard_Use_2 d.2.1 d.2.2.1 hv12) [(59,.tup [.int .i64 0,.int .i64 60])] [] ?_
       refine zB [(4,.int .i64 0),(5,.int .i64 60)] [] ?_
       refine AW.ret ?_
       refine ablock_r ?_
       refine athen_r ?_
       obtain rfl:=Option.some.inj h
       exact zR [] [] []
      ·refine zm ?_
       refine athen_n ?_
       refine zo ?_
       refine zS 2 [(62,.cv (.pointer none)),(63,.agg [.int .i64 d.1,.int .i64 d.2.1,.int .i64 d.2.2.1,.int .i64 d.2.2.2])] [] ?_
       obtain ⟨v0_7,hv13,h⟩:=Option.bind_eq_some_iff.1 h
       refine zC [] [] (hc_hazard_Yard_Do_2 d hv13) [(64,.tup [.int .i64 0,.int .i64 60])] [] ?_
       refine zB [(4,.int .i64 0),(5,.int .i64 60)] [] ?_
       refine AW.ret ?_
       obtain rfl:=Option.some.inj h
       exact zR [] [] []
end Go.Proofs.YtcckpmeepcoafaaDoor
