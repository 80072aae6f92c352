import Derived.Test.YtcckpmeepcoafaaDoorHzp
import Derived.Test.YtcckpmeepcoafaaDoorShz
import Derived.Test.YtcckpmeepcoafaaDoorHjc1
import Derived.Test.YtcckpmeepcoafaaDoorHjc2
import Derived.Test.YtcckpmeepcoafaaDoorHjc8
namespace Go.Proofs.YtcckpmeepcoafaaDoor
open Go.RowKit
set_option linter.unusedSimpArgs false
set_option linter.unusedVariables false
set_option linter.constructorNameAsVariable false
set_option maxRecDepth 100000
set_option maxHeartbeats 40000000
theorem hc_hazard_Yard_List_2 (thread:Int) {r:Unit} (h:hazard_Yard_List_2 thread=some r):HC Tryd.prog 24 [] [.cv (.pointer none),.int .i64 thread] [] (.tup [.cv (.slice none 0 0),.int .i64 60]):=by
 unfold hazard_Yard_List_2 at h
 refine zH Tryd.func24 [.tmp 4,.tmp 5] 22 ?_
 refine zo ?_
 refine zB [(0,.cv (.pointer none)),(1,.int .i64 thread)] [] ?_
 refine AW.seq ?_
 refine zo ?_
 refine zS 2 [(0,.cv (.pointer none)),(1,.int .i64 thread),(7,.cv (.pointer none)),(8,.int .i64 thread)] [] ?_
 obtain ⟨v0,hv1,h⟩:=Option.bind_eq_some_iff.1 h
 refine zC [] [] (hc_hazard_isThread thread hv1) [(0,.cv (.pointer none)),(1,.int .i64 thread),(7,.cv (.pointer none)),(9,.agg [.fn (.func 72) [] [.dp (.int .i64) thread 0],.int .i64 2])] [] ?_
 refine AO.buildBox tab_ok rfl (by decide) (by decide) rfl rfl tab_92 rfl tab_81 (by decide) (by decide) rfl (by decide) (cs:=[.fn (.func 72) [] [.dp (.int .i64) thread 0],.int .i64 2]) rfl rfl rfl ?_
 refine zT [(0,.cv (.pointer none)),(1,.int .i64 thread),(7,.cv (.pointer none)),(10,.vw 10 2 0 1)] [(10,.box 81 [.fn (.func 72) [] [.dp (.int .i64) thread 0],.int .i64 2])] gt ?_
 obtain ⟨v0_2,hv2,h⟩:=Option.bind_eq_some_iff.1 h
 refine zC [] [(1000,10)] (hc_hazard_Yard_fails_8 thread 2 hv2) [(0,.cv (.pointer none)),(1,.int .i64 thread),(11,.int .i64 60)] [] ?_
 refine zB [(0,.cv (.pointer none)),(1,.int .i64 thread),(6,.int .i64 60)] [] ?_
 refine zo ?_
 have hx3:(!decide ((60:Int)=0))=true:=rfl
 refine zB [(0,.cv (.pointer none)),(1,.int .i64 thread),(6,.int .i64 60),(13,.bool true)] [] ?_
 refine AW.cond (b:=true) rfl (fun _=>?_) (fun hb4=>by cases hb4)
 refine zo ?_
 refine zB [(4,.cv (.slice none 0 0)),(5,.int .i64 60)] [] ?_
 refine zr ?_
 obtain rfl:=Option.some.inj h
 exact zR [] [] []
theorem hc_hazard_Yard_Slot_2 (thread:Int) (slot:Int) {r:Unit} (h:hazard_Yard_Slot_2 thread slot=some r):HC Tryd.prog 27 [] [.cv (.pointer none),.int .i64 thread,.int .i64 slot] [] (.tup [.int .i64 0,.int .i64 60]):=by
 unfold hazard_Yard_Slot_2 at h
 refine zH Tryd.func27 [.tmp 6,.tmp 7] 27 ?_
 refine zo ?_
 refine zB [(0,.cv (.pointer none)),(1,.int .i64 thread),(2,.int .i64 slot)] [] ?_
 refine AW.seq ?_
 refine zo ?_
 refine zS 2 [(0,.cv (.pointer none)),(1,.int .i64 thread),(2,.int .i64 slot),(9,.cv (.pointer none)),(10,.int .i64 thread)] [] ?_
 obtain ⟨v0,hv1,h⟩:=Option.bind_eq_some_iff.1 h
 refine zC [] [] (hc_hazard_isThread thread hv1) [(0,.cv (.pointer none)),(1,.int .i64 thread),(2,.int .i64 slot),(9,.cv (.pointer none)),(11,.agg [.fn (.func 72) [] [.dp (.int .i64) thread 0],.int .i64 2])] [] ?_
 refine zS 1 [(0,.cv (.pointer none)),(1,.int .i64 thread),(2,.int .i64 slot),(9,.cv (.pointer none)),(11,.agg [.fn (.func 72) [] [.dp (.int .i64) thread 0],.int .i64 2]),(12,.int .i64 slot)] [] ?_
 obtain ⟨v0_2,hv2,h⟩:=Option.bind_eq_some_iff.1 h
 refine zC [] [] (hc_hazard_isSlot slot hv2) [(0,.cv (.pointer none)),(1,.int .i64 thread),(2,.int .i64 slot),(9,.cv (.pointer none)),(11,.agg [.fn (.func 72) [] [.dp (.int .i64) thread 0],.int .i64 2]),(13,.agg [.fn (.func 74) [] [.dp (.int .i64) slot 0],.int .i64 2])] [] ?_
 refine AO.buildBox tab_ok rfl (by decide) (by decide) rfl rfl tab_92 rfl tab_81 (by decide) (by decide) rfl (by decide) (cs:=[.fn (.func 72) [] [.dp (.int .i64) thread 0],.int .i64 2,.fn (.func 74) [] [.dp (.int .i64) slot 0],.int .i64 2]) rfl rfl rfl ?_
 refine zT [(0,.cv (.pointer none)),(1,.int .i64 thread),(2,.int .i64 slot),(9,.cv (.pointer none)),(14,.vw 14 2 0 2)] [(14,.box 81 [.fn (.func 72) [] [.dp (.int .i64) thread 0],.int .i64 2,.fn (.func 74) [] [.dp (.int .i64) slot 0],.int .i64 2])] gt ?_
 obtain ⟨v0_3,hv3,h⟩:=Option.bind_eq_some_iff.1 h
 refine zC [] [(1000,14)] (hc_hazard_Yard_fails_10 thread 2 slot 2 hv3) [(0,.cv (.pointer none)),(1,.int .i64 thread),(2,.int .i64 slot),(15,.int .i64 60)] [] ?_
 refine zB [(0,.cv (.pointer none)),(1,.int .i64 thread),(2,.int .i64 slot),(8,.int .i64 60)] [] ?_
 refine zo ?_
 have hx4:(!decide ((60:Int)=0))=true:=rfl
 refine zB [(0,.cv (.pointer none)),(1,.int .i64 thread),(2,.int .i64 slot),(8,.int .i64 60),(17,.bool true)] [] ?_
 refine AW.cond (b:=true) rfl (fun _=>?_) (fun hb5=>by cases hb5)
 refine zo ?_
 refine zB [(6,.int .i64 0),(7,.int .i64 60)] [] ?_
 refine zr ?_
 obtain rfl:=Option.some.inj h
 exact zR [] [] []
theorem hc_hazard_Yard_count_2 (where0:Int) {r:Unit} (h:hazard_Yard_count_2 where0=some r):HC Tryd.prog 68 [] [.cv (.pointer none),.int .i64 where0] [] (.int .i64 0):=by
 unfold hazard_Yard_count_2 at h
 refine zH Tryd.func68 [.tmp 4] 24 ?_
 refine zo ?_
 refine zB [(0,.cv (.pointer none)),(1,.int .i64 where0)] [] ?_
 refine AW.seq ?_
 refine zo ?_
 refine zS 1 [(0,.cv (.pointer none)),(1,.int .i64 where0),(8,.cv (.pointer none))] [] ?_
 obtain ⟨v0,hv1,h⟩:=Option.bind_eq_some_iff.1 h
 refine zC [] [] (hc_hazard_Yard_isNone_2 hv1) [(0,.cv (.pointer none)),(1,.int .i64 where0),(9,.bool true)] [] ?_
 refine zB [(0,.cv (.pointer none)),(1,.int .i64 where0),(9,.bool true)] [] ?_
 refine AW.cond (b:=true) rfl (fun _=>?_) (fun hb2=>by cases hb2)
 refine zo ?_
 refine zB [(4,.int .i64 0)] [] ?_
 refine zr ?_
 obtain rfl:=Option.some.inj h
 exact zR [] [] []
theorem hc_hazard_Yard_By_2 {r:Unit} (h:hazard_Yard_By_2=some r):HC Tryd.prog 46 [] [.cv (.pointer none)] [] (.int .i64 0):=by
 unfold hazard_Yard_By_2 at h
 refine zH Tryd.func46 [.tmp 2] 5 ?_
 refine zo ?_
 refine zB [(0,.cv (.pointer none))] [] ?_
 refine zo ?_
 refine zS 1 [(3,.cv (.pointer none))] [] ?_
 obtain ⟨v0,hv1,h⟩:=Option.bind_eq_some_iff.1 h
 refine zC [] [] (hc_hazard_Yard_count_2 2 hv1) [(4,.int .i64 0)] [] ?_
 refine zB [(2,.int .i64 0)] [] ?_
 refine AW.ret ?_
 obtain rfl:=Option.some.inj h
 exact zR [] [] []
theorem hc_hazard_Yard_Free_2 {r:Unit} (h:hazard_Yard_Free_2=some r):HC Tryd.prog 47 [] [.cv (.pointer none)] [] (.int .i64 0):=by
 unfold hazard_Yard_Free_2 at h
 refine zH Tryd.func47 [.tmp 2] 5 ?_
 refine zo ?_
 refine zB [(0,.cv (.pointer none))] [] ?_
 refine zo ?_
 refine zS 1 [(3,.cv (.pointer none))] [] ?_
 obtain ⟨v0,hv1,h⟩:=Option.bind_eq_some_iff.1 h
 refine zC [] [] (hc_hazard_Yard_count_2 0 hv1) [(4,.int .i64 0)] [] ?_
 refine zB [(2,.int .i64 0)] [] ?_
 refine AW.ret ?_
 obtain rfl:=Option.some.inj h
 exact zR [] [] []
theorem hc_hazard_Yard_Held_2 {r:Unit} (h:hazard_Yard_Held_2=some r):HC Tryd.prog 44 [] [.cv (.pointer none)] [] (.cv (.slice none 0 0)):=by
 unfold hazard_Yard_Held_2 at h
 refine zH Tryd.func44 [.tmp 2] 19 ?_
 refine zo ?_
 refine zB [(0,.cv (.pointer none))] [] ?_
 refine AW.seq ?_
 refine zo ?_
 refine zS 1 [(0,.cv (.pointer none)),(5,.cv (.pointer none))] [] ?_
 obtain ⟨v0,hv1,h⟩:=Option.bind_eq_some_iff.1 h
 refine zC [] [] (hc_hazard_Yard_isNone_2 hv1) [(0,.cv (.pointer none)),(6,.bool true)] [] ?_
 refine zB [(0,.cv (.pointer none)),(6,.bool true)] [] ?_
 refine AW.cond (b:=true) rfl (fun _=>?_) (fun hb2=>by cases hb2)
 refine zo ?_
 refine zB [(2,.cv (.slice none 0 0))] [] ?_
 refine zr ?_
 obtain rfl:=Option.some.inj h
 exact zR [] [] []
end Go.Proofs.YtcckpmeepcoafaaDoor
