import Derived.Test.YtcckpmeepcoafaaDoorHzp
import Derived.Test.YtcckpmeepcoafaaDoorShz
import Derived.Test.YtcckpmeepcoafaaDoorAvd
import Derived.Test.YtcckpmeepcoafaaDoorHhc1
import Derived.Test.YtcckpmeepcoafaaDoorHhc2
import Derived.Test.YtcckpmeepcoafaaDoorHhc3
import Derived.Test.YtcckpmeepcoafaaDoorHhc5
import Derived.Test.YtcckpmeepcoafaaDoorHhc6
namespace Go.Proofs.YtcckpmeepcoafaaDoor
open Go.RowKit
set_option linter.unusedSimpArgs false
set_option linter.unusedVariables false
set_option linter.constructorNameAsVariable false
set_option maxRecDepth 100000
set_option maxHeartbeats 40000000
theorem hc_lineallaw06_called_2 (d:Int×Int×Int×Int) (y:Int×Int×(El T63)×(El T65)×(El T69)) {r:Int×Int×(El T63)×(El T65)×(El T69)} (h:lineallaw06_called_2 d y=some r):HC Tryd.prog 20 [(1000,.box 71 (.int .i64 y.1::(.int .i64 y.2.1::(cellsX T63 y.2.2.1++(cellsX T65 y.2.2.2.1++(cellsX T69 y.2.2.2.2))))))] [.bp 1000 0,.agg [.int .i64 d.1,.int .i64 d.2.1,.int .i64 d.2.2.1,.int .i64 d.2.2.2]] [(1000,.box 71 (.int .i64 y.1::(.int .i64 y.2.1::(cellsX T63 r.2.2.1++(cellsX T65 r.2.2.2.1++(cellsX T69 r.2.2.2.2))))))] (.tup [.int .i64 r.1,.int .i64 r.2.1]):=by
 unfold lineallaw06_called_2 at h
 refine zH Tryd.func20 [.tmp 4,.tmp 5] 67 ?_
 refine zo ?_
 refine zS 1 [(0,.bp 1000 0),(3,.bp 3 0)] [(3,.box 33 [.int .i64 d.1,.int .i64 d.2.1,.int .i64 d.2.2.1,.int .i64 d.2.2.2]),(1000,.box 71 (.int .i64 y.1::(.int .i64 y.2.1::(cellsX T63 y.2.2.1++(cellsX T65 y.2.2.2.1++(cellsX T69 y.2.2.2.2))))))] ?_
 refine AO.weaken (s':=⟨fr [(0,.bp 1000 0),(3,.dp (.pair (.int .i64) (.pair (.int .i64) (.pair (.int .i64) (.int .i64)))) d 0)],hpGet [(1000,.box 71 (.int .i64 y.1::(.int .i64 y.2.1::(cellsX T63 y.2.2.1++(cellsX T65 y.2.2.2.1++(cellsX T69 y.2.2.2.2))))))],gt⟩) (Wk.boxes [3] rfl rfl (by (simp only [go_sem])<;>(with_reducible and_intros)<;>first|assumption|rfl|omega|(unfold maxLen; omega)) (by (simp only [go_sem])<;>(with_reducible and_intros)<;>first|assumption|rfl|omega|(unfold maxLen; omega))) ?_
 refine zB [(0,.bp 1000 0),(3,.dp (.pair (.int .i64) (.pair (.int .i64) (.pair (.int .i64) (.int .i64)))) d 0)] [(1000,.box 71 (.int .i64 y.1::(.int .i64 y.2.1::(cellsX T63 y.2.2.1++(cellsX T65 y.2.2.2.1++(cellsX T69 y.2.2.2.2))))))] ?_
 refine AW.seq ?_
 refine zo ?_
 refine zB [(0,.bp 1000 0),(3,.dp (.pair (.int .i64) (.pair (.int .i64) (.pair (.int .i64) (.int .i64)))) d 0),(7,.int .i64 d.1)] [(1000,.box 71 (.int .i64 y.1::(.int .i64 y.2.1::(cellsX T63 y.2.2.1++(cellsX T65 y.2.2.2.1++(cellsX T69 y.2.2.2.2))))))] ?_
 refine AW.block ?_
 refine zo ?_
 refine zB [(0,.bp 1000 0),(3,.dp (.pair (.int .i64) (.pair (.int .i64) (.pair (.int .i64) (.int .i64)))) d 0),(7,.int .i64 d.1),(8,.bool (decide (d.1=1)))] [(1000,.box 71 (.int .i64 y.1::(.int .i64 y.2.1::(cellsX T63 y.2.2.1++(cellsX T65 y.2.2.2.1++(cellsX T69 y.2.2.2.2))))))] ?_
 refine zQ h (fun hb1 h=>?_) (fun hb1 h=>?_)
 ·refine zo ?_
  refine zS 3 [(10,.bp 1000 0),(12,.int .i64 d.2.1)] [(1000,.box 71 (.int .i64 y.1::(.int .i64 y.2.1::(cellsX T63 y.2.2.1++(cellsX T65 y.2.2.2.1++(cellsX T69 y.2.2.2.2))))))] ?_
  obtain ⟨v0,hv2,h⟩:=Option.bind_eq_some_iff.1 h
  refine zC [] [(1000,1000)] (hc_hazard_Yard_Take d.2.1 y hv2) [(13,.tup [.int .i64 v0.1,.int .i64 v0.2.1])] [(1000,.box 71 (.int .i64 y.1::(.int .i64 y.2.1::(cellsX T63 v0.2.2++(cellsX T65 y.2.2.2.1++(cellsX T69 y.2.2.2.2))))))] ?_
  refine zB [(4,.int .i64 v0.1),(5,.int .i64 v0.2.1)] [(1000,.box 71 (.int .i64 y.1::(.int .i64 y.2.1::(cellsX T63 v0.2.2++(cellsX T65 y.2.2.2.1++(cellsX T69 y.2.2.2.2))))))] ?_
  refine AW.ret ?_
  refine ablock_r ?_
  refine athen_r ?_
  obtain rfl:=Option.some.inj h
  exact zR [] [] []
 ·refine zo ?_
  refine zB [(0,.bp 1000 0),(3,.dp (.pair (.int .i64) (.pair (.int .i64) (.pair (.int .i64) (.int .i64)))) d 0),(7,.int .i64 d.1),(16,.bool (decide (d.1=2)))] [(1000,.box 71 (.int .i64 y.1::(.int .i64 y.2.1::(cellsX T63 y.2.2.1++(cellsX T65 y.2.2.2.1++(cellsX T69 y.2.2.2.2))))))] ?_
  refine zQ h (fun hb3 h=>?_) (fun hb3 h=>?_)
  ·refine zo ?_
   refine zS 5 [(3,.dp (.pair (.int .i64) (.pair (.int .i64) (.pair (.int .i64) (.int .i64)))) d 0),(18,.bp 1000 0),(20,.int .i64 d.2.1),(22,.int .i64 d.2.2.1)] [(1000,.box 71 (.int .i64 y.1::(.int .i64 y.2.1::(cellsX T63 y.2.2.1++(cellsX T65 y.2.2.2.1++(cellsX T69 y.2.2.2.2))))))] ?_
   refine zS 2 [(18,.bp 1000 0),(20,.int .i64 d.2.1),(22,.int .i64 d.2.2.1),(24,.int .i64 d.2.2.2)] [(1000,.box 71 (.int .i64 y.1::(.int .i64 y.2.1::(cellsX T63 y.2.2.1++(cellsX T65 y.2.2.2.1++(cellsX T69 y.2.2.2.2))))))] ?_
   obtain ⟨v0_2,hv4,h⟩:=Option.bind_eq_some_iff.1 h
   refine zC [] [(1000,1000)] (hc_hazard_Yard_Point d.2.1 d.2.2.1 d.2.2.2 y hv4) [(25,.int .i64 v0_2.1)] [(1000,.box 71 (.int .i64 y.1::(.int .i64 y.2.1::(cellsX T63 y.2.2.1++(cellsX T65 v0_2.2++(cellsX T69 y.2.2.2.2))))))] ?_
   refine zB [(4,.int .i64 0),(5,.int .i64 v0_2.1)] [(1000,.box 71 (.int .i64 y.1::(.int .i64 y.2.1::(cellsX T63 y.2.2.1++(cellsX T65 v0_2.2++(cellsX T69 y.2.2.2.2))))))] ?_
   refine AW.ret ?_
   refine ablock_r ?_
   refine athen_r ?_
   obtain rfl:=Option.some.inj h
   exact zR [] [] []
  ·refine zo ?_
   refine zB [(0,.bp 1000 0),(3,.dp (.pair (.int .i64) (.pair (.int .i64) (.pair (.int .i64) (.int .i64)))) d 0),(7,.int .i64 d.1),(26,.bool (decide (d.1=3)))] [(1000,.box 71 (.int .i64 y.1::(.int .i64 y.2.1::(cellsX T63 y.2.2.1++(cellsX T65 y.2.2.2.1++(cellsX T69 y.2.2.2.2))))))] ?_
   refine zQ h (fun hb5 h=>?_) (fun hb5 h=>?_)
   ·refine zo ?_
    refine zS 5 [(28,.bp 1000 0),(30,.int .i64 d.2.1),(32,.int .i64 d.2.2.1)] [(1000,.box 71 (.int .i64 y.1::(.int .i64 y.2.1::(cellsX T63 y.2.2.1++(cellsX T65 y.2.2.2.1++(cellsX T69 y.2.2.2.2))))))] ?_
    obtain ⟨v0_3,hv6,h⟩:=Option.bind_eq_some_iff.1 h
    refine zC [] [(1000,1000)] (hc_hazard_Yard_Clear d.2.1 d.2.2.1 y hv6) [(33,.int .i64 v0_3.1)] [(1000,.box 71 (.int .i64 y.1::(.int .i64 y.2.1::(cellsX T63 y.2.2.1++(cellsX T65 v0_3.2++(cellsX T69 y.2.2.2.2))))))] ?_
    refine zB [(4,.int .i64 0),(5,.int .i64 v0_3.1)] [(1000,.box 71 (.int .i64 y.1::(.int .i64 y.2.1::(cellsX T63 y.2.2.1++(cellsX T65 v0_3.2++(cellsX T69 y.2.2.2.2))))))] ?_
    refine AW.ret ?_
    refine ablock_r ?_
    refine athen_r ?_
    obtain rfl:=Option.some.inj h
    exact zR [] [] []
   ·refine zo ?_
    refine zB [(0,.bp 1000 0),(3,.dp (.pair (.int .i64) (.pair (.int .i64) (.pair (.int .i64) (.int .i64)))) d 0),(7,.int .i64 d.1),(34,.bool (decide (d.1=4)))] [(1000,.box 71 (.int .i64 y.1::(.int .i64 y.2.1::(cellsX T63 y.2.2.1++(cellsX T65 y.2.2.2.1++(cellsX T69 y.2.2.2.2))))))] ?_
    refine zQ h (fun hb7 h=>?_) (fun hb7 h=>?_)
    ·refine zo ?_
     refine zS 5 [(36,.bp 1000 0),(38,.int .i64 d.2.1),(40,.int .i64 d.2.2.1)] [(1000,.box 71 (.int .i64 y.1::(.int .i64 y.2.1::(cellsX T63 y.2.2.1++(cellsX T65 y.2.2.2.1++(cellsX T69 y.2.2.2.2))))))] ?_
     obtain ⟨v0_4,hv8,h⟩:=Option.bind_eq_some_iff.1 h
     refine zC [] [(1000,1000)] (hc_hazard_Yard_PutBy d.2.1 d.2.2.1 y hv8) [(41,.tup [.int .i64 v0_4.1,.int .i64 v0_4.2.1])] [(1000,.box 71 (.int .i64 y.1::(.int .i64 y.2.1::(cellsX T63 v0_4.2.2.1++(cellsX T65 y.2.2.2.1++(cellsX T69 v0_4.2.2.2))))))] ?_
     refine zB [(4,.int .i64 v0_4.1),(5,.int .i64 v0_4.2.1)] [(1000,.box 71 (.int .i64 y.1::(.int .i64 y.2.1::(cellsX T63 v0_4.2.2.1++(cellsX T65 y.2.2.2.1++(cellsX T69 v0_4.2.2.2))))))] ?_
     refine AW.ret ?_
     refine ablock_r ?_
     refine athen_r ?_
     obtain rfl:=Option.some.inj h
     exact zR [] [] []
    ·refine zo ?_
     refine zB [(0,.bp 1000 0),(3,.dp (.pair (.int .i64) (.pair (.int .i64) (.pair (.int .i64) (.int .i64)))) d 0),(7,.int .i64 d.1),(44,.bool (decide (d.1=5)))] [(1000,.box 71 (.int .i64 y.1::(.int .i64 y.2.1::(cellsX T63 y.2.2.1++(cellsX T65 y.2.2.2.1++(cellsX T69 y.2.2.2.2))))))] ?_
     refine zQ h (fun hb9 h=>?_) (fun hb9 h=>?_)
     ·refine zo ?_
      refine zS 3 [(46,.bp 1000 0),(48,.int .i64 d.2.1)] [(1000,.box 71 (.int .i64 y.1::(.int .i64 y.2.1::(cellsX T63 y.2.2.1++(cellsX T65 y.2.2.2.1++(cellsX T69 y.2.2.2.2))))))] ?_
      obtain ⟨v0_5,hv10,h⟩:=Option.bind_eq_some_iff.1 h
      refine zC [] [(1000,1000)] (hc_hazard_Yard_Sweep d.2.1 y hv10) [(49,.tup [.int .i64 v0_5.1,.int .i64 v0_5.2.1])] [(1000,.box 71 (.int .i64 y.1::(.int .i64 y.2.1::(cellsX T63 v0_5.2.2.1++(cellsX T65 y.2.2.2.1++(cellsX T69 v0_5.2.2.2))))))] ?_
      refine zB [(4,.int .i64 v0_5.1),(5,.int .i64 v0_5.2.1)] [(1000,.box 71 (.int .i64 y.1::(.int .i64 y.2.1::(cellsX T63 v0_5.2.2.1++(cellsX T65 y.2.2.2.1++(cellsX T69 v0_5.2.2.2))))))] ?_
      refine AW.ret ?_
      refine ablock_r ?_
      refine athen_r ?_
      obtain rfl:=Option.some.inj h
      exact zR [] [] []
     ·refine zo ?_
      refine zB [(0,.bp 1000 0),(3,.dp (.pair (.int .i64) (.pair (.int .i64) (.pair (.int .i64) (.int .i64)))) d 0),(52,.bool (decide (d.1=6)))] [(1000,.box 71 (.int .i64 y.1::(.int .i64 y.2.1::(cellsX T63 y.2.2.1++(cellsX T65 y.2.2.2.1++(cellsX T69 y.2.2.2.2))))))] ?_
      refine zQ h (fun hb11 h=>?_) (fun hb11 h=>?_)
      ·refine zo ?_
       refine zS 5 [(54,.bp 1000 0),(56,.int .i64 d.2.1),(58,.int .i64 d.2.2.1)] [(1000,.box 71 (.int .i64 y.1::(.int .i64 y.2.1::(cellsX T63 y.2.2.1++(cellsX T65 y.2.2.2.1++(cellsX T69 y.2.2.2.2))))))] ?_
       obtain ⟨v0_6,hv12,h⟩:=Option.bind_eq_some_iff.1 h
       refine zC [] [(1000,1000)] (hc_hazard_Yard_Use d.2.1 d.2.2.1 y hv12) [(59,.tup [.int .i64 v0_6.1,.int .i64 v0_6.2])] [(1000,.box 71 (.int .i64 y.1::(.int .i64 y.2.1::(cellsX T63 y.2.2.1++(cellsX T65 y.2.2.2.1++(cellsX T69 y.2.2.2.2))))))] ?_
       refine zB [(4,.int .i64 v0_6.1),(5,.int .i64 v0_6.2)] [(1000,.box 71 (.int .i64 y.1::(.int .i64 y.2.1::(cellsX T63 y.2.2.1++(cellsX T65 y.2.2.2.1++(cellsX T69 y.2.2.2.2))))))] ?_
       refine AW.ret ?_
       refine ablock_r ?_
       refine athen_r ?_
       obtain rfl:=Option.some.inj h
       exact zR [] [] []
      ·refine zm ?_
       refine athen_n ?_
       refine zo ?_
       refine zS 2 [(62,.bp 1000 0),(63,.agg [.int .i64 d.1,.int .i64 d.2.1,.int .i64 d.2.2.1,.int .i64 d.2.2.2])] [(1000,.box 71 (.int .i64 y.1::(.int .i64 y.2.1::(cellsX T63 y.2.2.1++(cellsX T65 y.2.2.2.1++(cellsX T69 y.2.2.2.2))))))] ?_
       obtain ⟨v0_7,hv13,h⟩:=Option.bind_eq_some_iff.1 h
       refine zC [] [(1000,1000)] (hc_hazard_Yard_Do d y hv13) [(64,.tup [.int .i64 v0_7.1,.int .i64 v0_7.2.1])] [(1000,.box 71 (.int .i64 y.1::(.int .i64 y.2.1::(cellsX T63 v0_7.2.2.1++(cellsX T65 v0_7.2.2.2.1++(cellsX T69 v0_7.2.2.2.2))))))] ?_
       refine zB [(4,.int .i64 v0_7.1),(5,.int .i64 v0_7.2.1)] [(1000,.box 71 (.int .i64 y.1::(.int .i64 y.2.1::(cellsX T63 v0_7.2.2.1++(cellsX T65 v0_7.2.2.2.1++(cellsX T69 v0_7.2.2.2.2))))))] ?_
       refine AW.ret ?_
       obtain rfl:=Option.some.inj h
       exact zR [] [] []
theorem hc_hazard_Same (y:Int×Int×(El T63)×(El T65)×(El T69)) (z:Int×Int×(El T63)×(El T65)×(El T69)) {r:Bool} (h:hazard_Same y z=some r):HC Tryd.prog 21 [(1000,.box 71 (.int .i64 y.1::(.int .i64 y.2.1::(cellsX T63 y.2.2.1++(cellsX T65 y.2.2.2.1++(cellsX T69 y.2.2.2.2)))))),(1001,.box 71 (.int .i64 z.1::(.int .i64 z.2.1::(cellsX T63 z.2.2.1++(cellsX T65 z.2.2.2.1++(cellsX T69 z.2.2.2.2))))))] [.bp 1000 0,.bp 1001 0] [(1000,.box 71 (.int .i64 y.1::(.int .i64 y.2.1::(cellsX T63 y.2.2.1++(cellsX T65 y.2.2.2.1++(cellsX T69 y.2.2.2.2)))))),(1001,.box 71 (.int .i64 z.1::(.int .i64 z.2.1::(cellsX T63 z.2.2.1++(cellsX T65 z.2.2.2.1++(cellsX T69 z.2.2.2.2))))))] (.bool r):=by
 unfold hazard_Same at h
 refine zH Tryd.func21 [.tmp 4] 70 ?_
 refine zo ?_
 refine zB [(0,.bp 1000 0),(1,.bp 1001 0)] [(1000,.box 71 (.int .i64 y.1::(.int .i64 y.2.1::(cellsX T63 y.2.2.1++(cellsX T65 y.2.2.2.1++(cellsX T69 y.2.2.2.2)))))),(1001,.box 71 (.int .i64 z.1::(.int .i64 z.2.1::(cellsX T63 z.2.2.1++(cellsX T65 z.2.2.2.1++(cellsX T69 z.2.2.2.2))))))] ?_
 refine AW.seq ?_
 refine zo ?_
 refine zS 1 [(0,.bp 1000 0),(1,.bp 1001 0),(5,.bp 1000 0)] [(1000,.box 71 (.int .i64 y.1::(.int .i64 y.2.1::(cellsX T63 y.2.2.1++(cellsX T65 y.2.2.2.1++(cellsX T69 y.2.2.2.2)))))),(1001,.box 71 (.int .i64 z.1::(.int .i64 z.2.1::(cellsX T63 z.2.2.1++(cellsX T65 z.2.2.2.1++(cellsX T69 z.2.2.2.2))))))] ?_
 obtain ⟨v0,hv1,h⟩:=Option.bind_eq_some_iff.1 h
 refine zC [] [(1000,1000)] (hc_hazard_Yard_isNone y hv1) [(0,.bp 1000 0),(1,.bp 1001 0),(6,.bool (decide (y.1=0)))] [(1000,.box 71 (.int .i64 y.1::(.int .i64 y.2.1::(cellsX T63 y.2.2.1++(cellsX T65 y.2.2.2.1++(cellsX T69 y.2.2.2.2)))))),(1001,.box 71 (.int .i64 z.1::(.int .i64 z.2.1::(cellsX T63 z.2.2.1++(cellsX T65 z.2.2.2.1++(cellsX T69 z.2.2.2.2))))))] ?_
 refine zS 1 [(0,.bp 1000 0),(1,.bp 1001 0),(7,.bool (decide (y.1=0)))] [(1000,.box 71 (.int .i64 y.1::(.int .i64 y.2.1::(cellsX T63 y.2.2.1++(cellsX T65 y.2.2.2.1++(cellsX T69 y.2.2.2.2)))))),(1001,.box 71 (.int .i64 z.1::(.int .i64 z.2.1::(cellsX T63 z.2.2.1++(cellsX T65 z.2.2.2.1++(cellsX T69 z.2.2.2.2))))))] ?_
 rcases zI h with ⟨hb2,h⟩|⟨hb2,h⟩
 ·refine zB [(0,.bp 1000 0),(1,.bp 1001 0),(10,.bool true)] [(1000,.box 71 (.int .i64 y.1::(.int .i64 y.2.1::(cellsX T63 y.2.2.1++(cellsX T65 y.2.2.2.1++(cellsX T69 y.2.2.2.2)))))),(1001,.box 71 (.int .i64 z.1::(.int .i64 z.2.1::(cellsX T63 z.2.2.1++(cellsX T65 z.2.2.2.1++(cellsX T69 z.2.2.2.2))))))] ?_
  refine AW.cond (b:=true) rfl (fun _=>?_) (fun hb3=>by cases hb3)
  refine zo ?_
  refine zS 1 [(1,.bp 1001 0),(11,.bp 1000 0)] [(1000,.box 71 (.int .i64 y.1::(.int .i64 y.2.1::(cellsX T63 y.2.2.1++(cellsX T65 y.2.2.2.1++(cellsX T69 y.2.2.2.2)))))),(1001,.box 71 (.int .i64 z.1::(.int .i64 z.2.1::(cellsX T63 z.2.2.1++(cellsX T65 z.2.2.2.1++(cellsX T69 z.2.2.2.2))))))] ?_
  obtain ⟨v0_2,hv4,h⟩:=Option.bind_eq_some_iff.1 h
  refine zC [] [(1000,1000)] (hc_hazard_Yard_isNone y hv4) [(1,.bp 1001 0),(12,.bool (decide (y.1=0)))] [(1000,.box 71 (.int .i64 y.1::(.int .i64 y.2.1::(cellsX T63 y.2.2.1++(cellsX T65 y.2.2.2.1++(cellsX T69 y.2.2.2.2)))))),(1001,.box 71 (.int .i64 z.1::(.int .i64 z.2.1::(cellsX T63 z.2.2.1++(cellsX T65 z.2.2.2.1++(cellsX T69 z.2.2.2.2))))))] ?_
  refine zS 1 [(1,.bp 1001 0),(13,.bool (decide (y.1=0)))] [(1000,.box 71 (.int .i64 y.1::(.int .i64 y.2.1::(cellsX T63 y.2.2.1++(cellsX T65 y.2.2.2.1++(cellsX T69 y.2.2.2.2)))))),(1001,.box 71 (.int .i64 z.1::(.int .i64 z.2.1::(cellsX T63 z.2.2.1++(cellsX T65 z.2.2.2.1++(cellsX T69 z.2.2.2.2))))))] ?_
  rcases zI h with ⟨hb5,h⟩|⟨hb5,h⟩
  ·refine zS 1 [(13,.bool true),(14,.bp 1001 0)] [(1000,.box 71 (.int .i64 y.1::(.int .i64 y.2.1::(cellsX T63 y.2.2.1++(cellsX T65 y.2.2.2.1++(cellsX T69 y.2.2.2.2)))))),(1001,.box 71 (.int .i64 z.1::(.int .i64 z.2.1::(cellsX T63 z.2.2.1++(cellsX T65 z.2.2.2.1++(cellsX T69 z.2.2.2.2))))))] ?_
   obtain ⟨v0_3,hv6,h⟩:=Option.bind_eq_some_iff.1 h
   refine zG [] [(1000,1001)] (hc_hazard_Yard_isNone z hv6) [(13,.bool true),(15,.bool (decide (z.1=0)))] [(1000,.box 71 (.int .i64 y.1::(.int .i64 y.2.1::(cellsX T63 y.2.2.1++(cellsX T65 y.2.2.2.1++(cellsX T69 y.2.2.2.2)))))),(1001,.box 71 (.int .i64 z.1::(.int .i64 z.2.1::(cellsX T63 z.2.2.1++(cellsX T65 z.2.2.2.1++(cellsX T69 z.2.2.2.2))))))] ?_
   refine zB [(4,.bool (decide (z.1=0)))] [(1000,.box 71 (.int .i64 y.1::(.int .i64 y.2.1::(cellsX T63 y.2.2.1++(cellsX T65 y.2.2.2.1++(cellsX T69 y.2.2.2.2)))))),(1001,.box 71 (.int .i64 z.1::(.int .i64 z.2.1::(cellsX T63 z.2.2.1++(cellsX T65 z.2.2.2.1++(cellsX T69 z.2.2.2.2))))))] ?_
   refine zr ?_
   obtain rfl:=Option.some.inj h
   exact zR [] [] []
  ·exact absurd (hb2.symm.trans hb5) (by decide)
 ·refine zS 1 [(0,.bp 1000 0),(1,.bp 1001 0),(7,.bool false),(8,.bp 1001 0)] [(1000,.box 71 (.int .i64 y.1::(.int .i64 y.2.1::(cellsX T63 y.2.2.1++(cellsX T65 y.2.2.2.1++(cellsX T69 y.2.2.2.2)))))),(1001,.box 71 (.int .i64 z.1::(.int .i64 z.2.1::(cellsX T63 z.2.2.1++(cellsX T65 z.2.2.2.1++(cellsX T69 z.2.2.2.2))))))] ?_
  obtain ⟨v0_4,hv7,h⟩:=Option.bind_eq_some_iff.1 h
  refine zG [] [(1000,1001)] (hc_hazard_Yard_isNone z hv7) [(0,.bp 1000 0),(1,.bp 1001 0),(7,.bool false),(9,.bool (decide (z.1=0)))] [(1000,.box 71 (.int .i64 y.1::(.int .i64 y.2.1::(cellsX T63 y.2.2.1++(cellsX T65 y.2.2.2.1++(cellsX T69 y.2.2.2.2)))))),(1001,.box 71 (.int .i64 z.1::(.int .i64 z.2.1::(cellsX T63 z.2.2.1++(cellsX T65 z.2.2.2.1++(cellsX T69 z.2.2.2.2))))))] ?_
  refine zB [(0,.bp 1000 0),(1,.bp 1001 0),(10,.bool (decide (z.1=0)))] [(1000,.box 71 (.int .i64 y.1::(.int .i64 y.2.1::(cellsX T63 y.2.2.1++(cellsX T65 y.2.2.2.1++(cellsX T69 y.2.2.2.2)))))),(1001,.box 71 (.int .i64 z.1::(.int .i64 z.2.1::(cellsX T63 z.2.2.1++(cellsX T65 z.2.2.2.1++(cellsX T69 z.2.2.2.2))))))] ?_
  refine zQ h (fun hb8 h=>?_) (fun hb8 h=>?_)
  ·refine zo ?_
   refine zS 1 [(1,.bp 1001 0),(11,.bp 1000 0)] [(1000,.box 71 (.int .i64 y.1::(.int .i64 y.2.1::(cellsX T63 y.2.2.1++(cellsX T65 y.2.2.2.1++(cellsX T69 y.2.2.2.2)))))),(1001,.box 71 (.int .i64 z.1::(.int .i64 z.2.1::(cellsX T63 z.2.2.1++(cellsX T65 z.2.2.2.1++(cellsX T69 z.2.2.2.2))))))] ?_
   obtain ⟨v0_5,hv9,h⟩:=Option.bind_eq_some_iff.1 h
   refine zC [] [(1000,1000)] (hc_hazard_Yard_isNone y hv9) [(1,.bp 1001 0),(12,.bool (decide (y.1=0)))] [(1000,.box 71 (.int .i64 y.1::(.int .i64 y.2.1::(cellsX T63 y.2.2.1++(cellsX T65 y.2.2.2.1++(cellsX T69 y.2.2.2.2)))))),(1001,.box 71 (.int .i64 z.1::(.int .i64 z.2.1::(cellsX T63 z.2.2.1++(cellsX T65 z.2.2.2.1++(cellsX T69 z.2.2.2.2))))))] ?_
   refine zS 1 [(1,.bp 1001 0),(13,.bool (decide (y.1=0)))] [(1000,.box 71 (.int .i64 y.1::(.int .i64 y.2.1::(cellsX T63 y.2.2.1++(cellsX T65 y.2.2.2.1++(cellsX T69 y.2.2.2.2)))))),(1001,.box 71 (.int .i64 z.1::(.int .i64 z.2.1::(cellsX T63 z.2.2.1++(cellsX T65 z.2.2.2.1++(cellsX T69 z.2.2.2.2))))))] ?_
   rcases zI h with ⟨hb10,h⟩|⟨hb10,h⟩
   ·exact absurd (hb2.symm.trans hb10) (by decide)
   ·refine zB [(4,.bool false)] [(1000,.box 71 (.int .i64 y.1::(.int .i64 y.2.1::(cellsX T63 y.2.2.1++(cellsX T65 y.2.2.2.1++(cellsX T69 y.2.2.2.2)))))),(1001,.box 71 (.int .i64 z.1::(.int .i64 z.2.1::(cellsX T63 z.2.2.1++(cellsX T65 z.2.2.2.1++(cellsX T69 z.2.2.2.2))))))] ?_
    refine zr ?_
    obtain rfl:=Option.some.inj h
    exact zR [] [] []
  ·refine zk ?_
   refine AW.seq ?_
   refine AW.draw tab_ok mixed_ok [] [] (by decide) (lex_fast (by kernel_rfl)) ?_
   as_aux_lemma =>
    refine adops_cut 6 (fun K' hK11=>?_)
    try dsimp only [List.drop_succ_cons,List.drop_zero,List.take_succ_cons,List.take_zero]
    simp only [go_sem,hb2,hb8]
    repeat with_reducible refine zN ?_
    refine hK11 _ ?_
    as_aux_lemma =>
     refine adops_cut 4 (fun K' hK12=>?_)
     try dsimp only [List.drop_succ_cons,List.drop_zero,List.take_succ_cons,List.take_zero]
     simp only [go_sem,hb2,hb8]
     repeat with_reducible refine zN ?_
     refine hK12 _ ?_
     as_aux_lemma =>
      rcases zI h with ⟨hb13,h⟩|⟨hb13,h⟩
      ·simp only [hb13]
       as_aux_lemma =>
        refine adops_cut 6 (fun K' hK14=>?_)
        try dsimp only [List.drop_succ_cons,List.drop_zero,List.take_succ_cons,List.take_zero]
        simp only [go_sem,hb2,hb8,hb13]
        repeat with_reducible refine zN ?_
        refine hK14 _ ?_
        as_aux_lemma =>
         refine adops_cut 5 (fun K' hK15=>?_)
         try dsimp only [List.drop_succ_cons,List.drop_zero,List.take_succ_cons,List.take_zero]
         simp only [go_sem,hb2,hb8,hb13]
         repeat with_reducible refine zN ?_
         refine hK15 _ ?_
         as_aux_lemma =>
          rcases zI h with ⟨hb16,h⟩|⟨hb16,h⟩
          ·simp only [hb16]
           as_aux_lemma =>
            refine adops_cut 6 (fun K' hK17=>?_)
            try dsimp only [List.drop_succ_cons,List.drop_zero,List.take_succ_cons,List.take_zero]
            simp only [go_sem,hb2,hb8,hb13,hb16]
            repeat with_reducible refine zN ?_
            refine hK17 _ ?_
            as_aux_lemma =>
             refine adops_cut 2 (fun K' hK18=>?_)
             try dsimp only [List.drop_succ_cons,List.drop_zero,List.take_succ_cons,List.take_zero]
             simp only [go_sem,hb2,hb8,hb13,hb16]
             repeat with_reducible refine zN ?_
             refine hK18 _ ?_
             as_aux_lemma =>
              obtain ⟨c20,h⟩:=ck_some.1 h
              obtain ⟨c21,h⟩:=ck_some.1 h
              refine adops_cut 1 (fun K' hK19=>?_)
              try dsimp only [List.drop_succ_cons,List.drop_zero,List.take_succ_cons,List.take_zero]
              simp only [go_sem,hb2,hb8,hb13,hb16]
              refine ⟨(decide (y.2.2.1=z.2.2.1)),aggCmp (H:=fun _=>none) eqty_63 (by first|(simp only [go_sem]; done)|rfl) (by first|(simp only [go_sem]; done)|rfl) (by first|assumption|simp only [go_sem, *]) (by first|assumption|simp only [go_sem, *]),?_⟩
              repeat with_reducible refine zN ?_
              refine hK19 _ ?_
              as_aux_lemma =>
               refine adops_cut 2 (fun K' hK22=>?_)
               try dsimp only [List.drop_succ_cons,List.drop_zero,List.take_succ_cons,List.take_zero]
               simp only [go_sem,hb2,hb8,hb13,hb16]
               repeat with_reducible refine zN ?_
               refine hK22 _ ?_
               as_aux_lemma =>
                rcases zI h with ⟨hb23,h⟩|⟨hb23,h⟩
                ·simp only [hb23]
                 as_aux_lemma =>
                  refine adops_cut 6 (fun K' hK24=>?_)
                  try dsimp only [List.drop_succ_cons,List.drop_zero,List.take_succ_cons,List.take_zero]
                  simp only [go_sem,hb2,hb8,hb13,hb16,hb23]
                  repeat with_reducible refine zN ?_
                  refine hK24 _ ?_
                  as_aux_lemma =>
                   refine adops_cut 2 (fun K' hK25=>?_)
                   try dsimp only [List.drop_succ_cons,List.drop_zero,List.take_succ_cons,List.take_zero]
                   simp only [go_sem,hb2,hb8,hb13,hb16,hb23]
                   repeat with_reducible refine zN ?_
                   refine hK25 _ ?_
                   as_aux_lemma =>
                    obtain ⟨c27,h⟩:=ck_some.1 h
                    obtain ⟨c28,h⟩:=ck_some.1 h
                    refine adops_cut 1 (fun K' hK26=>?_)
                    try dsimp only [List.drop_succ_cons,List.drop_zero,List.take_succ_cons,List.take_zero]
                    simp only [go_sem,hb2,hb8,hb13,hb16,hb23]
                    refine ⟨(decide (y.2.2.2.1=z.2.2.2.1)),aggCmp (H:=fun _=>none) eqty_65 (by first|(simp only [go_sem]; done)|rfl) (by first|(simp only [go_sem]; done)|rfl) (by first|assumption|simp only [go_sem, *]) (by first|assumption|simp only [go_sem, *]),?_⟩
                    repeat with_reducible refine zN ?_
                    refine hK26 _ ?_
                    as_aux_lemma =>
                     refine adops_cut 2 (fun K' hK29=>?_)
                     try dsimp only [List.drop_succ_cons,List.drop_zero,List.take_succ_cons,List.take_zero]
                     simp only [go_sem,hb2,hb8,hb13,hb16,hb23]
                     repeat with_reducible refine zN ?_
                     refine hK29 _ ?_
                     as_aux_lemma =>
                      rcases zI h with ⟨hb30,h⟩|⟨hb30,h⟩
                      ·simp only [hb30]
                       as_aux_lemma =>
                        refine adops_cut 6 (fun K' hK31=>?_)
                        try dsimp only [List.drop_succ_cons,List.drop_zero,List.take_succ_cons,List.take_zero]
                        simp only [go_sem,hb2,hb8,hb13,hb16,hb23,hb30]
                        repeat with_reducible refine zN ?_
                        refine hK31 _ ?_
                        as_aux_lemma =>
                         refine adops_cut 2 (fun K' hK32=>?_)
                         try dsimp only [List.drop_succ_cons,List.drop_zero,List.take_succ_cons,List.take_zero]
                         simp only [go_sem,hb2,hb8,hb13,hb16,hb23,hb30]
                         repeat with_reducible refine zN ?_
                         refine hK32 _ ?_
                         as_aux_lemma =>
                          obtain ⟨c34,h⟩:=ck_some.1 h
                          obtain ⟨c35,h⟩:=ck_some.1 h
                          refine adops_cut 1 (fun K' hK33=>?_)
                          try dsimp only [List.drop_succ_cons,List.drop_zero,List.take_succ_cons,List.take_zero]
                          simp only [go_sem,hb2,hb8,hb13,hb16,hb23,hb30]
                          refine ⟨(decide (y.2.2.2.2=z.2.2.2.2)),aggCmp (H:=fun _=>none) eqty_69 (by first|(simp only [go_sem]; done)|rfl) (by first|(simp only [go_sem]; done)|rfl) (by first|assumption|simp only [go_sem, *]) (by first|assumption|simp only [go_sem, *]),?_⟩
                          repeat with_reducible refine zN ?_
                          refine hK33 _ ?_
                          as_aux_lemma =>
                           refine adops_cut 2 (fun K' hK36=>?_)
                           try dsimp only [List.drop_succ_cons,List.drop_zero,List.take_succ_cons,List.take_zero]
                           simp only [go_sem,hb2,hb8,hb13,hb16,hb23,hb30]
                           repeat with_reducible refine zN ?_
                           refine hK36 _ ?_
                           refine adops_nil ?_
                           refine athen_n ?_
                           refine zV [(4,.bool (decide (y.2.2.2.2=z.2.2.2.2)))] [(1000,.box 71 (.int .i64 y.1::(.int .i64 y.2.1::(cellsX T63 y.2.2.1++(cellsX T65 y.2.2.2.1++(cellsX T69 y.2.2.2.2)))))),(1001,.box 71 (.int .i64 z.1::(.int .i64 z.2.1::(cellsX T63 z.2.2.1++(cellsX T65 z.2.2.2.1++(cellsX T69 z.2.2.2.2))))))] gt ?_
                           as_aux_lemma =>
                            refine AW.ret ?_
                            obtain rfl:=Option.some.inj h
                            exact zR [] [] []
                      ·simp only [hb30]
                       as_aux_lemma =>
                        refine adops_cut 4 (fun K' hK37=>?_)
                        try dsimp only [List.drop_succ_cons,List.drop_zero,List.take_succ_cons,List.take_zero]
                        simp only [go_sem,hb2,hb8,hb13,hb16,hb23,hb30]
                        repeat with_reducible refine zN ?_
                        refine hK37 _ ?_
                        as_aux_lemma =>
                         refine adops_cut 4 (fun K' hK38=>?_)
                         try dsimp only [List.drop_succ_cons,List.drop_zero,List.take_succ_cons,List.take_zero]
                         simp only [go_sem,hb2,hb8,hb13,hb16,hb23,hb30]
                         repeat with_reducible refine zN ?_
                         refine hK38 _ ?_
                         as_aux_lemma =>
                          refine adops_cut 3 (fun K' hK39=>?_)
                          try dsimp only [List.drop_succ_cons,List.drop_zero,List.take_succ_cons,List.take_zero]
                          simp only [go_sem,hb2,hb8,hb13,hb16,hb23,hb30]
                          repeat with_reducible refine zN ?_
                          refine hK39 _ ?_
                          refine adops_nil ?_
                          refine athen_n ?_
                          refine zV [(4,.bool false)] [(1000,.box 71 (.int .i64 y.1::(.int .i64 y.2.1::(cellsX T63 y.2.2.1++(cellsX T65 y.2.2.2.1++(cellsX T69 y.2.2.2.2)))))),(1001,.box 71 (.int .i64 z.1::(.int .i64 z.2.1::(cellsX T63 z.2.2.1++(cellsX T65 z.2.2.2.1++(cellsX T69 z.2.2.2.2))))))] gt ?_
                          as_aux_lemma =>
                           refine AW.ret ?_
                           obtain rfl:=Option.some.inj h
                           exact zR [] [] []
                ·simp only [hb23]
                 as_aux_lemma =>
                  refine adops_cut 4 (fun K' hK40=>?_)
                  try dsimp only [List.drop_succ_cons,List.drop_zero,List.take_succ_cons,List.take_zero]
                  simp only [go_sem,hb2,hb8,hb13,hb16,hb23]
                  repeat with_reducible refine zN ?_
                  refine hK40 _ ?_
                  as_aux_lemma =>
                   refine adops_cut 4 (fun K' hK41=>?_)
                   try dsimp only [List.drop_succ_cons,List.drop_zero,List.take_succ_cons,List.take_zero]
                   simp only [go_sem,hb2,hb8,hb13,hb16,hb23]
                   repeat with_reducible refine zN ?_
                   refine hK41 _ ?_
                   as_aux_lemma =>
                    refine adops_cut 6 (fun K' hK42=>?_)
                    try dsimp only [List.drop_succ_cons,List.drop_zero,List.take_succ_cons,List.take_zero]
                    simp only [go_sem,hb2,hb8,hb13,hb16,hb23]
                    repeat with_reducible refine zN ?_
                    refine hK42 _ ?_
                    as_aux_lemma =>
                     refine adops_cut 4 (fun K' hK43=>?_)
                     try dsimp only [List.drop_succ_cons,List.drop_zero,List.take_succ_cons,List.take_zero]
                     simp only [go_sem,hb2,hb8,hb13,hb16,hb23]
                     repeat with_reducible refine zN ?_
                     refine hK43 _ ?_
                     as_aux_lemma =>
                      refine adops_cut 4 (fun K' hK44=>?_)
                      try dsimp only [List.drop_succ_cons,List.drop_zero,List.take_succ_cons,List.take_zero]
                      simp only [go_sem,hb2,hb8,hb13,hb16,hb23]
                      repeat with_reducible refine zN ?_
                      refine hK44 _ ?_
                      refine adops_nil ?_
                      refine athen_n ?_
                      refine zV [(4,.bool false)] [(1000,.box 71 (.int .i64 y.1::(.int .i64 y.2.1::(cellsX T63 y.2.2.1++(cellsX T65 y.2.2.2.1++(cellsX T69 y.2.2.2.2)))))),(1001,.box 71 (.int .i64 z.1::(.int .i64 z.2.1::(cellsX T63 z.2.2.1++(cellsX T65 z.2.2.2.1++(cellsX T69 z.2.2.2.2))))))] gt ?_
                      as_aux_lemma =>
                       refine AW.ret ?_
                       obtain rfl:=Option.some.inj h
                       exact zR [] [] []
          ·simp only [hb16]
           as_aux_lemma =>
            refine adops_cut 4 (fun K' hK45=>?_)
            try dsimp only [List.drop_succ_cons,List.drop_zero,List.take_succ_cons,List.take_zero]
            simp only [go_sem,hb2,hb8,hb13,hb16]
            repeat with_reducible refine zN ?_
            refine hK45 _ ?_
            as_aux_lemma =>
             refine adops_cut 4 (fun K' hK46=>?_)
             try dsimp only [List.drop_succ_cons,List.drop_zero,List.take_succ_cons,List.take_zero]
             simp only [go_sem,hb2,hb8,hb13,hb16]
             repeat with_reducible refine zN ?_
             refine hK46 _ ?_
             as_aux_lemma =>
              refine adops_cut 6 (fun K' hK47=>?_)
              try dsimp only [List.drop_succ_cons,List.drop_zero,List.take_succ_cons,List.take_zero]
              simp only [go_sem,hb2,hb8,hb13,hb16]
              repeat with_reducible refine zN ?_
              refine hK47 _ ?_
              as_aux_lemma =>
               refine adops_cut 4 (fun K' hK48=>?_)
               try dsimp only [List.drop_succ_cons,List.drop_zero,List.take_succ_cons,List.take_zero]
               simp only [go_sem,hb2,hb8,hb13,hb16]
               repeat with_reducible refine zN ?_
               refine hK48 _ ?_
               as_aux_lemma =>
                refine adops_cut 6 (fun K' hK49=>?_)
                try dsimp only [List.drop_succ_cons,List.drop_zero,List.take_succ_cons,List.take_zero]
                simp only [go_sem,hb2,hb8,hb13,hb16]
                repeat with_reducible refine zN ?_
                refine hK49 _ ?_
                as_aux_lemma =>
                 refine adops_cut 4 (fun K' hK50=>?_)
                 try dsimp only [List.drop_succ_cons,List.drop_zero,List.take_succ_cons,List.take_zero]
                 simp only [go_sem,hb2,hb8,hb13,hb16]
                 repeat with_reducible refine zN ?_
                 refine hK50 _ ?_
                 as_aux_lemma =>
                  refine adops_cut 5 (fun K' hK51=>?_)
                  try dsimp only [List.drop_succ_cons,List.drop_zero,List.take_succ_cons,List.take_zero]
                  simp only [go_sem,hb2,hb8,hb13,hb16]
                  repeat with_reducible refine zN ?_
                  refine hK51 _ ?_
                  refine adops_nil ?_
                  refine athen_n ?_
                  refine zV [(4,.bool false)] [(1000,.box 71 (.int .i64 y.1::(.int .i64 y.2.1::(cellsX T63 y.2.2.1++(cellsX T65 y.2.2.2.1++(cellsX T69 y.2.2.2.2)))))),(1001,.box 71 (.int .i64 z.1::(.int .i64 z.2.1::(cellsX T63 z.2.2.1++(cellsX T65 z.2.2.2.1++(cellsX T69 z.2.2.2.2))))))] gt ?_
                  as_aux_lemma =>
                   refine AW.ret ?_
                   obtain rfl:=Option.some.inj h
                   exact zR [] [] []
      ·simp only [hb13]
       as_aux_lemma =>
        refine adops_cut 4 (fun K' hK52=>?_)
        try dsimp only [List.drop_succ_cons,List.drop_zero,List.take_succ_cons,List.take_zero]
        simp only [go_sem,hb2,hb8,hb13]
        repeat with_reducible refine zN ?_
        refine hK52 _ ?_
        as_aux_lemma =>
         refine adops_cut 4 (fun K' hK53=>?_)
         try dsimp only [List.drop_succ_cons,List.drop_zero,List.take_succ_cons,List.take_zero]
         simp only [go_sem,hb2,hb8,hb13]
         repeat with_reducible refine zN ?_
         refine hK53 _ ?_
         as_aux_lemma =>
          refine adops_cut 6 (fun K' hK54=>?_)
          try dsimp only [List.drop_succ_cons,List.drop_zero,List.take_succ_cons,List.take_zero]
          simp only [go_sem,hb2,hb8,hb13]
          repeat with_reducible refine zN ?_
          refine hK54 _ ?_
          as_aux_lemma =>
           refine adops_cut 4 (fun K' hK55=>?_)
           try dsimp only [List.drop_succ_cons,List.drop_zero,List.take_succ_cons,List.take_zero]
           simp only [go_sem,hb2,hb8,hb13]
           repeat with_reducible refine zN ?_
           refine hK55 _ ?_
           as_aux_lemma =>
            refine adops_cut 6 (fun K' hK56=>?_)
            try dsimp only [List.drop_succ_cons,List.drop_zero,List.take_succ_cons,List.take_zero]
            simp only [go_sem,hb2,hb8,hb13]
            repeat with_reducible refine zN ?_
            refine hK56 _ ?_
            as_aux_lemma =>
             refine adops_cut 4 (fun K' hK57=>?_)
             try dsimp only [List.drop_succ_cons,List.drop_zero,List.take_succ_cons,List.take_zero]
             simp only [go_sem,hb2,hb8,hb13]
             repeat with_reducible refine zN ?_
             refine hK57 _ ?_
             as_aux_lemma =>
              refine adops_cut 6 (fun K' hK58=>?_)
              try dsimp only [List.drop_succ_cons,List.drop_zero,List.take_succ_cons,List.take_zero]
              simp only [go_sem,hb2,hb8,hb13]
              repeat with_reducible refine zN ?_
              refine hK58 _ ?_
              as_aux_lemma =>
               refine adops_cut 4 (fun K' hK59=>?_)
               try dsimp only [List.drop_succ_cons,List.drop_zero,List.take_succ_cons,List.take_zero]
               simp only [go_sem,hb2,hb8,hb13]
               repeat with_reducible refine zN ?_
               refine hK59 _ ?_
               as_aux_lemma =>
                refine adops_cut 4 (fun K' hK60=>?_)
                try dsimp only [List.drop_succ_cons,List.drop_zero,List.take_succ_cons,List.take_zero]
                simp only [go_sem,hb2,hb8,hb13]
                repeat with_reducible refine zN ?_
                refine hK60 _ ?_
                as_aux_lemma =>
                 refine adops_cut 2 (fun K' hK61=>?_)
                 try dsimp only [List.drop_succ_cons,List.drop_zero,List.take_succ_cons,List.take_zero]
                 simp only [go_sem,hb2,hb8,hb13]
                 repeat with_reducible refine zN ?_
                 refine hK61 _ ?_
                 refine adops_nil ?_
                 refine athen_n ?_
                 refine zV [(4,.bool false)] [(1000,.box 71 (.int .i64 y.1::(.int .i64 y.2.1::(cellsX T63 y.2.2.1++(cellsX T65 y.2.2.2.1++(cellsX T69 y.2.2.2.2)))))),(1001,.box 71 (.int .i64 z.1::(.int .i64 z.2.1::(cellsX T63 z.2.2.1++(cellsX T65 z.2.2.2.1++(cellsX T69 z.2.2.2.2))))))] gt ?_
                 as_aux_lemma =>
                  refine AW.ret ?_
                  obtain rfl:=Option.some.inj h
                  exact zR [] [] []
end Go.Proofs.YtcckpmeepcoafaaDoor
