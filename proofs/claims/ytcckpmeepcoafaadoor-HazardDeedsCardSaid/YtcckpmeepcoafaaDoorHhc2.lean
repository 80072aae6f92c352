import Derived.Test.YtcckpmeepcoafaaDoorHzp
import Derived.Test.YtcckpmeepcoafaaDoorShz
import Derived.Test.YtcckpmeepcoafaaDoorHhc1
namespace Go.Proofs.YtcckpmeepcoafaaDoor
open Go.RowKit
set_option linter.unusedSimpArgs false
set_option linter.unusedVariables false
set_option linter.constructorNameAsVariable false
set_option maxRecDepth 100000
set_option maxHeartbeats 40000000
theorem hc_slices_Index (v0:Int) (s:Int×Int×(El T63)×(El T65)×(El T69)) {r:Int} (h:slices_Index v0 s=some r):HC Tryd.prog 64 [(1000,.box 71 (.int .i64 s.1::(.int .i64 s.2.1::(cellsX T63 s.2.2.1++(cellsX T65 s.2.2.2.1++(cellsX T69 s.2.2.2.2))))))] [.vw 1000 1 2 8,.int .i64 v0] [(1000,.box 71 (.int .i64 s.1::(.int .i64 s.2.1::(cellsX T63 s.2.2.1++(cellsX T65 s.2.2.2.1++(cellsX T69 s.2.2.2.2))))))] (.int .i64 r):=by
 unfold slices_Index at h
 refine zH Tryd.func64 [.tmp 4] 19 ?_
 refine zo ?_
 refine zB [(0,.vw 1000 1 2 8),(1,.int .i64 v0)] [(1000,.box 71 (.int .i64 s.1::(.int .i64 s.2.1::(cellsX T63 s.2.2.1++(cellsX T65 s.2.2.2.1++(cellsX T69 s.2.2.2.2))))))] ?_
 refine AW.have1 (fun _:Unit=>slices_Index_k1=some r) (fun _=>⟨fr [],hpGet [(1000,.box 71 (.int .i64 s.1::(.int .i64 s.2.1::(cellsX T63 s.2.2.1++(cellsX T65 s.2.2.2.1++(cellsX T69 s.2.2.2.2))))))],gt⟩) (fun _ h=>?_) (fun hk_slices_Index_k1=>?_)
 ·as_aux_lemma =>
   unfold slices_Index_k1 at h
   refine zo ?_
   refine zB [(4,.int .i64 (-1))] [(1000,.box 71 (.int .i64 s.1::(.int .i64 s.2.1::(cellsX T63 s.2.2.1++(cellsX T65 s.2.2.2.1++(cellsX T69 s.2.2.2.2))))))] ?_
   refine AW.ret ?_
   obtain rfl:=Option.some.inj h
   exact zR [] [] []
 ·refine AW.seq ?_
  refine zo ?_
  refine zB [(0,.vw 1000 1 2 8),(1,.int .i64 v0),(7,.int .i64 8),(8,.int .i64 0)] [(1000,.box 71 (.int .i64 s.1::(.int .i64 s.2.1::(cellsX T63 s.2.2.1++(cellsX T65 s.2.2.2.1++(cellsX T69 s.2.2.2.2))))))] ?_
  refine AW.block ?_
  obtain ⟨rv5,hw1,ho2⟩:=Option.bind_eq_some_iff.1 h
  refine AW.loopO (slices_Index_b1 v0 s) (fun st1=>⟨fr [(0,.vw 1000 1 2 8),(1,.int .i64 v0),(7,.int .i64 8),(8,.int .i64 st1)],hpGet [(1000,.box 71 (.int .i64 s.1::(.int .i64 s.2.1::(cellsX T63 s.2.2.1++(cellsX T65 s.2.2.2.1++(cellsX T69 s.2.2.2.2))))))],gt⟩) 0 hw1 (zL [] [] []) ?_
  as_aux_lemma =>
   intro st1 x4 h hd3
   unfold slices_Index_b1 at h
   refine zo ?_
   refine zB [(0,.vw 1000 1 2 8),(1,.int .i64 v0),(7,.int .i64 8),(8,.int .i64 st1),(9,.bool (decide (st1<8)))] [(1000,.box 71 (.int .i64 s.1::(.int .i64 s.2.1::(cellsX T63 s.2.2.1++(cellsX T65 s.2.2.2.1++(cellsX T69 s.2.2.2.2))))))] ?_
   refine AW.seq ?_
   refine zQ h (fun hb6 h=>?_) (fun hb6 h=>?_)
   ·refine zk ?_
    refine AW.seq ?_
    refine AW.block ?_
    refine zo ?_
    refine zB [(0,.vw 1000 1 2 8),(1,.int .i64 v0),(5,.int .i64 st1),(7,.int .i64 8),(8,.int .i64 st1)] [(1000,.box 71 (.int .i64 s.1::(.int .i64 s.2.1::(cellsX T63 s.2.2.1++(cellsX T65 s.2.2.2.1++(cellsX T69 s.2.2.2.2))))))] ?_
    refine zo ?_
    obtain ⟨c7,h⟩:=ck_some.1 h
    obtain ⟨c8,h⟩:=ck_some.1 h
    have hx9:st1.toNat<8:=by omega
    refine zS 5 [(0,.vw 1000 1 2 8),(1,.int .i64 v0),(5,.int .i64 st1),(7,.int .i64 8),(8,.int .i64 st1),(11,.int .i64 v0),(15,.int .i64 (intAt T63 s.2.2.1 st1.toNat))] [(1000,.box 71 (.int .i64 s.1::(.int .i64 s.2.1::(cellsX T63 s.2.2.1++(cellsX T65 s.2.2.2.1++(cellsX T69 s.2.2.2.2))))))] ?_
    refine zB [(0,.vw 1000 1 2 8),(1,.int .i64 v0),(5,.int .i64 st1),(7,.int .i64 8),(8,.int .i64 st1),(16,.bool (decide (v0=(intAt T63 s.2.2.1 st1.toNat))))] [(1000,.box 71 (.int .i64 s.1::(.int .i64 s.2.1::(cellsX T63 s.2.2.1++(cellsX T65 s.2.2.2.1++(cellsX T69 s.2.2.2.2))))))] ?_
    refine zQ h (fun hb10 h=>?_) (fun hb10 h=>?_)
    ·refine zo ?_
     refine zB [(4,.int .i64 st1)] [(1000,.box 71 (.int .i64 s.1::(.int .i64 s.2.1::(cellsX T63 s.2.2.1++(cellsX T65 s.2.2.2.1++(cellsX T69 s.2.2.2.2))))))] ?_
     refine AW.ret ?_
     refine ablock_r ?_
     refine athen_r ?_
     obtain rfl:=Option.some.inj h
     rw [← hd3 _ rfl] at ho2
     have h:=ho2
     try simp only at h
     refine athen_r ?_
     refine ablock_r ?_
     refine athen_r ?_
     obtain rfl:=Option.some.inj h
     exact zR [] [] []
    ·refine zm ?_
     refine athen_n ?_
     refine AW.ops ?_
     obtain ⟨c11,h⟩:=ck_some.1 h
     refine zA [(0,.vw 1000 1 2 8),(1,.int .i64 v0),(7,.int .i64 8),(8,.int .i64 (st1+1))] [(1000,.box 71 (.int .i64 s.1::(.int .i64 s.2.1::(cellsX T63 s.2.2.1++(cellsX T65 s.2.2.2.1++(cellsX T69 s.2.2.2.2))))))] ?_
     obtain rfl:=Option.some.inj h
     exact ⟨_,rfl,zL [] [] []⟩
   ·refine AW.exit ?_
    refine athen_e ?_
    obtain rfl:=Option.some.inj h
    try rw [← hd3 _ rfl] at ho2
    have h:=ho2
    try simp only at h
    refine athen_e ?_
    refine ablock_s ?_
    refine athen_n ?_
    exact AW.weaken (zL [] [] []) (hk_slices_Index_k1 () h)
theorem hc_hazard_Yard_Take (thread:Int) (y:Int×Int×(El T63)×(El T65)×(El T69)) {r:Int×Int×(El T63)} (h:hazard_Yard_Take thread y=some r):HC Tryd.prog 37 [(1000,.box 71 (.int .i64 y.1::(.int .i64 y.2.1::(cellsX T63 y.2.2.1++(cellsX T65 y.2.2.2.1++(cellsX T69 y.2.2.2.2))))))] [.bp 1000 0,.int .i64 thread] [(1000,.box 71 (.int .i64 y.1::(.int .i64 y.2.1::(cellsX T63 r.2.2++(cellsX T65 y.2.2.2.1++(cellsX T69 y.2.2.2.2))))))] (.tup [.int .i64 r.1,.int .i64 r.2.1]):=by
 unfold hazard_Yard_Take at h
 refine zH Tryd.func37 [.tmp 4,.tmp 5] 29 ?_
 refine zo ?_
 refine zB [(0,.bp 1000 0),(1,.int .i64 thread)] [(1000,.box 71 (.int .i64 y.1::(.int .i64 y.2.1::(cellsX T63 y.2.2.1++(cellsX T65 y.2.2.2.1++(cellsX T69 y.2.2.2.2))))))] ?_
 refine AW.seq ?_
 refine zo ?_
 refine zS 2 [(0,.bp 1000 0),(8,.bp 1000 0),(9,.int .i64 thread)] [(1000,.box 71 (.int .i64 y.1::(.int .i64 y.2.1::(cellsX T63 y.2.2.1++(cellsX T65 y.2.2.2.1++(cellsX T69 y.2.2.2.2))))))] ?_
 obtain ⟨v0,hv1,h⟩:=Option.bind_eq_some_iff.1 h
 refine zC [] [] (hc_hazard_isThread thread hv1) [(0,.bp 1000 0),(8,.bp 1000 0),(10,.agg [.fn (.func 72) [] [.dp (.int .i64) thread 0],.int .i64 2])] [(1000,.box 71 (.int .i64 y.1::(.int .i64 y.2.1::(cellsX T63 y.2.2.1++(cellsX T65 y.2.2.2.1++(cellsX T69 y.2.2.2.2))))))] ?_
 refine AO.buildBox tab_ok rfl (by decide) (by decide) rfl rfl tab_92 rfl tab_81 (by decide) (by decide) rfl (by decide) (cs:=[.fn (.func 72) [] [.dp (.int .i64) thread 0],.int .i64 2]) rfl rfl rfl ?_
 refine zT [(0,.bp 1000 0),(8,.bp 1000 0),(11,.vw 11 2 0 1)] [(11,.box 81 [.fn (.func 72) [] [.dp (.int .i64) thread 0],.int .i64 2]),(1000,.box 71 (.int .i64 y.1::(.int .i64 y.2.1::(cellsX T63 y.2.2.1++(cellsX T65 y.2.2.2.1++(cellsX T69 y.2.2.2.2))))))] gt ?_
 obtain ⟨v0_2,hv2,h⟩:=Option.bind_eq_some_iff.1 h
 refine zC [] [(1000,1000),(1001,11)] (hc_hazard_Yard_fails_2 y thread 2 hv2) [(0,.bp 1000 0),(12,.int .i64 v0_2)] [(1000,.box 71 (.int .i64 y.1::(.int .i64 y.2.1::(cellsX T63 y.2.2.1++(cellsX T65 y.2.2.2.1++(cellsX T69 y.2.2.2.2))))))] ?_
 refine zB [(0,.bp 1000 0),(6,.int .i64 v0_2)] [(1000,.box 71 (.int .i64 y.1::(.int .i64 y.2.1::(cellsX T63 y.2.2.1++(cellsX T65 y.2.2.2.1++(cellsX T69 y.2.2.2.2))))))] ?_
 refine zo ?_
 refine zB [(0,.bp 1000 0),(6,.int .i64 v0_2),(14,.bool (!(decide (v0_2=0))))] [(1000,.box 71 (.int .i64 y.1::(.int .i64 y.2.1::(cellsX T63 y.2.2.1++(cellsX T65 y.2.2.2.1++(cellsX T69 y.2.2.2.2))))))] ?_
 refine zQ h (fun hb3 h=>?_) (fun hb3 h=>?_)
 ·refine zo ?_
  refine zB [(4,.int .i64 0),(5,.int .i64 v0_2)] [(1000,.box 71 (.int .i64 y.1::(.int .i64 y.2.1::(cellsX T63 y.2.2.1++(cellsX T65 y.2.2.2.1++(cellsX T69 y.2.2.2.2))))))] ?_
  refine zr ?_
  obtain rfl:=Option.some.inj h
  exact zR [] [] []
 ·refine zk ?_
  refine zo ?_
  refine zS 4 [(0,.bp 1000 0),(19,.vw 1000 1 2 8)] [(1000,.box 71 (.int .i64 y.1::(.int .i64 y.2.1::(cellsX T63 y.2.2.1++(cellsX T65 y.2.2.2.1++(cellsX T69 y.2.2.2.2))))))] ?_
  obtain ⟨v0_3,hv4,h⟩:=Option.bind_eq_some_iff.1 h
  refine zC [] [(1000,1000)] (hc_slices_Index 0 y hv4) [(0,.bp 1000 0),(20,.int .i64 v0_3)] [(1000,.box 71 (.int .i64 y.1::(.int .i64 y.2.1::(cellsX T63 y.2.2.1++(cellsX T65 y.2.2.2.1++(cellsX T69 y.2.2.2.2))))))] ?_
  refine zB [(0,.bp 1000 0),(7,.int .i64 v0_3)] [(1000,.box 71 (.int .i64 y.1::(.int .i64 y.2.1::(cellsX T63 y.2.2.1++(cellsX T65 y.2.2.2.1++(cellsX T69 y.2.2.2.2))))))] ?_
  refine AW.seq ?_
  refine zo ?_
  refine zB [(0,.bp 1000 0),(7,.int .i64 v0_3),(22,.bool (decide (v0_3<0)))] [(1000,.box 71 (.int .i64 y.1::(.int .i64 y.2.1::(cellsX T63 y.2.2.1++(cellsX T65 y.2.2.2.1++(cellsX T69 y.2.2.2.2))))))] ?_
  refine zQ h (fun hb5 h=>?_) (fun hb5 h=>?_)
  ·refine zo ?_
   refine zB [(4,.int .i64 0),(5,.int .i64 5)] [(1000,.box 71 (.int .i64 y.1::(.int .i64 y.2.1::(cellsX T63 y.2.2.1++(cellsX T65 y.2.2.2.1++(cellsX T69 y.2.2.2.2))))))] ?_
   refine zr ?_
   obtain rfl:=Option.some.inj h
   exact zR [] [] []
  ·refine zk ?_
   refine zo ?_
   obtain ⟨c6,h⟩:=ck_some.1 h
   obtain ⟨c7,h⟩:=ck_some.1 h
   refine zS 5 [(7,.int .i64 v0_3),(27,.bp 1000 (2+v0_3.toNat*1))] [(1000,.box 71 (.int .i64 y.1::(.int .i64 y.2.1::(cellsX T63 y.2.2.1++(cellsX T65 y.2.2.2.1++(cellsX T69 y.2.2.2.2))))))] ?_
   have hx8:(v0_3.toNat*1)<8:=by omega
   refine zB [(7,.int .i64 v0_3)] [(1000,.box 71 (.int .i64 y.1::(.int .i64 y.2.1::(cellsX T63 (setInt T63 y.2.2.1 (v0_3.toNat*1) 1)++(cellsX T65 y.2.2.2.1++(cellsX T69 y.2.2.2.2))))))] ?_
   refine zo ?_
   refine zB [(4,.int .i64 v0_3),(5,.int .i64 0)] [(1000,.box 71 (.int .i64 y.1::(.int .i64 y.2.1::(cellsX T63 (setInt T63 y.2.2.1 (v0_3.toNat*1) 1)++(cellsX T65 y.2.2.2.1++(cellsX T69 y.2.2.2.2))))))] ?_
   refine AW.ret ?_
   obtain rfl:=Option.some.inj h
   exact zR [] [] []
theorem hc_hazard_isSlot (slot:Int) {r:Unit} (h:hazard_isSlot slot=some r):HC Tryd.prog 58 [] [.int .i64 slot] [] (.agg [.fn (.func 74) [] [.dp (.int .i64) slot 0],.int .i64 2]):=by
 unfold hazard_isSlot at h
 refine zH Tryd.func58 [.cell 2 81] 5 ?_
 refine zo ?_
 refine zS 1 [(1,.bp 1 0)] [(1,.box 3 [.int .i64 slot])] ?_
 refine AO.weaken (s':=⟨fr [(1,.dp (.int .i64) slot 0)],hpGet [],gt⟩) (Wk.boxes [1] rfl rfl (by (simp only [go_sem])<;>(with_reducible and_intros)<;>first|assumption|rfl|omega|(unfold maxLen; omega)) (by (simp only [go_sem])<;>(with_reducible and_intros)<;>first|assumption|rfl|omega|(unfold maxLen; omega))) ?_
 refine zB [(1,.dp (.int .i64) slot 0),(2,.bp 2 0)] [(2,.box 81 [.cv (.nilFunc),.int .i64 0])] ?_
 refine zo ?_
 refine zB [(2,.bp 2 0)] [(2,.box 81 [.fn (.func 74) [] [.dp (.int .i64) slot 0],.int .i64 2])] ?_
 refine AW.ret ?_
 obtain rfl:=Option.some.inj h
 exact zR [] [] []
theorem hc_hazard_isNode (node:Int) {r:Unit} (h:hazard_isNode node=some r):HC Tryd.prog 53 [] [.int .i64 node] [] (.agg [.fn (.func 70) [] [.dp (.int .i64) node 0],.int .i64 2]):=by
 unfold hazard_isNode at h
 refine zH Tryd.func53 [.cell 2 81] 5 ?_
 refine zo ?_
 refine zS 1 [(1,.bp 1 0)] [(1,.box 3 [.int .i64 node])] ?_
 refine AO.weaken (s':=⟨fr [(1,.dp (.int .i64) node 0)],hpGet [],gt⟩) (Wk.boxes [1] rfl rfl (by (simp only [go_sem])<;>(with_reducible and_intros)<;>first|assumption|rfl|omega|(unfold maxLen; omega)) (by (simp only [go_sem])<;>(with_reducible and_intros)<;>first|assumption|rfl|omega|(unfold maxLen; omega))) ?_
 refine zB [(1,.dp (.int .i64) node 0),(2,.bp 2 0)] [(2,.box 81 [.cv (.nilFunc),.int .i64 0])] ?_
 refine zo ?_
 refine zB [(2,.bp 2 0)] [(2,.box 81 [.fn (.func 70) [] [.dp (.int .i64) node 0],.int .i64 2])] ?_
 refine AW.ret ?_
 obtain rfl:=Option.some.inj h
 exact zR [] [] []
theorem hc_hazard_isIn (node:Int) {r:Unit} (h:hazard_isIn node=some r):HC Tryd.prog 61 [] [.int .i64 node] [] (.agg [.fn (.func 76) [] [.dp (.int .i64) node 0],.int .i64 5]):=by
 unfold hazard_isIn at h
 refine zH Tryd.func61 [.cell 2 81] 5 ?_
 refine zo ?_
 refine zS 1 [(1,.bp 1 0)] [(1,.box 3 [.int .i64 node])] ?_
 refine AO.weaken (s':=⟨fr [(1,.dp (.int .i64) node 0)],hpGet [],gt⟩) (Wk.boxes [1] rfl rfl (by (simp only [go_sem])<;>(with_reducible and_intros)<;>first|assumption|rfl|omega|(unfold maxLen; omega)) (by (simp only [go_sem])<;>(with_reducible and_intros)<;>first|assumption|rfl|omega|(unfold maxLen; omega))) ?_
 refine zB [(1,.dp (.int .i64) node 0),(2,.bp 2 0)] [(2,.box 81 [.cv (.nilFunc),.int .i64 0])] ?_
 refine zo ?_
 refine zB [(2,.bp 2 0)] [(2,.box 81 [.fn (.func 76) [] [.dp (.int .i64) node 0],.int .i64 5])] ?_
 refine AW.ret ?_
 obtain rfl:=Option.some.inj h
 exact zR [] [] []
theorem hc_hazard_isSlot_1 (a1:Int) (a0:Int×Int×(El T63)×(El T65)×(El T69)) {r:Bool} (h:hazard_isSlot_1 a1 a0=some r):HC Tryd.prog 74 [(1000,.box 71 (.int .i64 a0.1::(.int .i64 a0.2.1::(cellsX T63 a0.2.2.1++(cellsX T65 a0.2.2.2.1++(cellsX T69 a0.2.2.2.2))))))] [.bp 1000 0,.dp (.int .i64) a1 0] [(1000,.box 71 (.int .i64 a0.1::(.int .i64 a0.2.1::(cellsX T63 a0.2.2.1++(cellsX T65 a0.2.2.2.1++(cellsX T69 a0.2.2.2.2))))))] (.bool r):=by
 unfold hazard_isSlot_1 at h
 refine zH Tryd.func74 [.tmp 3] 6 ?_
 refine zo ?_
 refine zB [(1,.dp (.int .i64) a1 0)] [(1000,.box 71 (.int .i64 a0.1::(.int .i64 a0.2.1::(cellsX T63 a0.2.2.1++(cellsX T65 a0.2.2.2.1++(cellsX T69 a0.2.2.2.2))))))] ?_
 refine zo ?_
 refine zS 1 [(4,.int .i64 a1)] [(1000,.box 71 (.int .i64 a0.1::(.int .i64 a0.2.1::(cellsX T63 a0.2.2.1++(cellsX T65 a0.2.2.2.1++(cellsX T69 a0.2.2.2.2))))))] ?_
 obtain ⟨v0,hv1,h⟩:=Option.bind_eq_some_iff.1 h
 refine zC [] [] (hc_hazard_isBelow a1 2 hv1) [(5,.bool v0)] [(1000,.box 71 (.int .i64 a0.1::(.int .i64 a0.2.1::(cellsX T63 a0.2.2.1++(cellsX T65 a0.2.2.2.1++(cellsX T69 a0.2.2.2.2))))))] ?_
 refine zB [(3,.bool v0)] [(1000,.box 71 (.int .i64 a0.1::(.int .i64 a0.2.1::(cellsX T63 a0.2.2.1++(cellsX T65 a0.2.2.2.1++(cellsX T69 a0.2.2.2.2))))))] ?_
 refine AW.ret ?_
 obtain rfl:=Option.some.inj h
 exact zR [] [] []
theorem hc_hazard_isNode_1 (a1:Int) (a0:Int×Int×(El T63)×(El T65)×(El T69)) {r:Bool} (h:hazard_isNode_1 a1 a0=some r):HC Tryd.prog 70 [(1000,.box 71 (.int .i64 a0.1::(.int .i64 a0.2.1::(cellsX T63 a0.2.2.1++(cellsX T65 a0.2.2.2.1++(cellsX T69 a0.2.2.2.2))))))] [.bp 1000 0,.dp (.int .i64) a1 0] [(1000,.box 71 (.int .i64 a0.1::(.int .i64 a0.2.1::(cellsX T63 a0.2.2.1++(cellsX T65 a0.2.2.2.1++(cellsX T69 a0.2.2.2.2))))))] (.bool r):=by
 unfold hazard_isNode_1 at h
 refine zH Tryd.func70 [.tmp 3] 6 ?_
 refine zo ?_
 refine zB [(1,.dp (.int .i64) a1 0)] [(1000,.box 71 (.int .i64 a0.1::(.int .i64 a0.2.1::(cellsX T63 a0.2.2.1++(cellsX T65 a0.2.2.2.1++(cellsX T69 a0.2.2.2.2))))))] ?_
 refine zo ?_
 refine zS 1 [(4,.int .i64 a1)] [(1000,.box 71 (.int .i64 a0.1::(.int .i64 a0.2.1::(cellsX T63 a0.2.2.1++(cellsX T65 a0.2.2.2.1++(cellsX T69 a0.2.2.2.2))))))] ?_
 obtain ⟨v0,hv1,h⟩:=Option.bind_eq_some_iff.1 h
 refine zC [] [] (hc_hazard_isBelow a1 8 hv1) [(5,.bool v0)] [(1000,.box 71 (.int .i64 a0.1::(.int .i64 a0.2.1::(cellsX T63 a0.2.2.1++(cellsX T65 a0.2.2.2.1++(cellsX T69 a0.2.2.2.2))))))] ?_
 refine zB [(3,.bool v0)] [(1000,.box 71 (.int .i64 a0.1::(.int .i64 a0.2.1::(cellsX T63 a0.2.2.1++(cellsX T65 a0.2.2.2.1++(cellsX T69 a0.2.2.2.2))))))] ?_
 refine AW.ret ?_
 obtain rfl:=Option.some.inj h
 exact zR [] [] []
theorem hc_hazard_isIn_1 (a1:Int) (y:Int×Int×(El T63)×(El T65)×(El T69)) {r:Unit} (h:hazard_isIn_1 a1 y=some r):HC Tryd.prog 76 [(1000,.box 71 (.int .i64 y.1::(.int .i64 y.2.1::(cellsX T63 y.2.2.1++(cellsX T65 y.2.2.2.1++(cellsX T69 y.2.2.2.2))))))] [.bp 1000 0,.dp (.int .i64) a1 0] [(1000,.box 71 (.int .i64 y.1::(.int .i64 y.2.1::(cellsX T63 y.2.2.1++(cellsX T65 y.2.2.2.1++(cellsX T69 y.2.2.2.2))))))] (.bool (decide ((intAt T63 y.2.2.1 (a1.toNat*1))=1))):=by
 unfold hazard_isIn_1 at h
 refine zH Tryd.func76 [.tmp 3] 11 ?_
 refine zo ?_
 refine zB [(0,.bp 1000 0),(1,.dp (.int .i64) a1 0)] [(1000,.box 71 (.int .i64 y.1::(.int .i64 y.2.1::(cellsX T63 y.2.2.1++(cellsX T65 y.2.2.2.1++(cellsX T69 y.2.2.2.2))))))] ?_
 refine AW.seq ?_
 refine AW.draw tab_ok mixed_ok [] [] (by decide) (by kernel_rfl) ?_
 as_aux_lemma =>
  obtain ⟨c2,h⟩:=ck_some.1 h
  obtain ⟨c3,h⟩:=ck_some.1 h
  have hx4:(a1.toNat*1)<8:=by omega
  refine adops_cut 6 (fun K' hK1=>?_)
  try dsimp only [List.drop_succ_cons,List.drop_zero,List.take_succ_cons,List.take_zero]
  simp only [go_sem,hx4]
  repeat with_reducible refine zN ?_
  refine hK1 _ ?_
  as_aux_lemma =>
   refine adops_cut 2 (fun K' hK5=>?_)
   try dsimp only [List.drop_succ_cons,List.drop_zero,List.take_succ_cons,List.take_zero]
   simp only [go_sem,hx4]
   repeat with_reducible refine zN ?_
   refine hK5 _ ?_
   refine adops_nil ?_
   refine athen_n ?_
   refine zV [(3,.bool (decide ((intAt T63 y.2.2.1 (a1.toNat*1))=1)))] [(1000,.box 71 (.int .i64 y.1::(.int .i64 y.2.1::(cellsX T63 y.2.2.1++(cellsX T65 y.2.2.2.1++(cellsX T69 y.2.2.2.2))))))] gt ?_
   as_aux_lemma =>
    refine AW.ret ?_
    obtain rfl:=Option.some.inj h
    exact zR [] [] []
theorem hc_hazard_Yard_fails_3 (y:Int×Int×(El T63)×(El T65)×(El T69)) (c0:Int) (checks:Int) (c0_2:Int) (checks_2:Int) (c0_3:Int) (checks_3:Int) (c0_4:Int) (checks_4:Int) {r:Int} (h:hazard_Yard_fails_3 y c0 checks c0_2 checks_2 c0_3 checks_3 c0_4 checks_4=some r):HC Tryd.prog 49 [(1000,.box 71 (.int .i64 y.1::(.int .i64 y.2.1::(cellsX T63 y.2.2.1++(cellsX T65 y.2.2.2.1++(cellsX T69 y.2.2.2.2)))))),(1001,.box 81 [.fn (.func 72) [] [.dp (.int .i64) c0 0],.int .i64 checks,.fn (.func 74) [] [.dp (.int .i64) c0_2 0],.int .i64 checks_2,.fn (.func 70) [] [.dp (.int .i64) c0_3 0],.int .i64 checks_3,.fn (.func 76) [] [.dp (.int .i64) c0_4 0],.int .i64 checks_4])] [.bp 1000 0,.vw 1001 2 0 4] [(1000,.box 71 (.int .i64 y.1::(.int .i64 y.2.1::(cellsX T63 y.2.2.1++(cellsX T65 y.2.2.2.1++(cellsX T69 y.2.2.2.2)))))),(1001,.box 81 [.fn (.func 72) [] [.dp (.int .i64) c0 0],.int .i64 checks,.fn (.func 74) [] [.dp (.int .i64) c0_2 0],.int .i64 checks_2,.fn (.func 70) [] [.dp (.int .i64) c0_3 0],.int .i64 checks_3,.fn (.func 76) [] [.dp (.int .i64) c0_4 0],.int .i64 checks_4])] (.int .i64 r):=by
 unfold hazard_Yard_fails_3 at h
 refine zH Tryd.func49 [.tmp 4] 23 ?_
 refine zo ?_
 refine zB [(0,.bp 1000 0),(1,.vw 1001 2 0 4)] [(1000,.box 71 (.int .i64 y.1::(.int .i64 y.2.1::(cellsX T63 y.2.2.1++(cellsX T65 y.2.2.2.1++(cellsX T69 y.2.2.2.2)))))),(1001,.box 81 [.fn (.func 72) [] [.dp (.int .i64) c0 0],.int .i64 checks,.fn (.func 74) [] [.dp (.int .i64) c0_2 0],.int .i64 checks_2,.fn (.func 70) [] [.dp (.int .i64) c0_3 0],.int .i64 checks_3,.fn (.func 76) [] [.dp (.int .i64) c0_4 0],.int .i64 checks_4])] ?_
 refine AW.seq ?_
 refine zo ?_
 refine zS 1 [(0,.bp 1000 0),(1,.vw 1001 2 0 4),(7,.bp 1000 0)] [(1000,.box 71 (.int .i64 y.1::(.int .i64 y.2.1::(cellsX T63 y.2.2.1++(cellsX T65 y.2.2.2.1++(cellsX T69 y.2.2.2.2)))))),(1001,.box 81 [.fn (.func 72) [] [.dp (.int .i64) c0 0],.int .i64 checks,.fn (.func 74) [] [.dp (.int .i64) c0_2 0],.int .i64 checks_2,.fn (.func 70) [] [.dp (.int .i64) c0_3 0],.int .i64 checks_3,.fn (.func 76) [] [.dp (.int .i64) c0_4 0],.int .i64 checks_4])] ?_
 obtain ⟨v0,hv1,h⟩:=Option.bind_eq_some_iff.1 h
 refine zC [] [(1000,1000)] (hc_hazard_Yard_isNone y hv1) [(0,.bp 1000 0),(1,.vw 1001 2 0 4),(8,.bool (decide (y.1=0)))] [(1000,.box 71 (.int .i64 y.1::(.int .i64 y.2.1::(cellsX T63 y.2.2.1++(cellsX T65 y.2.2.2.1++(cellsX T69 y.2.2.2.2)))))),(1001,.box 81 [.fn (.func 72) [] [.dp (.int .i64) c0 0],.int .i64 checks,.fn (.func 74) [] [.dp (.int .i64) c0_2 0],.int .i64 checks_2,.fn (.func 70) [] [.dp (.int .i64) c0_3 0],.int .i64 checks_3,.fn (.func 76) [] [.dp (.int .i64) c0_4 0],.int .i64 checks_4])] ?_
 refine zB [(0,.bp 1000 0),(1,.vw 1001 2 0 4),(8,.bool (decide (y.1=0)))] [(1000,.box 71 (.int .i64 y.1::(.int .i64 y.2.1::(cellsX T63 y.2.2.1++(cellsX T65 y.2.2.2.1++(cellsX T69 y.2.2.2.2)))))),(1001,.box 81 [.fn (.func 72) [] [.dp (.int .i64) c0 0],.int .i64 checks,.fn (.func 74) [] [.dp (.int .i64) c0_2 0],.int .i64 checks_2,.fn (.func 70) [] [.dp (.int .i64) c0_3 0],.int .i64 checks_3,.fn (.func 76) [] [.dp (.int .i64) c0_4 0],.int .i64 checks_4])] ?_
 refine zQ h (fun hb2 h=>?_) (fun hb2 h=>?_)
 ·refine zo ?_
  refine zB [(4,.int .i64 60)] [(1000,.box 71 (.int .i64 y.1::(.int .i64 y.2.1::(cellsX T63 y.2.2.1++(cellsX T65 y.2.2.2.1++(cellsX T69 y.2.2.2.2)))))),(1001,.box 81 [.fn (.func 72) [] [.dp (.int .i64) c0 0],.int .i64 checks,.fn (.func 74) [] [.dp (.int .i64) c0_2 0],.int .i64 checks_2,.fn (.func 70) [] [.dp (.int .i64) c0_3 0],.int .i64 checks_3,.fn (.func 76) [] [.dp (.int .i64) c0_4 0],.int .i64 checks_4])] ?_
  refine zr ?_
  obtain rfl:=Option.some.inj h
  exact zR [] [] []
 ·refine zk ?_
  refine AW.have1 (fun _:Unit=>hazard_Yard_fails_3_k1=some r) (fun _=>⟨fr [],hpGet [(1000,.box 71 (.int .i64 y.1::(.int .i64 y.2.1::(cellsX T63 y.2.2.1++(cellsX T65 y.2.2.2.1++(cellsX T69 y.2.2.2.2)))))),(1001,.box 81 [.fn (.func 72) [] [.dp (.int .i64) c0 0],.int .i64 checks,.fn (.func 74) [] [.dp (.int .i64) c0_2 0],.int .i64 checks_2,.fn (.func 70) [] [.dp (.int .i64) c0_3 0],.int .i64 checks_3,.fn (.func 76) [] [.dp (.int .i64) c0_4 0],.int .i64 checks_4])],gt⟩) (fun _ h=>?_) (fun hk_hazard_Yard_fails_3_k1=>?_)
  ·as_aux_lemma =>
    unfold hazard_Yard_fails_3_k1 at h
    refine zo ?_
    refine zB [(4,.int .i64 0)] [(1000,.box 71 (.int .i64 y.1::(.int .i64 y.2.1::(cellsX T63 y.2.2.1++(cellsX T65 y.2.2.2.1++(cellsX T69 y.2.2.2.2)))))),(1001,.box 81 [.fn (.func 72) [] [.dp (.int .i64) c0 0],.int .i64 checks,.fn (.func 74) [] [.dp (.int .i64) c0_2 0],.int .i64 checks_2,.fn (.func 70) [] [.dp (.int .i64) c0_3 0],.int .i64 checks_3,.fn (.func 76) [] [.dp (.int .i64) c0_4 0],.int .i64 checks_4])] ?_
    refine AW.ret ?_
    obtain rfl:=Option.some.inj h
    exact zR [] [] []
  ·refine AW.seq ?_
   refine zo ?_
   refine zB [(0,.bp 1000 0),(9,.vw 1001 2 0 4),(10,.int .i64 4),(11,.int .i64 0)] [(1000,.box 71 (.int .i64 y.1::(.int .i64 y.2.1::(cellsX T63 y.2.2.1++(cellsX T65 y.2.2.2.1++(cellsX T69 y.2.2.2.2)))))),(1001,.box 81 [.fn (.func 72) [] [.dp (.int .i64) c0 0],.int .i64 checks,.fn (.func 74) [] [.dp (.int .i64) c0_2 0],.int .i64 checks_2,.fn (.func 70) [] [.dp (.int .i64) c0_3 0],.int .i64 checks_3,.fn (.func 76) [] [.dp (.int .i64) c0_4 0],.int .i64 checks_4])] ?_
   refine AW.block ?_
   refine AW.unroll 8 ?_
   refine LoopU.nx ?_
   refine zo ?_
   refine zB [(0,.bp 1000 0),(9,.vw 1001 2 0 4),(10,.int .i64 4),(11,.int .i64 0),(12,.bool true)] [(1000,.box 71 (.int .i64 y.1::(.int .i64 y.2.1::(cellsX T63 y.2.2.1++(cellsX T65 y.2.2.2.1++(cellsX T69 y.2.2.2.2)))))),(1001,.box 81 [.fn (.func 72) [] [.dp (.int .i64) c0 0],.int .i64 checks,.fn (.func 74) [] [.dp (.int .i64) c0_2 0],.int .i64 checks_2,.fn (.func 70) [] [.dp (.int .i64) c0_3 0],.int .i64 checks_3,.fn (.func 76) [] [.dp (.int .i64) c0_4 0],.int .i64 checks_4])] ?_
   refine AW.seq ?_
   refine AW.cond (b:=true) rfl (fun _=>?_) (fun hb3=>by cases hb3)
   refine zk ?_
   refine AW.seq ?_
   refine AW.block ?_
   refine zo ?_
   refine AO.idxBox tab_ok (by decide) rfl rfl tab_92 rfl tab_81 rfl rfl rfl (by decide) (by decide) (at_:=0) rfl ?_
   refine zT [(0,.bp 1000 0),(9,.vw 1001 2 0 4),(10,.int .i64 4),(11,.int .i64 0),(13,.bp 1001 0)] [(1000,.box 71 (.int .i64 y.1::(.int .i64 y.2.1::(cellsX T63 y.2.2.1++(cellsX T65 y.2.2.2.1++(cellsX T69 y.2.2.2.2)))))),(1001,.box 81 [.fn (.func 72) [] [.dp (.int .i64) c0 0],.int .i64 checks,.fn (.func 74) [] [.dp (.int .i64) c0_2 0],.int .i64 checks_2,.fn (.func 70) [] [.dp (.int .i64) c0_3 0],.int .i64 checks_3,.fn (.func 76) [] [.dp (.int .i64) c0_4 0],.int .i64 checks_4])] gt ?_
   refine zB [(0,.bp 1000 0),(6,.bp 6 0),(9,.vw 1001 2 0 4),(10,.int .i64 4),(11,.int .i64 0)] [(6,.box 81 [.fn (.func 72) [] [.dp (.int .i64) c0 0],.int .i64 checks]),(1000,.box 71 (.int .i64 y.1::(.int .i64 y.2.1::(cellsX T63 y.2.2.1++(cellsX T65 y.2.2.2.1++(cellsX T69 y.2.2.2.2)))))),(1001,.box 81 [.fn (.func 72) [] [.dp (.int .i64) c0 0],.int .i64 checks,.fn (.func 74) [] [.dp (.int .i64) c0_2 0],.int .i64 checks_2,.fn (.func 70) [] [.dp (.int .i64) c0_3 0],.int .i64 checks_3,.fn (.func 76) [] [.dp (.int .i64) c0_4 0],.int .i64 checks_4])] ?_
   refine zo ?_
   refine zS 3 [(0,.bp 1000 0),(6,.bp 6 0),(9,.vw 1001 2 0 4),(10,.int .i64 4),(11,.int .i64 0),(16,.fn (.func 72) [] [.dp (.int .i64) c0 0]),(17,.bp 1000 0)] [(6,.box 81 [.fn (.func 72) [] [.dp (.int .i64) c0 0],.int .i64 checks]),(1000,.box 71 (.int .i64 y.1::(.int .i64 y.2.1::(cellsX T63 y.2.2.1++(cellsX T65 y.2.2.2.1++(cellsX T69 y.2.2.2.2)))))),(1001,.box 81 [.fn (.func 72) [] [.dp (.int .i64) c0 0],.int .i64 checks,.fn (.func 74) [] [.dp (.int .i64) c0_2 0],.int .i64 checks_2,.fn (.func 70) [] [.dp (.int .i64) c0_3 0],.int .i64 checks_3,.fn (.func 76) [] [.dp (.int .i64) c0_4 0],.int .i64 checks_4])] ?_
   obtain ⟨v0_2,hv4,h⟩:=Option.bind_eq_some_iff.1 h
   refine zC [] [(1000,1000)] (hc_hazard_isThread_1 c0 y hv4) [(0,.bp 1000 0),(6,.bp 6 0),(9,.vw 1001 2 0 4),(10,.int .i64 4),(11,.int .i64 0),(18,.bool v0_2)] [(6,.box 81 [.fn (.func 72) [] [.dp (.int .i64) c0 0],.int .i64 checks]),(1000,.box 71 (.int .i64 y.1::(.int .i64 y.2.1::(cellsX T63 y.2.2.1++(cellsX T65 y.2.2.2.1++(cellsX T69 y.2.2.2.2)))))),(1001,.box 81 [.fn (.func 72) [] [.dp (.int .i64) c0 0],.int .i64 checks,.fn (.func 74) [] [.dp (.int .i64) c0_2 0],.int .i64 checks_2,.fn (.func 70) [] [.dp (.int .i64) c0_3 0],.int .i64 checks_3,.fn (.func 76) [] [.dp (.int .i64) c0_4 0],.int .i64 checks_4])] ?_
   refine zB [(0,.bp 1000 0),(6,.bp 6 0),(9,.vw 1001 2 0 4),(10,.int .i64 4),(11,.int .i64 0),(19,.bool (!v0_2))] [(6,.box 81 [.fn (.func 72) [] [.dp (.int .i64) c0 0],.int .i64 checks]),(1000,.box 71 (.int .i64 y.1::(.int .i64 y.2.1::(cellsX T63 y.2.2.1++(cellsX T65 y.2.2.2.1++(cellsX T69 y.2.2.2.2)))))),(1001,.box 81 [.fn (.func 72) [] [.dp (.int .i64) c0 0],.int .i64 checks,.fn (.func 74) [] [.dp (.int .i64) c0_2 0],.int .i64 checks_2,.fn (.func 70) [] [.dp (.int .i64) c0_3 0],.int .i64 checks_3,.fn (.func 76) [] [.dp (.int .i64) c0_4 0],.int .i64 checks_4])] ?_
   refine zQ h (fun hb5 h=>?_) (fun hb5 h=>?_)
   ·refine zo ?_
    refine zB [(4,.int .i64 checks)] [(1000,.box 71 (.int .i64 y.1::(.int .i64 y.2.1::(cellsX T63 y.2.2.1++(cellsX T65 y.2.2.2.1++(cellsX T69 y.2.2.2.2)))))),(1001,.box 81 [.fn (.func 72) [] [.dp (.int .i64) c0 0],.int .i64 checks,.fn (.func 74) [] [.dp (.int .i64) c0_2 0],.int .i64 checks_2,.fn (.func 70) [] [.dp (.int .i64) c0_3 0],.int .i64 checks_3,.fn (.func 76) [] [.dp (.int .i64) c0_4 0],.int .i64 checks_4])] ?_
    refine AW.ret ?_
    refine ablock_r ?_
    refine athen_r ?_
    refine athen_r ?_
    refine ablock_r ?_
    refine athen_r ?_
    obtain rfl:=Option.some.inj h
    exact zR [] [] []
   ·refine zm ?_
    refine athen_n ?_
    refine AW.ops ?_
    obtain ⟨c6,h⟩:=ck_some.1 h
    refine zA [(0,.bp 1000 0),(9,.vw 1001 2 0 4),(10,.int .i64 4),(11,.int .i64 1)] [(1000,.box 71 (.int .i64 y.1::(.int .i64 y.2.1::(cellsX T63 y.2.2.1++(cellsX T65 y.2.2.2.1++(cellsX T69 y.2.2.2.2)))))),(1001,.box 81 [.fn (.func 72) [] [.dp (.int .i64) c0 0],.int .i64 checks,.fn (.func 74) [] [.dp (.int .i64) c0_2 0],.int .i64 checks_2,.fn (.func 70) [] [.dp (.int .i64) c0_3 0],.int .i64 checks_3,.fn (.func 76) [] [.dp (.int .i64) c0_4 0],.int .i64 checks_4])] ?_
    refine LoopU.at_ ?_
    refine LoopU.nx ?_
    refine zo ?_
    refine zB [(0,.bp 1000 0),(9,.vw 1001 2 0 4),(10,.int .i64 4),(11,.int .i64 1),(12,.bool true)] [(1000,.box 71 (.int .i64 y.1::(.int .i64 y.2.1::(cellsX T63 y.2.2.1++(cellsX T65 y.2.2.2.1++(cellsX T69 y.2.2.2.2)))))),(1001,.box 81 [.fn (.func 72) [] [.dp (.int .i64) c0 0],.int .i64 checks,.fn (.func 74) [] [.dp (.int .i64) c0_2 0],.int .i64 checks_2,.fn (.func 70) [] [.dp (.int .i64) c0_3 0],.int .i64 checks_3,.fn (.func 76) [] [.dp (.int .i64) c0_4 0],.int .i64 checks_4])] ?_
    refine AW.seq ?_
    refine AW.cond (b:=true) rfl (fun _=>?_) (fun hb7=>by cases hb7)
    refine zk ?_
    refine AW.seq ?_
    refine AW.block ?_
    refine zo ?_
    refine AO.idxBox tab_ok (by decide) rfl rfl tab_92 rfl tab_81 rfl rfl rfl (by decide) (by decide) (at_:=2) rfl ?_
    refine zT [(0,.bp 1000 0),(9,.vw 1001 2 0 4),(10,.int .i64 4),(11,.int .i64 1),(13,.bp 1001 2)] [(1000,.box 71 (.int .i64 y.1::(.int .i64 y.2.1::(cellsX T63 y.2.2.1++(cellsX T65 y.2.2.2.1++(cellsX T69 y.2.2.2.2)))))),(1001,.box 81 [.fn (.func 72) [] [.dp (.int .i64) c0 0],.int .i64 checks,.fn (.func 74) [] [.dp (.int .i64) c0_2 0],.int .i64 checks_2,.fn (.func 70) [] [.dp (.int .i64) c0_3 0],.int .i64 checks_3,.fn (.func 76) [] [.dp (.int .i64) c0_4 0],.int .i64 checks_4])] gt ?_
    refine zB [(0,.bp 1000 0),(6,.bp 6 0),(9,.vw 1001 2 0 4),(10,.int .i64 4),(11,.int .i64 1)] [(6,.box 81 [.fn (.func 74) [] [.dp (.int .i64) c0_2 0],.int .i64 checks_2]),(1000,.box 71 (.int .i64 y.1::(.int .i64 y.2.1::(cellsX T63 y.2.2.1++(cellsX T65 y.2.2.2.1++(cellsX T69 y.2.2.2.2)))))),(1001,.box 81 [.fn (.func 72) [] [.dp (.int .i64) c0 0],.int .i64 checks,.fn (.func 74) [] [.dp (.int .i64) c0_2 0],.int .i64 checks_2,.fn (.func 70) [] [.dp (.int .i64) c0_3 0],.int .i64 checks_3,.fn (.func 76) [] [.dp (.int .i64) c0_4 0],.int .i64 checks_4])] ?_
    refine zo ?_
    refine zS 3 [(0,.bp 1000 0),(6,.bp 6 0),(9,.vw 1001 2 0 4),(10,.int .i64 4),(11,.int .i64 1),(16,.fn (.func 74) [] [.dp (.int .i64) c0_2 0]),(17,.bp 1000 0)] [(6,.box 81 [.fn (.func 74) [] [.dp (.int .i64) c0_2 0],.int .i64 checks_2]),(1000,.box 71 (.int .i64 y.1::(.int .i64 y.2.1::(cellsX T63 y.2.2.1++(cellsX T65 y.2.2.2.1++(cellsX T69 y.2.2.2.2)))))),(1001,.box 81 [.fn (.func 72) [] [.dp (.int .i64) c0 0],.int .i64 checks,.fn (.func 74) [] [.dp (.int .i64) c0_2 0],.int .i64 checks_2,.fn (.func 70) [] [.dp (.int .i64) c0_3 0],.int .i64 checks_3,.fn (.func 76) [] [.dp (.int .i64) c0_4 0],.int .i64 checks_4])] ?_
    obtain ⟨v0_3,hv8,h⟩:=Option.bind_eq_some_iff.1 h
    refine zC [] [(1000,1000)] (hc_hazard_isSlot_1 c0_2 y hv8) [(0,.bp 1000 0),(6,.bp 6 0),(9,.vw 1001 2 0 4),(10,.int .i64 4),(11,.int .i64 1),(18,.bool v0_3)] [(6,.box 81 [.fn (.func 74) [] [.dp (.int .i64) c0_2 0],.int .i64 checks_2]),(1000,.box 71 (.int .i64 y.1::(.int .i64 y.2.1::(cellsX T63 y.2.2.1++(cellsX T65 y.2.2.2.1++(cellsX T69 y.2.2.2.2)))))),(1001,.box 81 [.fn (.func 72) [] [.dp (.int .i64) c0 0],.int .i64 checks,.fn (.func 74) [] [.dp (.int .i64) c0_2 0],.int .i64 checks_2,.fn (.func 70) [] [.dp (.int .i64) c0_3 0],.int .i64 checks_3,.fn (.func 76) [] [.dp (.int .i64) c0_4 0],.int .i64 checks_4])] ?_
    refine zB [(0,.bp 1000 0),(6,.bp 6 0),(9,.vw 1001 2 0 4),(10,.int .i64 4),(11,.int .i64 1),(19,.bool (!v0_3))] [(6,.box 81 [.fn (.func 74) [] [.dp (.int .i64) c0_2 0],.int .i64 checks_2]),(1000,.box 71 (.int .i64 y.1::(.int .i64 y.2.1::(cellsX T63 y.2.2.1++(cellsX T65 y.2.2.2.1++(cellsX T69 y.2.2.2.2)))))),(1001,.box 81 [.fn (.func 72) [] [.dp (.int .i64) c0 0],.int .i64 checks,.fn (.func 74) [] [.dp (.int .i64) c0_2 0],.int .i64 checks_2,.fn (.func 70) [] [.dp (.int .i64) c0_3 0],.int .i64 checks_3,.fn (.func 76) [] [.dp (.int .i64) c0_4 0],.int .i64 checks_4])] ?_
    refine zQ h (fun hb9 h=>?_) (fun hb9 h=>?_)
    ·refine zo ?_
     refine zB [(4,.int .i64 checks_2)] [(1000,.box 71 (.int .i64 y.1::(.int .i64 y.2.1::(cellsX T63 y.2.2.1++(cellsX T65 y.2.2.2.1++(cellsX T69 y.2.2.2.2)))))),(1001,.box 81 [.fn (.func 72) [] [.dp (.int .i64) c0 0],.int .i64 checks,.fn (.func 74) [] [.dp (.int .i64) c0_2 0],.int .i64 checks_2,.fn (.func 70) [] [.dp (.int .i64) c0_3 0],.int .i64 checks_3,.fn (.func 76) [] [.dp (.int .i64) c0_4 0],.int .i64 checks_4])] ?_
     refine AW.ret ?_
     refine ablock_r ?_
     refine athen_r ?_
     refine athen_r ?_
     refine ablock_r ?_
     refine athen_r ?_
     obtain rfl:=Option.some.inj h
     exact zR [] [] []
    ·refine zm ?_
     refine athen_n ?_
     refine AW.ops ?_
     obtain ⟨c10,h⟩:=ck_some.1 h
     refine zA [(0,.bp 1000 0),(9,.vw 1001 2 0 4),(10,.int .i64 4),(11,.int .i64 2)] [(1000,.box 71 (.int .i64 y.1::(.int .i64 y.2.1::(cellsX T63 y.2.2.1++(cellsX T65 y.2.2.2.1++(cellsX T69 y.2.2.2.2)))))),(1001,.box 81 [.fn (.func 72) [] [.dp (.int .i64) c0 0],.int .i64 checks,.fn (.func 74) [] [.dp (.int .i64) c0_2 0],.int .i64 checks_2,.fn (.func 70) [] [.dp (.int .i64) c0_3 0],.int .i64 checks_3,.fn (.func 76) [] [.dp (.int .i64) c0_4 0],.int .i64 checks_4])] ?_
     refine LoopU.at_ ?_
     refine LoopU.nx ?_
     refine zo ?_
     refine zB [(0,.bp 1000 0),(9,.vw 1001 2 0 4),(10,.int .i64 4),(11,.int .i64 2),(12,.bool true)] [(1000,.box 71 (.int .i64 y.1::(.int .i64 y.2.1::(cellsX T63 y.2.2.1++(cellsX T65 y.2.2.2.1++(cellsX T69 y.2.2.2.2)))))),(1001,.box 81 [.fn (.func 72) [] [.dp (.int .i64) c0 0],.int .i64 checks,.fn (.func 74) [] [.dp (.int .i64) c0_2 0],.int .i64 checks_2,.fn (.func 70) [] [.dp (.int .i64) c0_3 0],.int .i64 checks_3,.fn (.func 76) [] [.dp (.int .i64) c0_4 0],.int .i64 checks_4])] ?_
     refine AW.seq ?_
     refine AW.cond (b:=true) rfl (fun _=>?_) (fun hb11=>by cases hb11)
     refine zk ?_
     refine AW.seq ?_
     refine AW.block ?_
     refine zo ?_
     refine AO.idxBox tab_ok (by decide) rfl rfl tab_92 rfl tab_81 rfl rfl rfl (by decide) (by decide) (at_:=4) rfl ?_
     refine zT [(0,.bp 1000 0),(9,.vw 1001 2 0 4),(10,.int .i64 4),(11,.int .i64 2),(13,.bp 1001 4)] [(1000,.box 71 (.int .i64 y.1::(.int .i64 y.2.1::(cellsX T63 y.2.2.1++(cellsX T65 y.2.2.2.1++(cellsX T69 y.2.2.2.2)))))),(1001,.box 81 [.fn (.func 72) [] [.dp (.int .i64) c0 0],.int .i64 checks,.fn (.func 74) [] [.dp (.int .i64) c0_2 0],.int .i64 checks_2,.fn (.func 70) [] [.dp (.int .i64) c0_3 0],.int .i64 checks_3,.fn (.func 76) [] [.dp (.int .i64) c0_4 0],.int .i64 checks_4])] gt ?_
     refine zB [(0,.bp 1000 0),(6,.bp 6 0),(9,.vw 1001 2 0 4),(10,.int .i64 4),(11,.int .i64 2)] [(6,.box 81 [.fn (.func 70) [] [.dp (.int .i64) c0_3 0],.int .i64 checks_3]),(1000,.box 71 (.int .i64 y.1::(.int .i64 y.2.1::(cellsX T63 y.2.2.1++(cellsX T65 y.2.2.2.1++(cellsX T69 y.2.2.2.2)))))),(1001,.box 81 [.fn (.func 72) [] [.dp (.int .i64) c0 0],.int .i64 checks,.fn (.func 74) [] [.dp (.int .i64) c0_2 0],.int .i64 checks_2,.fn (.func 70) [] [.dp (.int .i64) c0_3 0],.int .i64 checks_3,.fn (.func 76) [] [.dp (.int .i64) c0_4 0],.int .i64 checks_4])] ?_
     refine zo ?_
     refine zS 3 [(0,.bp 1000 0),(6,.bp 6 0),(9,.vw 1001 2 0 4),(10,.int .i64 4),(11,.int .i64 2),(16,.fn (.func 70) [] [.dp (.int .i64) c0_3 0]),(17,.bp 1000 0)] [(6,.box 81 [.fn (.func 70) [] [.dp (.int .i64) c0_3 0],.int .i64 checks_3]),(1000,.box 71 (.int .i64 y.1::(.int .i64 y.2.1::(cellsX T63 y.2.2.1++(cellsX T65 y.2.2.2.1++(cellsX T69 y.2.2.2.2)))))),(1001,.box 81 [.fn (.func 72) [] [.dp (.int .i64) c0 0],.int .i64 checks,.fn (.func 74) [] [.dp (.int .i64) c0_2 0],.int .i64 checks_2,.fn (.func 70) [] [.dp (.int .i64) c0_3 0],.int .i64 checks_3,.fn (.func 76) [] [.dp (.int .i64) c0_4 0],.int .i64 checks_4])] ?_
     obtain ⟨v0_4,hv12,h⟩:=Option.bind_eq_some_iff.1 h
     refine zC [] [(1000,1000)] (hc_hazard_isNode_1 c0_3 y hv12) [(0,.bp 1000 0),(6,.bp 6 0),(9,.vw 1001 2 0 4),(10,.int .i64 4),(11,.int .i64 2),(18,.bool v0_4)] [(6,.box 81 [.fn (.func 70) [] [.dp (.int .i64) c0_3 0],.int .i64 checks_3]),(1000,.box 71 (.int .i64 y.1::(.int .i64 y.2.1::(cellsX T63 y.2.2.1++(cellsX T65 y.2.2.2.1++(cellsX T69 y.2.2.2.2)))))),(1001,.box 81 [.fn (.func 72) [] [.dp (.int .i64) c0 0],.int .i64 checks,.fn (.func 74) [] [.dp (.int .i64) c0_2 0],.int .i64 checks_2,.fn (.func 70) [] [.dp (.int .i64) c0_3 0],.int .i64 checks_3,.fn (.func 76) [] [.dp (.int .i64) c0_4 0],.int .i64 checks_4])] ?_
     refine zB [(0,.bp 1000 0),(6,.bp 6 0),(9,.vw 1001 2 0 4),(10,.int .i64 4),(11,.int .i64 2),(19,.bool (!v0_4))] [(6,.box 81 [.fn (.func 70) [] [.dp (.int .i64) c0_3 0],.int .i64 checks_3]),(1000,.box 71 (.int .i64 y.1::(.int .i64 y.2.1::(cellsX T63 y.2.2.1++(cellsX T65 y.2.2.2.1++(cellsX T69 y.2.2.2.2)))))),(1001,.box 81 [.fn (.func 72) [] [.dp (.int .i64) c0 0],.int .i64 checks,.fn (.func 74) [] [.dp (.int .i64) c0_2 0],.int .i64 checks_2,.fn (.func 70) [] [.dp (.int .i64) c0_3 0],.int .i64 checks_3,.fn (.func 76) [] [.dp (.int .i64) c0_4 0],.int .i64 checks_4])] ?_
     refine zQ h (fun hb13 h=>?_) (fun hb13 h=>?_)
     ·refine zo ?_
      refine zB [(4,.int .i64 checks_3)] [(1000,.box 71 (.int .i64 y.1::(.int .i64 y.2.1::(cellsX T63 y.2.2.1++(cellsX T65 y.2.2.2.1++(cellsX T69 y.2.2.2.2)))))),(1001,.box 81 [.fn (.func 72) [] [.dp (.int .i64) c0 0],.int .i64 checks,.fn (.func 74) [] [.dp (.int .i64) c0_2 0],.int .i64 checks_2,.fn (.func 70) [] [.dp (.int .i64) c0_3 0],.int .i64 checks_3,.fn (.func 76) [] [.dp (.int .i64) c0_4 0],.int .i64 checks_4])] ?_
      refine AW.ret ?_
      refine ablock_r ?_
      refine athen_r ?_
      refine athen_r ?_
      refine ablock_r ?_
      refine athen_r ?_
      obtain rfl:=Option.some.inj h
      exact zR [] [] []
     ·refine zm ?_
      refine athen_n ?_
      refine AW.ops ?_
      obtain ⟨c14,h⟩:=ck_some.1 h
      refine zA [(0,.bp 1000 0),(9,.vw 1001 2 0 4),(10,.int .i64 4),(11,.int .i64 3)] [(1000,.box 71 (.int .i64 y.1::(.int .i64 y.2.1::(cellsX T63 y.2.2.1++(cellsX T65 y.2.2.2.1++(cellsX T69 y.2.2.2.2)))))),(1001,.box 81 [.fn (.func 72) [] [.dp (.int .i64) c0 0],.int .i64 checks,.fn (.func 74) [] [.dp (.int .i64) c0_2 0],.int .i64 checks_2,.fn (.func 70) [] [.dp (.int .i64) c0_3 0],.int .i64 checks_3,.fn (.func 76) [] [.dp (.int .i64) c0_4 0],.int .i64 checks_4])] ?_
      refine LoopU.at_ ?_
      refine LoopU.nx ?_
      refine zo ?_
      refine zB [(0,.bp 1000 0),(9,.vw 1001 2 0 4),(10,.int .i64 4),(11,.int .i64 3),(12,.bool true)] [(1000,.box 71 (.int .i64 y.1::(.int .i64 y.2.1::(cellsX T63 y.2.2.1++(cellsX T65 y.2.2.2.1++(cellsX T69 y.2.2.2.2)))))),(1001,.box 81 [.fn (.func 72) [] [.dp (.int .i64) c0 0],.int .i64 checks,.fn (.func 74) [] [.dp (.int .i64) c0_2 0],.int .i64 checks_2,.fn (.func 70) [] [.dp (.int .i64) c0_3 0],.int .i64 checks_3,.fn (.func 76) [] [.dp (.int .i64) c0_4 0],.int .i64 checks_4])] ?_
      refine AW.seq ?_
      refine AW.cond (b:=true) rfl (fun _=>?_) (fun hb15=>by cases hb15)
      refine zk ?_
      refine AW.seq ?_
      refine AW.block ?_
      refine zo ?_
      refine AO.idxBox tab_ok (by decide) rfl rfl tab_92 rfl tab_81 rfl rfl rfl (by decide) (by decide) (at_:=6) rfl ?_
      refine zT [(0,.bp 1000 0),(9,.vw 1001 2 0 4),(10,.int .i64 4),(11,.int .i64 3),(13,.bp 1001 6)] [(1000,.box 71 (.int .i64 y.1::(.int .i64 y.2.1::(cellsX T63 y.2.2.1++(cellsX T65 y.2.2.2.1++(cellsX T69 y.2.2.2.2)))))),(1001,.box 81 [.fn (.func 72) [] [.dp (.int .i64) c0 0],.int .i64 checks,.fn (.func 74) [] [.dp (.int .i64) c0_2 0],.int .i64 checks_2,.fn (.func 70) [] [.dp (.int .i64) c0_3 0],.int .i64 checks_3,.fn (.func 76) [] [.dp (.int .i64) c0_4 0],.int .i64 checks_4])] gt ?_
      refine zB [(0,.bp 1000 0),(6,.bp 6 0),(9,.vw 1001 2 0 4),(10,.int .i64 4),(11,.int .i64 3)] [(6,.box 81 [.fn (.func 76) [] [.dp (.int .i64) c0_4 0],.int .i64 checks_4]),(1000,.box 71 (.int .i64 y.1::(.int .i64 y.2.1::(cellsX T63 y.2.2.1++(cellsX T65 y.2.2.2.1++(cellsX T69 y.2.2.2.2)))))),(1001,.box 81 [.fn (.func 72) [] [.dp (.int .i64) c0 0],.int .i64 checks,.fn (.func 74) [] [.dp (.int .i64) c0_2 0],.int .i64 checks_2,.fn (.func 70) [] [.dp (.int .i64) c0_3 0],.int .i64 checks_3,.fn (.func 76) [] [.dp (.int .i64) c0_4 0],.int .i64 checks_4])] ?_
      refine zo ?_
      refine zS 3 [(0,.bp 1000 0),(6,.bp 6 0),(9,.vw 1001 2 0 4),(10,.int .i64 4),(11,.int .i64 3),(16,.fn (.func 76) [] [.dp (.int .i64) c0_4 0]),(17,.bp 1000 0)] [(6,.box 81 [.fn (.func 76) [] [.dp (.int .i64) c0_4 0],.int .i64 checks_4]),(1000,.box 71 (.int .i64 y.1::(.int .i64 y.2.1::(cellsX T63 y.2.2.1++(cellsX T65 y.2.2.2.1++(cellsX T69 y.2.2.2.2)))))),(1001,.box 81 [.fn (.func 72) [] [.dp (.int .i64) c0 0],.int .i64 checks,.fn (.func 74) [] [.dp (.int .i64) c0_2 0],.int .i64 checks_2,.fn (.func 70) [] [.dp (.int .i64) c0_3 0],.int .i64 checks_3,.fn (.func 76) [] [.dp (.int .i64) c0_4 0],.int .i64 checks_4])] ?_
      obtain ⟨v0_5,hv16,h⟩:=Option.bind_eq_some_iff.1 h
      refine zC [] [(1000,1000)] (hc_hazard_isIn_1 c0_4 y hv16) [(0,.bp 1000 0),(6,.bp 6 0),(9,.vw 1001 2 0 4),(10,.int .i64 4),(11,.int .i64 3),(18,.bool (decide ((intAt T63 y.2.2.1 (c0_4.toNat*1))=1)))] [(6,.box 81 [.fn (.func 76) [] [.dp (.int .i64) c0_4 0],.int .i64 checks_4]),(1000,.box 71 (.int .i64 y.1::(.int .i64 y.2.1::(cellsX T63 y.2.2.1++(cellsX T65 y.2.2.2.1++(cellsX T69 y.2.2.2.2)))))),(1001,.box 81 [.fn (.func 72) [] [.dp (.int .i64) c0 0],.int .i64 checks,.fn (.func 74) [] [.dp (.int .i64) c0_2 0],.int .i64 checks_2,.fn (.func 70) [] [.dp (.int .i64) c0_3 0],.int .i64 checks_3,.fn (.func 76) [] [.dp (.int .i64) c0_4 0],.int .i64 checks_4])] ?_
      refine zB [(0,.bp 1000 0),(6,.bp 6 0),(9,.vw 1001 2 0 4),(10,.int .i64 4),(11,.int .i64 3),(19,.bool (!(decide ((intAt T63 y.2.2.1 (c0_4.toNat*1))=1))))] [(6,.box 81 [.fn (.func 76) [] [.dp (.int .i64) c0_4 0],.int .i64 checks_4]),(1000,.box 71 (.int .i64 y.1::(.int .i64 y.2.1::(cellsX T63 y.2.2.1++(cellsX T65 y.2.2.2.1++(cellsX T69 y.2.2.2.2)))))),(1001,.box 81 [.fn (.func 72) [] [.dp (.int .i64) c0 0],.int .i64 checks,.fn (.func 74) [] [.dp (.int .i64) c0_2 0],.int .i64 checks_2,.fn (.func 70) [] [.dp (.int .i64) c0_3 0],.int .i64 checks_3,.fn (.func 76) [] [.dp (.int .i64) c0_4 0],.int .i64 checks_4])] ?_
      refine zQ h (fun hb17 h=>?_) (fun hb17 h=>?_)
      ·refine zo ?_
       refine zB [(4,.int .i64 checks_4)] [(1000,.box 71 (.int .i64 y.1::(.int .i64 y.2.1::(cellsX T63 y.2.2.1++(cellsX T65 y.2.2.2.1++(cellsX T69 y.2.2.2.2)))))),(1001,.box 81 [.fn (.func 72) [] [.dp (.int .i64) c0 0],.int .i64 checks,.fn (.func 74) [] [.dp (.int .i64) c0_2 0],.int .i64 checks_2,.fn (.func 70) [] [.dp (.int .i64) c0_3 0],.int .i64 checks_3,.fn (.func 76) [] [.dp (.int .i64) c0_4 0],.int .i64 checks_4])] ?_
       refine AW.ret ?_
       refine ablock_r ?_
       refine athen_r ?_
       refine athen_r ?_
       refine ablock_r ?_
       refine athen_r ?_
       obtain rfl:=Option.some.inj h
       exact zR [] [] []
      ·refine zm ?_
       refine athen_n ?_
       refine AW.ops ?_
       obtain ⟨c18,h⟩:=ck_some.1 h
       refine zA [(0,.bp 1000 0),(9,.vw 1001 2 0 4),(10,.int .i64 4),(11,.int .i64 4)] [(1000,.box 71 (.int .i64 y.1::(.int .i64 y.2.1::(cellsX T63 y.2.2.1++(cellsX T65 y.2.2.2.1++(cellsX T69 y.2.2.2.2)))))),(1001,.box 81 [.fn (.func 72) [] [.dp (.int .i64) c0 0],.int .i64 checks,.fn (.func 74) [] [.dp (.int .i64) c0_2 0],.int .i64 checks_2,.fn (.func 70) [] [.dp (.int .i64) c0_3 0],.int .i64 checks_3,.fn (.func 76) [] [.dp (.int .i64) c0_4 0],.int .i64 checks_4])] ?_
       refine LoopU.at_ ?_
       refine LoopU.nx ?_
       refine zo ?_
       refine zB [(0,.bp 1000 0),(9,.vw 1001 2 0 4),(10,.int .i64 4),(11,.int .i64 4),(12,.bool false)] [(1000,.box 71 (.int .i64 y.1::(.int .i64 y.2.1::(cellsX T63 y.2.2.1++(cellsX T65 y.2.2.2.1++(cellsX T69 y.2.2.2.2)))))),(1001,.box 81 [.fn (.func 72) [] [.dp (.int .i64) c0 0],.int .i64 checks,.fn (.func 74) [] [.dp (.int .i64) c0_2 0],.int .i64 checks_2,.fn (.func 70) [] [.dp (.int .i64) c0_3 0],.int .i64 checks_3,.fn (.func 76) [] [.dp (.int .i64) c0_4 0],.int .i64 checks_4])] ?_
       refine AW.seq ?_
       refine AW.cond (b:=false) rfl (fun hb19=>by cases hb19) (fun _=>?_)
       refine AW.exit ?_
       refine athen_e ?_
       refine athen_e ?_
       refine ablock_s ?_
       refine athen_n ?_
       exact AW.weaken (zL [] [] []) (hk_hazard_Yard_fails_3_k1 () h)
end Go.Proofs.YtcckpmeepcoafaaDoor
