import Derived.Test.YtcckpmeepcoafaaDoorHzp
import Derived.Test.YtcckpmeepcoafaaDoorShz
import Derived.Test.YtcckpmeepcoafaaDoorAvd
import Derived.Test.YtcckpmeepcoafaaDoorHhc1
import Derived.Test.YtcckpmeepcoafaaDoorHhc2
import Derived.Test.YtcckpmeepcoafaaDoorHhc4
namespace Go.Proofs.YtcckpmeepcoafaaDoor
open Go.RowKit
set_option linter.unusedSimpArgs false
set_option linter.unusedVariables false
set_option linter.constructorNameAsVariable false
set_option maxRecDepth 100000
set_option maxHeartbeats 40000000
theorem hc_hazard_Yard_sweep (thread:Int) (y:Int×Int×(El T63)×(El T65)×(El T69)) {r:Int×(El T63)×(El T69)} (h:hazard_Yard_sweep thread y=some r):HC Tryd.prog 63 [(1000,.box 71 (.int .i64 y.1::(.int .i64 y.2.1::(cellsX T63 y.2.2.1++(cellsX T65 y.2.2.2.1++(cellsX T69 y.2.2.2.2))))))] [.bp 1000 0,.int .i64 thread] [(1000,.box 71 (.int .i64 y.1::(.int .i64 y.2.1::(cellsX T63 r.2.1++(cellsX T65 y.2.2.2.1++(cellsX T69 r.2.2))))))] (.int .i64 r.1):=by
 unfold hazard_Yard_sweep at h
 refine zH Tryd.func63 [.tmp 4] 44 ?_
 refine zo ?_
 refine zB [(0,.bp 1000 0),(1,.int .i64 thread)] [(1000,.box 71 (.int .i64 y.1::(.int .i64 y.2.1::(cellsX T63 y.2.2.1++(cellsX T65 y.2.2.2.1++(cellsX T69 y.2.2.2.2))))))] ?_
 refine zo ?_
 refine zB [(0,.bp 1000 0),(1,.int .i64 thread),(5,.bp 5 0)] [(5,.box 68 (.int .i64 0::(cellsX T66 (Ty.dflt T66)))),(1000,.box 71 (.int .i64 y.1::(.int .i64 y.2.1::(cellsX T63 y.2.2.1++(cellsX T65 y.2.2.2.1++(cellsX T69 y.2.2.2.2))))))] ?_
 refine zo ?_
 obtain ⟨c1,h⟩:=ck_some.1 h
 obtain ⟨c2,h⟩:=ck_some.1 h
 refine zS 5 [(0,.bp 1000 0),(1,.int .i64 thread),(5,.bp 5 0),(13,.bp 1000 (18+thread.toNat*9))] [(5,.box 68 (.int .i64 0::(cellsX T66 (Ty.dflt T66)))),(1000,.box 71 (.int .i64 y.1::(.int .i64 y.2.1::(cellsX T63 y.2.2.1++(cellsX T65 y.2.2.2.1++(cellsX T69 y.2.2.2.2))))))] ?_
 have hx3:((thread.toNat*9)+9)≤36:=by omega
 refine zS 1 [(0,.bp 1000 0),(1,.int .i64 thread),(5,.bp 5 0),(14,.agg (.int .i64 (intAt T69 y.2.2.2.2 (thread.toNat*9))::(cellsX T66 (subX T69 y.2.2.2.2 T66 ((thread.toNat*9)+1)))))] [(5,.box 68 (.int .i64 0::(cellsX T66 (Ty.dflt T66)))),(1000,.box 71 (.int .i64 y.1::(.int .i64 y.2.1::(cellsX T63 y.2.2.1++(cellsX T65 y.2.2.2.1++(cellsX T69 y.2.2.2.2))))))] ?_
 obtain ⟨v0,hv4,h⟩:=Option.bind_eq_some_iff.1 h
 refine zC [] [] (hc_hazard_list_all ((intAt T69 y.2.2.2.2 (thread.toNat*9)),(subX T69 y.2.2.2.2 T66 ((thread.toNat*9)+1))) hv4) [(0,.bp 1000 0),(1,.int .i64 thread),(5,.bp 5 0),(15,.own 25000)] [(5,.box 68 (.int .i64 0::(cellsX T66 (Ty.dflt T66)))),(1000,.box 71 (.int .i64 y.1::(.int .i64 y.2.1::(cellsX T63 y.2.2.1++(cellsX T65 y.2.2.2.1++(cellsX T69 y.2.2.2.2)))))),(25000,.arr 3 (.int .i64) v0)] ?_
 refine zB [(0,.bp 1000 0),(1,.int .i64 thread),(5,.bp 5 0),(6,.own 25000)] [(5,.box 68 (.int .i64 0::(cellsX T66 (Ty.dflt T66)))),(1000,.box 71 (.int .i64 y.1::(.int .i64 y.2.1::(cellsX T63 y.2.2.1++(cellsX T65 y.2.2.2.1++(cellsX T69 y.2.2.2.2)))))),(25000,.arr 3 (.int .i64) v0)] ?_
 refine AW.have1 (fun b1:(El T63)×Int×(El T66)=>hazard_Yard_sweep_k1 thread y v0 b1=some r) (fun b1=>⟨fr [(0,.bp 1000 0),(1,.int .i64 thread),(5,.bp 5 0),(6,.own 25000)],hpGet [(5,.box 68 (.int .i64 b1.2.1::(cellsX T66 b1.2.2))),(1000,.box 71 (.int .i64 y.1::(.int .i64 y.2.1::(cellsX T63 b1.1++(cellsX T65 y.2.2.2.1++(cellsX T69 y.2.2.2.2)))))),(25000,.arr 3 (.int .i64) v0)],gt⟩) (fun b1 h=>?_) (fun hk_hazard_Yard_sweep_k1=>?_)
 ·as_aux_lemma =>
   unfold hazard_Yard_sweep_k1 at h
   refine AW.seq ?_
   refine AW.draw tab_ok mixed_ok [(6,[1000])] [] (by decide) (by kernel_rfl) ?_
   as_aux_lemma =>
    obtain ⟨c6,h⟩:=ck_some.1 h
    obtain ⟨c7,h⟩:=ck_some.1 h
    refine adops_cut 6 (fun K' hK5=>?_)
    try dsimp only [List.drop_succ_cons,List.drop_zero,List.take_succ_cons,List.take_zero]
    simp only [go_sem,hx3]
    repeat with_reducible refine zN ?_
    refine hK5 _ ?_
    as_aux_lemma =>
     have hx9:((thread.toNat*9)+9)≤36:=by omega
     refine adops_cut 1 (fun K' hK8=>?_)
     try dsimp only [List.drop_succ_cons,List.drop_zero,List.take_succ_cons,List.take_zero]
     simp only [go_sem,hx3,hx9]
     repeat with_reducible refine zN ?_
     refine hK8 _ ?_
     refine adops_nil ?_
     refine athen_n ?_
     refine zV [(5,.bp 5 0),(6,.own 25000)] [(5,.box 68 (.int .i64 b1.2.1::(cellsX T66 b1.2.2))),(1000,.box 71 (.int .i64 y.1::(.int .i64 y.2.1::(cellsX T63 b1.1++(cellsX T65 y.2.2.2.1++(cellsX T69 (putX T69 (.pair (.int .i64) T66) y.2.2.2.2 (thread.toNat*9) b1.2))))))),(25000,.arr 3 (.int .i64) v0)] gt ?_
     as_aux_lemma =>
      refine zo ?_
      obtain ⟨c10,h⟩:=ck_some.1 h
      refine zS 5 [(43,.int .i64 ((v0.length:Int) - b1.2.1))] [(1000,.box 71 (.int .i64 y.1::(.int .i64 y.2.1::(cellsX T63 b1.1++(cellsX T65 y.2.2.2.1++(cellsX T69 (putX T69 (.pair (.int .i64) T66) y.2.2.2.2 (thread.toNat*9) b1.2)))))))] ?_
      refine zB [(4,.int .i64 ((v0.length:Int) - b1.2.1))] [(1000,.box 71 (.int .i64 y.1::(.int .i64 y.2.1::(cellsX T63 b1.1++(cellsX T65 y.2.2.2.1++(cellsX T69 (putX T69 (.pair (.int .i64) T66) y.2.2.2.2 (thread.toNat*9) b1.2)))))))] ?_
      refine AW.ret ?_
      obtain rfl:=Option.some.inj h
      exact zR [] [] []
 ·refine AW.seq ?_
  refine zo ?_
  refine zB [(0,.bp 1000 0),(1,.int .i64 thread),(5,.bp 5 0),(6,.own 25000),(16,.own 25000),(17,.int .i64 (v0.length:Int)),(18,.int .i64 0)] [(5,.box 68 (.int .i64 0::(cellsX T66 (Ty.dflt T66)))),(1000,.box 71 (.int .i64 y.1::(.int .i64 y.2.1::(cellsX T63 y.2.2.1++(cellsX T65 y.2.2.2.1++(cellsX T69 y.2.2.2.2)))))),(25000,.arr 3 (.int .i64) v0)] ?_
  refine AW.block ?_
  obtain ⟨rv15,hw11,ho12⟩:=Option.bind_eq_some_iff.1 h
  refine AW.loopO (hazard_Yard_sweep_b1 y v0) (fun st1=>⟨fr [(0,.bp 1000 0),(1,.int .i64 thread),(5,.bp 5 0),(6,.own 25000),(16,.own 25000),(17,.int .i64 (v0.length:Int)),(18,.int .i64 st1.2.2.2)],hpGet [(5,.box 68 (.int .i64 st1.2.1::(cellsX T66 st1.2.2.1))),(1000,.box 71 (.int .i64 y.1::(.int .i64 y.2.1::(cellsX T63 st1.1++(cellsX T65 y.2.2.2.1++(cellsX T69 y.2.2.2.2)))))),(25000,.arr 3 (.int .i64) v0)],gt⟩) (y.2.2.1,0,(Ty.dflt T66),0) hw11 (zL [] [] []) ?_
  as_aux_lemma =>
   intro st1 x14 h hd13
   unfold hazard_Yard_sweep_b1 at h
   refine zo ?_
   refine zB [(0,.bp 1000 0),(1,.int .i64 thread),(5,.bp 5 0),(6,.own 25000),(16,.own 25000),(17,.int .i64 (v0.length:Int)),(18,.int .i64 st1.2.2.2),(19,.bool (decide (st1.2.2.2<(v0.length:Int))))] [(5,.box 68 (.int .i64 st1.2.1::(cellsX T66 st1.2.2.1))),(1000,.box 71 (.int .i64 y.1::(.int .i64 y.2.1::(cellsX T63 st1.1++(cellsX T65 y.2.2.2.1++(cellsX T69 y.2.2.2.2)))))),(25000,.arr 3 (.int .i64) v0)] ?_
   refine AW.seq ?_
   refine zQ h (fun hb16 h=>?_) (fun hb16 h=>?_)
   ·refine zk ?_
    refine AW.seq ?_
    refine AW.block ?_
    refine zo ?_
    obtain ⟨c17,h⟩:=ck_some.1 h
    obtain ⟨c18,h⟩:=ck_some.1 h
    refine zB [(0,.bp 1000 0),(1,.int .i64 thread),(5,.bp 5 0),(6,.own 25000),(8,.int .i64 (v0.getD st1.2.2.2.toNat 0)),(16,.own 25000),(17,.int .i64 (v0.length:Int)),(18,.int .i64 st1.2.2.2)] [(5,.box 68 (.int .i64 st1.2.1::(cellsX T66 st1.2.2.1))),(1000,.box 71 (.int .i64 y.1::(.int .i64 y.2.1::(cellsX T63 st1.1++(cellsX T65 y.2.2.2.1++(cellsX T69 y.2.2.2.2)))))),(25000,.arr 3 (.int .i64) v0)] ?_
    refine zo ?_
    refine zS 2 [(0,.bp 1000 0),(1,.int .i64 thread),(5,.bp 5 0),(6,.own 25000),(8,.int .i64 (v0.getD st1.2.2.2.toNat 0)),(16,.own 25000),(17,.int .i64 (v0.length:Int)),(18,.int .i64 st1.2.2.2),(22,.bp 1000 0),(23,.int .i64 (v0.getD st1.2.2.2.toNat 0))] [(5,.box 68 (.int .i64 st1.2.1::(cellsX T66 st1.2.2.1))),(1000,.box 71 (.int .i64 y.1::(.int .i64 y.2.1::(cellsX T63 st1.1++(cellsX T65 y.2.2.2.1++(cellsX T69 y.2.2.2.2)))))),(25000,.arr 3 (.int .i64) v0)] ?_
    obtain ⟨v0_2,hv19,h⟩:=Option.bind_eq_some_iff.1 h
    refine zC [] [(1000,1000)] (hc_hazard_Yard_isHeld (v0.getD st1.2.2.2.toNat 0) (y.1,y.2.1,st1.1,y.2.2.2) hv19) [(0,.bp 1000 0),(1,.int .i64 thread),(5,.bp 5 0),(6,.own 25000),(8,.int .i64 (v0.getD st1.2.2.2.toNat 0)),(16,.own 25000),(17,.int .i64 (v0.length:Int)),(18,.int .i64 st1.2.2.2),(24,.bool v0_2)] [(5,.box 68 (.int .i64 st1.2.1::(cellsX T66 st1.2.2.1))),(1000,.box 71 (.int .i64 y.1::(.int .i64 y.2.1::(cellsX T63 st1.1++(cellsX T65 y.2.2.2.1++(cellsX T69 y.2.2.2.2)))))),(25000,.arr 3 (.int .i64) v0)] ?_
    refine zB [(0,.bp 1000 0),(1,.int .i64 thread),(5,.bp 5 0),(6,.own 25000),(8,.int .i64 (v0.getD st1.2.2.2.toNat 0)),(16,.own 25000),(17,.int .i64 (v0.length:Int)),(18,.int .i64 st1.2.2.2),(24,.bool v0_2)] [(5,.box 68 (.int .i64 st1.2.1::(cellsX T66 st1.2.2.1))),(1000,.box 71 (.int .i64 y.1::(.int .i64 y.2.1::(cellsX T63 st1.1++(cellsX T65 y.2.2.2.1++(cellsX T69 y.2.2.2.2)))))),(25000,.arr 3 (.int .i64) v0)] ?_
    refine zQ h (fun hb20 h=>?_) (fun hb20 h=>?_)
    ·refine AW.ops ?_
     refine zS 1 [(0,.bp 1000 0),(1,.int .i64 thread),(5,.bp 5 0),(6,.own 25000),(16,.own 25000),(17,.int .i64 (v0.length:Int)),(18,.int .i64 st1.2.2.2),(25,.int .i64 (v0.getD st1.2.2.2.toNat 0))] [(5,.box 68 (.int .i64 st1.2.1::(cellsX T66 st1.2.2.1))),(1000,.box 71 (.int .i64 y.1::(.int .i64 y.2.1::(cellsX T63 st1.1++(cellsX T65 y.2.2.2.1++(cellsX T69 y.2.2.2.2)))))),(25000,.arr 3 (.int .i64) v0)] ?_
     obtain ⟨v0_3,hv21,h⟩:=Option.bind_eq_some_iff.1 h
     refine zC [] [(1000,5)] (hc_hazard_list_add_2 (v0.getD st1.2.2.2.toNat 0) (st1.2.1,st1.2.2.1) hv21) [(0,.bp 1000 0),(1,.int .i64 thread),(5,.bp 5 0),(6,.own 25000),(16,.own 25000),(17,.int .i64 (v0.length:Int)),(18,.int .i64 st1.2.2.2)] [(5,.box 68 (.int .i64 (st1.2.1+1)::(cellsX T66 (setInt T66 st1.2.2.1 (st1.2.1.toNat*1) (v0.getD st1.2.2.2.toNat 0))))),(1000,.box 71 (.int .i64 y.1::(.int .i64 y.2.1::(cellsX T63 st1.1++(cellsX T65 y.2.2.2.1++(cellsX T69 y.2.2.2.2)))))),(25000,.arr 3 (.int .i64) v0)] ?_
     refine zA [(0,.bp 1000 0),(1,.int .i64 thread),(5,.bp 5 0),(6,.own 25000),(16,.own 25000),(17,.int .i64 (v0.length:Int)),(18,.int .i64 st1.2.2.2)] [(5,.box 68 (.int .i64 (st1.2.1+1)::(cellsX T66 (setInt T66 st1.2.2.1 (st1.2.1.toNat*1) (v0.getD st1.2.2.2.toNat 0))))),(1000,.box 71 (.int .i64 y.1::(.int .i64 y.2.1::(cellsX T63 st1.1++(cellsX T65 y.2.2.2.1++(cellsX T69 y.2.2.2.2)))))),(25000,.arr 3 (.int .i64) v0)] ?_
     refine ablock_n ?_
     refine athen_n ?_
     refine AW.ops ?_
     obtain ⟨c22,h⟩:=ck_some.1 h
     refine zA [(0,.bp 1000 0),(1,.int .i64 thread),(5,.bp 5 0),(6,.own 25000),(16,.own 25000),(17,.int .i64 (v0.length:Int)),(18,.int .i64 (st1.2.2.2+1))] [(5,.box 68 (.int .i64 (st1.2.1+1)::(cellsX T66 (setInt T66 st1.2.2.1 (st1.2.1.toNat*1) (v0.getD st1.2.2.2.toNat 0))))),(1000,.box 71 (.int .i64 y.1::(.int .i64 y.2.1::(cellsX T63 st1.1++(cellsX T65 y.2.2.2.1++(cellsX T69 y.2.2.2.2)))))),(25000,.arr 3 (.int .i64) v0)] ?_
     obtain rfl:=Option.some.inj h
     exact ⟨_,rfl,zL [] [] []⟩
    ·refine AW.ops ?_
     obtain ⟨c23,h⟩:=ck_some.1 h
     obtain ⟨c24,h⟩:=ck_some.1 h
     refine zS 5 [(0,.bp 1000 0),(1,.int .i64 thread),(5,.bp 5 0),(6,.own 25000),(16,.own 25000),(17,.int .i64 (v0.length:Int)),(18,.int .i64 st1.2.2.2),(31,.bp 1000 (2+(v0.getD st1.2.2.2.toNat 0).toNat*1))] [(5,.box 68 (.int .i64 st1.2.1::(cellsX T66 st1.2.2.1))),(1000,.box 71 (.int .i64 y.1::(.int .i64 y.2.1::(cellsX T63 st1.1++(cellsX T65 y.2.2.2.1++(cellsX T69 y.2.2.2.2)))))),(25000,.arr 3 (.int .i64) v0)] ?_
     have hx25:((v0.getD st1.2.2.2.toNat 0).toNat*1)<8:=by omega
     refine zA [(0,.bp 1000 0),(1,.int .i64 thread),(5,.bp 5 0),(6,.own 25000),(16,.own 25000),(17,.int .i64 (v0.length:Int)),(18,.int .i64 st1.2.2.2)] [(5,.box 68 (.int .i64 st1.2.1::(cellsX T66 st1.2.2.1))),(1000,.box 71 (.int .i64 y.1::(.int .i64 y.2.1::(cellsX T63 (setInt T63 st1.1 ((v0.getD st1.2.2.2.toNat 0).toNat*1) 0)++(cellsX T65 y.2.2.2.1++(cellsX T69 y.2.2.2.2)))))),(25000,.arr 3 (.int .i64) v0)] ?_
     refine ablock_n ?_
     refine athen_n ?_
     refine AW.ops ?_
     obtain ⟨c26,h⟩:=ck_some.1 h
     refine zA [(0,.bp 1000 0),(1,.int .i64 thread),(5,.bp 5 0),(6,.own 25000),(16,.own 25000),(17,.int .i64 (v0.length:Int)),(18,.int .i64 (st1.2.2.2+1))] [(5,.box 68 (.int .i64 st1.2.1::(cellsX T66 st1.2.2.1))),(1000,.box 71 (.int .i64 y.1::(.int .i64 y.2.1::(cellsX T63 (setInt T63 st1.1 ((v0.getD st1.2.2.2.toNat 0).toNat*1) 0)++(cellsX T65 y.2.2.2.1++(cellsX T69 y.2.2.2.2)))))),(25000,.arr 3 (.int .i64) v0)] ?_
     obtain rfl:=Option.some.inj h
     exact ⟨_,rfl,zL [] [] []⟩
   ·refine AW.exit ?_
    refine athen_e ?_
    obtain rfl:=Option.some.inj h
    rw [← hd13 _ rfl] at ho12
    have h:=ho12
    refine athen_e ?_
    refine ablock_s ?_
    refine athen_n ?_
    exact AW.weaken (zL [] [] []) (hk_hazard_Yard_sweep_k1 _ h)
theorem hc_hazard_Yard_PutBy (thread:Int) (node:Int) (y:Int×Int×(El T63)×(El T65)×(El T69)) {r:Int×Int×(El T63)×(El T69)} (h:hazard_Yard_PutBy thread node y=some r):HC Tryd.prog 35 [(1000,.box 71 (.int .i64 y.1::(.int .i64 y.2.1::(cellsX T63 y.2.2.1++(cellsX T65 y.2.2.2.1++(cellsX T69 y.2.2.2.2))))))] [.bp 1000 0,.int .i64 thread,.int .i64 node] [(1000,.box 71 (.int .i64 y.1::(.int .i64 y.2.1::(cellsX T63 r.2.2.1++(cellsX T65 y.2.2.2.1++(cellsX T69 r.2.2.2))))))] (.tup [.int .i64 r.1,.int .i64 r.2.1]):=by
 unfold hazard_Yard_PutBy at h
 refine zH Tryd.func35 [.tmp 6,.tmp 7] 48 ?_
 refine zo ?_
 refine zB [(0,.bp 1000 0),(1,.int .i64 thread),(2,.int .i64 node)] [(1000,.box 71 (.int .i64 y.1::(.int .i64 y.2.1::(cellsX T63 y.2.2.1++(cellsX T65 y.2.2.2.1++(cellsX T69 y.2.2.2.2))))))] ?_
 refine AW.seq ?_
 refine zo ?_
 refine zS 2 [(0,.bp 1000 0),(1,.int .i64 thread),(2,.int .i64 node),(9,.bp 1000 0),(10,.int .i64 thread)] [(1000,.box 71 (.int .i64 y.1::(.int .i64 y.2.1::(cellsX T63 y.2.2.1++(cellsX T65 y.2.2.2.1++(cellsX T69 y.2.2.2.2))))))] ?_
 obtain ⟨v0,hv1,h⟩:=Option.bind_eq_some_iff.1 h
 refine zC [] [] (hc_hazard_isThread thread hv1) [(0,.bp 1000 0),(1,.int .i64 thread),(2,.int .i64 node),(9,.bp 1000 0),(11,.agg [.fn (.func 72) [] [.dp (.int .i64) thread 0],.int .i64 2])] [(1000,.box 71 (.int .i64 y.1::(.int .i64 y.2.1::(cellsX T63 y.2.2.1++(cellsX T65 y.2.2.2.1++(cellsX T69 y.2.2.2.2))))))] ?_
 refine zS 1 [(0,.bp 1000 0),(1,.int .i64 thread),(2,.int .i64 node),(9,.bp 1000 0),(11,.agg [.fn (.func 72) [] [.dp (.int .i64) thread 0],.int .i64 2]),(12,.int .i64 node)] [(1000,.box 71 (.int .i64 y.1::(.int .i64 y.2.1::(cellsX T63 y.2.2.1++(cellsX T65 y.2.2.2.1++(cellsX T69 y.2.2.2.2))))))] ?_
 obtain ⟨v0_2,hv2,h⟩:=Option.bind_eq_some_iff.1 h
 refine zC [] [] (hc_hazard_isNode node hv2) [(0,.bp 1000 0),(1,.int .i64 thread),(2,.int .i64 node),(9,.bp 1000 0),(11,.agg [.fn (.func 72) [] [.dp (.int .i64) thread 0],.int .i64 2]),(13,.agg [.fn (.func 70) [] [.dp (.int .i64) node 0],.int .i64 2])] [(1000,.box 71 (.int .i64 y.1::(.int .i64 y.2.1::(cellsX T63 y.2.2.1++(cellsX T65 y.2.2.2.1++(cellsX T69 y.2.2.2.2))))))] ?_
 refine zS 1 [(0,.bp 1000 0),(1,.int .i64 thread),(2,.int .i64 node),(9,.bp 1000 0),(11,.agg [.fn (.func 72) [] [.dp (.int .i64) thread 0],.int .i64 2]),(13,.agg [.fn (.func 70) [] [.dp (.int .i64) node 0],.int .i64 2]),(14,.int .i64 node)] [(1000,.box 71 (.int .i64 y.1::(.int .i64 y.2.1::(cellsX T63 y.2.2.1++(cellsX T65 y.2.2.2.1++(cellsX T69 y.2.2.2.2))))))] ?_
 obtain ⟨v0_3,hv3,h⟩:=Option.bind_eq_some_iff.1 h
 refine zC [] [] (hc_hazard_isIn node hv3) [(0,.bp 1000 0),(1,.int .i64 thread),(2,.int .i64 node),(9,.bp 1000 0),(11,.agg [.fn (.func 72) [] [.dp (.int .i64) thread 0],.int .i64 2]),(13,.agg [.fn (.func 70) [] [.dp (.int .i64) node 0],.int .i64 2]),(15,.agg [.fn (.func 76) [] [.dp (.int .i64) node 0],.int .i64 5])] [(1000,.box 71 (.int .i64 y.1::(.int .i64 y.2.1::(cellsX T63 y.2.2.1++(cellsX T65 y.2.2.2.1++(cellsX T69 y.2.2.2.2))))))] ?_
 refine AO.buildBox tab_ok rfl (by decide) (by decide) rfl rfl tab_92 rfl tab_81 (by decide) (by decide) rfl (by decide) (cs:=[.fn (.func 72) [] [.dp (.int .i64) thread 0],.int .i64 2,.fn (.func 70) [] [.dp (.int .i64) node 0],.int .i64 2,.fn (.func 76) [] [.dp (.int .i64) node 0],.int .i64 5]) rfl rfl rfl ?_
 refine zT [(0,.bp 1000 0),(1,.int .i64 thread),(2,.int .i64 node),(9,.bp 1000 0),(16,.vw 16 2 0 3)] [(16,.box 81 [.fn (.func 72) [] [.dp (.int .i64) thread 0],.int .i64 2,.fn (.func 70) [] [.dp (.int .i64) node 0],.int .i64 2,.fn (.func 76) [] [.dp (.int .i64) node 0],.int .i64 5]),(1000,.box 71 (.int .i64 y.1::(.int .i64 y.2.1::(cellsX T63 y.2.2.1++(cellsX T65 y.2.2.2.1++(cellsX T69 y.2.2.2.2))))))] gt ?_
 obtain ⟨v0_4,hv4,h⟩:=Option.bind_eq_some_iff.1 h
 refine zC [] [(1000,1000),(1001,16)] (hc_hazard_Yard_fails_5 y thread 2 node 2 node 5 hv4) [(0,.bp 1000 0),(1,.int .i64 thread),(2,.int .i64 node),(17,.int .i64 v0_4)] [(1000,.box 71 (.int .i64 y.1::(.int .i64 y.2.1::(cellsX T63 y.2.2.1++(cellsX T65 y.2.2.2.1++(cellsX T69 y.2.2.2.2))))))] ?_
 refine zB [(0,.bp 1000 0),(1,.int .i64 thread),(2,.int .i64 node),(8,.int .i64 v0_4)] [(1000,.box 71 (.int .i64 y.1::(.int .i64 y.2.1::(cellsX T63 y.2.2.1++(cellsX T65 y.2.2.2.1++(cellsX T69 y.2.2.2.2))))))] ?_
 refine zo ?_
 refine zB [(0,.bp 1000 0),(1,.int .i64 thread),(2,.int .i64 node),(8,.int .i64 v0_4),(19,.bool (!(decide (v0_4=0))))] [(1000,.box 71 (.int .i64 y.1::(.int .i64 y.2.1::(cellsX T63 y.2.2.1++(cellsX T65 y.2.2.2.1++(cellsX T69 y.2.2.2.2))))))] ?_
 refine zQ h (fun hb5 h=>?_) (fun hb5 h=>?_)
 ·refine zo ?_
  refine zB [(6,.int .i64 0),(7,.int .i64 v0_4)] [(1000,.box 71 (.int .i64 y.1::(.int .i64 y.2.1::(cellsX T63 y.2.2.1++(cellsX T65 y.2.2.2.1++(cellsX T69 y.2.2.2.2))))))] ?_
  refine zr ?_
  obtain rfl:=Option.some.inj h
  exact zR [] [] []
 ·refine zk ?_
  refine zo ?_
  obtain ⟨c6,h⟩:=ck_some.1 h
  obtain ⟨c7,h⟩:=ck_some.1 h
  refine zS 5 [(0,.bp 1000 0),(1,.int .i64 thread),(2,.int .i64 node),(25,.bp 1000 (2+node.toNat*1))] [(1000,.box 71 (.int .i64 y.1::(.int .i64 y.2.1::(cellsX T63 y.2.2.1++(cellsX T65 y.2.2.2.1++(cellsX T69 y.2.2.2.2))))))] ?_
  have hx8:(node.toNat*1)<8:=by omega
  refine zB [(0,.bp 1000 0),(1,.int .i64 thread),(2,.int .i64 node)] [(1000,.box 71 (.int .i64 y.1::(.int .i64 y.2.1::(cellsX T63 (setInt T63 y.2.2.1 (node.toNat*1) 2)++(cellsX T65 y.2.2.2.1++(cellsX T69 y.2.2.2.2))))))] ?_
  refine zo ?_
  obtain ⟨c9,h⟩:=ck_some.1 h
  obtain ⟨c10,h⟩:=ck_some.1 h
  refine zS 5 [(0,.bp 1000 0),(1,.int .i64 thread),(2,.int .i64 node),(30,.bp 1000 (18+thread.toNat*9))] [(1000,.box 71 (.int .i64 y.1::(.int .i64 y.2.1::(cellsX T63 (setInt T63 y.2.2.1 (node.toNat*1) 2)++(cellsX T65 y.2.2.2.1++(cellsX T69 y.2.2.2.2))))))] ?_
  refine zS 1 [(0,.bp 1000 0),(1,.int .i64 thread),(30,.bp 1000 (18+thread.toNat*9)),(31,.int .i64 node)] [(1000,.box 71 (.int .i64 y.1::(.int .i64 y.2.1::(cellsX T63 (setInt T63 y.2.2.1 (node.toNat*1) 2)++(cellsX T65 y.2.2.2.1++(cellsX T69 y.2.2.2.2))))))] ?_
  obtain ⟨v0_5,hv11,h⟩:=Option.bind_eq_some_iff.1 h
  refine zC [] [(1000,1000)] (hc_hazard_list_add (thread.toNat*9) node (y.1,y.2.1,(setInt T63 y.2.2.1 (node.toNat*1) 2),y.2.2.2) hv11) [(0,.bp 1000 0),(1,.int .i64 thread)] [(1000,.box 71 (.int .i64 y.1::(.int .i64 y.2.1::(cellsX T63 (setInt T63 y.2.2.1 (node.toNat*1) 2)++(cellsX T65 y.2.2.2.1++(cellsX T69 (setInt T69 (setInt T69 y.2.2.2.2 (((thread.toNat*9)+1)+(intAt T69 y.2.2.2.2 (thread.toNat*9)).toNat*1) node) (thread.toNat*9) ((intAt T69 (setInt T69 y.2.2.2.2 (((thread.toNat*9)+1)+(intAt T69 y.2.2.2.2 (thread.toNat*9)).toNat*1) node) (thread.toNat*9))+1))))))))] ?_
  refine zB [(0,.bp 1000 0),(1,.int .i64 thread)] [(1000,.box 71 (.int .i64 y.1::(.int .i64 y.2.1::(cellsX T63 (setInt T63 y.2.2.1 (node.toNat*1) 2)++(cellsX T65 y.2.2.2.1++(cellsX T69 (setInt T69 (setInt T69 y.2.2.2.2 (((thread.toNat*9)+1)+(intAt T69 y.2.2.2.2 (thread.toNat*9)).toNat*1) node) (thread.toNat*9) ((intAt T69 (setInt T69 y.2.2.2.2 (((thread.toNat*9)+1)+(intAt T69 y.2.2.2.2 (thread.toNat*9)).toNat*1) node) (thread.toNat*9))+1))))))))] ?_
  refine AW.seq ?_
  refine AW.seq ?_
  refine AW.draw tab_ok mixed_ok [] [] (by decide) (lex_fast (by kernel_rfl)) ?_
  as_aux_lemma =>
   obtain ⟨c13,h⟩:=ck_some.1 h
   obtain ⟨c14,h⟩:=ck_some.1 h
   refine adops_cut 6 (fun K' hK12=>?_)
   try dsimp only [List.drop_succ_cons,List.drop_zero,List.take_succ_cons,List.take_zero]
   simp only [go_sem,hb5,hx8]
   repeat with_reducible refine zN ?_
   refine hK12 _ ?_
   as_aux_lemma =>
    have hx16:(thread.toNat*9)<36:=by omega
    refine adops_cut 6 (fun K' hK15=>?_)
    try dsimp only [List.drop_succ_cons,List.drop_zero,List.take_succ_cons,List.take_zero]
    simp only [go_sem,hb5,hx8,hx16]
    repeat with_reducible refine zN ?_
    refine hK15 _ ?_
    refine adops_nil ?_
    refine athen_n ?_
    refine zV [(0,.bp 1000 0),(1,.int .i64 thread),(44,.bool (decide ((intAt T69 (setInt T69 (setInt T69 y.2.2.2.2 (((thread.toNat*9)+1)+(intAt T69 y.2.2.2.2 (thread.toNat*9)).toNat*1) node) (thread.toNat*9) ((intAt T69 (setInt T69 y.2.2.2.2 (((thread.toNat*9)+1)+(intAt T69 y.2.2.2.2 (thread.toNat*9)).toNat*1) node) (thread.toNat*9))+1)) (thread.toNat*9))<y.2.1)))] [(1000,.box 71 (.int .i64 y.1::(.int .i64 y.2.1::(cellsX T63 (setInt T63 y.2.2.1 (node.toNat*1) 2)++(cellsX T65 y.2.2.2.1++(cellsX T69 (setInt T69 (setInt T69 y.2.2.2.2 (((thread.toNat*9)+1)+(intAt T69 y.2.2.2.2 (thread.toNat*9)).toNat*1) node) (thread.toNat*9) ((intAt T69 (setInt T69 y.2.2.2.2 (((thread.toNat*9)+1)+(intAt T69 y.2.2.2.2 (thread.toNat*9)).toNat*1) node) (thread.toNat*9))+1))))))))] gt ?_
    as_aux_lemma =>
     refine zQ h (fun hb17 h=>?_) (fun hb17 h=>?_)
     ·refine zo ?_
      refine zB [(6,.int .i64 0),(7,.int .i64 0)] [(1000,.box 71 (.int .i64 y.1::(.int .i64 y.2.1::(cellsX T63 (setInt T63 y.2.2.1 (node.toNat*1) 2)++(cellsX T65 y.2.2.2.1++(cellsX T69 (setInt T69 (setInt T69 y.2.2.2.2 (((thread.toNat*9)+1)+(intAt T69 y.2.2.2.2 (thread.toNat*9)).toNat*1) node) (thread.toNat*9) ((intAt T69 (setInt T69 y.2.2.2.2 (((thread.toNat*9)+1)+(intAt T69 y.2.2.2.2 (thread.toNat*9)).toNat*1) node) (thread.toNat*9))+1))))))))] ?_
      refine zr ?_
      obtain rfl:=Option.some.inj h
      exact zR [] [] []
     ·refine zk ?_
      refine zo ?_
      refine zS 2 [(45,.bp 1000 0),(46,.int .i64 thread)] [(1000,.box 71 (.int .i64 y.1::(.int .i64 y.2.1::(cellsX T63 (setInt T63 y.2.2.1 (node.toNat*1) 2)++(cellsX T65 y.2.2.2.1++(cellsX T69 (setInt T69 (setInt T69 y.2.2.2.2 (((thread.toNat*9)+1)+(intAt T69 y.2.2.2.2 (thread.toNat*9)).toNat*1) node) (thread.toNat*9) ((intAt T69 (setInt T69 y.2.2.2.2 (((thread.toNat*9)+1)+(intAt T69 y.2.2.2.2 (thread.toNat*9)).toNat*1) node) (thread.toNat*9))+1))))))))] ?_
      obtain ⟨v0_6,hv18,h⟩:=Option.bind_eq_some_iff.1 h
      refine zC [] [(1000,1000)] (hc_hazard_Yard_sweep thread (y.1,y.2.1,(setInt T63 y.2.2.1 (node.toNat*1) 2),y.2.2.2.1,(setInt T69 (setInt T69 y.2.2.2.2 (((thread.toNat*9)+1)+(intAt T69 y.2.2.2.2 (thread.toNat*9)).toNat*1) node) (thread.toNat*9) ((intAt T69 (setInt T69 y.2.2.2.2 (((thread.toNat*9)+1)+(intAt T69 y.2.2.2.2 (thread.toNat*9)).toNat*1) node) (thread.toNat*9))+1))) hv18) [(47,.int .i64 v0_6.1)] [(1000,.box 71 (.int .i64 y.1::(.int .i64 y.2.1::(cellsX T63 v0_6.2.1++(cellsX T65 y.2.2.2.1++(cellsX T69 v0_6.2.2))))))] ?_
      refine zB [(6,.int .i64 v0_6.1),(7,.int .i64 0)] [(1000,.box 71 (.int .i64 y.1::(.int .i64 y.2.1::(cellsX T63 v0_6.2.1++(cellsX T65 y.2.2.2.1++(cellsX T69 v0_6.2.2))))))] ?_
      refine AW.ret ?_
      obtain rfl:=Option.some.inj h
      exact zR [] [] []
theorem hc_hazard_Yard_Sweep (thread:Int) (y:Int×Int×(El T63)×(El T65)×(El T69)) {r:Int×Int×(El T63)×(El T69)} (h:hazard_Yard_Sweep thread y=some r):HC Tryd.prog 39 [(1000,.box 71 (.int .i64 y.1::(.int .i64 y.2.1::(cellsX T63 y.2.2.1++(cellsX T65 y.2.2.2.1++(cellsX T69 y.2.2.2.2))))))] [.bp 1000 0,.int .i64 thread] [(1000,.box 71 (.int .i64 y.1::(.int .i64 y.2.1::(cellsX T63 r.2.2.1++(cellsX T65 y.2.2.2.1++(cellsX T69 r.2.2.2))))))] (.tup [.int .i64 r.1,.int .i64 r.2.1]):=by
 unfold hazard_Yard_Sweep at h
 refine zH Tryd.func39 [.tmp 4,.tmp 5] 18 ?_
 refine zo ?_
 refine zB [(0,.bp 1000 0),(1,.int .i64 thread)] [(1000,.box 71 (.int .i64 y.1::(.int .i64 y.2.1::(cellsX T63 y.2.2.1++(cellsX T65 y.2.2.2.1++(cellsX T69 y.2.2.2.2))))))] ?_
 refine AW.seq ?_
 refine zo ?_
 refine zS 2 [(0,.bp 1000 0),(1,.int .i64 thread),(7,.bp 1000 0),(8,.int .i64 thread)] [(1000,.box 71 (.int .i64 y.1::(.int .i64 y.2.1::(cellsX T63 y.2.2.1++(cellsX T65 y.2.2.2.1++(cellsX T69 y.2.2.2.2))))))] ?_
 obtain ⟨v0,hv1,h⟩:=Option.bind_eq_some_iff.1 h
 refine zC [] [] (hc_hazard_isThread thread hv1) [(0,.bp 1000 0),(1,.int .i64 thread),(7,.bp 1000 0),(9,.agg [.fn (.func 72) [] [.dp (.int .i64) thread 0],.int .i64 2])] [(1000,.box 71 (.int .i64 y.1::(.int .i64 y.2.1::(cellsX T63 y.2.2.1++(cellsX T65 y.2.2.2.1++(cellsX T69 y.2.2.2.2))))))] ?_
 refine AO.buildBox tab_ok rfl (by decide) (by decide) rfl rfl tab_92 rfl tab_81 (by decide) (by decide) rfl (by decide) (cs:=[.fn (.func 72) [] [.dp (.int .i64) thread 0],.int .i64 2]) rfl rfl rfl ?_
 refine zT [(0,.bp 1000 0),(1,.int .i64 thread),(7,.bp 1000 0),(10,.vw 10 2 0 1)] [(10,.box 81 [.fn (.func 72) [] [.dp (.int .i64) thread 0],.int .i64 2]),(1000,.box 71 (.int .i64 y.1::(.int .i64 y.2.1::(cellsX T63 y.2.2.1++(cellsX T65 y.2.2.2.1++(cellsX T69 y.2.2.2.2))))))] gt ?_
 obtain ⟨v0_2,hv2,h⟩:=Option.bind_eq_some_iff.1 h
 refine zC [] [(1000,1000),(1001,10)] (hc_hazard_Yard_fails_2 y thread 2 hv2) [(0,.bp 1000 0),(1,.int .i64 thread),(11,.int .i64 v0_2)] [(1000,.box 71 (.int .i64 y.1::(.int .i64 y.2.1::(cellsX T63 y.2.2.1++(cellsX T65 y.2.2.2.1++(cellsX T69 y.2.2.2.2))))))] ?_
 refine zB [(0,.bp 1000 0),(1,.int .i64 thread),(6,.int .i64 v0_2)] [(1000,.box 71 (.int .i64 y.1::(.int .i64 y.2.1::(cellsX T63 y.2.2.1++(cellsX T65 y.2.2.2.1++(cellsX T69 y.2.2.2.2))))))] ?_
 refine zo ?_
 refine zB [(0,.bp 1000 0),(1,.int .i64 thread),(6,.int .i64 v0_2),(13,.bool (!(decide (v0_2=0))))] [(1000,.box 71 (.int .i64 y.1::(.int .i64 y.2.1::(cellsX T63 y.2.2.1++(cellsX T65 y.2.2.2.1++(cellsX T69 y.2.2.2.2))))))] ?_
 refine zQ h (fun hb3 h=>?_) (fun hb3 h=>?_)
 ·refine zo ?_
  refine zB [(4,.int .i64 0),(5,.int .i64 v0_2)] [(1000,.box 71 (.int .i64 y.1::(.int .i64 y.2.1::(cellsX T63 y.2.2.1++(cellsX T65 y.2.2.2.1++(cellsX T69 y.2.2.2.2))))))] ?_
  refine zr ?_
  obtain rfl:=Option.some.inj h
  exact zR [] [] []
 ·refine zk ?_
  refine zo ?_
  refine zS 2 [(15,.bp 1000 0),(16,.int .i64 thread)] [(1000,.box 71 (.int .i64 y.1::(.int .i64 y.2.1::(cellsX T63 y.2.2.1++(cellsX T65 y.2.2.2.1++(cellsX T69 y.2.2.2.2))))))] ?_
  obtain ⟨v0_3,hv4,h⟩:=Option.bind_eq_some_iff.1 h
  refine zC [] [(1000,1000)] (hc_hazard_Yard_sweep thread y hv4) [(17,.int .i64 v0_3.1)] [(1000,.box 71 (.int .i64 y.1::(.int .i64 y.2.1::(cellsX T63 v0_3.2.1++(cellsX T65 y.2.2.2.1++(cellsX T69 v0_3.2.2))))))] ?_
  refine zB [(4,.int .i64 v0_3.1),(5,.int .i64 0)] [(1000,.box 71 (.int .i64 y.1::(.int .i64 y.2.1::(cellsX T63 v0_3.2.1++(cellsX T65 y.2.2.2.1++(cellsX T69 v0_3.2.2))))))] ?_
  refine AW.ret ?_
  obtain rfl:=Option.some.inj h
  exact zR [] [] []
theorem hc_hazard_points (thread:Int) (slot:Int) {r:Unit} (h:hazard_points thread slot=some r):HC Tryd.prog 60 [] [.int .i64 thread,.int .i64 slot] [] (.agg [.fn (.func 75) [] [.dp (.int .i64) thread 0,.dp (.int .i64) slot 0],.int .i64 5]):=by
 unfold hazard_points at h
 refine zH Tryd.func60 [.cell 4 81] 7 ?_
 refine zo ?_
 refine zS 1 [(1,.int .i64 slot),(2,.bp 2 0)] [(2,.box 3 [.int .i64 thread])] ?_
 refine AO.weaken (s':=⟨fr [(1,.int .i64 slot),(2,.dp (.int .i64) thread 0)],hpGet [],gt⟩) (Wk.boxes [2] rfl rfl (by (simp only [go_sem])<;>(with_reducible and_intros)<;>first|assumption|rfl|omega|(unfold maxLen; omega)) (by (simp only [go_sem])<;>(with_reducible and_intros)<;>first|assumption|rfl|omega|(unfold maxLen; omega))) ?_
 refine zS 1 [(2,.dp (.int .i64) thread 0),(3,.bp 3 0)] [(3,.box 3 [.int .i64 slot])] ?_
 refine AO.weaken (s':=⟨fr [(2,.dp (.int .i64) thread 0),(3,.dp (.int .i64) slot 0)],hpGet [],gt⟩) (Wk.boxes [3] rfl rfl (by (simp only [go_sem])<;>(with_reducible and_intros)<;>first|assumption|rfl|omega|(unfold maxLen; omega)) (by (simp only [go_sem])<;>(with_reducible and_intros)<;>first|assumption|rfl|omega|(unfold maxLen; omega))) ?_
 refine zB [(2,.dp (.int .i64) thread 0),(3,.dp (.int .i64) slot 0),(4,.bp 4 0)] [(4,.box 81 [.cv (.nilFunc),.int .i64 0])] ?_
 refine zo ?_
 refine zB [(4,.bp 4 0)] [(4,.box 81 [.fn (.func 75) [] [.dp (.int .i64) thread 0,.dp (.int .i64) slot 0],.int .i64 5])] ?_
 refine AW.ret ?_
 obtain rfl:=Option.some.inj h
 exact zR [] [] []
theorem hc_hazard_points_1 (a1:Int) (a2:Int) (y:Int×Int×(El T63)×(El T65)×(El T69)) {r:Unit} (h:hazard_points_1 a1 a2 y=some r):HC Tryd.prog 75 [(1000,.box 71 (.int .i64 y.1::(.int .i64 y.2.1::(cellsX T63 y.2.2.1++(cellsX T65 y.2.2.2.1++(cellsX T69 y.2.2.2.2))))))] [.bp 1000 0,.dp (.int .i64) a1 0,.dp (.int .i64) a2 0] [(1000,.box 71 (.int .i64 y.1::(.int .i64 y.2.1::(cellsX T63 y.2.2.1++(cellsX T65 y.2.2.2.1++(cellsX T69 y.2.2.2.2))))))] (.bool (!(decide ((intAt T65 y.2.2.2.1 ((a1.toNat*2)+a2.toNat*1))=(-1))))):=by
 unfold hazard_points_1 at h
 refine zH Tryd.func75 [.tmp 4] 14 ?_
 refine zo ?_
 refine zB [(0,.bp 1000 0),(1,.dp (.int .i64) a1 0),(2,.dp (.int .i64) a2 0)] [(1000,.box 71 (.int .i64 y.1::(.int .i64 y.2.1::(cellsX T63 y.2.2.1++(cellsX T65 y.2.2.2.1++(cellsX T69 y.2.2.2.2))))))] ?_
 refine AW.seq ?_
 refine AW.draw tab_ok mixed_ok [] [] (by decide) (lex_fast (by kernel_rfl)) ?_
 as_aux_lemma =>
  obtain ⟨c2,h⟩:=ck_some.1 h
  obtain ⟨c3,h⟩:=ck_some.1 h
  refine adops_cut 6 (fun K' hK1=>?_)
  try dsimp only [List.drop_succ_cons,List.drop_zero,List.take_succ_cons,List.take_zero]
  simp only [go_sem]
  repeat with_reducible refine zN ?_
  refine hK1 _ ?_
  as_aux_lemma =>
   obtain ⟨c5,h⟩:=ck_some.1 h
   obtain ⟨c6,h⟩:=ck_some.1 h
   have hx7:((a1.toNat*2)+a2.toNat*1)<8:=by omega
   refine adops_cut 4 (fun K' hK4=>?_)
   try dsimp only [List.drop_succ_cons,List.drop_zero,List.take_succ_cons,List.take_zero]
   simp only [go_sem,hx7]
   repeat with_reducible refine zN ?_
   refine hK4 _ ?_
   refine adops_nil ?_
   refine athen_n ?_
   refine zV [(4,.bool (!(decide ((intAt T65 y.2.2.2.1 ((a1.toNat*2)+a2.toNat*1))=(-1)))))] [(1000,.box 71 (.int .i64 y.1::(.int .i64 y.2.1::(cellsX T63 y.2.2.1++(cellsX T65 y.2.2.2.1++(cellsX T69 y.2.2.2.2))))))] gt ?_
   as_aux_lemma =>
    refine AW.ret ?_
    obtain rfl:=Option.some.inj h
    exact zR [] [] []
end Go.Proofs.YtcckpmeepcoafaaDoor
