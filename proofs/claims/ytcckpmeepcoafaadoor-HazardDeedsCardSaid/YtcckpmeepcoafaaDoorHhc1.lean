import Derived.Test.YtcckpmeepcoafaaDoorHzp
import Derived.Test.YtcckpmeepcoafaaDoorShz
import Derived.Test.YtcckpmeepcoafaaDoorAvd
namespace Go.Proofs.YtcckpmeepcoafaaDoor
open Go.RowKit
set_option linter.unusedSimpArgs false
set_option linter.unusedVariables false
set_option linter.constructorNameAsVariable false
set_option maxRecDepth 100000
set_option maxHeartbeats 40000000
theorem hc_hazard_New (threads:Int) (size:Int) {r:Sum Unit ((El T65))} (h:hazard_New threads size=some r):HC Tryd.prog 12 [] [.int .i64 threads,.int .i64 size] (match r with|.inl r=>[]|.inr r=>[(2000,.box 71 (.int .i64 threads::(.int .i64 size::(cellsX T63 (Ty.dflt T63)++(cellsX T65 r++(cellsX T69 (Ty.dflt T69)))))))]) ((match r with|.inl r=>.tup [.cv (.pointer none),.int .i64 2]|.inr r=>.tup [.bp 2000 0,.int .i64 0])):=by
 unfold hazard_New at h
 refine zH Tryd.func12 [.tmp 4,.tmp 5] 43 ?_
 refine zo ?_
 refine zB [(0,.int .i64 threads),(1,.int .i64 size)] [] ?_
 refine AW.seq ?_
 refine zo ?_
 refine zS 3 [(0,.int .i64 threads),(1,.int .i64 size),(11,.bool (decide (threads<1)))] [] ?_
 rcases zI h with ⟨hb1,h⟩|⟨hb1,h⟩
 ·refine zS 5 [(0,.int .i64 threads),(1,.int .i64 size),(15,.bool true),(16,.cv (undef))] [] ?_
  refine zS 5 [(0,.int .i64 threads),(1,.int .i64 size),(19,.bool true),(21,.cv (undef))] [] ?_
  refine zB [(0,.int .i64 threads),(1,.int .i64 size),(22,.bool true)] [] ?_
  refine AW.cond (b:=true) rfl (fun _=>?_) (fun hb2=>by cases hb2)
  refine zo ?_
  refine zB [(4,.cv (.pointer none)),(5,.int .i64 2)] [] ?_
  refine zr ?_
  obtain rfl:=Option.some.inj h
  exact zR [] [] []
 ·refine zS 4 [(0,.int .i64 threads),(1,.int .i64 size),(15,.bool (decide (4<threads)))] [] ?_
  rcases zI h with ⟨hb3,h⟩|⟨hb3,h⟩
  ·refine zS 5 [(0,.int .i64 threads),(1,.int .i64 size),(19,.bool true),(20,.cv (undef))] [] ?_
   refine zB [(0,.int .i64 threads),(1,.int .i64 size),(22,.bool true)] [] ?_
   refine AW.cond (b:=true) rfl (fun _=>?_) (fun hb4=>by cases hb4)
   refine zo ?_
   refine zB [(4,.cv (.pointer none)),(5,.int .i64 2)] [] ?_
   refine zr ?_
   obtain rfl:=Option.some.inj h
   exact zR [] [] []
  ·refine zS 4 [(0,.int .i64 threads),(1,.int .i64 size),(19,.bool (decide (size<1)))] [] ?_
   rcases zI h with ⟨hb5,h⟩|⟨hb5,h⟩
   ·refine zB [(0,.int .i64 threads),(1,.int .i64 size),(22,.bool true)] [] ?_
    refine AW.cond (b:=true) rfl (fun _=>?_) (fun hb6=>by cases hb6)
    refine zo ?_
    refine zB [(4,.cv (.pointer none)),(5,.int .i64 2)] [] ?_
    refine zr ?_
    obtain rfl:=Option.some.inj h
    exact zR [] [] []
   ·refine zB [(0,.int .i64 threads),(1,.int .i64 size),(22,.bool (decide (4<size)))] [] ?_
    refine zQ h (fun hb7 h=>?_) (fun hb7 h=>?_)
    ·refine zo ?_
     refine zB [(4,.cv (.pointer none)),(5,.int .i64 2)] [] ?_
     refine zr ?_
     obtain rfl:=Option.some.inj h
     exact zR [] [] []
    ·refine zk ?_
     refine zo ?_
     refine zB [(6,.bp 26 0)] [(26,.box 71 (.int .i64 threads::(.int .i64 size::(cellsX T63 (Ty.dflt T63)++(cellsX T65 (Ty.dflt T65)++(cellsX T69 (Ty.dflt T69)))))))] ?_
     refine AW.have1 (fun b2_2:(El T65)=>hazard_New_k1 b2_2=some r) (fun b2_2=>⟨fr [(6,.bp 26 0)],hpGet [(26,.box 71 (.int .i64 threads::(.int .i64 size::(cellsX T63 (Ty.dflt T63)++(cellsX T65 b2_2++(cellsX T69 (Ty.dflt T69)))))))],gt⟩) (fun b2_2 h=>?_) (fun hk_hazard_New_k1=>?_)
     ·as_aux_lemma =>
       unfold hazard_New_k1 at h
       refine zo ?_
       refine zB [(4,.bp 26 0),(5,.int .i64 0)] [(26,.box 71 (.int .i64 threads::(.int .i64 size::(cellsX T63 (Ty.dflt T63)++(cellsX T65 b2_2++(cellsX T69 (Ty.dflt T69)))))))] ?_
       refine AW.ret ?_
       obtain rfl:=Option.some.inj h
       exact zR [] [] [(2000,26)]
     ·refine AW.seq ?_
      refine zo ?_
      refine zB [(6,.bp 26 0),(27,.int .i64 0)] [(26,.box 71 (.int .i64 threads::(.int .i64 size::(cellsX T63 (Ty.dflt T63)++(cellsX T65 (Ty.dflt T65)++(cellsX T69 (Ty.dflt T69)))))))] ?_
      refine AW.block ?_
      obtain ⟨rv12,hw8,ho9⟩:=Option.bind_eq_some_iff.1 h
      refine AW.loopO (hazard_New_b1) (fun st1=>⟨fr [(6,.bp 26 0),(27,.int .i64 st1.2)],hpGet [(26,.box 71 (.int .i64 threads::(.int .i64 size::(cellsX T63 (Ty.dflt T63)++(cellsX T65 st1.1++(cellsX T69 (Ty.dflt T69)))))))],gt⟩) ((Ty.dflt T65),0) hw8 (zL [] [] []) ?_
      as_aux_lemma =>
       intro st1 x11 h hd10
       unfold hazard_New_b1 at h
       refine zo ?_
       refine zB [(6,.bp 26 0),(27,.int .i64 st1.2),(28,.bool (decide (st1.2<4)))] [(26,.box 71 (.int .i64 threads::(.int .i64 size::(cellsX T63 (Ty.dflt T63)++(cellsX T65 st1.1++(cellsX T69 (Ty.dflt T69)))))))] ?_
       refine AW.seq ?_
       refine zQ h (fun hb13 h=>?_) (fun hb13 h=>?_)
       ·refine zk ?_
        refine AW.have1 (fun b2:(El T65)=>hazard_New_k2 st1 b2=some x11) (fun b2=>⟨fr [(6,.bp 26 0),(27,.int .i64 st1.2)],hpGet [(26,.box 71 (.int .i64 threads::(.int .i64 size::(cellsX T63 (Ty.dflt T63)++(cellsX T65 b2++(cellsX T69 (Ty.dflt T69)))))))],gt⟩) (fun b2 h=>?_) (fun hk_hazard_New_k2=>?_)
        ·as_aux_lemma =>
          unfold hazard_New_k2 at h
          refine AW.ops ?_
          obtain ⟨c14,h⟩:=ck_some.1 h
          refine zA [(6,.bp 26 0),(27,.int .i64 (st1.2+1))] [(26,.box 71 (.int .i64 threads::(.int .i64 size::(cellsX T63 (Ty.dflt T63)++(cellsX T65 b2++(cellsX T69 (Ty.dflt T69)))))))] ?_
          obtain rfl:=Option.some.inj h
          exact ⟨_,rfl,zL [] [] []⟩
        ·refine AW.seq ?_
         refine AW.block ?_
         refine zo ?_
         refine zB [(6,.bp 26 0),(7,.int .i64 st1.2),(27,.int .i64 st1.2)] [(26,.box 71 (.int .i64 threads::(.int .i64 size::(cellsX T63 (Ty.dflt T63)++(cellsX T65 st1.1++(cellsX T69 (Ty.dflt T69)))))))] ?_
         refine zo ?_
         refine zB [(6,.bp 26 0),(7,.int .i64 st1.2),(27,.int .i64 st1.2),(30,.int .i64 0)] [(26,.box 71 (.int .i64 threads::(.int .i64 size::(cellsX T63 (Ty.dflt T63)++(cellsX T65 st1.1++(cellsX T69 (Ty.dflt T69)))))))] ?_
         refine AW.block ?_
         obtain ⟨rv19,hw15,ho16⟩:=Option.bind_eq_some_iff.1 h
         refine AW.loopO (hazard_New_b2 st1) (fun st2=>⟨fr [(6,.bp 26 0),(7,.int .i64 st1.2),(27,.int .i64 st1.2),(30,.int .i64 st2.2)],hpGet [(26,.box 71 (.int .i64 threads::(.int .i64 size::(cellsX T63 (Ty.dflt T63)++(cellsX T65 st2.1++(cellsX T69 (Ty.dflt T69)))))))],gt⟩) (st1.1,0) hw15 (zL [] [] []) ?_
         as_aux_lemma =>
          intro st2 x18 h hd17
          unfold hazard_New_b2 at h
          refine zo ?_
          refine zB [(6,.bp 26 0),(7,.int .i64 st1.2),(27,.int .i64 st1.2),(30,.int .i64 st2.2),(31,.bool (decide (st2.2<2)))] [(26,.box 71 (.int .i64 threads::(.int .i64 size::(cellsX T63 (Ty.dflt T63)++(cellsX T65 st2.1++(cellsX T69 (Ty.dflt T69)))))))] ?_
          refine AW.seq ?_
          refine zQ h (fun hb20 h=>?_) (fun hb20 h=>?_)
          ·refine zk ?_
           refine AW.seq ?_
           refine AW.block ?_
           refine zo ?_
           refine zB [(6,.bp 26 0),(7,.int .i64 st1.2),(8,.int .i64 st2.2),(27,.int .i64 st1.2),(30,.int .i64 st2.2)] [(26,.box 71 (.int .i64 threads::(.int .i64 size::(cellsX T63 (Ty.dflt T63)++(cellsX T65 st2.1++(cellsX T69 (Ty.dflt T69)))))))] ?_
           refine AW.ops ?_
           refine zS 5 [(6,.bp 26 0),(7,.int .i64 st1.2),(27,.int .i64 st1.2),(30,.int .i64 st2.2),(34,.int .i64 st1.2),(35,.int .i64 st2.2),(37,.bp 26 10)] [(26,.box 71 (.int .i64 threads::(.int .i64 size::(cellsX T63 (Ty.dflt T63)++(cellsX T65 st2.1++(cellsX T69 (Ty.dflt T69)))))))] ?_
           obtain ⟨c21,h⟩:=ck_some.1 h
           obtain ⟨c22,h⟩:=ck_some.1 h
           obtain ⟨c23,h⟩:=ck_some.1 h
           obtain ⟨c24,h⟩:=ck_some.1 h
           have hx25:((st1.2.toNat*2)+st2.2.toNat*1)<8:=by omega
           refine zA [(6,.bp 26 0),(7,.int .i64 st1.2),(27,.int .i64 st1.2),(30,.int .i64 st2.2)] [(26,.box 71 (.int .i64 threads::(.int .i64 size::(cellsX T63 (Ty.dflt T63)++(cellsX T65 (setInt T65 st2.1 ((st1.2.toNat*2)+st2.2.toNat*1) (-1))++(cellsX T69 (Ty.dflt T69)))))))] ?_
           refine ablock_n ?_
           refine athen_n ?_
           refine AW.ops ?_
           obtain ⟨c26,h⟩:=ck_some.1 h
           refine zA [(6,.bp 26 0),(7,.int .i64 st1.2),(27,.int .i64 st1.2),(30,.int .i64 (st2.2+1))] [(26,.box 71 (.int .i64 threads::(.int .i64 size::(cellsX T63 (Ty.dflt T63)++(cellsX T65 (setInt T65 st2.1 ((st1.2.toNat*2)+st2.2.toNat*1) (-1))++(cellsX T69 (Ty.dflt T69)))))))] ?_
           obtain rfl:=Option.some.inj h
           exact ⟨_,rfl,zL [] [] []⟩
          ·refine AW.exit ?_
           refine athen_e ?_
           obtain rfl:=Option.some.inj h
           rw [← hd17 _ rfl] at ho16
           have h:=ho16
           refine athen_e ?_
           refine ablock_s ?_
           refine ablock_n ?_
           refine athen_n ?_
           exact AW.weaken (zL [] [] []) (hk_hazard_New_k2 _ h)
       ·refine AW.exit ?_
        refine athen_e ?_
        obtain rfl:=Option.some.inj h
        rw [← hd10 _ rfl] at ho9
        have h:=ho9
        refine athen_e ?_
        refine ablock_s ?_
        refine athen_n ?_
        exact AW.weaken (zL [] [] []) (hk_hazard_New_k1 _ h)
theorem hc_hazard_New_a0 (threads:Int) (size:Int) {r:Unit} (h:hazard_New threads size=some (Sum.inl r)):HC Tryd.prog 12 [] [.int .i64 threads,.int .i64 size] [] (.tup [.cv (.pointer none),.int .i64 2]):=hc_hazard_New threads size h
theorem hc_hazard_New_a1 (threads:Int) (size:Int) {r:(El T65)} (h:hazard_New threads size=some (Sum.inr r)):HC Tryd.prog 12 [] [.int .i64 threads,.int .i64 size] [(2000,.box 71 (.int .i64 threads::(.int .i64 size::(cellsX T63 (Ty.dflt T63)++(cellsX T65 r++(cellsX T69 (Ty.dflt T69)))))))] (.tup [.bp 2000 0,.int .i64 0]):=hc_hazard_New threads size h
theorem hc_hazard_isDeed (d:Int×Int×Int×Int) {r:Unit} (h:hazard_isDeed d=some r):HC Tryd.prog 50 [] [.agg [.int .i64 d.1,.int .i64 d.2.1,.int .i64 d.2.2.1,.int .i64 d.2.2.2]] [] (.agg [.fn (.func 69) [] [.dp (.pair (.int .i64) (.pair (.int .i64) (.pair (.int .i64) (.int .i64)))) d 0],.int .i64 2]):=by
 unfold hazard_isDeed at h
 refine zH Tryd.func50 [.cell 2 81] 5 ?_
 refine zo ?_
 refine zS 1 [(1,.bp 1 0)] [(1,.box 33 [.int .i64 d.1,.int .i64 d.2.1,.int .i64 d.2.2.1,.int .i64 d.2.2.2])] ?_
 refine AO.weaken (s':=⟨fr [(1,.dp (.pair (.int .i64) (.pair (.int .i64) (.pair (.int .i64) (.int .i64)))) d 0)],hpGet [],gt⟩) (Wk.boxes [1] rfl rfl (by (simp only [go_sem])<;>(with_reducible and_intros)<;>first|assumption|rfl|omega|(unfold maxLen; omega)) (by (simp only [go_sem])<;>(with_reducible and_intros)<;>first|assumption|rfl|omega|(unfold maxLen; omega))) ?_
 refine zB [(1,.dp (.pair (.int .i64) (.pair (.int .i64) (.pair (.int .i64) (.int .i64)))) d 0),(2,.bp 2 0)] [(2,.box 81 [.cv (.nilFunc),.int .i64 0])] ?_
 refine zo ?_
 refine zB [(2,.bp 2 0)] [(2,.box 81 [.fn (.func 69) [] [.dp (.pair (.int .i64) (.pair (.int .i64) (.pair (.int .i64) (.int .i64)))) d 0],.int .i64 2])] ?_
 refine AW.ret ?_
 obtain rfl:=Option.some.inj h
 exact zR [] [] []
theorem hc_hazard_Yard_isNone (y:Int×Int×(El T63)×(El T65)×(El T69)) {r:Unit} (h:hazard_Yard_isNone y=some r):HC Tryd.prog 48 [(1000,.box 71 (.int .i64 y.1::(.int .i64 y.2.1::(cellsX T63 y.2.2.1++(cellsX T65 y.2.2.2.1++(cellsX T69 y.2.2.2.2))))))] [.bp 1000 0] [(1000,.box 71 (.int .i64 y.1::(.int .i64 y.2.1::(cellsX T63 y.2.2.1++(cellsX T65 y.2.2.2.1++(cellsX T69 y.2.2.2.2))))))] (.bool (decide (y.1=0))):=by
 unfold hazard_Yard_isNone at h
 refine zH Tryd.func48 [.tmp 2] 12 ?_
 refine zo ?_
 refine zB [(0,.bp 1000 0)] [(1000,.box 71 (.int .i64 y.1::(.int .i64 y.2.1::(cellsX T63 y.2.2.1++(cellsX T65 y.2.2.2.1++(cellsX T69 y.2.2.2.2))))))] ?_
 refine zo ?_
 refine zS 1 [(0,.bp 1000 0),(3,.bp 1000 0)] [(1000,.box 71 (.int .i64 y.1::(.int .i64 y.2.1::(cellsX T63 y.2.2.1++(cellsX T65 y.2.2.2.1++(cellsX T69 y.2.2.2.2))))))] ?_
 refine AO.ptrNil (neg:=false) (p:=false) (by decide) (.inl rfl) (by kernel_rfl) rfl rfl rfl ?_
 refine zT [(0,.bp 1000 0),(4,.bool false)] [(1000,.box 71 (.int .i64 y.1::(.int .i64 y.2.1::(cellsX T63 y.2.2.1++(cellsX T65 y.2.2.2.1++(cellsX T69 y.2.2.2.2))))))] gt ?_
 refine zS 5 [(5,.bool false),(9,.int .i64 y.1)] [(1000,.box 71 (.int .i64 y.1::(.int .i64 y.2.1::(cellsX T63 y.2.2.1++(cellsX T65 y.2.2.2.1++(cellsX T69 y.2.2.2.2))))))] ?_
 refine zB [(2,.bool (decide (y.1=0)))] [(1000,.box 71 (.int .i64 y.1::(.int .i64 y.2.1::(cellsX T63 y.2.2.1++(cellsX T65 y.2.2.2.1++(cellsX T69 y.2.2.2.2))))))] ?_
 refine AW.ret ?_
 obtain rfl:=Option.some.inj h
 exact zR [] [] []
theorem hc_hazard_isDeed_1 (a1:Int×Int×Int×Int) (a0:Int×Int×(El T63)×(El T65)×(El T69)) {r:Bool} (h:hazard_isDeed_1 a1 a0=some r):HC Tryd.prog 69 [(1000,.box 71 (.int .i64 a0.1::(.int .i64 a0.2.1::(cellsX T63 a0.2.2.1++(cellsX T65 a0.2.2.2.1++(cellsX T69 a0.2.2.2.2))))))] [.bp 1000 0,.dp (.pair (.int .i64) (.pair (.int .i64) (.pair (.int .i64) (.int .i64)))) a1 0] [(1000,.box 71 (.int .i64 a0.1::(.int .i64 a0.2.1::(cellsX T63 a0.2.2.1++(cellsX T65 a0.2.2.2.1++(cellsX T69 a0.2.2.2.2))))))] (.bool r):=by
 unfold hazard_isDeed_1 at h
 refine zH Tryd.func69 [.tmp 3] 34 ?_
 refine zo ?_
 refine zB [(1,.dp (.pair (.int .i64) (.pair (.int .i64) (.pair (.int .i64) (.int .i64)))) a1 0)] [(1000,.box 71 (.int .i64 a0.1::(.int .i64 a0.2.1::(cellsX T63 a0.2.2.1++(cellsX T65 a0.2.2.2.1++(cellsX T69 a0.2.2.2.2))))))] ?_
 refine AW.seq ?_
 refine zo ?_
 refine zS 4 [(1,.dp (.pair (.int .i64) (.pair (.int .i64) (.pair (.int .i64) (.int .i64)))) a1 0),(9,.bool (decide (a1.1<1)))] [(1000,.box 71 (.int .i64 a0.1::(.int .i64 a0.2.1::(cellsX T63 a0.2.2.1++(cellsX T65 a0.2.2.2.1++(cellsX T69 a0.2.2.2.2))))))] ?_
 rcases zI h with ⟨hb1,h⟩|⟨hb1,h⟩
 ·refine zB [(1,.dp (.pair (.int .i64) (.pair (.int .i64) (.pair (.int .i64) (.int .i64)))) a1 0),(13,.bool true)] [(1000,.box 71 (.int .i64 a0.1::(.int .i64 a0.2.1::(cellsX T63 a0.2.2.1++(cellsX T65 a0.2.2.2.1++(cellsX T69 a0.2.2.2.2))))))] ?_
  refine AW.cond (b:=true) rfl (fun _=>?_) (fun hb2=>by cases hb2)
  refine zo ?_
  refine zB [(3,.bool false)] [(1000,.box 71 (.int .i64 a0.1::(.int .i64 a0.2.1::(cellsX T63 a0.2.2.1++(cellsX T65 a0.2.2.2.1++(cellsX T69 a0.2.2.2.2))))))] ?_
  refine zr ?_
  obtain rfl:=Option.some.inj h
  exact zR [] [] []
 ·refine zB [(1,.dp (.pair (.int .i64) (.pair (.int .i64) (.pair (.int .i64) (.int .i64)))) a1 0),(13,.bool (decide (6<a1.1)))] [(1000,.box 71 (.int .i64 a0.1::(.int .i64 a0.2.1::(cellsX T63 a0.2.2.1++(cellsX T65 a0.2.2.2.1++(cellsX T69 a0.2.2.2.2))))))] ?_
  refine zQ h (fun hb3 h=>?_) (fun hb3 h=>?_)
  ·refine zo ?_
   refine zB [(3,.bool false)] [(1000,.box 71 (.int .i64 a0.1::(.int .i64 a0.2.1::(cellsX T63 a0.2.2.1++(cellsX T65 a0.2.2.2.1++(cellsX T69 a0.2.2.2.2))))))] ?_
   refine zr ?_
   obtain rfl:=Option.some.inj h
   exact zR [] [] []
  ·refine zk ?_
   refine AW.have1 (fun _:Unit=>hazard_isDeed_1_k1=some r) (fun _=>⟨fr [],hpGet [(1000,.box 71 (.int .i64 a0.1::(.int .i64 a0.2.1::(cellsX T63 a0.2.2.1++(cellsX T65 a0.2.2.2.1++(cellsX T69 a0.2.2.2.2))))))],gt⟩) (fun _ h=>?_) (fun hk_hazard_isDeed_1_k1=>?_)
   ·as_aux_lemma =>
     unfold hazard_isDeed_1_k1 at h
     refine zo ?_
     refine zB [(3,.bool true)] [(1000,.box 71 (.int .i64 a0.1::(.int .i64 a0.2.1::(cellsX T63 a0.2.2.1++(cellsX T65 a0.2.2.2.1++(cellsX T69 a0.2.2.2.2))))))] ?_
     refine AW.ret ?_
     obtain rfl:=Option.some.inj h
     exact zR [] [] []
   ·refine AW.seq ?_
    refine AW.seq ?_
    refine AW.draw tab_ok mixed_ok [(6,[20]),(11,[20])] [(7,[]),(8,[]),(9,[]),(10,[]),(13,[])] (by decide) (lex_fast (by kernel_rfl)) ?_
    as_aux_lemma =>
     refine adops_cut 6 (fun K' hK4=>?_)
     try dsimp only [List.drop_succ_cons,List.drop_zero,List.take_succ_cons,List.take_zero]
     simp only [go_sem,hb1,hb3]
     repeat with_reducible refine zN ?_
     refine hK4 _ ?_
     as_aux_lemma =>
      obtain ⟨c6,h⟩:=ck_some.1 h
      obtain ⟨c7,h⟩:=ck_some.1 h
      obtain ⟨c8,h⟩:=ck_some.1 h
      obtain ⟨c9,h⟩:=ck_some.1 h
      obtain ⟨c10,h⟩:=ck_some.1 h
      refine adops_cut 6 (fun K' hK5=>?_)
      try dsimp only [List.drop_succ_cons,List.drop_zero,List.take_succ_cons,List.take_zero]
      simp only [go_sem,hb1,hb3]
      repeat with_reducible refine zN ?_
      refine hK5 _ ?_
      as_aux_lemma =>
       refine adops_cut 2 (fun K' hK11=>?_)
       try dsimp only [List.drop_succ_cons,List.drop_zero,List.take_succ_cons,List.take_zero]
       simp only [go_sem,hb1,hb3]
       repeat with_reducible refine zN ?_
       refine hK11 _ ?_
       refine adops_nil ?_
       refine athen_n ?_
       refine zV [(25,.sl (.int .i64) ([a1.2.1,a1.2.2.1,a1.2.2.2].drop (fieldsL.getD (0+a1.1.toNat*1) 0).toNat)),(26,.int .i64 (([a1.2.1,a1.2.2.1,a1.2.2.2].drop (fieldsL.getD (0+a1.1.toNat*1) 0).toNat).length:Int)),(27,.int .i64 0)] [(1000,.box 71 (.int .i64 a0.1::(.int .i64 a0.2.1::(cellsX T63 a0.2.2.1++(cellsX T65 a0.2.2.2.1++(cellsX T69 a0.2.2.2.2))))))] gt ?_
       as_aux_lemma =>
        refine AW.block ?_
        obtain ⟨rv16,hw12,ho13⟩:=Option.bind_eq_some_iff.1 h
        refine AW.loopO (hazard_isDeed_1_b1 a1) (fun st1=>⟨fr [(25,.sl (.int .i64) ([a1.2.1,a1.2.2.1,a1.2.2.2].drop (fieldsL.getD (0+a1.1.toNat*1) 0).toNat)),(26,.int .i64 (([a1.2.1,a1.2.2.1,a1.2.2.2].drop (fieldsL.getD (0+a1.1.toNat*1) 0).toNat).length:Int)),(27,.int .i64 st1)],hpGet [(1000,.box 71 (.int .i64 a0.1::(.int .i64 a0.2.1::(cellsX T63 a0.2.2.1++(cellsX T65 a0.2.2.2.1++(cellsX T69 a0.2.2.2.2))))))],gt⟩) 0 hw12 (zL [] [] []) ?_
        as_aux_lemma =>
         intro st1 x15 h hd14
         unfold hazard_isDeed_1_b1 at h
         refine zo ?_
         refine zB [(25,.sl (.int .i64) ([a1.2.1,a1.2.2.1,a1.2.2.2].drop (fieldsL.getD (0+a1.1.toNat*1) 0).toNat)),(26,.int .i64 (([a1.2.1,a1.2.2.1,a1.2.2.2].drop (fieldsL.getD (0+a1.1.toNat*1) 0).toNat).length:Int)),(27,.int .i64 st1),(28,.bool (decide (st1<(([a1.2.1,a1.2.2.1,a1.2.2.2].drop (fieldsL.getD (0+a1.1.toNat*1) 0).toNat).length:Int))))] [(1000,.box 71 (.int .i64 a0.1::(.int .i64 a0.2.1::(cellsX T63 a0.2.2.1++(cellsX T65 a0.2.2.2.1++(cellsX T69 a0.2.2.2.2))))))] ?_
         refine AW.seq ?_
         refine zQ h (fun hb17 h=>?_) (fun hb17 h=>?_)
         ·refine zk ?_
          refine AW.seq ?_
          refine AW.block ?_
          refine zo ?_
          obtain ⟨c18,h⟩:=ck_some.1 h
          obtain ⟨c19,h⟩:=ck_some.1 h
          refine zB [(5,.int .i64 (([a1.2.1,a1.2.2.1,a1.2.2.2].drop (fieldsL.getD (0+a1.1.toNat*1) 0).toNat).getD st1.toNat 0)),(25,.sl (.int .i64) ([a1.2.1,a1.2.2.1,a1.2.2.2].drop (fieldsL.getD (0+a1.1.toNat*1) 0).toNat)),(26,.int .i64 (([a1.2.1,a1.2.2.1,a1.2.2.2].drop (fieldsL.getD (0+a1.1.toNat*1) 0).toNat).length:Int)),(27,.int .i64 st1)] [(1000,.box 71 (.int .i64 a0.1::(.int .i64 a0.2.1::(cellsX T63 a0.2.2.1++(cellsX T65 a0.2.2.2.1++(cellsX T69 a0.2.2.2.2))))))] ?_
          refine zo ?_
          refine zB [(25,.sl (.int .i64) ([a1.2.1,a1.2.2.1,a1.2.2.2].drop (fieldsL.getD (0+a1.1.toNat*1) 0).toNat)),(26,.int .i64 (([a1.2.1,a1.2.2.1,a1.2.2.2].drop (fieldsL.getD (0+a1.1.toNat*1) 0).toNat).length:Int)),(27,.int .i64 st1),(32,.bool (!(decide ((([a1.2.1,a1.2.2.1,a1.2.2.2].drop (fieldsL.getD (0+a1.1.toNat*1) 0).toNat).getD st1.toNat 0)=0))))] [(1000,.box 71 (.int .i64 a0.1::(.int .i64 a0.2.1::(cellsX T63 a0.2.2.1++(cellsX T65 a0.2.2.2.1++(cellsX T69 a0.2.2.2.2))))))] ?_
          refine zQ h (fun hb20 h=>?_) (fun hb20 h=>?_)
          ·refine zo ?_
           refine zB [(3,.bool false)] [(1000,.box 71 (.int .i64 a0.1::(.int .i64 a0.2.1::(cellsX T63 a0.2.2.1++(cellsX T65 a0.2.2.2.1++(cellsX T69 a0.2.2.2.2))))))] ?_
           refine AW.ret ?_
           refine ablock_r ?_
           refine athen_r ?_
           obtain rfl:=Option.some.inj h
           try rw [← hd14 _ rfl] at ho13
           have h:=ho13
           try simp only at h
           refine athen_r ?_
           refine ablock_r ?_
           refine athen_r ?_
           obtain rfl:=Option.some.inj h
           exact zR [] [] []
          ·refine zm ?_
           refine athen_n ?_
           refine AW.ops ?_
           obtain ⟨c21,h⟩:=ck_some.1 h
           refine zA [(25,.sl (.int .i64) ([a1.2.1,a1.2.2.1,a1.2.2.2].drop (fieldsL.getD (0+a1.1.toNat*1) 0).toNat)),(26,.int .i64 (([a1.2.1,a1.2.2.1,a1.2.2.2].drop (fieldsL.getD (0+a1.1.toNat*1) 0).toNat).length:Int)),(27,.int .i64 (st1+1))] [(1000,.box 71 (.int .i64 a0.1::(.int .i64 a0.2.1::(cellsX T63 a0.2.2.1++(cellsX T65 a0.2.2.2.1++(cellsX T69 a0.2.2.2.2))))))] ?_
           obtain rfl:=Option.some.inj h
           exact ⟨_,rfl,zL [] [] []⟩
         ·refine AW.exit ?_
          refine athen_e ?_
          obtain rfl:=Option.some.inj h
          try rw [← hd14 _ rfl] at ho13
          have h:=ho13
          try simp only at h
          refine athen_e ?_
          refine ablock_s ?_
          refine athen_n ?_
          exact AW.weaken (zL [] [] []) (hk_hazard_isDeed_1_k1 () h)
theorem hc_hazard_Yard_fails (y:Int×Int×(El T63)×(El T65)×(El T69)) (c0:Int×Int×Int×Int) (checks:Int) {r:Int} (h:hazard_Yard_fails y c0 checks=some r):HC Tryd.prog 49 [(1000,.box 71 (.int .i64 y.1::(.int .i64 y.2.1::(cellsX T63 y.2.2.1++(cellsX T65 y.2.2.2.1++(cellsX T69 y.2.2.2.2)))))),(1001,.box 81 [.fn (.func 69) [] [.dp (.pair (.int .i64) (.pair (.int .i64) (.pair (.int .i64) (.int .i64)))) c0 0],.int .i64 checks])] [.bp 1000 0,.vw 1001 2 0 1] [(1000,.box 71 (.int .i64 y.1::(.int .i64 y.2.1::(cellsX T63 y.2.2.1++(cellsX T65 y.2.2.2.1++(cellsX T69 y.2.2.2.2)))))),(1001,.box 81 [.fn (.func 69) [] [.dp (.pair (.int .i64) (.pair (.int .i64) (.pair (.int .i64) (.int .i64)))) c0 0],.int .i64 checks])] (.int .i64 r):=by
 unfold hazard_Yard_fails at h
 refine zH Tryd.func49 [.tmp 4] 23 ?_
 refine zo ?_
 refine zB [(0,.bp 1000 0),(1,.vw 1001 2 0 1)] [(1000,.box 71 (.int .i64 y.1::(.int .i64 y.2.1::(cellsX T63 y.2.2.1++(cellsX T65 y.2.2.2.1++(cellsX T69 y.2.2.2.2)))))),(1001,.box 81 [.fn (.func 69) [] [.dp (.pair (.int .i64) (.pair (.int .i64) (.pair (.int .i64) (.int .i64)))) c0 0],.int .i64 checks])] ?_
 refine AW.seq ?_
 refine zo ?_
 refine zS 1 [(0,.bp 1000 0),(1,.vw 1001 2 0 1),(7,.bp 1000 0)] [(1000,.box 71 (.int .i64 y.1::(.int .i64 y.2.1::(cellsX T63 y.2.2.1++(cellsX T65 y.2.2.2.1++(cellsX T69 y.2.2.2.2)))))),(1001,.box 81 [.fn (.func 69) [] [.dp (.pair (.int .i64) (.pair (.int .i64) (.pair (.int .i64) (.int .i64)))) c0 0],.int .i64 checks])] ?_
 obtain ⟨v0,hv1,h⟩:=Option.bind_eq_some_iff.1 h
 refine zC [] [(1000,1000)] (hc_hazard_Yard_isNone y hv1) [(0,.bp 1000 0),(1,.vw 1001 2 0 1),(8,.bool (decide (y.1=0)))] [(1000,.box 71 (.int .i64 y.1::(.int .i64 y.2.1::(cellsX T63 y.2.2.1++(cellsX T65 y.2.2.2.1++(cellsX T69 y.2.2.2.2)))))),(1001,.box 81 [.fn (.func 69) [] [.dp (.pair (.int .i64) (.pair (.int .i64) (.pair (.int .i64) (.int .i64)))) c0 0],.int .i64 checks])] ?_
 refine zB [(0,.bp 1000 0),(1,.vw 1001 2 0 1),(8,.bool (decide (y.1=0)))] [(1000,.box 71 (.int .i64 y.1::(.int .i64 y.2.1::(cellsX T63 y.2.2.1++(cellsX T65 y.2.2.2.1++(cellsX T69 y.2.2.2.2)))))),(1001,.box 81 [.fn (.func 69) [] [.dp (.pair (.int .i64) (.pair (.int .i64) (.pair (.int .i64) (.int .i64)))) c0 0],.int .i64 checks])] ?_
 refine zQ h (fun hb2 h=>?_) (fun hb2 h=>?_)
 ·refine zo ?_
  refine zB [(4,.int .i64 60)] [(1000,.box 71 (.int .i64 y.1::(.int .i64 y.2.1::(cellsX T63 y.2.2.1++(cellsX T65 y.2.2.2.1++(cellsX T69 y.2.2.2.2)))))),(1001,.box 81 [.fn (.func 69) [] [.dp (.pair (.int .i64) (.pair (.int .i64) (.pair (.int .i64) (.int .i64)))) c0 0],.int .i64 checks])] ?_
  refine zr ?_
  obtain rfl:=Option.some.inj h
  exact zR [] [] []
 ·refine zk ?_
  refine AW.have1 (fun _:Unit=>hazard_Yard_fails_k1=some r) (fun _=>⟨fr [],hpGet [(1000,.box 71 (.int .i64 y.1::(.int .i64 y.2.1::(cellsX T63 y.2.2.1++(cellsX T65 y.2.2.2.1++(cellsX T69 y.2.2.2.2)))))),(1001,.box 81 [.fn (.func 69) [] [.dp (.pair (.int .i64) (.pair (.int .i64) (.pair (.int .i64) (.int .i64)))) c0 0],.int .i64 checks])],gt⟩) (fun _ h=>?_) (fun hk_hazard_Yard_fails_k1=>?_)
  ·as_aux_lemma =>
    unfold hazard_Yard_fails_k1 at h
    refine zo ?_
    refine zB [(4,.int .i64 0)] [(1000,.box 71 (.int .i64 y.1::(.int .i64 y.2.1::(cellsX T63 y.2.2.1++(cellsX T65 y.2.2.2.1++(cellsX T69 y.2.2.2.2)))))),(1001,.box 81 [.fn (.func 69) [] [.dp (.pair (.int .i64) (.pair (.int .i64) (.pair (.int .i64) (.int .i64)))) c0 0],.int .i64 checks])] ?_
    refine AW.ret ?_
    obtain rfl:=Option.some.inj h
    exact zR [] [] []
  ·refine AW.seq ?_
   refine zo ?_
   refine zB [(0,.bp 1000 0),(9,.vw 1001 2 0 1),(10,.int .i64 1),(11,.int .i64 0)] [(1000,.box 71 (.int .i64 y.1::(.int .i64 y.2.1::(cellsX T63 y.2.2.1++(cellsX T65 y.2.2.2.1++(cellsX T69 y.2.2.2.2)))))),(1001,.box 81 [.fn (.func 69) [] [.dp (.pair (.int .i64) (.pair (.int .i64) (.pair (.int .i64) (.int .i64)))) c0 0],.int .i64 checks])] ?_
   refine AW.block ?_
   refine AW.unroll 8 ?_
   refine LoopU.nx ?_
   refine zo ?_
   refine zB [(0,.bp 1000 0),(9,.vw 1001 2 0 1),(10,.int .i64 1),(11,.int .i64 0),(12,.bool true)] [(1000,.box 71 (.int .i64 y.1::(.int .i64 y.2.1::(cellsX T63 y.2.2.1++(cellsX T65 y.2.2.2.1++(cellsX T69 y.2.2.2.2)))))),(1001,.box 81 [.fn (.func 69) [] [.dp (.pair (.int .i64) (.pair (.int .i64) (.pair (.int .i64) (.int .i64)))) c0 0],.int .i64 checks])] ?_
   refine AW.seq ?_
   refine AW.cond (b:=true) rfl (fun _=>?_) (fun hb3=>by cases hb3)
   refine zk ?_
   refine AW.seq ?_
   refine AW.block ?_
   refine zo ?_
   refine AO.idxBox tab_ok (by decide) rfl rfl tab_92 rfl tab_81 rfl rfl rfl (by decide) (by decide) (at_:=0) rfl ?_
   refine zT [(0,.bp 1000 0),(9,.vw 1001 2 0 1),(10,.int .i64 1),(11,.int .i64 0),(13,.bp 1001 0)] [(1000,.box 71 (.int .i64 y.1::(.int .i64 y.2.1::(cellsX T63 y.2.2.1++(cellsX T65 y.2.2.2.1++(cellsX T69 y.2.2.2.2)))))),(1001,.box 81 [.fn (.func 69) [] [.dp (.pair (.int .i64) (.pair (.int .i64) (.pair (.int .i64) (.int .i64)))) c0 0],.int .i64 checks])] gt ?_
   refine zB [(0,.bp 1000 0),(6,.bp 6 0),(9,.vw 1001 2 0 1),(10,.int .i64 1),(11,.int .i64 0)] [(6,.box 81 [.fn (.func 69) [] [.dp (.pair (.int .i64) (.pair (.int .i64) (.pair (.int .i64) (.int .i64)))) c0 0],.int .i64 checks]),(1000,.box 71 (.int .i64 y.1::(.int .i64 y.2.1::(cellsX T63 y.2.2.1++(cellsX T65 y.2.2.2.1++(cellsX T69 y.2.2.2.2)))))),(1001,.box 81 [.fn (.func 69) [] [.dp (.pair (.int .i64) (.pair (.int .i64) (.pair (.int .i64) (.int .i64)))) c0 0],.int .i64 checks])] ?_
   refine zo ?_
   refine zS 3 [(0,.bp 1000 0),(6,.bp 6 0),(9,.vw 1001 2 0 1),(10,.int .i64 1),(11,.int .i64 0),(16,.fn (.func 69) [] [.dp (.pair (.int .i64) (.pair (.int .i64) (.pair (.int .i64) (.int .i64)))) c0 0]),(17,.bp 1000 0)] [(6,.box 81 [.fn (.func 69) [] [.dp (.pair (.int .i64) (.pair (.int .i64) (.pair (.int .i64) (.int .i64)))) c0 0],.int .i64 checks]),(1000,.box 71 (.int .i64 y.1::(.int .i64 y.2.1::(cellsX T63 y.2.2.1++(cellsX T65 y.2.2.2.1++(cellsX T69 y.2.2.2.2)))))),(1001,.box 81 [.fn (.func 69) [] [.dp (.pair (.int .i64) (.pair (.int .i64) (.pair (.int .i64) (.int .i64)))) c0 0],.int .i64 checks])] ?_
   obtain ⟨v0_2,hv4,h⟩:=Option.bind_eq_some_iff.1 h
   refine zC [] [(1000,1000)] (hc_hazard_isDeed_1 c0 y hv4) [(0,.bp 1000 0),(6,.bp 6 0),(9,.vw 1001 2 0 1),(10,.int .i64 1),(11,.int .i64 0),(18,.bool v0_2)] [(6,.box 81 [.fn (.func 69) [] [.dp (.pair (.int .i64) (.pair (.int .i64) (.pair (.int .i64) (.int .i64)))) c0 0],.int .i64 checks]),(1000,.box 71 (.int .i64 y.1::(.int .i64 y.2.1::(cellsX T63 y.2.2.1++(cellsX T65 y.2.2.2.1++(cellsX T69 y.2.2.2.2)))))),(1001,.box 81 [.fn (.func 69) [] [.dp (.pair (.int .i64) (.pair (.int .i64) (.pair (.int .i64) (.int .i64)))) c0 0],.int .i64 checks])] ?_
   refine zB [(0,.bp 1000 0),(6,.bp 6 0),(9,.vw 1001 2 0 1),(10,.int .i64 1),(11,.int .i64 0),(19,.bool (!v0_2))] [(6,.box 81 [.fn (.func 69) [] [.dp (.pair (.int .i64) (.pair (.int .i64) (.pair (.int .i64) (.int .i64)))) c0 0],.int .i64 checks]),(1000,.box 71 (.int .i64 y.1::(.int .i64 y.2.1::(cellsX T63 y.2.2.1++(cellsX T65 y.2.2.2.1++(cellsX T69 y.2.2.2.2)))))),(1001,.box 81 [.fn (.func 69) [] [.dp (.pair (.int .i64) (.pair (.int .i64) (.pair (.int .i64) (.int .i64)))) c0 0],.int .i64 checks])] ?_
   refine zQ h (fun hb5 h=>?_) (fun hb5 h=>?_)
   ·refine zo ?_
    refine zB [(4,.int .i64 checks)] [(1000,.box 71 (.int .i64 y.1::(.int .i64 y.2.1::(cellsX T63 y.2.2.1++(cellsX T65 y.2.2.2.1++(cellsX T69 y.2.2.2.2)))))),(1001,.box 81 [.fn (.func 69) [] [.dp (.pair (.int .i64) (.pair (.int .i64) (.pair (.int .i64) (.int .i64)))) c0 0],.int .i64 checks])] ?_
    refine AW.ret ?_
    refine ablock_r ?_
    refine athen_r ?_
    refine athen_r ?_
    refine ablock_r ?_
    refine athen_r ?_
    obtain rfl:=Option.some.inj h
    exact zR [] [] []
   ·refine zm ?_
    refine athen_n ?_
    refine AW.ops ?_
    obtain ⟨c6,h⟩:=ck_some.1 h
    refine zA [(0,.bp 1000 0),(9,.vw 1001 2 0 1),(10,.int .i64 1),(11,.int .i64 1)] [(1000,.box 71 (.int .i64 y.1::(.int .i64 y.2.1::(cellsX T63 y.2.2.1++(cellsX T65 y.2.2.2.1++(cellsX T69 y.2.2.2.2)))))),(1001,.box 81 [.fn (.func 69) [] [.dp (.pair (.int .i64) (.pair (.int .i64) (.pair (.int .i64) (.int .i64)))) c0 0],.int .i64 checks])] ?_
    refine LoopU.at_ ?_
    refine LoopU.nx ?_
    refine zo ?_
    refine zB [(0,.bp 1000 0),(9,.vw 1001 2 0 1),(10,.int .i64 1),(11,.int .i64 1),(12,.bool false)] [(1000,.box 71 (.int .i64 y.1::(.int .i64 y.2.1::(cellsX T63 y.2.2.1++(cellsX T65 y.2.2.2.1++(cellsX T69 y.2.2.2.2)))))),(1001,.box 81 [.fn (.func 69) [] [.dp (.pair (.int .i64) (.pair (.int .i64) (.pair (.int .i64) (.int .i64)))) c0 0],.int .i64 checks])] ?_
    refine AW.seq ?_
    refine AW.cond (b:=false) rfl (fun hb7=>by cases hb7) (fun _=>?_)
    refine AW.exit ?_
    refine athen_e ?_
    refine athen_e ?_
    refine ablock_s ?_
    refine athen_n ?_
    exact AW.weaken (zL [] [] []) (hk_hazard_Yard_fails_k1 () h)
theorem hc_hazard_isThread (thread:Int) {r:Unit} (h:hazard_isThread thread=some r):HC Tryd.prog 55 [] [.int .i64 thread] [] (.agg [.fn (.func 72) [] [.dp (.int .i64) thread 0],.int .i64 2]):=by
 unfold hazard_isThread at h
 refine zH Tryd.func55 [.cell 2 81] 5 ?_
 refine zo ?_
 refine zS 1 [(1,.bp 1 0)] [(1,.box 3 [.int .i64 thread])] ?_
 refine AO.weaken (s':=⟨fr [(1,.dp (.int .i64) thread 0)],hpGet [],gt⟩) (Wk.boxes [1] rfl rfl (by (simp only [go_sem])<;>(with_reducible and_intros)<;>first|assumption|rfl|omega|(unfold maxLen; omega)) (by (simp only [go_sem])<;>(with_reducible and_intros)<;>first|assumption|rfl|omega|(unfold maxLen; omega))) ?_
 refine zB [(1,.dp (.int .i64) thread 0),(2,.bp 2 0)] [(2,.box 81 [.cv (.nilFunc),.int .i64 0])] ?_
 refine zo ?_
 refine zB [(2,.bp 2 0)] [(2,.box 81 [.fn (.func 72) [] [.dp (.int .i64) thread 0],.int .i64 2])] ?_
 refine AW.ret ?_
 obtain rfl:=Option.some.inj h
 exact zR [] [] []
theorem hc_hazard_isBelow (number:Int) (end0:Int) {r:Bool} (h:hazard_isBelow number end0=some r):HC Tryd.prog 71 [] [.int .i64 number,.int .i64 end0] [] (.bool r):=by
 unfold hazard_isBelow at h
 refine zH Tryd.func71 [.tmp 4] 12 ?_
 refine zo ?_
 refine zB [(0,.int .i64 number),(1,.int .i64 end0)] [] ?_
 refine zo ?_
 refine zS 3 [(0,.int .i64 number),(1,.int .i64 end0),(7,.bool (decide (0≤number)))] [] ?_
 rcases zI h with ⟨hb1,h⟩|⟨hb1,h⟩
 ·refine zB [(4,.bool (decide (number<end0)))] [] ?_
  refine AW.ret ?_
  obtain rfl:=Option.some.inj h
  exact zR [] [] []
 ·refine zB [(4,.bool false)] [] ?_
  refine AW.ret ?_
  obtain rfl:=Option.some.inj h
  exact zR [] [] []
theorem hc_hazard_isThread_1 (a1:Int) (y:Int×Int×(El T63)×(El T65)×(El T69)) {r:Bool} (h:hazard_isThread_1 a1 y=some r):HC Tryd.prog 72 [(1000,.box 71 (.int .i64 y.1::(.int .i64 y.2.1::(cellsX T63 y.2.2.1++(cellsX T65 y.2.2.2.1++(cellsX T69 y.2.2.2.2))))))] [.bp 1000 0,.dp (.int .i64) a1 0] [(1000,.box 71 (.int .i64 y.1::(.int .i64 y.2.1::(cellsX T63 y.2.2.1++(cellsX T65 y.2.2.2.1++(cellsX T69 y.2.2.2.2))))))] (.bool r):=by
 unfold hazard_isThread_1 at h
 refine zH Tryd.func72 [.tmp 3] 10 ?_
 refine zo ?_
 refine zB [(0,.bp 1000 0),(1,.dp (.int .i64) a1 0)] [(1000,.box 71 (.int .i64 y.1::(.int .i64 y.2.1::(cellsX T63 y.2.2.1++(cellsX T65 y.2.2.2.1++(cellsX T69 y.2.2.2.2))))))] ?_
 refine AW.seq ?_
 refine AW.draw tab_ok mixed_ok [] [] (by decide) (by kernel_rfl) ?_
 as_aux_lemma =>
  refine adops_cut 5 (fun K' hK1=>?_)
  try dsimp only [List.drop_succ_cons,List.drop_zero,List.take_succ_cons,List.take_zero]
  simp only [go_sem]
  repeat with_reducible refine zN ?_
  refine hK1 _ ?_
  as_aux_lemma =>
   obtain ⟨v0,hv2,h⟩:=Option.bind_eq_some_iff.1 h
   refine adops.call (by first|trivial|rfl) rfl rfl rfl (fun _ h=>h) [] [] (hc_hazard_isBelow a1 y.1 hv2) rfl (by (simp only [go_sem])<;>(with_reducible and_intros)<;>first|assumption|rfl|omega|(unfold maxLen; omega)) (by (simp only [go_sem])<;>(with_reducible and_intros)<;>first|assumption|rfl|omega|(unfold maxLen; omega)) rfl ?_
   refine adops_cut 1 (fun K' hK3=>?_)
   try dsimp only [List.drop_succ_cons,List.drop_zero,List.take_succ_cons,List.take_zero]
   simp only [go_sem]
   repeat with_reducible refine zN ?_
   refine hK3 _ ?_
   refine adops_nil ?_
   refine athen_n ?_
   refine zV [(3,.bool v0)] [(1000,.box 71 (.int .i64 y.1::(.int .i64 y.2.1::(cellsX T63 y.2.2.1++(cellsX T65 y.2.2.2.1++(cellsX T69 y.2.2.2.2))))))] gt ?_
   as_aux_lemma =>
    refine AW.ret ?_
    obtain rfl:=Option.some.inj h
    exact zR [] [] []
theorem hc_hazard_Yard_fails_2 (y:Int×Int×(El T63)×(El T65)×(El T69)) (c0:Int) (checks:Int) {r:Int} (h:hazard_Yard_fails_2 y c0 checks=some r):HC Tryd.prog 49 [(1000,.box 71 (.int .i64 y.1::(.int .i64 y.2.1::(cellsX T63 y.2.2.1++(cellsX T65 y.2.2.2.1++(cellsX T69 y.2.2.2.2)))))),(1001,.box 81 [.fn (.func 72) [] [.dp (.int .i64) c0 0],.int .i64 checks])] [.bp 1000 0,.vw 1001 2 0 1] [(1000,.box 71 (.int .i64 y.1::(.int .i64 y.2.1::(cellsX T63 y.2.2.1++(cellsX T65 y.2.2.2.1++(cellsX T69 y.2.2.2.2)))))),(1001,.box 81 [.fn (.func 72) [] [.dp (.int .i64) c0 0],.int .i64 checks])] (.int .i64 r):=by
 unfold hazard_Yard_fails_2 at h
 refine zH Tryd.func49 [.tmp 4] 23 ?_
 refine zo ?_
 refine zB [(0,.bp 1000 0),(1,.vw 1001 2 0 1)] [(1000,.box 71 (.int .i64 y.1::(.int .i64 y.2.1::(cellsX T63 y.2.2.1++(cellsX T65 y.2.2.2.1++(cellsX T69 y.2.2.2.2)))))),(1001,.box 81 [.fn (.func 72) [] [.dp (.int .i64) c0 0],.int .i64 checks])] ?_
 refine AW.seq ?_
 refine zo ?_
 refine zS 1 [(0,.bp 1000 0),(1,.vw 1001 2 0 1),(7,.bp 1000 0)] [(1000,.box 71 (.int .i64 y.1::(.int .i64 y.2.1::(cellsX T63 y.2.2.1++(cellsX T65 y.2.2.2.1++(cellsX T69 y.2.2.2.2)))))),(1001,.box 81 [.fn (.func 72) [] [.dp (.int .i64) c0 0],.int .i64 checks])] ?_
 obtain ⟨v0,hv1,h⟩:=Option.bind_eq_some_iff.1 h
 refine zC [] [(1000,1000)] (hc_hazard_Yard_isNone y hv1) [(0,.bp 1000 0),(1,.vw 1001 2 0 1),(8,.bool (decide (y.1=0)))] [(1000,.box 71 (.int .i64 y.1::(.int .i64 y.2.1::(cellsX T63 y.2.2.1++(cellsX T65 y.2.2.2.1++(cellsX T69 y.2.2.2.2)))))),(1001,.box 81 [.fn (.func 72) [] [.dp (.int .i64) c0 0],.int .i64 checks])] ?_
 refine zB [(0,.bp 1000 0),(1,.vw 1001 2 0 1),(8,.bool (decide (y.1=0)))] [(1000,.box 71 (.int .i64 y.1::(.int .i64 y.2.1::(cellsX T63 y.2.2.1++(cellsX T65 y.2.2.2.1++(cellsX T69 y.2.2.2.2)))))),(1001,.box 81 [.fn (.func 72) [] [.dp (.int .i64) c0 0],.int .i64 checks])] ?_
 refine zQ h (fun hb2 h=>?_) (fun hb2 h=>?_)
 ·refine zo ?_
  refine zB [(4,.int .i64 60)] [(1000,.box 71 (.int .i64 y.1::(.int .i64 y.2.1::(cellsX T63 y.2.2.1++(cellsX T65 y.2.2.2.1++(cellsX T69 y.2.2.2.2)))))),(1001,.box 81 [.fn (.func 72) [] [.dp (.int .i64) c0 0],.int .i64 checks])] ?_
  refine zr ?_
  obtain rfl:=Option.some.inj h
  exact zR [] [] []
 ·refine zk ?_
  refine AW.have1 (fun _:Unit=>hazard_Yard_fails_2_k1=some r) (fun _=>⟨fr [],hpGet [(1000,.box 71 (.int .i64 y.1::(.int .i64 y.2.1::(cellsX T63 y.2.2.1++(cellsX T65 y.2.2.2.1++(cellsX T69 y.2.2.2.2)))))),(1001,.box 81 [.fn (.func 72) [] [.dp (.int .i64) c0 0],.int .i64 checks])],gt⟩) (fun _ h=>?_) (fun hk_hazard_Yard_fails_2_k1=>?_)
  ·as_aux_lemma =>
    unfold hazard_Yard_fails_2_k1 at h
    refine zo ?_
    refine zB [(4,.int .i64 0)] [(1000,.box 71 (.int .i64 y.1::(.int .i64 y.2.1::(cellsX T63 y.2.2.1++(cellsX T65 y.2.2.2.1++(cellsX T69 y.2.2.2.2)))))),(1001,.box 81 [.fn (.func 72) [] [.dp (.int .i64) c0 0],.int .i64 checks])] ?_
    refine AW.ret ?_
    obtain rfl:=Option.some.inj h
    exact zR [] [] []
  ·refine AW.seq ?_
   refine zo ?_
   refine zB [(0,.bp 1000 0),(9,.vw 1001 2 0 1),(10,.int .i64 1),(11,.int .i64 0)] [(1000,.box 71 (.int .i64 y.1::(.int .i64 y.2.1::(cellsX T63 y.2.2.1++(cellsX T65 y.2.2.2.1++(cellsX T69 y.2.2.2.2)))))),(1001,.box 81 [.fn (.func 72) [] [.dp (.int .i64) c0 0],.int .i64 checks])] ?_
   refine AW.block ?_
   refine AW.unroll 8 ?_
   refine LoopU.nx ?_
   refine zo ?_
   refine zB [(0,.bp 1000 0),(9,.vw 1001 2 0 1),(10,.int .i64 1),(11,.int .i64 0),(12,.bool true)] [(1000,.box 71 (.int .i64 y.1::(.int .i64 y.2.1::(cellsX T63 y.2.2.1++(cellsX T65 y.2.2.2.1++(cellsX T69 y.2.2.2.2)))))),(1001,.box 81 [.fn (.func 72) [] [.dp (.int .i64) c0 0],.int .i64 checks])] ?_
   refine AW.seq ?_
   refine AW.cond (b:=true) rfl (fun _=>?_) (fun hb3=>by cases hb3)
   refine zk ?_
   refine AW.seq ?_
   refine AW.block ?_
   refine zo ?_
   refine AO.idxBox tab_ok (by decide) rfl rfl tab_92 rfl tab_81 rfl rfl rfl (by decide) (by decide) (at_:=0) rfl ?_
   refine zT [(0,.bp 1000 0),(9,.vw 1001 2 0 1),(10,.int .i64 1),(11,.int .i64 0),(13,.bp 1001 0)] [(1000,.box 71 (.int .i64 y.1::(.int .i64 y.2.1::(cellsX T63 y.2.2.1++(cellsX T65 y.2.2.2.1++(cellsX T69 y.2.2.2.2)))))),(1001,.box 81 [.fn (.func 72) [] [.dp (.int .i64) c0 0],.int .i64 checks])] gt ?_
   refine zB [(0,.bp 1000 0),(6,.bp 6 0),(9,.vw 1001 2 0 1),(10,.int .i64 1),(11,.int .i64 0)] [(6,.box 81 [.fn (.func 72) [] [.dp (.int .i64) c0 0],.int .i64 checks]),(1000,.box 71 (.int .i64 y.1::(.int .i64 y.2.1::(cellsX T63 y.2.2.1++(cellsX T65 y.2.2.2.1++(cellsX T69 y.2.2.2.2)))))),(1001,.box 81 [.fn (.func 72) [] [.dp (.int .i64) c0 0],.int .i64 checks])] ?_
   refine zo ?_
   refine zS 3 [(0,.bp 1000 0),(6,.bp 6 0),(9,.vw 1001 2 0 1),(10,.int .i64 1),(11,.int .i64 0),(16,.fn (.func 72) [] [.dp (.int .i64) c0 0]),(17,.bp 1000 0)] [(6,.box 81 [.fn (.func 72) [] [.dp (.int .i64) c0 0],.int .i64 checks]),(1000,.box 71 (.int .i64 y.1::(.int .i64 y.2.1::(cellsX T63 y.2.2.1++(cellsX T65 y.2.2.2.1++(cellsX T69 y.2.2.2.2)))))),(1001,.box 81 [.fn (.func 72) [] [.dp (.int .i64) c0 0],.int .i64 checks])] ?_
   obtain ⟨v0_2,hv4,h⟩:=Option.bind_eq_some_iff.1 h
   refine zC [] [(1000,1000)] (hc_hazard_isThread_1 c0 y hv4) [(0,.bp 1000 0),(6,.bp 6 0),(9,.vw 1001 2 0 1),(10,.int .i64 1),(11,.int .i64 0),(18,.bool v0_2)] [(6,.box 81 [.fn (.func 72) [] [.dp (.int .i64) c0 0],.int .i64 checks]),(1000,.box 71 (.int .i64 y.1::(.int .i64 y.2.1::(cellsX T63 y.2.2.1++(cellsX T65 y.2.2.2.1++(cellsX T69 y.2.2.2.2)))))),(1001,.box 81 [.fn (.func 72) [] [.dp (.int .i64) c0 0],.int .i64 checks])] ?_
   refine zB [(0,.bp 1000 0),(6,.bp 6 0),(9,.vw 1001 2 0 1),(10,.int .i64 1),(11,.int .i64 0),(19,.bool (!v0_2))] [(6,.box 81 [.fn (.func 72) [] [.dp (.int .i64) c0 0],.int .i64 checks]),(1000,.box 71 (.int .i64 y.1::(.int .i64 y.2.1::(cellsX T63 y.2.2.1++(cellsX T65 y.2.2.2.1++(cellsX T69 y.2.2.2.2)))))),(1001,.box 81 [.fn (.func 72) [] [.dp (.int .i64) c0 0],.int .i64 checks])] ?_
   refine zQ h (fun hb5 h=>?_) (fun hb5 h=>?_)
   ·refine zo ?_
    refine zB [(4,.int .i64 checks)] [(1000,.box 71 (.int .i64 y.1::(.int .i64 y.2.1::(cellsX T63 y.2.2.1++(cellsX T65 y.2.2.2.1++(cellsX T69 y.2.2.2.2)))))),(1001,.box 81 [.fn (.func 72) [] [.dp (.int .i64) c0 0],.int .i64 checks])] ?_
    refine AW.ret ?_
    refine ablock_r ?_
    refine athen_r ?_
    refine athen_r ?_
    refine ablock_r ?_
    refine athen_r ?_
    obtain rfl:=Option.some.inj h
    exact zR [] [] []
   ·refine zm ?_
    refine athen_n ?_
    refine AW.ops ?_
    obtain ⟨c6,h⟩:=ck_some.1 h
    refine zA [(0,.bp 1000 0),(9,.vw 1001 2 0 1),(10,.int .i64 1),(11,.int .i64 1)] [(1000,.box 71 (.int .i64 y.1::(.int .i64 y.2.1::(cellsX T63 y.2.2.1++(cellsX T65 y.2.2.2.1++(cellsX T69 y.2.2.2.2)))))),(1001,.box 81 [.fn (.func 72) [] [.dp (.int .i64) c0 0],.int .i64 checks])] ?_
    refine LoopU.at_ ?_
    refine LoopU.nx ?_
    refine zo ?_
    refine zB [(0,.bp 1000 0),(9,.vw 1001 2 0 1),(10,.int .i64 1),(11,.int .i64 1),(12,.bool false)] [(1000,.box 71 (.int .i64 y.1::(.int .i64 y.2.1::(cellsX T63 y.2.2.1++(cellsX T65 y.2.2.2.1++(cellsX T69 y.2.2.2.2)))))),(1001,.box 81 [.fn (.func 72) [] [.dp (.int .i64) c0 0],.int .i64 checks])] ?_
    refine AW.seq ?_
    refine AW.cond (b:=false) rfl (fun hb7=>by cases hb7) (fun _=>?_)
    refine AW.exit ?_
    refine athen_e ?_
    refine athen_e ?_
    refine ablock_s ?_
    refine athen_n ?_
    exact AW.weaken (zL [] [] []) (hk_hazard_Yard_fails_2_k1 () h)
end Go.Proofs.YtcckpmeepcoafaaDoor
