import Derived.Test.YtcckpmeepcoafaaDoorHzp
import Derived.Test.YtcckpmeepcoafaaDoorShz
import Derived.Test.YtcckpmeepcoafaaDoorHhc1
import Derived.Test.YtcckpmeepcoafaaDoorHhc10
import Derived.Test.YtcckpmeepcoafaaDoorHhc12
import Derived.Test.YtcckpmeepcoafaaDoorHhc13
import Derived.Test.YtcckpmeepcoafaaDoorHhc14
import Derived.Test.YtcckpmeepcoafaaDoorHhc6
import Derived.Test.YtcckpmeepcoafaaDoorHhc7
import Derived.Test.YtcckpmeepcoafaaDoorHhc8
namespace Go.Proofs.YtcckpmeepcoafaaDoor
open Go.RowKit
set_option linter.unusedSimpArgs false
set_option linter.unusedVariables false
set_option linter.constructorNameAsVariable false
set_option maxRecDepth 100000
set_option maxHeartbeats 40000000
theorem hc_lineallaw06_HazardDeeds (threads:Int) (size:Int) (deeds:List (Int×Int×Int×Int)) {r:Bool} (h:lineallaw06_HazardDeeds threads size deeds=some r):HC Tryd.prog 3 [] [.int .i64 threads,.int .i64 size,.sl (.pair (.int .i64) (.pair (.int .i64) (.pair (.int .i64) (.int .i64)))) deeds] [] (.bool r):=by
 unfold lineallaw06_HazardDeeds at h
 refine zH Tryd.func3 [.tmp 6] 109 ?_
 refine zo ?_
 refine zB [(0,.int .i64 threads),(1,.int .i64 size),(2,.sl (.pair (.int .i64) (.pair (.int .i64) (.pair (.int .i64) (.int .i64)))) deeds)] [] ?_
 refine zo ?_
 refine zS 2 [(0,.int .i64 threads),(1,.int .i64 size),(2,.sl (.pair (.int .i64) (.pair (.int .i64) (.pair (.int .i64) (.int .i64)))) deeds),(20,.int .i64 threads),(21,.int .i64 size)] [] ?_
 obtain ⟨v0,hv1,h⟩:=Option.bind_eq_some_iff.1 h
 rcases v0 with v0_2|v0_3
 ·try simp only at h
  refine zC [] [] (hc_hazard_New_a0 threads size hv1) [(0,.int .i64 threads),(1,.int .i64 size),(2,.sl (.pair (.int .i64) (.pair (.int .i64) (.pair (.int .i64) (.int .i64)))) deeds),(22,.tup [.cv (.pointer none),.int .i64 2])] [] ?_
  refine zB [(0,.int .i64 threads),(1,.int .i64 size),(2,.sl (.pair (.int .i64) (.pair (.int .i64) (.pair (.int .i64) (.int .i64)))) deeds),(7,.cv (.pointer none)),(8,.int .i64 2)] [] ?_
  refine AW.seq ?_
  refine zo ?_
  refine zS 4 [(0,.int .i64 threads),(1,.int .i64 size),(2,.sl (.pair (.int .i64) (.pair (.int .i64) (.pair (.int .i64) (.int .i64)))) deeds),(7,.cv (.pointer none)),(25,.cv (.pointer none)),(26,.int .i64 2),(27,.int .i64 threads),(28,.int .i64 size)] [] ?_
  obtain ⟨v0_4,hv2,h⟩:=Option.bind_eq_some_iff.1 h
  refine zC [] [] (hc_lineallaw06_isOne 2 threads size hv2) [(0,.int .i64 threads),(1,.int .i64 size),(2,.sl (.pair (.int .i64) (.pair (.int .i64) (.pair (.int .i64) (.int .i64)))) deeds),(7,.cv (.pointer none)),(29,.bool v0_4)] [] ?_
  refine zB [(0,.int .i64 threads),(1,.int .i64 size),(2,.sl (.pair (.int .i64) (.pair (.int .i64) (.pair (.int .i64) (.int .i64)))) deeds),(7,.cv (.pointer none)),(30,.bool (!v0_4))] [] ?_
  refine zQ h (fun hb3 h=>?_) (fun hb3 h=>?_)
  ·refine zo ?_
   refine zB [(6,.bool false)] [] ?_
   refine zr ?_
   obtain rfl:=Option.some.inj h
   exact zR [] [] []
  ·refine zk ?_
   refine AW.seq ?_
   refine zo ?_
   refine zS 1 [(0,.int .i64 threads),(1,.int .i64 size),(2,.sl (.pair (.int .i64) (.pair (.int .i64) (.pair (.int .i64) (.int .i64)))) deeds),(7,.cv (.pointer none)),(31,.cv (.pointer none))] [] ?_
   refine AO.ptrNil (neg:=false) (p:=true) (by decide) (.inl rfl) (by kernel_rfl) rfl rfl rfl ?_
   refine zT [(0,.int .i64 threads),(1,.int .i64 size),(2,.sl (.pair (.int .i64) (.pair (.int .i64) (.pair (.int .i64) (.int .i64)))) deeds),(7,.cv (.pointer none)),(32,.bool true)] [] gt ?_
   refine zB [(0,.int .i64 threads),(1,.int .i64 size),(2,.sl (.pair (.int .i64) (.pair (.int .i64) (.pair (.int .i64) (.int .i64)))) deeds),(7,.cv (.pointer none)),(37,.bool true)] [] ?_
   refine AW.cond (b:=true) rfl (fun _=>?_) (fun hb4=>by cases hb4)
   refine zo ?_
   obtain ⟨v0_5,hv5,h⟩:=Option.bind_eq_some_iff.1 h
   refine zC [] [] (hc_lineallaw06_Sane hv5) [(38,.bool v0_5)] [] ?_
   refine zB [(6,.bool v0_5)] [] ?_
   refine zr ?_
   obtain rfl:=Option.some.inj h
   exact zR [] [] []
 ·try simp only at h
  refine zC [] [] (hc_hazard_New_a1 threads size hv1) [(0,.int .i64 threads),(1,.int .i64 size),(2,.sl (.pair (.int .i64) (.pair (.int .i64) (.pair (.int .i64) (.int .i64)))) deeds),(22,.tup [.bp 32000 0,.int .i64 0])] [(32000,.box 71 (.int .i64 threads::(.int .i64 size::(cellsX T63 (Ty.dflt T63)++(cellsX T65 v0_3++(cellsX T69 (Ty.dflt T69)))))))] ?_
  refine zB [(0,.int .i64 threads),(1,.int .i64 size),(2,.sl (.pair (.int .i64) (.pair (.int .i64) (.pair (.int .i64) (.int .i64)))) deeds),(7,.bp 32000 0),(8,.int .i64 0)] [(32000,.box 71 (.int .i64 threads::(.int .i64 size::(cellsX T63 (Ty.dflt T63)++(cellsX T65 v0_3++(cellsX T69 (Ty.dflt T69)))))))] ?_
  refine AW.seq ?_
  refine zo ?_
  refine zS 4 [(0,.int .i64 threads),(1,.int .i64 size),(2,.sl (.pair (.int .i64) (.pair (.int .i64) (.pair (.int .i64) (.int .i64)))) deeds),(7,.bp 32000 0),(25,.bp 32000 0),(26,.int .i64 0),(27,.int .i64 threads),(28,.int .i64 size)] [(32000,.box 71 (.int .i64 threads::(.int .i64 size::(cellsX T63 (Ty.dflt T63)++(cellsX T65 v0_3++(cellsX T69 (Ty.dflt T69)))))))] ?_
  obtain ⟨v0_6,hv6,h⟩:=Option.bind_eq_some_iff.1 h
  refine zC [] [(1000,32000)] (hc_lineallaw06_isOne_2 0 threads size (threads,size,(Ty.dflt T63),v0_3,(Ty.dflt T69)) hv6) [(0,.int .i64 threads),(1,.int .i64 size),(2,.sl (.pair (.int .i64) (.pair (.int .i64) (.pair (.int .i64) (.int .i64)))) deeds),(7,.bp 32000 0),(29,.bool v0_6)] [(32000,.box 71 (.int .i64 threads::(.int .i64 size::(cellsX T63 (Ty.dflt T63)++(cellsX T65 v0_3++(cellsX T69 (Ty.dflt T69)))))))] ?_
  refine zB [(0,.int .i64 threads),(1,.int .i64 size),(2,.sl (.pair (.int .i64) (.pair (.int .i64) (.pair (.int .i64) (.int .i64)))) deeds),(7,.bp 32000 0),(30,.bool (!v0_6))] [(32000,.box 71 (.int .i64 threads::(.int .i64 size::(cellsX T63 (Ty.dflt T63)++(cellsX T65 v0_3++(cellsX T69 (Ty.dflt T69)))))))] ?_
  refine zQ h (fun hb7 h=>?_) (fun hb7 h=>?_)
  ·refine zo ?_
   refine zB [(6,.bool false)] [] ?_
   refine zr ?_
   obtain rfl:=Option.some.inj h
   exact zR [] [] []
  ·refine zk ?_
   refine AW.seq ?_
   refine zo ?_
   refine zS 1 [(0,.int .i64 threads),(1,.int .i64 size),(2,.sl (.pair (.int .i64) (.pair (.int .i64) (.pair (.int .i64) (.int .i64)))) deeds),(7,.bp 32000 0),(31,.bp 32000 0)] [(32000,.box 71 (.int .i64 threads::(.int .i64 size::(cellsX T63 (Ty.dflt T63)++(cellsX T65 v0_3++(cellsX T69 (Ty.dflt T69)))))))] ?_
   refine AO.ptrNil (neg:=false) (p:=false) (by decide) (.inl rfl) (by kernel_rfl) rfl rfl rfl ?_
   refine zT [(0,.int .i64 threads),(1,.int .i64 size),(2,.sl (.pair (.int .i64) (.pair (.int .i64) (.pair (.int .i64) (.int .i64)))) deeds),(7,.bp 32000 0),(32,.bool false)] [(32000,.box 71 (.int .i64 threads::(.int .i64 size::(cellsX T63 (Ty.dflt T63)++(cellsX T65 v0_3++(cellsX T69 (Ty.dflt T69)))))))] gt ?_
   refine zB [(0,.int .i64 threads),(1,.int .i64 size),(2,.sl (.pair (.int .i64) (.pair (.int .i64) (.pair (.int .i64) (.int .i64)))) deeds),(7,.bp 32000 0),(37,.bool (decide (100<(deeds.length:Int))))] [(32000,.box 71 (.int .i64 threads::(.int .i64 size::(cellsX T63 (Ty.dflt T63)++(cellsX T65 v0_3++(cellsX T69 (Ty.dflt T69)))))))] ?_
   refine zQ h (fun hb8 h=>?_) (fun hb8 h=>?_)
   ·refine zo ?_
    obtain ⟨v0_7,hv9,h⟩:=Option.bind_eq_some_iff.1 h
    refine zC [] [] (hc_lineallaw06_Sane hv9) [(38,.bool v0_7)] [] ?_
    refine zB [(6,.bool v0_7)] [] ?_
    refine zr ?_
    obtain rfl:=Option.some.inj h
    exact zR [] [] []
   ·refine zk ?_
    refine zo ?_
    refine zS 1 [(0,.int .i64 threads),(1,.int .i64 size),(2,.sl (.pair (.int .i64) (.pair (.int .i64) (.pair (.int .i64) (.int .i64)))) deeds),(7,.bp 32000 0),(39,.bp 32000 0)] [(32000,.box 71 (.int .i64 threads::(.int .i64 size::(cellsX T63 (Ty.dflt T63)++(cellsX T65 v0_3++(cellsX T69 (Ty.dflt T69)))))))] ?_
    obtain ⟨v0_8,hv10,h⟩:=Option.bind_eq_some_iff.1 h
    rcases v0_8 with v0_9|v0_10
    ·try simp only at h
     refine zC [] [(1000,32000)] (hc_hazard_Yard_Copy_a0 (threads,size,(Ty.dflt T63),v0_3,(Ty.dflt T69)) hv10) [(0,.int .i64 threads),(1,.int .i64 size),(2,.sl (.pair (.int .i64) (.pair (.int .i64) (.pair (.int .i64) (.int .i64)))) deeds),(7,.bp 32000 0),(40,.cv (.pointer none))] [(32000,.box 71 (.int .i64 threads::(.int .i64 size::(cellsX T63 (Ty.dflt T63)++(cellsX T65 v0_3++(cellsX T69 (Ty.dflt T69)))))))] ?_
     refine zB [(0,.int .i64 threads),(1,.int .i64 size),(2,.sl (.pair (.int .i64) (.pair (.int .i64) (.pair (.int .i64) (.int .i64)))) deeds),(7,.bp 32000 0),(9,.cv (.pointer none))] [(32000,.box 71 (.int .i64 threads::(.int .i64 size::(cellsX T63 (Ty.dflt T63)++(cellsX T65 v0_3++(cellsX T69 (Ty.dflt T69)))))))] ?_
     refine zo ?_
     refine zS 2 [(2,.sl (.pair (.int .i64) (.pair (.int .i64) (.pair (.int .i64) (.int .i64)))) deeds),(7,.bp 32000 0),(9,.cv (.pointer none)),(41,.int .i64 threads),(42,.int .i64 size)] [(32000,.box 71 (.int .i64 threads::(.int .i64 size::(cellsX T63 (Ty.dflt T63)++(cellsX T65 v0_3++(cellsX T69 (Ty.dflt T69)))))))] ?_
     obtain ⟨v0_11,hv11,h⟩:=Option.bind_eq_some_iff.1 h
     refine zC [] [] (hc_linealref06_New threads size hv11) [(2,.sl (.pair (.int .i64) (.pair (.int .i64) (.pair (.int .i64) (.int .i64)))) deeds),(7,.bp 32000 0),(9,.cv (.pointer none)),(43,.bp 53000 0)] [(32000,.box 71 (.int .i64 threads::(.int .i64 size::(cellsX T63 (Ty.dflt T63)++(cellsX T65 v0_3++(cellsX T69 (Ty.dflt T69))))))),(53000,.box 77 (.int .i64 threads::(.int .i64 size::(cellsX T66 (Ty.dflt T66)++(.own 53001::(.own 53002::[])))))),(53001,.arr 64 (.pair (.int .i64) (.int .i64)) v0_11.1),(53002,.arr 45 (.sl (.int .i64)) v0_11.2)] ?_
     refine zB [(2,.sl (.pair (.int .i64) (.pair (.int .i64) (.pair (.int .i64) (.int .i64)))) deeds),(7,.bp 32000 0),(9,.cv (.pointer none)),(10,.bp 53000 0)] [(32000,.box 71 (.int .i64 threads::(.int .i64 size::(cellsX T63 (Ty.dflt T63)++(cellsX T65 v0_3++(cellsX T69 (Ty.dflt T69))))))),(53000,.box 77 (.int .i64 threads::(.int .i64 size::(cellsX T66 (Ty.dflt T66)++(.own 53001::(.own 53002::[])))))),(53001,.arr 64 (.pair (.int .i64) (.int .i64)) v0_11.1),(53002,.arr 45 (.sl (.int .i64)) v0_11.2)] ?_
     refine AW.have1 (fun _:Unit=>lineallaw06_HazardDeeds_k1=some r) (fun _=>⟨fr [],hpGet [],gt⟩) (fun _ h=>?_) (fun hk_lineallaw06_HazardDeeds_k1=>?_)
     ·as_aux_lemma =>
       unfold lineallaw06_HazardDeeds_k1 at h
       refine zo ?_
       obtain ⟨v0_16,hv12,h⟩:=Option.bind_eq_some_iff.1 h
       refine zC [] [] (hc_lineallaw06_Sane hv12) [(108,.bool v0_16)] [] ?_
       refine zB [(6,.bool v0_16)] [] ?_
       refine AW.ret ?_
       obtain rfl:=Option.some.inj h
       exact zR [] [] []
     ·refine AW.seq ?_
      refine zo ?_
      refine zB [(2,.sl (.pair (.int .i64) (.pair (.int .i64) (.pair (.int .i64) (.int .i64)))) deeds),(7,.bp 32000 0),(9,.cv (.pointer none)),(10,.bp 53000 0),(11,.int .i64 0)] [(32000,.box 71 (.int .i64 threads::(.int .i64 size::(cellsX T63 (Ty.dflt T63)++(cellsX T65 v0_3++(cellsX T69 (Ty.dflt T69))))))),(53000,.box 77 (.int .i64 threads::(.int .i64 size::(cellsX T66 (Ty.dflt T66)++(.own 53001::(.own 53002::[])))))),(53001,.arr 64 (.pair (.int .i64) (.int .i64)) v0_11.1),(53002,.arr 45 (.sl (.int .i64)) v0_11.2)] ?_
      refine AW.block ?_
      obtain ⟨rv17,hw13,ho14⟩:=Option.bind_eq_some_iff.1 h
      refine AW.loopO (lineallaw06_HazardDeeds_b1 threads size deeds) (fun st1=>⟨fr [(2,.sl (.pair (.int .i64) (.pair (.int .i64) (.pair (.int .i64) (.int .i64)))) deeds),(7,.bp 32000 0),(9,.cv (.pointer none)),(10,.bp 53000 0),(11,.int .i64 st1.2.2.2.2.2.2)],hpGet [(32000,.box 71 (.int .i64 threads::(.int .i64 size::(cellsX T63 st1.1++(cellsX T65 st1.2.1++(cellsX T69 st1.2.2.1)))))),(53000,.box 77 (.int .i64 threads::(.int .i64 size::(cellsX T66 st1.2.2.2.1++(.own 53001::(.own 53002::[])))))),(53001,.arr 64 (.pair (.int .i64) (.int .i64)) st1.2.2.2.2.1),(53002,.arr 45 (.sl (.int .i64)) st1.2.2.2.2.2.1)],gt⟩) ((Ty.dflt T63),v0_3,(Ty.dflt T69),(Ty.dflt T66),v0_11.1,v0_11.2,0) hw13 (zL [] [] []) ?_
      as_aux_lemma =>
       intro st1 x16 h hd15
       unfold lineallaw06_HazardDeeds_b1 at h
       refine AW.seq ?_
       refine zo ?_
       refine zB [(2,.sl (.pair (.int .i64) (.pair (.int .i64) (.pair (.int .i64) (.int .i64)))) deeds),(7,.bp 32000 0),(9,.cv (.pointer none)),(10,.bp 53000 0),(11,.int .i64 st1.2.2.2.2.2.2),(47,.bool (decide (st1.2.2.2.2.2.2<(deeds.length:Int))))] [(32000,.box 71 (.int .i64 threads::(.int .i64 size::(cellsX T63 st1.1++(cellsX T65 st1.2.1++(cellsX T69 st1.2.2.1)))))),(53000,.box 77 (.int .i64 threads::(.int .i64 size::(cellsX T66 st1.2.2.2.1++(.own 53001::(.own 53002::[])))))),(53001,.arr 64 (.pair (.int .i64) (.int .i64)) st1.2.2.2.2.1),(53002,.arr 45 (.sl (.int .i64)) st1.2.2.2.2.2.1)] ?_
       refine zQ h (fun hb18 h=>?_) (fun hb18 h=>?_)
       ·refine zk ?_
        refine AW.seq ?_
        refine AW.block ?_
        refine zo ?_
        obtain ⟨c19,h⟩:=ck_some.1 h
        obtain ⟨c20,h⟩:=ck_some.1 h
        refine zS 5 [(2,.sl (.pair (.int .i64) (.pair (.int .i64) (.pair (.int .i64) (.int .i64)))) deeds),(7,.bp 32000 0),(9,.cv (.pointer none)),(10,.bp 53000 0),(11,.int .i64 st1.2.2.2.2.2.2),(12,.bp 12 0),(53,.agg [.int .i64 (deeds.getD st1.2.2.2.2.2.2.toNat (0,0,0,0)).1,.int .i64 (deeds.getD st1.2.2.2.2.2.2.toNat (0,0,0,0)).2.1,.int .i64 (deeds.getD st1.2.2.2.2.2.2.toNat (0,0,0,0)).2.2.1,.int .i64 (deeds.getD st1.2.2.2.2.2.2.toNat (0,0,0,0)).2.2.2])] [(12,.box 33 [.int .i64 0,.int .i64 0,.int .i64 0,.int .i64 0]),(32000,.box 71 (.int .i64 threads::(.int .i64 size::(cellsX T63 st1.1++(cellsX T65 st1.2.1++(cellsX T69 st1.2.2.1)))))),(53000,.box 77 (.int .i64 threads::(.int .i64 size::(cellsX T66 st1.2.2.2.1++(.own 53001::(.own 53002::[])))))),(53001,.arr 64 (.pair (.int .i64) (.int .i64)) st1.2.2.2.2.1),(53002,.arr 45 (.sl (.int .i64)) st1.2.2.2.2.2.1)] ?_
        refine zB [(2,.sl (.pair (.int .i64) (.pair (.int .i64) (.pair (.int .i64) (.int .i64)))) deeds),(7,.bp 32000 0),(9,.cv (.pointer none)),(10,.bp 53000 0),(11,.int .i64 st1.2.2.2.2.2.2),(12,.bp 12 0)] [(12,.box 33 [.int .i64 (deeds.getD st1.2.2.2.2.2.2.toNat (0,0,0,0)).1,.int .i64 (deeds.getD st1.2.2.2.2.2.2.toNat (0,0,0,0)).2.1,.int .i64 (deeds.getD st1.2.2.2.2.2.2.toNat (0,0,0,0)).2.2.1,.int .i64 (deeds.getD st1.2.2.2.2.2.2.toNat (0,0,0,0)).2.2.2]),(32000,.box 71 (.int .i64 threads::(.int .i64 size::(cellsX T63 st1.1++(cellsX T65 st1.2.1++(cellsX T69 st1.2.2.1)))))),(53000,.box 77 (.int .i64 threads::(.int .i64 size::(cellsX T66 st1.2.2.2.1++(.own 53001::(.own 53002::[])))))),(53001,.arr 64 (.pair (.int .i64) (.int .i64)) st1.2.2.2.2.1),(53002,.arr 45 (.sl (.int .i64)) st1.2.2.2.2.2.1)] ?_
        refine zo ?_
        refine zS 2 [(2,.sl (.pair (.int .i64) (.pair (.int .i64) (.pair (.int .i64) (.int .i64)))) deeds),(7,.bp 32000 0),(9,.cv (.pointer none)),(10,.bp 53000 0),(11,.int .i64 st1.2.2.2.2.2.2),(12,.bp 12 0),(55,.bp 32000 0),(56,.agg [.int .i64 (deeds.getD st1.2.2.2.2.2.2.toNat (0,0,0,0)).1,.int .i64 (deeds.getD st1.2.2.2.2.2.2.toNat (0,0,0,0)).2.1,.int .i64 (deeds.getD st1.2.2.2.2.2.2.toNat (0,0,0,0)).2.2.1,.int .i64 (deeds.getD st1.2.2.2.2.2.2.toNat (0,0,0,0)).2.2.2])] [(12,.box 33 [.int .i64 (deeds.getD st1.2.2.2.2.2.2.toNat (0,0,0,0)).1,.int .i64 (deeds.getD st1.2.2.2.2.2.2.toNat (0,0,0,0)).2.1,.int .i64 (deeds.getD st1.2.2.2.2.2.2.toNat (0,0,0,0)).2.2.1,.int .i64 (deeds.getD st1.2.2.2.2.2.2.toNat (0,0,0,0)).2.2.2]),(32000,.box 71 (.int .i64 threads::(.int .i64 size::(cellsX T63 st1.1++(cellsX T65 st1.2.1++(cellsX T69 st1.2.2.1)))))),(53000,.box 77 (.int .i64 threads::(.int .i64 size::(cellsX T66 st1.2.2.2.1++(.own 53001::(.own 53002::[])))))),(53001,.arr 64 (.pair (.int .i64) (.int .i64)) st1.2.2.2.2.1),(53002,.arr 45 (.sl (.int .i64)) st1.2.2.2.2.2.1)] ?_
        obtain ⟨v0_12,hv21,h⟩:=Option.bind_eq_some_iff.1 h
        refine zC [] [(1000,32000)] (hc_hazard_Yard_Do (deeds.getD st1.2.2.2.2.2.2.toNat (0,0,0,0)) (threads,size,st1.1,st1.2.1,st1.2.2.1) hv21) [(2,.sl (.pair (.int .i64) (.pair (.int .i64) (.pair (.int .i64) (.int .i64)))) deeds),(7,.bp 32000 0),(9,.cv (.pointer none)),(10,.bp 53000 0),(11,.int .i64 st1.2.2.2.2.2.2),(12,.bp 12 0),(57,.tup [.int .i64 v0_12.1,.int .i64 v0_12.2.1])] [(12,.box 33 [.int .i64 (deeds.getD st1.2.2.2.2.2.2.toNat (0,0,0,0)).1,.int .i64 (deeds.getD st1.2.2.2.2.2.2.toNat (0,0,0,0)).2.1,.int .i64 (deeds.getD st1.2.2.2.2.2.2.toNat (0,0,0,0)).2.2.1,.int .i64 (deeds.getD st1.2.2.2.2.2.2.toNat (0,0,0,0)).2.2.2]),(32000,.box 71 (.int .i64 threads::(.int .i64 size::(cellsX T63 v0_12.2.2.1++(cellsX T65 v0_12.2.2.2.1++(cellsX T69 v0_12.2.2.2.2)))))),(53000,.box 77 (.int .i64 threads::(.int .i64 size::(cellsX T66 st1.2.2.2.1++(.own 53001::(.own 53002::[])))))),(53001,.arr 64 (.pair (.int .i64) (.int .i64)) st1.2.2.2.2.1),(53002,.arr 45 (.sl (.int .i64)) st1.2.2.2.2.2.1)] ?_
        refine zB [(2,.sl (.pair (.int .i64) (.pair (.int .i64) (.pair (.int .i64) (.int .i64)))) deeds),(7,.bp 32000 0),(9,.cv (.pointer none)),(10,.bp 53000 0),(11,.int .i64 st1.2.2.2.2.2.2),(12,.bp 12 0),(13,.int .i64 v0_12.1),(14,.int .i64 v0_12.2.1)] [(12,.box 33 [.int .i64 (deeds.getD st1.2.2.2.2.2.2.toNat (0,0,0,0)).1,.int .i64 (deeds.getD st1.2.2.2.2.2.2.toNat (0,0,0,0)).2.1,.int .i64 (deeds.getD st1.2.2.2.2.2.2.toNat (0,0,0,0)).2.2.1,.int .i64 (deeds.getD st1.2.2.2.2.2.2.toNat (0,0,0,0)).2.2.2]),(32000,.box 71 (.int .i64 threads::(.int .i64 size::(cellsX T63 v0_12.2.2.1++(cellsX T65 v0_12.2.2.2.1++(cellsX T69 v0_12.2.2.2.2)))))),(53000,.box 77 (.int .i64 threads::(.int .i64 size::(cellsX T66 st1.2.2.2.1++(.own 53001::(.own 53002::[])))))),(53001,.arr 64 (.pair (.int .i64) (.int .i64)) st1.2.2.2.2.1),(53002,.arr 45 (.sl (.int .i64)) st1.2.2.2.2.2.1)] ?_
        refine zo ?_
        refine zS 5 [(2,.sl (.pair (.int .i64) (.pair (.int .i64) (.pair (.int .i64) (.int .i64)))) deeds),(7,.bp 32000 0),(9,.cv (.pointer none)),(10,.bp 53000 0),(11,.int .i64 st1.2.2.2.2.2.2),(12,.bp 12 0),(13,.int .i64 v0_12.1),(14,.int .i64 v0_12.2.1),(61,.bp 53000 0),(63,.int .i64 (deeds.getD st1.2.2.2.2.2.2.toNat (0,0,0,0)).1),(65,.int .i64 (deeds.getD st1.2.2.2.2.2.2.toNat (0,0,0,0)).2.1)] [(12,.box 33 [.int .i64 (deeds.getD st1.2.2.2.2.2.2.toNat (0,0,0,0)).1,.int .i64 (deeds.getD st1.2.2.2.2.2.2.toNat (0,0,0,0)).2.1,.int .i64 (deeds.getD st1.2.2.2.2.2.2.toNat (0,0,0,0)).2.2.1,.int .i64 (deeds.getD st1.2.2.2.2.2.2.toNat (0,0,0,0)).2.2.2]),(32000,.box 71 (.int .i64 threads::(.int .i64 size::(cellsX T63 v0_12.2.2.1++(cellsX T65 v0_12.2.2.2.1++(cellsX T69 v0_12.2.2.2.2)))))),(53000,.box 77 (.int .i64 threads::(.int .i64 size::(cellsX T66 st1.2.2.2.1++(.own 53001::(.own 53002::[])))))),(53001,.arr 64 (.pair (.int .i64) (.int .i64)) st1.2.2.2.2.1),(53002,.arr 45 (.sl (.int .i64)) st1.2.2.2.2.2.1)] ?_
        refine zS 4 [(2,.sl (.pair (.int .i64) (.pair (.int .i64) (.pair (.int .i64) (.int .i64)))) deeds),(7,.bp 32000 0),(9,.cv (.pointer none)),(10,.bp 53000 0),(11,.int .i64 st1.2.2.2.2.2.2),(12,.bp 12 0),(13,.int .i64 v0_12.1),(14,.int .i64 v0_12.2.1),(61,.bp 53000 0),(63,.int .i64 (deeds.getD st1.2.2.2.2.2.2.toNat (0,0,0,0)).1),(65,.int .i64 (deeds.getD st1.2.2.2.2.2.2.toNat (0,0,0,0)).2.1),(67,.int .i64 (deeds.getD st1.2.2.2.2.2.2.toNat (0,0,0,0)).2.2.1),(69,.int .i64 (deeds.getD st1.2.2.2.2.2.2.toNat (0,0,0,0)).2.2.2)] [(12,.box 33 [.int .i64 (deeds.getD st1.2.2.2.2.2.2.toNat (0,0,0,0)).1,.int .i64 (deeds.getD st1.2.2.2.2.2.2.toNat (0,0,0,0)).2.1,.int .i64 (deeds.getD st1.2.2.2.2.2.2.toNat (0,0,0,0)).2.2.1,.int .i64 (deeds.getD st1.2.2.2.2.2.2.toNat (0,0,0,0)).2.2.2]),(32000,.box 71 (.int .i64 threads::(.int .i64 size::(cellsX T63 v0_12.2.2.1++(cellsX T65 v0_12.2.2.2.1++(cellsX T69 v0_12.2.2.2.2)))))),(53000,.box 77 (.int .i64 threads::(.int .i64 size::(cellsX T66 st1.2.2.2.1++(.own 53001::(.own 53002::[])))))),(53001,.arr 64 (.pair (.int .i64) (.int .i64)) st1.2.2.2.2.1),(53002,.arr 45 (.sl (.int .i64)) st1.2.2.2.2.2.1)] ?_
        obtain ⟨v0_13,hv22,h⟩:=Option.bind_eq_some_iff.1 h
        refine zC [] [(1000,53000),(1001,53001),(1002,53002)] (hc_linealref06_Yard_Do (deeds.getD st1.2.2.2.2.2.2.toNat (0,0,0,0)).1 (deeds.getD st1.2.2.2.2.2.2.toNat (0,0,0,0)).2.1 (deeds.getD st1.2.2.2.2.2.2.toNat (0,0,0,0)).2.2.1 (deeds.getD st1.2.2.2.2.2.2.toNat (0,0,0,0)).2.2.2 threads size st1.2.2.2.1 st1.2.2.2.2.1 st1.2.2.2.2.2.1 hv22) [(2,.sl (.pair (.int .i64) (.pair (.int .i64) (.pair (.int .i64) (.int .i64)))) deeds),(7,.bp 32000 0),(9,.cv (.pointer none)),(10,.bp 53000 0),(11,.int .i64 st1.2.2.2.2.2.2),(12,.bp 12 0),(13,.int .i64 v0_12.1),(14,.int .i64 v0_12.2.1),(70,.tup [.int .i64 v0_13.1,.int .i64 v0_13.2.1])] [(12,.box 33 [.int .i64 (deeds.getD st1.2.2.2.2.2.2.toNat (0,0,0,0)).1,.int .i64 (deeds.getD st1.2.2.2.2.2.2.toNat (0,0,0,0)).2.1,.int .i64 (deeds.getD st1.2.2.2.2.2.2.toNat (0,0,0,0)).2.2.1,.int .i64 (deeds.getD st1.2.2.2.2.2.2.toNat (0,0,0,0)).2.2.2]),(32000,.box 71 (.int .i64 threads::(.int .i64 size::(cellsX T63 v0_12.2.2.1++(cellsX T65 v0_12.2.2.2.1++(cellsX T69 v0_12.2.2.2.2)))))),(53000,.box 77 (.int .i64 threads::(.int .i64 size::(cellsX T66 v0_13.2.2.1++(.own 53001::(.own 53002::[])))))),(53001,.arr 64 (.pair (.int .i64) (.int .i64)) v0_13.2.2.2.1),(53002,.arr 45 (.sl (.int .i64)) v0_13.2.2.2.2)] ?_
        refine zB [(2,.sl (.pair (.int .i64) (.pair (.int .i64) (.pair (.int .i64) (.int .i64)))) deeds),(7,.bp 32000 0),(9,.cv (.pointer none)),(10,.bp 53000 0),(11,.int .i64 st1.2.2.2.2.2.2),(12,.bp 12 0),(13,.int .i64 v0_12.1),(14,.int .i64 v0_12.2.1),(15,.int .i64 v0_13.1),(16,.int .i64 v0_13.2.1)] [(12,.box 33 [.int .i64 (deeds.getD st1.2.2.2.2.2.2.toNat (0,0,0,0)).1,.int .i64 (deeds.getD st1.2.2.2.2.2.2.toNat (0,0,0,0)).2.1,.int .i64 (deeds.getD st1.2.2.2.2.2.2.toNat (0,0,0,0)).2.2.1,.int .i64 (deeds.getD st1.2.2.2.2.2.2.toNat (0,0,0,0)).2.2.2]),(32000,.box 71 (.int .i64 threads::(.int .i64 size::(cellsX T63 v0_12.2.2.1++(cellsX T65 v0_12.2.2.2.1++(cellsX T69 v0_12.2.2.2.2)))))),(53000,.box 77 (.int .i64 threads::(.int .i64 size::(cellsX T66 v0_13.2.2.1++(.own 53001::(.own 53002::[])))))),(53001,.arr 64 (.pair (.int .i64) (.int .i64)) v0_13.2.2.2.1),(53002,.arr 45 (.sl (.int .i64)) v0_13.2.2.2.2)] ?_
        refine AW.seq ?_
        refine zo ?_
        refine zS 4 [(2,.sl (.pair (.int .i64) (.pair (.int .i64) (.pair (.int .i64) (.int .i64)))) deeds),(7,.bp 32000 0),(9,.cv (.pointer none)),(10,.bp 53000 0),(11,.int .i64 st1.2.2.2.2.2.2),(12,.bp 12 0),(13,.int .i64 v0_12.1),(14,.int .i64 v0_12.2.1),(16,.int .i64 v0_13.2.1),(76,.bool (!(decide (v0_12.1=v0_13.1))))] [(12,.box 33 [.int .i64 (deeds.getD st1.2.2.2.2.2.2.toNat (0,0,0,0)).1,.int .i64 (deeds.getD st1.2.2.2.2.2.2.toNat (0,0,0,0)).2.1,.int .i64 (deeds.getD st1.2.2.2.2.2.2.toNat (0,0,0,0)).2.2.1,.int .i64 (deeds.getD st1.2.2.2.2.2.2.toNat (0,0,0,0)).2.2.2]),(32000,.box 71 (.int .i64 threads::(.int .i64 size::(cellsX T63 v0_12.2.2.1++(cellsX T65 v0_12.2.2.2.1++(cellsX T69 v0_12.2.2.2.2)))))),(53000,.box 77 (.int .i64 threads::(.int .i64 size::(cellsX T66 v0_13.2.2.1++(.own 53001::(.own 53002::[])))))),(53001,.arr 64 (.pair (.int .i64) (.int .i64)) v0_13.2.2.2.1),(53002,.arr 45 (.sl (.int .i64)) v0_13.2.2.2.2)] ?_
        rcases zI h with ⟨hb23,h⟩|⟨hb23,h⟩
        ·refine zS 5 [(2,.sl (.pair (.int .i64) (.pair (.int .i64) (.pair (.int .i64) (.int .i64)))) deeds),(7,.bp 32000 0),(9,.cv (.pointer none)),(10,.bp 53000 0),(11,.int .i64 st1.2.2.2.2.2.2),(12,.bp 12 0),(13,.int .i64 v0_12.1),(14,.int .i64 v0_12.2.1),(81,.bool true)] [(12,.box 33 [.int .i64 (deeds.getD st1.2.2.2.2.2.2.toNat (0,0,0,0)).1,.int .i64 (deeds.getD st1.2.2.2.2.2.2.toNat (0,0,0,0)).2.1,.int .i64 (deeds.getD st1.2.2.2.2.2.2.toNat (0,0,0,0)).2.2.1,.int .i64 (deeds.getD st1.2.2.2.2.2.2.toNat (0,0,0,0)).2.2.2]),(32000,.box 71 (.int .i64 threads::(.int .i64 size::(cellsX T63 v0_12.2.2.1++(cellsX T65 v0_12.2.2.2.1++(cellsX T69 v0_12.2.2.2.2)))))),(53000,.box 77 (.int .i64 threads::(.int .i64 size::(cellsX T66 v0_13.2.2.1++(.own 53001::(.own 53002::[])))))),(53001,.arr 64 (.pair (.int .i64) (.int .i64)) v0_13.2.2.2.1),(53002,.arr 45 (.sl (.int .i64)) v0_13.2.2.2.2)] ?_
         refine zS 4 [(2,.sl (.pair (.int .i64) (.pair (.int .i64) (.pair (.int .i64) (.int .i64)))) deeds),(7,.bp 32000 0),(9,.cv (.pointer none)),(10,.bp 53000 0),(11,.int .i64 st1.2.2.2.2.2.2),(12,.bp 12 0),(13,.int .i64 v0_12.1),(14,.int .i64 v0_12.2.1),(81,.bool true),(85,.cv (undef))] [(12,.box 33 [.int .i64 (deeds.getD st1.2.2.2.2.2.2.toNat (0,0,0,0)).1,.int .i64 (deeds.getD st1.2.2.2.2.2.2.toNat (0,0,0,0)).2.1,.int .i64 (deeds.getD st1.2.2.2.2.2.2.toNat (0,0,0,0)).2.2.1,.int .i64 (deeds.getD st1.2.2.2.2.2.2.toNat (0,0,0,0)).2.2.2]),(32000,.box 71 (.int .i64 threads::(.int .i64 size::(cellsX T63 v0_12.2.2.1++(cellsX T65 v0_12.2.2.2.1++(cellsX T69 v0_12.2.2.2.2)))))),(53000,.box 77 (.int .i64 threads::(.int .i64 size::(cellsX T66 v0_13.2.2.1++(.own 53001::(.own 53002::[])))))),(53001,.arr 64 (.pair (.int .i64) (.int .i64)) v0_13.2.2.2.1),(53002,.arr 45 (.sl (.int .i64)) v0_13.2.2.2.2)] ?_
         refine zB [(2,.sl (.pair (.int .i64) (.pair (.int .i64) (.pair (.int .i64) (.int .i64)))) deeds),(7,.bp 32000 0),(9,.cv (.pointer none)),(10,.bp 53000 0),(11,.int .i64 st1.2.2.2.2.2.2),(12,.bp 12 0),(13,.int .i64 v0_12.1),(14,.int .i64 v0_12.2.1),(86,.bool true)] [(12,.box 33 [.int .i64 (deeds.getD st1.2.2.2.2.2.2.toNat (0,0,0,0)).1,.int .i64 (deeds.getD st1.2.2.2.2.2.2.toNat (0,0,0,0)).2.1,.int .i64 (deeds.getD st1.2.2.2.2.2.2.toNat (0,0,0,0)).2.2.1,.int .i64 (deeds.getD st1.2.2.2.2.2.2.toNat (0,0,0,0)).2.2.2]),(32000,.box 71 (.int .i64 threads::(.int .i64 size::(cellsX T63 v0_12.2.2.1++(cellsX T65 v0_12.2.2.2.1++(cellsX T69 v0_12.2.2.2.2)))))),(53000,.box 77 (.int .i64 threads::(.int .i64 size::(cellsX T66 v0_13.2.2.1++(.own 53001::(.own 53002::[])))))),(53001,.arr 64 (.pair (.int .i64) (.int .i64)) v0_13.2.2.2.1),(53002,.arr 45 (.sl (.int .i64)) v0_13.2.2.2.2)] ?_
         refine AW.cond (b:=true) rfl (fun _=>?_) (fun hb24=>by cases hb24)
         refine zo ?_
         refine zB [(6,.bool false)] [] ?_
         refine zr ?_
         refine ablock_r ?_
         refine athen_r ?_
         obtain rfl:=Option.some.inj h
         try rw [← hd15 _ rfl] at ho14
         have h:=ho14
         try simp only at h
         refine athen_r ?_
         refine ablock_r ?_
         refine athen_r ?_
         obtain rfl:=Option.some.inj h
         exact zR [] [] []
        ·refine zS 5 [(2,.sl (.pair (.int .i64) (.pair (.int .i64) (.pair (.int .i64) (.int .i64)))) deeds),(7,.bp 32000 0),(9,.cv (.pointer none)),(10,.bp 53000 0),(11,.int .i64 st1.2.2.2.2.2.2),(12,.bp 12 0),(13,.int .i64 v0_12.1),(14,.int .i64 v0_12.2.1),(81,.bool (!(decide (v0_12.2.1=v0_13.2.1))))] [(12,.box 33 [.int .i64 (deeds.getD st1.2.2.2.2.2.2.toNat (0,0,0,0)).1,.int .i64 (deeds.getD st1.2.2.2.2.2.2.toNat (0,0,0,0)).2.1,.int .i64 (deeds.getD st1.2.2.2.2.2.2.toNat (0,0,0,0)).2.2.1,.int .i64 (deeds.getD st1.2.2.2.2.2.2.toNat (0,0,0,0)).2.2.2]),(32000,.box 71 (.int .i64 threads::(.int .i64 size::(cellsX T63 v0_12.2.2.1++(cellsX T65 v0_12.2.2.2.1++(cellsX T69 v0_12.2.2.2.2)))))),(53000,.box 77 (.int .i64 threads::(.int .i64 size::(cellsX T66 v0_13.2.2.1++(.own 53001::(.own 53002::[])))))),(53001,.arr 64 (.pair (.int .i64) (.int .i64)) v0_13.2.2.2.1),(53002,.arr 45 (.sl (.int .i64)) v0_13.2.2.2.2)] ?_
         rcases zI h with ⟨hb25,h⟩|⟨hb25,h⟩
         ·refine zS 4 [(2,.sl (.pair (.int .i64) (.pair (.int .i64) (.pair (.int .i64) (.int .i64)))) deeds),(7,.bp 32000 0),(9,.cv (.pointer none)),(10,.bp 53000 0),(11,.int .i64 st1.2.2.2.2.2.2),(12,.bp 12 0),(13,.int .i64 v0_12.1),(14,.int .i64 v0_12.2.1),(81,.bool true),(85,.cv (undef))] [(12,.box 33 [.int .i64 (deeds.getD st1.2.2.2.2.2.2.toNat (0,0,0,0)).1,.int .i64 (deeds.getD st1.2.2.2.2.2.2.toNat (0,0,0,0)).2.1,.int .i64 (deeds.getD st1.2.2.2.2.2.2.toNat (0,0,0,0)).2.2.1,.int .i64 (deeds.getD st1.2.2.2.2.2.2.toNat (0,0,0,0)).2.2.2]),(32000,.box 71 (.int .i64 threads::(.int .i64 size::(cellsX T63 v0_12.2.2.1++(cellsX T65 v0_12.2.2.2.1++(cellsX T69 v0_12.2.2.2.2)))))),(53000,.box 77 (.int .i64 threads::(.int .i64 size::(cellsX T66 v0_13.2.2.1++(.own 53001::(.own 53002::[])))))),(53001,.arr 64 (.pair (.int .i64) (.int .i64)) v0_13.2.2.2.1),(53002,.arr 45 (.sl (.int .i64)) v0_13.2.2.2.2)] ?_
          refine zB [(2,.sl (.pair (.int .i64) (.pair (.int .i64) (.pair (.int .i64) (.int .i64)))) deeds),(7,.bp 32000 0),(9,.cv (.pointer none)),(10,.bp 53000 0),(11,.int .i64 st1.2.2.2.2.2.2),(12,.bp 12 0),(13,.int .i64 v0_12.1),(14,.int .i64 v0_12.2.1),(86,.bool true)] [(12,.box 33 [.int .i64 (deeds.getD st1.2.2.2.2.2.2.toNat (0,0,0,0)).1,.int .i64 (deeds.getD st1.2.2.2.2.2.2.toNat (0,0,0,0)).2.1,.int .i64 (deeds.getD st1.2.2.2.2.2.2.toNat (0,0,0,0)).2.2.1,.int .i64 (deeds.getD st1.2.2.2.2.2.2.toNat (0,0,0,0)).2.2.2]),(32000,.box 71 (.int .i64 threads::(.int .i64 size::(cellsX T63 v0_12.2.2.1++(cellsX T65 v0_12.2.2.2.1++(cellsX T69 v0_12.2.2.2.2)))))),(53000,.box 77 (.int .i64 threads::(.int .i64 size::(cellsX T66 v0_13.2.2.1++(.own 53001::(.own 53002::[])))))),(53001,.arr 64 (.pair (.int .i64) (.int .i64)) v0_13.2.2.2.1),(53002,.arr 45 (.sl (.int .i64)) v0_13.2.2.2.2)] ?_
          refine AW.cond (b:=true) rfl (fun _=>?_) (fun hb26=>by cases hb26)
          refine zo ?_
          refine zB [(6,.bool false)] [] ?_
          refine zr ?_
          refine ablock_r ?_
          refine athen_r ?_
          obtain rfl:=Option.some.inj h
          try rw [← hd15 _ rfl] at ho14
          have h:=ho14
          try simp only at h
          refine athen_r ?_
          refine ablock_r ?_
          refine athen_r ?_
          obtain rfl:=Option.some.inj h
          exact zR [] [] []
         ·refine zS 2 [(2,.sl (.pair (.int .i64) (.pair (.int .i64) (.pair (.int .i64) (.int .i64)))) deeds),(7,.bp 32000 0),(9,.cv (.pointer none)),(10,.bp 53000 0),(11,.int .i64 st1.2.2.2.2.2.2),(12,.bp 12 0),(13,.int .i64 v0_12.1),(14,.int .i64 v0_12.2.1),(81,.bool false),(82,.bp 32000 0),(83,.bp 53000 0)] [(12,.box 33 [.int .i64 (deeds.getD st1.2.2.2.2.2.2.toNat (0,0,0,0)).1,.int .i64 (deeds.getD st1.2.2.2.2.2.2.toNat (0,0,0,0)).2.1,.int .i64 (deeds.getD st1.2.2.2.2.2.2.toNat (0,0,0,0)).2.2.1,.int .i64 (deeds.getD st1.2.2.2.2.2.2.toNat (0,0,0,0)).2.2.2]),(32000,.box 71 (.int .i64 threads::(.int .i64 size::(cellsX T63 v0_12.2.2.1++(cellsX T65 v0_12.2.2.2.1++(cellsX T69 v0_12.2.2.2.2)))))),(53000,.box 77 (.int .i64 threads::(.int .i64 size::(cellsX T66 v0_13.2.2.1++(.own 53001::(.own 53002::[])))))),(53001,.arr 64 (.pair (.int .i64) (.int .i64)) v0_13.2.2.2.1),(53002,.arr 45 (.sl (.int .i64)) v0_13.2.2.2.2)] ?_
          obtain ⟨v0_14,hv27,h⟩:=Option.bind_eq_some_iff.1 h
          refine zG [] [(1000,32000),(1001,53000),(1002,53001),(1003,53002)] (hc_lineallaw06_Is (threads,size,v0_12.2.2) threads size v0_13.2.2.1 v0_13.2.2.2.1 v0_13.2.2.2.2 hv27) [(2,.sl (.pair (.int .i64) (.pair (.int .i64) (.pair (.int .i64) (.int .i64)))) deeds),(7,.bp 32000 0),(9,.cv (.pointer none)),(10,.bp 53000 0),(11,.int .i64 st1.2.2.2.2.2.2),(12,.bp 12 0),(13,.int .i64 v0_12.1),(14,.int .i64 v0_12.2.1),(81,.bool false),(84,.bool v0_14)] [(12,.box 33 [.int .i64 (deeds.getD st1.2.2.2.2.2.2.toNat (0,0,0,0)).1,.int .i64 (deeds.getD st1.2.2.2.2.2.2.toNat (0,0,0,0)).2.1,.int .i64 (deeds.getD st1.2.2.2.2.2.2.toNat (0,0,0,0)).2.2.1,.int .i64 (deeds.getD st1.2.2.2.2.2.2.toNat (0,0,0,0)).2.2.2]),(32000,.box 71 (.int .i64 threads::(.int .i64 size::(cellsX T63 v0_12.2.2.1++(cellsX T65 v0_12.2.2.2.1++(cellsX T69 v0_12.2.2.2.2)))))),(53000,.box 77 (.int .i64 threads::(.int .i64 size::(cellsX T66 v0_13.2.2.1++(.own 53001::(.own 53002::[])))))),(53001,.arr 64 (.pair (.int .i64) (.int .i64)) v0_13.2.2.2.1),(53002,.arr 45 (.sl (.int .i64)) v0_13.2.2.2.2)] ?_
          refine zB [(2,.sl (.pair (.int .i64) (.pair (.int .i64) (.pair (.int .i64) (.int .i64)))) deeds),(7,.bp 32000 0),(9,.cv (.pointer none)),(10,.bp 53000 0),(11,.int .i64 st1.2.2.2.2.2.2),(12,.bp 12 0),(13,.int .i64 v0_12.1),(14,.int .i64 v0_12.2.1),(86,.bool (!v0_14))] [(12,.box 33 [.int .i64 (deeds.getD st1.2.2.2.2.2.2.toNat (0,0,0,0)).1,.int .i64 (deeds.getD st1.2.2.2.2.2.2.toNat (0,0,0,0)).2.1,.int .i64 (deeds.getD st1.2.2.2.2.2.2.toNat (0,0,0,0)).2.2.1,.int .i64 (deeds.getD st1.2.2.2.2.2.2.toNat (0,0,0,0)).2.2.2]),(32000,.box 71 (.int .i64 threads::(.int .i64 size::(cellsX T63 v0_12.2.2.1++(cellsX T65 v0_12.2.2.2.1++(cellsX T69 v0_12.2.2.2.2)))))),(53000,.box 77 (.int .i64 threads::(.int .i64 size::(cellsX T66 v0_13.2.2.1++(.own 53001::(.own 53002::[])))))),(53001,.arr 64 (.pair (.int .i64) (.int .i64)) v0_13.2.2.2.1),(53002,.arr 45 (.sl (.int .i64)) v0_13.2.2.2.2)] ?_
          refine zQ h (fun hb28 h=>?_) (fun hb28 h=>?_)
          ·refine zo ?_
           refine zB [(6,.bool false)] [] ?_
           refine zr ?_
           refine ablock_r ?_
           refine athen_r ?_
           obtain rfl:=Option.some.inj h
           try rw [← hd15 _ rfl] at ho14
           have h:=ho14
           try simp only at h
           refine athen_r ?_
           refine ablock_r ?_
           refine athen_r ?_
           obtain rfl:=Option.some.inj h
           exact zR [] [] []
          ·refine zk ?_
           refine zo ?_
           refine zB [(2,.sl (.pair (.int .i64) (.pair (.int .i64) (.pair (.int .i64) (.int .i64)))) deeds),(7,.bp 32000 0),(9,.cv (.pointer none)),(10,.bp 53000 0),(11,.int .i64 st1.2.2.2.2.2.2),(12,.bp 12 0),(13,.int .i64 v0_12.1),(88,.bool (decide (v0_12.2.1=0)))] [(12,.box 33 [.int .i64 (deeds.getD st1.2.2.2.2.2.2.toNat (0,0,0,0)).1,.int .i64 (deeds.getD st1.2.2.2.2.2.2.toNat (0,0,0,0)).2.1,.int .i64 (deeds.getD st1.2.2.2.2.2.2.toNat (0,0,0,0)).2.2.1,.int .i64 (deeds.getD st1.2.2.2.2.2.2.toNat (0,0,0,0)).2.2.2]),(32000,.box 71 (.int .i64 threads::(.int .i64 size::(cellsX T63 v0_12.2.2.1++(cellsX T65 v0_12.2.2.2.1++(cellsX T69 v0_12.2.2.2.2)))))),(53000,.box 77 (.int .i64 threads::(.int .i64 size::(cellsX T66 v0_13.2.2.1++(.own 53001::(.own 53002::[])))))),(53001,.arr 64 (.pair (.int .i64) (.int .i64)) v0_13.2.2.2.1),(53002,.arr 45 (.sl (.int .i64)) v0_13.2.2.2.2)] ?_
           refine zQ h (fun hb29 h=>?_) (fun hb29 h=>?_)
           ·refine zo ?_
            refine zS 2 [(2,.sl (.pair (.int .i64) (.pair (.int .i64) (.pair (.int .i64) (.int .i64)))) deeds),(7,.bp 32000 0),(9,.cv (.pointer none)),(10,.bp 53000 0),(11,.int .i64 st1.2.2.2.2.2.2),(13,.int .i64 v0_12.1),(90,.cv (.pointer none)),(91,.agg [.int .i64 (deeds.getD st1.2.2.2.2.2.2.toNat (0,0,0,0)).1,.int .i64 (deeds.getD st1.2.2.2.2.2.2.toNat (0,0,0,0)).2.1,.int .i64 (deeds.getD st1.2.2.2.2.2.2.toNat (0,0,0,0)).2.2.1,.int .i64 (deeds.getD st1.2.2.2.2.2.2.toNat (0,0,0,0)).2.2.2])] [(32000,.box 71 (.int .i64 threads::(.int .i64 size::(cellsX T63 v0_12.2.2.1++(cellsX T65 v0_12.2.2.2.1++(cellsX T69 v0_12.2.2.2.2)))))),(53000,.box 77 (.int .i64 threads::(.int .i64 size::(cellsX T66 v0_13.2.2.1++(.own 53001::(.own 53002::[])))))),(53001,.arr 64 (.pair (.int .i64) (.int .i64)) v0_13.2.2.2.1),(53002,.arr 45 (.sl (.int .i64)) v0_13.2.2.2.2)] ?_
            obtain ⟨v0_15,hv30,h⟩:=Option.bind_eq_some_iff.1 h
            refine zC [] [] (hc_lineallaw06_called (deeds.getD st1.2.2.2.2.2.2.toNat (0,0,0,0)) hv30) [(2,.sl (.pair (.int .i64) (.pair (.int .i64) (.pair (.int .i64) (.int .i64)))) deeds),(7,.bp 32000 0),(9,.cv (.pointer none)),(10,.bp 53000 0),(11,.int .i64 st1.2.2.2.2.2.2),(13,.int .i64 v0_12.1),(92,.tup [.int .i64 0,.int .i64 60])] [(32000,.box 71 (.int .i64 threads::(.int .i64 size::(cellsX T63 v0_12.2.2.1++(cellsX T65 v0_12.2.2.2.1++(cellsX T69 v0_12.2.2.2.2)))))),(53000,.box 77 (.int .i64 threads::(.int .i64 size::(cellsX T66 v0_13.2.2.1++(.own 53001::(.own 53002::[])))))),(53001,.arr 64 (.pair (.int .i64) (.int .i64)) v0_13.2.2.2.1),(53002,.arr 45 (.sl (.int .i64)) v0_13.2.2.2.2)] ?_
            refine zB [(2,.sl (.pair (.int .i64) (.pair (.int .i64) (.pair (.int .i64) (.int .i64)))) deeds),(7,.bp 32000 0),(9,.cv (.pointer none)),(10,.bp 53000 0),(11,.int .i64 st1.2.2.2.2.2.2),(13,.int .i64 v0_12.1),(17,.int .i64 0),(18,.int .i64 60)] [(32000,.box 71 (.int .i64 threads::(.int .i64 size::(cellsX T63 v0_12.2.2.1++(cellsX T65 v0_12.2.2.2.1++(cellsX T69 v0_12.2.2.2.2)))))),(53000,.box 77 (.int .i64 threads::(.int .i64 size::(cellsX T66 v0_13.2.2.1++(.own 53001::(.own 53002::[])))))),(53001,.arr 64 (.pair (.int .i64) (.int .i64)) v0_13.2.2.2.1),(53002,.arr 45 (.sl (.int .i64)) v0_13.2.2.2.2)] ?_
            refine zo ?_
            refine zS 4 [(2,.sl (.pair (.int .i64) (.pair (.int .i64) (.pair (.int .i64) (.int .i64)))) deeds),(7,.bp 32000 0),(9,.cv (.pointer none)),(10,.bp 53000 0),(11,.int .i64 st1.2.2.2.2.2.2),(18,.int .i64 60),(98,.bool (!(decide (0=v0_12.1))))] [(32000,.box 71 (.int .i64 threads::(.int .i64 size::(cellsX T63 v0_12.2.2.1++(cellsX T65 v0_12.2.2.2.1++(cellsX T69 v0_12.2.2.2.2)))))),(53000,.box 77 (.int .i64 threads::(.int .i64 size::(cellsX T66 v0_13.2.2.1++(.own 53001::(.own 53002::[])))))),(53001,.arr 64 (.pair (.int .i64) (.int .i64)) v0_13.2.2.2.1),(53002,.arr 45 (.sl (.int .i64)) v0_13.2.2.2.2)] ?_
            rcases zI h with ⟨hb31,h⟩|⟨hb31,h⟩
            ·refine zS 5 [(2,.sl (.pair (.int .i64) (.pair (.int .i64) (.pair (.int .i64) (.int .i64)))) deeds),(7,.bp 32000 0),(9,.cv (.pointer none)),(10,.bp 53000 0),(11,.int .i64 st1.2.2.2.2.2.2),(102,.bool true),(103,.cv (undef))] [(32000,.box 71 (.int .i64 threads::(.int .i64 size::(cellsX T63 v0_12.2.2.1++(cellsX T65 v0_12.2.2.2.1++(cellsX T69 v0_12.2.2.2.2)))))),(53000,.box 77 (.int .i64 threads::(.int .i64 size::(cellsX T66 v0_13.2.2.1++(.own 53001::(.own 53002::[])))))),(53001,.arr 64 (.pair (.int .i64) (.int .i64)) v0_13.2.2.2.1),(53002,.arr 45 (.sl (.int .i64)) v0_13.2.2.2.2)] ?_
             refine zB [(2,.sl (.pair (.int .i64) (.pair (.int .i64) (.pair (.int .i64) (.int .i64)))) deeds),(7,.bp 32000 0),(9,.cv (.pointer none)),(10,.bp 53000 0),(11,.int .i64 st1.2.2.2.2.2.2),(107,.bool true)] [(32000,.box 71 (.int .i64 threads::(.int .i64 size::(cellsX T63 v0_12.2.2.1++(cellsX T65 v0_12.2.2.2.1++(cellsX T69 v0_12.2.2.2.2)))))),(53000,.box 77 (.int .i64 threads::(.int .i64 size::(cellsX T66 v0_13.2.2.1++(.own 53001::(.own 53002::[])))))),(53001,.arr 64 (.pair (.int .i64) (.int .i64)) v0_13.2.2.2.1),(53002,.arr 45 (.sl (.int .i64)) v0_13.2.2.2.2)] ?_
             refine AW.cond (b:=true) rfl (fun _=>?_) (fun hb32=>by cases hb32)
             refine zo ?_
             refine zB [(6,.bool false)] [] ?_
             refine AW.ret ?_
             refine ablock_r ?_
             refine athen_r ?_
             obtain rfl:=Option.some.inj h
             try rw [← hd15 _ rfl] at ho14
             have h:=ho14
             try simp only at h
             refine athen_r ?_
             refine ablock_r ?_
             refine athen_r ?_
             obtain rfl:=Option.some.inj h
             exact zR [] [] []
            ·have hx33:(!decide ((60:Int)=0))=true:=rfl
             refine zS 5 [(2,.sl (.pair (.int .i64) (.pair (.int .i64) (.pair (.int .i64) (.int .i64)))) deeds),(7,.bp 32000 0),(9,.cv (.pointer none)),(10,.bp 53000 0),(11,.int .i64 st1.2.2.2.2.2.2),(102,.bool true),(103,.cv (undef))] [(32000,.box 71 (.int .i64 threads::(.int .i64 size::(cellsX T63 v0_12.2.2.1++(cellsX T65 v0_12.2.2.2.1++(cellsX T69 v0_12.2.2.2.2)))))),(53000,.box 77 (.int .i64 threads::(.int .i64 size::(cellsX T66 v0_13.2.2.1++(.own 53001::(.own 53002::[])))))),(53001,.arr 64 (.pair (.int .i64) (.int .i64)) v0_13.2.2.2.1),(53002,.arr 45 (.sl (.int .i64)) v0_13.2.2.2.2)] ?_
             refine zB [(2,.sl (.pair (.int .i64) (.pair (.int .i64) (.pair (.int .i64) (.int .i64)))) deeds),(7,.bp 32000 0),(9,.cv (.pointer none)),(10,.bp 53000 0),(11,.int .i64 st1.2.2.2.2.2.2),(107,.bool true)] [(32000,.box 71 (.int .i64 threads::(.int .i64 size::(cellsX T63 v0_12.2.2.1++(cellsX T65 v0_12.2.2.2.1++(cellsX T69 v0_12.2.2.2.2)))))),(53000,.box 77 (.int .i64 threads::(.int .i64 size::(cellsX T66 v0_13.2.2.1++(.own 53001::(.own 53002::[])))))),(53001,.arr 64 (.pair (.int .i64) (.int .i64)) v0_13.2.2.2.1),(53002,.arr 45 (.sl (.int .i64)) v0_13.2.2.2.2)] ?_
             refine AW.cond (b:=true) rfl (fun _=>?_) (fun hb34=>by cases hb34)
             refine zo ?_
             refine zB [(6,.bool false)] [] ?_
             refine AW.ret ?_
             refine ablock_r ?_
             refine athen_r ?_
             obtain rfl:=Option.some.inj h
             try rw [← hd15 _ rfl] at ho14
             have h:=ho14
             try simp only at h
             refine athen_r ?_
             refine ablock_r ?_
             refine athen_r ?_
             obtain rfl:=Option.some.inj h
             exact zR [] [] []
           ·refine zm ?_
            refine athen_n ?_
            refine AW.ops ?_
            obtain ⟨c35,h⟩:=ck_some.1 h
            refine zA [(2,.sl (.pair (.int .i64) (.pair (.int .i64) (.pair (.int .i64) (.int .i64)))) deeds),(7,.bp 32000 0),(9,.cv (.pointer none)),(10,.bp 53000 0),(11,.int .i64 (st1.2.2.2.2.2.2+1))] [(32000,.box 71 (.int .i64 threads::(.int .i64 size::(cellsX T63 v0_12.2.2.1++(cellsX T65 v0_12.2.2.2.1++(cellsX T69 v0_12.2.2.2.2)))))),(53000,.box 77 (.int .i64 threads::(.int .i64 size::(cellsX T66 v0_13.2.2.1++(.own 53001::(.own 53002::[])))))),(53001,.arr 64 (.pair (.int .i64) (.int .i64)) v0_13.2.2.2.1),(53002,.arr 45 (.sl (.int .i64)) v0_13.2.2.2.2)] ?_
            obtain rfl:=Option.some.inj h
            exact ⟨_,rfl,zL [] [] []⟩
       ·refine AW.exit ?_
        refine athen_e ?_
        obtain rfl:=Option.some.inj h
        try rw [← hd15 _ rfl] at ho14
        have h:=ho14
        try simp only at h
        refine athen_e ?_
        refine ablock_s ?_
        refine athen_n ?_
        exact AW.weaken (zL [] [] []) (hk_lineallaw06_HazardDeeds_k1 () h)
    ·try simp only at h
     refine zC [] [(1000,32000)] (hc_hazard_Yard_Copy_a1 (threads,size,(Ty.dflt T63),v0_3,(Ty.dflt T69)) hv10) [(0,.int .i64 threads),(1,.int .i64 size),(2,.sl (.pair (.int .i64) (.pair (.int .i64) (.pair (.int .i64) (.int .i64)))) deeds),(7,.bp 32000 0),(40,.bp 50000 0)] [(32000,.box 71 (.int .i64 threads::(.int .i64 size::(cellsX T63 (Ty.dflt T63)++(cellsX T65 v0_3++(cellsX T69 (Ty.dflt T69))))))),(50000,.box 71 (.int .i64 threads::(.int .i64 size::(cellsX T63 (Ty.dflt T63)++(cellsX T65 v0_3++(cellsX T69 (Ty.dflt T69)))))))] ?_
     refine zB [(0,.int .i64 threads),(1,.int .i64 size),(2,.sl (.pair (.int .i64) (.pair (.int .i64) (.pair (.int .i64) (.int .i64)))) deeds),(7,.bp 32000 0),(9,.bp 50000 0)] [(32000,.box 71 (.int .i64 threads::(.int .i64 size::(cellsX T63 (Ty.dflt T63)++(cellsX T65 v0_3++(cellsX T69 (Ty.dflt T69))))))),(50000,.box 71 (.int .i64 threads::(.int .i64 size::(cellsX T63 (Ty.dflt T63)++(cellsX T65 v0_3++(cellsX T69 (Ty.dflt T69)))))))] ?_
     refine zo ?_
     refine zS 2 [(2,.sl (.pair (.int .i64) (.pair (.int .i64) (.pair (.int .i64) (.int .i64)))) deeds),(7,.bp 32000 0),(9,.bp 50000 0),(41,.int .i64 threads),(42,.int .i64 size)] [(32000,.box 71 (.int .i64 threads::(.int .i64 size::(cellsX T63 (Ty.dflt T63)++(cellsX T65 v0_3++(cellsX T69 (Ty.dflt T69))))))),(50000,.box 71 (.int .i64 threads::(.int .i64 size::(cellsX T63 (Ty.dflt T63)++(cellsX T65 v0_3++(cellsX T69 (Ty.dflt T69)))))))] ?_
     obtain ⟨v0_17,hv36,h⟩:=Option.bind_eq_some_iff.1 h
     refine zC [] [] (hc_linealref06_New threads size hv36) [(2,.sl (.pair (.int .i64) (.pair (.int .i64) (.pair (.int .i64) (.int .i64)))) deeds),(7,.bp 32000 0),(9,.bp 50000 0),(43,.bp 53000 0)] [(32000,.box 71 (.int .i64 threads::(.int .i64 size::(cellsX T63 (Ty.dflt T63)++(cellsX T65 v0_3++(cellsX T69 (Ty.dflt T69))))))),(50000,.box 71 (.int .i64 threads::(.int .i64 size::(cellsX T63 (Ty.dflt T63)++(cellsX T65 v0_3++(cellsX T69 (Ty.dflt T69))))))),(53000,.box 77 (.int .i64 threads::(.int .i64 size::(cellsX T66 (Ty.dflt T66)++(.own 53001::(.own 53002::[])))))),(53001,.arr 64 (.pair (.int .i64) (.int .i64)) v0_17.1),(53002,.arr 45 (.sl (.int .i64)) v0_17.2)] ?_
     refine zB [(2,.sl (.pair (.int .i64) (.pair (.int .i64) (.pair (.int .i64) (.int .i64)))) deeds),(7,.bp 32000 0),(9,.bp 50000 0),(10,.bp 53000 0)] [(32000,.box 71 (.int .i64 threads::(.int .i64 size::(cellsX T63 (Ty.dflt T63)++(cellsX T65 v0_3++(cellsX T69 (Ty.dflt T69))))))),(50000,.box 71 (.int .i64 threads::(.int .i64 size::(cellsX T63 (Ty.dflt T63)++(cellsX T65 v0_3++(cellsX T69 (Ty.dflt T69))))))),(53000,.box 77 (.int .i64 threads::(.int .i64 size::(cellsX T66 (Ty.dflt T66)++(.own 53001::(.own 53002::[])))))),(53001,.arr 64 (.pair (.int .i64) (.int .i64)) v0_17.1),(53002,.arr 45 (.sl (.int .i64)) v0_17.2)] ?_
     refine AW.have1 (fun _:Unit=>lineallaw06_HazardDeeds_k2=some r) (fun _=>⟨fr [],hpGet [],gt⟩) (fun _ h=>?_) (fun hk_lineallaw06_HazardDeeds_k2=>?_)
     ·as_aux_lemma =>
       unfold lineallaw06_HazardDeeds_k2 at h
       refine zo ?_
       obtain ⟨v0_23,hv37,h⟩:=Option.bind_eq_some_iff.1 h
       refine zC [] [] (hc_lineallaw06_Sane hv37) [(108,.bool v0_23)] [] ?_
       refine zB [(6,.bool v0_23)] [] ?_
       refine AW.ret ?_
       obtain rfl:=Option.some.inj h
       exact zR [] [] []
     ·refine AW.seq ?_
      refine zo ?_
      refine zB [(2,.sl (.pair (.int .i64) (.pair (.int .i64) (.pair (.int .i64) (.int .i64)))) deeds),(7,.bp 32000 0),(9,.bp 50000 0),(10,.bp 53000 0),(11,.int .i64 0)] [(32000,.box 71 (.int .i64 threads::(.int .i64 size::(cellsX T63 (Ty.dflt T63)++(cellsX T65 v0_3++(cellsX T69 (Ty.dflt T69))))))),(50000,.box 71 (.int .i64 threads::(.int .i64 size::(cellsX T63 (Ty.dflt T63)++(cellsX T65 v0_3++(cellsX T69 (Ty.dflt T69))))))),(53000,.box 77 (.int .i64 threads::(.int .i64 size::(cellsX T66 (Ty.dflt T66)++(.own 53001::(.own 53002::[])))))),(53001,.arr 64 (.pair (.int .i64) (.int .i64)) v0_17.1),(53002,.arr 45 (.sl (.int .i64)) v0_17.2)] ?_
      refine AW.block ?_
      obtain ⟨rv42,hw38,ho39⟩:=Option.bind_eq_some_iff.1 h
      refine AW.loopO (lineallaw06_HazardDeeds_b2 threads size deeds) (fun st2=>⟨fr [(2,.sl (.pair (.int .i64) (.pair (.int .i64) (.pair (.int .i64) (.int .i64)))) deeds),(7,.bp 32000 0),(9,.bp 50000 0),(10,.bp 53000 0),(11,.int .i64 st2.2.2.2.2.2.2.2.2.2)],hpGet [(32000,.box 71 (.int .i64 threads::(.int .i64 size::(cellsX T63 st2.1++(cellsX T65 st2.2.1++(cellsX T69 st2.2.2.1)))))),(50000,.box 71 (.int .i64 threads::(.int .i64 size::(cellsX T63 st2.2.2.2.1++(cellsX T65 st2.2.2.2.2.1++(cellsX T69 st2.2.2.2.2.2.1)))))),(53000,.box 77 (.int .i64 threads::(.int .i64 size::(cellsX T66 st2.2.2.2.2.2.2.1++(.own 53001::(.own 53002::[])))))),(53001,.arr 64 (.pair (.int .i64) (.int .i64)) st2.2.2.2.2.2.2.2.1),(53002,.arr 45 (.sl (.int .i64)) st2.2.2.2.2.2.2.2.2.1)],gt⟩) ((Ty.dflt T63),v0_3,(Ty.dflt T69),(Ty.dflt T63),v0_3,(Ty.dflt T69),(Ty.dflt T66),v0_17.1,v0_17.2,0) hw38 (zL [] [] []) ?_
      as_aux_lemma =>
       intro st2 x41 h hd40
       unfold lineallaw06_HazardDeeds_b2 at h
       refine AW.seq ?_
       refine zo ?_
       refine zB [(2,.sl (.pair (.int .i64) (.pair (.int .i64) (.pair (.int .i64) (.int .i64)))) deeds),(7,.bp 32000 0),(9,.bp 50000 0),(10,.bp 53000 0),(11,.int .i64 st2.2.2.2.2.2.2.2.2.2),(47,.bool (decide (st2.2.2.2.2.2.2.2.2.2<(deeds.length:Int))))] [(32000,.box 71 (.int .i64 threads::(.int .i64 size::(cellsX T63 st2.1++(cellsX T65 st2.2.1++(cellsX T69 st2.2.2.1)))))),(50000,.box 71 (.int .i64 threads::(.int .i64 size::(cellsX T63 st2.2.2.2.1++(cellsX T65 st2.2.2.2.2.1++(cellsX T69 st2.2.2.2.2.2.1)))))),(53000,.box 77 (.int .i64 threads::(.int .i64 size::(cellsX T66 st2.2.2.2.2.2.2.1++(.own 53001::(.own 53002::[])))))),(53001,.arr 64 (.pair (.int .i64) (.int .i64)) st2.2.2.2.2.2.2.2.1),(53002,.arr 45 (.sl (.int .i64)) st2.2.2.2.2.2.2.2.2.1)] ?_
       refine zQ h (fun hb43 h=>?_) (fun hb43 h=>?_)
       ·refine zk ?_
        refine AW.seq ?_
        refine AW.block ?_
        refine zo ?_
        obtain ⟨c44,h⟩:=ck_some.1 h
        obtain ⟨c45,h⟩:=ck_some.1 h
        refine zS 5 [(2,.sl (.pair (.int .i64) (.pair (.int .i64) (.pair (.int .i64) (.int .i64)))) deeds),(7,.bp 32000 0),(9,.bp 50000 0),(10,.bp 53000 0),(11,.int .i64 st2.2.2.2.2.2.2.2.2.2),(12,.bp 12 0),(53,.agg [.int .i64 (deeds.getD st2.2.2.2.2.2.2.2.2.2.toNat (0,0,0,0)).1,.int .i64 (deeds.getD st2.2.2.2.2.2.2.2.2.2.toNat (0,0,0,0)).2.1,.int .i64 (deeds.getD st2.2.2.2.2.2.2.2.2.2.toNat (0,0,0,0)).2.2.1,.int .i64 (deeds.getD st2.2.2.2.2.2.2.2.2.2.toNat (0,0,0,0)).2.2.2])] [(12,.box 33 [.int .i64 0,.int .i64 0,.int .i64 0,.int .i64 0]),(32000,.box 71 (.int .i64 threads::(.int .i64 size::(cellsX T63 st2.1++(cellsX T65 st2.2.1++(cellsX T69 st2.2.2.1)))))),(50000,.box 71 (.int .i64 threads::(.int .i64 size::(cellsX T63 st2.2.2.2.1++(cellsX T65 st2.2.2.2.2.1++(cellsX T69 st2.2.2.2.2.2.1)))))),(53000,.box 77 (.int .i64 threads::(.int .i64 size::(cellsX T66 st2.2.2.2.2.2.2.1++(.own 53001::(.own 53002::[])))))),(53001,.arr 64 (.pair (.int .i64) (.int .i64)) st2.2.2.2.2.2.2.2.1),(53002,.arr 45 (.sl (.int .i64)) st2.2.2.2.2.2.2.2.2.1)] ?_
        refine zB [(2,.sl (.pair (.int .i64) (.pair (.int .i64) (.pair (.int .i64) (.int .i64)))) deeds),(7,.bp 32000 0),(9,.bp 50000 0),(10,.bp 53000 0),(11,.int .i64 st2.2.2.2.2.2.2.2.2.2),(12,.bp 12 0)] [(12,.box 33 [.int .i64 (deeds.getD st2.2.2.2.2.2.2.2.2.2.toNat (0,0,0,0)).1,.int .i64 (deeds.getD st2.2.2.2.2.2.2.2.2.2.toNat (0,0,0,0)).2.1,.int .i64 (deeds.getD st2.2.2.2.2.2.2.2.2.2.toNat (0,0,0,0)).2.2.1,.int .i64 (deeds.getD st2.2.2.2.2.2.2.2.2.2.toNat (0,0,0,0)).2.2.2]),(32000,.box 71 (.int .i64 threads::(.int .i64 size::(cellsX T63 st2.1++(cellsX T65 st2.2.1++(cellsX T69 st2.2.2.1)))))),(50000,.box 71 (.int .i64 threads::(.int .i64 size::(cellsX T63 st2.2.2.2.1++(cellsX T65 st2.2.2.2.2.1++(cellsX T69 st2.2.2.2.2.2.1)))))),(53000,.box 77 (.int .i64 threads::(.int .i64 size::(cellsX T66 st2.2.2.2.2.2.2.1++(.own 53001::(.own 53002::[])))))),(53001,.arr 64 (.pair (.int .i64) (.int .i64)) st2.2.2.2.2.2.2.2.1),(53002,.arr 45 (.sl (.int .i64)) st2.2.2.2.2.2.2.2.2.1)] ?_
        refine zo ?_
        refine zS 2 [(2,.sl (.pair (.int .i64) (.pair (.int .i64) (.pair (.int .i64) (.int .i64)))) deeds),(7,.bp 32000 0),(9,.bp 50000 0),(10,.bp 53000 0),(11,.int .i64 st2.2.2.2.2.2.2.2.2.2),(12,.bp 12 0),(55,.bp 32000 0),(56,.agg [.int .i64 (deeds.getD st2.2.2.2.2.2.2.2.2.2.toNat (0,0,0,0)).1,.int .i64 (deeds.getD st2.2.2.2.2.2.2.2.2.2.toNat (0,0,0,0)).2.1,.int .i64 (deeds.getD st2.2.2.2.2.2.2.2.2.2.toNat (0,0,0,0)).2.2.1,.int .i64 (deeds.getD st2.2.2.2.2.2.2.2.2.2.toNat (0,0,0,0)).2.2.2])] [(12,.box 33 [.int .i64 (deeds.getD st2.2.2.2.2.2.2.2.2.2.toNat (0,0,0,0)).1,.int .i64 (deeds.getD st2.2.2.2.2.2.2.2.2.2.toNat (0,0,0,0)).2.1,.int .i64 (deeds.getD st2.2.2.2.2.2.2.2.2.2.toNat (0,0,0,0)).2.2.1,.int .i64 (deeds.getD st2.2.2.2.2.2.2.2.2.2.toNat (0,0,0,0)).2.2.2]),(32000,.box 71 (.int .i64 threads::(.int .i64 size::(cellsX T63 st2.1++(cellsX T65 st2.2.1++(cellsX T69 st2.2.2.1)))))),(50000,.box 71 (.int .i64 threads::(.int .i64 size::(cellsX T63 st2.2.2.2.1++(cellsX T65 st2.2.2.2.2.1++(cellsX T69 st2.2.2.2.2.2.1)))))),(53000,.box 77 (.int .i64 threads::(.int .i64 size::(cellsX T66 st2.2.2.2.2.2.2.1++(.own 53001::(.own 53002::[])))))),(53001,.arr 64 (.pair (.int .i64) (.int .i64)) st2.2.2.2.2.2.2.2.1),(53002,.arr 45 (.sl (.int .i64)) st2.2.2.2.2.2.2.2.2.1)] ?_
        obtain ⟨v0_18,hv46,h⟩:=Option.bind_eq_some_iff.1 h
        refine zC [] [(1000,32000)] (hc_hazard_Yard_Do (deeds.getD st2.2.2.2.2.2.2.2.2.2.toNat (0,0,0,0)) (threads,size,st2.1,st2.2.1,st2.2.2.1) hv46) [(2,.sl (.pair (.int .i64) (.pair (.int .i64) (.pair (.int .i64) (.int .i64)))) deeds),(7,.bp 32000 0),(9,.bp 50000 0),(10,.bp 53000 0),(11,.int .i64 st2.2.2.2.2.2.2.2.2.2),(12,.bp 12 0),(57,.tup [.int .i64 v0_18.1,.int .i64 v0_18.2.1])] [(12,.box 33 [.int .i64 (deeds.getD st2.2.2.2.2.2.2.2.2.2.toNat (0,0,0,0)).1,.int .i64 (deeds.getD st2.2.2.2.2.2.2.2.2.2.toNat (0,0,0,0)).2.1,.int .i64 (deeds.getD st2.2.2.2.2.2.2.2.2.2.toNat (0,0,0,0)).2.2.1,.int .i64 (deeds.getD st2.2.2.2.2.2.2.2.2.2.toNat (0,0,0,0)).2.2.2]),(32000,.box 71 (.int .i64 threads::(.int .i64 size::(cellsX T63 v0_18.2.2.1++(cellsX T65 v0_18.2.2.2.1++(cellsX T69 v0_18.2.2.2.2)))))),(50000,.box 71 (.int .i64 threads::(.int .i64 size::(cellsX T63 st2.2.2.2.1++(cellsX T65 st2.2.2.2.2.1++(cellsX T69 st2.2.2.2.2.2.1)))))),(53000,.box 77 (.int .i64 threads::(.int .i64 size::(cellsX T66 st2.2.2.2.2.2.2.1++(.own 53001::(.own 53002::[])))))),(53001,.arr 64 (.pair (.int .i64) (.int .i64)) st2.2.2.2.2.2.2.2.1),(53002,.arr 45 (.sl (.int .i64)) st2.2.2.2.2.2.2.2.2.1)] ?_
        refine zB [(2,.sl (.pair (.int .i64) (.pair (.int .i64) (.pair (.int .i64) (.int .i64)))) deeds),(7,.bp 32000 0),(9,.bp 50000 0),(10,.bp 53000 0),(11,.int .i64 st2.2.2.2.2.2.2.2.2.2),(12,.bp 12 0),(13,.int .i64 v0_18.1),(14,.int .i64 v0_18.2.1)] [(12,.box 33 [.int .i64 (deeds.getD st2.2.2.2.2.2.2.2.2.2.toNat (0,0,0,0)).1,.int .i64 (deeds.getD st2.2.2.2.2.2.2.2.2.2.toNat (0,0,0,0)).2.1,.int .i64 (deeds.getD st2.2.2.2.2.2.2.2.2.2.toNat (0,0,0,0)).2.2.1,.int .i64 (deeds.getD st2.2.2.2.2.2.2.2.2.2.toNat (0,0,0,0)).2.2.2]),(32000,.box 71 (.int .i64 threads::(.int .i64 size::(cellsX T63 v0_18.2.2.1++(cellsX T65 v0_18.2.2.2.1++(cellsX T69 v0_18.2.2.2.2)))))),(50000,.box 71 (.int .i64 threads::(.int .i64 size::(cellsX T63 st2.2.2.2.1++(cellsX T65 st2.2.2.2.2.1++(cellsX T69 st2.2.2.2.2.2.1)))))),(53000,.box 77 (.int .i64 threads::(.int .i64 size::(cellsX T66 st2.2.2.2.2.2.2.1++(.own 53001::(.own 53002::[])))))),(53001,.arr 64 (.pair (.int .i64) (.int .i64)) st2.2.2.2.2.2.2.2.1),(53002,.arr 45 (.sl (.int .i64)) st2.2.2.2.2.2.2.2.2.1)] ?_
        refine zo ?_
        refine zS 5 [(2,.sl (.pair (.int .i64) (.pair (.int .i64) (.pair (.int .i64) (.int .i64)))) deeds),(7,.bp 32000 0),(9,.bp 50000 0),(10,.bp 53000 0),(11,.int .i64 st2.2.2.2.2.2.2.2.2.2),(12,.bp 12 0),(13,.int .i64 v0_18.1),(14,.int .i64 v0_18.2.1),(61,.bp 53000 0),(63,.int .i64 (deeds.getD st2.2.2.2.2.2.2.2.2.2.toNat (0,0,0,0)).1),(65,.int .i64 (deeds.getD st2.2.2.2.2.2.2.2.2.2.toNat (0,0,0,0)).2.1)] [(12,.box 33 [.int .i64 (deeds.getD st2.2.2.2.2.2.2.2.2.2.toNat (0,0,0,0)).1,.int .i64 (deeds.getD st2.2.2.2.2.2.2.2.2.2.toNat (0,0,0,0)).2.1,.int .i64 (deeds.getD st2.2.2.2.2.2.2.2.2.2.toNat (0,0,0,0)).2.2.1,.int .i64 (deeds.getD st2.2.2.2.2.2.2.2.2.2.toNat (0,0,0,0)).2.2.2]),(32000,.box 71 (.int .i64 threads::(.int .i64 size::(cellsX T63 v0_18.2.2.1++(cellsX T65 v0_18.2.2.2.1++(cellsX T69 v0_18.2.2.2.2)))))),(50000,.box 71 (.int .i64 threads::(.int .i64 size::(cellsX T63 st2.2.2.2.1++(cellsX T65 st2.2.2.2.2.1++(cellsX T69 st2.2.2.2.2.2.1)))))),(53000,.box 77 (.int .i64 threads::(.int .i64 size::(cellsX T66 st2.2.2.2.2.2.2.1++(.own 53001::(.own 53002::[])))))),(53001,.arr 64 (.pair (.int .i64) (.int .i64)) st2.2.2.2.2.2.2.2.1),(53002,.arr 45 (.sl (.int .i64)) st2.2.2.2.2.2.2.2.2.1)] ?_
        refine zS 4 [(2,.sl (.pair (.int .i64) (.pair (.int .i64) (.pair (.int .i64) (.int .i64)))) deeds),(7,.bp 32000 0),(9,.bp 50000 0),(10,.bp 53000 0),(11,.int .i64 st2.2.2.2.2.2.2.2.2.2),(12,.bp 12 0),(13,.int .i64 v0_18.1),(14,.int .i64 v0_18.2.1),(61,.bp 53000 0),(63,.int .i64 (deeds.getD st2.2.2.2.2.2.2.2.2.2.toNat (0,0,0,0)).1),(65,.int .i64 (deeds.getD st2.2.2.2.2.2.2.2.2.2.toNat (0,0,0,0)).2.1),(67,.int .i64 (deeds.getD st2.2.2.2.2.2.2.2.2.2.toNat (0,0,0,0)).2.2.1),(69,.int .i64 (deeds.getD st2.2.2.2.2.2.2.2.2.2.toNat (0,0,0,0)).2.2.2)] [(12,.box 33 [.int .i64 (deeds.getD st2.2.2.2.2.2.2.2.2.2.toNat (0,0,0,0)).1,.int .i64 (deeds.getD st2.2.2.2.2.2.2.2.2.2.toNat (0,0,0,0)).2.1,.int .i64 (deeds.getD st2.2.2.2.2.2.2.2.2.2.toNat (0,0,0,0)).2.2.1,.int .i64 (deeds.getD st2.2.2.2.2.2.2.2.2.2.toNat (0,0,0,0)).2.2.2]),(32000,.box 71 (.int .i64 threads::(.int .i64 size::(cellsX T63 v0_18.2.2.1++(cellsX T65 v0_18.2.2.2.1++(cellsX T69 v0_18.2.2.2.2)))))),(50000,.box 71 (.int .i64 threads::(.int .i64 size::(cellsX T63 st2.2.2.2.1++(cellsX T65 st2.2.2.2.2.1++(cellsX T69 st2.2.2.2.2.2.1)))))),(53000,.box 77 (.int .i64 threads::(.int .i64 size::(cellsX T66 st2.2.2.2.2.2.2.1++(.own 53001::(.own 53002::[])))))),(53001,.arr 64 (.pair (.int .i64) (.int .i64)) st2.2.2.2.2.2.2.2.1),(53002,.arr 45 (.sl (.int .i64)) st2.2.2.2.2.2.2.2.2.1)] ?_
        obtain ⟨v0_19,hv47,h⟩:=Option.bind_eq_some_iff.1 h
        refine zC [] [(1000,53000),(1001,53001),(1002,53002)] (hc_linealref06_Yard_Do (deeds.getD st2.2.2.2.2.2.2.2.2.2.toNat (0,0,0,0)).1 (deeds.getD st2.2.2.2.2.2.2.2.2.2.toNat (0,0,0,0)).2.1 (deeds.getD st2.2.2.2.2.2.2.2.2.2.toNat (0,0,0,0)).2.2.1 (deeds.getD st2.2.2.2.2.2.2.2.2.2.toNat (0,0,0,0)).2.2.2 threads size st2.2.2.2.2.2.2.1 st2.2.2.2.2.2.2.2.1 st2.2.2.2.2.2.2.2.2.1 hv47) [(2,.sl (.pair (.int .i64) (.pair (.int .i64) (.pair (.int .i64) (.int .i64)))) deeds),(7,.bp 32000 0),(9,.bp 50000 0),(10,.bp 53000 0),(11,.int .i64 st2.2.2.2.2.2.2.2.2.2),(12,.bp 12 0),(13,.int .i64 v0_18.1),(14,.int .i64 v0_18.2.1),(70,.tup [.int .i64 v0_19.1,.int .i64 v0_19.2.1])] [(12,.box 33 [.int .i64 (deeds.getD st2.2.2.2.2.2.2.2.2.2.toNat (0,0,0,0)).1,.int .i64 (deeds.getD st2.2.2.2.2.2.2.2.2.2.toNat (0,0,0,0)).2.1,.int .i64 (deeds.getD st2.2.2.2.2.2.2.2.2.2.toNat (0,0,0,0)).2.2.1,.int .i64 (deeds.getD st2.2.2.2.2.2.2.2.2.2.toNat (0,0,0,0)).2.2.2]),(32000,.box 71 (.int .i64 threads::(.int .i64 size::(cellsX T63 v0_18.2.2.1++(cellsX T65 v0_18.2.2.2.1++(cellsX T69 v0_18.2.2.2.2)))))),(50000,.box 71 (.int .i64 threads::(.int .i64 size::(cellsX T63 st2.2.2.2.1++(cellsX T65 st2.2.2.2.2.1++(cellsX T69 st2.2.2.2.2.2.1)))))),(53000,.box 77 (.int .i64 threads::(.int .i64 size::(cellsX T66 v0_19.2.2.1++(.own 53001::(.own 53002::[])))))),(53001,.arr 64 (.pair (.int .i64) (.int .i64)) v0_19.2.2.2.1),(53002,.arr 45 (.sl (.int .i64)) v0_19.2.2.2.2)] ?_
        refine zB [(2,.sl (.pair (.int .i64) (.pair (.int .i64) (.pair (.int .i64) (.int .i64)))) deeds),(7,.bp 32000 0),(9,.bp 50000 0),(10,.bp 53000 0),(11,.int .i64 st2.2.2.2.2.2.2.2.2.2),(12,.bp 12 0),(13,.int .i64 v0_18.1),(14,.int .i64 v0_18.2.1),(15,.int .i64 v0_19.1),(16,.int .i64 v0_19.2.1)] [(12,.box 33 [.int .i64 (deeds.getD st2.2.2.2.2.2.2.2.2.2.toNat (0,0,0,0)).1,.int .i64 (deeds.getD st2.2.2.2.2.2.2.2.2.2.toNat (0,0,0,0)).2.1,.int .i64 (deeds.getD st2.2.2.2.2.2.2.2.2.2.toNat (0,0,0,0)).2.2.1,.int .i64 (deeds.getD st2.2.2.2.2.2.2.2.2.2.toNat (0,0,0,0)).2.2.2]),(32000,.box 71 (.int .i64 threads::(.int .i64 size::(cellsX T63 v0_18.2.2.1++(cellsX T65 v0_18.2.2.2.1++(cellsX T69 v0_18.2.2.2.2)))))),(50000,.box 71 (.int .i64 threads::(.int .i64 size::(cellsX T63 st2.2.2.2.1++(cellsX T65 st2.2.2.2.2.1++(cellsX T69 st2.2.2.2.2.2.1)))))),(53000,.box 77 (.int .i64 threads::(.int .i64 size::(cellsX T66 v0_19.2.2.1++(.own 53001::(.own 53002::[])))))),(53001,.arr 64 (.pair (.int .i64) (.int .i64)) v0_19.2.2.2.1),(53002,.arr 45 (.sl (.int .i64)) v0_19.2.2.2.2)] ?_
        refine AW.seq ?_
        refine zo ?_
        refine zS 4 [(2,.sl (.pair (.int .i64) (.pair (.int .i64) (.pair (.int .i64) (.int .i64)))) deeds),(7,.bp 32000 0),(9,.bp 50000 0),(10,.bp 53000 0),(11,.int .i64 st2.2.2.2.2.2.2.2.2.2),(12,.bp 12 0),(13,.int .i64 v0_18.1),(14,.int .i64 v0_18.2.1),(16,.int .i64 v0_19.2.1),(76,.bool (!(decide (v0_18.1=v0_19.1))))] [(12,.box 33 [.int .i64 (deeds.getD st2.2.2.2.2.2.2.2.2.2.toNat (0,0,0,0)).1,.int .i64 (deeds.getD st2.2.2.2.2.2.2.2.2.2.toNat (0,0,0,0)).2.1,.int .i64 (deeds.getD st2.2.2.2.2.2.2.2.2.2.toNat (0,0,0,0)).2.2.1,.int .i64 (deeds.getD st2.2.2.2.2.2.2.2.2.2.toNat (0,0,0,0)).2.2.2]),(32000,.box 71 (.int .i64 threads::(.int .i64 size::(cellsX T63 v0_18.2.2.1++(cellsX T65 v0_18.2.2.2.1++(cellsX T69 v0_18.2.2.2.2)))))),(50000,.box 71 (.int .i64 threads::(.int .i64 size::(cellsX T63 st2.2.2.2.1++(cellsX T65 st2.2.2.2.2.1++(cellsX T69 st2.2.2.2.2.2.1)))))),(53000,.box 77 (.int .i64 threads::(.int .i64 size::(cellsX T66 v0_19.2.2.1++(.own 53001::(.own 53002::[])))))),(53001,.arr 64 (.pair (.int .i64) (.int .i64)) v0_19.2.2.2.1),(53002,.arr 45 (.sl (.int .i64)) v0_19.2.2.2.2)] ?_
        rcases zI h with ⟨hb48,h⟩|⟨hb48,h⟩
        ·refine zS 5 [(2,.sl (.pair (.int .i64) (.pair (.int .i64) (.pair (.int .i64) (.int .i64)))) deeds),(7,.bp 32000 0),(9,.bp 50000 0),(10,.bp 53000 0),(11,.int .i64 st2.2.2.2.2.2.2.2.2.2),(12,.bp 12 0),(13,.int .i64 v0_18.1),(14,.int .i64 v0_18.2.1),(81,.bool true)] [(12,.box 33 [.int .i64 (deeds.getD st2.2.2.2.2.2.2.2.2.2.toNat (0,0,0,0)).1,.int .i64 (deeds.getD st2.2.2.2.2.2.2.2.2.2.toNat (0,0,0,0)).2.1,.int .i64 (deeds.getD st2.2.2.2.2.2.2.2.2.2.toNat (0,0,0,0)).2.2.1,.int .i64 (deeds.getD st2.2.2.2.2.2.2.2.2.2.toNat (0,0,0,0)).2.2.2]),(32000,.box 71 (.int .i64 threads::(.int .i64 size::(cellsX T63 v0_18.2.2.1++(cellsX T65 v0_18.2.2.2.1++(cellsX T69 v0_18.2.2.2.2)))))),(50000,.box 71 (.int .i64 threads::(.int .i64 size::(cellsX T63 st2.2.2.2.1++(cellsX T65 st2.2.2.2.2.1++(cellsX T69 st2.2.2.2.2.2.1)))))),(53000,.box 77 (.int .i64 threads::(.int .i64 size::(cellsX T66 v0_19.2.2.1++(.own 53001::(.own 53002::[])))))),(53001,.arr 64 (.pair (.int .i64) (.int .i64)) v0_19.2.2.2.1),(53002,.arr 45 (.sl (.int .i64)) v0_19.2.2.2.2)] ?_
         refine zS 4 [(2,.sl (.pair (.int .i64) (.pair (.int .i64) (.pair (.int .i64) (.int .i64)))) deeds),(7,.bp 32000 0),(9,.bp 50000 0),(10,.bp 53000 0),(11,.int .i64 st2.2.2.2.2.2.2.2.2.2),(12,.bp 12 0),(13,.int .i64 v0_18.1),(14,.int .i64 v0_18.2.1),(81,.bool true),(85,.cv (undef))] [(12,.box 33 [.int .i64 (deeds.getD st2.2.2.2.2.2.2.2.2.2.toNat (0,0,0,0)).1,.int .i64 (deeds.getD st2.2.2.2.2.2.2.2.2.2.toNat (0,0,0,0)).2.1,.int .i64 (deeds.getD st2.2.2.2.2.2.2.2.2.2.toNat (0,0,0,0)).2.2.1,.int .i64 (deeds.getD st2.2.2.2.2.2.2.2.2.2.toNat (0,0,0,0)).2.2.2]),(32000,.box 71 (.int .i64 threads::(.int .i64 size::(cellsX T63 v0_18.2.2.1++(cellsX T65 v0_18.2.2.2.1++(cellsX T69 v0_18.2.2.2.2)))))),(50000,.box 71 (.int .i64 threads::(.int .i64 size::(cellsX T63 st2.2.2.2.1++(cellsX T65 st2.2.2.2.2.1++(cellsX T69 st2.2.2.2.2.2.1)))))),(53000,.box 77 (.int .i64 threads::(.int .i64 size::(cellsX T66 v0_19.2.2.1++(.own 53001::(.own 53002::[])))))),(53001,.arr 64 (.pair (.int .i64) (.int .i64)) v0_19.2.2.2.1),(53002,.arr 45 (.sl (.int .i64)) v0_19.2.2.2.2)] ?_
         refine zB [(2,.sl (.pair (.int .i64) (.pair (.int .i64) (.pair (.int .i64) (.int .i64)))) deeds),(7,.bp 32000 0),(9,.bp 50000 0),(10,.bp 53000 0),(11,.int .i64 st2.2.2.2.2.2.2.2.2.2),(12,.bp 12 0),(13,.int .i64 v0_18.1),(14,.int .i64 v0_18.2.1),(86,.bool true)] [(12,.box 33 [.int .i64 (deeds.getD st2.2.2.2.2.2.2.2.2.2.toNat (0,0,0,0)).1,.int .i64 (deeds.getD st2.2.2.2.2.2.2.2.2.2.toNat (0,0,0,0)).2.1,.int .i64 (deeds.getD st2.2.2.2.2.2.2.2.2.2.toNat (0,0,0,0)).2.2.1,.int .i64 (deeds.getD st2.2.2.2.2.2.2.2.2.2.toNat (0,0,0,0)).2.2.2]),(32000,.box 71 (.int .i64 threads::(.int .i64 size::(cellsX T63 v0_18.2.2.1++(cellsX T65 v0_18.2.2.2.1++(cellsX T69 v0_18.2.2.2.2)))))),(50000,.box 71 (.int .i64 threads::(.int .i64 size::(cellsX T63 st2.2.2.2.1++(cellsX T65 st2.2.2.2.2.1++(cellsX T69 st2.2.2.2.2.2.1)))))),(53000,.box 77 (.int .i64 threads::(.int .i64 size::(cellsX T66 v0_19.2.2.1++(.own 53001::(.own 53002::[])))))),(53001,.arr 64 (.pair (.int .i64) (.int .i64)) v0_19.2.2.2.1),(53002,.arr 45 (.sl (.int .i64)) v0_19.2.2.2.2)] ?_
         refine AW.cond (b:=true) rfl (fun _=>?_) (fun hb49=>by cases hb49)
         refine zo ?_
         refine zB [(6,.bool false)] [] ?_
         refine zr ?_
         refine ablock_r ?_
         refine athen_r ?_
         obtain rfl:=Option.some.inj h
         try rw [← hd40 _ rfl] at ho39
         have h:=ho39
         try simp only at h
         refine athen_r ?_
         refine ablock_r ?_
         refine athen_r ?_
         obtain rfl:=Option.some.inj h
         exact zR [] [] []
        ·refine zS 5 [(2,.sl (.pair (.int .i64) (.pair (.int .i64) (.pair (.int .i64) (.int .i64)))) deeds),(7,.bp 32000 0),(9,.bp 50000 0),(10,.bp 53000 0),(11,.int .i64 st2.2.2.2.2.2.2.2.2.2),(12,.bp 12 0),(13,.int .i64 v0_18.1),(14,.int .i64 v0_18.2.1),(81,.bool (!(decide (v0_18.2.1=v0_19.2.1))))] [(12,.box 33 [.int .i64 (deeds.getD st2.2.2.2.2.2.2.2.2.2.toNat (0,0,0,0)).1,.int .i64 (deeds.getD st2.2.2.2.2.2.2.2.2.2.toNat (0,0,0,0)).2.1,.int .i64 (deeds.getD st2.2.2.2.2.2.2.2.2.2.toNat (0,0,0,0)).2.2.1,.int .i64 (deeds.getD st2.2.2.2.2.2.2.2.2.2.toNat (0,0,0,0)).2.2.2]),(32000,.box 71 (.int .i64 threads::(.int .i64 size::(cellsX T63 v0_18.2.2.1++(cellsX T65 v0_18.2.2.2.1++(cellsX T69 v0_18.2.2.2.2)))))),(50000,.box 71 (.int .i64 threads::(.int .i64 size::(cellsX T63 st2.2.2.2.1++(cellsX T65 st2.2.2.2.2.1++(cellsX T69 st2.2.2.2.2.2.1)))))),(53000,.box 77 (.int .i64 threads::(.int .i64 size::(cellsX T66 v0_19.2.2.1++(.own 53001::(.own 53002::[])))))),(53001,.arr 64 (.pair (.int .i64) (.int .i64)) v0_19.2.2.2.1),(53002,.arr 45 (.sl (.int .i64)) v0_19.2.2.2.2)] ?_
         rcases zI h with ⟨hb50,h⟩|⟨hb50,h⟩
         ·refine zS 4 [(2,.sl (.pair (.int .i64) (.pair (.int .i64) (.pair (.int .i64) (.int .i64)))) deeds),(7,.bp 32000 0),(9,.bp 50000 0),(10,.bp 53000 0),(11,.int .i64 st2.2.2.2.2.2.2.2.2.2),(12,.bp 12 0),(13,.int .i64 v0_18.1),(14,.int .i64 v0_18.2.1),(81,.bool true),(85,.cv (undef))] [(12,.box 33 [.int .i64 (deeds.getD st2.2.2.2.2.2.2.2.2.2.toNat (0,0,0,0)).1,.int .i64 (deeds.getD st2.2.2.2.2.2.2.2.2.2.toNat (0,0,0,0)).2.1,.int .i64 (deeds.getD st2.2.2.2.2.2.2.2.2.2.toNat (0,0,0,0)).2.2.1,.int .i64 (deeds.getD st2.2.2.2.2.2.2.2.2.2.toNat (0,0,0,0)).2.2.2]),(32000,.box 71 (.int .i64 threads::(.int .i64 size::(cellsX T63 v0_18.2.2.1++(cellsX T65 v0_18.2.2.2.1++(cellsX T69 v0_18.2.2.2.2)))))),(50000,.box 71 (.int .i64 threads::(.int .i64 size::(cellsX T63 st2.2.2.2.1++(cellsX T65 st2.2.2.2.2.1++(cellsX T69 st2.2.2.2.2.2.1)))))),(53000,.box 77 (.int .i64 threads::(.int .i64 size::(cellsX T66 v0_19.2.2.1++(.own 53001::(.own 53002::[])))))),(53001,.arr 64 (.pair (.int .i64) (.int .i64)) v0_19.2.2.2.1),(53002,.arr 45 (.sl (.int .i64)) v0_19.2.2.2.2)] ?_
          refine zB [(2,.sl (.pair (.int .i64) (.pair (.int .i64) (.pair (.int .i64) (.int .i64)))) deeds),(7,.bp 32000 0),(9,.bp 50000 0),(10,.bp 53000 0),(11,.int .i64 st2.2.2.2.2.2.2.2.2.2),(12,.bp 12 0),(13,.int .i64 v0_18.1),(14,.int .i64 v0_18.2.1),(86,.bool true)] [(12,.box 33 [.int .i64 (deeds.getD st2.2.2.2.2.2.2.2.2.2.toNat (0,0,0,0)).1,.int .i64 (deeds.getD st2.2.2.2.2.2.2.2.2.2.toNat (0,0,0,0)).2.1,.int .i64 (deeds.getD st2.2.2.2.2.2.2.2.2.2.toNat (0,0,0,0)).2.2.1,.int .i64 (deeds.getD st2.2.2.2.2.2.2.2.2.2.toNat (0,0,0,0)).2.2.2]),(32000,.box 71 (.int .i64 threads::(.int .i64 size::(cellsX T63 v0_18.2.2.1++(cellsX T65 v0_18.2.2.2.1++(cellsX T69 v0_18.2.2.2.2)))))),(50000,.box 71 (.int .i64 threads::(.int .i64 size::(cellsX T63 st2.2.2.2.1++(cellsX T65 st2.2.2.2.2.1++(cellsX T69 st2.2.2.2.2.2.1)))))),(53000,.box 77 (.int .i64 threads::(.int .i64 size::(cellsX T66 v0_19.2.2.1++(.own 53001::(.own 53002::[])))))),(53001,.arr 64 (.pair (.int .i64) (.int .i64)) v0_19.2.2.2.1),(53002,.arr 45 (.sl (.int .i64)) v0_19.2.2.2.2)] ?_
          refine AW.cond (b:=true) rfl (fun _=>?_) (fun hb51=>by cases hb51)
          refine zo ?_
          refine zB [(6,.bool false)] [] ?_
          refine zr ?_
          refine ablock_r ?_
          refine athen_r ?_
          obtain rfl:=Option.some.inj h
          try rw [← hd40 _ rfl] at ho39
          have h:=ho39
          try simp only at h
          refine athen_r ?_
          refine ablock_r ?_
          refine athen_r ?_
          obtain rfl:=Option.some.inj h
          exact zR [] [] []
         ·refine zS 2 [(2,.sl (.pair (.int .i64) (.pair (.int .i64) (.pair (.int .i64) (.int .i64)))) deeds),(7,.bp 32000 0),(9,.bp 50000 0),(10,.bp 53000 0),(11,.int .i64 st2.2.2.2.2.2.2.2.2.2),(12,.bp 12 0),(13,.int .i64 v0_18.1),(14,.int .i64 v0_18.2.1),(81,.bool false),(82,.bp 32000 0),(83,.bp 53000 0)] [(12,.box 33 [.int .i64 (deeds.getD st2.2.2.2.2.2.2.2.2.2.toNat (0,0,0,0)).1,.int .i64 (deeds.getD st2.2.2.2.2.2.2.2.2.2.toNat (0,0,0,0)).2.1,.int .i64 (deeds.getD st2.2.2.2.2.2.2.2.2.2.toNat (0,0,0,0)).2.2.1,.int .i64 (deeds.getD st2.2.2.2.2.2.2.2.2.2.toNat (0,0,0,0)).2.2.2]),(32000,.box 71 (.int .i64 threads::(.int .i64 size::(cellsX T63 v0_18.2.2.1++(cellsX T65 v0_18.2.2.2.1++(cellsX T69 v0_18.2.2.2.2)))))),(50000,.box 71 (.int .i64 threads::(.int .i64 size::(cellsX T63 st2.2.2.2.1++(cellsX T65 st2.2.2.2.2.1++(cellsX T69 st2.2.2.2.2.2.1)))))),(53000,.box 77 (.int .i64 threads::(.int .i64 size::(cellsX T66 v0_19.2.2.1++(.own 53001::(.own 53002::[])))))),(53001,.arr 64 (.pair (.int .i64) (.int .i64)) v0_19.2.2.2.1),(53002,.arr 45 (.sl (.int .i64)) v0_19.2.2.2.2)] ?_
          obtain ⟨v0_20,hv52,h⟩:=Option.bind_eq_some_iff.1 h
          refine zG [] [(1000,32000),(1001,53000),(1002,53001),(1003,53002)] (hc_lineallaw06_Is (threads,size,v0_18.2.2) threads size v0_19.2.2.1 v0_19.2.2.2.1 v0_19.2.2.2.2 hv52) [(2,.sl (.pair (.int .i64) (.pair (.int .i64) (.pair (.int .i64) (.int .i64)))) deeds),(7,.bp 32000 0),(9,.bp 50000 0),(10,.bp 53000 0),(11,.int .i64 st2.2.2.2.2.2.2.2.2.2),(12,.bp 12 0),(13,.int .i64 v0_18.1),(14,.int .i64 v0_18.2.1),(81,.bool false),(84,.bool v0_20)] [(12,.box 33 [.int .i64 (deeds.getD st2.2.2.2.2.2.2.2.2.2.toNat (0,0,0,0)).1,.int .i64 (deeds.getD st2.2.2.2.2.2.2.2.2.2.toNat (0,0,0,0)).2.1,.int .i64 (deeds.getD st2.2.2.2.2.2.2.2.2.2.toNat (0,0,0,0)).2.2.1,.int .i64 (deeds.getD st2.2.2.2.2.2.2.2.2.2.toNat (0,0,0,0)).2.2.2]),(32000,.box 71 (.int .i64 threads::(.int .i64 size::(cellsX T63 v0_18.2.2.1++(cellsX T65 v0_18.2.2.2.1++(cellsX T69 v0_18.2.2.2.2)))))),(50000,.box 71 (.int .i64 threads::(.int .i64 size::(cellsX T63 st2.2.2.2.1++(cellsX T65 st2.2.2.2.2.1++(cellsX T69 st2.2.2.2.2.2.1)))))),(53000,.box 77 (.int .i64 threads::(.int .i64 size::(cellsX T66 v0_19.2.2.1++(.own 53001::(.own 53002::[])))))),(53001,.arr 64 (.pair (.int .i64) (.int .i64)) v0_19.2.2.2.1),(53002,.arr 45 (.sl (.int .i64)) v0_19.2.2.2.2)] ?_
          refine zB [(2,.sl (.pair (.int .i64) (.pair (.int .i64) (.pair (.int .i64) (.int .i64)))) deeds),(7,.bp 32000 0),(9,.bp 50000 0),(10,.bp 53000 0),(11,.int .i64 st2.2.2.2.2.2.2.2.2.2),(12,.bp 12 0),(13,.int .i64 v0_18.1),(14,.int .i64 v0_18.2.1),(86,.bool (!v0_20))] [(12,.box 33 [.int .i64 (deeds.getD st2.2.2.2.2.2.2.2.2.2.toNat (0,0,0,0)).1,.int .i64 (deeds.getD st2.2.2.2.2.2.2.2.2.2.toNat (0,0,0,0)).2.1,.int .i64 (deeds.getD st2.2.2.2.2.2.2.2.2.2.toNat (0,0,0,0)).2.2.1,.int .i64 (deeds.getD st2.2.2.2.2.2.2.2.2.2.toNat (0,0,0,0)).2.2.2]),(32000,.box 71 (.int .i64 threads::(.int .i64 size::(cellsX T63 v0_18.2.2.1++(cellsX T65 v0_18.2.2.2.1++(cellsX T69 v0_18.2.2.2.2)))))),(50000,.box 71 (.int .i64 threads::(.int .i64 size::(cellsX T63 st2.2.2.2.1++(cellsX T65 st2.2.2.2.2.1++(cellsX T69 st2.2.2.2.2.2.1)))))),(53000,.box 77 (.int .i64 threads::(.int .i64 size::(cellsX T66 v0_19.2.2.1++(.own 53001::(.own 53002::[])))))),(53001,.arr 64 (.pair (.int .i64) (.int .i64)) v0_19.2.2.2.1),(53002,.arr 45 (.sl (.int .i64)) v0_19.2.2.2.2)] ?_
          refine zQ h (fun hb53 h=>?_) (fun hb53 h=>?_)
          ·refine zo ?_
           refine zB [(6,.bool false)] [] ?_
           refine zr ?_
           refine ablock_r ?_
           refine athen_r ?_
           obtain rfl:=Option.some.inj h
           try rw [← hd40 _ rfl] at ho39
           have h:=ho39
           try simp only at h
           refine athen_r ?_
           refine ablock_r ?_
           refine athen_r ?_
           obtain rfl:=Option.some.inj h
           exact zR [] [] []
          ·refine zk ?_
           refine zo ?_
           refine zB [(2,.sl (.pair (.int .i64) (.pair (.int .i64) (.pair (.int .i64) (.int .i64)))) deeds),(7,.bp 32000 0),(9,.bp 50000 0),(10,.bp 53000 0),(11,.int .i64 st2.2.2.2.2.2.2.2.2.2),(12,.bp 12 0),(13,.int .i64 v0_18.1),(88,.bool (decide (v0_18.2.1=0)))] [(12,.box 33 [.int .i64 (deeds.getD st2.2.2.2.2.2.2.2.2.2.toNat (0,0,0,0)).1,.int .i64 (deeds.getD st2.2.2.2.2.2.2.2.2.2.toNat (0,0,0,0)).2.1,.int .i64 (deeds.getD st2.2.2.2.2.2.2.2.2.2.toNat (0,0,0,0)).2.2.1,.int .i64 (deeds.getD st2.2.2.2.2.2.2.2.2.2.toNat (0,0,0,0)).2.2.2]),(32000,.box 71 (.int .i64 threads::(.int .i64 size::(cellsX T63 v0_18.2.2.1++(cellsX T65 v0_18.2.2.2.1++(cellsX T69 v0_18.2.2.2.2)))))),(50000,.box 71 (.int .i64 threads::(.int .i64 size::(cellsX T63 st2.2.2.2.1++(cellsX T65 st2.2.2.2.2.1++(cellsX T69 st2.2.2.2.2.2.1)))))),(53000,.box 77 (.int .i64 threads::(.int .i64 size::(cellsX T66 v0_19.2.2.1++(.own 53001::(.own 53002::[])))))),(53001,.arr 64 (.pair (.int .i64) (.int .i64)) v0_19.2.2.2.1),(53002,.arr 45 (.sl (.int .i64)) v0_19.2.2.2.2)] ?_
           refine zQ h (fun hb54 h=>?_) (fun hb54 h=>?_)
           ·refine zo ?_
            refine zS 2 [(2,.sl (.pair (.int .i64) (.pair (.int .i64) (.pair (.int .i64) (.int .i64)))) deeds),(7,.bp 32000 0),(9,.bp 50000 0),(10,.bp 53000 0),(11,.int .i64 st2.2.2.2.2.2.2.2.2.2),(13,.int .i64 v0_18.1),(90,.bp 50000 0),(91,.agg [.int .i64 (deeds.getD st2.2.2.2.2.2.2.2.2.2.toNat (0,0,0,0)).1,.int .i64 (deeds.getD st2.2.2.2.2.2.2.2.2.2.toNat (0,0,0,0)).2.1,.int .i64 (deeds.getD st2.2.2.2.2.2.2.2.2.2.toNat (0,0,0,0)).2.2.1,.int .i64 (deeds.getD st2.2.2.2.2.2.2.2.2.2.toNat (0,0,0,0)).2.2.2])] [(32000,.box 71 (.int .i64 threads::(.int .i64 size::(cellsX T63 v0_18.2.2.1++(cellsX T65 v0_18.2.2.2.1++(cellsX T69 v0_18.2.2.2.2)))))),(50000,.box 71 (.int .i64 threads::(.int .i64 size::(cellsX T63 st2.2.2.2.1++(cellsX T65 st2.2.2.2.2.1++(cellsX T69 st2.2.2.2.2.2.1)))))),(53000,.box 77 (.int .i64 threads::(.int .i64 size::(cellsX T66 v0_19.2.2.1++(.own 53001::(.own 53002::[])))))),(53001,.arr 64 (.pair (.int .i64) (.int .i64)) v0_19.2.2.2.1),(53002,.arr 45 (.sl (.int .i64)) v0_19.2.2.2.2)] ?_
            obtain ⟨v0_21,hv55,h⟩:=Option.bind_eq_some_iff.1 h
            refine zC [] [(1000,50000)] (hc_lineallaw06_called_2 (deeds.getD st2.2.2.2.2.2.2.2.2.2.toNat (0,0,0,0)) (threads,size,st2.2.2.2.1,st2.2.2.2.2.1,st2.2.2.2.2.2.1) hv55) [(2,.sl (.pair (.int .i64) (.pair (.int .i64) (.pair (.int .i64) (.int .i64)))) deeds),(7,.bp 32000 0),(9,.bp 50000 0),(10,.bp 53000 0),(11,.int .i64 st2.2.2.2.2.2.2.2.2.2),(13,.int .i64 v0_18.1),(92,.tup [.int .i64 v0_21.1,.int .i64 v0_21.2.1])] [(32000,.box 71 (.int .i64 threads::(.int .i64 size::(cellsX T63 v0_18.2.2.1++(cellsX T65 v0_18.2.2.2.1++(cellsX T69 v0_18.2.2.2.2)))))),(50000,.box 71 (.int .i64 threads::(.int .i64 size::(cellsX T63 v0_21.2.2.1++(cellsX T65 v0_21.2.2.2.1++(cellsX T69 v0_21.2.2.2.2)))))),(53000,.box 77 (.int .i64 threads::(.int .i64 size::(cellsX T66 v0_19.2.2.1++(.own 53001::(.own 53002::[])))))),(53001,.arr 64 (.pair (.int .i64) (.int .i64)) v0_19.2.2.2.1),(53002,.arr 45 (.sl (.int .i64)) v0_19.2.2.2.2)] ?_
            refine zB [(2,.sl (.pair (.int .i64) (.pair (.int .i64) (.pair (.int .i64) (.int .i64)))) deeds),(7,.bp 32000 0),(9,.bp 50000 0),(10,.bp 53000 0),(11,.int .i64 st2.2.2.2.2.2.2.2.2.2),(13,.int .i64 v0_18.1),(17,.int .i64 v0_21.1),(18,.int .i64 v0_21.2.1)] [(32000,.box 71 (.int .i64 threads::(.int .i64 size::(cellsX T63 v0_18.2.2.1++(cellsX T65 v0_18.2.2.2.1++(cellsX T69 v0_18.2.2.2.2)))))),(50000,.box 71 (.int .i64 threads::(.int .i64 size::(cellsX T63 v0_21.2.2.1++(cellsX T65 v0_21.2.2.2.1++(cellsX T69 v0_21.2.2.2.2)))))),(53000,.box 77 (.int .i64 threads::(.int .i64 size::(cellsX T66 v0_19.2.2.1++(.own 53001::(.own 53002::[])))))),(53001,.arr 64 (.pair (.int .i64) (.int .i64)) v0_19.2.2.2.1),(53002,.arr 45 (.sl (.int .i64)) v0_19.2.2.2.2)] ?_
            refine zo ?_
            refine zS 4 [(2,.sl (.pair (.int .i64) (.pair (.int .i64) (.pair (.int .i64) (.int .i64)))) deeds),(7,.bp 32000 0),(9,.bp 50000 0),(10,.bp 53000 0),(11,.int .i64 st2.2.2.2.2.2.2.2.2.2),(18,.int .i64 v0_21.2.1),(98,.bool (!(decide (v0_21.1=v0_18.1))))] [(32000,.box 71 (.int .i64 threads::(.int .i64 size::(cellsX T63 v0_18.2.2.1++(cellsX T65 v0_18.2.2.2.1++(cellsX T69 v0_18.2.2.2.2)))))),(50000,.box 71 (.int .i64 threads::(.int .i64 size::(cellsX T63 v0_21.2.2.1++(cellsX T65 v0_21.2.2.2.1++(cellsX T69 v0_21.2.2.2.2)))))),(53000,.box 77 (.int .i64 threads::(.int .i64 size::(cellsX T66 v0_19.2.2.1++(.own 53001::(.own 53002::[])))))),(53001,.arr 64 (.pair (.int .i64) (.int .i64)) v0_19.2.2.2.1),(53002,.arr 45 (.sl (.int .i64)) v0_19.2.2.2.2)] ?_
            rcases zI h with ⟨hb56,h⟩|⟨hb56,h⟩
            ·refine zS 5 [(2,.sl (.pair (.int .i64) (.pair (.int .i64) (.pair (.int .i64) (.int .i64)))) deeds),(7,.bp 32000 0),(9,.bp 50000 0),(10,.bp 53000 0),(11,.int .i64 st2.2.2.2.2.2.2.2.2.2),(102,.bool true),(103,.cv (undef))] [(32000,.box 71 (.int .i64 threads::(.int .i64 size::(cellsX T63 v0_18.2.2.1++(cellsX T65 v0_18.2.2.2.1++(cellsX T69 v0_18.2.2.2.2)))))),(50000,.box 71 (.int .i64 threads::(.int .i64 size::(cellsX T63 v0_21.2.2.1++(cellsX T65 v0_21.2.2.2.1++(cellsX T69 v0_21.2.2.2.2)))))),(53000,.box 77 (.int .i64 threads::(.int .i64 size::(cellsX T66 v0_19.2.2.1++(.own 53001::(.own 53002::[])))))),(53001,.arr 64 (.pair (.int .i64) (.int .i64)) v0_19.2.2.2.1),(53002,.arr 45 (.sl (.int .i64)) v0_19.2.2.2.2)] ?_
             refine zB [(2,.sl (.pair (.int .i64) (.pair (.int .i64) (.pair (.int .i64) (.int .i64)))) deeds),(7,.bp 32000 0),(9,.bp 50000 0),(10,.bp 53000 0),(11,.int .i64 st2.2.2.2.2.2.2.2.2.2),(107,.bool true)] [(32000,.box 71 (.int .i64 threads::(.int .i64 size::(cellsX T63 v0_18.2.2.1++(cellsX T65 v0_18.2.2.2.1++(cellsX T69 v0_18.2.2.2.2)))))),(50000,.box 71 (.int .i64 threads::(.int .i64 size::(cellsX T63 v0_21.2.2.1++(cellsX T65 v0_21.2.2.2.1++(cellsX T69 v0_21.2.2.2.2)))))),(53000,.box 77 (.int .i64 threads::(.int .i64 size::(cellsX T66 v0_19.2.2.1++(.own 53001::(.own 53002::[])))))),(53001,.arr 64 (.pair (.int .i64) (.int .i64)) v0_19.2.2.2.1),(53002,.arr 45 (.sl (.int .i64)) v0_19.2.2.2.2)] ?_
             refine AW.cond (b:=true) rfl (fun _=>?_) (fun hb57=>by cases hb57)
             refine zo ?_
             refine zB [(6,.bool false)] [] ?_
             refine AW.ret ?_
             refine ablock_r ?_
             refine athen_r ?_
             obtain rfl:=Option.some.inj h
             try rw [← hd40 _ rfl] at ho39
             have h:=ho39
             try simp only at h
             refine athen_r ?_
             refine ablock_r ?_
             refine athen_r ?_
             obtain rfl:=Option.some.inj h
             exact zR [] [] []
            ·refine zS 4 [(2,.sl (.pair (.int .i64) (.pair (.int .i64) (.pair (.int .i64) (.int .i64)))) deeds),(7,.bp 32000 0),(9,.bp 50000 0),(10,.bp 53000 0),(11,.int .i64 st2.2.2.2.2.2.2.2.2.2),(102,.bool (!(decide (v0_21.2.1=0))))] [(32000,.box 71 (.int .i64 threads::(.int .i64 size::(cellsX T63 v0_18.2.2.1++(cellsX T65 v0_18.2.2.2.1++(cellsX T69 v0_18.2.2.2.2)))))),(50000,.box 71 (.int .i64 threads::(.int .i64 size::(cellsX T63 v0_21.2.2.1++(cellsX T65 v0_21.2.2.2.1++(cellsX T69 v0_21.2.2.2.2)))))),(53000,.box 77 (.int .i64 threads::(.int .i64 size::(cellsX T66 v0_19.2.2.1++(.own 53001::(.own 53002::[])))))),(53001,.arr 64 (.pair (.int .i64) (.int .i64)) v0_19.2.2.2.1),(53002,.arr 45 (.sl (.int .i64)) v0_19.2.2.2.2)] ?_
             rcases zI h with ⟨hb58,h⟩|⟨hb58,h⟩
             ·refine zS 4 [(2,.sl (.pair (.int .i64) (.pair (.int .i64) (.pair (.int .i64) (.int .i64)))) deeds),(7,.bp 32000 0),(9,.bp 50000 0),(10,.bp 53000 0),(11,.int .i64 st2.2.2.2.2.2.2.2.2.2),(102,.bool true),(106,.cv (undef))] [(32000,.box 71 (.int .i64 threads::(.int .i64 size::(cellsX T63 v0_18.2.2.1++(cellsX T65 v0_18.2.2.2.1++(cellsX T69 v0_18.2.2.2.2)))))),(50000,.box 71 (.int .i64 threads::(.int .i64 size::(cellsX T63 v0_21.2.2.1++(cellsX T65 v0_21.2.2.2.1++(cellsX T69 v0_21.2.2.2.2)))))),(53000,.box 77 (.int .i64 threads::(.int .i64 size::(cellsX T66 v0_19.2.2.1++(.own 53001::(.own 53002::[])))))),(53001,.arr 64 (.pair (.int .i64) (.int .i64)) v0_19.2.2.2.1),(53002,.arr 45 (.sl (.int .i64)) v0_19.2.2.2.2)] ?_
              refine zB [(2,.sl (.pair (.int .i64) (.pair (.int .i64) (.pair (.int .i64) (.int .i64)))) deeds),(7,.bp 32000 0),(9,.bp 50000 0),(10,.bp 53000 0),(11,.int .i64 st2.2.2.2.2.2.2.2.2.2),(107,.bool true)] [(32000,.box 71 (.int .i64 threads::(.int .i64 size::(cellsX T63 v0_18.2.2.1++(cellsX T65 v0_18.2.2.2.1++(cellsX T69 v0_18.2.2.2.2)))))),(50000,.box 71 (.int .i64 threads::(.int .i64 size::(cellsX T63 v0_21.2.2.1++(cellsX T65 v0_21.2.2.2.1++(cellsX T69 v0_21.2.2.2.2)))))),(53000,.box 77 (.int .i64 threads::(.int .i64 size::(cellsX T66 v0_19.2.2.1++(.own 53001::(.own 53002::[])))))),(53001,.arr 64 (.pair (.int .i64) (.int .i64)) v0_19.2.2.2.1),(53002,.arr 45 (.sl (.int .i64)) v0_19.2.2.2.2)] ?_
              refine AW.cond (b:=true) rfl (fun _=>?_) (fun hb59=>by cases hb59)
              refine zo ?_
              refine zB [(6,.bool false)] [] ?_
              refine AW.ret ?_
              refine ablock_r ?_
              refine athen_r ?_
              obtain rfl:=Option.some.inj h
              try rw [← hd40 _ rfl] at ho39
              have h:=ho39
              try simp only at h
              refine athen_r ?_
              refine ablock_r ?_
              refine athen_r ?_
              obtain rfl:=Option.some.inj h
              exact zR [] [] []
             ·refine zS 2 [(2,.sl (.pair (.int .i64) (.pair (.int .i64) (.pair (.int .i64) (.int .i64)))) deeds),(7,.bp 32000 0),(9,.bp 50000 0),(10,.bp 53000 0),(11,.int .i64 st2.2.2.2.2.2.2.2.2.2),(102,.bool false),(103,.bp 32000 0),(104,.bp 50000 0)] [(32000,.box 71 (.int .i64 threads::(.int .i64 size::(cellsX T63 v0_18.2.2.1++(cellsX T65 v0_18.2.2.2.1++(cellsX T69 v0_18.2.2.2.2)))))),(50000,.box 71 (.int .i64 threads::(.int .i64 size::(cellsX T63 v0_21.2.2.1++(cellsX T65 v0_21.2.2.2.1++(cellsX T69 v0_21.2.2.2.2)))))),(53000,.box 77 (.int .i64 threads::(.int .i64 size::(cellsX T66 v0_19.2.2.1++(.own 53001::(.own 53002::[])))))),(53001,.arr 64 (.pair (.int .i64) (.int .i64)) v0_19.2.2.2.1),(53002,.arr 45 (.sl (.int .i64)) v0_19.2.2.2.2)] ?_
              obtain ⟨v0_22,hv60,h⟩:=Option.bind_eq_some_iff.1 h
              refine zG [] [(1000,32000),(1001,50000)] (hc_hazard_Same (threads,size,v0_18.2.2) (threads,size,v0_21.2.2) hv60) [(2,.sl (.pair (.int .i64) (.pair (.int .i64) (.pair (.int .i64) (.int .i64)))) deeds),(7,.bp 32000 0),(9,.bp 50000 0),(10,.bp 53000 0),(11,.int .i64 st2.2.2.2.2.2.2.2.2.2),(102,.bool false),(105,.bool v0_22)] [(32000,.box 71 (.int .i64 threads::(.int .i64 size::(cellsX T63 v0_18.2.2.1++(cellsX T65 v0_18.2.2.2.1++(cellsX T69 v0_18.2.2.2.2)))))),(50000,.box 71 (.int .i64 threads::(.int .i64 size::(cellsX T63 v0_21.2.2.1++(cellsX T65 v0_21.2.2.2.1++(cellsX T69 v0_21.2.2.2.2)))))),(53000,.box 77 (.int .i64 threads::(.int .i64 size::(cellsX T66 v0_19.2.2.1++(.own 53001::(.own 53002::[])))))),(53001,.arr 64 (.pair (.int .i64) (.int .i64)) v0_19.2.2.2.1),(53002,.arr 45 (.sl (.int .i64)) v0_19.2.2.2.2)] ?_
              refine zB [(2,.sl (.pair (.int .i64) (.pair (.int .i64) (.pair (.int .i64) (.int .i64)))) deeds),(7,.bp 32000 0),(9,.bp 50000 0),(10,.bp 53000 0),(11,.int .i64 st2.2.2.2.2.2.2.2.2.2),(107,.bool (!v0_22))] [(32000,.box 71 (.int .i64 threads::(.int .i64 size::(cellsX T63 v0_18.2.2.1++(cellsX T65 v0_18.2.2.2.1++(cellsX T69 v0_18.2.2.2.2)))))),(50000,.box 71 (.int .i64 threads::(.int .i64 size::(cellsX T63 v0_21.2.2.1++(cellsX T65 v0_21.2.2.2.1++(cellsX T69 v0_21.2.2.2.2)))))),(53000,.box 77 (.int .i64 threads::(.int .i64 size::(cellsX T66 v0_19.2.2.1++(.own 53001::(.own 53002::[])))))),(53001,.arr 64 (.pair (.int .i64) (.int .i64)) v0_19.2.2.2.1),(53002,.arr 45 (.sl (.int .i64)) v0_19.2.2.2.2)] ?_
              refine zQ h (fun hb61 h=>?_) (fun hb61 h=>?_)
              ·refine zo ?_
               refine zB [(6,.bool false)] [] ?_
               refine AW.ret ?_
               refine ablock_r ?_
               refine athen_r ?_
               obtain rfl:=Option.some.inj h
               try rw [← hd40 _ rfl] at ho39
               have h:=ho39
               try simp only at h
               refine athen_r ?_
               refine ablock_r ?_
               refine athen_r ?_
               obtain rfl:=Option.some.inj h
               exact zR [] [] []
              ·refine zm ?_
               refine athen_n ?_
               refine AW.ops ?_
               obtain ⟨c62,h⟩:=ck_some.1 h
               refine zA [(2,.sl (.pair (.int .i64) (.pair (.int .i64) (.pair (.int .i64) (.int .i64)))) deeds),(7,.bp 32000 0),(9,.bp 50000 0),(10,.bp 53000 0),(11,.int .i64 (st2.2.2.2.2.2.2.2.2.2+1))] [(32000,.box 71 (.int .i64 threads::(.int .i64 size::(cellsX T63 v0_18.2.2.1++(cellsX T65 v0_18.2.2.2.1++(cellsX T69 v0_18.2.2.2.2)))))),(50000,.box 71 (.int .i64 threads::(.int .i64 size::(cellsX T63 v0_21.2.2.1++(cellsX T65 v0_21.2.2.2.1++(cellsX T69 v0_21.2.2.2.2)))))),(53000,.box 77 (.int .i64 threads::(.int .i64 size::(cellsX T66 v0_19.2.2.1++(.own 53001::(.own 53002::[])))))),(53001,.arr 64 (.pair (.int .i64) (.int .i64)) v0_19.2.2.2.1),(53002,.arr 45 (.sl (.int .i64)) v0_19.2.2.2.2)] ?_
               obtain rfl:=Option.some.inj h
               exact ⟨_,rfl,zL [] [] []⟩
           ·refine zm ?_
            refine athen_n ?_
            refine AW.ops ?_
            obtain ⟨c63,h⟩:=ck_some.1 h
            refine zA [(2,.sl (.pair (.int .i64) (.pair (.int .i64) (.pair (.int .i64) (.int .i64)))) deeds),(7,.bp 32000 0),(9,.bp 50000 0),(10,.bp 53000 0),(11,.int .i64 (st2.2.2.2.2.2.2.2.2.2+1))] [(32000,.box 71 (.int .i64 threads::(.int .i64 size::(cellsX T63 v0_18.2.2.1++(cellsX T65 v0_18.2.2.2.1++(cellsX T69 v0_18.2.2.2.2)))))),(50000,.box 71 (.int .i64 threads::(.int .i64 size::(cellsX T63 st2.2.2.2.1++(cellsX T65 st2.2.2.2.2.1++(cellsX T69 st2.2.2.2.2.2.1)))))),(53000,.box 77 (.int .i64 threads::(.int .i64 size::(cellsX T66 v0_19.2.2.1++(.own 53001::(.own 53002::[])))))),(53001,.arr 64 (.pair (.int .i64) (.int .i64)) v0_19.2.2.2.1),(53002,.arr 45 (.sl (.int .i64)) v0_19.2.2.2.2)] ?_
            obtain rfl:=Option.some.inj h
            exact ⟨_,rfl,zL [] [] []⟩
       ·refine AW.exit ?_
        refine athen_e ?_
        obtain rfl:=Option.some.inj h
        try rw [← hd40 _ rfl] at ho39
        have h:=ho39
        try simp only at h
        refine athen_e ?_
        refine ablock_s ?_
        refine athen_n ?_
        exact AW.weaken (zL [] [] []) (hk_lineallaw06_HazardDeeds_k2 () h)
end Go.Proofs.YtcckpmeepcoafaaDoor
