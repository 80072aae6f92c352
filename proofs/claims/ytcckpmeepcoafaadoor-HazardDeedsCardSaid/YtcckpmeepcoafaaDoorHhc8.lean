import Derived.Test.YtcckpmeepcoafaaDoorHzp
import Derived.Test.YtcckpmeepcoafaaDoorShz
import Derived.Test.YtcckpmeepcoafaaDoorHhc1
import Derived.Test.YtcckpmeepcoafaaDoorHhc2
import Derived.Test.YtcckpmeepcoafaaDoorHhc3
import Derived.Test.YtcckpmeepcoafaaDoorHhc4
import Derived.Test.YtcckpmeepcoafaaDoorHhc7
namespace Go.Proofs.YtcckpmeepcoafaaDoor
open Go.RowKit
set_option linter.unusedSimpArgs false
set_option linter.unusedVariables false
set_option linter.constructorNameAsVariable false
set_option maxRecDepth 100000
set_option maxHeartbeats 40000000
theorem hc_hazard_Yard_Slot (thread:Int) (slot:Int) (y:Int×Int×(El T63)×(El T65)×(El T69)) {r:Int×Int} (h:hazard_Yard_Slot thread slot y=some r):HC Tryd.prog 27 [(1000,.box 71 (.int .i64 y.1::(.int .i64 y.2.1::(cellsX T63 y.2.2.1++(cellsX T65 y.2.2.2.1++(cellsX T69 y.2.2.2.2))))))] [.bp 1000 0,.int .i64 thread,.int .i64 slot] [(1000,.box 71 (.int .i64 y.1::(.int .i64 y.2.1::(cellsX T63 y.2.2.1++(cellsX T65 y.2.2.2.1++(cellsX T69 y.2.2.2.2))))))] (.tup [.int .i64 r.1,.int .i64 r.2]):=by
 unfold hazard_Yard_Slot at h
 refine zH Tryd.func27 [.tmp 6,.tmp 7] 27 ?_
 refine zo ?_
 refine zB [(0,.bp 1000 0),(1,.int .i64 thread),(2,.int .i64 slot)] [(1000,.box 71 (.int .i64 y.1::(.int .i64 y.2.1::(cellsX T63 y.2.2.1++(cellsX T65 y.2.2.2.1++(cellsX T69 y.2.2.2.2))))))] ?_
 refine AW.seq ?_
 refine zo ?_
 refine zS 2 [(0,.bp 1000 0),(1,.int .i64 thread),(2,.int .i64 slot),(9,.bp 1000 0),(10,.int .i64 thread)] [(1000,.box 71 (.int .i64 y.1::(.int .i64 y.2.1::(cellsX T63 y.2.2.1++(cellsX T65 y.2.2.2.1++(cellsX T69 y.2.2.2.2))))))] ?_
 obtain ⟨v0,hv1,h⟩:=Option.bind_eq_some_iff.1 h
 refine zC [] [] (hc_hazard_isThread thread hv1) [(0,.bp 1000 0),(1,.int .i64 thread),(2,.int .i64 slot),(9,.bp 1000 0),(11,.agg [.fn (.func 72) [] [.dp (.int .i64) thread 0],.int .i64 2])] [(1000,.box 71 (.int .i64 y.1::(.int .i64 y.2.1::(cellsX T63 y.2.2.1++(cellsX T65 y.2.2.2.1++(cellsX T69 y.2.2.2.2))))))] ?_
 refine zS 1 [(0,.bp 1000 0),(1,.int .i64 thread),(2,.int .i64 slot),(9,.bp 1000 0),(11,.agg [.fn (.func 72) [] [.dp (.int .i64) thread 0],.int .i64 2]),(12,.int .i64 slot)] [(1000,.box 71 (.int .i64 y.1::(.int .i64 y.2.1::(cellsX T63 y.2.2.1++(cellsX T65 y.2.2.2.1++(cellsX T69 y.2.2.2.2))))))] ?_
 obtain ⟨v0_2,hv2,h⟩:=Option.bind_eq_some_iff.1 h
 refine zC [] [] (hc_hazard_isSlot slot hv2) [(0,.bp 1000 0),(1,.int .i64 thread),(2,.int .i64 slot),(9,.bp 1000 0),(11,.agg [.fn (.func 72) [] [.dp (.int .i64) thread 0],.int .i64 2]),(13,.agg [.fn (.func 74) [] [.dp (.int .i64) slot 0],.int .i64 2])] [(1000,.box 71 (.int .i64 y.1::(.int .i64 y.2.1::(cellsX T63 y.2.2.1++(cellsX T65 y.2.2.2.1++(cellsX T69 y.2.2.2.2))))))] ?_
 refine AO.buildBox tab_ok rfl (by decide) (by decide) rfl rfl tab_92 rfl tab_81 (by decide) (by decide) rfl (by decide) (cs:=[.fn (.func 72) [] [.dp (.int .i64) thread 0],.int .i64 2,.fn (.func 74) [] [.dp (.int .i64) slot 0],.int .i64 2]) rfl rfl rfl ?_
 refine zT [(0,.bp 1000 0),(1,.int .i64 thread),(2,.int .i64 slot),(9,.bp 1000 0),(14,.vw 14 2 0 2)] [(14,.box 81 [.fn (.func 72) [] [.dp (.int .i64) thread 0],.int .i64 2,.fn (.func 74) [] [.dp (.int .i64) slot 0],.int .i64 2]),(1000,.box 71 (.int .i64 y.1::(.int .i64 y.2.1::(cellsX T63 y.2.2.1++(cellsX T65 y.2.2.2.1++(cellsX T69 y.2.2.2.2))))))] gt ?_
 obtain ⟨v0_3,hv3,h⟩:=Option.bind_eq_some_iff.1 h
 refine zC [] [(1000,1000),(1001,14)] (hc_hazard_Yard_fails_4 y thread 2 slot 2 hv3) [(0,.bp 1000 0),(1,.int .i64 thread),(2,.int .i64 slot),(15,.int .i64 v0_3)] [(1000,.box 71 (.int .i64 y.1::(.int .i64 y.2.1::(cellsX T63 y.2.2.1++(cellsX T65 y.2.2.2.1++(cellsX T69 y.2.2.2.2))))))] ?_
 refine zB [(0,.bp 1000 0),(1,.int .i64 thread),(2,.int .i64 slot),(8,.int .i64 v0_3)] [(1000,.box 71 (.int .i64 y.1::(.int .i64 y.2.1::(cellsX T63 y.2.2.1++(cellsX T65 y.2.2.2.1++(cellsX T69 y.2.2.2.2))))))] ?_
 refine zo ?_
 refine zB [(0,.bp 1000 0),(1,.int .i64 thread),(2,.int .i64 slot),(8,.int .i64 v0_3),(17,.bool (!(decide (v0_3=0))))] [(1000,.box 71 (.int .i64 y.1::(.int .i64 y.2.1::(cellsX T63 y.2.2.1++(cellsX T65 y.2.2.2.1++(cellsX T69 y.2.2.2.2))))))] ?_
 refine zQ h (fun hb4 h=>?_) (fun hb4 h=>?_)
 ·refine zo ?_
  refine zB [(6,.int .i64 0),(7,.int .i64 v0_3)] [(1000,.box 71 (.int .i64 y.1::(.int .i64 y.2.1::(cellsX T63 y.2.2.1++(cellsX T65 y.2.2.2.1++(cellsX T69 y.2.2.2.2))))))] ?_
  refine zr ?_
  obtain rfl:=Option.some.inj h
  exact zR [] [] []
 ·refine zk ?_
  refine zo ?_
  refine zS 5 [(20,.int .i64 thread),(21,.int .i64 slot),(23,.bp 1000 10)] [(1000,.box 71 (.int .i64 y.1::(.int .i64 y.2.1::(cellsX T63 y.2.2.1++(cellsX T65 y.2.2.2.1++(cellsX T69 y.2.2.2.2))))))] ?_
  obtain ⟨c5,h⟩:=ck_some.1 h
  obtain ⟨c6,h⟩:=ck_some.1 h
  obtain ⟨c7,h⟩:=ck_some.1 h
  obtain ⟨c8,h⟩:=ck_some.1 h
  have hx9:((thread.toNat*2)+slot.toNat*1)<8:=by omega
  refine zB [(6,.int .i64 (intAt T65 y.2.2.2.1 ((thread.toNat*2)+slot.toNat*1))),(7,.int .i64 0)] [(1000,.box 71 (.int .i64 y.1::(.int .i64 y.2.1::(cellsX T63 y.2.2.1++(cellsX T65 y.2.2.2.1++(cellsX T69 y.2.2.2.2))))))] ?_
  refine AW.ret ?_
  obtain rfl:=Option.some.inj h
  exact zR [] [] []
theorem hc_hazard_Yard_List (thread:Int) (y:Int×Int×(El T63)×(El T65)×(El T69)) {r:(List Int)×Int} (h:hazard_Yard_List thread y=some r):HC Tryd.prog 24 [(1000,.box 71 (.int .i64 y.1::(.int .i64 y.2.1::(cellsX T63 y.2.2.1++(cellsX T65 y.2.2.2.1++(cellsX T69 y.2.2.2.2))))))] [.bp 1000 0,.int .i64 thread] [(1000,.box 71 (.int .i64 y.1::(.int .i64 y.2.1::(cellsX T63 y.2.2.1++(cellsX T65 y.2.2.2.1++(cellsX T69 y.2.2.2.2)))))),(2000,.arr 3 (.int .i64) r.1)] (.tup [.own 2000,.int .i64 r.2]):=by
 unfold hazard_Yard_List at h
 refine zH Tryd.func24 [.tmp 4,.tmp 5] 22 ?_
 refine zo ?_
 refine zB [(0,.bp 1000 0),(1,.int .i64 thread)] [(1000,.box 71 (.int .i64 y.1::(.int .i64 y.2.1::(cellsX T63 y.2.2.1++(cellsX T65 y.2.2.2.1++(cellsX T69 y.2.2.2.2))))))] ?_
 refine AW.seq ?_
 refine zo ?_
 refine zS 2 [(0,.bp 1000 0),(1,.int .i64 thread),(7,.bp 1000 0),(8,.int .i64 thread)] [(1000,.box 71 (.int .i64 y.1::(.int .i64 y.2.1::(cellsX T63 y.2.2.1++(cellsX T65 y.2.2.2.1++(cellsX T69 y.2.2.2.2))))))] ?_
 obtain ⟨v0,hv1,h⟩:=Option.bind_eq_some_iff.1 h
 refine zC [] [] (hc_hazard_isThread thread hv1) [(0,.bp 1000 0),(1,.int .i64 thread),(7,.bp 1000 0),(9,.agg [.fn (.func 72) [] [.dp (.int .i64) thread 0],.int .i64 2])] [(1000,.box 71 (.int .i64 y.1::(.int .i64 y.2.1::(cellsX T63 y.2.2.1++(cellsX T65 y.2.2.2.1++(cellsX T69 y.2.2.2.2))))))] ?_
 refine AO.buildBox tab_ok rfl (by decide) (by decide) rfl rfl tab_92 rfl tab_81 (by decide) (by decide) rfl (by decide) (cs:=[.fn (.func 72) [] [.dp (.int .i64) thread 0],.int .i64 2]) rfl rfl rfl ?_
 refine zT [(0,.bp 1000 0),(1,.int .i64 thread),(7,.bp 1000 0),(10,.vw 10 2 0 1)] [(10,.box 81 [.fn (.func 72) [] [.dp (.int .i64) thread 0],.int .i64 2]),(1000,.box 71 (.int .i64 y.1::(.int .i64 y.2.1::(cellsX T63 y.2.2.1++(cellsX T65 y.2.2.2.1++(cellsX T69 y.2.2.2.2))))))] gt ?_
 obtain ⟨v0_2,hv2,h⟩:=Option.bind_eq_some_iff.1 h
 refine zC [] [(1000,1000),(1001,10)] (hc_hazard_Yard_fails_2 y thread 2 hv2) [(0,.bp 1000 0),(1,.int .i64 thread),(11,.int .i64 v0_2)] [(1000,.box 71 (.int .i64 y.1::(.int .i64 y.2.1::(cellsX T63 y.2.2.1++(cellsX T65 y.2.2.2.1++(cellsX T69 y.2.2.2.2))))))] ?_
 refine zB [(0,.bp 1000 0),(1,.int .i64 thread),(6,.int .i64 v0_2)] [(1000,.box 71 (.int .i64 y.1::(.int .i64 y.2.1::(cellsX T63 y.2.2.1++(cellsX T65 y.2.2.2.1++(cellsX T69 y.2.2.2.2))))))] ?_
 refine zo ?_
 refine zB [(0,.bp 1000 0),(1,.int .i64 thread),(6,.int .i64 v0_2),(13,.bool (!(decide (v0_2=0))))] [(1000,.box 71 (.int .i64 y.1::(.int .i64 y.2.1::(cellsX T63 y.2.2.1++(cellsX T65 y.2.2.2.1++(cellsX T69 y.2.2.2.2))))))] ?_
 refine zQ h (fun hb3 h=>?_) (fun hb3 h=>?_)
 ·refine zo ?_
  refine zB [(4,.cv (.slice none 0 0)),(5,.int .i64 v0_2)] [(1000,.box 71 (.int .i64 y.1::(.int .i64 y.2.1::(cellsX T63 y.2.2.1++(cellsX T65 y.2.2.2.1++(cellsX T69 y.2.2.2.2))))))] ?_
  refine zr ?_
  obtain rfl:=Option.some.inj h
  exact zR [] [2000] []
 ·refine zk ?_
  refine zo ?_
  obtain ⟨c4,h⟩:=ck_some.1 h
  obtain ⟨c5,h⟩:=ck_some.1 h
  refine zS 5 [(19,.bp 1000 (18+thread.toNat*9))] [(1000,.box 71 (.int .i64 y.1::(.int .i64 y.2.1::(cellsX T63 y.2.2.1++(cellsX T65 y.2.2.2.1++(cellsX T69 y.2.2.2.2))))))] ?_
  have hx6:((thread.toNat*9)+9)≤36:=by omega
  refine zS 1 [(20,.agg (.int .i64 (intAt T69 y.2.2.2.2 (thread.toNat*9))::(cellsX T66 (subX T69 y.2.2.2.2 T66 ((thread.toNat*9)+1)))))] [(1000,.box 71 (.int .i64 y.1::(.int .i64 y.2.1::(cellsX T63 y.2.2.1++(cellsX T65 y.2.2.2.1++(cellsX T69 y.2.2.2.2))))))] ?_
  obtain ⟨v0_3,hv7,h⟩:=Option.bind_eq_some_iff.1 h
  refine zC [] [] (hc_hazard_list_all ((intAt T69 y.2.2.2.2 (thread.toNat*9)),(subX T69 y.2.2.2.2 T66 ((thread.toNat*9)+1))) hv7) [(21,.own 31000)] [(1000,.box 71 (.int .i64 y.1::(.int .i64 y.2.1::(cellsX T63 y.2.2.1++(cellsX T65 y.2.2.2.1++(cellsX T69 y.2.2.2.2)))))),(31000,.arr 3 (.int .i64) v0_3)] ?_
  refine zB [(4,.own 31000),(5,.int .i64 0)] [(1000,.box 71 (.int .i64 y.1::(.int .i64 y.2.1::(cellsX T63 y.2.2.1++(cellsX T65 y.2.2.2.1++(cellsX T69 y.2.2.2.2)))))),(31000,.arr 3 (.int .i64) v0_3)] ?_
  refine AW.ret ?_
  obtain rfl:=Option.some.inj h
  exact zR [] [] [(2000,31000)]
theorem hc_hazard_Yard_Free (y:Int×Int×(El T63)×(El T65)×(El T69)) {r:Int} (h:hazard_Yard_Free y=some r):HC Tryd.prog 47 [(1000,.box 71 (.int .i64 y.1::(.int .i64 y.2.1::(cellsX T63 y.2.2.1++(cellsX T65 y.2.2.2.1++(cellsX T69 y.2.2.2.2))))))] [.bp 1000 0] [(1000,.box 71 (.int .i64 y.1::(.int .i64 y.2.1::(cellsX T63 y.2.2.1++(cellsX T65 y.2.2.2.1++(cellsX T69 y.2.2.2.2))))))] (.int .i64 r):=by
 unfold hazard_Yard_Free at h
 refine zH Tryd.func47 [.tmp 2] 5 ?_
 refine zo ?_
 refine zB [(0,.bp 1000 0)] [(1000,.box 71 (.int .i64 y.1::(.int .i64 y.2.1::(cellsX T63 y.2.2.1++(cellsX T65 y.2.2.2.1++(cellsX T69 y.2.2.2.2))))))] ?_
 refine zo ?_
 refine zS 1 [(3,.bp 1000 0)] [(1000,.box 71 (.int .i64 y.1::(.int .i64 y.2.1::(cellsX T63 y.2.2.1++(cellsX T65 y.2.2.2.1++(cellsX T69 y.2.2.2.2))))))] ?_
 obtain ⟨v0,hv1,h⟩:=Option.bind_eq_some_iff.1 h
 refine zC [] [(1000,1000)] (hc_hazard_Yard_count 0 y hv1) [(4,.int .i64 v0)] [(1000,.box 71 (.int .i64 y.1::(.int .i64 y.2.1::(cellsX T63 y.2.2.1++(cellsX T65 y.2.2.2.1++(cellsX T69 y.2.2.2.2))))))] ?_
 refine zB [(2,.int .i64 v0)] [(1000,.box 71 (.int .i64 y.1::(.int .i64 y.2.1::(cellsX T63 y.2.2.1++(cellsX T65 y.2.2.2.1++(cellsX T69 y.2.2.2.2))))))] ?_
 refine AW.ret ?_
 obtain rfl:=Option.some.inj h
 exact zR [] [] []
theorem hc_linealref06_within (lo:Int) (n:Int) (hi:Int) {r:Bool} (h:linealref06_within lo n hi=some r):HC Tryd.prog 66 [] [.int .i64 lo,.int .i64 n,.int .i64 hi] [] (.bool r):=by
 unfold linealref06_within at h
 refine zH Tryd.func66 [.tmp 6] 15 ?_
 refine zo ?_
 refine zB [(0,.int .i64 lo),(1,.int .i64 n),(2,.int .i64 hi)] [] ?_
 refine zo ?_
 refine zS 4 [(1,.int .i64 n),(2,.int .i64 hi),(10,.bool (decide (lo≤n)))] [] ?_
 rcases zI h with ⟨hb1,h⟩|⟨hb1,h⟩
 ·refine zB [(6,.bool (decide (n≤hi)))] [] ?_
  refine AW.ret ?_
  obtain rfl:=Option.some.inj h
  exact zR [] [] []
 ·refine zB [(6,.bool false)] [] ?_
  refine AW.ret ?_
  obtain rfl:=Option.some.inj h
  exact zR [] [] []
theorem hc_linealref06_IsNew (threads:Int) (size:Int) {r:Bool} (h:linealref06_IsNew threads size=some r):HC Tryd.prog 42 [] [.int .i64 threads,.int .i64 size] [] (.bool r):=by
 unfold linealref06_IsNew at h
 refine zH Tryd.func42 [.tmp 4] 11 ?_
 refine zo ?_
 refine zB [(0,.int .i64 threads),(1,.int .i64 size)] [] ?_
 refine zo ?_
 refine zS 1 [(1,.int .i64 size),(5,.int .i64 threads)] [] ?_
 obtain ⟨v0,hv1,h⟩:=Option.bind_eq_some_iff.1 h
 refine zC [] [] (hc_linealref06_within 1 threads 4 hv1) [(1,.int .i64 size),(6,.bool v0)] [] ?_
 refine zS 1 [(1,.int .i64 size),(7,.bool v0)] [] ?_
 rcases zI h with ⟨hb2,h⟩|⟨hb2,h⟩
 ·refine zS 1 [(7,.bool true),(8,.int .i64 size)] [] ?_
  obtain ⟨v0_2,hv3,h⟩:=Option.bind_eq_some_iff.1 h
  refine zG [] [] (hc_linealref06_within 1 size 4 hv3) [(7,.bool true),(9,.bool v0_2)] [] ?_
  refine zB [(4,.bool v0_2)] [] ?_
  refine AW.ret ?_
  obtain rfl:=Option.some.inj h
  exact zR [] [] []
 ·refine zB [(4,.bool false)] [] ?_
  refine AW.ret ?_
  obtain rfl:=Option.some.inj h
  exact zR [] [] []
theorem hc_linealref06_New (threads:Int) (size:Int) {r:(List (Int×Int))×(List (List Int))} (h:linealref06_New threads size=some r):HC Tryd.prog 16 [] [.int .i64 threads,.int .i64 size] [(2000,.box 77 (.int .i64 threads::(.int .i64 size::(cellsX T66 (Ty.dflt T66)++(.own 2001::(.own 2002::[])))))),(2001,.arr 64 (.pair (.int .i64) (.int .i64)) r.1),(2002,.arr 45 (.sl (.int .i64)) r.2)] (.bp 2000 0):=by
 unfold linealref06_New at h
 refine zH Tryd.func16 [.tmp 4] 36 ?_
 refine zo ?_
 refine zB [(0,.int .i64 threads),(1,.int .i64 size)] [] ?_
 refine zo ?_
 refine zB [(0,.int .i64 threads),(5,.bp 10 0)] [(10,.box 77 (.int .i64 threads::(.int .i64 size::(cellsX T66 (Ty.dflt T66)++(.cv (.slice none 0 0)::(.cv (.slice none 0 0)::[]))))))] ?_
 refine AW.have1 (fun b1:(List (Int×Int))×(List (List Int))=>linealref06_New_k1 b1=some r) (fun b1=>⟨fr [(5,.bp 10 0)],hpGet [(10,.box 77 (.int .i64 threads::(.int .i64 size::(cellsX T66 (Ty.dflt T66)++(.own 23::(.own 32::[])))))),(23,.arr 64 (.pair (.int .i64) (.int .i64)) b1.1),(32,.arr 45 (.sl (.int .i64)) b1.2)],gt⟩) (fun b1 h=>?_) (fun hk_linealref06_New_k1=>?_)
 ·as_aux_lemma =>
   unfold linealref06_New_k1 at h
   refine zo ?_
   refine zB [(4,.bp 10 0)] [(10,.box 77 (.int .i64 threads::(.int .i64 size::(cellsX T66 (Ty.dflt T66)++(.own 23::(.own 32::[])))))),(23,.arr 64 (.pair (.int .i64) (.int .i64)) b1.1),(32,.arr 45 (.sl (.int .i64)) b1.2)] ?_
   refine AW.ret ?_
   obtain rfl:=Option.some.inj h
   exact zR [] [] [(2000,10),(2001,23),(2002,32)]
 ·refine AW.seq ?_
  refine zo ?_
  refine zB [(0,.int .i64 threads),(5,.bp 10 0),(6,.int .i64 0)] [(10,.box 77 (.int .i64 threads::(.int .i64 size::(cellsX T66 (Ty.dflt T66)++(.cv (.slice none 0 0)::(.cv (.slice none 0 0)::[]))))))] ?_
  refine AW.block ?_
  obtain ⟨rv5,hw1,ho2⟩:=Option.bind_eq_some_iff.1 h
  refine AW.loopO (linealref06_New_b1 threads) (fun st1=>⟨fr [(0,.int .i64 threads),(5,.bp 10 0),(6,.int .i64 st1.2.2)],hpGet [(10,.box 77 (.int .i64 threads::(.int .i64 size::(cellsX T66 (Ty.dflt T66)++(.own 23::(.own 32::[])))))),(23,.arr 64 (.pair (.int .i64) (.int .i64)) st1.1),(32,.arr 45 (.sl (.int .i64)) st1.2.1)],gt⟩) ([],[],0) hw1 (zL [] [23,32] []) ?_
  as_aux_lemma =>
   intro st1 x4 h hd3
   unfold linealref06_New_b1 at h
   refine AW.seq ?_
   refine zo ?_
   refine zB [(0,.int .i64 threads),(5,.bp 10 0),(6,.int .i64 st1.2.2),(13,.bool (decide (st1.2.2<threads)))] [(10,.box 77 (.int .i64 threads::(.int .i64 size::(cellsX T66 (Ty.dflt T66)++(.own 23::(.own 32::[])))))),(23,.arr 64 (.pair (.int .i64) (.int .i64)) st1.1),(32,.arr 45 (.sl (.int .i64)) st1.2.1)] ?_
   refine zQ h (fun hb6 h=>?_) (fun hb6 h=>?_)
   ·refine zk ?_
    refine AW.seq ?_
    refine AW.block ?_
    refine zo ?_
    refine zS 5 [(0,.int .i64 threads),(5,.bp 10 0),(6,.int .i64 st1.2.2),(16,.bp 10 0),(20,.own 23)] [(10,.box 77 (.int .i64 threads::(.int .i64 size::(cellsX T66 (Ty.dflt T66)++(.own 23::(.own 32::[])))))),(23,.arr 64 (.pair (.int .i64) (.int .i64)) st1.1),(32,.arr 45 (.sl (.int .i64)) st1.2.1)] ?_
    obtain ⟨c7,h⟩:=ck_some.1 h
    refine zS 5 [(0,.int .i64 threads),(5,.bp 10 0),(6,.int .i64 st1.2.2),(23,.own 23),(25,.bp 10 10)] [(10,.box 77 (.int .i64 threads::(.int .i64 size::(cellsX T66 (Ty.dflt T66)++(.un::(.own 32::[])))))),(23,.arr 64 (.pair (.int .i64) (.int .i64)) (st1.1++[((-1),(-1))])),(32,.arr 45 (.sl (.int .i64)) st1.2.1)] ?_
    refine zB [(0,.int .i64 threads),(5,.bp 10 0),(6,.int .i64 st1.2.2)] [(10,.box 77 (.int .i64 threads::(.int .i64 size::(cellsX T66 (Ty.dflt T66)++(.own 23::(.own 32::[])))))),(23,.arr 64 (.pair (.int .i64) (.int .i64)) (st1.1++[((-1),(-1))])),(32,.arr 45 (.sl (.int .i64)) st1.2.1)] ?_
    refine AW.ops ?_
    refine zS 5 [(0,.int .i64 threads),(5,.bp 10 0),(6,.int .i64 st1.2.2),(26,.bp 10 0),(30,.own 32)] [(10,.box 77 (.int .i64 threads::(.int .i64 size::(cellsX T66 (Ty.dflt T66)++(.own 23::(.own 32::[])))))),(23,.arr 64 (.pair (.int .i64) (.int .i64)) (st1.1++[((-1),(-1))])),(32,.arr 45 (.sl (.int .i64)) st1.2.1)] ?_
    obtain ⟨c8,h⟩:=ck_some.1 h
    refine zA [(0,.int .i64 threads),(5,.bp 10 0),(6,.int .i64 st1.2.2)] [(10,.box 77 (.int .i64 threads::(.int .i64 size::(cellsX T66 (Ty.dflt T66)++(.own 23::(.own 32::[])))))),(23,.arr 64 (.pair (.int .i64) (.int .i64)) (st1.1++[((-1),(-1))])),(32,.arr 45 (.sl (.int .i64)) (st1.2.1++[[]]))] ?_
    refine ablock_n ?_
    refine athen_n ?_
    refine AW.ops ?_
    obtain ⟨c9,h⟩:=ck_some.1 h
    refine zA [(0,.int .i64 threads),(5,.bp 10 0),(6,.int .i64 (st1.2.2+1))] [(10,.box 77 (.int .i64 threads::(.int .i64 size::(cellsX T66 (Ty.dflt T66)++(.own 23::(.own 32::[])))))),(23,.arr 64 (.pair (.int .i64) (.int .i64)) (st1.1++[((-1),(-1))])),(32,.arr 45 (.sl (.int .i64)) (st1.2.1++[[]]))] ?_
    obtain rfl:=Option.some.inj h
    exact ⟨_,rfl,zL [] [] []⟩
   ·refine AW.exit ?_
    refine athen_e ?_
    obtain rfl:=Option.some.inj h
    rw [← hd3 _ rfl] at ho2
    have h:=ho2
    refine athen_e ?_
    refine ablock_s ?_
    refine athen_n ?_
    exact AW.weaken (zL [] [] []) (hk_linealref06_New_k1 _ h)
theorem hc_linealref06_Yard_isThread (t:Int) (y:Int) (y_2:Int) (y_3:(El T66)) (y_4:List (Int×Int)) (y_5:List (List Int)) {r:Bool} (h:linealref06_Yard_isThread t y y_2 y_3 y_4 y_5=some r):HC Tryd.prog 57 [(1000,.box 77 (.int .i64 y::(.int .i64 y_2::(cellsX T66 y_3++(.own 1001::(.own 1002::[])))))),(1001,.arr 64 (.pair (.int .i64) (.int .i64)) y_4),(1002,.arr 45 (.sl (.int .i64)) y_5)] [.bp 1000 0,.int .i64 t] [(1000,.box 77 (.int .i64 y::(.int .i64 y_2::(cellsX T66 y_3++(.own 1001::(.own 1002::[])))))),(1001,.arr 64 (.pair (.int .i64) (.int .i64)) y_4),(1002,.arr 45 (.sl (.int .i64)) y_5)] (.bool r):=by
 unfold linealref06_Yard_isThread at h
 refine zH Tryd.func57 [.tmp 4] 12 ?_
 refine zo ?_
 refine zB [(0,.bp 1000 0),(1,.int .i64 t)] [(1000,.box 77 (.int .i64 y::(.int .i64 y_2::(cellsX T66 y_3++(.own 1001::(.own 1002::[])))))),(1001,.arr 64 (.pair (.int .i64) (.int .i64)) y_4),(1002,.arr 45 (.sl (.int .i64)) y_5)] ?_
 refine zo ?_
 refine zS 5 [(5,.int .i64 t),(9,.int .i64 y)] [(1000,.box 77 (.int .i64 y::(.int .i64 y_2::(cellsX T66 y_3++(.own 1001::(.own 1002::[])))))),(1001,.arr 64 (.pair (.int .i64) (.int .i64)) y_4),(1002,.arr 45 (.sl (.int .i64)) y_5)] ?_
 obtain ⟨c1,h⟩:=ck_some.1 h
 refine zS 1 [(5,.int .i64 t),(10,.int .i64 (y - 1))] [(1000,.box 77 (.int .i64 y::(.int .i64 y_2::(cellsX T66 y_3++(.own 1001::(.own 1002::[])))))),(1001,.arr 64 (.pair (.int .i64) (.int .i64)) y_4),(1002,.arr 45 (.sl (.int .i64)) y_5)] ?_
 obtain ⟨v0,hv2,h⟩:=Option.bind_eq_some_iff.1 h
 refine zC [] [] (hc_linealref06_within 0 t (y - 1) hv2) [(11,.bool v0)] [(1000,.box 77 (.int .i64 y::(.int .i64 y_2::(cellsX T66 y_3++(.own 1001::(.own 1002::[])))))),(1001,.arr 64 (.pair (.int .i64) (.int .i64)) y_4),(1002,.arr 45 (.sl (.int .i64)) y_5)] ?_
 refine zB [(4,.bool v0)] [(1000,.box 77 (.int .i64 y::(.int .i64 y_2::(cellsX T66 y_3++(.own 1001::(.own 1002::[])))))),(1001,.arr 64 (.pair (.int .i64) (.int .i64)) y_4),(1002,.arr 45 (.sl (.int .i64)) y_5)] ?_
 refine AW.ret ?_
 obtain rfl:=Option.some.inj h
 exact zR [] [] []
theorem hc_linealref06_Yard_Take (thread:Int) (y:Int) (y_2:Int) (y_3:(El T66)) (y_4:List (Int×Int)) (y_5:List (List Int)) {r:Int×Int×(El T66)} (h:linealref06_Yard_Take thread y y_2 y_3 y_4 y_5=some r):HC Tryd.prog 38 [(1000,.box 77 (.int .i64 y::(.int .i64 y_2::(cellsX T66 y_3++(.own 1001::(.own 1002::[])))))),(1001,.arr 64 (.pair (.int .i64) (.int .i64)) y_4),(1002,.arr 45 (.sl (.int .i64)) y_5)] [.bp 1000 0,.int .i64 thread] [(1000,.box 77 (.int .i64 y::(.int .i64 y_2::(cellsX T66 r.2.2++(.own 1001::(.own 1002::[])))))),(1001,.arr 64 (.pair (.int .i64) (.int .i64)) y_4),(1002,.arr 45 (.sl (.int .i64)) y_5)] (.tup [.int .i64 r.1,.int .i64 r.2.1]):=by
 unfold linealref06_Yard_Take at h
 refine zH Tryd.func38 [.tmp 4,.tmp 5] 28 ?_
 refine zo ?_
 refine zB [(0,.bp 1000 0),(1,.int .i64 thread)] [(1000,.box 77 (.int .i64 y::(.int .i64 y_2::(cellsX T66 y_3++(.own 1001::(.own 1002::[])))))),(1001,.arr 64 (.pair (.int .i64) (.int .i64)) y_4),(1002,.arr 45 (.sl (.int .i64)) y_5)] ?_
 refine AW.seq ?_
 refine zo ?_
 refine zS 2 [(0,.bp 1000 0),(7,.bp 1000 0),(8,.int .i64 thread)] [(1000,.box 77 (.int .i64 y::(.int .i64 y_2::(cellsX T66 y_3++(.own 1001::(.own 1002::[])))))),(1001,.arr 64 (.pair (.int .i64) (.int .i64)) y_4),(1002,.arr 45 (.sl (.int .i64)) y_5)] ?_
 obtain ⟨v0,hv1,h⟩:=Option.bind_eq_some_iff.1 h
 refine zC [] [(1000,1000),(1001,1001),(1002,1002)] (hc_linealref06_Yard_isThread thread y y_2 y_3 y_4 y_5 hv1) [(0,.bp 1000 0),(9,.bool v0)] [(1000,.box 77 (.int .i64 y::(.int .i64 y_2::(cellsX T66 y_3++(.own 1001::(.own 1002::[])))))),(1001,.arr 64 (.pair (.int .i64) (.int .i64)) y_4),(1002,.arr 45 (.sl (.int .i64)) y_5)] ?_
 refine zB [(0,.bp 1000 0),(10,.bool (!v0))] [(1000,.box 77 (.int .i64 y::(.int .i64 y_2::(cellsX T66 y_3++(.own 1001::(.own 1002::[])))))),(1001,.arr 64 (.pair (.int .i64) (.int .i64)) y_4),(1002,.arr 45 (.sl (.int .i64)) y_5)] ?_
 refine zQ h (fun hb2 h=>?_) (fun hb2 h=>?_)
 ·refine zo ?_
  refine zB [(4,.int .i64 0),(5,.int .i64 2)] [(1000,.box 77 (.int .i64 y::(.int .i64 y_2::(cellsX T66 y_3++(.own 1001::(.own 1002::[])))))),(1001,.arr 64 (.pair (.int .i64) (.int .i64)) y_4),(1002,.arr 45 (.sl (.int .i64)) y_5)] ?_
  refine zr ?_
  obtain rfl:=Option.some.inj h
  exact zR [] [] []
 ·refine zk ?_
  refine AW.have1 (fun _:Unit=>linealref06_Yard_Take_k1 y_3=some r) (fun _=>⟨fr [],hpGet [(1000,.box 77 (.int .i64 y::(.int .i64 y_2::(cellsX T66 y_3++(.own 1001::(.own 1002::[])))))),(1001,.arr 64 (.pair (.int .i64) (.int .i64)) y_4),(1002,.arr 45 (.sl (.int .i64)) y_5)],gt⟩) (fun _ h=>?_) (fun hk_linealref06_Yard_Take_k1=>?_)
  ·as_aux_lemma =>
    unfold linealref06_Yard_Take_k1 at h
    refine zo ?_
    refine zB [(4,.int .i64 0),(5,.int .i64 5)] [(1000,.box 77 (.int .i64 y::(.int .i64 y_2::(cellsX T66 y_3++(.own 1001::(.own 1002::[])))))),(1001,.arr 64 (.pair (.int .i64) (.int .i64)) y_4),(1002,.arr 45 (.sl (.int .i64)) y_5)] ?_
    refine AW.ret ?_
    obtain rfl:=Option.some.inj h
    exact zR [] [] []
  ·refine AW.seq ?_
   refine zo ?_
   refine zB [(0,.bp 1000 0),(6,.int .i64 0)] [(1000,.box 77 (.int .i64 y::(.int .i64 y_2::(cellsX T66 y_3++(.own 1001::(.own 1002::[])))))),(1001,.arr 64 (.pair (.int .i64) (.int .i64)) y_4),(1002,.arr 45 (.sl (.int .i64)) y_5)] ?_
   refine AW.block ?_
   obtain ⟨rv7,hw3,ho4⟩:=Option.bind_eq_some_iff.1 h
   refine AW.loopO (linealref06_Yard_Take_b1 y_3) (fun st1=>⟨fr [(0,.bp 1000 0),(6,.int .i64 st1)],hpGet [(1000,.box 77 (.int .i64 y::(.int .i64 y_2::(cellsX T66 y_3++(.own 1001::(.own 1002::[])))))),(1001,.arr 64 (.pair (.int .i64) (.int .i64)) y_4),(1002,.arr 45 (.sl (.int .i64)) y_5)],gt⟩) 0 hw3 (zL [] [] []) ?_
   as_aux_lemma =>
    intro st1 x6 h hd5
    unfold linealref06_Yard_Take_b1 at h
    refine AW.seq ?_
    refine zo ?_
    refine zB [(0,.bp 1000 0),(6,.int .i64 st1),(12,.bool (decide (st1<8)))] [(1000,.box 77 (.int .i64 y::(.int .i64 y_2::(cellsX T66 y_3++(.own 1001::(.own 1002::[])))))),(1001,.arr 64 (.pair (.int .i64) (.int .i64)) y_4),(1002,.arr 45 (.sl (.int .i64)) y_5)] ?_
    refine zQ h (fun hb8 h=>?_) (fun hb8 h=>?_)
    ·refine zk ?_
     refine AW.seq ?_
     refine AW.block ?_
     refine zo ?_
     obtain ⟨c9,h⟩:=ck_some.1 h
     obtain ⟨c10,h⟩:=ck_some.1 h
     refine zS 5 [(0,.bp 1000 0),(6,.int .i64 st1),(19,.bp 1000 (2+st1.toNat*1))] [(1000,.box 77 (.int .i64 y::(.int .i64 y_2::(cellsX T66 y_3++(.own 1001::(.own 1002::[])))))),(1001,.arr 64 (.pair (.int .i64) (.int .i64)) y_4),(1002,.arr 45 (.sl (.int .i64)) y_5)] ?_
     have hx11:(st1.toNat*1)<8:=by omega
     refine zB [(0,.bp 1000 0),(6,.int .i64 st1),(21,.bool (decide ((intAt T66 y_3 (st1.toNat*1))=0)))] [(1000,.box 77 (.int .i64 y::(.int .i64 y_2::(cellsX T66 y_3++(.own 1001::(.own 1002::[])))))),(1001,.arr 64 (.pair (.int .i64) (.int .i64)) y_4),(1002,.arr 45 (.sl (.int .i64)) y_5)] ?_
     refine zQ h (fun hb12 h=>?_) (fun hb12 h=>?_)
     ·refine zo ?_
      obtain ⟨c13,h⟩:=ck_some.1 h
      obtain ⟨c14,h⟩:=ck_some.1 h
      refine zS 5 [(6,.int .i64 st1),(26,.bp 1000 (2+st1.toNat*1))] [(1000,.box 77 (.int .i64 y::(.int .i64 y_2::(cellsX T66 y_3++(.own 1001::(.own 1002::[])))))),(1001,.arr 64 (.pair (.int .i64) (.int .i64)) y_4),(1002,.arr 45 (.sl (.int .i64)) y_5)] ?_
      have hx15:(st1.toNat*1)<8:=by omega
      refine zB [(6,.int .i64 st1)] [(1000,.box 77 (.int .i64 y::(.int .i64 y_2::(cellsX T66 (setInt T66 y_3 (st1.toNat*1) 1)++(.own 1001::(.own 1002::[])))))),(1001,.arr 64 (.pair (.int .i64) (.int .i64)) y_4),(1002,.arr 45 (.sl (.int .i64)) y_5)] ?_
      refine zo ?_
      refine zB [(4,.int .i64 st1),(5,.int .i64 0)] [(1000,.box 77 (.int .i64 y::(.int .i64 y_2::(cellsX T66 (setInt T66 y_3 (st1.toNat*1) 1)++(.own 1001::(.own 1002::[])))))),(1001,.arr 64 (.pair (.int .i64) (.int .i64)) y_4),(1002,.arr 45 (.sl (.int .i64)) y_5)] ?_
      refine AW.ret ?_
      refine ablock_r ?_
      refine athen_r ?_
      obtain rfl:=Option.some.inj h
      rw [← hd5 _ rfl] at ho4
      have h:=ho4
      try simp only at h
      refine athen_r ?_
      refine ablock_r ?_
      refine athen_r ?_
      obtain rfl:=Option.some.inj h
      exact zR [] [] []
     ·refine zm ?_
      refine athen_n ?_
      refine AW.ops ?_
      obtain ⟨c16,h⟩:=ck_some.1 h
      refine zA [(0,.bp 1000 0),(6,.int .i64 (st1+1))] [(1000,.box 77 (.int .i64 y::(.int .i64 y_2::(cellsX T66 y_3++(.own 1001::(.own 1002::[])))))),(1001,.arr 64 (.pair (.int .i64) (.int .i64)) y_4),(1002,.arr 45 (.sl (.int .i64)) y_5)] ?_
      obtain rfl:=Option.some.inj h
      exact ⟨_,rfl,zL [] [] []⟩
    ·refine AW.exit ?_
     refine athen_e ?_
     obtain rfl:=Option.some.inj h
     try rw [← hd5 _ rfl] at ho4
     have h:=ho4
     try simp only at h
     refine athen_e ?_
     refine ablock_s ?_
     refine athen_n ?_
     exact AW.weaken (zL [] [] []) (hk_linealref06_Yard_Take_k1 () h)
theorem hc_linealref06_isSlot (s:Int) {r:Bool} (h:linealref06_isSlot s=some r):HC Tryd.prog 59 [] [.int .i64 s] [] (.bool r):=by
 unfold linealref06_isSlot at h
 refine zH Tryd.func59 [.tmp 2] 5 ?_
 refine zo ?_
 refine zB [(0,.int .i64 s)] [] ?_
 refine zo ?_
 refine zS 1 [(3,.int .i64 s)] [] ?_
 obtain ⟨v0,hv1,h⟩:=Option.bind_eq_some_iff.1 h
 refine zC [] [] (hc_linealref06_within 0 s 1 hv1) [(4,.bool v0)] [] ?_
 refine zB [(2,.bool v0)] [] ?_
 refine AW.ret ?_
 obtain rfl:=Option.some.inj h
 exact zR [] [] []
theorem hc_linealref06_isNode (n:Int) {r:Bool} (h:linealref06_isNode n=some r):HC Tryd.prog 54 [] [.int .i64 n] [] (.bool r):=by
 unfold linealref06_isNode at h
 refine zH Tryd.func54 [.tmp 2] 5 ?_
 refine zo ?_
 refine zB [(0,.int .i64 n)] [] ?_
 refine zo ?_
 refine zS 1 [(3,.int .i64 n)] [] ?_
 obtain ⟨v0,hv1,h⟩:=Option.bind_eq_some_iff.1 h
 refine zC [] [] (hc_linealref06_within 0 n 7 hv1) [(4,.bool v0)] [] ?_
 refine zB [(2,.bool v0)] [] ?_
 refine AW.ret ?_
 obtain rfl:=Option.some.inj h
 exact zR [] [] []
theorem hc_linealref06_Yard_Point (thread:Int) (slot:Int) (node:Int) (y:Int) (y_2:Int) (y_3:(El T66)) (y_4:List (Int×Int)) (y_5:List (List Int)) {r:Int×(List (Int×Int))} (h:linealref06_Yard_Point thread slot node y y_2 y_3 y_4 y_5=some r):HC Tryd.prog 32 [(1000,.box 77 (.int .i64 y::(.int .i64 y_2::(cellsX T66 y_3++(.own 1001::(.own 1002::[])))))),(1001,.arr 64 (.pair (.int .i64) (.int .i64)) y_4),(1002,.arr 45 (.sl (.int .i64)) y_5)] [.bp 1000 0,.int .i64 thread,.int .i64 slot,.int .i64 node] [(1000,.box 77 (.int .i64 y::(.int .i64 y_2::(cellsX T66 y_3++(.own 1001::(.own 1002::[])))))),(1001,.arr 64 (.pair (.int .i64) (.int .i64)) r.2),(1002,.arr 45 (.sl (.int .i64)) y_5)] (.int .i64 r.1):=by
 unfold linealref06_Yard_Point at h
 refine zH Tryd.func32 [.tmp 8] 39 ?_
 refine zo ?_
 refine zB [(0,.bp 1000 0),(1,.int .i64 thread),(2,.int .i64 slot),(3,.int .i64 node)] [(1000,.box 77 (.int .i64 y::(.int .i64 y_2::(cellsX T66 y_3++(.own 1001::(.own 1002::[])))))),(1001,.arr 64 (.pair (.int .i64) (.int .i64)) y_4),(1002,.arr 45 (.sl (.int .i64)) y_5)] ?_
 refine AW.seq ?_
 refine zo ?_
 refine zS 2 [(0,.bp 1000 0),(1,.int .i64 thread),(2,.int .i64 slot),(3,.int .i64 node),(9,.bp 1000 0),(10,.int .i64 thread)] [(1000,.box 77 (.int .i64 y::(.int .i64 y_2::(cellsX T66 y_3++(.own 1001::(.own 1002::[])))))),(1001,.arr 64 (.pair (.int .i64) (.int .i64)) y_4),(1002,.arr 45 (.sl (.int .i64)) y_5)] ?_
 obtain ⟨v0,hv1,h⟩:=Option.bind_eq_some_iff.1 h
 refine zC [] [(1000,1000),(1001,1001),(1002,1002)] (hc_linealref06_Yard_isThread thread y y_2 y_3 y_4 y_5 hv1) [(0,.bp 1000 0),(1,.int .i64 thread),(2,.int .i64 slot),(3,.int .i64 node),(11,.bool v0)] [(1000,.box 77 (.int .i64 y::(.int .i64 y_2::(cellsX T66 y_3++(.own 1001::(.own 1002::[])))))),(1001,.arr 64 (.pair (.int .i64) (.int .i64)) y_4),(1002,.arr 45 (.sl (.int .i64)) y_5)] ?_
 refine zS 2 [(0,.bp 1000 0),(1,.int .i64 thread),(2,.int .i64 slot),(3,.int .i64 node),(13,.bool (!v0))] [(1000,.box 77 (.int .i64 y::(.int .i64 y_2::(cellsX T66 y_3++(.own 1001::(.own 1002::[])))))),(1001,.arr 64 (.pair (.int .i64) (.int .i64)) y_4),(1002,.arr 45 (.sl (.int .i64)) y_5)] ?_
 rcases zI h with ⟨hb2,h⟩|⟨hb2,h⟩
 ·refine zS 5 [(0,.bp 1000 0),(1,.int .i64 thread),(2,.int .i64 slot),(3,.int .i64 node),(18,.bool true)] [(1000,.box 77 (.int .i64 y::(.int .i64 y_2::(cellsX T66 y_3++(.own 1001::(.own 1002::[])))))),(1001,.arr 64 (.pair (.int .i64) (.int .i64)) y_4),(1002,.arr 45 (.sl (.int .i64)) y_5)] ?_
  refine zB [(0,.bp 1000 0),(1,.int .i64 thread),(2,.int .i64 slot),(3,.int .i64 node),(22,.bool true)] [(1000,.box 77 (.int .i64 y::(.int .i64 y_2::(cellsX T66 y_3++(.own 1001::(.own 1002::[])))))),(1001,.arr 64 (.pair (.int .i64) (.int .i64)) y_4),(1002,.arr 45 (.sl (.int .i64)) y_5)] ?_
  refine AW.cond (b:=true) rfl (fun _=>?_) (fun hb3=>by cases hb3)
  refine zo ?_
  refine zB [(8,.int .i64 2)] [(1000,.box 77 (.int .i64 y::(.int .i64 y_2::(cellsX T66 y_3++(.own 1001::(.own 1002::[])))))),(1001,.arr 64 (.pair (.int .i64) (.int .i64)) y_4),(1002,.arr 45 (.sl (.int .i64)) y_5)] ?_
  refine zr ?_
  obtain rfl:=Option.some.inj h
  exact zR [] [] []
 ·refine zS 1 [(0,.bp 1000 0),(1,.int .i64 thread),(2,.int .i64 slot),(3,.int .i64 node),(13,.bool false),(14,.int .i64 slot)] [(1000,.box 77 (.int .i64 y::(.int .i64 y_2::(cellsX T66 y_3++(.own 1001::(.own 1002::[])))))),(1001,.arr 64 (.pair (.int .i64) (.int .i64)) y_4),(1002,.arr 45 (.sl (.int .i64)) y_5)] ?_
  obtain ⟨v0_2,hv4,h⟩:=Option.bind_eq_some_iff.1 h
  refine zG [] [] (hc_linealref06_isSlot slot hv4) [(0,.bp 1000 0),(1,.int .i64 thread),(2,.int .i64 slot),(3,.int .i64 node),(13,.bool false),(15,.bool v0_2)] [(1000,.box 77 (.int .i64 y::(.int .i64 y_2::(cellsX T66 y_3++(.own 1001::(.own 1002::[])))))),(1001,.arr 64 (.pair (.int .i64) (.int .i64)) y_4),(1002,.arr 45 (.sl (.int .i64)) y_5)] ?_
  refine zS 3 [(0,.bp 1000 0),(1,.int .i64 thread),(2,.int .i64 slot),(3,.int .i64 node),(18,.bool (!v0_2))] [(1000,.box 77 (.int .i64 y::(.int .i64 y_2::(cellsX T66 y_3++(.own 1001::(.own 1002::[])))))),(1001,.arr 64 (.pair (.int .i64) (.int .i64)) y_4),(1002,.arr 45 (.sl (.int .i64)) y_5)] ?_
  rcases zI h with ⟨hb5,h⟩|⟨hb5,h⟩
  ·refine zB [(0,.bp 1000 0),(1,.int .i64 thread),(2,.int .i64 slot),(3,.int .i64 node),(22,.bool true)] [(1000,.box 77 (.int .i64 y::(.int .i64 y_2::(cellsX T66 y_3++(.own 1001::(.own 1002::[])))))),(1001,.arr 64 (.pair (.int .i64) (.int .i64)) y_4),(1002,.arr 45 (.sl (.int .i64)) y_5)] ?_
   refine AW.cond (b:=true) rfl (fun _=>?_) (fun hb6=>by cases hb6)
   refine zo ?_
   refine zB [(8,.int .i64 2)] [(1000,.box 77 (.int .i64 y::(.int .i64 y_2::(cellsX T66 y_3++(.own 1001::(.own 1002::[])))))),(1001,.arr 64 (.pair (.int .i64) (.int .i64)) y_4),(1002,.arr 45 (.sl (.int .i64)) y_5)] ?_
   refine zr ?_
   obtain rfl:=Option.some.inj h
   exact zR [] [] []
  ·refine zS 1 [(0,.bp 1000 0),(1,.int .i64 thread),(2,.int .i64 slot),(3,.int .i64 node),(18,.bool false),(19,.int .i64 node)] [(1000,.box 77 (.int .i64 y::(.int .i64 y_2::(cellsX T66 y_3++(.own 1001::(.own 1002::[])))))),(1001,.arr 64 (.pair (.int .i64) (.int .i64)) y_4),(1002,.arr 45 (.sl (.int .i64)) y_5)] ?_
   obtain ⟨v0_3,hv7,h⟩:=Option.bind_eq_some_iff.1 h
   refine zG [] [] (hc_linealref06_isNode node hv7) [(0,.bp 1000 0),(1,.int .i64 thread),(2,.int .i64 slot),(3,.int .i64 node),(18,.bool false),(20,.bool v0_3)] [(1000,.box 77 (.int .i64 y::(.int .i64 y_2::(cellsX T66 y_3++(.own 1001::(.own 1002::[])))))),(1001,.arr 64 (.pair (.int .i64) (.int .i64)) y_4),(1002,.arr 45 (.sl (.int .i64)) y_5)] ?_
   refine zB [(0,.bp 1000 0),(1,.int .i64 thread),(2,.int .i64 slot),(3,.int .i64 node),(22,.bool (!v0_3))] [(1000,.box 77 (.int .i64 y::(.int .i64 y_2::(cellsX T66 y_3++(.own 1001::(.own 1002::[])))))),(1001,.arr 64 (.pair (.int .i64) (.int .i64)) y_4),(1002,.arr 45 (.sl (.int .i64)) y_5)] ?_
   refine zQ h (fun hb8 h=>?_) (fun hb8 h=>?_)
   ·refine zo ?_
    refine zB [(8,.int .i64 2)] [(1000,.box 77 (.int .i64 y::(.int .i64 y_2::(cellsX T66 y_3++(.own 1001::(.own 1002::[])))))),(1001,.arr 64 (.pair (.int .i64) (.int .i64)) y_4),(1002,.arr 45 (.sl (.int .i64)) y_5)] ?_
    refine zr ?_
    obtain rfl:=Option.some.inj h
    exact zR [] [] []
   ·refine zk ?_
    refine AW.seq ?_
    refine zo ?_
    obtain ⟨c9,h⟩:=ck_some.1 h
    obtain ⟨c10,h⟩:=ck_some.1 h
    refine zS 5 [(0,.bp 1000 0),(1,.int .i64 thread),(2,.int .i64 slot),(3,.int .i64 node),(27,.bp 1000 (2+node.toNat*1))] [(1000,.box 77 (.int .i64 y::(.int .i64 y_2::(cellsX T66 y_3++(.own 1001::(.own 1002::[])))))),(1001,.arr 64 (.pair (.int .i64) (.int .i64)) y_4),(1002,.arr 45 (.sl (.int .i64)) y_5)] ?_
    have hx11:(node.toNat*1)<8:=by omega
    refine zB [(0,.bp 1000 0),(1,.int .i64 thread),(2,.int .i64 slot),(3,.int .i64 node),(29,.bool (!(decide ((intAt T66 y_3 (node.toNat*1))=1))))] [(1000,.box 77 (.int .i64 y::(.int .i64 y_2::(cellsX T66 y_3++(.own 1001::(.own 1002::[])))))),(1001,.arr 64 (.pair (.int .i64) (.int .i64)) y_4),(1002,.arr 45 (.sl (.int .i64)) y_5)] ?_
    refine zQ h (fun hb12 h=>?_) (fun hb12 h=>?_)
    ·refine zo ?_
     refine zB [(8,.int .i64 5)] [(1000,.box 77 (.int .i64 y::(.int .i64 y_2::(cellsX T66 y_3++(.own 1001::(.own 1002::[])))))),(1001,.arr 64 (.pair (.int .i64) (.int .i64)) y_4),(1002,.arr 45 (.sl (.int .i64)) y_5)] ?_
     refine zr ?_
     obtain rfl:=Option.some.inj h
     exact zR [] [] []
    ·refine zk ?_
     refine zo ?_
     refine zS 5 [(2,.int .i64 slot),(3,.int .i64 node),(33,.own 1001),(34,.int .i64 thread)] [(1000,.box 77 (.int .i64 y::(.int .i64 y_2::(cellsX T66 y_3++(.own 1001::(.own 1002::[])))))),(1001,.arr 64 (.pair (.int .i64) (.int .i64)) y_4),(1002,.arr 45 (.sl (.int .i64)) y_5)] ?_
     obtain ⟨c13,h⟩:=ck_some.1 h
     obtain ⟨c14,h⟩:=ck_some.1 h
     obtain ⟨c15,h⟩:=ck_some.1 h
     obtain ⟨c16,h⟩:=ck_some.1 h
     refine zS 3 [(35,.int .i64 slot),(36,.int .i64 node),(37,.ap 1001 2 thread.toNat 0)] [(1000,.box 77 (.int .i64 y::(.int .i64 y_2::(cellsX T66 y_3++(.own 1001::(.own 1002::[])))))),(1001,.arr 64 (.pair (.int .i64) (.int .i64)) y_4),(1002,.arr 45 (.sl (.int .i64)) y_5)] ?_
     rcases Bool.eq_false_or_eq_true (decide (slot=0)) with hb17|hb17
     ·rw [if_pos hb17] at h
      have hz18:slot=0:=by simpa using hb17
      refine zT [(35,.int .i64 0),(36,.int .i64 node),(37,.ap 1001 2 thread.toNat 0)] [(1000,.box 77 (.int .i64 y::(.int .i64 y_2::(cellsX T66 y_3++(.own 1001::(.own 1002::[])))))),(1001,.arr 64 (.pair (.int .i64) (.int .i64)) y_4),(1002,.arr 45 (.sl (.int .i64)) y_5)] gt ?_
      refine zB [] [(1000,.box 77 (.int .i64 y::(.int .i64 y_2::(cellsX T66 y_3++(.own 1001::(.own 1002::[])))))),(1001,.arr 64 (.pair (.int .i64) (.int .i64)) (y_4.set thread.toNat (node,(y_4.getD thread.toNat (0,0)).2))),(1002,.arr 45 (.sl (.int .i64)) y_5)] ?_
      refine zo ?_
      refine zB [(8,.int .i64 0)] [(1000,.box 77 (.int .i64 y::(.int .i64 y_2::(cellsX T66 y_3++(.own 1001::(.own 1002::[])))))),(1001,.arr 64 (.pair (.int .i64) (.int .i64)) (y_4.set thread.toNat (node,(y_4.getD thread.toNat (0,0)).2))),(1002,.arr 45 (.sl (.int .i64)) y_5)] ?_
      refine AW.ret ?_
      obtain rfl:=Option.some.inj h
      exact zR [] [] []
     ·rw [if_neg (Bool.eq_false_iff.1 hb17)] at h
      have hz18:slot=1:=by have:=of_decide_eq_false hb17; omega
      refine zT [(35,.int .i64 1),(36,.int .i64 node),(37,.ap 1001 2 thread.toNat 0)] [(1000,.box 77 (.int .i64 y::(.int .i64 y_2::(cellsX T66 y_3++(.own 1001::(.own 1002::[])))))),(1001,.arr 64 (.pair (.int .i64) (.int .i64)) y_4),(1002,.arr 45 (.sl (.int .i64)) y_5)] gt ?_
      refine zB [] [(1000,.box 77 (.int .i64 y::(.int .i64 y_2::(cellsX T66 y_3++(.own 1001::(.own 1002::[])))))),(1001,.arr 64 (.pair (.int .i64) (.int .i64)) (y_4.set thread.toNat ((y_4.getD thread.toNat (0,0)).1,node))),(1002,.arr 45 (.sl (.int .i64)) y_5)] ?_
      refine zo ?_
      refine zB [(8,.int .i64 0)] [(1000,.box 77 (.int .i64 y::(.int .i64 y_2::(cellsX T66 y_3++(.own 1001::(.own 1002::[])))))),(1001,.arr 64 (.pair (.int .i64) (.int .i64)) (y_4.set thread.toNat ((y_4.getD thread.toNat (0,0)).1,node))),(1002,.arr 45 (.sl (.int .i64)) y_5)] ?_
      refine AW.ret ?_
      obtain rfl:=Option.some.inj h
      exact zR [] [] []
end Go.Proofs.YtcckpmeepcoafaaDoor
