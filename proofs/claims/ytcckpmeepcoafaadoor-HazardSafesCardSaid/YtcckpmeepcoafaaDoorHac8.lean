/-
  Made by wip/tool/dc.py out of the print of the program: contracts.
-/
import Derived.Test.YtcckpmeepcoafaaDoorHzp
import Derived.Test.YtcckpmeepcoafaaDoorShz
import Derived.Test.YtcckpmeepcoafaaDoorHac1
import Derived.Test.YtcckpmeepcoafaaDoorHac2
import Derived.Test.YtcckpmeepcoafaaDoorHac3
import Derived.Test.YtcckpmeepcoafaaDoorHac7
namespace Go.Proofs.YtcckpmeepcoafaaDoor
open Go.RowKit

set_option linter.unusedSimpArgs false
set_option linter.unusedVariables false
set_option linter.constructorNameAsVariable false

set_option maxRecDepth 100000
set_option maxHeartbeats 40000000

theorem hc_hazard_Yard_State (node : Int) (y : Int × Int × (El T63) × (El T65) × (El T69)) {r : Int × Int} (h : hazard_Yard_State node y = some r) : HC Tryd.prog 22 [(1000, .box 71 (.int .i64 y.1 :: (.int .i64 y.2.1 :: (cellsX T63 y.2.2.1 ++ (cellsX T65 y.2.2.2.1 ++ (cellsX T69 y.2.2.2.2))))))] [.bp 1000 0, .int .i64 node] [(1000, .box 71 (.int .i64 y.1 :: (.int .i64 y.2.1 :: (cellsX T63 y.2.2.1 ++ (cellsX T65 y.2.2.2.1 ++ (cellsX T69 y.2.2.2.2))))))] (.tup [.int .i64 r.1, .int .i64 r.2]) := by
 unfold hazard_Yard_State at h
 refine zH Tryd.func22 [.tmp 4, .tmp 5] 21 ?_
 refine zo ?_
 refine zB [(0, .bp 1000 0), (1, .int .i64 node)] [(1000, .box 71 (.int .i64 y.1 :: (.int .i64 y.2.1 :: (cellsX T63 y.2.2.1 ++ (cellsX T65 y.2.2.2.1 ++ (cellsX T69 y.2.2.2.2))))))] ?_
 refine AW.seq ?_
 refine zo ?_
 refine zS 2 [(0, .bp 1000 0), (1, .int .i64 node), (7, .bp 1000 0), (8, .int .i64 node)] [(1000, .box 71 (.int .i64 y.1 :: (.int .i64 y.2.1 :: (cellsX T63 y.2.2.1 ++ (cellsX T65 y.2.2.2.1 ++ (cellsX T69 y.2.2.2.2))))))] ?_
 obtain ⟨v0, hv1, h⟩ := Option.bind_eq_some_iff.1 h
 refine zC [] [] (hc_hazard_isNode node hv1) [(0, .bp 1000 0), (1, .int .i64 node), (7, .bp 1000 0), (9, .agg [.fn (.func 70) [] [.dp (.int .i64) node 0], .int .i64 2])] [(1000, .box 71 (.int .i64 y.1 :: (.int .i64 y.2.1 :: (cellsX T63 y.2.2.1 ++ (cellsX T65 y.2.2.2.1 ++ (cellsX T69 y.2.2.2.2))))))] ?_
 refine AO.buildBox tab_ok rfl (by decide) (by decide) rfl rfl tab_92 rfl tab_81 (by decide) (by decide) rfl (by decide) (cs := [.fn (.func 70) [] [.dp (.int .i64) node 0], .int .i64 2]) rfl rfl rfl ?_
 refine zT [(0, .bp 1000 0), (1, .int .i64 node), (7, .bp 1000 0), (10, .vw 10 2 0 1)] [(10, .box 81 [.fn (.func 70) [] [.dp (.int .i64) node 0], .int .i64 2]), (1000, .box 71 (.int .i64 y.1 :: (.int .i64 y.2.1 :: (cellsX T63 y.2.2.1 ++ (cellsX T65 y.2.2.2.1 ++ (cellsX T69 y.2.2.2.2))))))] gt ?_
 obtain ⟨v0_2, hv2, h⟩ := Option.bind_eq_some_iff.1 h
 refine zC [] [(1000, 1000), (1001, 10)] (hc_hazard_Yard_fails_7 y node 2 hv2) [(0, .bp 1000 0), (1, .int .i64 node), (11, .int .i64 v0_2)] [(1000, .box 71 (.int .i64 y.1 :: (.int .i64 y.2.1 :: (cellsX T63 y.2.2.1 ++ (cellsX T65 y.2.2.2.1 ++ (cellsX T69 y.2.2.2.2))))))] ?_
 refine zB [(0, .bp 1000 0), (1, .int .i64 node), (6, .int .i64 v0_2)] [(1000, .box 71 (.int .i64 y.1 :: (.int .i64 y.2.1 :: (cellsX T63 y.2.2.1 ++ (cellsX T65 y.2.2.2.1 ++ (cellsX T69 y.2.2.2.2))))))] ?_
 refine zo ?_
 refine zB [(0, .bp 1000 0), (1, .int .i64 node), (6, .int .i64 v0_2), (13, .bool (!(decide (v0_2 = 0))))] [(1000, .box 71 (.int .i64 y.1 :: (.int .i64 y.2.1 :: (cellsX T63 y.2.2.1 ++ (cellsX T65 y.2.2.2.1 ++ (cellsX T69 y.2.2.2.2))))))] ?_
 refine zQ h (fun hb3 h => ?_) (fun hb3 h => ?_)
 ·refine zo ?_
  refine zB [(4, .int .i64 0), (5, .int .i64 v0_2)] [(1000, .box 71 (.int .i64 y.1 :: (.int .i64 y.2.1 :: (cellsX T63 y.2.2.1 ++ (cellsX T65 y.2.2.2.1 ++ (cellsX T69 y.2.2.2.2))))))] ?_
  refine zr ?_
  obtain rfl := Option.some.inj h
  exact zR [] [] []
 ·refine zk ?_
  refine zo ?_
  obtain ⟨c4, h⟩ := ck_some.1 h
  obtain ⟨c5, h⟩ := ck_some.1 h
  refine zS 5 [(19, .bp 1000 (2 + node.toNat * 1))] [(1000, .box 71 (.int .i64 y.1 :: (.int .i64 y.2.1 :: (cellsX T63 y.2.2.1 ++ (cellsX T65 y.2.2.2.1 ++ (cellsX T69 y.2.2.2.2))))))] ?_
  have hx6 : (node.toNat * 1) < 8 := by omega
  refine zB [(4, .int .i64 (intAt T63 y.2.2.1 (node.toNat * 1))), (5, .int .i64 0)] [(1000, .box 71 (.int .i64 y.1 :: (.int .i64 y.2.1 :: (cellsX T63 y.2.2.1 ++ (cellsX T65 y.2.2.2.1 ++ (cellsX T69 y.2.2.2.2))))))] ?_
  refine AW.ret ?_
  obtain rfl := Option.some.inj h
  exact zR [] [] []

theorem hc_hazard_Yard_Slot (thread : Int) (slot : Int) (y : Int × Int × (El T63) × (El T65) × (El T69)) {r : Int × Int} (h : hazard_Yard_Slot thread slot y = some r) : HC Tryd.prog 27 [(1000, .box 71 (.int .i64 y.1 :: (.int .i64 y.2.1 :: (cellsX T63 y.2.2.1 ++ (cellsX T65 y.2.2.2.1 ++ (cellsX T69 y.2.2.2.2))))))] [.bp 1000 0, .int .i64 thread, .int .i64 slot] [(1000, .box 71 (.int .i64 y.1 :: (.int .i64 y.2.1 :: (cellsX T63 y.2.2.1 ++ (cellsX T65 y.2.2.2.1 ++ (cellsX T69 y.2.2.2.2))))))] (.tup [.int .i64 r.1, .int .i64 r.2]) := by
 unfold hazard_Yard_Slot at h
 refine zH Tryd.func27 [.tmp 6, .tmp 7] 27 ?_
 refine zo ?_
 refine zB [(0, .bp 1000 0), (1, .int .i64 thread), (2, .int .i64 slot)] [(1000, .box 71 (.int .i64 y.1 :: (.int .i64 y.2.1 :: (cellsX T63 y.2.2.1 ++ (cellsX T65 y.2.2.2.1 ++ (cellsX T69 y.2.2.2.2))))))] ?_
 refine AW.seq ?_
 refine zo ?_
 refine zS 2 [(0, .bp 1000 0), (1, .int .i64 thread), (2, .int .i64 slot), (9, .bp 1000 0), (10, .int .i64 thread)] [(1000, .box 71 (.int .i64 y.1 :: (.int .i64 y.2.1 :: (cellsX T63 y.2.2.1 ++ (cellsX T65 y.2.2.2.1 ++ (cellsX T69 y.2.2.2.2))))))] ?_
 obtain ⟨v0, hv1, h⟩ := Option.bind_eq_some_iff.1 h
 refine zC [] [] (hc_hazard_isThread thread hv1) [(0, .bp 1000 0), (1, .int .i64 thread), (2, .int .i64 slot), (9, .bp 1000 0), (11, .agg [.fn (.func 72) [] [.dp (.int .i64) thread 0], .int .i64 2])] [(1000, .box 71 (.int .i64 y.1 :: (.int .i64 y.2.1 :: (cellsX T63 y.2.2.1 ++ (cellsX T65 y.2.2.2.1 ++ (cellsX T69 y.2.2.2.2))))))] ?_
 refine zS 1 [(0, .bp 1000 0), (1, .int .i64 thread), (2, .int .i64 slot), (9, .bp 1000 0), (11, .agg [.fn (.func 72) [] [.dp (.int .i64) thread 0], .int .i64 2]), (12, .int .i64 slot)] [(1000, .box 71 (.int .i64 y.1 :: (.int .i64 y.2.1 :: (cellsX T63 y.2.2.1 ++ (cellsX T65 y.2.2.2.1 ++ (cellsX T69 y.2.2.2.2))))))] ?_
 obtain ⟨v0_2, hv2, h⟩ := Option.bind_eq_some_iff.1 h
 refine zC [] [] (hc_hazard_isSlot slot hv2) [(0, .bp 1000 0), (1, .int .i64 thread), (2, .int .i64 slot), (9, .bp 1000 0), (11, .agg [.fn (.func 72) [] [.dp (.int .i64) thread 0], .int .i64 2]), (13, .agg [.fn (.func 74) [] [.dp (.int .i64) slot 0], .int .i64 2])] [(1000, .box 71 (.int .i64 y.1 :: (.int .i64 y.2.1 :: (cellsX T63 y.2.2.1 ++ (cellsX T65 y.2.2.2.1 ++ (cellsX T69 y.2.2.2.2))))))] ?_
 refine AO.buildBox tab_ok rfl (by decide) (by decide) rfl rfl tab_92 rfl tab_81 (by decide) (by decide) rfl (by decide) (cs := [.fn (.func 72) [] [.dp (.int .i64) thread 0], .int .i64 2, .fn (.func 74) [] [.dp (.int .i64) slot 0], .int .i64 2]) rfl rfl rfl ?_
 refine zT [(0, .bp 1000 0), (1, .int .i64 thread), (2, .int .i64 slot), (9, .bp 1000 0), (14, .vw 14 2 0 2)] [(14, .box 81 [.fn (.func 72) [] [.dp (.int .i64) thread 0], .int .i64 2, .fn (.func 74) [] [.dp (.int .i64) slot 0], .int .i64 2]), (1000, .box 71 (.int .i64 y.1 :: (.int .i64 y.2.1 :: (cellsX T63 y.2.2.1 ++ (cellsX T65 y.2.2.2.1 ++ (cellsX T69 y.2.2.2.2))))))] gt ?_
 obtain ⟨v0_3, hv3, h⟩ := Option.bind_eq_some_iff.1 h
 refine zC [] [(1000, 1000), (1001, 14)] (hc_hazard_Yard_fails_4 y thread 2 slot 2 hv3) [(0, .bp 1000 0), (1, .int .i64 thread), (2, .int .i64 slot), (15, .int .i64 v0_3)] [(1000, .box 71 (.int .i64 y.1 :: (.int .i64 y.2.1 :: (cellsX T63 y.2.2.1 ++ (cellsX T65 y.2.2.2.1 ++ (cellsX T69 y.2.2.2.2))))))] ?_
 refine zB [(0, .bp 1000 0), (1, .int .i64 thread), (2, .int .i64 slot), (8, .int .i64 v0_3)] [(1000, .box 71 (.int .i64 y.1 :: (.int .i64 y.2.1 :: (cellsX T63 y.2.2.1 ++ (cellsX T65 y.2.2.2.1 ++ (cellsX T69 y.2.2.2.2))))))] ?_
 refine zo ?_
 refine zB [(0, .bp 1000 0), (1, .int .i64 thread), (2, .int .i64 slot), (8, .int .i64 v0_3), (17, .bool (!(decide (v0_3 = 0))))] [(1000, .box 71 (.int .i64 y.1 :: (.int .i64 y.2.1 :: (cellsX T63 y.2.2.1 ++ (cellsX T65 y.2.2.2.1 ++ (cellsX T69 y.2.2.2.2))))))] ?_
 refine zQ h (fun hb4 h => ?_) (fun hb4 h => ?_)
 ·refine zo ?_
  refine zB [(6, .int .i64 0), (7, .int .i64 v0_3)] [(1000, .box 71 (.int .i64 y.1 :: (.int .i64 y.2.1 :: (cellsX T63 y.2.2.1 ++ (cellsX T65 y.2.2.2.1 ++ (cellsX T69 y.2.2.2.2))))))] ?_
  refine zr ?_
  obtain rfl := Option.some.inj h
  exact zR [] [] []
 ·refine zk ?_
  refine zo ?_
  refine zS 5 [(20, .int .i64 thread), (21, .int .i64 slot), (23, .bp 1000 10)] [(1000, .box 71 (.int .i64 y.1 :: (.int .i64 y.2.1 :: (cellsX T63 y.2.2.1 ++ (cellsX T65 y.2.2.2.1 ++ (cellsX T69 y.2.2.2.2))))))] ?_
  obtain ⟨c5, h⟩ := ck_some.1 h
  obtain ⟨c6, h⟩ := ck_some.1 h
  obtain ⟨c7, h⟩ := ck_some.1 h
  obtain ⟨c8, h⟩ := ck_some.1 h
  have hx9 : ((thread.toNat * 2) + slot.toNat * 1) < 8 := by omega
  refine zB [(6, .int .i64 (intAt T65 y.2.2.2.1 ((thread.toNat * 2) + slot.toNat * 1))), (7, .int .i64 0)] [(1000, .box 71 (.int .i64 y.1 :: (.int .i64 y.2.1 :: (cellsX T63 y.2.2.1 ++ (cellsX T65 y.2.2.2.1 ++ (cellsX T69 y.2.2.2.2))))))] ?_
  refine AW.ret ?_
  obtain rfl := Option.some.inj h
  exact zR [] [] []

theorem hc_lineallaw06_has (l : List Int) (n : Int) {r : Bool} (h : lineallaw06_has l n = some r) : HC Tryd.prog 45 [] [.sl (.int .i64) l, .int .i64 n] [] (.bool r) := by
 unfold lineallaw06_has at h
 refine zH Tryd.func45 [.tmp 4] 18 ?_
 refine zo ?_
 refine zB [(0, .sl (.int .i64) l), (1, .int .i64 n)] [] ?_
 refine AW.have1 (fun _ : Unit => lineallaw06_has_k1 = some r) (fun _ => ⟨fr [], hpGet [], gt⟩) (fun _ h => ?_) (fun hk_lineallaw06_has_k1 => ?_)
 ·as_aux_lemma =>
   unfold lineallaw06_has_k1 at h
   refine zo ?_
   refine zB [(4, .bool false)] [] ?_
   refine AW.ret ?_
   obtain rfl := Option.some.inj h
   exact zR [] [] []
 ·refine AW.seq ?_
  refine zo ?_
  refine zB [(0, .sl (.int .i64) l), (1, .int .i64 n), (5, .int .i64 0)] [] ?_
  refine AW.block ?_
  obtain ⟨rv5, hw1, ho2⟩ := Option.bind_eq_some_iff.1 h
  refine AW.loopO (lineallaw06_has_b1 l n) (fun st1 => ⟨fr [(0, .sl (.int .i64) l), (1, .int .i64 n), (5, .int .i64 st1)], hpGet [], gt⟩) 0 hw1 (zL [] [] []) ?_
  as_aux_lemma =>
   intro st1 x4 h hd3
   unfold lineallaw06_has_b1 at h
   refine AW.seq ?_
   refine zo ?_
   refine zB [(0, .sl (.int .i64) l), (1, .int .i64 n), (5, .int .i64 st1), (9, .bool (decide (st1 < (l.length : Int))))] [] ?_
   refine zQ h (fun hb6 h => ?_) (fun hb6 h => ?_)
   ·refine zk ?_
    refine AW.seq ?_
    refine AW.block ?_
    refine zo ?_
    obtain ⟨c7, h⟩ := ck_some.1 h
    obtain ⟨c8, h⟩ := ck_some.1 h
    refine zS 5 [(0, .sl (.int .i64) l), (1, .int .i64 n), (5, .int .i64 st1), (15, .int .i64 (l.getD st1.toNat 0)), (16, .int .i64 n)] [] ?_
    refine zB [(0, .sl (.int .i64) l), (1, .int .i64 n), (5, .int .i64 st1), (17, .bool (decide ((l.getD st1.toNat 0) = n)))] [] ?_
    refine zQ h (fun hb9 h => ?_) (fun hb9 h => ?_)
    ·refine zo ?_
     refine zB [(4, .bool true)] [] ?_
     refine AW.ret ?_
     refine ablock_r ?_
     refine athen_r ?_
     obtain rfl := Option.some.inj h
     try rw [← hd3 _ rfl] at ho2
     have h := ho2
     try simp only at h
     refine athen_r ?_
     refine ablock_r ?_
     refine athen_r ?_
     obtain rfl := Option.some.inj h
     exact zR [] [] []
    ·refine zm ?_
     refine athen_n ?_
     refine AW.ops ?_
     obtain ⟨c10, h⟩ := ck_some.1 h
     refine zA [(0, .sl (.int .i64) l), (1, .int .i64 n), (5, .int .i64 (st1 + 1))] [] ?_
     obtain rfl := Option.some.inj h
     exact ⟨_, rfl, zL [] [] []⟩
   ·refine AW.exit ?_
    refine athen_e ?_
    obtain rfl := Option.some.inj h
    try rw [← hd3 _ rfl] at ho2
    have h := ho2
    try simp only at h
    refine athen_e ?_
    refine ablock_s ?_
    refine athen_n ?_
    exact AW.weaken (zL [] [] []) (hk_lineallaw06_has_k1 () h)

end Go.Proofs.YtcckpmeepcoafaaDoor
