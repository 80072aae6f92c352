/-
  Made by wip/tool/dc.py out of the print of the program: contracts.
-/
import Derived.Test.YtcckpmeepcoafaaDoorHzp
import Derived.Test.YtcckpmeepcoafaaDoorShz
import Derived.Test.YtcckpmeepcoafaaDoorHdc1
import Derived.Test.YtcckpmeepcoafaaDoorHdc2
import Derived.Test.YtcckpmeepcoafaaDoorHdc4
import Derived.Test.YtcckpmeepcoafaaDoorHdc7
namespace Go.Proofs.YtcckpmeepcoafaaDoor
open Go.RowKit

set_option linter.unusedSimpArgs false
set_option linter.unusedVariables false
set_option linter.constructorNameAsVariable false

set_option maxRecDepth 100000
set_option maxHeartbeats 40000000

theorem hc_hazard_Yard_fails_7 (y : Int × Int × (El T63) × (El T65) × (El T69)) (c0 : Int) (checks : Int) {r : Int} (h : hazard_Yard_fails_7 y c0 checks = some r) : HC Tryd.prog 49 [(1000, .box 71 (.int .i64 y.1 :: (.int .i64 y.2.1 :: (cellsX T63 y.2.2.1 ++ (cellsX T65 y.2.2.2.1 ++ (cellsX T69 y.2.2.2.2)))))), (1001, .box 81 [.fn (.func 70) [] [.dp (.int .i64) c0 0], .int .i64 checks])] [.bp 1000 0, .vw 1001 2 0 1] [(1000, .box 71 (.int .i64 y.1 :: (.int .i64 y.2.1 :: (cellsX T63 y.2.2.1 ++ (cellsX T65 y.2.2.2.1 ++ (cellsX T69 y.2.2.2.2)))))), (1001, .box 81 [.fn (.func 70) [] [.dp (.int .i64) c0 0], .int .i64 checks])] (.int .i64 r) := by
 unfold hazard_Yard_fails_7 at h
 refine zH Tryd.func49 [.tmp 4] 23 ?_
 refine zo ?_
 refine zB [(0, .bp 1000 0), (1, .vw 1001 2 0 1)] [(1000, .box 71 (.int .i64 y.1 :: (.int .i64 y.2.1 :: (cellsX T63 y.2.2.1 ++ (cellsX T65 y.2.2.2.1 ++ (cellsX T69 y.2.2.2.2)))))), (1001, .box 81 [.fn (.func 70) [] [.dp (.int .i64) c0 0], .int .i64 checks])] ?_
 refine AW.seq ?_
 refine zo ?_
 refine zS 1 [(0, .bp 1000 0), (1, .vw 1001 2 0 1), (7, .bp 1000 0)] [(1000, .box 71 (.int .i64 y.1 :: (.int .i64 y.2.1 :: (cellsX T63 y.2.2.1 ++ (cellsX T65 y.2.2.2.1 ++ (cellsX T69 y.2.2.2.2)))))), (1001, .box 81 [.fn (.func 70) [] [.dp (.int .i64) c0 0], .int .i64 checks])] ?_
 obtain ⟨v0, hv1, h⟩ := Option.bind_eq_some_iff.1 h
 refine zC [] [(1000, 1000)] (hc_hazard_Yard_isNone y hv1) [(0, .bp 1000 0), (1, .vw 1001 2 0 1), (8, .bool (decide (y.1 = 0)))] [(1000, .box 71 (.int .i64 y.1 :: (.int .i64 y.2.1 :: (cellsX T63 y.2.2.1 ++ (cellsX T65 y.2.2.2.1 ++ (cellsX T69 y.2.2.2.2)))))), (1001, .box 81 [.fn (.func 70) [] [.dp (.int .i64) c0 0], .int .i64 checks])] ?_
 refine zB [(0, .bp 1000 0), (1, .vw 1001 2 0 1), (8, .bool (decide (y.1 = 0)))] [(1000, .box 71 (.int .i64 y.1 :: (.int .i64 y.2.1 :: (cellsX T63 y.2.2.1 ++ (cellsX T65 y.2.2.2.1 ++ (cellsX T69 y.2.2.2.2)))))), (1001, .box 81 [.fn (.func 70) [] [.dp (.int .i64) c0 0], .int .i64 checks])] ?_
 refine zQ h (fun hb2 h => ?_) (fun hb2 h => ?_)
 ·refine zo ?_
  refine zB [(4, .int .i64 60)] [(1000, .box 71 (.int .i64 y.1 :: (.int .i64 y.2.1 :: (cellsX T63 y.2.2.1 ++ (cellsX T65 y.2.2.2.1 ++ (cellsX T69 y.2.2.2.2)))))), (1001, .box 81 [.fn (.func 70) [] [.dp (.int .i64) c0 0], .int .i64 checks])] ?_
  refine zr ?_
  obtain rfl := Option.some.inj h
  exact zR [] [] []
 ·refine zk ?_
  refine AW.have1 (fun _ : Unit => hazard_Yard_fails_7_k1 = some r) (fun _ => ⟨fr [], hpGet [(1000, .box 71 (.int .i64 y.1 :: (.int .i64 y.2.1 :: (cellsX T63 y.2.2.1 ++ (cellsX T65 y.2.2.2.1 ++ (cellsX T69 y.2.2.2.2)))))), (1001, .box 81 [.fn (.func 70) [] [.dp (.int .i64) c0 0], .int .i64 checks])], gt⟩) (fun _ h => ?_) (fun hk_hazard_Yard_fails_7_k1 => ?_)
  ·as_aux_lemma =>
    unfold hazard_Yard_fails_7_k1 at h
    refine zo ?_
    refine zB [(4, .int .i64 0)] [(1000, .box 71 (.int .i64 y.1 :: (.int .i64 y.2.1 :: (cellsX T63 y.2.2.1 ++ (cellsX T65 y.2.2.2.1 ++ (cellsX T69 y.2.2.2.2)))))), (1001, .box 81 [.fn (.func 70) [] [.dp (.int .i64) c0 0], .int .i64 checks])] ?_
    refine AW.ret ?_
    obtain rfl := Option.some.inj h
    exact zR [] [] []
  ·refine AW.seq ?_
   refine zo ?_
   refine zB [(0, .bp 1000 0), (9, .vw 1001 2 0 1), (10, .int .i64 1), (11, .int .i64 0)] [(1000, .box 71 (.int .i64 y.1 :: (.int .i64 y.2.1 :: (cellsX T63 y.2.2.1 ++ (cellsX T65 y.2.2.2.1 ++ (cellsX T69 y.2.2.2.2)))))), (1001, .box 81 [.fn (.func 70) [] [.dp (.int .i64) c0 0], .int .i64 checks])] ?_
   refine AW.block ?_
   refine AW.unroll 8 ?_
   refine LoopU.nx ?_
   refine zo ?_
   refine zB [(0, .bp 1000 0), (9, .vw 1001 2 0 1), (10, .int .i64 1), (11, .int .i64 0), (12, .bool true)] [(1000, .box 71 (.int .i64 y.1 :: (.int .i64 y.2.1 :: (cellsX T63 y.2.2.1 ++ (cellsX T65 y.2.2.2.1 ++ (cellsX T69 y.2.2.2.2)))))), (1001, .box 81 [.fn (.func 70) [] [.dp (.int .i64) c0 0], .int .i64 checks])] ?_
   refine AW.seq ?_
   refine AW.cond (b := true) rfl (fun _ => ?_) (fun hb3 => by cases hb3)
   refine zk ?_
   refine AW.seq ?_
   refine AW.block ?_
   refine zo ?_
   refine AO.idxBox tab_ok (by decide) rfl rfl tab_92 rfl tab_81 rfl rfl rfl (by decide) (by decide) (at_ := 0) rfl ?_
   refine zT [(0, .bp 1000 0), (9, .vw 1001 2 0 1), (10, .int .i64 1), (11, .int .i64 0), (13, .bp 1001 0)] [(1000, .box 71 (.int .i64 y.1 :: (.int .i64 y.2.1 :: (cellsX T63 y.2.2.1 ++ (cellsX T65 y.2.2.2.1 ++ (cellsX T69 y.2.2.2.2)))))), (1001, .box 81 [.fn (.func 70) [] [.dp (.int .i64) c0 0], .int .i64 checks])] gt ?_
   refine zB [(0, .bp 1000 0), (6, .bp 6 0), (9, .vw 1001 2 0 1), (10, .int .i64 1), (11, .int .i64 0)] [(6, .box 81 [.fn (.func 70) [] [.dp (.int .i64) c0 0], .int .i64 checks]), (1000, .box 71 (.int .i64 y.1 :: (.int .i64 y.2.1 :: (cellsX T63 y.2.2.1 ++ (cellsX T65 y.2.2.2.1 ++ (cellsX T69 y.2.2.2.2)))))), (1001, .box 81 [.fn (.func 70) [] [.dp (.int .i64) c0 0], .int .i64 checks])] ?_
   refine zo ?_
   refine zS 3 [(0, .bp 1000 0), (6, .bp 6 0), (9, .vw 1001 2 0 1), (10, .int .i64 1), (11, .int .i64 0), (16, .fn (.func 70) [] [.dp (.int .i64) c0 0]), (17, .bp 1000 0)] [(6, .box 81 [.fn (.func 70) [] [.dp (.int .i64) c0 0], .int .i64 checks]), (1000, .box 71 (.int .i64 y.1 :: (.int .i64 y.2.1 :: (cellsX T63 y.2.2.1 ++ (cellsX T65 y.2.2.2.1 ++ (cellsX T69 y.2.2.2.2)))))), (1001, .box 81 [.fn (.func 70) [] [.dp (.int .i64) c0 0], .int .i64 checks])] ?_
   obtain ⟨v0_2, hv4, h⟩ := Option.bind_eq_some_iff.1 h
   refine zC [] [(1000, 1000)] (hc_hazard_isNode_1 c0 y hv4) [(0, .bp 1000 0), (6, .bp 6 0), (9, .vw 1001 2 0 1), (10, .int .i64 1), (11, .int .i64 0), (18, .bool v0_2)] [(6, .box 81 [.fn (.func 70) [] [.dp (.int .i64) c0 0], .int .i64 checks]), (1000, .box 71 (.int .i64 y.1 :: (.int .i64 y.2.1 :: (cellsX T63 y.2.2.1 ++ (cellsX T65 y.2.2.2.1 ++ (cellsX T69 y.2.2.2.2)))))), (1001, .box 81 [.fn (.func 70) [] [.dp (.int .i64) c0 0], .int .i64 checks])] ?_
   refine zB [(0, .bp 1000 0), (6, .bp 6 0), (9, .vw 1001 2 0 1), (10, .int .i64 1), (11, .int .i64 0), (19, .bool (!v0_2))] [(6, .box 81 [.fn (.func 70) [] [.dp (.int .i64) c0 0], .int .i64 checks]), (1000, .box 71 (.int .i64 y.1 :: (.int .i64 y.2.1 :: (cellsX T63 y.2.2.1 ++ (cellsX T65 y.2.2.2.1 ++ (cellsX T69 y.2.2.2.2)))))), (1001, .box 81 [.fn (.func 70) [] [.dp (.int .i64) c0 0], .int .i64 checks])] ?_
   refine zQ h (fun hb5 h => ?_) (fun hb5 h => ?_)
   ·refine zo ?_
    refine zB [(4, .int .i64 checks)] [(1000, .box 71 (.int .i64 y.1 :: (.int .i64 y.2.1 :: (cellsX T63 y.2.2.1 ++ (cellsX T65 y.2.2.2.1 ++ (cellsX T69 y.2.2.2.2)))))), (1001, .box 81 [.fn (.func 70) [] [.dp (.int .i64) c0 0], .int .i64 checks])] ?_
    refine AW.ret ?_
    refine ablock_r ?_
    refine athen_r ?_
    refine athen_r ?_
    refine ablock_r ?_
    refine athen_r ?_
    obtain rfl := Option.some.inj h
    exact zR [] [] []
   ·refine zm ?_
    refine athen_n ?_
    refine AW.ops ?_
    obtain ⟨c6, h⟩ := ck_some.1 h
    refine zA [(0, .bp 1000 0), (9, .vw 1001 2 0 1), (10, .int .i64 1), (11, .int .i64 1)] [(1000, .box 71 (.int .i64 y.1 :: (.int .i64 y.2.1 :: (cellsX T63 y.2.2.1 ++ (cellsX T65 y.2.2.2.1 ++ (cellsX T69 y.2.2.2.2)))))), (1001, .box 81 [.fn (.func 70) [] [.dp (.int .i64) c0 0], .int .i64 checks])] ?_
    refine LoopU.at_ ?_
    refine LoopU.nx ?_
    refine zo ?_
    refine zB [(0, .bp 1000 0), (9, .vw 1001 2 0 1), (10, .int .i64 1), (11, .int .i64 1), (12, .bool false)] [(1000, .box 71 (.int .i64 y.1 :: (.int .i64 y.2.1 :: (cellsX T63 y.2.2.1 ++ (cellsX T65 y.2.2.2.1 ++ (cellsX T69 y.2.2.2.2)))))), (1001, .box 81 [.fn (.func 70) [] [.dp (.int .i64) c0 0], .int .i64 checks])] ?_
    refine AW.seq ?_
    refine AW.cond (b := false) rfl (fun hb7 => by cases hb7) (fun _ => ?_)
    refine AW.exit ?_
    refine athen_e ?_
    refine athen_e ?_
    refine ablock_s ?_
    refine athen_n ?_
    exact AW.weaken (zL [] [] []) (hk_hazard_Yard_fails_7_k1 () h)

theorem hc_hazard_Yard_State (node : Int) (y : Int × Int × (El T63) × (El T65) × (El T69)) {r : Int × Int} (h : hazard_Yard_State node y = some r) : HC Tryd.prog 22 [(1000, .box 71 (.int .i64 y.1 :: (.int .i64 y.2.1 :: (cellsX T63 y.2.2.1 ++ (cellsX T65 y.2.2.2.1 ++ (cellsX T69 y.2.2.2.2))))))] [.bp 1000 0, .int .i64 node] [(1000, .box 71 (.int .i64 y.1 :: (.int .i64 y.2.1 :: (cellsX T63 y.2.2.1 ++ (cellsX T65 y.2.2.2.1 ++ (cellsX T69 y.2.2.2.2))))))] (.tup [.int .i64 r.1, .int .i64 r.2]) := by
 unfold hazard_Yard_State at h
 refine zH Tryd.func22 [.tmp 4, .tmp 5] 21 ?_
 refine zo ?_
 refine zB [(0, .bp 1000 0), (1, .int .i64 node)] [(1000, .box 71 (.int .i64 y.1 :: (.int .i64 y.2.1 :: (cellsX T63 y.2.2.1 ++ (cellsX T65 y.2.2.2.1 ++ (cellsX T69 y.2.2.2.2))))))] ?_
 refine AW.seq ?_
 refine zo ?_
 refine zS 2 [(0, .bp 1000 0), (1, .int .i64 node), (7, .bp 1000 0), (8, .int .i64 node)] [(1000, .box 71 (.int .i64 y.1 :: (.int .i64 y.2.1 :: (cellsX T63 y.2.2.1 ++ (cellsX T65 y.2.2.2.1 ++ (cellsX T69 y.2.2.2.2))))))] ?_
 obtain ⟨v0, hv1, h⟩ := Option.bind_eq_some_iff.1 h
 refine zC [] [] (hc_hazard_isNode node hv1) [(0, .bp 1000 0), (1, .int .i64 node), (7, .bp 1000 0), (9, .agg [.fn (.func 70) [] [.dp (.int .i64) node 0], .int .i64 2])] [(1000, .box 71 (.int .i64 y.1 :: (.int .i64 y.2.1 :: (cellsX T63 y.2.2.1 ++ (cellsX T65 y.2.2.2.1 ++ (cellsX T69 y.2.2.2.2))))))] ?_
 refine AO.buildBox tab_ok rfl (by decide) (by decide) rfl rfl tab_92 rfl tab_81 (by decide) (by decide) rfl (by decide) (cs := [.fn (.func 70) [] [.dp (.int .i64) node 0], .int .i64 2]) rfl rfl rfl ?_
 refine zT [(0, .bp 1000 0), (1, .int .i64 node), (7, .bp 1000 0), (10, .vw 10 2 0 1)] [(10, .box 81 [.fn (.func 70) [] [.dp (.int .i64) node 0], .int .i64 2]), (1000, .box 71 (.int .i64 y.1 :: (.int .i64 y.2.1 :: (cellsX T63 y.2.2.1 ++ (cellsX T65 y.2.2.2.1 ++ (cellsX T69 y.2.2.2.2))))))] gt ?_
 obtain ⟨v0_2, hv2, h⟩ := Option.bind_eq_some_iff.1 h
 refine zC [] [(1000, 1000), (1001, 10)] (hc_hazard_Yard_fails_7 y node 2 hv2) [(0, .bp 1000 0), (1, .int .i64 node), (11, .int .i64 v0_2)] [(1000, .box 71 (.int .i64 y.1 :: (.int .i64 y.2.1 :: (cellsX T63 y.2.2.1 ++ (cellsX T65 y.2.2.2.1 ++ (cellsX T69 y.2.2.2.2))))))] ?_
 refine zB [(0, .bp 1000 0), (1, .int .i64 node), (6, .int .i64 v0_2)] [(1000, .box 71 (.int .i64 y.1 :: (.int .i64 y.2.1 :: (cellsX T63 y.2.2.1 ++ (cellsX T65 y.2.2.2.1 ++ (cellsX T69 y.2.2.2.2))))))] ?_
 refine zo ?_
 refine zB [(0, .bp 1000 0), (1, .int .i64 node), (6, .int .i64 v0_2), (13, .bool (!(decide (v0_2 = 0))))] [(1000, .box 71 (.int .i64 y.1 :: (.int .i64 y.2.1 :: (cellsX T63 y.2.2.1 ++ (cellsX T65 y.2.2.2.1 ++ (cellsX T69 y.2.2.2.2))))))] ?_
 refine zQ h (fun hb3 h => ?_) (fun hb3 h => ?_)
 ·refine zo ?_
  refine zB [(4, .int .i64 0), (5, .int .i64 v0_2)] [(1000, .box 71 (.int .i64 y.1 :: (.int .i64 y.2.1 :: (cellsX T63 y.2.2.1 ++ (cellsX T65 y.2.2.2.1 ++ (cellsX T69 y.2.2.2.2))))))] ?_
  refine zr ?_
  obtain rfl := Option.some.inj h
  exact zR [] [] []
 ·refine zk ?_
  refine zo ?_
  obtain ⟨c4, h⟩ := ck_some.1 h
  obtain ⟨c5, h⟩ := ck_some.1 h
  refine zS 5 [(19, .bp 1000 (2 + node.toNat * 1))] [(1000, .box 71 (.int .i64 y.1 :: (.int .i64 y.2.1 :: (cellsX T63 y.2.2.1 ++ (cellsX T65 y.2.2.2.1 ++ (cellsX T69 y.2.2.2.2))))))] ?_
  have hx6 : (node.toNat * 1) < 8 := by omega
  refine zB [(4, .int .i64 (intAt T63 y.2.2.1 (node.toNat * 1))), (5, .int .i64 0)] [(1000, .box 71 (.int .i64 y.1 :: (.int .i64 y.2.1 :: (cellsX T63 y.2.2.1 ++ (cellsX T65 y.2.2.2.1 ++ (cellsX T69 y.2.2.2.2))))))] ?_
  refine AW.ret ?_
  obtain rfl := Option.some.inj h
  exact zR [] [] []

theorem hc_lineallaw06_has (l : List Int) (n : Int) {r : Bool} (h : lineallaw06_has l n = some r) : HC Tryd.prog 45 [] [.sl (.int .i64) l, .int .i64 n] [] (.bool r) := by
 unfold lineallaw06_has at h
 refine zH Tryd.func45 [.tmp 4] 18 ?_
 refine zo ?_
 refine zB [(0, .sl (.int .i64) l), (1, .int .i64 n)] [] ?_
 refine AW.have1 (fun _ : Unit => lineallaw06_has_k1 = some r) (fun _ => ⟨fr [], hpGet [], gt⟩) (fun _ h => ?_) (fun hk_lineallaw06_has_k1 => ?_)
 ·as_aux_lemma =>
   unfold lineallaw06_has_k1 at h
   refine zo ?_
   refine zB [(4, .bool false)] [] ?_
   refine AW.ret ?_
   obtain rfl := Option.some.inj h
   exact zR [] [] []
 ·refine AW.seq ?_
  refine zo ?_
  refine zB [(0, .sl (.int .i64) l), (1, .int .i64 n), (5, .int .i64 0)] [] ?_
  refine AW.block ?_
  obtain ⟨rv5, hw1, ho2⟩ := Option.bind_eq_some_iff.1 h
  refine AW.loopO (lineallaw06_has_b1 l n) (fun st1 => ⟨fr [(0, .sl (.int .i64) l), (1, .int .i64 n), (5, .int .i64 st1)], hpGet [], gt⟩) 0 hw1 (zL [] [] []) ?_
  as_aux_lemma =>
   intro st1 x4 h hd3
   unfold lineallaw06_has_b1 at h
   refine AW.seq ?_
   refine zo ?_
   refine zB [(0, .sl (.int .i64) l), (1, .int .i64 n), (5, .int .i64 st1), (9, .bool (decide (st1 < (l.length : Int))))] [] ?_
   refine zQ h (fun hb6 h => ?_) (fun hb6 h => ?_)
   ·refine zk ?_
    refine AW.seq ?_
    refine AW.block ?_
    refine zo ?_
    obtain ⟨c7, h⟩ := ck_some.1 h
    obtain ⟨c8, h⟩ := ck_some.1 h
    refine zS 5 [(0, .sl (.int .i64) l), (1, .int .i64 n), (5, .int .i64 st1), (15, .int .i64 (l.getD st1.toNat 0)), (16, .int .i64 n)] [] ?_
    refine zB [(0, .sl (.int .i64) l), (1, .int .i64 n), (5, .int .i64 st1), (17, .bool (decide ((l.getD st1.toNat 0) = n)))] [] ?_
    refine zQ h (fun hb9 h => ?_) (fun hb9 h => ?_)
    ·refine zo ?_
     refine zB [(4, .bool true)] [] ?_
     refine AW.ret ?_
     refine ablock_r ?_
     refine athen_r ?_
     obtain rfl := Option.some.inj h
     try rw [← hd3 _ rfl] at ho2
     have h := ho2
     try simp only at h
     refine athen_r ?_
     refine ablock_r ?_
     refine athen_r ?_
     obtain rfl := Option.some.inj h
     exact zR [] [] []
    ·refine zm ?_
     refine athen_n ?_
     refine AW.ops ?_
     obtain ⟨c10, h⟩ := ck_some.1 h
     refine zA [(0, .sl (.int .i64) l), (1, .int .i64 n), (5, .int .i64 (st1 + 1))] [] ?_
     obtain rfl := Option.some.inj h
     exact ⟨_, rfl, zL [] [] []⟩
   ·refine AW.exit ?_
    refine athen_e ?_
    obtain rfl := Option.some.inj h
    try rw [← hd3 _ rfl] at ho2
    have h := ho2
    try simp only at h
    refine athen_e ?_
    refine ablock_s ?_
    refine athen_n ?_
    exact AW.weaken (zL [] [] []) (hk_lineallaw06_has_k1 () h)

theorem hc_hazard_Yard_List (thread : Int) (y : Int × Int × (El T63) × (El T65) × (El T69)) {r : (List Int) × Int} (h : hazard_Yard_List thread y = some r) : HC Tryd.prog 24 [(1000, .box 71 (.int .i64 y.1 :: (.int .i64 y.2.1 :: (cellsX T63 y.2.2.1 ++ (cellsX T65 y.2.2.2.1 ++ (cellsX T69 y.2.2.2.2))))))] [.bp 1000 0, .int .i64 thread] [(1000, .box 71 (.int .i64 y.1 :: (.int .i64 y.2.1 :: (cellsX T63 y.2.2.1 ++ (cellsX T65 y.2.2.2.1 ++ (cellsX T69 y.2.2.2.2)))))), (2000, .arr 3 (.int .i64) r.1)] (.tup [.own 2000, .int .i64 r.2]) := by
 unfold hazard_Yard_List at h
 refine zH Tryd.func24 [.tmp 4, .tmp 5] 22 ?_
 refine zo ?_
 refine zB [(0, .bp 1000 0), (1, .int .i64 thread)] [(1000, .box 71 (.int .i64 y.1 :: (.int .i64 y.2.1 :: (cellsX T63 y.2.2.1 ++ (cellsX T65 y.2.2.2.1 ++ (cellsX T69 y.2.2.2.2))))))] ?_
 refine AW.seq ?_
 refine zo ?_
 refine zS 2 [(0, .bp 1000 0), (1, .int .i64 thread), (7, .bp 1000 0), (8, .int .i64 thread)] [(1000, .box 71 (.int .i64 y.1 :: (.int .i64 y.2.1 :: (cellsX T63 y.2.2.1 ++ (cellsX T65 y.2.2.2.1 ++ (cellsX T69 y.2.2.2.2))))))] ?_
 obtain ⟨v0, hv1, h⟩ := Option.bind_eq_some_iff.1 h
 refine zC [] [] (hc_hazard_isThread thread hv1) [(0, .bp 1000 0), (1, .int .i64 thread), (7, .bp 1000 0), (9, .agg [.fn (.func 72) [] [.dp (.int .i64) thread 0], .int .i64 2])] [(1000, .box 71 (.int .i64 y.1 :: (.int .i64 y.2.1 :: (cellsX T63 y.2.2.1 ++ (cellsX T65 y.2.2.2.1 ++ (cellsX T69 y.2.2.2.2))))))] ?_
 refine AO.buildBox tab_ok rfl (by decide) (by decide) rfl rfl tab_92 rfl tab_81 (by decide) (by decide) rfl (by decide) (cs := [.fn (.func 72) [] [.dp (.int .i64) thread 0], .int .i64 2]) rfl rfl rfl ?_
 refine zT [(0, .bp 1000 0), (1, .int .i64 thread), (7, .bp 1000 0), (10, .vw 10 2 0 1)] [(10, .box 81 [.fn (.func 72) [] [.dp (.int .i64) thread 0], .int .i64 2]), (1000, .box 71 (.int .i64 y.1 :: (.int .i64 y.2.1 :: (cellsX T63 y.2.2.1 ++ (cellsX T65 y.2.2.2.1 ++ (cellsX T69 y.2.2.2.2))))))] gt ?_
 obtain ⟨v0_2, hv2, h⟩ := Option.bind_eq_some_iff.1 h
 refine zC [] [(1000, 1000), (1001, 10)] (hc_hazard_Yard_fails_2 y thread 2 hv2) [(0, .bp 1000 0), (1, .int .i64 thread), (11, .int .i64 v0_2)] [(1000, .box 71 (.int .i64 y.1 :: (.int .i64 y.2.1 :: (cellsX T63 y.2.2.1 ++ (cellsX T65 y.2.2.2.1 ++ (cellsX T69 y.2.2.2.2))))))] ?_
 refine zB [(0, .bp 1000 0), (1, .int .i64 thread), (6, .int .i64 v0_2)] [(1000, .box 71 (.int .i64 y.1 :: (.int .i64 y.2.1 :: (cellsX T63 y.2.2.1 ++ (cellsX T65 y.2.2.2.1 ++ (cellsX T69 y.2.2.2.2))))))] ?_
 refine zo ?_
 refine zB [(0, .bp 1000 0), (1, .int .i64 thread), (6, .int .i64 v0_2), (13, .bool (!(decide (v0_2 = 0))))] [(1000, .box 71 (.int .i64 y.1 :: (.int .i64 y.2.1 :: (cellsX T63 y.2.2.1 ++ (cellsX T65 y.2.2.2.1 ++ (cellsX T69 y.2.2.2.2))))))] ?_
 refine zQ h (fun hb3 h => ?_) (fun hb3 h => ?_)
 ·refine zo ?_
  refine zB [(4, .cv (.slice none 0 0)), (5, .int .i64 v0_2)] [(1000, .box 71 (.int .i64 y.1 :: (.int .i64 y.2.1 :: (cellsX T63 y.2.2.1 ++ (cellsX T65 y.2.2.2.1 ++ (cellsX T69 y.2.2.2.2))))))] ?_
  refine zr ?_
  obtain rfl := Option.some.inj h
  exact zR [] [2000] []
 ·refine zk ?_
  refine zo ?_
  obtain ⟨c4, h⟩ := ck_some.1 h
  obtain ⟨c5, h⟩ := ck_some.1 h
  refine zS 5 [(19, .bp 1000 (18 + thread.toNat * 9))] [(1000, .box 71 (.int .i64 y.1 :: (.int .i64 y.2.1 :: (cellsX T63 y.2.2.1 ++ (cellsX T65 y.2.2.2.1 ++ (cellsX T69 y.2.2.2.2))))))] ?_
  have hx6 : ((thread.toNat * 9) + 9) ≤ 36 := by omega
  refine zS 1 [(20, .agg (.int .i64 (intAt T69 y.2.2.2.2 (thread.toNat * 9)) :: (cellsX T66 (subX T69 y.2.2.2.2 T66 ((thread.toNat * 9) + 1)))))] [(1000, .box 71 (.int .i64 y.1 :: (.int .i64 y.2.1 :: (cellsX T63 y.2.2.1 ++ (cellsX T65 y.2.2.2.1 ++ (cellsX T69 y.2.2.2.2))))))] ?_
  obtain ⟨v0_3, hv7, h⟩ := Option.bind_eq_some_iff.1 h
  refine zC [] [] (hc_hazard_list_all ((intAt T69 y.2.2.2.2 (thread.toNat * 9)), (subX T69 y.2.2.2.2 T66 ((thread.toNat * 9) + 1))) hv7) [(21, .own 31000)] [(1000, .box 71 (.int .i64 y.1 :: (.int .i64 y.2.1 :: (cellsX T63 y.2.2.1 ++ (cellsX T65 y.2.2.2.1 ++ (cellsX T69 y.2.2.2.2)))))), (31000, .arr 3 (.int .i64) v0_3)] ?_
  refine zB [(4, .own 31000), (5, .int .i64 0)] [(1000, .box 71 (.int .i64 y.1 :: (.int .i64 y.2.1 :: (cellsX T63 y.2.2.1 ++ (cellsX T65 y.2.2.2.1 ++ (cellsX T69 y.2.2.2.2)))))), (31000, .arr 3 (.int .i64) v0_3)] ?_
  refine AW.ret ?_
  obtain rfl := Option.some.inj h
  exact zR [] [] [(2000, 31000)]

theorem hc_hazard_Yard_Free (y : Int × Int × (El T63) × (El T65) × (El T69)) {r : Int} (h : hazard_Yard_Free y = some r) : HC Tryd.prog 47 [(1000, .box 71 (.int .i64 y.1 :: (.int .i64 y.2.1 :: (cellsX T63 y.2.2.1 ++ (cellsX T65 y.2.2.2.1 ++ (cellsX T69 y.2.2.2.2))))))] [.bp 1000 0] [(1000, .box 71 (.int .i64 y.1 :: (.int .i64 y.2.1 :: (cellsX T63 y.2.2.1 ++ (cellsX T65 y.2.2.2.1 ++ (cellsX T69 y.2.2.2.2))))))] (.int .i64 r) := by
 unfold hazard_Yard_Free at h
 refine zH Tryd.func47 [.tmp 2] 5 ?_
 refine zo ?_
 refine zB [(0, .bp 1000 0)] [(1000, .box 71 (.int .i64 y.1 :: (.int .i64 y.2.1 :: (cellsX T63 y.2.2.1 ++ (cellsX T65 y.2.2.2.1 ++ (cellsX T69 y.2.2.2.2))))))] ?_
 refine zo ?_
 refine zS 1 [(3, .bp 1000 0)] [(1000, .box 71 (.int .i64 y.1 :: (.int .i64 y.2.1 :: (cellsX T63 y.2.2.1 ++ (cellsX T65 y.2.2.2.1 ++ (cellsX T69 y.2.2.2.2))))))] ?_
 obtain ⟨v0, hv1, h⟩ := Option.bind_eq_some_iff.1 h
 refine zC [] [(1000, 1000)] (hc_hazard_Yard_count 0 y hv1) [(4, .int .i64 v0)] [(1000, .box 71 (.int .i64 y.1 :: (.int .i64 y.2.1 :: (cellsX T63 y.2.2.1 ++ (cellsX T65 y.2.2.2.1 ++ (cellsX T69 y.2.2.2.2))))))] ?_
 refine zB [(2, .int .i64 v0)] [(1000, .box 71 (.int .i64 y.1 :: (.int .i64 y.2.1 :: (cellsX T63 y.2.2.1 ++ (cellsX T65 y.2.2.2.1 ++ (cellsX T69 y.2.2.2.2))))))] ?_
 refine AW.ret ?_
 obtain rfl := Option.some.inj h
 exact zR [] [] []

end Go.Proofs.YtcckpmeepcoafaaDoor
