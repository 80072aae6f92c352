/-
  Made by wip/tool/dc.py out of the print of the program: contracts.
-/
import Derived.Test.YtcckpmeepcoafaaDoorHzp
import Derived.Test.YtcckpmeepcoafaaDoorShz
import Derived.Test.YtcckpmeepcoafaaDoorAvd
import Derived.Test.YtcckpmeepcoafaaDoorHac6
import Derived.Test.YtcckpmeepcoafaaDoorHac7
import Derived.Test.YtcckpmeepcoafaaDoorHac8
namespace Go.Proofs.YtcckpmeepcoafaaDoor
open Go.RowKit

set_option linter.unusedSimpArgs false
set_option linter.unusedVariables false
set_option linter.constructorNameAsVariable false

set_option maxRecDepth 100000
set_option maxHeartbeats 40000000

theorem hc_lineallaw06_HazardSafes (shape : Int × Int) (deeds : List (Int × Int × Int × Int)) {r : Bool} (h : lineallaw06_HazardSafes shape deeds = some r) : HC Tryd.prog 6 [] [.agg [.int .u8 shape.1, .int .u8 shape.2], .sl (.pair (.int .i64) (.pair (.int .i64) (.pair (.int .i64) (.int .i64)))) deeds] [] (.bool r) := by
 unfold lineallaw06_HazardSafes at h
 refine zH Tryd.func6 [.tmp 4] 128 ?_
 refine zo ?_
 refine zB [(1, .sl (.pair (.int .i64) (.pair (.int .i64) (.pair (.int .i64) (.int .i64)))) deeds), (2, .bp 2 0)] [(2, .box 55 [.int .u8 shape.1, .int .u8 shape.2])] ?_
 refine AW.seq ?_
 refine zo ?_
 refine zB [(1, .sl (.pair (.int .i64) (.pair (.int .i64) (.pair (.int .i64) (.int .i64)))) deeds), (2, .bp 2 0), (19, .bool (decide (100 < (deeds.length : Int))))] [(2, .box 55 [.int .u8 shape.1, .int .u8 shape.2])] ?_
 refine zQ h (fun hb1 h => ?_) (fun hb1 h => ?_)
 ·refine zo ?_
  obtain ⟨v0, hv2, h⟩ := Option.bind_eq_some_iff.1 h
  refine zC [] [] (hc_lineallaw06_Sane hv2) [(20, .bool v0)] [] ?_
  refine zB [(4, .bool v0)] [] ?_
  refine zr ?_
  obtain rfl := Option.some.inj h
  exact zR [] [] []
 ·refine zk ?_
  refine zo ?_
  refine zS 1 [(1, .sl (.pair (.int .i64) (.pair (.int .i64) (.pair (.int .i64) (.int .i64)))) deeds), (2, .bp 2 0), (21, .agg [.int .u8 shape.1, .int .u8 shape.2])] [(2, .box 55 [.int .u8 shape.1, .int .u8 shape.2])] ?_
  obtain ⟨v0_2, hv3, h⟩ := Option.bind_eq_some_iff.1 h
  rcases v0_2 with v0_3 | v0_4
  ·try simp only at h
   refine zC [] [] (hc_lineallaw06_done_a0 shape [] hv3) [(1, .sl (.pair (.int .i64) (.pair (.int .i64) (.pair (.int .i64) (.int .i64)))) deeds), (2, .bp 2 0), (22, .cv (.pointer none))] [(2, .box 55 [.int .u8 shape.1, .int .u8 shape.2])] ?_
   refine zB [(1, .sl (.pair (.int .i64) (.pair (.int .i64) (.pair (.int .i64) (.int .i64)))) deeds), (2, .bp 2 0), (5, .cv (.pointer none))] [(2, .box 55 [.int .u8 shape.1, .int .u8 shape.2])] ?_
   refine AW.seq ?_
   refine zo ?_
   refine zS 1 [(1, .sl (.pair (.int .i64) (.pair (.int .i64) (.pair (.int .i64) (.int .i64)))) deeds), (2, .bp 2 0), (5, .cv (.pointer none)), (23, .cv (.pointer none))] [(2, .box 55 [.int .u8 shape.1, .int .u8 shape.2])] ?_
   refine AO.ptrNil (neg := false) (p := true) (by decide) (.inl rfl) (by kernel_rfl) rfl rfl rfl ?_
   refine zT [(1, .sl (.pair (.int .i64) (.pair (.int .i64) (.pair (.int .i64) (.int .i64)))) deeds), (2, .bp 2 0), (5, .cv (.pointer none)), (24, .bool true)] [(2, .box 55 [.int .u8 shape.1, .int .u8 shape.2])] gt ?_
   refine zB [(1, .sl (.pair (.int .i64) (.pair (.int .i64) (.pair (.int .i64) (.int .i64)))) deeds), (2, .bp 2 0), (5, .cv (.pointer none)), (24, .bool true)] [(2, .box 55 [.int .u8 shape.1, .int .u8 shape.2])] ?_
   refine AW.cond (b := true) rfl (fun _ => ?_) (fun hb4 => by cases hb4)
   refine zo ?_
   refine zB [(4, .bool false)] [] ?_
   refine zr ?_
   obtain rfl := Option.some.inj h
   exact zR [] [] []
  ·try simp only at h
   refine zC [] [] (hc_lineallaw06_done_a1 shape [] hv3) [(1, .sl (.pair (.int .i64) (.pair (.int .i64) (.pair (.int .i64) (.int .i64)))) deeds), (2, .bp 2 0), (22, .bp 32000 0)] [(2, .box 55 [.int .u8 shape.1, .int .u8 shape.2]), (32000, .box 71 (.int .i64 (1 + (shape.1 % 4)) :: (.int .i64 (1 + (shape.2 % 4)) :: (cellsX T63 v0_4.1 ++ (cellsX T65 v0_4.2.1 ++ (cellsX T69 v0_4.2.2))))))] ?_
   refine zB [(1, .sl (.pair (.int .i64) (.pair (.int .i64) (.pair (.int .i64) (.int .i64)))) deeds), (2, .bp 2 0), (5, .bp 32000 0)] [(2, .box 55 [.int .u8 shape.1, .int .u8 shape.2]), (32000, .box 71 (.int .i64 (1 + (shape.1 % 4)) :: (.int .i64 (1 + (shape.2 % 4)) :: (cellsX T63 v0_4.1 ++ (cellsX T65 v0_4.2.1 ++ (cellsX T69 v0_4.2.2))))))] ?_
   refine AW.seq ?_
   refine zo ?_
   refine zS 1 [(1, .sl (.pair (.int .i64) (.pair (.int .i64) (.pair (.int .i64) (.int .i64)))) deeds), (2, .bp 2 0), (5, .bp 32000 0), (23, .bp 32000 0)] [(2, .box 55 [.int .u8 shape.1, .int .u8 shape.2]), (32000, .box 71 (.int .i64 (1 + (shape.1 % 4)) :: (.int .i64 (1 + (shape.2 % 4)) :: (cellsX T63 v0_4.1 ++ (cellsX T65 v0_4.2.1 ++ (cellsX T69 v0_4.2.2))))))] ?_
   refine AO.ptrNil (neg := false) (p := false) (by decide) (.inl rfl) (by kernel_rfl) rfl rfl rfl ?_
   refine zT [(1, .sl (.pair (.int .i64) (.pair (.int .i64) (.pair (.int .i64) (.int .i64)))) deeds), (2, .bp 2 0), (5, .bp 32000 0), (24, .bool false)] [(2, .box 55 [.int .u8 shape.1, .int .u8 shape.2]), (32000, .box 71 (.int .i64 (1 + (shape.1 % 4)) :: (.int .i64 (1 + (shape.2 % 4)) :: (cellsX T63 v0_4.1 ++ (cellsX T65 v0_4.2.1 ++ (cellsX T69 v0_4.2.2))))))] gt ?_
   refine zB [(1, .sl (.pair (.int .i64) (.pair (.int .i64) (.pair (.int .i64) (.int .i64)))) deeds), (2, .bp 2 0), (5, .bp 32000 0), (24, .bool false)] [(2, .box 55 [.int .u8 shape.1, .int .u8 shape.2]), (32000, .box 71 (.int .i64 (1 + (shape.1 % 4)) :: (.int .i64 (1 + (shape.2 % 4)) :: (cellsX T63 v0_4.1 ++ (cellsX T65 v0_4.2.1 ++ (cellsX T69 v0_4.2.2))))))] ?_
   refine AW.cond (b := false) rfl (fun hb5 => by cases hb5) (fun _ => ?_)
   refine zk ?_
   refine AW.have1 (fun _ : Unit => lineallaw06_HazardSafes_k1 = some r) (fun _ => ⟨fr [], hpGet [], gt⟩) (fun _ h => ?_) (fun hk_lineallaw06_HazardSafes_k1 => ?_)
   ·as_aux_lemma =>
     unfold lineallaw06_HazardSafes_k1 at h
     refine zo ?_
     obtain ⟨v0_11, hv6, h⟩ := Option.bind_eq_some_iff.1 h
     refine zC [] [] (hc_lineallaw06_Sane hv6) [(127, .bool v0_11)] [] ?_
     refine zB [(4, .bool v0_11)] [] ?_
     refine AW.ret ?_
     obtain rfl := Option.some.inj h
     exact zR [] [] []
   ·refine AW.seq ?_
    refine zo ?_
    refine zB [(1, .sl (.pair (.int .i64) (.pair (.int .i64) (.pair (.int .i64) (.int .i64)))) deeds), (2, .bp 2 0), (5, .bp 32000 0), (6, .int .i64 0)] [(2, .box 55 [.int .u8 shape.1, .int .u8 shape.2]), (32000, .box 71 (.int .i64 (1 + (shape.1 % 4)) :: (.int .i64 (1 + (shape.2 % 4)) :: (cellsX T63 v0_4.1 ++ (cellsX T65 v0_4.2.1 ++ (cellsX T69 v0_4.2.2))))))] ?_
    refine AW.block ?_
    obtain ⟨rv11, hw7, ho8⟩ := Option.bind_eq_some_iff.1 h
    refine AW.loopO (lineallaw06_HazardSafes_b1 shape deeds) (fun st1 => ⟨fr [(1, .sl (.pair (.int .i64) (.pair (.int .i64) (.pair (.int .i64) (.int .i64)))) deeds), (2, .bp 2 0), (5, .bp 32000 0), (6, .int .i64 st1.2.2.2)], hpGet [(2, .box 55 [.int .u8 shape.1, .int .u8 shape.2]), (32000, .box 71 (.int .i64 (1 + (shape.1 % 4)) :: (.int .i64 (1 + (shape.2 % 4)) :: (cellsX T63 st1.1 ++ (cellsX T65 st1.2.1 ++ (cellsX T69 st1.2.2.1))))))], gt⟩) (v0_4.1, v0_4.2.1, v0_4.2.2, 0) hw7 (zL [] [] []) ?_
    as_aux_lemma =>
     intro st1 x10 h hd9
     unfold lineallaw06_HazardSafes_b1 at h
     refine AW.seq ?_
     refine zo ?_
     refine zB [(1, .sl (.pair (.int .i64) (.pair (.int .i64) (.pair (.int .i64) (.int .i64)))) deeds), (2, .bp 2 0), (5, .bp 32000 0), (6, .int .i64 st1.2.2.2), (28, .bool (decide (st1.2.2.2 < (deeds.length : Int))))] [(2, .box 55 [.int .u8 shape.1, .int .u8 shape.2]), (32000, .box 71 (.int .i64 (1 + (shape.1 % 4)) :: (.int .i64 (1 + (shape.2 % 4)) :: (cellsX T63 st1.1 ++ (cellsX T65 st1.2.1 ++ (cellsX T69 st1.2.2.1))))))] ?_
     refine zQ h (fun hb12 h => ?_) (fun hb12 h => ?_)
     ·refine zk ?_
      refine AW.have1 (fun b4 : (El T63) × (El T65) × (El T69) => lineallaw06_HazardSafes_k2 st1 b4 = some x10) (fun b4 => ⟨fr [(1, .sl (.pair (.int .i64) (.pair (.int .i64) (.pair (.int .i64) (.int .i64)))) deeds), (2, .bp 2 0), (5, .bp 32000 0), (6, .int .i64 st1.2.2.2)], hpGet [(2, .box 55 [.int .u8 shape.1, .int .u8 shape.2]), (32000, .box 71 (.int .i64 (1 + (shape.1 % 4)) :: (.int .i64 (1 + (shape.2 % 4)) :: (cellsX T63 b4.1 ++ (cellsX T65 b4.2.1 ++ (cellsX T69 b4.2.2))))))], gt⟩) (fun b4 h => ?_) (fun hk_lineallaw06_HazardSafes_k2 => ?_)
      ·as_aux_lemma =>
        unfold lineallaw06_HazardSafes_k2 at h
        refine AW.ops ?_
        obtain ⟨c13, h⟩ := ck_some.1 h
        refine zA [(1, .sl (.pair (.int .i64) (.pair (.int .i64) (.pair (.int .i64) (.int .i64)))) deeds), (2, .bp 2 0), (5, .bp 32000 0), (6, .int .i64 (st1.2.2.2 + 1))] [(2, .box 55 [.int .u8 shape.1, .int .u8 shape.2]), (32000, .box 71 (.int .i64 (1 + (shape.1 % 4)) :: (.int .i64 (1 + (shape.2 % 4)) :: (cellsX T63 b4.1 ++ (cellsX T65 b4.2.1 ++ (cellsX T69 b4.2.2))))))] ?_
        obtain rfl := Option.some.inj h
        exact ⟨_, rfl, zL [] [] []⟩
      ·refine AW.seq ?_
       refine AW.block ?_
       refine zo ?_
       obtain ⟨c14, h⟩ := ck_some.1 h
       obtain ⟨c15, h⟩ := ck_some.1 h
       refine zS 5 [(1, .sl (.pair (.int .i64) (.pair (.int .i64) (.pair (.int .i64) (.int .i64)))) deeds), (2, .bp 2 0), (5, .bp 32000 0), (6, .int .i64 st1.2.2.2), (31, .bp 32000 0), (35, .agg [.int .i64 (deeds.getD st1.2.2.2.toNat (0, 0, 0, 0)).1, .int .i64 (deeds.getD st1.2.2.2.toNat (0, 0, 0, 0)).2.1, .int .i64 (deeds.getD st1.2.2.2.toNat (0, 0, 0, 0)).2.2.1, .int .i64 (deeds.getD st1.2.2.2.toNat (0, 0, 0, 0)).2.2.2])] [(2, .box 55 [.int .u8 shape.1, .int .u8 shape.2]), (32000, .box 71 (.int .i64 (1 + (shape.1 % 4)) :: (.int .i64 (1 + (shape.2 % 4)) :: (cellsX T63 st1.1 ++ (cellsX T65 st1.2.1 ++ (cellsX T69 st1.2.2.1))))))] ?_
       obtain ⟨v0_5, hv16, h⟩ := Option.bind_eq_some_iff.1 h
       refine zC [] [(1000, 32000)] (hc_hazard_Yard_Do (deeds.getD st1.2.2.2.toNat (0, 0, 0, 0)) ((1 + (shape.1 % 4)), (1 + (shape.2 % 4)), st1.1, st1.2.1, st1.2.2.1) hv16) [(1, .sl (.pair (.int .i64) (.pair (.int .i64) (.pair (.int .i64) (.int .i64)))) deeds), (2, .bp 2 0), (5, .bp 32000 0), (6, .int .i64 st1.2.2.2)] [(2, .box 55 [.int .u8 shape.1, .int .u8 shape.2]), (32000, .box 71 (.int .i64 (1 + (shape.1 % 4)) :: (.int .i64 (1 + (shape.2 % 4)) :: (cellsX T63 v0_5.2.2.1 ++ (cellsX T65 v0_5.2.2.2.1 ++ (cellsX T69 v0_5.2.2.2.2))))))] ?_
       refine zB [(1, .sl (.pair (.int .i64) (.pair (.int .i64) (.pair (.int .i64) (.int .i64)))) deeds), (2, .bp 2 0), (5, .bp 32000 0), (6, .int .i64 st1.2.2.2)] [(2, .box 55 [.int .u8 shape.1, .int .u8 shape.2]), (32000, .box 71 (.int .i64 (1 + (shape.1 % 4)) :: (.int .i64 (1 + (shape.2 % 4)) :: (cellsX T63 v0_5.2.2.1 ++ (cellsX T65 v0_5.2.2.2.1 ++ (cellsX T69 v0_5.2.2.2.2))))))] ?_
       refine zo ?_
       refine zS 1 [(1, .sl (.pair (.int .i64) (.pair (.int .i64) (.pair (.int .i64) (.int .i64)))) deeds), (2, .bp 2 0), (5, .bp 32000 0), (6, .int .i64 st1.2.2.2), (37, .bp 32000 0)] [(2, .box 55 [.int .u8 shape.1, .int .u8 shape.2]), (32000, .box 71 (.int .i64 (1 + (shape.1 % 4)) :: (.int .i64 (1 + (shape.2 % 4)) :: (cellsX T63 v0_5.2.2.1 ++ (cellsX T65 v0_5.2.2.2.1 ++ (cellsX T69 v0_5.2.2.2.2))))))] ?_
       obtain ⟨v0_6, hv17, h⟩ := Option.bind_eq_some_iff.1 h
       refine zC [] [(1000, 32000)] (hc_hazard_Yard_Held ((1 + (shape.1 % 4)), (1 + (shape.2 % 4)), v0_5.2.2) hv17) [(1, .sl (.pair (.int .i64) (.pair (.int .i64) (.pair (.int .i64) (.int .i64)))) deeds), (2, .bp 2 0), (5, .bp 32000 0), (6, .int .i64 st1.2.2.2), (38, .own 48000)] [(2, .box 55 [.int .u8 shape.1, .int .u8 shape.2]), (32000, .box 71 (.int .i64 (1 + (shape.1 % 4)) :: (.int .i64 (1 + (shape.2 % 4)) :: (cellsX T63 v0_5.2.2.1 ++ (cellsX T65 v0_5.2.2.2.1 ++ (cellsX T69 v0_5.2.2.2.2)))))), (48000, .arr 3 (.int .i64) v0_6)] ?_
       refine zB [(1, .sl (.pair (.int .i64) (.pair (.int .i64) (.pair (.int .i64) (.int .i64)))) deeds), (2, .bp 2 0), (5, .bp 32000 0), (6, .int .i64 st1.2.2.2), (7, .own 48000)] [(2, .box 55 [.int .u8 shape.1, .int .u8 shape.2]), (32000, .box 71 (.int .i64 (1 + (shape.1 % 4)) :: (.int .i64 (1 + (shape.2 % 4)) :: (cellsX T63 v0_5.2.2.1 ++ (cellsX T65 v0_5.2.2.2.1 ++ (cellsX T69 v0_5.2.2.2.2)))))), (48000, .arr 3 (.int .i64) v0_6)] ?_
       refine AW.have1 (fun _ : Unit => lineallaw06_HazardSafes_k3 shape st1 v0_5 v0_6 = some x10) (fun _ => ⟨fr [(1, .sl (.pair (.int .i64) (.pair (.int .i64) (.pair (.int .i64) (.int .i64)))) deeds), (2, .bp 2 0), (5, .bp 32000 0), (6, .int .i64 st1.2.2.2), (7, .own 48000)], hpGet [(2, .box 55 [.int .u8 shape.1, .int .u8 shape.2]), (32000, .box 71 (.int .i64 (1 + (shape.1 % 4)) :: (.int .i64 (1 + (shape.2 % 4)) :: (cellsX T63 v0_5.2.2.1 ++ (cellsX T65 v0_5.2.2.2.1 ++ (cellsX T69 v0_5.2.2.2.2)))))), (48000, .arr 3 (.int .i64) v0_6)], gt⟩) (fun _ h => ?_) (fun hk_lineallaw06_HazardSafes_k3 => ?_)
       ·as_aux_lemma =>
         unfold lineallaw06_HazardSafes_k3 at h
         refine zo ?_
         refine zB [(1, .sl (.pair (.int .i64) (.pair (.int .i64) (.pair (.int .i64) (.int .i64)))) deeds), (2, .bp 2 0), (5, .bp 32000 0), (6, .int .i64 st1.2.2.2), (7, .own 48000), (11, .int .i64 0)] [(2, .box 55 [.int .u8 shape.1, .int .u8 shape.2]), (32000, .box 71 (.int .i64 (1 + (shape.1 % 4)) :: (.int .i64 (1 + (shape.2 % 4)) :: (cellsX T63 v0_5.2.2.1 ++ (cellsX T65 v0_5.2.2.2.1 ++ (cellsX T69 v0_5.2.2.2.2)))))), (48000, .arr 3 (.int .i64) v0_6)] ?_
         refine AW.block ?_
         obtain ⟨rv22, hw18, ho19⟩ := Option.bind_eq_some_iff.1 h
         refine AW.loopO (lineallaw06_HazardSafes_b3 shape v0_5 v0_6) (fun st3 => ⟨fr [(1, .sl (.pair (.int .i64) (.pair (.int .i64) (.pair (.int .i64) (.int .i64)))) deeds), (2, .bp 2 0), (5, .bp 32000 0), (6, .int .i64 st1.2.2.2), (7, .own 48000), (11, .int .i64 st3)], hpGet [(2, .box 55 [.int .u8 shape.1, .int .u8 shape.2]), (32000, .box 71 (.int .i64 (1 + (shape.1 % 4)) :: (.int .i64 (1 + (shape.2 % 4)) :: (cellsX T63 v0_5.2.2.1 ++ (cellsX T65 v0_5.2.2.2.1 ++ (cellsX T69 v0_5.2.2.2.2)))))), (48000, .arr 3 (.int .i64) v0_6)], gt⟩) 0 hw18 (zL [] [] []) ?_
         as_aux_lemma =>
          intro st3 x21 h hd20
          unfold lineallaw06_HazardSafes_b3 at h
          refine AW.seq ?_
          refine zo ?_
          obtain ⟨c23, h⟩ := ck_some.1 h
          obtain ⟨c24, h⟩ := ck_some.1 h
          refine zS 5 [(1, .sl (.pair (.int .i64) (.pair (.int .i64) (.pair (.int .i64) (.int .i64)))) deeds), (2, .bp 2 0), (5, .bp 32000 0), (6, .int .i64 st1.2.2.2), (7, .own 48000), (11, .int .i64 st3), (76, .int .i64 st3), (80, .int .i64 (shape.1 % 4))] [(2, .box 55 [.int .u8 shape.1, .int .u8 shape.2]), (32000, .box 71 (.int .i64 (1 + (shape.1 % 4)) :: (.int .i64 (1 + (shape.2 % 4)) :: (cellsX T63 v0_5.2.2.1 ++ (cellsX T65 v0_5.2.2.2.1 ++ (cellsX T69 v0_5.2.2.2.2)))))), (48000, .arr 3 (.int .i64) v0_6)] ?_
          obtain ⟨c25, h⟩ := ck_some.1 h
          refine zB [(1, .sl (.pair (.int .i64) (.pair (.int .i64) (.pair (.int .i64) (.int .i64)))) deeds), (2, .bp 2 0), (5, .bp 32000 0), (6, .int .i64 st1.2.2.2), (7, .own 48000), (11, .int .i64 st3), (82, .bool (decide (st3 < (1 + (shape.1 % 4)))))] [(2, .box 55 [.int .u8 shape.1, .int .u8 shape.2]), (32000, .box 71 (.int .i64 (1 + (shape.1 % 4)) :: (.int .i64 (1 + (shape.2 % 4)) :: (cellsX T63 v0_5.2.2.1 ++ (cellsX T65 v0_5.2.2.2.1 ++ (cellsX T69 v0_5.2.2.2.2)))))), (48000, .arr 3 (.int .i64) v0_6)] ?_
          refine zQ h (fun hb26 h => ?_) (fun hb26 h => ?_)
          ·refine zk ?_
           refine AW.have1 (fun _ : Unit => lineallaw06_HazardSafes_k4 st3 = some x21) (fun _ => ⟨fr [(1, .sl (.pair (.int .i64) (.pair (.int .i64) (.pair (.int .i64) (.int .i64)))) deeds), (2, .bp 2 0), (5, .bp 32000 0), (6, .int .i64 st1.2.2.2), (7, .own 48000), (11, .int .i64 st3)], hpGet [(2, .box 55 [.int .u8 shape.1, .int .u8 shape.2]), (32000, .box 71 (.int .i64 (1 + (shape.1 % 4)) :: (.int .i64 (1 + (shape.2 % 4)) :: (cellsX T63 v0_5.2.2.1 ++ (cellsX T65 v0_5.2.2.2.1 ++ (cellsX T69 v0_5.2.2.2.2)))))), (48000, .arr 3 (.int .i64) v0_6)], gt⟩) (fun _ h => ?_) (fun hk_lineallaw06_HazardSafes_k4 => ?_)
           ·as_aux_lemma =>
             unfold lineallaw06_HazardSafes_k4 at h
             refine AW.ops ?_
             obtain ⟨c27, h⟩ := ck_some.1 h
             refine zA [(1, .sl (.pair (.int .i64) (.pair (.int .i64) (.pair (.int .i64) (.int .i64)))) deeds), (2, .bp 2 0), (5, .bp 32000 0), (6, .int .i64 st1.2.2.2), (7, .own 48000), (11, .int .i64 (st3 + 1))] [(2, .box 55 [.int .u8 shape.1, .int .u8 shape.2]), (32000, .box 71 (.int .i64 (1 + (shape.1 % 4)) :: (.int .i64 (1 + (shape.2 % 4)) :: (cellsX T63 v0_5.2.2.1 ++ (cellsX T65 v0_5.2.2.2.1 ++ (cellsX T69 v0_5.2.2.2.2)))))), (48000, .arr 3 (.int .i64) v0_6)] ?_
             obtain rfl := Option.some.inj h
             exact ⟨_, rfl, zL [] [] []⟩
           ·refine AW.seq ?_
            refine AW.block ?_
            refine zo ?_
            refine zB [(1, .sl (.pair (.int .i64) (.pair (.int .i64) (.pair (.int .i64) (.int .i64)))) deeds), (2, .bp 2 0), (5, .bp 32000 0), (6, .int .i64 st1.2.2.2), (7, .own 48000), (11, .int .i64 st3), (12, .int .i64 0)] [(2, .box 55 [.int .u8 shape.1, .int .u8 shape.2]), (32000, .box 71 (.int .i64 (1 + (shape.1 % 4)) :: (.int .i64 (1 + (shape.2 % 4)) :: (cellsX T63 v0_5.2.2.1 ++ (cellsX T65 v0_5.2.2.2.1 ++ (cellsX T69 v0_5.2.2.2.2)))))), (48000, .arr 3 (.int .i64) v0_6)] ?_
            refine AW.block ?_
            obtain ⟨rv32, hw28, ho29⟩ := Option.bind_eq_some_iff.1 h
            refine AW.loopO (lineallaw06_HazardSafes_b4 shape v0_5 v0_6 st3) (fun st4 => ⟨fr [(1, .sl (.pair (.int .i64) (.pair (.int .i64) (.pair (.int .i64) (.int .i64)))) deeds), (2, .bp 2 0), (5, .bp 32000 0), (6, .int .i64 st1.2.2.2), (7, .own 48000), (11, .int .i64 st3), (12, .int .i64 st4)], hpGet [(2, .box 55 [.int .u8 shape.1, .int .u8 shape.2]), (32000, .box 71 (.int .i64 (1 + (shape.1 % 4)) :: (.int .i64 (1 + (shape.2 % 4)) :: (cellsX T63 v0_5.2.2.1 ++ (cellsX T65 v0_5.2.2.2.1 ++ (cellsX T69 v0_5.2.2.2.2)))))), (48000, .arr 3 (.int .i64) v0_6)], gt⟩) 0 hw28 (zL [] [] []) ?_
            as_aux_lemma =>
             intro st4 x31 h hd30
             unfold lineallaw06_HazardSafes_b4 at h
             refine AW.seq ?_
             refine zo ?_
             refine zB [(1, .sl (.pair (.int .i64) (.pair (.int .i64) (.pair (.int .i64) (.int .i64)))) deeds), (2, .bp 2 0), (5, .bp 32000 0), (6, .int .i64 st1.2.2.2), (7, .own 48000), (11, .int .i64 st3), (12, .int .i64 st4), (86, .bool (decide (st4 < 2)))] [(2, .box 55 [.int .u8 shape.1, .int .u8 shape.2]), (32000, .box 71 (.int .i64 (1 + (shape.1 % 4)) :: (.int .i64 (1 + (shape.2 % 4)) :: (cellsX T63 v0_5.2.2.1 ++ (cellsX T65 v0_5.2.2.2.1 ++ (cellsX T69 v0_5.2.2.2.2)))))), (48000, .arr 3 (.int .i64) v0_6)] ?_
             refine zQ h (fun hb33 h => ?_) (fun hb33 h => ?_)
             ·refine zk ?_
              refine AW.seq ?_
              refine AW.block ?_
              refine zo ?_
              refine zS 3 [(1, .sl (.pair (.int .i64) (.pair (.int .i64) (.pair (.int .i64) (.int .i64)))) deeds), (2, .bp 2 0), (5, .bp 32000 0), (6, .int .i64 st1.2.2.2), (7, .own 48000), (11, .int .i64 st3), (12, .int .i64 st4), (90, .bp 32000 0), (91, .int .i64 st3), (92, .int .i64 st4)] [(2, .box 55 [.int .u8 shape.1, .int .u8 shape.2]), (32000, .box 71 (.int .i64 (1 + (shape.1 % 4)) :: (.int .i64 (1 + (shape.2 % 4)) :: (cellsX T63 v0_5.2.2.1 ++ (cellsX T65 v0_5.2.2.2.1 ++ (cellsX T69 v0_5.2.2.2.2)))))), (48000, .arr 3 (.int .i64) v0_6)] ?_
              obtain ⟨v0_8, hv34, h⟩ := Option.bind_eq_some_iff.1 h
              refine zC [] [(1000, 32000)] (hc_hazard_Yard_Use st3 st4 ((1 + (shape.1 % 4)), (1 + (shape.2 % 4)), v0_5.2.2) hv34) [(1, .sl (.pair (.int .i64) (.pair (.int .i64) (.pair (.int .i64) (.int .i64)))) deeds), (2, .bp 2 0), (5, .bp 32000 0), (6, .int .i64 st1.2.2.2), (7, .own 48000), (11, .int .i64 st3), (12, .int .i64 st4), (93, .tup [.int .i64 v0_8.1, .int .i64 v0_8.2])] [(2, .box 55 [.int .u8 shape.1, .int .u8 shape.2]), (32000, .box 71 (.int .i64 (1 + (shape.1 % 4)) :: (.int .i64 (1 + (shape.2 % 4)) :: (cellsX T63 v0_5.2.2.1 ++ (cellsX T65 v0_5.2.2.2.1 ++ (cellsX T69 v0_5.2.2.2.2)))))), (48000, .arr 3 (.int .i64) v0_6)] ?_
              refine zB [(1, .sl (.pair (.int .i64) (.pair (.int .i64) (.pair (.int .i64) (.int .i64)))) deeds), (2, .bp 2 0), (5, .bp 32000 0), (6, .int .i64 st1.2.2.2), (7, .own 48000), (11, .int .i64 st3), (12, .int .i64 st4), (13, .int .i64 v0_8.1), (14, .int .i64 v0_8.2)] [(2, .box 55 [.int .u8 shape.1, .int .u8 shape.2]), (32000, .box 71 (.int .i64 (1 + (shape.1 % 4)) :: (.int .i64 (1 + (shape.2 % 4)) :: (cellsX T63 v0_5.2.2.1 ++ (cellsX T65 v0_5.2.2.2.1 ++ (cellsX T69 v0_5.2.2.2.2)))))), (48000, .arr 3 (.int .i64) v0_6)] ?_
              refine zo ?_
              refine zS 3 [(1, .sl (.pair (.int .i64) (.pair (.int .i64) (.pair (.int .i64) (.int .i64)))) deeds), (2, .bp 2 0), (5, .bp 32000 0), (6, .int .i64 st1.2.2.2), (7, .own 48000), (11, .int .i64 st3), (12, .int .i64 st4), (13, .int .i64 v0_8.1), (14, .int .i64 v0_8.2), (97, .bp 32000 0), (98, .int .i64 st3), (99, .int .i64 st4)] [(2, .box 55 [.int .u8 shape.1, .int .u8 shape.2]), (32000, .box 71 (.int .i64 (1 + (shape.1 % 4)) :: (.int .i64 (1 + (shape.2 % 4)) :: (cellsX T63 v0_5.2.2.1 ++ (cellsX T65 v0_5.2.2.2.1 ++ (cellsX T69 v0_5.2.2.2.2)))))), (48000, .arr 3 (.int .i64) v0_6)] ?_
              obtain ⟨v0_9, hv35, h⟩ := Option.bind_eq_some_iff.1 h
              refine zC [] [(1000, 32000)] (hc_hazard_Yard_Slot st3 st4 ((1 + (shape.1 % 4)), (1 + (shape.2 % 4)), v0_5.2.2) hv35) [(1, .sl (.pair (.int .i64) (.pair (.int .i64) (.pair (.int .i64) (.int .i64)))) deeds), (2, .bp 2 0), (5, .bp 32000 0), (6, .int .i64 st1.2.2.2), (7, .own 48000), (11, .int .i64 st3), (12, .int .i64 st4), (13, .int .i64 v0_8.1), (14, .int .i64 v0_8.2), (100, .tup [.int .i64 v0_9.1, .int .i64 v0_9.2])] [(2, .box 55 [.int .u8 shape.1, .int .u8 shape.2]), (32000, .box 71 (.int .i64 (1 + (shape.1 % 4)) :: (.int .i64 (1 + (shape.2 % 4)) :: (cellsX T63 v0_5.2.2.1 ++ (cellsX T65 v0_5.2.2.2.1 ++ (cellsX T69 v0_5.2.2.2.2)))))), (48000, .arr 3 (.int .i64) v0_6)] ?_
              refine zB [(1, .sl (.pair (.int .i64) (.pair (.int .i64) (.pair (.int .i64) (.int .i64)))) deeds), (2, .bp 2 0), (5, .bp 32000 0), (6, .int .i64 st1.2.2.2), (7, .own 48000), (11, .int .i64 st3), (12, .int .i64 st4), (13, .int .i64 v0_8.1), (14, .int .i64 v0_8.2), (15, .int .i64 v0_9.1), (16, .int .i64 v0_9.2)] [(2, .box 55 [.int .u8 shape.1, .int .u8 shape.2]), (32000, .box 71 (.int .i64 (1 + (shape.1 % 4)) :: (.int .i64 (1 + (shape.2 % 4)) :: (cellsX T63 v0_5.2.2.1 ++ (cellsX T65 v0_5.2.2.2.1 ++ (cellsX T69 v0_5.2.2.2.2)))))), (48000, .arr 3 (.int .i64) v0_6)] ?_
              refine zo ?_
              refine zS 3 [(1, .sl (.pair (.int .i64) (.pair (.int .i64) (.pair (.int .i64) (.int .i64)))) deeds), (2, .bp 2 0), (5, .bp 32000 0), (6, .int .i64 st1.2.2.2), (7, .own 48000), (11, .int .i64 st3), (12, .int .i64 st4), (13, .int .i64 v0_8.1), (14, .int .i64 v0_8.2), (15, .int .i64 v0_9.1), (105, .bool (!(decide (v0_9.2 = 0))))] [(2, .box 55 [.int .u8 shape.1, .int .u8 shape.2]), (32000, .box 71 (.int .i64 (1 + (shape.1 % 4)) :: (.int .i64 (1 + (shape.2 % 4)) :: (cellsX T63 v0_5.2.2.1 ++ (cellsX T65 v0_5.2.2.2.1 ++ (cellsX T69 v0_5.2.2.2.2)))))), (48000, .arr 3 (.int .i64) v0_6)] ?_
              rcases zI h with ⟨hb36, h⟩ | ⟨hb36, h⟩
              ·refine zS 4 [(1, .sl (.pair (.int .i64) (.pair (.int .i64) (.pair (.int .i64) (.int .i64)))) deeds), (2, .bp 2 0), (5, .bp 32000 0), (6, .int .i64 st1.2.2.2), (7, .own 48000), (11, .int .i64 st3), (12, .int .i64 st4), (13, .int .i64 v0_8.1), (14, .int .i64 v0_8.2), (15, .int .i64 v0_9.1), (105, .bool true), (107, .cv (undef)), (109, .cv (undef))] [(2, .box 55 [.int .u8 shape.1, .int .u8 shape.2]), (32000, .box 71 (.int .i64 (1 + (shape.1 % 4)) :: (.int .i64 (1 + (shape.2 % 4)) :: (cellsX T63 v0_5.2.2.1 ++ (cellsX T65 v0_5.2.2.2.1 ++ (cellsX T69 v0_5.2.2.2.2)))))), (48000, .arr 3 (.int .i64) v0_6)] ?_
               refine zS 5 [(1, .sl (.pair (.int .i64) (.pair (.int .i64) (.pair (.int .i64) (.int .i64)))) deeds), (2, .bp 2 0), (5, .bp 32000 0), (6, .int .i64 st1.2.2.2), (7, .own 48000), (11, .int .i64 st3), (12, .int .i64 st4), (13, .int .i64 v0_8.1), (15, .int .i64 v0_9.1), (112, .bool true), (114, .cv (undef))] [(2, .box 55 [.int .u8 shape.1, .int .u8 shape.2]), (32000, .box 71 (.int .i64 (1 + (shape.1 % 4)) :: (.int .i64 (1 + (shape.2 % 4)) :: (cellsX T63 v0_5.2.2.1 ++ (cellsX T65 v0_5.2.2.2.1 ++ (cellsX T69 v0_5.2.2.2.2)))))), (48000, .arr 3 (.int .i64) v0_6)] ?_
               refine zS 4 [(1, .sl (.pair (.int .i64) (.pair (.int .i64) (.pair (.int .i64) (.int .i64)))) deeds), (2, .bp 2 0), (5, .bp 32000 0), (6, .int .i64 st1.2.2.2), (7, .own 48000), (11, .int .i64 st3), (12, .int .i64 st4), (13, .int .i64 v0_8.1), (112, .bool true), (115, .cv (undef)), (118, .cv (undef))] [(2, .box 55 [.int .u8 shape.1, .int .u8 shape.2]), (32000, .box 71 (.int .i64 (1 + (shape.1 % 4)) :: (.int .i64 (1 + (shape.2 % 4)) :: (cellsX T63 v0_5.2.2.1 ++ (cellsX T65 v0_5.2.2.2.1 ++ (cellsX T69 v0_5.2.2.2.2)))))), (48000, .arr 3 (.int .i64) v0_6)] ?_
               refine zS 4 [(1, .sl (.pair (.int .i64) (.pair (.int .i64) (.pair (.int .i64) (.int .i64)))) deeds), (2, .bp 2 0), (5, .bp 32000 0), (6, .int .i64 st1.2.2.2), (7, .own 48000), (11, .int .i64 st3), (12, .int .i64 st4), (112, .bool true), (115, .cv (undef)), (119, .cv (undef)), (122, .cv (undef))] [(2, .box 55 [.int .u8 shape.1, .int .u8 shape.2]), (32000, .box 71 (.int .i64 (1 + (shape.1 % 4)) :: (.int .i64 (1 + (shape.2 % 4)) :: (cellsX T63 v0_5.2.2.1 ++ (cellsX T65 v0_5.2.2.2.1 ++ (cellsX T69 v0_5.2.2.2.2)))))), (48000, .arr 3 (.int .i64) v0_6)] ?_
               refine zB [(1, .sl (.pair (.int .i64) (.pair (.int .i64) (.pair (.int .i64) (.int .i64)))) deeds), (2, .bp 2 0), (5, .bp 32000 0), (6, .int .i64 st1.2.2.2), (7, .own 48000), (11, .int .i64 st3), (12, .int .i64 st4), (126, .bool true)] [(2, .box 55 [.int .u8 shape.1, .int .u8 shape.2]), (32000, .box 71 (.int .i64 (1 + (shape.1 % 4)) :: (.int .i64 (1 + (shape.2 % 4)) :: (cellsX T63 v0_5.2.2.1 ++ (cellsX T65 v0_5.2.2.2.1 ++ (cellsX T69 v0_5.2.2.2.2)))))), (48000, .arr 3 (.int .i64) v0_6)] ?_
               refine AW.cond (b := true) rfl (fun _ => ?_) (fun hb37 => by cases hb37)
               refine zo ?_
               refine zB [(4, .bool false)] [] ?_
               refine AW.ret ?_
               refine ablock_r ?_
               refine athen_r ?_
               obtain rfl := Option.some.inj h
               try rw [← hd30 _ rfl] at ho29
               have h := ho29
               try simp only at h
               refine athen_r ?_
               refine ablock_r ?_
               refine ablock_r ?_
               refine athen_r ?_
               obtain rfl := Option.some.inj h
               try rw [← hd20 _ rfl] at ho19
               have h := ho19
               try simp only at h
               refine athen_r ?_
               refine ablock_r ?_
               refine ablock_r ?_
               refine athen_r ?_
               obtain rfl := Option.some.inj h
               try rw [← hd9 _ rfl] at ho8
               have h := ho8
               try simp only at h
               refine athen_r ?_
               refine ablock_r ?_
               refine athen_r ?_
               obtain rfl := Option.some.inj h
               exact zR [] [] []
              ·refine zS 5 [(1, .sl (.pair (.int .i64) (.pair (.int .i64) (.pair (.int .i64) (.int .i64)))) deeds), (2, .bp 2 0), (5, .bp 32000 0), (6, .int .i64 st1.2.2.2), (7, .own 48000), (11, .int .i64 st3), (12, .int .i64 st4), (13, .int .i64 v0_8.1), (14, .int .i64 v0_8.2), (15, .int .i64 v0_9.1), (105, .bool false), (110, .bool (((decide (v0_8.2 = 0)) == (decide (0 ≤ v0_9.1))) != true))] [(2, .box 55 [.int .u8 shape.1, .int .u8 shape.2]), (32000, .box 71 (.int .i64 (1 + (shape.1 % 4)) :: (.int .i64 (1 + (shape.2 % 4)) :: (cellsX T63 v0_5.2.2.1 ++ (cellsX T65 v0_5.2.2.2.1 ++ (cellsX T69 v0_5.2.2.2.2)))))), (48000, .arr 3 (.int .i64) v0_6)] ?_
               refine zS 2 [(1, .sl (.pair (.int .i64) (.pair (.int .i64) (.pair (.int .i64) (.int .i64)))) deeds), (2, .bp 2 0), (5, .bp 32000 0), (6, .int .i64 st1.2.2.2), (7, .own 48000), (11, .int .i64 st3), (12, .int .i64 st4), (13, .int .i64 v0_8.1), (14, .int .i64 v0_8.2), (15, .int .i64 v0_9.1), (112, .bool (((decide (v0_8.2 = 0)) == (decide (0 ≤ v0_9.1))) != true))] [(2, .box 55 [.int .u8 shape.1, .int .u8 shape.2]), (32000, .box 71 (.int .i64 (1 + (shape.1 % 4)) :: (.int .i64 (1 + (shape.2 % 4)) :: (cellsX T63 v0_5.2.2.1 ++ (cellsX T65 v0_5.2.2.2.1 ++ (cellsX T69 v0_5.2.2.2.2)))))), (48000, .arr 3 (.int .i64) v0_6)] ?_
               rcases zI h with ⟨hb38, h⟩ | ⟨hb38, h⟩
               ·refine zS 4 [(1, .sl (.pair (.int .i64) (.pair (.int .i64) (.pair (.int .i64) (.int .i64)))) deeds), (2, .bp 2 0), (5, .bp 32000 0), (6, .int .i64 st1.2.2.2), (7, .own 48000), (11, .int .i64 st3), (12, .int .i64 st4), (13, .int .i64 v0_8.1), (15, .int .i64 v0_9.1), (112, .bool true), (115, .cv (undef)), (116, .cv (undef))] [(2, .box 55 [.int .u8 shape.1, .int .u8 shape.2]), (32000, .box 71 (.int .i64 (1 + (shape.1 % 4)) :: (.int .i64 (1 + (shape.2 % 4)) :: (cellsX T63 v0_5.2.2.1 ++ (cellsX T65 v0_5.2.2.2.1 ++ (cellsX T69 v0_5.2.2.2.2)))))), (48000, .arr 3 (.int .i64) v0_6)] ?_
                refine zS 4 [(1, .sl (.pair (.int .i64) (.pair (.int .i64) (.pair (.int .i64) (.int .i64)))) deeds), (2, .bp 2 0), (5, .bp 32000 0), (6, .int .i64 st1.2.2.2), (7, .own 48000), (11, .int .i64 st3), (12, .int .i64 st4), (13, .int .i64 v0_8.1), (112, .bool true), (115, .cv (undef)), (119, .cv (undef)), (120, .cv (undef))] [(2, .box 55 [.int .u8 shape.1, .int .u8 shape.2]), (32000, .box 71 (.int .i64 (1 + (shape.1 % 4)) :: (.int .i64 (1 + (shape.2 % 4)) :: (cellsX T63 v0_5.2.2.1 ++ (cellsX T65 v0_5.2.2.2.1 ++ (cellsX T69 v0_5.2.2.2.2)))))), (48000, .arr 3 (.int .i64) v0_6)] ?_
                refine zS 4 [(1, .sl (.pair (.int .i64) (.pair (.int .i64) (.pair (.int .i64) (.int .i64)))) deeds), (2, .bp 2 0), (5, .bp 32000 0), (6, .int .i64 st1.2.2.2), (7, .own 48000), (11, .int .i64 st3), (12, .int .i64 st4), (112, .bool true), (115, .cv (undef)), (124, .cv (undef))] [(2, .box 55 [.int .u8 shape.1, .int .u8 shape.2]), (32000, .box 71 (.int .i64 (1 + (shape.1 % 4)) :: (.int .i64 (1 + (shape.2 % 4)) :: (cellsX T63 v0_5.2.2.1 ++ (cellsX T65 v0_5.2.2.2.1 ++ (cellsX T69 v0_5.2.2.2.2)))))), (48000, .arr 3 (.int .i64) v0_6)] ?_
                refine zB [(1, .sl (.pair (.int .i64) (.pair (.int .i64) (.pair (.int .i64) (.int .i64)))) deeds), (2, .bp 2 0), (5, .bp 32000 0), (6, .int .i64 st1.2.2.2), (7, .own 48000), (11, .int .i64 st3), (12, .int .i64 st4), (126, .bool true)] [(2, .box 55 [.int .u8 shape.1, .int .u8 shape.2]), (32000, .box 71 (.int .i64 (1 + (shape.1 % 4)) :: (.int .i64 (1 + (shape.2 % 4)) :: (cellsX T63 v0_5.2.2.1 ++ (cellsX T65 v0_5.2.2.2.1 ++ (cellsX T69 v0_5.2.2.2.2)))))), (48000, .arr 3 (.int .i64) v0_6)] ?_
                refine AW.cond (b := true) rfl (fun _ => ?_) (fun hb39 => by cases hb39)
                refine zo ?_
                refine zB [(4, .bool false)] [] ?_
                refine AW.ret ?_
                refine ablock_r ?_
                refine athen_r ?_
                obtain rfl := Option.some.inj h
                try rw [← hd30 _ rfl] at ho29
                have h := ho29
                try simp only at h
                refine athen_r ?_
                refine ablock_r ?_
                refine ablock_r ?_
                refine athen_r ?_
                obtain rfl := Option.some.inj h
                try rw [← hd20 _ rfl] at ho19
                have h := ho19
                try simp only at h
                refine athen_r ?_
                refine ablock_r ?_
                refine ablock_r ?_
                refine athen_r ?_
                obtain rfl := Option.some.inj h
                try rw [← hd9 _ rfl] at ho8
                have h := ho8
                try simp only at h
                refine athen_r ?_
                refine ablock_r ?_
                refine athen_r ?_
                obtain rfl := Option.some.inj h
                exact zR [] [] []
               ·refine zS 3 [(1, .sl (.pair (.int .i64) (.pair (.int .i64) (.pair (.int .i64) (.int .i64)))) deeds), (2, .bp 2 0), (5, .bp 32000 0), (6, .int .i64 st1.2.2.2), (7, .own 48000), (11, .int .i64 st3), (12, .int .i64 st4), (13, .int .i64 v0_8.1), (15, .int .i64 v0_9.1), (112, .bool false), (115, .bool (decide (v0_8.2 = 0)))] [(2, .box 55 [.int .u8 shape.1, .int .u8 shape.2]), (32000, .box 71 (.int .i64 (1 + (shape.1 % 4)) :: (.int .i64 (1 + (shape.2 % 4)) :: (cellsX T63 v0_5.2.2.1 ++ (cellsX T65 v0_5.2.2.2.1 ++ (cellsX T69 v0_5.2.2.2.2)))))), (48000, .arr 3 (.int .i64) v0_6)] ?_
                rcases zI h with ⟨hb40, h⟩ | ⟨hb40, h⟩
                ·refine zS 4 [(1, .sl (.pair (.int .i64) (.pair (.int .i64) (.pair (.int .i64) (.int .i64)))) deeds), (2, .bp 2 0), (5, .bp 32000 0), (6, .int .i64 st1.2.2.2), (7, .own 48000), (11, .int .i64 st3), (12, .int .i64 st4), (13, .int .i64 v0_8.1), (112, .bool false), (115, .bool true), (119, .bool (!(decide (v0_8.1 = v0_9.1))))] [(2, .box 55 [.int .u8 shape.1, .int .u8 shape.2]), (32000, .box 71 (.int .i64 (1 + (shape.1 % 4)) :: (.int .i64 (1 + (shape.2 % 4)) :: (cellsX T63 v0_5.2.2.1 ++ (cellsX T65 v0_5.2.2.2.1 ++ (cellsX T69 v0_5.2.2.2.2)))))), (48000, .arr 3 (.int .i64) v0_6)] ?_
                 rcases zI h with ⟨hb41, h⟩ | ⟨hb41, h⟩
                 ·refine zS 4 [(1, .sl (.pair (.int .i64) (.pair (.int .i64) (.pair (.int .i64) (.int .i64)))) deeds), (2, .bp 2 0), (5, .bp 32000 0), (6, .int .i64 st1.2.2.2), (7, .own 48000), (11, .int .i64 st3), (12, .int .i64 st4), (112, .bool false), (115, .bool true), (119, .bool true), (123, .cv (undef))] [(2, .box 55 [.int .u8 shape.1, .int .u8 shape.2]), (32000, .box 71 (.int .i64 (1 + (shape.1 % 4)) :: (.int .i64 (1 + (shape.2 % 4)) :: (cellsX T63 v0_5.2.2.1 ++ (cellsX T65 v0_5.2.2.2.1 ++ (cellsX T69 v0_5.2.2.2.2)))))), (48000, .arr 3 (.int .i64) v0_6)] ?_
                  refine zB [(1, .sl (.pair (.int .i64) (.pair (.int .i64) (.pair (.int .i64) (.int .i64)))) deeds), (2, .bp 2 0), (5, .bp 32000 0), (6, .int .i64 st1.2.2.2), (7, .own 48000), (11, .int .i64 st3), (12, .int .i64 st4), (126, .bool true)] [(2, .box 55 [.int .u8 shape.1, .int .u8 shape.2]), (32000, .box 71 (.int .i64 (1 + (shape.1 % 4)) :: (.int .i64 (1 + (shape.2 % 4)) :: (cellsX T63 v0_5.2.2.1 ++ (cellsX T65 v0_5.2.2.2.1 ++ (cellsX T69 v0_5.2.2.2.2)))))), (48000, .arr 3 (.int .i64) v0_6)] ?_
                  refine AW.cond (b := true) rfl (fun _ => ?_) (fun hb42 => by cases hb42)
                  refine zo ?_
                  refine zB [(4, .bool false)] [] ?_
                  refine AW.ret ?_
                  refine ablock_r ?_
                  refine athen_r ?_
                  obtain rfl := Option.some.inj h
                  try rw [← hd30 _ rfl] at ho29
                  have h := ho29
                  try simp only at h
                  refine athen_r ?_
                  refine ablock_r ?_
                  refine ablock_r ?_
                  refine athen_r ?_
                  obtain rfl := Option.some.inj h
                  try rw [← hd20 _ rfl] at ho19
                  have h := ho19
                  try simp only at h
                  refine athen_r ?_
                  refine ablock_r ?_
                  refine ablock_r ?_
                  refine athen_r ?_
                  obtain rfl := Option.some.inj h
                  try rw [← hd9 _ rfl] at ho8
                  have h := ho8
                  try simp only at h
                  refine athen_r ?_
                  refine ablock_r ?_
                  refine athen_r ?_
                  obtain rfl := Option.some.inj h
                  exact zR [] [] []
                 ·refine zS 2 [(1, .sl (.pair (.int .i64) (.pair (.int .i64) (.pair (.int .i64) (.int .i64)))) deeds), (2, .bp 2 0), (5, .bp 32000 0), (6, .int .i64 st1.2.2.2), (7, .own 48000), (11, .int .i64 st3), (12, .int .i64 st4), (112, .bool false), (115, .bool true), (119, .bool false), (120, .own 48000), (121, .int .i64 v0_8.1)] [(2, .box 55 [.int .u8 shape.1, .int .u8 shape.2]), (32000, .box 71 (.int .i64 (1 + (shape.1 % 4)) :: (.int .i64 (1 + (shape.2 % 4)) :: (cellsX T63 v0_5.2.2.1 ++ (cellsX T65 v0_5.2.2.2.1 ++ (cellsX T69 v0_5.2.2.2.2)))))), (48000, .arr 3 (.int .i64) v0_6)] ?_
                  obtain ⟨v0_10, hv43, h⟩ := Option.bind_eq_some_iff.1 h
                  refine zG [48000] [] (hc_lineallaw06_has v0_6 v0_8.1 hv43) [(1, .sl (.pair (.int .i64) (.pair (.int .i64) (.pair (.int .i64) (.int .i64)))) deeds), (2, .bp 2 0), (5, .bp 32000 0), (6, .int .i64 st1.2.2.2), (7, .own 48000), (11, .int .i64 st3), (12, .int .i64 st4), (112, .bool false), (115, .bool true), (119, .bool false), (122, .bool v0_10)] [(2, .box 55 [.int .u8 shape.1, .int .u8 shape.2]), (32000, .box 71 (.int .i64 (1 + (shape.1 % 4)) :: (.int .i64 (1 + (shape.2 % 4)) :: (cellsX T63 v0_5.2.2.1 ++ (cellsX T65 v0_5.2.2.2.1 ++ (cellsX T69 v0_5.2.2.2.2)))))), (48000, .arr 3 (.int .i64) v0_6)] ?_
                  refine zB [(1, .sl (.pair (.int .i64) (.pair (.int .i64) (.pair (.int .i64) (.int .i64)))) deeds), (2, .bp 2 0), (5, .bp 32000 0), (6, .int .i64 st1.2.2.2), (7, .own 48000), (11, .int .i64 st3), (12, .int .i64 st4), (126, .bool (!v0_10))] [(2, .box 55 [.int .u8 shape.1, .int .u8 shape.2]), (32000, .box 71 (.int .i64 (1 + (shape.1 % 4)) :: (.int .i64 (1 + (shape.2 % 4)) :: (cellsX T63 v0_5.2.2.1 ++ (cellsX T65 v0_5.2.2.2.1 ++ (cellsX T69 v0_5.2.2.2.2)))))), (48000, .arr 3 (.int .i64) v0_6)] ?_
                  refine zQ h (fun hb44 h => ?_) (fun hb44 h => ?_)
                  ·refine zo ?_
                   refine zB [(4, .bool false)] [] ?_
                   refine AW.ret ?_
                   refine ablock_r ?_
                   refine athen_r ?_
                   obtain rfl := Option.some.inj h
                   try rw [← hd30 _ rfl] at ho29
                   have h := ho29
                   try simp only at h
                   refine athen_r ?_
                   refine ablock_r ?_
                   refine ablock_r ?_
                   refine athen_r ?_
                   obtain rfl := Option.some.inj h
                   try rw [← hd20 _ rfl] at ho19
                   have h := ho19
                   try simp only at h
                   refine athen_r ?_
                   refine ablock_r ?_
                   refine ablock_r ?_
                   refine athen_r ?_
                   obtain rfl := Option.some.inj h
                   try rw [← hd9 _ rfl] at ho8
                   have h := ho8
                   try simp only at h
                   refine athen_r ?_
                   refine ablock_r ?_
                   refine athen_r ?_
                   obtain rfl := Option.some.inj h
                   exact zR [] [] []
                  ·refine zm ?_
                   refine athen_n ?_
                   refine AW.ops ?_
                   obtain ⟨c45, h⟩ := ck_some.1 h
                   refine zA [(1, .sl (.pair (.int .i64) (.pair (.int .i64) (.pair (.int .i64) (.int .i64)))) deeds), (2, .bp 2 0), (5, .bp 32000 0), (6, .int .i64 st1.2.2.2), (7, .own 48000), (11, .int .i64 st3), (12, .int .i64 (st4 + 1))] [(2, .box 55 [.int .u8 shape.1, .int .u8 shape.2]), (32000, .box 71 (.int .i64 (1 + (shape.1 % 4)) :: (.int .i64 (1 + (shape.2 % 4)) :: (cellsX T63 v0_5.2.2.1 ++ (cellsX T65 v0_5.2.2.2.1 ++ (cellsX T69 v0_5.2.2.2.2)))))), (48000, .arr 3 (.int .i64) v0_6)] ?_
                   obtain rfl := Option.some.inj h
                   exact ⟨_, rfl, zL [] [] []⟩
                ·refine zS 4 [(1, .sl (.pair (.int .i64) (.pair (.int .i64) (.pair (.int .i64) (.int .i64)))) deeds), (2, .bp 2 0), (5, .bp 32000 0), (6, .int .i64 st1.2.2.2), (7, .own 48000), (11, .int .i64 st3), (12, .int .i64 st4), (13, .int .i64 v0_8.1), (112, .bool false), (115, .bool false), (119, .cv (undef))] [(2, .box 55 [.int .u8 shape.1, .int .u8 shape.2]), (32000, .box 71 (.int .i64 (1 + (shape.1 % 4)) :: (.int .i64 (1 + (shape.2 % 4)) :: (cellsX T63 v0_5.2.2.1 ++ (cellsX T65 v0_5.2.2.2.1 ++ (cellsX T69 v0_5.2.2.2.2)))))), (48000, .arr 3 (.int .i64) v0_6)] ?_
                 refine zS 4 [(1, .sl (.pair (.int .i64) (.pair (.int .i64) (.pair (.int .i64) (.int .i64)))) deeds), (2, .bp 2 0), (5, .bp 32000 0), (6, .int .i64 st1.2.2.2), (7, .own 48000), (11, .int .i64 st3), (12, .int .i64 st4), (112, .bool false), (115, .bool false), (119, .cv (undef)), (123, .cv (undef))] [(2, .box 55 [.int .u8 shape.1, .int .u8 shape.2]), (32000, .box 71 (.int .i64 (1 + (shape.1 % 4)) :: (.int .i64 (1 + (shape.2 % 4)) :: (cellsX T63 v0_5.2.2.1 ++ (cellsX T65 v0_5.2.2.2.1 ++ (cellsX T69 v0_5.2.2.2.2)))))), (48000, .arr 3 (.int .i64) v0_6)] ?_
                 refine zB [(1, .sl (.pair (.int .i64) (.pair (.int .i64) (.pair (.int .i64) (.int .i64)))) deeds), (2, .bp 2 0), (5, .bp 32000 0), (6, .int .i64 st1.2.2.2), (7, .own 48000), (11, .int .i64 st3), (12, .int .i64 st4), (126, .bool false)] [(2, .box 55 [.int .u8 shape.1, .int .u8 shape.2]), (32000, .box 71 (.int .i64 (1 + (shape.1 % 4)) :: (.int .i64 (1 + (shape.2 % 4)) :: (cellsX T63 v0_5.2.2.1 ++ (cellsX T65 v0_5.2.2.2.1 ++ (cellsX T69 v0_5.2.2.2.2)))))), (48000, .arr 3 (.int .i64) v0_6)] ?_
                 refine AW.cond (b := false) rfl (fun hb46 => by cases hb46) (fun _ => ?_)
                 refine zm ?_
                 refine athen_n ?_
                 refine AW.ops ?_
                 obtain ⟨c47, h⟩ := ck_some.1 h
                 refine zA [(1, .sl (.pair (.int .i64) (.pair (.int .i64) (.pair (.int .i64) (.int .i64)))) deeds), (2, .bp 2 0), (5, .bp 32000 0), (6, .int .i64 st1.2.2.2), (7, .own 48000), (11, .int .i64 st3), (12, .int .i64 (st4 + 1))] [(2, .box 55 [.int .u8 shape.1, .int .u8 shape.2]), (32000, .box 71 (.int .i64 (1 + (shape.1 % 4)) :: (.int .i64 (1 + (shape.2 % 4)) :: (cellsX T63 v0_5.2.2.1 ++ (cellsX T65 v0_5.2.2.2.1 ++ (cellsX T69 v0_5.2.2.2.2)))))), (48000, .arr 3 (.int .i64) v0_6)] ?_
                 obtain rfl := Option.some.inj h
                 exact ⟨_, rfl, zL [] [] []⟩
             ·refine AW.exit ?_
              refine athen_e ?_
              obtain rfl := Option.some.inj h
              try rw [← hd30 _ rfl] at ho29
              have h := ho29
              try simp only at h
              refine athen_e ?_
              refine ablock_s ?_
              refine ablock_n ?_
              refine athen_n ?_
              exact AW.weaken (zL [] [] []) (hk_lineallaw06_HazardSafes_k4 () h)
          ·refine AW.exit ?_
           refine athen_e ?_
           obtain rfl := Option.some.inj h
           try rw [← hd20 _ rfl] at ho19
           have h := ho19
           try simp only at h
           refine athen_e ?_
           refine ablock_s ?_
           refine ablock_n ?_
           refine athen_n ?_
           exact AW.weaken (zL [] [] []) (hk_lineallaw06_HazardSafes_k2 _ h)
       ·refine AW.seq ?_
        refine zo ?_
        refine zB [(1, .sl (.pair (.int .i64) (.pair (.int .i64) (.pair (.int .i64) (.int .i64)))) deeds), (2, .bp 2 0), (5, .bp 32000 0), (6, .int .i64 st1.2.2.2), (7, .own 48000), (8, .int .i64 0)] [(2, .box 55 [.int .u8 shape.1, .int .u8 shape.2]), (32000, .box 71 (.int .i64 (1 + (shape.1 % 4)) :: (.int .i64 (1 + (shape.2 % 4)) :: (cellsX T63 v0_5.2.2.1 ++ (cellsX T65 v0_5.2.2.2.1 ++ (cellsX T69 v0_5.2.2.2.2)))))), (48000, .arr 3 (.int .i64) v0_6)] ?_
        refine AW.block ?_
        obtain ⟨rv52, hw48, ho49⟩ := Option.bind_eq_some_iff.1 h
        refine AW.loopO (lineallaw06_HazardSafes_b2 shape v0_5 v0_6) (fun st2 => ⟨fr [(1, .sl (.pair (.int .i64) (.pair (.int .i64) (.pair (.int .i64) (.int .i64)))) deeds), (2, .bp 2 0), (5, .bp 32000 0), (6, .int .i64 st1.2.2.2), (7, .own 48000), (8, .int .i64 st2)], hpGet [(2, .box 55 [.int .u8 shape.1, .int .u8 shape.2]), (32000, .box 71 (.int .i64 (1 + (shape.1 % 4)) :: (.int .i64 (1 + (shape.2 % 4)) :: (cellsX T63 v0_5.2.2.1 ++ (cellsX T65 v0_5.2.2.2.1 ++ (cellsX T69 v0_5.2.2.2.2)))))), (48000, .arr 3 (.int .i64) v0_6)], gt⟩) 0 hw48 (zL [] [] []) ?_
        as_aux_lemma =>
         intro st2 x51 h hd50
         unfold lineallaw06_HazardSafes_b2 at h
         refine AW.seq ?_
         refine zo ?_
         refine zB [(1, .sl (.pair (.int .i64) (.pair (.int .i64) (.pair (.int .i64) (.int .i64)))) deeds), (2, .bp 2 0), (5, .bp 32000 0), (6, .int .i64 st1.2.2.2), (7, .own 48000), (8, .int .i64 st2), (42, .bool (decide (st2 < (v0_6.length : Int))))] [(2, .box 55 [.int .u8 shape.1, .int .u8 shape.2]), (32000, .box 71 (.int .i64 (1 + (shape.1 % 4)) :: (.int .i64 (1 + (shape.2 % 4)) :: (cellsX T63 v0_5.2.2.1 ++ (cellsX T65 v0_5.2.2.2.1 ++ (cellsX T69 v0_5.2.2.2.2)))))), (48000, .arr 3 (.int .i64) v0_6)] ?_
         refine zQ h (fun hb53 h => ?_) (fun hb53 h => ?_)
         ·refine zk ?_
          refine AW.seq ?_
          refine AW.block ?_
          refine zo ?_
          obtain ⟨c54, h⟩ := ck_some.1 h
          obtain ⟨c55, h⟩ := ck_some.1 h
          refine zS 5 [(1, .sl (.pair (.int .i64) (.pair (.int .i64) (.pair (.int .i64) (.int .i64)))) deeds), (2, .bp 2 0), (5, .bp 32000 0), (6, .int .i64 st1.2.2.2), (7, .own 48000), (8, .int .i64 st2), (46, .bp 32000 0), (50, .int .i64 (v0_6.getD st2.toNat 0))] [(2, .box 55 [.int .u8 shape.1, .int .u8 shape.2]), (32000, .box 71 (.int .i64 (1 + (shape.1 % 4)) :: (.int .i64 (1 + (shape.2 % 4)) :: (cellsX T63 v0_5.2.2.1 ++ (cellsX T65 v0_5.2.2.2.1 ++ (cellsX T69 v0_5.2.2.2.2)))))), (48000, .arr 3 (.int .i64) v0_6)] ?_
          obtain ⟨v0_7, hv56, h⟩ := Option.bind_eq_some_iff.1 h
          refine zC [] [(1000, 32000)] (hc_hazard_Yard_State (v0_6.getD st2.toNat 0) ((1 + (shape.1 % 4)), (1 + (shape.2 % 4)), v0_5.2.2) hv56) [(1, .sl (.pair (.int .i64) (.pair (.int .i64) (.pair (.int .i64) (.int .i64)))) deeds), (2, .bp 2 0), (5, .bp 32000 0), (6, .int .i64 st1.2.2.2), (7, .own 48000), (8, .int .i64 st2), (51, .tup [.int .i64 v0_7.1, .int .i64 v0_7.2])] [(2, .box 55 [.int .u8 shape.1, .int .u8 shape.2]), (32000, .box 71 (.int .i64 (1 + (shape.1 % 4)) :: (.int .i64 (1 + (shape.2 % 4)) :: (cellsX T63 v0_5.2.2.1 ++ (cellsX T65 v0_5.2.2.2.1 ++ (cellsX T69 v0_5.2.2.2.2)))))), (48000, .arr 3 (.int .i64) v0_6)] ?_
          refine zB [(1, .sl (.pair (.int .i64) (.pair (.int .i64) (.pair (.int .i64) (.int .i64)))) deeds), (2, .bp 2 0), (5, .bp 32000 0), (6, .int .i64 st1.2.2.2), (7, .own 48000), (8, .int .i64 st2), (9, .int .i64 v0_7.1), (10, .int .i64 v0_7.2)] [(2, .box 55 [.int .u8 shape.1, .int .u8 shape.2]), (32000, .box 71 (.int .i64 (1 + (shape.1 % 4)) :: (.int .i64 (1 + (shape.2 % 4)) :: (cellsX T63 v0_5.2.2.1 ++ (cellsX T65 v0_5.2.2.2.1 ++ (cellsX T69 v0_5.2.2.2.2)))))), (48000, .arr 3 (.int .i64) v0_6)] ?_
          refine AW.seq ?_
          refine AW.draw tab_ok mixed_ok [] [] (by decide) (lex_fast (by kernel_rfl)) ?_
          as_aux_lemma =>
           refine adops_cut 3 (fun K' hK57 => ?_)
           try dsimp only [List.drop_succ_cons, List.drop_zero, List.take_succ_cons, List.take_zero]
           simp only [go_sem, hb1, hb12, hb53]
           repeat with_reducible refine zN ?_
           refine hK57 _ ?_
           as_aux_lemma =>
            rcases zI h with ⟨hb58, h⟩ | ⟨hb58, h⟩
            ·simp only [hb58]
             as_aux_lemma =>
              refine adops_cut 6 (fun K' hK59 => ?_)
              try dsimp only [List.drop_succ_cons, List.drop_zero, List.take_succ_cons, List.take_zero]
              simp only [go_sem, hb1, hb12, hb53, hb58]
              repeat with_reducible refine zN ?_
              refine hK59 _ ?_
              as_aux_lemma =>
               refine adops_cut 4 (fun K' hK60 => ?_)
               try dsimp only [List.drop_succ_cons, List.drop_zero, List.take_succ_cons, List.take_zero]
               simp only [go_sem, hb1, hb12, hb53, hb58]
               repeat with_reducible refine zN ?_
               refine hK60 _ ?_
               as_aux_lemma =>
                refine adops_cut 4 (fun K' hK61 => ?_)
                try dsimp only [List.drop_succ_cons, List.drop_zero, List.take_succ_cons, List.take_zero]
                simp only [go_sem, hb1, hb12, hb53, hb58]
                repeat with_reducible refine zN ?_
                refine hK61 _ ?_
                as_aux_lemma =>
                 refine adops_cut 4 (fun K' hK62 => ?_)
                 try dsimp only [List.drop_succ_cons, List.drop_zero, List.take_succ_cons, List.take_zero]
                 simp only [go_sem, hb1, hb12, hb53, hb58]
                 repeat with_reducible refine zN ?_
                 refine hK62 _ ?_
                 as_aux_lemma =>
                  refine adops_cut 1 (fun K' hK63 => ?_)
                  try dsimp only [List.drop_succ_cons, List.drop_zero, List.take_succ_cons, List.take_zero]
                  simp only [go_sem, hb1, hb12, hb53, hb58]
                  repeat with_reducible refine zN ?_
                  refine hK63 _ ?_
                  refine adops_nil ?_
                  refine athen_n ?_
                  refine zV [(1, .sl (.pair (.int .i64) (.pair (.int .i64) (.pair (.int .i64) (.int .i64)))) deeds), (2, .bp 2 0), (5, .bp 32000 0), (6, .int .i64 st1.2.2.2), (7, .own 48000), (8, .int .i64 st2), (75, .bool true)] [(2, .box 55 [.int .u8 shape.1, .int .u8 shape.2]), (32000, .box 71 (.int .i64 (1 + (shape.1 % 4)) :: (.int .i64 (1 + (shape.2 % 4)) :: (cellsX T63 v0_5.2.2.1 ++ (cellsX T65 v0_5.2.2.2.1 ++ (cellsX T69 v0_5.2.2.2.2)))))), (48000, .arr 3 (.int .i64) v0_6)] gt ?_
                  as_aux_lemma =>
                   refine AW.cond (b := true) rfl (fun _ => ?_) (fun hb64 => by cases hb64)
                   refine zo ?_
                   refine zB [(4, .bool false)] [] ?_
                   refine AW.ret ?_
                   refine ablock_r ?_
                   refine athen_r ?_
                   obtain rfl := Option.some.inj h
                   try rw [← hd50 _ rfl] at ho49
                   have h := ho49
                   try simp only at h
                   refine athen_r ?_
                   refine ablock_r ?_
                   refine athen_r ?_
                   refine ablock_r ?_
                   refine athen_r ?_
                   obtain rfl := Option.some.inj h
                   try rw [← hd9 _ rfl] at ho8
                   have h := ho8
                   try simp only at h
                   refine athen_r ?_
                   refine ablock_r ?_
                   refine athen_r ?_
                   obtain rfl := Option.some.inj h
                   exact zR [] [] []
            ·simp only [hb58]
             as_aux_lemma =>
              refine adops_cut 4 (fun K' hK65 => ?_)
              try dsimp only [List.drop_succ_cons, List.drop_zero, List.take_succ_cons, List.take_zero]
              simp only [go_sem, hb1, hb12, hb53, hb58]
              repeat with_reducible refine zN ?_
              refine hK65 _ ?_
              as_aux_lemma =>
               rcases zI h with ⟨hb66, h⟩ | ⟨hb66, h⟩
               ·simp only [hb66]
                as_aux_lemma =>
                 refine adops_cut 4 (fun K' hK67 => ?_)
                 try dsimp only [List.drop_succ_cons, List.drop_zero, List.take_succ_cons, List.take_zero]
                 simp only [go_sem, hb1, hb12, hb53, hb58, hb66]
                 repeat with_reducible refine zN ?_
                 refine hK67 _ ?_
                 as_aux_lemma =>
                  refine adops_cut 4 (fun K' hK68 => ?_)
                  try dsimp only [List.drop_succ_cons, List.drop_zero, List.take_succ_cons, List.take_zero]
                  simp only [go_sem, hb1, hb12, hb53, hb58, hb66]
                  repeat with_reducible refine zN ?_
                  refine hK68 _ ?_
                  as_aux_lemma =>
                   refine adops_cut 4 (fun K' hK69 => ?_)
                   try dsimp only [List.drop_succ_cons, List.drop_zero, List.take_succ_cons, List.take_zero]
                   simp only [go_sem, hb1, hb12, hb53, hb58, hb66]
                   repeat with_reducible refine zN ?_
                   refine hK69 _ ?_
                   as_aux_lemma =>
                    refine adops_cut 3 (fun K' hK70 => ?_)
                    try dsimp only [List.drop_succ_cons, List.drop_zero, List.take_succ_cons, List.take_zero]
                    simp only [go_sem, hb1, hb12, hb53, hb58, hb66]
                    repeat with_reducible refine zN ?_
                    refine hK70 _ ?_
                    refine adops_nil ?_
                    refine athen_n ?_
                    refine zV [(1, .sl (.pair (.int .i64) (.pair (.int .i64) (.pair (.int .i64) (.int .i64)))) deeds), (2, .bp 2 0), (5, .bp 32000 0), (6, .int .i64 st1.2.2.2), (7, .own 48000), (8, .int .i64 st2), (75, .bool true)] [(2, .box 55 [.int .u8 shape.1, .int .u8 shape.2]), (32000, .box 71 (.int .i64 (1 + (shape.1 % 4)) :: (.int .i64 (1 + (shape.2 % 4)) :: (cellsX T63 v0_5.2.2.1 ++ (cellsX T65 v0_5.2.2.2.1 ++ (cellsX T69 v0_5.2.2.2.2)))))), (48000, .arr 3 (.int .i64) v0_6)] gt ?_
                    as_aux_lemma =>
                     refine AW.cond (b := true) rfl (fun _ => ?_) (fun hb71 => by cases hb71)
                     refine zo ?_
                     refine zB [(4, .bool false)] [] ?_
                     refine AW.ret ?_
                     refine ablock_r ?_
                     refine athen_r ?_
                     obtain rfl := Option.some.inj h
                     try rw [← hd50 _ rfl] at ho49
                     have h := ho49
                     try simp only at h
                     refine athen_r ?_
                     refine ablock_r ?_
                     refine athen_r ?_
                     refine ablock_r ?_
                     refine athen_r ?_
                     obtain rfl := Option.some.inj h
                     try rw [← hd9 _ rfl] at ho8
                     have h := ho8
                     try simp only at h
                     refine athen_r ?_
                     refine ablock_r ?_
                     refine athen_r ?_
                     obtain rfl := Option.some.inj h
                     exact zR [] [] []
               ·simp only [hb66]
                as_aux_lemma =>
                 refine adops_cut 3 (fun K' hK72 => ?_)
                 try dsimp only [List.drop_succ_cons, List.drop_zero, List.take_succ_cons, List.take_zero]
                 simp only [go_sem, hb1, hb12, hb53, hb58, hb66]
                 repeat with_reducible refine zN ?_
                 refine hK72 _ ?_
                 as_aux_lemma =>
                  rcases zI h with ⟨hb73, h⟩ | ⟨hb73, h⟩
                  ·simp only [hb73]
                   as_aux_lemma =>
                    obtain ⟨c75, h⟩ := ck_some.1 h
                    obtain ⟨c76, h⟩ := ck_some.1 h
                    refine adops_cut 6 (fun K' hK74 => ?_)
                    try dsimp only [List.drop_succ_cons, List.drop_zero, List.take_succ_cons, List.take_zero]
                    simp only [go_sem, hb1, hb12, hb53, hb58, hb66, hb73]
                    repeat with_reducible refine zN ?_
                    refine hK74 _ ?_
                    as_aux_lemma =>
                     obtain ⟨c78, h⟩ := ck_some.1 h
                     obtain ⟨c79, h⟩ := ck_some.1 h
                     obtain ⟨c80, h⟩ := ck_some.1 h
                     refine adops_cut 6 (fun K' hK77 => ?_)
                     try dsimp only [List.drop_succ_cons, List.drop_zero, List.take_succ_cons, List.take_zero]
                     simp only [go_sem, hb1, hb12, hb53, hb58, hb66, hb73]
                     repeat with_reducible refine zN ?_
                     refine hK77 _ ?_
                     refine adops_nil ?_
                     refine athen_n ?_
                     refine zV [(1, .sl (.pair (.int .i64) (.pair (.int .i64) (.pair (.int .i64) (.int .i64)))) deeds), (2, .bp 2 0), (5, .bp 32000 0), (6, .int .i64 st1.2.2.2), (7, .own 48000), (8, .int .i64 st2), (75, .bool (decide ((v0_6.getD st2.toNat 0) ≤ (v0_6.getD (st2 - 1).toNat 0))))] [(2, .box 55 [.int .u8 shape.1, .int .u8 shape.2]), (32000, .box 71 (.int .i64 (1 + (shape.1 % 4)) :: (.int .i64 (1 + (shape.2 % 4)) :: (cellsX T63 v0_5.2.2.1 ++ (cellsX T65 v0_5.2.2.2.1 ++ (cellsX T69 v0_5.2.2.2.2)))))), (48000, .arr 3 (.int .i64) v0_6)] gt ?_
                     as_aux_lemma =>
                      refine zQ h (fun hb81 h => ?_) (fun hb81 h => ?_)
                      ·refine zo ?_
                       refine zB [(4, .bool false)] [] ?_
                       refine AW.ret ?_
                       refine ablock_r ?_
                       refine athen_r ?_
                       obtain rfl := Option.some.inj h
                       try rw [← hd50 _ rfl] at ho49
                       have h := ho49
                       try simp only at h
                       refine athen_r ?_
                       refine ablock_r ?_
                       refine athen_r ?_
                       refine ablock_r ?_
                       refine athen_r ?_
                       obtain rfl := Option.some.inj h
                       try rw [← hd9 _ rfl] at ho8
                       have h := ho8
                       try simp only at h
                       refine athen_r ?_
                       refine ablock_r ?_
                       refine athen_r ?_
                       obtain rfl := Option.some.inj h
                       exact zR [] [] []
                      ·refine zm ?_
                       refine athen_n ?_
                       refine AW.ops ?_
                       obtain ⟨c82, h⟩ := ck_some.1 h
                       refine zA [(1, .sl (.pair (.int .i64) (.pair (.int .i64) (.pair (.int .i64) (.int .i64)))) deeds), (2, .bp 2 0), (5, .bp 32000 0), (6, .int .i64 st1.2.2.2), (7, .own 48000), (8, .int .i64 (st2 + 1))] [(2, .box 55 [.int .u8 shape.1, .int .u8 shape.2]), (32000, .box 71 (.int .i64 (1 + (shape.1 % 4)) :: (.int .i64 (1 + (shape.2 % 4)) :: (cellsX T63 v0_5.2.2.1 ++ (cellsX T65 v0_5.2.2.2.1 ++ (cellsX T69 v0_5.2.2.2.2)))))), (48000, .arr 3 (.int .i64) v0_6)] ?_
                       obtain rfl := Option.some.inj h
                       exact ⟨_, rfl, zL [] [] []⟩
                  ·simp only [hb73]
                   as_aux_lemma =>
                    refine adops_cut 4 (fun K' hK83 => ?_)
                    try dsimp only [List.drop_succ_cons, List.drop_zero, List.take_succ_cons, List.take_zero]
                    simp only [go_sem, hb1, hb12, hb53, hb58, hb66, hb73]
                    repeat with_reducible refine zN ?_
                    refine hK83 _ ?_
                    as_aux_lemma =>
                     refine adops_cut 4 (fun K' hK84 => ?_)
                     try dsimp only [List.drop_succ_cons, List.drop_zero, List.take_succ_cons, List.take_zero]
                     simp only [go_sem, hb1, hb12, hb53, hb58, hb66, hb73]
                     repeat with_reducible refine zN ?_
                     refine hK84 _ ?_
                     as_aux_lemma =>
                      refine adops_cut 4 (fun K' hK85 => ?_)
                      try dsimp only [List.drop_succ_cons, List.drop_zero, List.take_succ_cons, List.take_zero]
                      simp only [go_sem, hb1, hb12, hb53, hb58, hb66, hb73]
                      repeat with_reducible refine zN ?_
                      refine hK85 _ ?_
                      refine adops_nil ?_
                      refine athen_n ?_
                      refine zV [(1, .sl (.pair (.int .i64) (.pair (.int .i64) (.pair (.int .i64) (.int .i64)))) deeds), (2, .bp 2 0), (5, .bp 32000 0), (6, .int .i64 st1.2.2.2), (7, .own 48000), (8, .int .i64 st2), (75, .bool false)] [(2, .box 55 [.int .u8 shape.1, .int .u8 shape.2]), (32000, .box 71 (.int .i64 (1 + (shape.1 % 4)) :: (.int .i64 (1 + (shape.2 % 4)) :: (cellsX T63 v0_5.2.2.1 ++ (cellsX T65 v0_5.2.2.2.1 ++ (cellsX T69 v0_5.2.2.2.2)))))), (48000, .arr 3 (.int .i64) v0_6)] gt ?_
                      as_aux_lemma =>
                       refine AW.cond (b := false) rfl (fun hb86 => by cases hb86) (fun _ => ?_)
                       refine zm ?_
                       refine athen_n ?_
                       refine AW.ops ?_
                       obtain ⟨c87, h⟩ := ck_some.1 h
                       refine zA [(1, .sl (.pair (.int .i64) (.pair (.int .i64) (.pair (.int .i64) (.int .i64)))) deeds), (2, .bp 2 0), (5, .bp 32000 0), (6, .int .i64 st1.2.2.2), (7, .own 48000), (8, .int .i64 (st2 + 1))] [(2, .box 55 [.int .u8 shape.1, .int .u8 shape.2]), (32000, .box 71 (.int .i64 (1 + (shape.1 % 4)) :: (.int .i64 (1 + (shape.2 % 4)) :: (cellsX T63 v0_5.2.2.1 ++ (cellsX T65 v0_5.2.2.2.1 ++ (cellsX T69 v0_5.2.2.2.2)))))), (48000, .arr 3 (.int .i64) v0_6)] ?_
                       obtain rfl := Option.some.inj h
                       exact ⟨_, rfl, zL [] [] []⟩
         ·refine AW.exit ?_
          refine athen_e ?_
          obtain rfl := Option.some.inj h
          try rw [← hd50 _ rfl] at ho49
          have h := ho49
          try simp only at h
          refine athen_e ?_
          refine ablock_s ?_
          refine athen_n ?_
          exact AW.weaken (zL [] [] []) (hk_lineallaw06_HazardSafes_k3 () h)
     ·refine AW.exit ?_
      refine athen_e ?_
      obtain rfl := Option.some.inj h
      try rw [← hd9 _ rfl] at ho8
      have h := ho8
      try simp only at h
      refine athen_e ?_
      refine ablock_s ?_
      refine athen_n ?_
      exact AW.weaken (zL [] [] []) (hk_lineallaw06_HazardSafes_k1 () h)

end Go.Proofs.YtcckpmeepcoafaaDoor
