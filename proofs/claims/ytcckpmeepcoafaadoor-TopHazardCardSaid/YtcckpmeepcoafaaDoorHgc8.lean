/-
  Made by wip/tool/dc.py out of the print of the program: contracts.
-/
import Derived.Test.YtcckpmeepcoafaaDoorHzp
import Derived.Test.YtcckpmeepcoafaaDoorShz
import Derived.Test.YtcckpmeepcoafaaDoorHgc1
import Derived.Test.YtcckpmeepcoafaaDoorHgc3
import Derived.Test.YtcckpmeepcoafaaDoorHgc5
import Derived.Test.YtcckpmeepcoafaaDoorHgc6
import Derived.Test.YtcckpmeepcoafaaDoorHgc7
namespace Go.Proofs.YtcckpmeepcoafaaDoor
open Go.RowKit

set_option linter.unusedSimpArgs false
set_option linter.unusedVariables false
set_option linter.constructorNameAsVariable false

set_option maxRecDepth 100000
set_option maxHeartbeats 40000000

theorem hc_linealtop_TopHazard (shape : Int × Int) (deeds : List (Int × Int × Int × Int)) {r : Bool} (h : linealtop_TopHazard shape deeds = some r) : HC Tryd.prog 11 [] [.agg [.int .u8 shape.1, .int .u8 shape.2], .sl (.pair (.int .i64) (.pair (.int .i64) (.pair (.int .i64) (.int .i64)))) deeds] [] (.bool r) := by
 unfold linealtop_TopHazard at h
 refine zH Tryd.func11 [.tmp 4] 180 ?_
 refine zo ?_
 refine zB [(1, .sl (.pair (.int .i64) (.pair (.int .i64) (.pair (.int .i64) (.int .i64)))) deeds), (2, .bp 2 0)] [(2, .box 55 [.int .u8 shape.1, .int .u8 shape.2])] ?_
 refine AW.seq ?_
 refine zo ?_
 refine zB [(1, .sl (.pair (.int .i64) (.pair (.int .i64) (.pair (.int .i64) (.int .i64)))) deeds), (2, .bp 2 0), (27, .bool (decide (100 < (deeds.length : Int))))] [(2, .box 55 [.int .u8 shape.1, .int .u8 shape.2])] ?_
 refine zQ h (fun hb1 h => ?_) (fun hb1 h => ?_)
 ·refine zo ?_
  obtain ⟨v0, hv2, h⟩ := Option.bind_eq_some_iff.1 h
  refine zC [] [] (hc_lineallaw06_Sane hv2) [(28, .bool v0)] [] ?_
  refine zB [(4, .bool v0)] [] ?_
  refine zr ?_
  obtain rfl := Option.some.inj h
  exact zR [] [] []
 ·refine zk ?_
  refine zo ?_
  obtain ⟨c3, h⟩ := ck_some.1 h
  obtain ⟨c4, h⟩ := ck_some.1 h
  obtain ⟨c5, h⟩ := ck_some.1 h
  refine zS 5 [(1, .sl (.pair (.int .i64) (.pair (.int .i64) (.pair (.int .i64) (.int .i64)))) deeds), (2, .bp 2 0), (33, .int .i64 (1 + (shape.1 % 4)))] [(2, .box 55 [.int .u8 shape.1, .int .u8 shape.2])] ?_
  refine zB [(1, .sl (.pair (.int .i64) (.pair (.int .i64) (.pair (.int .i64) (.int .i64)))) deeds), (2, .bp 2 0), (5, .int .i64 (1 + (shape.1 % 4)))] [(2, .box 55 [.int .u8 shape.1, .int .u8 shape.2])] ?_
  refine zo ?_
  obtain ⟨c6, h⟩ := ck_some.1 h
  obtain ⟨c7, h⟩ := ck_some.1 h
  refine zS 5 [(1, .sl (.pair (.int .i64) (.pair (.int .i64) (.pair (.int .i64) (.int .i64)))) deeds), (5, .int .i64 (1 + (shape.1 % 4))), (35, .int .i64 (1 + (shape.1 % 4))), (39, .int .i64 (shape.2 % 4))] [] ?_
  obtain ⟨c8, h⟩ := ck_some.1 h
  refine zS 1 [(1, .sl (.pair (.int .i64) (.pair (.int .i64) (.pair (.int .i64) (.int .i64)))) deeds), (5, .int .i64 (1 + (shape.1 % 4))), (35, .int .i64 (1 + (shape.1 % 4))), (40, .int .i64 (1 + (shape.2 % 4)))] [] ?_
  obtain ⟨v0_2, hv9, h⟩ := Option.bind_eq_some_iff.1 h
  rcases v0_2 with v0_3 | v0_4
  ·try simp only at h
   refine zC [] [] (hc_hazard_New_a0 (1 + (shape.1 % 4)) (1 + (shape.2 % 4)) hv9) [(1, .sl (.pair (.int .i64) (.pair (.int .i64) (.pair (.int .i64) (.int .i64)))) deeds), (5, .int .i64 (1 + (shape.1 % 4))), (41, .tup [.cv (.pointer none), .int .i64 2])] [] ?_
   refine zB [(1, .sl (.pair (.int .i64) (.pair (.int .i64) (.pair (.int .i64) (.int .i64)))) deeds), (5, .int .i64 (1 + (shape.1 % 4))), (6, .cv (.pointer none)), (7, .int .i64 2)] [] ?_
   refine AW.seq ?_
   refine zo ?_
   have hk1 : (!decide ((2 : Int) = 0)) = true := rfl
   refine zS 5 [(1, .sl (.pair (.int .i64) (.pair (.int .i64) (.pair (.int .i64) (.int .i64)))) deeds), (5, .int .i64 (1 + (shape.1 % 4))), (6, .cv (.pointer none)), (46, .bool true), (48, .cv (undef))] [] ?_
   refine zB [(1, .sl (.pair (.int .i64) (.pair (.int .i64) (.pair (.int .i64) (.int .i64)))) deeds), (5, .int .i64 (1 + (shape.1 % 4))), (6, .cv (.pointer none)), (49, .bool true)] [] ?_
   refine AW.cond (b := true) rfl (fun _ => ?_) (fun hb10 => by cases hb10)
   refine zo ?_
   refine zB [(4, .bool false)] [] ?_
   refine zr ?_
   obtain rfl := Option.some.inj h
   exact zR [] [] []
  ·try simp only at h
   refine zC [] [] (hc_hazard_New_a1 (1 + (shape.1 % 4)) (1 + (shape.2 % 4)) hv9) [(1, .sl (.pair (.int .i64) (.pair (.int .i64) (.pair (.int .i64) (.int .i64)))) deeds), (5, .int .i64 (1 + (shape.1 % 4))), (41, .tup [.bp 51000 0, .int .i64 0])] [(51000, .box 71 (.int .i64 (1 + (shape.1 % 4)) :: (.int .i64 (1 + (shape.2 % 4)) :: (cellsX T63 (Ty.dflt T63) ++ (cellsX T65 v0_4 ++ (cellsX T69 (Ty.dflt T69)))))))] ?_
   refine zB [(1, .sl (.pair (.int .i64) (.pair (.int .i64) (.pair (.int .i64) (.int .i64)))) deeds), (5, .int .i64 (1 + (shape.1 % 4))), (6, .bp 51000 0), (7, .int .i64 0)] [(51000, .box 71 (.int .i64 (1 + (shape.1 % 4)) :: (.int .i64 (1 + (shape.2 % 4)) :: (cellsX T63 (Ty.dflt T63) ++ (cellsX T65 v0_4 ++ (cellsX T69 (Ty.dflt T69)))))))] ?_
   refine AW.seq ?_
   refine zo ?_
   refine zS 4 [(1, .sl (.pair (.int .i64) (.pair (.int .i64) (.pair (.int .i64) (.int .i64)))) deeds), (5, .int .i64 (1 + (shape.1 % 4))), (6, .bp 51000 0), (46, .bool false), (47, .bp 51000 0)] [(51000, .box 71 (.int .i64 (1 + (shape.1 % 4)) :: (.int .i64 (1 + (shape.2 % 4)) :: (cellsX T63 (Ty.dflt T63) ++ (cellsX T65 v0_4 ++ (cellsX T69 (Ty.dflt T69)))))))] ?_
   refine AO.ptrNil (neg := false) (p := false) (by decide) (.inr ⟨_, _, _, rfl, rfl, rfl⟩) (by kernel_rfl) rfl rfl rfl ?_
   refine zT [(1, .sl (.pair (.int .i64) (.pair (.int .i64) (.pair (.int .i64) (.int .i64)))) deeds), (5, .int .i64 (1 + (shape.1 % 4))), (6, .bp 51000 0), (46, .bool false), (48, .bool false)] [(51000, .box 71 (.int .i64 (1 + (shape.1 % 4)) :: (.int .i64 (1 + (shape.2 % 4)) :: (cellsX T63 (Ty.dflt T63) ++ (cellsX T65 v0_4 ++ (cellsX T69 (Ty.dflt T69)))))))] gt ?_
   refine zB [(1, .sl (.pair (.int .i64) (.pair (.int .i64) (.pair (.int .i64) (.int .i64)))) deeds), (5, .int .i64 (1 + (shape.1 % 4))), (6, .bp 51000 0), (49, .bool false)] [(51000, .box 71 (.int .i64 (1 + (shape.1 % 4)) :: (.int .i64 (1 + (shape.2 % 4)) :: (cellsX T63 (Ty.dflt T63) ++ (cellsX T65 v0_4 ++ (cellsX T69 (Ty.dflt T69)))))))] ?_
   refine AW.cond (b := false) rfl (fun hb11 => by cases hb11) (fun _ => ?_)
   refine zk ?_
   refine AW.have1 (fun b2_2 : (El T63) × (El T65) × (El T69) => linealtop_TopHazard_k1 shape b2_2 = some r) (fun b2_2 => ⟨fr [(5, .int .i64 (1 + (shape.1 % 4))), (6, .bp 51000 0)], hpGet [(51000, .box 71 (.int .i64 (1 + (shape.1 % 4)) :: (.int .i64 (1 + (shape.2 % 4)) :: (cellsX T63 b2_2.1 ++ (cellsX T65 b2_2.2.1 ++ (cellsX T69 b2_2.2.2))))))], gt⟩) (fun b2_2 h => ?_) (fun hk_linealtop_TopHazard_k1 => ?_)
   ·as_aux_lemma =>
     unfold linealtop_TopHazard_k1 at h
     refine AW.have1 (fun b3 : (El T63) × (El T69) => linealtop_TopHazard_k3 shape b2_2 b3 = some r) (fun b3 => ⟨fr [(5, .int .i64 (1 + (shape.1 % 4))), (6, .bp 51000 0)], hpGet [(51000, .box 71 (.int .i64 (1 + (shape.1 % 4)) :: (.int .i64 (1 + (shape.2 % 4)) :: (cellsX T63 b3.1 ++ (cellsX T65 b2_2.2.1 ++ (cellsX T69 b3.2))))))], gt⟩) (fun b3 h => ?_) (fun hk_linealtop_TopHazard_k3 => ?_)
     ·as_aux_lemma =>
       unfold linealtop_TopHazard_k3 at h
       refine AW.have1 (fun b5_2 : (El T65) => linealtop_TopHazard_k4 shape b3 b5_2 = some r) (fun b5_2 => ⟨fr [(5, .int .i64 (1 + (shape.1 % 4))), (6, .bp 51000 0)], hpGet [(51000, .box 71 (.int .i64 (1 + (shape.1 % 4)) :: (.int .i64 (1 + (shape.2 % 4)) :: (cellsX T63 b3.1 ++ (cellsX T65 b5_2 ++ (cellsX T69 b3.2))))))], gt⟩) (fun b5_2 h => ?_) (fun hk_linealtop_TopHazard_k4 => ?_)
       ·as_aux_lemma =>
         unfold linealtop_TopHazard_k4 at h
         refine AW.have1 (fun b6 : (El T63) × (El T69) => linealtop_TopHazard_k6 shape b5_2 b6 = some r) (fun b6 => ⟨fr [(6, .bp 51000 0)], hpGet [(51000, .box 71 (.int .i64 (1 + (shape.1 % 4)) :: (.int .i64 (1 + (shape.2 % 4)) :: (cellsX T63 b6.1 ++ (cellsX T65 b5_2 ++ (cellsX T69 b6.2))))))], gt⟩) (fun b6 h => ?_) (fun hk_linealtop_TopHazard_k6 => ?_)
         ·as_aux_lemma =>
           unfold linealtop_TopHazard_k6 at h
           refine zo ?_
           refine zS 1 [(6, .bp 51000 0), (163, .bp 51000 0)] [(51000, .box 71 (.int .i64 (1 + (shape.1 % 4)) :: (.int .i64 (1 + (shape.2 % 4)) :: (cellsX T63 b6.1 ++ (cellsX T65 b5_2 ++ (cellsX T69 b6.2))))))] ?_
           obtain ⟨v0_17, hv12, h⟩ := Option.bind_eq_some_iff.1 h
           refine zC [] [(1000, 51000)] (hc_hazard_Yard_Free ((1 + (shape.1 % 4)), (1 + (shape.2 % 4)), b6.1, b5_2, b6.2) hv12) [(6, .bp 51000 0), (164, .int .i64 v0_17)] [(51000, .box 71 (.int .i64 (1 + (shape.1 % 4)) :: (.int .i64 (1 + (shape.2 % 4)) :: (cellsX T63 b6.1 ++ (cellsX T65 b5_2 ++ (cellsX T69 b6.2))))))] ?_
           refine zS 2 [(6, .bp 51000 0), (166, .bool (decide (v0_17 = 8)))] [(51000, .box 71 (.int .i64 (1 + (shape.1 % 4)) :: (.int .i64 (1 + (shape.2 % 4)) :: (cellsX T63 b6.1 ++ (cellsX T65 b5_2 ++ (cellsX T69 b6.2))))))] ?_
           rcases zI h with ⟨hb13, h⟩ | ⟨hb13, h⟩
           ·refine zS 1 [(6, .bp 51000 0), (166, .bool true), (167, .bp 51000 0)] [(51000, .box 71 (.int .i64 (1 + (shape.1 % 4)) :: (.int .i64 (1 + (shape.2 % 4)) :: (cellsX T63 b6.1 ++ (cellsX T65 b5_2 ++ (cellsX T69 b6.2))))))] ?_
            obtain ⟨v0_18, hv14, h⟩ := Option.bind_eq_some_iff.1 h
            refine zG [] [(1000, 51000)] (hc_hazard_Yard_By ((1 + (shape.1 % 4)), (1 + (shape.2 % 4)), b6.1, b5_2, b6.2) hv14) [(6, .bp 51000 0), (166, .bool true), (168, .int .i64 v0_18)] [(51000, .box 71 (.int .i64 (1 + (shape.1 % 4)) :: (.int .i64 (1 + (shape.2 % 4)) :: (cellsX T63 b6.1 ++ (cellsX T65 b5_2 ++ (cellsX T69 b6.2))))))] ?_
            refine zS 3 [(6, .bp 51000 0), (171, .bool (decide (v0_18 = 0)))] [(51000, .box 71 (.int .i64 (1 + (shape.1 % 4)) :: (.int .i64 (1 + (shape.2 % 4)) :: (cellsX T63 b6.1 ++ (cellsX T65 b5_2 ++ (cellsX T69 b6.2))))))] ?_
            rcases zI h with ⟨hb15, h⟩ | ⟨hb15, h⟩
            ·refine zS 1 [(171, .bool true), (172, .bp 51000 0)] [(51000, .box 71 (.int .i64 (1 + (shape.1 % 4)) :: (.int .i64 (1 + (shape.2 % 4)) :: (cellsX T63 b6.1 ++ (cellsX T65 b5_2 ++ (cellsX T69 b6.2))))))] ?_
             obtain ⟨v0_19, hv16, h⟩ := Option.bind_eq_some_iff.1 h
             refine zG [] [(1000, 51000)] (hc_hazard_Yard_Held ((1 + (shape.1 % 4)), (1 + (shape.2 % 4)), b6.1, b5_2, b6.2) hv16) [(171, .bool true), (173, .own 183000)] [(183000, .arr 3 (.int .i64) v0_19)] ?_
             refine zS 4 [(177, .bool (decide ((v0_19.length : Int) = 0)))] [] ?_
             rcases zI h with ⟨hb17, h⟩ | ⟨hb17, h⟩
             ·refine zT [(177, .bool true)] [] gt ?_
              obtain ⟨v0_20, hv18, h⟩ := Option.bind_eq_some_iff.1 h
              refine zG [] [] (hc_lineallaw06_Sane hv18) [(177, .bool true), (178, .bool v0_20)] [] ?_
              refine zB [(4, .bool v0_20)] [] ?_
              refine AW.ret ?_
              obtain rfl := Option.some.inj h
              exact zR [] [] []
             ·refine zB [(4, .bool false)] [] ?_
              refine AW.ret ?_
              obtain rfl := Option.some.inj h
              exact zR [] [] []
            ·refine zS 4 [(171, .bool false), (175, .cv (undef))] [] ?_
             refine zB [(4, .bool false)] [] ?_
             refine AW.ret ?_
             obtain rfl := Option.some.inj h
             exact zR [] [] []
           ·refine zS 5 [(6, .bp 51000 0), (171, .bool false)] [(51000, .box 71 (.int .i64 (1 + (shape.1 % 4)) :: (.int .i64 (1 + (shape.2 % 4)) :: (cellsX T63 b6.1 ++ (cellsX T65 b5_2 ++ (cellsX T69 b6.2))))))] ?_
            refine zS 4 [(171, .bool false), (175, .cv (undef))] [] ?_
            refine zB [(4, .bool false)] [] ?_
            refine AW.ret ?_
            obtain rfl := Option.some.inj h
            exact zR [] [] []
         ·refine AW.seq ?_
          refine zo ?_
          refine zB [(5, .int .i64 (1 + (shape.1 % 4))), (6, .bp 51000 0), (22, .int .i64 0)] [(51000, .box 71 (.int .i64 (1 + (shape.1 % 4)) :: (.int .i64 (1 + (shape.2 % 4)) :: (cellsX T63 b3.1 ++ (cellsX T65 b5_2 ++ (cellsX T69 b3.2))))))] ?_
          refine AW.block ?_
          obtain ⟨rv23, hw19, ho20⟩ := Option.bind_eq_some_iff.1 h
          refine AW.loopO (linealtop_TopHazard_b8 shape b5_2) (fun st8 => ⟨fr [(5, .int .i64 (1 + (shape.1 % 4))), (6, .bp 51000 0), (22, .int .i64 st8.2.2)], hpGet [(51000, .box 71 (.int .i64 (1 + (shape.1 % 4)) :: (.int .i64 (1 + (shape.2 % 4)) :: (cellsX T63 st8.1 ++ (cellsX T65 b5_2 ++ (cellsX T69 st8.2.1))))))], gt⟩) (b3.1, b3.2, 0) hw19 (zL [] [] []) ?_
          as_aux_lemma =>
           intro st8 x22 h hd21
           unfold linealtop_TopHazard_b8 at h
           refine AW.seq ?_
           refine zo ?_
           refine zB [(5, .int .i64 (1 + (shape.1 % 4))), (6, .bp 51000 0), (22, .int .i64 st8.2.2), (152, .bool (decide (st8.2.2 < (1 + (shape.1 % 4)))))] [(51000, .box 71 (.int .i64 (1 + (shape.1 % 4)) :: (.int .i64 (1 + (shape.2 % 4)) :: (cellsX T63 st8.1 ++ (cellsX T65 b5_2 ++ (cellsX T69 st8.2.1))))))] ?_
           refine zQ h (fun hb24 h => ?_) (fun hb24 h => ?_)
           ·refine zk ?_
            refine AW.seq ?_
            refine AW.block ?_
            refine zo ?_
            refine zS 2 [(5, .int .i64 (1 + (shape.1 % 4))), (6, .bp 51000 0), (22, .int .i64 st8.2.2), (156, .bp 51000 0), (157, .int .i64 st8.2.2)] [(51000, .box 71 (.int .i64 (1 + (shape.1 % 4)) :: (.int .i64 (1 + (shape.2 % 4)) :: (cellsX T63 st8.1 ++ (cellsX T65 b5_2 ++ (cellsX T69 st8.2.1))))))] ?_
            obtain ⟨v0_16, hv25, h⟩ := Option.bind_eq_some_iff.1 h
            refine zC [] [(1000, 51000)] (hc_hazard_Yard_Sweep st8.2.2 ((1 + (shape.1 % 4)), (1 + (shape.2 % 4)), st8.1, b5_2, st8.2.1) hv25) [(5, .int .i64 (1 + (shape.1 % 4))), (6, .bp 51000 0), (22, .int .i64 st8.2.2), (158, .tup [.int .i64 v0_16.1, .int .i64 v0_16.2.1])] [(51000, .box 71 (.int .i64 (1 + (shape.1 % 4)) :: (.int .i64 (1 + (shape.2 % 4)) :: (cellsX T63 v0_16.2.2.1 ++ (cellsX T65 b5_2 ++ (cellsX T69 v0_16.2.2.2))))))] ?_
            refine zB [(5, .int .i64 (1 + (shape.1 % 4))), (6, .bp 51000 0), (22, .int .i64 st8.2.2), (24, .int .i64 v0_16.2.1)] [(51000, .box 71 (.int .i64 (1 + (shape.1 % 4)) :: (.int .i64 (1 + (shape.2 % 4)) :: (cellsX T63 v0_16.2.2.1 ++ (cellsX T65 b5_2 ++ (cellsX T69 v0_16.2.2.2))))))] ?_
            refine zo ?_
            refine zB [(5, .int .i64 (1 + (shape.1 % 4))), (6, .bp 51000 0), (22, .int .i64 st8.2.2), (162, .bool (!(decide (v0_16.2.1 = 0))))] [(51000, .box 71 (.int .i64 (1 + (shape.1 % 4)) :: (.int .i64 (1 + (shape.2 % 4)) :: (cellsX T63 v0_16.2.2.1 ++ (cellsX T65 b5_2 ++ (cellsX T69 v0_16.2.2.2))))))] ?_
            refine zQ h (fun hb26 h => ?_) (fun hb26 h => ?_)
            ·refine zo ?_
             refine zB [(4, .bool false)] [] ?_
             refine AW.ret ?_
             refine ablock_r ?_
             refine athen_r ?_
             obtain rfl := Option.some.inj h
             try rw [← hd21 _ rfl] at ho20
             have h := ho20
             try simp only at h
             refine athen_r ?_
             refine ablock_r ?_
             refine athen_r ?_
             obtain rfl := Option.some.inj h
             exact zR [] [] []
            ·refine zm ?_
             refine athen_n ?_
             refine AW.ops ?_
             obtain ⟨c27, h⟩ := ck_some.1 h
             refine zA [(5, .int .i64 (1 + (shape.1 % 4))), (6, .bp 51000 0), (22, .int .i64 (st8.2.2 + 1))] [(51000, .box 71 (.int .i64 (1 + (shape.1 % 4)) :: (.int .i64 (1 + (shape.2 % 4)) :: (cellsX T63 v0_16.2.2.1 ++ (cellsX T65 b5_2 ++ (cellsX T69 v0_16.2.2.2))))))] ?_
             obtain rfl := Option.some.inj h
             exact ⟨_, rfl, zL [] [] []⟩
           ·refine AW.exit ?_
            refine athen_e ?_
            obtain rfl := Option.some.inj h
            rw [← hd21 _ rfl] at ho20
            have h := ho20
            try simp only at h
            refine athen_e ?_
            refine ablock_s ?_
            refine athen_n ?_
            exact AW.weaken (zL [] [] []) (hk_linealtop_TopHazard_k6 _ h)
       ·refine AW.seq ?_
        refine zo ?_
        refine zB [(5, .int .i64 (1 + (shape.1 % 4))), (6, .bp 51000 0), (20, .int .i64 0)] [(51000, .box 71 (.int .i64 (1 + (shape.1 % 4)) :: (.int .i64 (1 + (shape.2 % 4)) :: (cellsX T63 b3.1 ++ (cellsX T65 b2_2.2.1 ++ (cellsX T69 b3.2))))))] ?_
        refine AW.block ?_
        obtain ⟨rv32, hw28, ho29⟩ := Option.bind_eq_some_iff.1 h
        refine AW.loopO (linealtop_TopHazard_b6 shape b3) (fun st6 => ⟨fr [(5, .int .i64 (1 + (shape.1 % 4))), (6, .bp 51000 0), (20, .int .i64 st6.2)], hpGet [(51000, .box 71 (.int .i64 (1 + (shape.1 % 4)) :: (.int .i64 (1 + (shape.2 % 4)) :: (cellsX T63 b3.1 ++ (cellsX T65 st6.1 ++ (cellsX T69 b3.2))))))], gt⟩) (b2_2.2.1, 0) hw28 (zL [] [] []) ?_
        as_aux_lemma =>
         intro st6 x31 h hd30
         unfold linealtop_TopHazard_b6 at h
         refine AW.seq ?_
         refine zo ?_
         refine zB [(5, .int .i64 (1 + (shape.1 % 4))), (6, .bp 51000 0), (20, .int .i64 st6.2), (138, .bool (decide (st6.2 < (1 + (shape.1 % 4)))))] [(51000, .box 71 (.int .i64 (1 + (shape.1 % 4)) :: (.int .i64 (1 + (shape.2 % 4)) :: (cellsX T63 b3.1 ++ (cellsX T65 st6.1 ++ (cellsX T69 b3.2))))))] ?_
         refine zQ h (fun hb33 h => ?_) (fun hb33 h => ?_)
         ·refine zk ?_
          refine AW.have1 (fun b5 : (El T65) => linealtop_TopHazard_k5 st6 b5 = some x31) (fun b5 => ⟨fr [(5, .int .i64 (1 + (shape.1 % 4))), (6, .bp 51000 0), (20, .int .i64 st6.2)], hpGet [(51000, .box 71 (.int .i64 (1 + (shape.1 % 4)) :: (.int .i64 (1 + (shape.2 % 4)) :: (cellsX T63 b3.1 ++ (cellsX T65 b5 ++ (cellsX T69 b3.2))))))], gt⟩) (fun b5 h => ?_) (fun hk_linealtop_TopHazard_k5 => ?_)
          ·as_aux_lemma =>
            unfold linealtop_TopHazard_k5 at h
            refine AW.ops ?_
            obtain ⟨c34, h⟩ := ck_some.1 h
            refine zA [(5, .int .i64 (1 + (shape.1 % 4))), (6, .bp 51000 0), (20, .int .i64 (st6.2 + 1))] [(51000, .box 71 (.int .i64 (1 + (shape.1 % 4)) :: (.int .i64 (1 + (shape.2 % 4)) :: (cellsX T63 b3.1 ++ (cellsX T65 b5 ++ (cellsX T69 b3.2))))))] ?_
            obtain rfl := Option.some.inj h
            exact ⟨_, rfl, zL [] [] []⟩
          ·refine AW.seq ?_
           refine AW.block ?_
           refine zo ?_
           refine zB [(5, .int .i64 (1 + (shape.1 % 4))), (6, .bp 51000 0), (20, .int .i64 st6.2), (21, .int .i64 0)] [(51000, .box 71 (.int .i64 (1 + (shape.1 % 4)) :: (.int .i64 (1 + (shape.2 % 4)) :: (cellsX T63 b3.1 ++ (cellsX T65 st6.1 ++ (cellsX T69 b3.2))))))] ?_
           refine AW.block ?_
           obtain ⟨rv39, hw35, ho36⟩ := Option.bind_eq_some_iff.1 h
           refine AW.loopO (linealtop_TopHazard_b7 shape b3 st6) (fun st7 => ⟨fr [(5, .int .i64 (1 + (shape.1 % 4))), (6, .bp 51000 0), (20, .int .i64 st6.2), (21, .int .i64 st7.2)], hpGet [(51000, .box 71 (.int .i64 (1 + (shape.1 % 4)) :: (.int .i64 (1 + (shape.2 % 4)) :: (cellsX T63 b3.1 ++ (cellsX T65 st7.1 ++ (cellsX T69 b3.2))))))], gt⟩) (st6.1, 0) hw35 (zL [] [] []) ?_
           as_aux_lemma =>
            intro st7 x38 h hd37
            unfold linealtop_TopHazard_b7 at h
            refine AW.seq ?_
            refine zo ?_
            refine zB [(5, .int .i64 (1 + (shape.1 % 4))), (6, .bp 51000 0), (20, .int .i64 st6.2), (21, .int .i64 st7.2), (142, .bool (decide (st7.2 < 2)))] [(51000, .box 71 (.int .i64 (1 + (shape.1 % 4)) :: (.int .i64 (1 + (shape.2 % 4)) :: (cellsX T63 b3.1 ++ (cellsX T65 st7.1 ++ (cellsX T69 b3.2))))))] ?_
            refine zQ h (fun hb40 h => ?_) (fun hb40 h => ?_)
            ·refine zk ?_
             refine AW.seq ?_
             refine AW.block ?_
             refine zo ?_
             refine zS 3 [(5, .int .i64 (1 + (shape.1 % 4))), (6, .bp 51000 0), (20, .int .i64 st6.2), (21, .int .i64 st7.2), (145, .bp 51000 0), (146, .int .i64 st6.2), (147, .int .i64 st7.2)] [(51000, .box 71 (.int .i64 (1 + (shape.1 % 4)) :: (.int .i64 (1 + (shape.2 % 4)) :: (cellsX T63 b3.1 ++ (cellsX T65 st7.1 ++ (cellsX T69 b3.2))))))] ?_
             obtain ⟨v0_15, hv41, h⟩ := Option.bind_eq_some_iff.1 h
             refine zC [] [(1000, 51000)] (hc_hazard_Yard_Clear st6.2 st7.2 ((1 + (shape.1 % 4)), (1 + (shape.2 % 4)), b3.1, st7.1, b3.2) hv41) [(5, .int .i64 (1 + (shape.1 % 4))), (6, .bp 51000 0), (20, .int .i64 st6.2), (21, .int .i64 st7.2), (148, .int .i64 v0_15.1)] [(51000, .box 71 (.int .i64 (1 + (shape.1 % 4)) :: (.int .i64 (1 + (shape.2 % 4)) :: (cellsX T63 b3.1 ++ (cellsX T65 v0_15.2 ++ (cellsX T69 b3.2))))))] ?_
             refine zB [(5, .int .i64 (1 + (shape.1 % 4))), (6, .bp 51000 0), (20, .int .i64 st6.2), (21, .int .i64 st7.2), (149, .bool (!(decide (v0_15.1 = 0))))] [(51000, .box 71 (.int .i64 (1 + (shape.1 % 4)) :: (.int .i64 (1 + (shape.2 % 4)) :: (cellsX T63 b3.1 ++ (cellsX T65 v0_15.2 ++ (cellsX T69 b3.2))))))] ?_
             refine zQ h (fun hb42 h => ?_) (fun hb42 h => ?_)
             ·refine zo ?_
              refine zB [(4, .bool false)] [] ?_
              refine AW.ret ?_
              refine ablock_r ?_
              refine athen_r ?_
              obtain rfl := Option.some.inj h
              try rw [← hd37 _ rfl] at ho36
              have h := ho36
              try simp only at h
              refine athen_r ?_
              refine ablock_r ?_
              refine ablock_r ?_
              refine athen_r ?_
              obtain rfl := Option.some.inj h
              try rw [← hd30 _ rfl] at ho29
              have h := ho29
              try simp only at h
              refine athen_r ?_
              refine ablock_r ?_
              refine athen_r ?_
              obtain rfl := Option.some.inj h
              exact zR [] [] []
             ·refine zm ?_
              refine athen_n ?_
              refine AW.ops ?_
              obtain ⟨c43, h⟩ := ck_some.1 h
              refine zA [(5, .int .i64 (1 + (shape.1 % 4))), (6, .bp 51000 0), (20, .int .i64 st6.2), (21, .int .i64 (st7.2 + 1))] [(51000, .box 71 (.int .i64 (1 + (shape.1 % 4)) :: (.int .i64 (1 + (shape.2 % 4)) :: (cellsX T63 b3.1 ++ (cellsX T65 v0_15.2 ++ (cellsX T69 b3.2))))))] ?_
              obtain rfl := Option.some.inj h
              exact ⟨_, rfl, zL [] [] []⟩
            ·refine AW.exit ?_
             refine athen_e ?_
             obtain rfl := Option.some.inj h
             rw [← hd37 _ rfl] at ho36
             have h := ho36
             try simp only at h
             refine athen_e ?_
             refine ablock_s ?_
             refine ablock_n ?_
             refine athen_n ?_
             exact AW.weaken (zL [] [] []) (hk_linealtop_TopHazard_k5 _ h)
         ·refine AW.exit ?_
          refine athen_e ?_
          obtain rfl := Option.some.inj h
          rw [← hd30 _ rfl] at ho29
          have h := ho29
          try simp only at h
          refine athen_e ?_
          refine ablock_s ?_
          refine athen_n ?_
          exact AW.weaken (zL [] [] []) (hk_linealtop_TopHazard_k4 _ h)
     ·refine AW.seq ?_
      refine zo ?_
      refine zB [(5, .int .i64 (1 + (shape.1 % 4))), (6, .bp 51000 0), (17, .int .i64 0)] [(51000, .box 71 (.int .i64 (1 + (shape.1 % 4)) :: (.int .i64 (1 + (shape.2 % 4)) :: (cellsX T63 b2_2.1 ++ (cellsX T65 b2_2.2.1 ++ (cellsX T69 b2_2.2.2))))))] ?_
      refine AW.block ?_
      obtain ⟨rv48, hw44, ho45⟩ := Option.bind_eq_some_iff.1 h
      refine AW.loopO (linealtop_TopHazard_b5 shape b2_2) (fun st5 => ⟨fr [(5, .int .i64 (1 + (shape.1 % 4))), (6, .bp 51000 0), (17, .int .i64 st5.2.2)], hpGet [(51000, .box 71 (.int .i64 (1 + (shape.1 % 4)) :: (.int .i64 (1 + (shape.2 % 4)) :: (cellsX T63 st5.1 ++ (cellsX T65 b2_2.2.1 ++ (cellsX T69 st5.2.1))))))], gt⟩) (b2_2.1, b2_2.2.2, 0) hw44 (zL [] [] []) ?_
      as_aux_lemma =>
       intro st5 x47 h hd46
       unfold linealtop_TopHazard_b5 at h
       refine AW.seq ?_
       refine zo ?_
       refine zB [(5, .int .i64 (1 + (shape.1 % 4))), (6, .bp 51000 0), (17, .int .i64 st5.2.2), (111, .bool (decide (st5.2.2 < 8)))] [(51000, .box 71 (.int .i64 (1 + (shape.1 % 4)) :: (.int .i64 (1 + (shape.2 % 4)) :: (cellsX T63 st5.1 ++ (cellsX T65 b2_2.2.1 ++ (cellsX T69 st5.2.1))))))] ?_
       refine zQ h (fun hb49 h => ?_) (fun hb49 h => ?_)
       ·refine zk ?_
        refine AW.seq ?_
        refine AW.block ?_
        refine zo ?_
        refine zS 2 [(5, .int .i64 (1 + (shape.1 % 4))), (6, .bp 51000 0), (17, .int .i64 st5.2.2), (115, .bp 51000 0), (116, .int .i64 st5.2.2)] [(51000, .box 71 (.int .i64 (1 + (shape.1 % 4)) :: (.int .i64 (1 + (shape.2 % 4)) :: (cellsX T63 st5.1 ++ (cellsX T65 b2_2.2.1 ++ (cellsX T69 st5.2.1))))))] ?_
        obtain ⟨v0_13, hv50, h⟩ := Option.bind_eq_some_iff.1 h
        refine zC [] [(1000, 51000)] (hc_hazard_Yard_State st5.2.2 ((1 + (shape.1 % 4)), (1 + (shape.2 % 4)), st5.1, b2_2.2.1, st5.2.1) hv50) [(5, .int .i64 (1 + (shape.1 % 4))), (6, .bp 51000 0), (17, .int .i64 st5.2.2), (117, .tup [.int .i64 v0_13.1, .int .i64 v0_13.2])] [(51000, .box 71 (.int .i64 (1 + (shape.1 % 4)) :: (.int .i64 (1 + (shape.2 % 4)) :: (cellsX T63 st5.1 ++ (cellsX T65 b2_2.2.1 ++ (cellsX T69 st5.2.1))))))] ?_
        refine zB [(5, .int .i64 (1 + (shape.1 % 4))), (6, .bp 51000 0), (17, .int .i64 st5.2.2), (18, .int .i64 v0_13.1), (19, .int .i64 v0_13.2)] [(51000, .box 71 (.int .i64 (1 + (shape.1 % 4)) :: (.int .i64 (1 + (shape.2 % 4)) :: (cellsX T63 st5.1 ++ (cellsX T65 b2_2.2.1 ++ (cellsX T69 st5.2.1))))))] ?_
        refine AW.seq ?_
        refine zo ?_
        refine zB [(5, .int .i64 (1 + (shape.1 % 4))), (6, .bp 51000 0), (17, .int .i64 st5.2.2), (18, .int .i64 v0_13.1), (121, .bool (!(decide (v0_13.2 = 0))))] [(51000, .box 71 (.int .i64 (1 + (shape.1 % 4)) :: (.int .i64 (1 + (shape.2 % 4)) :: (cellsX T63 st5.1 ++ (cellsX T65 b2_2.2.1 ++ (cellsX T69 st5.2.1))))))] ?_
        refine zQ h (fun hb51 h => ?_) (fun hb51 h => ?_)
        ·refine zo ?_
         refine zB [(4, .bool false)] [] ?_
         refine zr ?_
         refine ablock_r ?_
         refine athen_r ?_
         obtain rfl := Option.some.inj h
         try rw [← hd46 _ rfl] at ho45
         have h := ho45
         try simp only at h
         refine athen_r ?_
         refine ablock_r ?_
         refine athen_r ?_
         obtain rfl := Option.some.inj h
         exact zR [] [] []
        ·refine zk ?_
         refine zo ?_
         obtain ⟨c52, h⟩ := ck_some.1 h
         obtain ⟨c53, h⟩ := ck_some.1 h
         refine zS 5 [(5, .int .i64 (1 + (shape.1 % 4))), (6, .bp 51000 0), (17, .int .i64 st5.2.2), (18, .int .i64 v0_13.1), (123, .bp 51000 0), (126, .int .i64 (st5.2.2 % (1 + (shape.1 % 4)))), (127, .int .i64 st5.2.2)] [(51000, .box 71 (.int .i64 (1 + (shape.1 % 4)) :: (.int .i64 (1 + (shape.2 % 4)) :: (cellsX T63 st5.1 ++ (cellsX T65 b2_2.2.1 ++ (cellsX T69 st5.2.1))))))] ?_
         obtain ⟨v0_14, hv54, h⟩ := Option.bind_eq_some_iff.1 h
         refine zC [] [(1000, 51000)] (hc_hazard_Yard_PutBy (st5.2.2 % (1 + (shape.1 % 4))) st5.2.2 ((1 + (shape.1 % 4)), (1 + (shape.2 % 4)), st5.1, b2_2.2.1, st5.2.1) hv54) [(5, .int .i64 (1 + (shape.1 % 4))), (6, .bp 51000 0), (17, .int .i64 st5.2.2), (18, .int .i64 v0_13.1), (128, .tup [.int .i64 v0_14.1, .int .i64 v0_14.2.1])] [(51000, .box 71 (.int .i64 (1 + (shape.1 % 4)) :: (.int .i64 (1 + (shape.2 % 4)) :: (cellsX T63 v0_14.2.2.1 ++ (cellsX T65 b2_2.2.1 ++ (cellsX T69 v0_14.2.2.2))))))] ?_
         refine zB [(5, .int .i64 (1 + (shape.1 % 4))), (6, .bp 51000 0), (17, .int .i64 st5.2.2), (18, .int .i64 v0_13.1), (19, .int .i64 v0_14.2.1)] [(51000, .box 71 (.int .i64 (1 + (shape.1 % 4)) :: (.int .i64 (1 + (shape.2 % 4)) :: (cellsX T63 v0_14.2.2.1 ++ (cellsX T65 b2_2.2.1 ++ (cellsX T69 v0_14.2.2.2))))))] ?_
         refine zo ?_
         refine zB [(5, .int .i64 (1 + (shape.1 % 4))), (6, .bp 51000 0), (17, .int .i64 st5.2.2), (135, .bool (((decide (v0_13.1 = 1)) == (decide (v0_14.2.1 = 0))) != true))] [(51000, .box 71 (.int .i64 (1 + (shape.1 % 4)) :: (.int .i64 (1 + (shape.2 % 4)) :: (cellsX T63 v0_14.2.2.1 ++ (cellsX T65 b2_2.2.1 ++ (cellsX T69 v0_14.2.2.2))))))] ?_
         refine zQ h (fun hb55 h => ?_) (fun hb55 h => ?_)
         ·refine zo ?_
          refine zB [(4, .bool false)] [] ?_
          refine AW.ret ?_
          refine ablock_r ?_
          refine athen_r ?_
          obtain rfl := Option.some.inj h
          try rw [← hd46 _ rfl] at ho45
          have h := ho45
          try simp only at h
          refine athen_r ?_
          refine ablock_r ?_
          refine athen_r ?_
          obtain rfl := Option.some.inj h
          exact zR [] [] []
         ·refine zm ?_
          refine athen_n ?_
          refine AW.ops ?_
          obtain ⟨c56, h⟩ := ck_some.1 h
          refine zA [(5, .int .i64 (1 + (shape.1 % 4))), (6, .bp 51000 0), (17, .int .i64 (st5.2.2 + 1))] [(51000, .box 71 (.int .i64 (1 + (shape.1 % 4)) :: (.int .i64 (1 + (shape.2 % 4)) :: (cellsX T63 v0_14.2.2.1 ++ (cellsX T65 b2_2.2.1 ++ (cellsX T69 v0_14.2.2.2))))))] ?_
          obtain rfl := Option.some.inj h
          exact ⟨_, rfl, zL [] [] []⟩
       ·refine AW.exit ?_
        refine athen_e ?_
        obtain rfl := Option.some.inj h
        rw [← hd46 _ rfl] at ho45
        have h := ho45
        try simp only at h
        refine athen_e ?_
        refine ablock_s ?_
        refine athen_n ?_
        exact AW.weaken (zL [] [] []) (hk_linealtop_TopHazard_k3 _ h)
   ·refine AW.seq ?_
    refine zo ?_
    refine zB [(1, .sl (.pair (.int .i64) (.pair (.int .i64) (.pair (.int .i64) (.int .i64)))) deeds), (5, .int .i64 (1 + (shape.1 % 4))), (6, .bp 51000 0), (8, .int .i64 0)] [(51000, .box 71 (.int .i64 (1 + (shape.1 % 4)) :: (.int .i64 (1 + (shape.2 % 4)) :: (cellsX T63 (Ty.dflt T63) ++ (cellsX T65 v0_4 ++ (cellsX T69 (Ty.dflt T69)))))))] ?_
    refine AW.block ?_
    obtain ⟨rv61, hw57, ho58⟩ := Option.bind_eq_some_iff.1 h
    refine AW.loopO (linealtop_TopHazard_b1 shape deeds) (fun st1 => ⟨fr [(1, .sl (.pair (.int .i64) (.pair (.int .i64) (.pair (.int .i64) (.int .i64)))) deeds), (5, .int .i64 (1 + (shape.1 % 4))), (6, .bp 51000 0), (8, .int .i64 st1.2.2.2)], hpGet [(51000, .box 71 (.int .i64 (1 + (shape.1 % 4)) :: (.int .i64 (1 + (shape.2 % 4)) :: (cellsX T63 st1.1 ++ (cellsX T65 st1.2.1 ++ (cellsX T69 st1.2.2.1))))))], gt⟩) ((Ty.dflt T63), v0_4, (Ty.dflt T69), 0) hw57 (zL [] [] []) ?_
    as_aux_lemma =>
     intro st1 x60 h hd59
     unfold linealtop_TopHazard_b1 at h
     refine AW.seq ?_
     refine zo ?_
     refine zB [(1, .sl (.pair (.int .i64) (.pair (.int .i64) (.pair (.int .i64) (.int .i64)))) deeds), (5, .int .i64 (1 + (shape.1 % 4))), (6, .bp 51000 0), (8, .int .i64 st1.2.2.2), (53, .bool (decide (st1.2.2.2 < (deeds.length : Int))))] [(51000, .box 71 (.int .i64 (1 + (shape.1 % 4)) :: (.int .i64 (1 + (shape.2 % 4)) :: (cellsX T63 st1.1 ++ (cellsX T65 st1.2.1 ++ (cellsX T69 st1.2.2.1))))))] ?_
     refine zQ h (fun hb62 h => ?_) (fun hb62 h => ?_)
     ·refine zk ?_
      refine AW.have1 (fun b2 : (El T63) × (El T65) × (El T69) => linealtop_TopHazard_k2 st1 b2 = some x60) (fun b2 => ⟨fr [(1, .sl (.pair (.int .i64) (.pair (.int .i64) (.pair (.int .i64) (.int .i64)))) deeds), (5, .int .i64 (1 + (shape.1 % 4))), (6, .bp 51000 0), (8, .int .i64 st1.2.2.2)], hpGet [(51000, .box 71 (.int .i64 (1 + (shape.1 % 4)) :: (.int .i64 (1 + (shape.2 % 4)) :: (cellsX T63 b2.1 ++ (cellsX T65 b2.2.1 ++ (cellsX T69 b2.2.2))))))], gt⟩) (fun b2 h => ?_) (fun hk_linealtop_TopHazard_k2 => ?_)
      ·as_aux_lemma =>
        unfold linealtop_TopHazard_k2 at h
        refine AW.ops ?_
        obtain ⟨c63, h⟩ := ck_some.1 h
        refine zA [(1, .sl (.pair (.int .i64) (.pair (.int .i64) (.pair (.int .i64) (.int .i64)))) deeds), (5, .int .i64 (1 + (shape.1 % 4))), (6, .bp 51000 0), (8, .int .i64 (st1.2.2.2 + 1))] [(51000, .box 71 (.int .i64 (1 + (shape.1 % 4)) :: (.int .i64 (1 + (shape.2 % 4)) :: (cellsX T63 b2.1 ++ (cellsX T65 b2.2.1 ++ (cellsX T69 b2.2.2))))))] ?_
        obtain rfl := Option.some.inj h
        exact ⟨_, rfl, zL [] [] []⟩
      ·refine AW.seq ?_
       refine AW.block ?_
       refine zo ?_
       obtain ⟨c64, h⟩ := ck_some.1 h
       obtain ⟨c65, h⟩ := ck_some.1 h
       refine zS 5 [(1, .sl (.pair (.int .i64) (.pair (.int .i64) (.pair (.int .i64) (.int .i64)))) deeds), (5, .int .i64 (1 + (shape.1 % 4))), (6, .bp 51000 0), (8, .int .i64 st1.2.2.2), (57, .bp 51000 0), (61, .agg [.int .i64 (deeds.getD st1.2.2.2.toNat (0, 0, 0, 0)).1, .int .i64 (deeds.getD st1.2.2.2.toNat (0, 0, 0, 0)).2.1, .int .i64 (deeds.getD st1.2.2.2.toNat (0, 0, 0, 0)).2.2.1, .int .i64 (deeds.getD st1.2.2.2.toNat (0, 0, 0, 0)).2.2.2])] [(51000, .box 71 (.int .i64 (1 + (shape.1 % 4)) :: (.int .i64 (1 + (shape.2 % 4)) :: (cellsX T63 st1.1 ++ (cellsX T65 st1.2.1 ++ (cellsX T69 st1.2.2.1))))))] ?_
       obtain ⟨v0_5, hv66, h⟩ := Option.bind_eq_some_iff.1 h
       refine zC [] [(1000, 51000)] (hc_hazard_Yard_Do (deeds.getD st1.2.2.2.toNat (0, 0, 0, 0)) ((1 + (shape.1 % 4)), (1 + (shape.2 % 4)), st1.1, st1.2.1, st1.2.2.1) hv66) [(1, .sl (.pair (.int .i64) (.pair (.int .i64) (.pair (.int .i64) (.int .i64)))) deeds), (5, .int .i64 (1 + (shape.1 % 4))), (6, .bp 51000 0), (8, .int .i64 st1.2.2.2), (62, .tup [.int .i64 v0_5.1, .int .i64 v0_5.2.1])] [(51000, .box 71 (.int .i64 (1 + (shape.1 % 4)) :: (.int .i64 (1 + (shape.2 % 4)) :: (cellsX T63 v0_5.2.2.1 ++ (cellsX T65 v0_5.2.2.2.1 ++ (cellsX T69 v0_5.2.2.2.2))))))] ?_
       refine zB [(1, .sl (.pair (.int .i64) (.pair (.int .i64) (.pair (.int .i64) (.int .i64)))) deeds), (5, .int .i64 (1 + (shape.1 % 4))), (6, .bp 51000 0), (8, .int .i64 st1.2.2.2), (9, .int .i64 v0_5.1), (10, .int .i64 v0_5.2.1)] [(51000, .box 71 (.int .i64 (1 + (shape.1 % 4)) :: (.int .i64 (1 + (shape.2 % 4)) :: (cellsX T63 v0_5.2.2.1 ++ (cellsX T65 v0_5.2.2.2.1 ++ (cellsX T69 v0_5.2.2.2.2))))))] ?_
       refine AW.seq ?_
       refine zo ?_
       refine zS 3 [(1, .sl (.pair (.int .i64) (.pair (.int .i64) (.pair (.int .i64) (.int .i64)))) deeds), (5, .int .i64 (1 + (shape.1 % 4))), (6, .bp 51000 0), (8, .int .i64 st1.2.2.2), (9, .int .i64 v0_5.1), (67, .bool (decide (v0_5.2.1 = 0)))] [(51000, .box 71 (.int .i64 (1 + (shape.1 % 4)) :: (.int .i64 (1 + (shape.2 % 4)) :: (cellsX T63 v0_5.2.2.1 ++ (cellsX T65 v0_5.2.2.2.1 ++ (cellsX T69 v0_5.2.2.2.2))))))] ?_
       rcases zI h with ⟨hb67, h⟩ | ⟨hb67, h⟩
       ·obtain ⟨c68, h⟩ := ck_some.1 h
        obtain ⟨c69, h⟩ := ck_some.1 h
        refine zS 5 [(1, .sl (.pair (.int .i64) (.pair (.int .i64) (.pair (.int .i64) (.int .i64)))) deeds), (5, .int .i64 (1 + (shape.1 % 4))), (6, .bp 51000 0), (8, .int .i64 st1.2.2.2), (9, .int .i64 v0_5.1), (67, .bool true), (72, .int .i64 (deeds.getD st1.2.2.2.toNat (0, 0, 0, 0)).1)] [(51000, .box 71 (.int .i64 (1 + (shape.1 % 4)) :: (.int .i64 (1 + (shape.2 % 4)) :: (cellsX T63 v0_5.2.2.1 ++ (cellsX T65 v0_5.2.2.2.1 ++ (cellsX T69 v0_5.2.2.2.2))))))] ?_
        refine zB [(1, .sl (.pair (.int .i64) (.pair (.int .i64) (.pair (.int .i64) (.int .i64)))) deeds), (5, .int .i64 (1 + (shape.1 % 4))), (6, .bp 51000 0), (8, .int .i64 st1.2.2.2), (9, .int .i64 v0_5.1), (74, .bool (decide ((deeds.getD st1.2.2.2.toNat (0, 0, 0, 0)).1 = 6)))] [(51000, .box 71 (.int .i64 (1 + (shape.1 % 4)) :: (.int .i64 (1 + (shape.2 % 4)) :: (cellsX T63 v0_5.2.2.1 ++ (cellsX T65 v0_5.2.2.2.1 ++ (cellsX T69 v0_5.2.2.2.2))))))] ?_
        refine zQ h (fun hb70 h => ?_) (fun hb70 h => ?_)
        ·refine zo ?_
         refine zS 2 [(1, .sl (.pair (.int .i64) (.pair (.int .i64) (.pair (.int .i64) (.int .i64)))) deeds), (5, .int .i64 (1 + (shape.1 % 4))), (6, .bp 51000 0), (8, .int .i64 st1.2.2.2), (76, .bp 51000 0), (77, .int .i64 v0_5.1)] [(51000, .box 71 (.int .i64 (1 + (shape.1 % 4)) :: (.int .i64 (1 + (shape.2 % 4)) :: (cellsX T63 v0_5.2.2.1 ++ (cellsX T65 v0_5.2.2.2.1 ++ (cellsX T69 v0_5.2.2.2.2))))))] ?_
         obtain ⟨v0_6, hv71, h⟩ := Option.bind_eq_some_iff.1 h
         refine zC [] [(1000, 51000)] (hc_hazard_Yard_State v0_5.1 ((1 + (shape.1 % 4)), (1 + (shape.2 % 4)), v0_5.2.2) hv71) [(1, .sl (.pair (.int .i64) (.pair (.int .i64) (.pair (.int .i64) (.int .i64)))) deeds), (5, .int .i64 (1 + (shape.1 % 4))), (6, .bp 51000 0), (8, .int .i64 st1.2.2.2), (78, .tup [.int .i64 v0_6.1, .int .i64 v0_6.2])] [(51000, .box 71 (.int .i64 (1 + (shape.1 % 4)) :: (.int .i64 (1 + (shape.2 % 4)) :: (cellsX T63 v0_5.2.2.1 ++ (cellsX T65 v0_5.2.2.2.1 ++ (cellsX T69 v0_5.2.2.2.2))))))] ?_
         refine zB [(1, .sl (.pair (.int .i64) (.pair (.int .i64) (.pair (.int .i64) (.int .i64)))) deeds), (5, .int .i64 (1 + (shape.1 % 4))), (6, .bp 51000 0), (8, .int .i64 st1.2.2.2), (11, .int .i64 v0_6.1), (12, .int .i64 v0_6.2)] [(51000, .box 71 (.int .i64 (1 + (shape.1 % 4)) :: (.int .i64 (1 + (shape.2 % 4)) :: (cellsX T63 v0_5.2.2.1 ++ (cellsX T65 v0_5.2.2.2.1 ++ (cellsX T69 v0_5.2.2.2.2))))))] ?_
         refine zo ?_
         refine zS 3 [(1, .sl (.pair (.int .i64) (.pair (.int .i64) (.pair (.int .i64) (.int .i64)))) deeds), (5, .int .i64 (1 + (shape.1 % 4))), (6, .bp 51000 0), (8, .int .i64 st1.2.2.2), (11, .int .i64 v0_6.1), (83, .bool (!(decide (v0_6.2 = 0))))] [(51000, .box 71 (.int .i64 (1 + (shape.1 % 4)) :: (.int .i64 (1 + (shape.2 % 4)) :: (cellsX T63 v0_5.2.2.1 ++ (cellsX T65 v0_5.2.2.2.1 ++ (cellsX T69 v0_5.2.2.2.2))))))] ?_
         rcases zI h with ⟨hb72, h⟩ | ⟨hb72, h⟩
         ·refine zB [(1, .sl (.pair (.int .i64) (.pair (.int .i64) (.pair (.int .i64) (.int .i64)))) deeds), (5, .int .i64 (1 + (shape.1 % 4))), (6, .bp 51000 0), (8, .int .i64 st1.2.2.2), (86, .bool true)] [(51000, .box 71 (.int .i64 (1 + (shape.1 % 4)) :: (.int .i64 (1 + (shape.2 % 4)) :: (cellsX T63 v0_5.2.2.1 ++ (cellsX T65 v0_5.2.2.2.1 ++ (cellsX T69 v0_5.2.2.2.2))))))] ?_
          refine AW.cond (b := true) rfl (fun _ => ?_) (fun hb73 => by cases hb73)
          refine zo ?_
          refine zB [(4, .bool false)] [] ?_
          refine zr ?_
          refine ablock_r ?_
          refine athen_r ?_
          obtain rfl := Option.some.inj h
          try rw [← hd59 _ rfl] at ho58
          have h := ho58
          try simp only at h
          refine athen_r ?_
          refine ablock_r ?_
          refine athen_r ?_
          obtain rfl := Option.some.inj h
          exact zR [] [] []
         ·refine zB [(1, .sl (.pair (.int .i64) (.pair (.int .i64) (.pair (.int .i64) (.int .i64)))) deeds), (5, .int .i64 (1 + (shape.1 % 4))), (6, .bp 51000 0), (8, .int .i64 st1.2.2.2), (86, .bool (decide (v0_6.1 = 0)))] [(51000, .box 71 (.int .i64 (1 + (shape.1 % 4)) :: (.int .i64 (1 + (shape.2 % 4)) :: (cellsX T63 v0_5.2.2.1 ++ (cellsX T65 v0_5.2.2.2.1 ++ (cellsX T69 v0_5.2.2.2.2))))))] ?_
          refine zQ h (fun hb74 h => ?_) (fun hb74 h => ?_)
          ·refine zo ?_
           refine zB [(4, .bool false)] [] ?_
           refine zr ?_
           refine ablock_r ?_
           refine athen_r ?_
           obtain rfl := Option.some.inj h
           try rw [← hd59 _ rfl] at ho58
           have h := ho58
           try simp only at h
           refine athen_r ?_
           refine ablock_r ?_
           refine athen_r ?_
           obtain rfl := Option.some.inj h
           exact zR [] [] []
          ·refine zk ?_
           refine zo ?_
           refine zS 1 [(1, .sl (.pair (.int .i64) (.pair (.int .i64) (.pair (.int .i64) (.int .i64)))) deeds), (5, .int .i64 (1 + (shape.1 % 4))), (6, .bp 51000 0), (8, .int .i64 st1.2.2.2), (87, .bp 51000 0)] [(51000, .box 71 (.int .i64 (1 + (shape.1 % 4)) :: (.int .i64 (1 + (shape.2 % 4)) :: (cellsX T63 v0_5.2.2.1 ++ (cellsX T65 v0_5.2.2.2.1 ++ (cellsX T69 v0_5.2.2.2.2))))))] ?_
           obtain ⟨v0_7, hv75, h⟩ := Option.bind_eq_some_iff.1 h
           refine zC [] [(1000, 51000)] (hc_hazard_Yard_Held ((1 + (shape.1 % 4)), (1 + (shape.2 % 4)), v0_5.2.2) hv75) [(1, .sl (.pair (.int .i64) (.pair (.int .i64) (.pair (.int .i64) (.int .i64)))) deeds), (5, .int .i64 (1 + (shape.1 % 4))), (6, .bp 51000 0), (8, .int .i64 st1.2.2.2), (88, .own 98000)] [(51000, .box 71 (.int .i64 (1 + (shape.1 % 4)) :: (.int .i64 (1 + (shape.2 % 4)) :: (cellsX T63 v0_5.2.2.1 ++ (cellsX T65 v0_5.2.2.2.1 ++ (cellsX T69 v0_5.2.2.2.2)))))), (98000, .arr 3 (.int .i64) v0_7)] ?_
           refine zB [(1, .sl (.pair (.int .i64) (.pair (.int .i64) (.pair (.int .i64) (.int .i64)))) deeds), (5, .int .i64 (1 + (shape.1 % 4))), (6, .bp 51000 0), (8, .int .i64 st1.2.2.2), (13, .own 98000)] [(51000, .box 71 (.int .i64 (1 + (shape.1 % 4)) :: (.int .i64 (1 + (shape.2 % 4)) :: (cellsX T63 v0_5.2.2.1 ++ (cellsX T65 v0_5.2.2.2.1 ++ (cellsX T69 v0_5.2.2.2.2)))))), (98000, .arr 3 (.int .i64) v0_7)] ?_
           refine zo ?_
           refine zB [(1, .sl (.pair (.int .i64) (.pair (.int .i64) (.pair (.int .i64) (.int .i64)))) deeds), (5, .int .i64 (1 + (shape.1 % 4))), (6, .bp 51000 0), (8, .int .i64 st1.2.2.2), (13, .own 98000), (14, .int .i64 0)] [(51000, .box 71 (.int .i64 (1 + (shape.1 % 4)) :: (.int .i64 (1 + (shape.2 % 4)) :: (cellsX T63 v0_5.2.2.1 ++ (cellsX T65 v0_5.2.2.2.1 ++ (cellsX T69 v0_5.2.2.2.2)))))), (98000, .arr 3 (.int .i64) v0_7)] ?_
           refine AW.block ?_
           obtain ⟨rv80, hw76, ho77⟩ := Option.bind_eq_some_iff.1 h
           refine AW.loopO (linealtop_TopHazard_b2 shape v0_5 v0_7) (fun st2 => ⟨fr [(1, .sl (.pair (.int .i64) (.pair (.int .i64) (.pair (.int .i64) (.int .i64)))) deeds), (5, .int .i64 (1 + (shape.1 % 4))), (6, .bp 51000 0), (8, .int .i64 st1.2.2.2), (13, .own 98000), (14, .int .i64 st2)], hpGet [(51000, .box 71 (.int .i64 (1 + (shape.1 % 4)) :: (.int .i64 (1 + (shape.2 % 4)) :: (cellsX T63 v0_5.2.2.1 ++ (cellsX T65 v0_5.2.2.2.1 ++ (cellsX T69 v0_5.2.2.2.2)))))), (98000, .arr 3 (.int .i64) v0_7)], gt⟩) 0 hw76 (zL [] [] []) ?_
           as_aux_lemma =>
            intro st2 x79 h hd78
            unfold linealtop_TopHazard_b2 at h
            refine AW.seq ?_
            refine zo ?_
            refine zB [(1, .sl (.pair (.int .i64) (.pair (.int .i64) (.pair (.int .i64) (.int .i64)))) deeds), (5, .int .i64 (1 + (shape.1 % 4))), (6, .bp 51000 0), (8, .int .i64 st1.2.2.2), (13, .own 98000), (14, .int .i64 st2), (92, .bool (decide (st2 < (v0_7.length : Int))))] [(51000, .box 71 (.int .i64 (1 + (shape.1 % 4)) :: (.int .i64 (1 + (shape.2 % 4)) :: (cellsX T63 v0_5.2.2.1 ++ (cellsX T65 v0_5.2.2.2.1 ++ (cellsX T69 v0_5.2.2.2.2)))))), (98000, .arr 3 (.int .i64) v0_7)] ?_
            refine zQ h (fun hb81 h => ?_) (fun hb81 h => ?_)
            ·refine zk ?_
             refine AW.seq ?_
             refine AW.block ?_
             refine zo ?_
             obtain ⟨c82, h⟩ := ck_some.1 h
             obtain ⟨c83, h⟩ := ck_some.1 h
             refine zS 5 [(1, .sl (.pair (.int .i64) (.pair (.int .i64) (.pair (.int .i64) (.int .i64)))) deeds), (5, .int .i64 (1 + (shape.1 % 4))), (6, .bp 51000 0), (8, .int .i64 st1.2.2.2), (13, .own 98000), (14, .int .i64 st2), (96, .bp 51000 0), (100, .int .i64 (v0_7.getD st2.toNat 0))] [(51000, .box 71 (.int .i64 (1 + (shape.1 % 4)) :: (.int .i64 (1 + (shape.2 % 4)) :: (cellsX T63 v0_5.2.2.1 ++ (cellsX T65 v0_5.2.2.2.1 ++ (cellsX T69 v0_5.2.2.2.2)))))), (98000, .arr 3 (.int .i64) v0_7)] ?_
             obtain ⟨v0_8, hv84, h⟩ := Option.bind_eq_some_iff.1 h
             refine zC [] [(1000, 51000)] (hc_hazard_Yard_State (v0_7.getD st2.toNat 0) ((1 + (shape.1 % 4)), (1 + (shape.2 % 4)), v0_5.2.2) hv84) [(1, .sl (.pair (.int .i64) (.pair (.int .i64) (.pair (.int .i64) (.int .i64)))) deeds), (5, .int .i64 (1 + (shape.1 % 4))), (6, .bp 51000 0), (8, .int .i64 st1.2.2.2), (13, .own 98000), (14, .int .i64 st2), (101, .tup [.int .i64 v0_8.1, .int .i64 v0_8.2])] [(51000, .box 71 (.int .i64 (1 + (shape.1 % 4)) :: (.int .i64 (1 + (shape.2 % 4)) :: (cellsX T63 v0_5.2.2.1 ++ (cellsX T65 v0_5.2.2.2.1 ++ (cellsX T69 v0_5.2.2.2.2)))))), (98000, .arr 3 (.int .i64) v0_7)] ?_
             refine zB [(1, .sl (.pair (.int .i64) (.pair (.int .i64) (.pair (.int .i64) (.int .i64)))) deeds), (5, .int .i64 (1 + (shape.1 % 4))), (6, .bp 51000 0), (8, .int .i64 st1.2.2.2), (13, .own 98000), (14, .int .i64 st2), (15, .int .i64 v0_8.1), (16, .int .i64 v0_8.2)] [(51000, .box 71 (.int .i64 (1 + (shape.1 % 4)) :: (.int .i64 (1 + (shape.2 % 4)) :: (cellsX T63 v0_5.2.2.1 ++ (cellsX T65 v0_5.2.2.2.1 ++ (cellsX T69 v0_5.2.2.2.2)))))), (98000, .arr 3 (.int .i64) v0_7)] ?_
             refine zo ?_
             refine zS 3 [(1, .sl (.pair (.int .i64) (.pair (.int .i64) (.pair (.int .i64) (.int .i64)))) deeds), (5, .int .i64 (1 + (shape.1 % 4))), (6, .bp 51000 0), (8, .int .i64 st1.2.2.2), (13, .own 98000), (14, .int .i64 st2), (15, .int .i64 v0_8.1), (106, .bool (!(decide (v0_8.2 = 0))))] [(51000, .box 71 (.int .i64 (1 + (shape.1 % 4)) :: (.int .i64 (1 + (shape.2 % 4)) :: (cellsX T63 v0_5.2.2.1 ++ (cellsX T65 v0_5.2.2.2.1 ++ (cellsX T69 v0_5.2.2.2.2)))))), (98000, .arr 3 (.int .i64) v0_7)] ?_
             rcases zI h with ⟨hb85, h⟩ | ⟨hb85, h⟩
             ·refine zB [(1, .sl (.pair (.int .i64) (.pair (.int .i64) (.pair (.int .i64) (.int .i64)))) deeds), (5, .int .i64 (1 + (shape.1 % 4))), (6, .bp 51000 0), (8, .int .i64 st1.2.2.2), (13, .own 98000), (14, .int .i64 st2), (109, .bool true)] [(51000, .box 71 (.int .i64 (1 + (shape.1 % 4)) :: (.int .i64 (1 + (shape.2 % 4)) :: (cellsX T63 v0_5.2.2.1 ++ (cellsX T65 v0_5.2.2.2.1 ++ (cellsX T69 v0_5.2.2.2.2)))))), (98000, .arr 3 (.int .i64) v0_7)] ?_
              refine AW.cond (b := true) rfl (fun _ => ?_) (fun hb86 => by cases hb86)
              refine zo ?_
              refine zB [(4, .bool false)] [] ?_
              refine AW.ret ?_
              refine ablock_r ?_
              refine athen_r ?_
              obtain rfl := Option.some.inj h
              try rw [← hd78 _ rfl] at ho77
              have h := ho77
              try simp only at h
              refine athen_r ?_
              refine ablock_r ?_
              refine ablock_r ?_
              refine athen_r ?_
              obtain rfl := Option.some.inj h
              try rw [← hd59 _ rfl] at ho58
              have h := ho58
              try simp only at h
              refine athen_r ?_
              refine ablock_r ?_
              refine athen_r ?_
              obtain rfl := Option.some.inj h
              exact zR [] [] []
             ·refine zB [(1, .sl (.pair (.int .i64) (.pair (.int .i64) (.pair (.int .i64) (.int .i64)))) deeds), (5, .int .i64 (1 + (shape.1 % 4))), (6, .bp 51000 0), (8, .int .i64 st1.2.2.2), (13, .own 98000), (14, .int .i64 st2), (109, .bool (decide (v0_8.1 = 0)))] [(51000, .box 71 (.int .i64 (1 + (shape.1 % 4)) :: (.int .i64 (1 + (shape.2 % 4)) :: (cellsX T63 v0_5.2.2.1 ++ (cellsX T65 v0_5.2.2.2.1 ++ (cellsX T69 v0_5.2.2.2.2)))))), (98000, .arr 3 (.int .i64) v0_7)] ?_
              refine zQ h (fun hb87 h => ?_) (fun hb87 h => ?_)
              ·refine zo ?_
               refine zB [(4, .bool false)] [] ?_
               refine AW.ret ?_
               refine ablock_r ?_
               refine athen_r ?_
               obtain rfl := Option.some.inj h
               try rw [← hd78 _ rfl] at ho77
               have h := ho77
               try simp only at h
               refine athen_r ?_
               refine ablock_r ?_
               refine ablock_r ?_
               refine athen_r ?_
               obtain rfl := Option.some.inj h
               try rw [← hd59 _ rfl] at ho58
               have h := ho58
               try simp only at h
               refine athen_r ?_
               refine ablock_r ?_
               refine athen_r ?_
               obtain rfl := Option.some.inj h
               exact zR [] [] []
              ·refine zm ?_
               refine athen_n ?_
               refine AW.ops ?_
               obtain ⟨c88, h⟩ := ck_some.1 h
               refine zA [(1, .sl (.pair (.int .i64) (.pair (.int .i64) (.pair (.int .i64) (.int .i64)))) deeds), (5, .int .i64 (1 + (shape.1 % 4))), (6, .bp 51000 0), (8, .int .i64 st1.2.2.2), (13, .own 98000), (14, .int .i64 (st2 + 1))] [(51000, .box 71 (.int .i64 (1 + (shape.1 % 4)) :: (.int .i64 (1 + (shape.2 % 4)) :: (cellsX T63 v0_5.2.2.1 ++ (cellsX T65 v0_5.2.2.2.1 ++ (cellsX T69 v0_5.2.2.2.2)))))), (98000, .arr 3 (.int .i64) v0_7)] ?_
               obtain rfl := Option.some.inj h
               exact ⟨_, rfl, zL [] [] []⟩
            ·refine AW.exit ?_
             refine athen_e ?_
             obtain rfl := Option.some.inj h
             try rw [← hd78 _ rfl] at ho77
             have h := ho77
             try simp only at h
             refine athen_e ?_
             refine ablock_s ?_
             refine ablock_n ?_
             refine athen_n ?_
             exact AW.weaken (zL [] [] []) (hk_linealtop_TopHazard_k2 _ h)
        ·refine zk ?_
         refine zo ?_
         refine zS 1 [(1, .sl (.pair (.int .i64) (.pair (.int .i64) (.pair (.int .i64) (.int .i64)))) deeds), (5, .int .i64 (1 + (shape.1 % 4))), (6, .bp 51000 0), (8, .int .i64 st1.2.2.2), (87, .bp 51000 0)] [(51000, .box 71 (.int .i64 (1 + (shape.1 % 4)) :: (.int .i64 (1 + (shape.2 % 4)) :: (cellsX T63 v0_5.2.2.1 ++ (cellsX T65 v0_5.2.2.2.1 ++ (cellsX T69 v0_5.2.2.2.2))))))] ?_
         obtain ⟨v0_9, hv89, h⟩ := Option.bind_eq_some_iff.1 h
         refine zC [] [(1000, 51000)] (hc_hazard_Yard_Held ((1 + (shape.1 % 4)), (1 + (shape.2 % 4)), v0_5.2.2) hv89) [(1, .sl (.pair (.int .i64) (.pair (.int .i64) (.pair (.int .i64) (.int .i64)))) deeds), (5, .int .i64 (1 + (shape.1 % 4))), (6, .bp 51000 0), (8, .int .i64 st1.2.2.2), (88, .own 98000)] [(51000, .box 71 (.int .i64 (1 + (shape.1 % 4)) :: (.int .i64 (1 + (shape.2 % 4)) :: (cellsX T63 v0_5.2.2.1 ++ (cellsX T65 v0_5.2.2.2.1 ++ (cellsX T69 v0_5.2.2.2.2)))))), (98000, .arr 3 (.int .i64) v0_9)] ?_
         refine zB [(1, .sl (.pair (.int .i64) (.pair (.int .i64) (.pair (.int .i64) (.int .i64)))) deeds), (5, .int .i64 (1 + (shape.1 % 4))), (6, .bp 51000 0), (8, .int .i64 st1.2.2.2), (13, .own 98000)] [(51000, .box 71 (.int .i64 (1 + (shape.1 % 4)) :: (.int .i64 (1 + (shape.2 % 4)) :: (cellsX T63 v0_5.2.2.1 ++ (cellsX T65 v0_5.2.2.2.1 ++ (cellsX T69 v0_5.2.2.2.2)))))), (98000, .arr 3 (.int .i64) v0_9)] ?_
         refine zo ?_
         refine zB [(1, .sl (.pair (.int .i64) (.pair (.int .i64) (.pair (.int .i64) (.int .i64)))) deeds), (5, .int .i64 (1 + (shape.1 % 4))), (6, .bp 51000 0), (8, .int .i64 st1.2.2.2), (13, .own 98000), (14, .int .i64 0)] [(51000, .box 71 (.int .i64 (1 + (shape.1 % 4)) :: (.int .i64 (1 + (shape.2 % 4)) :: (cellsX T63 v0_5.2.2.1 ++ (cellsX T65 v0_5.2.2.2.1 ++ (cellsX T69 v0_5.2.2.2.2)))))), (98000, .arr 3 (.int .i64) v0_9)] ?_
         refine AW.block ?_
         obtain ⟨rv94, hw90, ho91⟩ := Option.bind_eq_some_iff.1 h
         refine AW.loopO (linealtop_TopHazard_b3 shape v0_5 v0_9) (fun st3 => ⟨fr [(1, .sl (.pair (.int .i64) (.pair (.int .i64) (.pair (.int .i64) (.int .i64)))) deeds), (5, .int .i64 (1 + (shape.1 % 4))), (6, .bp 51000 0), (8, .int .i64 st1.2.2.2), (13, .own 98000), (14, .int .i64 st3)], hpGet [(51000, .box 71 (.int .i64 (1 + (shape.1 % 4)) :: (.int .i64 (1 + (shape.2 % 4)) :: (cellsX T63 v0_5.2.2.1 ++ (cellsX T65 v0_5.2.2.2.1 ++ (cellsX T69 v0_5.2.2.2.2)))))), (98000, .arr 3 (.int .i64) v0_9)], gt⟩) 0 hw90 (zL [] [] []) ?_
         as_aux_lemma =>
          intro st3 x93 h hd92
          unfold linealtop_TopHazard_b3 at h
          refine AW.seq ?_
          refine zo ?_
          refine zB [(1, .sl (.pair (.int .i64) (.pair (.int .i64) (.pair (.int .i64) (.int .i64)))) deeds), (5, .int .i64 (1 + (shape.1 % 4))), (6, .bp 51000 0), (8, .int .i64 st1.2.2.2), (13, .own 98000), (14, .int .i64 st3), (92, .bool (decide (st3 < (v0_9.length : Int))))] [(51000, .box 71 (.int .i64 (1 + (shape.1 % 4)) :: (.int .i64 (1 + (shape.2 % 4)) :: (cellsX T63 v0_5.2.2.1 ++ (cellsX T65 v0_5.2.2.2.1 ++ (cellsX T69 v0_5.2.2.2.2)))))), (98000, .arr 3 (.int .i64) v0_9)] ?_
          refine zQ h (fun hb95 h => ?_) (fun hb95 h => ?_)
          ·refine zk ?_
           refine AW.seq ?_
           refine AW.block ?_
           refine zo ?_
           obtain ⟨c96, h⟩ := ck_some.1 h
           obtain ⟨c97, h⟩ := ck_some.1 h
           refine zS 5 [(1, .sl (.pair (.int .i64) (.pair (.int .i64) (.pair (.int .i64) (.int .i64)))) deeds), (5, .int .i64 (1 + (shape.1 % 4))), (6, .bp 51000 0), (8, .int .i64 st1.2.2.2), (13, .own 98000), (14, .int .i64 st3), (96, .bp 51000 0), (100, .int .i64 (v0_9.getD st3.toNat 0))] [(51000, .box 71 (.int .i64 (1 + (shape.1 % 4)) :: (.int .i64 (1 + (shape.2 % 4)) :: (cellsX T63 v0_5.2.2.1 ++ (cellsX T65 v0_5.2.2.2.1 ++ (cellsX T69 v0_5.2.2.2.2)))))), (98000, .arr 3 (.int .i64) v0_9)] ?_
           obtain ⟨v0_10, hv98, h⟩ := Option.bind_eq_some_iff.1 h
           refine zC [] [(1000, 51000)] (hc_hazard_Yard_State (v0_9.getD st3.toNat 0) ((1 + (shape.1 % 4)), (1 + (shape.2 % 4)), v0_5.2.2) hv98) [(1, .sl (.pair (.int .i64) (.pair (.int .i64) (.pair (.int .i64) (.int .i64)))) deeds), (5, .int .i64 (1 + (shape.1 % 4))), (6, .bp 51000 0), (8, .int .i64 st1.2.2.2), (13, .own 98000), (14, .int .i64 st3), (101, .tup [.int .i64 v0_10.1, .int .i64 v0_10.2])] [(51000, .box 71 (.int .i64 (1 + (shape.1 % 4)) :: (.int .i64 (1 + (shape.2 % 4)) :: (cellsX T63 v0_5.2.2.1 ++ (cellsX T65 v0_5.2.2.2.1 ++ (cellsX T69 v0_5.2.2.2.2)))))), (98000, .arr 3 (.int .i64) v0_9)] ?_
           refine zB [(1, .sl (.pair (.int .i64) (.pair (.int .i64) (.pair (.int .i64) (.int .i64)))) deeds), (5, .int .i64 (1 + (shape.1 % 4))), (6, .bp 51000 0), (8, .int .i64 st1.2.2.2), (13, .own 98000), (14, .int .i64 st3), (15, .int .i64 v0_10.1), (16, .int .i64 v0_10.2)] [(51000, .box 71 (.int .i64 (1 + (shape.1 % 4)) :: (.int .i64 (1 + (shape.2 % 4)) :: (cellsX T63 v0_5.2.2.1 ++ (cellsX T65 v0_5.2.2.2.1 ++ (cellsX T69 v0_5.2.2.2.2)))))), (98000, .arr 3 (.int .i64) v0_9)] ?_
           refine zo ?_
           refine zS 3 [(1, .sl (.pair (.int .i64) (.pair (.int .i64) (.pair (.int .i64) (.int .i64)))) deeds), (5, .int .i64 (1 + (shape.1 % 4))), (6, .bp 51000 0), (8, .int .i64 st1.2.2.2), (13, .own 98000), (14, .int .i64 st3), (15, .int .i64 v0_10.1), (106, .bool (!(decide (v0_10.2 = 0))))] [(51000, .box 71 (.int .i64 (1 + (shape.1 % 4)) :: (.int .i64 (1 + (shape.2 % 4)) :: (cellsX T63 v0_5.2.2.1 ++ (cellsX T65 v0_5.2.2.2.1 ++ (cellsX T69 v0_5.2.2.2.2)))))), (98000, .arr 3 (.int .i64) v0_9)] ?_
           rcases zI h with ⟨hb99, h⟩ | ⟨hb99, h⟩
           ·refine zB [(1, .sl (.pair (.int .i64) (.pair (.int .i64) (.pair (.int .i64) (.int .i64)))) deeds), (5, .int .i64 (1 + (shape.1 % 4))), (6, .bp 51000 0), (8, .int .i64 st1.2.2.2), (13, .own 98000), (14, .int .i64 st3), (109, .bool true)] [(51000, .box 71 (.int .i64 (1 + (shape.1 % 4)) :: (.int .i64 (1 + (shape.2 % 4)) :: (cellsX T63 v0_5.2.2.1 ++ (cellsX T65 v0_5.2.2.2.1 ++ (cellsX T69 v0_5.2.2.2.2)))))), (98000, .arr 3 (.int .i64) v0_9)] ?_
            refine AW.cond (b := true) rfl (fun _ => ?_) (fun hb100 => by cases hb100)
            refine zo ?_
            refine zB [(4, .bool false)] [] ?_
            refine AW.ret ?_
            refine ablock_r ?_
            refine athen_r ?_
            obtain rfl := Option.some.inj h
            try rw [← hd92 _ rfl] at ho91
            have h := ho91
            try simp only at h
            refine athen_r ?_
            refine ablock_r ?_
            refine ablock_r ?_
            refine athen_r ?_
            obtain rfl := Option.some.inj h
            try rw [← hd59 _ rfl] at ho58
            have h := ho58
            try simp only at h
            refine athen_r ?_
            refine ablock_r ?_
            refine athen_r ?_
            obtain rfl := Option.some.inj h
            exact zR [] [] []
           ·refine zB [(1, .sl (.pair (.int .i64) (.pair (.int .i64) (.pair (.int .i64) (.int .i64)))) deeds), (5, .int .i64 (1 + (shape.1 % 4))), (6, .bp 51000 0), (8, .int .i64 st1.2.2.2), (13, .own 98000), (14, .int .i64 st3), (109, .bool (decide (v0_10.1 = 0)))] [(51000, .box 71 (.int .i64 (1 + (shape.1 % 4)) :: (.int .i64 (1 + (shape.2 % 4)) :: (cellsX T63 v0_5.2.2.1 ++ (cellsX T65 v0_5.2.2.2.1 ++ (cellsX T69 v0_5.2.2.2.2)))))), (98000, .arr 3 (.int .i64) v0_9)] ?_
            refine zQ h (fun hb101 h => ?_) (fun hb101 h => ?_)
            ·refine zo ?_
             refine zB [(4, .bool false)] [] ?_
             refine AW.ret ?_
             refine ablock_r ?_
             refine athen_r ?_
             obtain rfl := Option.some.inj h
             try rw [← hd92 _ rfl] at ho91
             have h := ho91
             try simp only at h
             refine athen_r ?_
             refine ablock_r ?_
             refine ablock_r ?_
             refine athen_r ?_
             obtain rfl := Option.some.inj h
             try rw [← hd59 _ rfl] at ho58
             have h := ho58
             try simp only at h
             refine athen_r ?_
             refine ablock_r ?_
             refine athen_r ?_
             obtain rfl := Option.some.inj h
             exact zR [] [] []
            ·refine zm ?_
             refine athen_n ?_
             refine AW.ops ?_
             obtain ⟨c102, h⟩ := ck_some.1 h
             refine zA [(1, .sl (.pair (.int .i64) (.pair (.int .i64) (.pair (.int .i64) (.int .i64)))) deeds), (5, .int .i64 (1 + (shape.1 % 4))), (6, .bp 51000 0), (8, .int .i64 st1.2.2.2), (13, .own 98000), (14, .int .i64 (st3 + 1))] [(51000, .box 71 (.int .i64 (1 + (shape.1 % 4)) :: (.int .i64 (1 + (shape.2 % 4)) :: (cellsX T63 v0_5.2.2.1 ++ (cellsX T65 v0_5.2.2.2.1 ++ (cellsX T69 v0_5.2.2.2.2)))))), (98000, .arr 3 (.int .i64) v0_9)] ?_
             obtain rfl := Option.some.inj h
             exact ⟨_, rfl, zL [] [] []⟩
          ·refine AW.exit ?_
           refine athen_e ?_
           obtain rfl := Option.some.inj h
           try rw [← hd92 _ rfl] at ho91
           have h := ho91
           try simp only at h
           refine athen_e ?_
           refine ablock_s ?_
           refine ablock_n ?_
           refine athen_n ?_
           exact AW.weaken (zL [] [] []) (hk_linealtop_TopHazard_k2 _ h)
       ·refine zS 4 [(1, .sl (.pair (.int .i64) (.pair (.int .i64) (.pair (.int .i64) (.int .i64)))) deeds), (5, .int .i64 (1 + (shape.1 % 4))), (6, .bp 51000 0), (8, .int .i64 st1.2.2.2), (9, .int .i64 v0_5.1), (67, .bool false), (71, .cv (undef))] [(51000, .box 71 (.int .i64 (1 + (shape.1 % 4)) :: (.int .i64 (1 + (shape.2 % 4)) :: (cellsX T63 v0_5.2.2.1 ++ (cellsX T65 v0_5.2.2.2.1 ++ (cellsX T69 v0_5.2.2.2.2))))))] ?_
        refine zB [(1, .sl (.pair (.int .i64) (.pair (.int .i64) (.pair (.int .i64) (.int .i64)))) deeds), (5, .int .i64 (1 + (shape.1 % 4))), (6, .bp 51000 0), (8, .int .i64 st1.2.2.2), (9, .int .i64 v0_5.1), (74, .bool false)] [(51000, .box 71 (.int .i64 (1 + (shape.1 % 4)) :: (.int .i64 (1 + (shape.2 % 4)) :: (cellsX T63 v0_5.2.2.1 ++ (cellsX T65 v0_5.2.2.2.1 ++ (cellsX T69 v0_5.2.2.2.2))))))] ?_
        refine AW.cond (b := false) rfl (fun hb103 => by cases hb103) (fun _ => ?_)
        refine zk ?_
        refine zo ?_
        refine zS 1 [(1, .sl (.pair (.int .i64) (.pair (.int .i64) (.pair (.int .i64) (.int .i64)))) deeds), (5, .int .i64 (1 + (shape.1 % 4))), (6, .bp 51000 0), (8, .int .i64 st1.2.2.2), (87, .bp 51000 0)] [(51000, .box 71 (.int .i64 (1 + (shape.1 % 4)) :: (.int .i64 (1 + (shape.2 % 4)) :: (cellsX T63 v0_5.2.2.1 ++ (cellsX T65 v0_5.2.2.2.1 ++ (cellsX T69 v0_5.2.2.2.2))))))] ?_
        obtain ⟨v0_11, hv104, h⟩ := Option.bind_eq_some_iff.1 h
        refine zC [] [(1000, 51000)] (hc_hazard_Yard_Held ((1 + (shape.1 % 4)), (1 + (shape.2 % 4)), v0_5.2.2) hv104) [(1, .sl (.pair (.int .i64) (.pair (.int .i64) (.pair (.int .i64) (.int .i64)))) deeds), (5, .int .i64 (1 + (shape.1 % 4))), (6, .bp 51000 0), (8, .int .i64 st1.2.2.2), (88, .own 98000)] [(51000, .box 71 (.int .i64 (1 + (shape.1 % 4)) :: (.int .i64 (1 + (shape.2 % 4)) :: (cellsX T63 v0_5.2.2.1 ++ (cellsX T65 v0_5.2.2.2.1 ++ (cellsX T69 v0_5.2.2.2.2)))))), (98000, .arr 3 (.int .i64) v0_11)] ?_
        refine zB [(1, .sl (.pair (.int .i64) (.pair (.int .i64) (.pair (.int .i64) (.int .i64)))) deeds), (5, .int .i64 (1 + (shape.1 % 4))), (6, .bp 51000 0), (8, .int .i64 st1.2.2.2), (13, .own 98000)] [(51000, .box 71 (.int .i64 (1 + (shape.1 % 4)) :: (.int .i64 (1 + (shape.2 % 4)) :: (cellsX T63 v0_5.2.2.1 ++ (cellsX T65 v0_5.2.2.2.1 ++ (cellsX T69 v0_5.2.2.2.2)))))), (98000, .arr 3 (.int .i64) v0_11)] ?_
        refine zo ?_
        refine zB [(1, .sl (.pair (.int .i64) (.pair (.int .i64) (.pair (.int .i64) (.int .i64)))) deeds), (5, .int .i64 (1 + (shape.1 % 4))), (6, .bp 51000 0), (8, .int .i64 st1.2.2.2), (13, .own 98000), (14, .int .i64 0)] [(51000, .box 71 (.int .i64 (1 + (shape.1 % 4)) :: (.int .i64 (1 + (shape.2 % 4)) :: (cellsX T63 v0_5.2.2.1 ++ (cellsX T65 v0_5.2.2.2.1 ++ (cellsX T69 v0_5.2.2.2.2)))))), (98000, .arr 3 (.int .i64) v0_11)] ?_
        refine AW.block ?_
        obtain ⟨rv109, hw105, ho106⟩ := Option.bind_eq_some_iff.1 h
        refine AW.loopO (linealtop_TopHazard_b4 shape v0_5 v0_11) (fun st4 => ⟨fr [(1, .sl (.pair (.int .i64) (.pair (.int .i64) (.pair (.int .i64) (.int .i64)))) deeds), (5, .int .i64 (1 + (shape.1 % 4))), (6, .bp 51000 0), (8, .int .i64 st1.2.2.2), (13, .own 98000), (14, .int .i64 st4)], hpGet [(51000, .box 71 (.int .i64 (1 + (shape.1 % 4)) :: (.int .i64 (1 + (shape.2 % 4)) :: (cellsX T63 v0_5.2.2.1 ++ (cellsX T65 v0_5.2.2.2.1 ++ (cellsX T69 v0_5.2.2.2.2)))))), (98000, .arr 3 (.int .i64) v0_11)], gt⟩) 0 hw105 (zL [] [] []) ?_
        as_aux_lemma =>
         intro st4 x108 h hd107
         unfold linealtop_TopHazard_b4 at h
         refine AW.seq ?_
         refine zo ?_
         refine zB [(1, .sl (.pair (.int .i64) (.pair (.int .i64) (.pair (.int .i64) (.int .i64)))) deeds), (5, .int .i64 (1 + (shape.1 % 4))), (6, .bp 51000 0), (8, .int .i64 st1.2.2.2), (13, .own 98000), (14, .int .i64 st4), (92, .bool (decide (st4 < (v0_11.length : Int))))] [(51000, .box 71 (.int .i64 (1 + (shape.1 % 4)) :: (.int .i64 (1 + (shape.2 % 4)) :: (cellsX T63 v0_5.2.2.1 ++ (cellsX T65 v0_5.2.2.2.1 ++ (cellsX T69 v0_5.2.2.2.2)))))), (98000, .arr 3 (.int .i64) v0_11)] ?_
         refine zQ h (fun hb110 h => ?_) (fun hb110 h => ?_)
         ·refine zk ?_
          refine AW.seq ?_
          refine AW.block ?_
          refine zo ?_
          obtain ⟨c111, h⟩ := ck_some.1 h
          obtain ⟨c112, h⟩ := ck_some.1 h
          refine zS 5 [(1, .sl (.pair (.int .i64) (.pair (.int .i64) (.pair (.int .i64) (.int .i64)))) deeds), (5, .int .i64 (1 + (shape.1 % 4))), (6, .bp 51000 0), (8, .int .i64 st1.2.2.2), (13, .own 98000), (14, .int .i64 st4), (96, .bp 51000 0), (100, .int .i64 (v0_11.getD st4.toNat 0))] [(51000, .box 71 (.int .i64 (1 + (shape.1 % 4)) :: (.int .i64 (1 + (shape.2 % 4)) :: (cellsX T63 v0_5.2.2.1 ++ (cellsX T65 v0_5.2.2.2.1 ++ (cellsX T69 v0_5.2.2.2.2)))))), (98000, .arr 3 (.int .i64) v0_11)] ?_
          obtain ⟨v0_12, hv113, h⟩ := Option.bind_eq_some_iff.1 h
          refine zC [] [(1000, 51000)] (hc_hazard_Yard_State (v0_11.getD st4.toNat 0) ((1 + (shape.1 % 4)), (1 + (shape.2 % 4)), v0_5.2.2) hv113) [(1, .sl (.pair (.int .i64) (.pair (.int .i64) (.pair (.int .i64) (.int .i64)))) deeds), (5, .int .i64 (1 + (shape.1 % 4))), (6, .bp 51000 0), (8, .int .i64 st1.2.2.2), (13, .own 98000), (14, .int .i64 st4), (101, .tup [.int .i64 v0_12.1, .int .i64 v0_12.2])] [(51000, .box 71 (.int .i64 (1 + (shape.1 % 4)) :: (.int .i64 (1 + (shape.2 % 4)) :: (cellsX T63 v0_5.2.2.1 ++ (cellsX T65 v0_5.2.2.2.1 ++ (cellsX T69 v0_5.2.2.2.2)))))), (98000, .arr 3 (.int .i64) v0_11)] ?_
          refine zB [(1, .sl (.pair (.int .i64) (.pair (.int .i64) (.pair (.int .i64) (.int .i64)))) deeds), (5, .int .i64 (1 + (shape.1 % 4))), (6, .bp 51000 0), (8, .int .i64 st1.2.2.2), (13, .own 98000), (14, .int .i64 st4), (15, .int .i64 v0_12.1), (16, .int .i64 v0_12.2)] [(51000, .box 71 (.int .i64 (1 + (shape.1 % 4)) :: (.int .i64 (1 + (shape.2 % 4)) :: (cellsX T63 v0_5.2.2.1 ++ (cellsX T65 v0_5.2.2.2.1 ++ (cellsX T69 v0_5.2.2.2.2)))))), (98000, .arr 3 (.int .i64) v0_11)] ?_
          refine zo ?_
          refine zS 3 [(1, .sl (.pair (.int .i64) (.pair (.int .i64) (.pair (.int .i64) (.int .i64)))) deeds), (5, .int .i64 (1 + (shape.1 % 4))), (6, .bp 51000 0), (8, .int .i64 st1.2.2.2), (13, .own 98000), (14, .int .i64 st4), (15, .int .i64 v0_12.1), (106, .bool (!(decide (v0_12.2 = 0))))] [(51000, .box 71 (.int .i64 (1 + (shape.1 % 4)) :: (.int .i64 (1 + (shape.2 % 4)) :: (cellsX T63 v0_5.2.2.1 ++ (cellsX T65 v0_5.2.2.2.1 ++ (cellsX T69 v0_5.2.2.2.2)))))), (98000, .arr 3 (.int .i64) v0_11)] ?_
          rcases zI h with ⟨hb114, h⟩ | ⟨hb114, h⟩
          ·refine zB [(1, .sl (.pair (.int .i64) (.pair (.int .i64) (.pair (.int .i64) (.int .i64)))) deeds), (5, .int .i64 (1 + (shape.1 % 4))), (6, .bp 51000 0), (8, .int .i64 st1.2.2.2), (13, .own 98000), (14, .int .i64 st4), (109, .bool true)] [(51000, .box 71 (.int .i64 (1 + (shape.1 % 4)) :: (.int .i64 (1 + (shape.2 % 4)) :: (cellsX T63 v0_5.2.2.1 ++ (cellsX T65 v0_5.2.2.2.1 ++ (cellsX T69 v0_5.2.2.2.2)))))), (98000, .arr 3 (.int .i64) v0_11)] ?_
           refine AW.cond (b := true) rfl (fun _ => ?_) (fun hb115 => by cases hb115)
           refine zo ?_
           refine zB [(4, .bool false)] [] ?_
           refine AW.ret ?_
           refine ablock_r ?_
           refine athen_r ?_
           obtain rfl := Option.some.inj h
           try rw [← hd107 _ rfl] at ho106
           have h := ho106
           try simp only at h
           refine athen_r ?_
           refine ablock_r ?_
           refine ablock_r ?_
           refine athen_r ?_
           obtain rfl := Option.some.inj h
           try rw [← hd59 _ rfl] at ho58
           have h := ho58
           try simp only at h
           refine athen_r ?_
           refine ablock_r ?_
           refine athen_r ?_
           obtain rfl := Option.some.inj h
           exact zR [] [] []
          ·refine zB [(1, .sl (.pair (.int .i64) (.pair (.int .i64) (.pair (.int .i64) (.int .i64)))) deeds), (5, .int .i64 (1 + (shape.1 % 4))), (6, .bp 51000 0), (8, .int .i64 st1.2.2.2), (13, .own 98000), (14, .int .i64 st4), (109, .bool (decide (v0_12.1 = 0)))] [(51000, .box 71 (.int .i64 (1 + (shape.1 % 4)) :: (.int .i64 (1 + (shape.2 % 4)) :: (cellsX T63 v0_5.2.2.1 ++ (cellsX T65 v0_5.2.2.2.1 ++ (cellsX T69 v0_5.2.2.2.2)))))), (98000, .arr 3 (.int .i64) v0_11)] ?_
           refine zQ h (fun hb116 h => ?_) (fun hb116 h => ?_)
           ·refine zo ?_
            refine zB [(4, .bool false)] [] ?_
            refine AW.ret ?_
            refine ablock_r ?_
            refine athen_r ?_
            obtain rfl := Option.some.inj h
            try rw [← hd107 _ rfl] at ho106
            have h := ho106
            try simp only at h
            refine athen_r ?_
            refine ablock_r ?_
            refine ablock_r ?_
            refine athen_r ?_
            obtain rfl := Option.some.inj h
            try rw [← hd59 _ rfl] at ho58
            have h := ho58
            try simp only at h
            refine athen_r ?_
            refine ablock_r ?_
            refine athen_r ?_
            obtain rfl := Option.some.inj h
            exact zR [] [] []
           ·refine zm ?_
            refine athen_n ?_
            refine AW.ops ?_
            obtain ⟨c117, h⟩ := ck_some.1 h
            refine zA [(1, .sl (.pair (.int .i64) (.pair (.int .i64) (.pair (.int .i64) (.int .i64)))) deeds), (5, .int .i64 (1 + (shape.1 % 4))), (6, .bp 51000 0), (8, .int .i64 st1.2.2.2), (13, .own 98000), (14, .int .i64 (st4 + 1))] [(51000, .box 71 (.int .i64 (1 + (shape.1 % 4)) :: (.int .i64 (1 + (shape.2 % 4)) :: (cellsX T63 v0_5.2.2.1 ++ (cellsX T65 v0_5.2.2.2.1 ++ (cellsX T69 v0_5.2.2.2.2)))))), (98000, .arr 3 (.int .i64) v0_11)] ?_
            obtain rfl := Option.some.inj h
            exact ⟨_, rfl, zL [] [] []⟩
         ·refine AW.exit ?_
          refine athen_e ?_
          obtain rfl := Option.some.inj h
          try rw [← hd107 _ rfl] at ho106
          have h := ho106
          try simp only at h
          refine athen_e ?_
          refine ablock_s ?_
          refine ablock_n ?_
          refine athen_n ?_
          exact AW.weaken (zL [] [] []) (hk_linealtop_TopHazard_k2 _ h)
     ·refine AW.exit ?_
      refine athen_e ?_
      obtain rfl := Option.some.inj h
      rw [← hd59 _ rfl] at ho58
      have h := ho58
      try simp only at h
      refine athen_e ?_
      refine ablock_s ?_
      refine athen_n ?_
      exact AW.weaken (zL [] [] []) (hk_linealtop_TopHazard_k1 _ h)

end Go.Proofs.YtcckpmeepcoafaaDoor
