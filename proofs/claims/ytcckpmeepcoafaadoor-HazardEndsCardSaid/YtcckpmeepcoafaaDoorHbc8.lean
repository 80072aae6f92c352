/-
  Made by wip/tool/dc.py out of the print of the program: contracts.
-/
import Derived.Test.YtcckpmeepcoafaaDoorHzp
import Derived.Test.YtcckpmeepcoafaaDoorShz
import Derived.Test.YtcckpmeepcoafaaDoorHbc3
import Derived.Test.YtcckpmeepcoafaaDoorHbc5
import Derived.Test.YtcckpmeepcoafaaDoorHbc7
namespace Go.Proofs.YtcckpmeepcoafaaDoor
open Go.RowKit

set_option linter.unusedSimpArgs false
set_option linter.unusedVariables false
set_option linter.constructorNameAsVariable false

set_option maxRecDepth 100000
set_option maxHeartbeats 40000000

theorem hc_lineallaw06_HazardEnds (shape : Int × Int) (deeds : List (Int × Int × Int × Int)) {r : Bool} (h : lineallaw06_HazardEnds shape deeds = some r) : HC Tryd.prog 8 [] [.agg [.int .u8 shape.1, .int .u8 shape.2], .sl (.pair (.int .i64) (.pair (.int .i64) (.pair (.int .i64) (.int .i64)))) deeds] [] (.bool r) := by
 unfold lineallaw06_HazardEnds at h
 refine zH Tryd.func8 [.tmp 4] 109 ?_
 refine zo ?_
 refine zB [(1, .sl (.pair (.int .i64) (.pair (.int .i64) (.pair (.int .i64) (.int .i64)))) deeds), (2, .bp 2 0)] [(2, .box 55 [.int .u8 shape.1, .int .u8 shape.2])] ?_
 refine AW.seq ?_
 refine zo ?_
 refine zB [(1, .sl (.pair (.int .i64) (.pair (.int .i64) (.pair (.int .i64) (.int .i64)))) deeds), (2, .bp 2 0), (21, .bool (decide (100 < (deeds.length : Int))))] [(2, .box 55 [.int .u8 shape.1, .int .u8 shape.2])] ?_
 refine zQ h (fun hb1 h => ?_) (fun hb1 h => ?_)
 ·refine zo ?_
  obtain ⟨v0, hv2, h⟩ := Option.bind_eq_some_iff.1 h
  refine zC [] [] (hc_lineallaw06_Sane hv2) [(22, .bool v0)] [] ?_
  refine zB [(4, .bool v0)] [] ?_
  refine zr ?_
  obtain rfl := Option.some.inj h
  exact zR [] [] []
 ·refine zk ?_
  refine zo ?_
  refine zS 2 [(2, .bp 2 0), (23, .agg [.int .u8 shape.1, .int .u8 shape.2]), (24, .sl (.pair (.int .i64) (.pair (.int .i64) (.pair (.int .i64) (.int .i64)))) deeds)] [(2, .box 55 [.int .u8 shape.1, .int .u8 shape.2])] ?_
  obtain ⟨v0_2, hv3, h⟩ := Option.bind_eq_some_iff.1 h
  rcases v0_2 with v0_3 | v0_4
  ·try simp only at h
   refine zC [] [] (hc_lineallaw06_done_a0 shape deeds hv3) [(2, .bp 2 0), (25, .cv (.pointer none))] [(2, .box 55 [.int .u8 shape.1, .int .u8 shape.2])] ?_
   refine zB [(2, .bp 2 0), (5, .cv (.pointer none))] [(2, .box 55 [.int .u8 shape.1, .int .u8 shape.2])] ?_
   refine AW.seq ?_
   refine zo ?_
   refine zS 1 [(2, .bp 2 0), (5, .cv (.pointer none)), (26, .cv (.pointer none))] [(2, .box 55 [.int .u8 shape.1, .int .u8 shape.2])] ?_
   refine AO.ptrNil (neg := false) (p := true) (by decide) (.inl rfl) (by kernel_rfl) rfl rfl rfl ?_
   refine zT [(2, .bp 2 0), (5, .cv (.pointer none)), (27, .bool true)] [(2, .box 55 [.int .u8 shape.1, .int .u8 shape.2])] gt ?_
   refine zB [(2, .bp 2 0), (5, .cv (.pointer none)), (27, .bool true)] [(2, .box 55 [.int .u8 shape.1, .int .u8 shape.2])] ?_
   refine AW.cond (b := true) rfl (fun _ => ?_) (fun hb4 => by cases hb4)
   refine zo ?_
   refine zB [(4, .bool false)] [] ?_
   refine zr ?_
   obtain rfl := Option.some.inj h
   exact zR [] [] []
  ·try simp only at h
   refine zC [] [] (hc_lineallaw06_done_a1 shape deeds hv3) [(2, .bp 2 0), (25, .bp 35000 0)] [(2, .box 55 [.int .u8 shape.1, .int .u8 shape.2]), (35000, .box 71 (.int .i64 (1 + (shape.1 % 4)) :: (.int .i64 (1 + (shape.2 % 4)) :: (cellsX T63 v0_4.1 ++ (cellsX T65 v0_4.2.1 ++ (cellsX T69 v0_4.2.2))))))] ?_
   refine zB [(2, .bp 2 0), (5, .bp 35000 0)] [(2, .box 55 [.int .u8 shape.1, .int .u8 shape.2]), (35000, .box 71 (.int .i64 (1 + (shape.1 % 4)) :: (.int .i64 (1 + (shape.2 % 4)) :: (cellsX T63 v0_4.1 ++ (cellsX T65 v0_4.2.1 ++ (cellsX T69 v0_4.2.2))))))] ?_
   refine AW.seq ?_
   refine zo ?_
   refine zS 1 [(2, .bp 2 0), (5, .bp 35000 0), (26, .bp 35000 0)] [(2, .box 55 [.int .u8 shape.1, .int .u8 shape.2]), (35000, .box 71 (.int .i64 (1 + (shape.1 % 4)) :: (.int .i64 (1 + (shape.2 % 4)) :: (cellsX T63 v0_4.1 ++ (cellsX T65 v0_4.2.1 ++ (cellsX T69 v0_4.2.2))))))] ?_
   refine AO.ptrNil (neg := false) (p := false) (by decide) (.inl rfl) (by kernel_rfl) rfl rfl rfl ?_
   refine zT [(2, .bp 2 0), (5, .bp 35000 0), (27, .bool false)] [(2, .box 55 [.int .u8 shape.1, .int .u8 shape.2]), (35000, .box 71 (.int .i64 (1 + (shape.1 % 4)) :: (.int .i64 (1 + (shape.2 % 4)) :: (cellsX T63 v0_4.1 ++ (cellsX T65 v0_4.2.1 ++ (cellsX T69 v0_4.2.2))))))] gt ?_
   refine zB [(2, .bp 2 0), (5, .bp 35000 0), (27, .bool false)] [(2, .box 55 [.int .u8 shape.1, .int .u8 shape.2]), (35000, .box 71 (.int .i64 (1 + (shape.1 % 4)) :: (.int .i64 (1 + (shape.2 % 4)) :: (cellsX T63 v0_4.1 ++ (cellsX T65 v0_4.2.1 ++ (cellsX T69 v0_4.2.2))))))] ?_
   refine AW.cond (b := false) rfl (fun hb5 => by cases hb5) (fun _ => ?_)
   refine zk ?_
   refine zo ?_
   obtain ⟨c6, h⟩ := ck_some.1 h
   obtain ⟨c7, h⟩ := ck_some.1 h
   obtain ⟨c8, h⟩ := ck_some.1 h
   refine zS 5 [(5, .bp 35000 0), (32, .int .i64 (1 + (shape.1 % 4)))] [(35000, .box 71 (.int .i64 (1 + (shape.1 % 4)) :: (.int .i64 (1 + (shape.2 % 4)) :: (cellsX T63 v0_4.1 ++ (cellsX T65 v0_4.2.1 ++ (cellsX T69 v0_4.2.2))))))] ?_
   refine zB [(5, .bp 35000 0), (6, .int .i64 (1 + (shape.1 % 4)))] [(35000, .box 71 (.int .i64 (1 + (shape.1 % 4)) :: (.int .i64 (1 + (shape.2 % 4)) :: (cellsX T63 v0_4.1 ++ (cellsX T65 v0_4.2.1 ++ (cellsX T69 v0_4.2.2))))))] ?_
   refine AW.have1 (fun b1 : (El T63) × (El T69) => lineallaw06_HazardEnds_k1 shape v0_4 b1 = some r) (fun b1 => ⟨fr [(5, .bp 35000 0), (6, .int .i64 (1 + (shape.1 % 4)))], hpGet [(35000, .box 71 (.int .i64 (1 + (shape.1 % 4)) :: (.int .i64 (1 + (shape.2 % 4)) :: (cellsX T63 b1.1 ++ (cellsX T65 v0_4.2.1 ++ (cellsX T69 b1.2))))))], gt⟩) (fun b1 h => ?_) (fun hk_lineallaw06_HazardEnds_k1 => ?_)
   ·as_aux_lemma =>
     unfold lineallaw06_HazardEnds_k1 at h
     refine AW.have1 (fun b3_2 : (El T65) => lineallaw06_HazardEnds_k2 shape b1 b3_2 = some r) (fun b3_2 => ⟨fr [(5, .bp 35000 0), (6, .int .i64 (1 + (shape.1 % 4)))], hpGet [(35000, .box 71 (.int .i64 (1 + (shape.1 % 4)) :: (.int .i64 (1 + (shape.2 % 4)) :: (cellsX T63 b1.1 ++ (cellsX T65 b3_2 ++ (cellsX T69 b1.2))))))], gt⟩) (fun b3_2 h => ?_) (fun hk_lineallaw06_HazardEnds_k2 => ?_)
     ·as_aux_lemma =>
       unfold lineallaw06_HazardEnds_k2 at h
       refine zo ?_
       refine zS 1 [(5, .bp 35000 0), (6, .int .i64 (1 + (shape.1 % 4))), (74, .bp 35000 0)] [(35000, .box 71 (.int .i64 (1 + (shape.1 % 4)) :: (.int .i64 (1 + (shape.2 % 4)) :: (cellsX T63 b1.1 ++ (cellsX T65 b3_2 ++ (cellsX T69 b1.2))))))] ?_
       obtain ⟨v0_8, hv9, h⟩ := Option.bind_eq_some_iff.1 h
       refine zC [] [(1000, 35000)] (hc_hazard_Yard_By ((1 + (shape.1 % 4)), (1 + (shape.2 % 4)), b1.1, b3_2, b1.2) hv9) [(5, .bp 35000 0), (6, .int .i64 (1 + (shape.1 % 4))), (75, .int .i64 v0_8)] [(35000, .box 71 (.int .i64 (1 + (shape.1 % 4)) :: (.int .i64 (1 + (shape.2 % 4)) :: (cellsX T63 b1.1 ++ (cellsX T65 b3_2 ++ (cellsX T69 b1.2))))))] ?_
       refine zB [(5, .bp 35000 0), (6, .int .i64 (1 + (shape.1 % 4))), (14, .int .i64 0), (15, .int .i64 v0_8)] [(35000, .box 71 (.int .i64 (1 + (shape.1 % 4)) :: (.int .i64 (1 + (shape.2 % 4)) :: (cellsX T63 b1.1 ++ (cellsX T65 b3_2 ++ (cellsX T69 b1.2))))))] ?_
       refine AW.have1 (fun b4 : (El T63) × (El T69) × Int => lineallaw06_HazardEnds_k4 shape b3_2 v0_8 b4 = some r) (fun b4 => ⟨fr [(5, .bp 35000 0), (14, .int .i64 b4.2.2), (15, .int .i64 v0_8)], hpGet [(35000, .box 71 (.int .i64 (1 + (shape.1 % 4)) :: (.int .i64 (1 + (shape.2 % 4)) :: (cellsX T63 b4.1 ++ (cellsX T65 b3_2 ++ (cellsX T69 b4.2.1))))))], gt⟩) (fun b4 h => ?_) (fun hk_lineallaw06_HazardEnds_k4 => ?_)
       ·as_aux_lemma =>
         unfold lineallaw06_HazardEnds_k4 at h
         refine zo ?_
         refine zS 4 [(5, .bp 35000 0), (95, .bool (decide (b4.2.2 = v0_8)))] [(35000, .box 71 (.int .i64 (1 + (shape.1 % 4)) :: (.int .i64 (1 + (shape.2 % 4)) :: (cellsX T63 b4.1 ++ (cellsX T65 b3_2 ++ (cellsX T69 b4.2.1))))))] ?_
         rcases zI h with ⟨hb10, h⟩ | ⟨hb10, h⟩
         ·refine zS 1 [(5, .bp 35000 0), (95, .bool true), (96, .bp 35000 0)] [(35000, .box 71 (.int .i64 (1 + (shape.1 % 4)) :: (.int .i64 (1 + (shape.2 % 4)) :: (cellsX T63 b4.1 ++ (cellsX T65 b3_2 ++ (cellsX T69 b4.2.1))))))] ?_
          obtain ⟨v0_10, hv11, h⟩ := Option.bind_eq_some_iff.1 h
          refine zG [] [(1000, 35000)] (hc_hazard_Yard_By ((1 + (shape.1 % 4)), (1 + (shape.2 % 4)), b4.1, b3_2, b4.2.1) hv11) [(5, .bp 35000 0), (95, .bool true), (97, .int .i64 v0_10)] [(35000, .box 71 (.int .i64 (1 + (shape.1 % 4)) :: (.int .i64 (1 + (shape.2 % 4)) :: (cellsX T63 b4.1 ++ (cellsX T65 b3_2 ++ (cellsX T69 b4.2.1))))))] ?_
          refine zS 3 [(5, .bp 35000 0), (100, .bool (decide (v0_10 = 0)))] [(35000, .box 71 (.int .i64 (1 + (shape.1 % 4)) :: (.int .i64 (1 + (shape.2 % 4)) :: (cellsX T63 b4.1 ++ (cellsX T65 b3_2 ++ (cellsX T69 b4.2.1))))))] ?_
          rcases zI h with ⟨hb12, h⟩ | ⟨hb12, h⟩
          ·refine zS 1 [(100, .bool true), (101, .bp 35000 0)] [(35000, .box 71 (.int .i64 (1 + (shape.1 % 4)) :: (.int .i64 (1 + (shape.2 % 4)) :: (cellsX T63 b4.1 ++ (cellsX T65 b3_2 ++ (cellsX T69 b4.2.1))))))] ?_
           obtain ⟨v0_11, hv13, h⟩ := Option.bind_eq_some_iff.1 h
           refine zG [] [(1000, 35000)] (hc_hazard_Yard_Held ((1 + (shape.1 % 4)), (1 + (shape.2 % 4)), b4.1, b3_2, b4.2.1) hv13) [(100, .bool true), (102, .own 112000)] [(112000, .arr 3 (.int .i64) v0_11)] ?_
           refine zS 4 [(106, .bool (decide ((v0_11.length : Int) = 0)))] [] ?_
           rcases zI h with ⟨hb14, h⟩ | ⟨hb14, h⟩
           ·refine zT [(106, .bool true)] [] gt ?_
            obtain ⟨v0_12, hv15, h⟩ := Option.bind_eq_some_iff.1 h
            refine zG [] [] (hc_lineallaw06_Sane hv15) [(106, .bool true), (107, .bool v0_12)] [] ?_
            refine zB [(4, .bool v0_12)] [] ?_
            refine AW.ret ?_
            obtain rfl := Option.some.inj h
            exact zR [] [] []
           ·refine zB [(4, .bool false)] [] ?_
            refine AW.ret ?_
            obtain rfl := Option.some.inj h
            exact zR [] [] []
          ·refine zS 4 [(100, .bool false), (104, .cv (undef))] [] ?_
           refine zB [(4, .bool false)] [] ?_
           refine AW.ret ?_
           obtain rfl := Option.some.inj h
           exact zR [] [] []
         ·refine zS 5 [(5, .bp 35000 0), (100, .bool false)] [(35000, .box 71 (.int .i64 (1 + (shape.1 % 4)) :: (.int .i64 (1 + (shape.2 % 4)) :: (cellsX T63 b4.1 ++ (cellsX T65 b3_2 ++ (cellsX T69 b4.2.1))))))] ?_
          refine zS 4 [(100, .bool false), (104, .cv (undef))] [] ?_
          refine zB [(4, .bool false)] [] ?_
          refine AW.ret ?_
          obtain rfl := Option.some.inj h
          exact zR [] [] []
       ·refine AW.seq ?_
        refine zo ?_
        refine zB [(5, .bp 35000 0), (6, .int .i64 (1 + (shape.1 % 4))), (14, .int .i64 0), (15, .int .i64 v0_8), (16, .int .i64 0)] [(35000, .box 71 (.int .i64 (1 + (shape.1 % 4)) :: (.int .i64 (1 + (shape.2 % 4)) :: (cellsX T63 b1.1 ++ (cellsX T65 b3_2 ++ (cellsX T69 b1.2))))))] ?_
        refine AW.block ?_
        obtain ⟨rv20, hw16, ho17⟩ := Option.bind_eq_some_iff.1 h
        refine AW.loopO (lineallaw06_HazardEnds_b4 shape b3_2) (fun st4 => ⟨fr [(5, .bp 35000 0), (6, .int .i64 (1 + (shape.1 % 4))), (14, .int .i64 st4.2.2.1), (15, .int .i64 v0_8), (16, .int .i64 st4.2.2.2)], hpGet [(35000, .box 71 (.int .i64 (1 + (shape.1 % 4)) :: (.int .i64 (1 + (shape.2 % 4)) :: (cellsX T63 st4.1 ++ (cellsX T65 b3_2 ++ (cellsX T69 st4.2.1))))))], gt⟩) (b1.1, b1.2, 0, 0) hw16 (zL [] [] []) ?_
        as_aux_lemma =>
         intro st4 x19 h hd18
         unfold lineallaw06_HazardEnds_b4 at h
         refine AW.seq ?_
         refine zo ?_
         refine zB [(5, .bp 35000 0), (6, .int .i64 (1 + (shape.1 % 4))), (14, .int .i64 st4.2.2.1), (15, .int .i64 v0_8), (16, .int .i64 st4.2.2.2), (78, .bool (decide (st4.2.2.2 < (1 + (shape.1 % 4)))))] [(35000, .box 71 (.int .i64 (1 + (shape.1 % 4)) :: (.int .i64 (1 + (shape.2 % 4)) :: (cellsX T63 st4.1 ++ (cellsX T65 b3_2 ++ (cellsX T69 st4.2.1))))))] ?_
         refine zQ h (fun hb21 h => ?_) (fun hb21 h => ?_)
         ·refine zk ?_
          refine AW.seq ?_
          refine AW.block ?_
          refine zo ?_
          refine zS 2 [(5, .bp 35000 0), (6, .int .i64 (1 + (shape.1 % 4))), (14, .int .i64 st4.2.2.1), (15, .int .i64 v0_8), (16, .int .i64 st4.2.2.2), (82, .bp 35000 0), (83, .int .i64 st4.2.2.2)] [(35000, .box 71 (.int .i64 (1 + (shape.1 % 4)) :: (.int .i64 (1 + (shape.2 % 4)) :: (cellsX T63 st4.1 ++ (cellsX T65 b3_2 ++ (cellsX T69 st4.2.1))))))] ?_
          obtain ⟨v0_9, hv22, h⟩ := Option.bind_eq_some_iff.1 h
          refine zC [] [(1000, 35000)] (hc_hazard_Yard_Sweep st4.2.2.2 ((1 + (shape.1 % 4)), (1 + (shape.2 % 4)), st4.1, b3_2, st4.2.1) hv22) [(5, .bp 35000 0), (6, .int .i64 (1 + (shape.1 % 4))), (14, .int .i64 st4.2.2.1), (15, .int .i64 v0_8), (16, .int .i64 st4.2.2.2), (84, .tup [.int .i64 v0_9.1, .int .i64 v0_9.2.1])] [(35000, .box 71 (.int .i64 (1 + (shape.1 % 4)) :: (.int .i64 (1 + (shape.2 % 4)) :: (cellsX T63 v0_9.2.2.1 ++ (cellsX T65 b3_2 ++ (cellsX T69 v0_9.2.2.2))))))] ?_
          refine zB [(5, .bp 35000 0), (6, .int .i64 (1 + (shape.1 % 4))), (14, .int .i64 st4.2.2.1), (15, .int .i64 v0_8), (16, .int .i64 st4.2.2.2), (17, .int .i64 v0_9.1), (18, .int .i64 v0_9.2.1)] [(35000, .box 71 (.int .i64 (1 + (shape.1 % 4)) :: (.int .i64 (1 + (shape.2 % 4)) :: (cellsX T63 v0_9.2.2.1 ++ (cellsX T65 b3_2 ++ (cellsX T69 v0_9.2.2.2))))))] ?_
          refine AW.seq ?_
          refine zo ?_
          refine zB [(5, .bp 35000 0), (6, .int .i64 (1 + (shape.1 % 4))), (14, .int .i64 st4.2.2.1), (15, .int .i64 v0_8), (16, .int .i64 st4.2.2.2), (17, .int .i64 v0_9.1), (88, .bool (!(decide (v0_9.2.1 = 0))))] [(35000, .box 71 (.int .i64 (1 + (shape.1 % 4)) :: (.int .i64 (1 + (shape.2 % 4)) :: (cellsX T63 v0_9.2.2.1 ++ (cellsX T65 b3_2 ++ (cellsX T69 v0_9.2.2.2))))))] ?_
          refine zQ h (fun hb23 h => ?_) (fun hb23 h => ?_)
          ·refine zo ?_
           refine zB [(4, .bool false)] [] ?_
           refine zr ?_
           refine ablock_r ?_
           refine athen_r ?_
           obtain rfl := Option.some.inj h
           try rw [← hd18 _ rfl] at ho17
           have h := ho17
           try simp only at h
           refine athen_r ?_
           refine ablock_r ?_
           refine athen_r ?_
           obtain rfl := Option.some.inj h
           exact zR [] [] []
          ·refine zk ?_
           refine AW.ops ?_
           obtain ⟨c24, h⟩ := ck_some.1 h
           refine zA [(5, .bp 35000 0), (6, .int .i64 (1 + (shape.1 % 4))), (14, .int .i64 (st4.2.2.1 + v0_9.1)), (15, .int .i64 v0_8), (16, .int .i64 st4.2.2.2)] [(35000, .box 71 (.int .i64 (1 + (shape.1 % 4)) :: (.int .i64 (1 + (shape.2 % 4)) :: (cellsX T63 v0_9.2.2.1 ++ (cellsX T65 b3_2 ++ (cellsX T69 v0_9.2.2.2))))))] ?_
           refine ablock_n ?_
           refine athen_n ?_
           refine AW.ops ?_
           obtain ⟨c25, h⟩ := ck_some.1 h
           refine zA [(5, .bp 35000 0), (6, .int .i64 (1 + (shape.1 % 4))), (14, .int .i64 (st4.2.2.1 + v0_9.1)), (15, .int .i64 v0_8), (16, .int .i64 (st4.2.2.2 + 1))] [(35000, .box 71 (.int .i64 (1 + (shape.1 % 4)) :: (.int .i64 (1 + (shape.2 % 4)) :: (cellsX T63 v0_9.2.2.1 ++ (cellsX T65 b3_2 ++ (cellsX T69 v0_9.2.2.2))))))] ?_
           obtain rfl := Option.some.inj h
           exact ⟨_, rfl, zL [] [] []⟩
         ·refine AW.exit ?_
          refine athen_e ?_
          obtain rfl := Option.some.inj h
          rw [← hd18 _ rfl] at ho17
          have h := ho17
          try simp only at h
          refine athen_e ?_
          refine ablock_s ?_
          refine athen_n ?_
          exact AW.weaken (zL [] [] []) (hk_lineallaw06_HazardEnds_k4 _ h)
     ·refine AW.seq ?_
      refine zo ?_
      refine zB [(5, .bp 35000 0), (6, .int .i64 (1 + (shape.1 % 4))), (12, .int .i64 0)] [(35000, .box 71 (.int .i64 (1 + (shape.1 % 4)) :: (.int .i64 (1 + (shape.2 % 4)) :: (cellsX T63 b1.1 ++ (cellsX T65 v0_4.2.1 ++ (cellsX T69 b1.2))))))] ?_
      refine AW.block ?_
      obtain ⟨rv30, hw26, ho27⟩ := Option.bind_eq_some_iff.1 h
      refine AW.loopO (lineallaw06_HazardEnds_b2 shape b1) (fun st2 => ⟨fr [(5, .bp 35000 0), (6, .int .i64 (1 + (shape.1 % 4))), (12, .int .i64 st2.2)], hpGet [(35000, .box 71 (.int .i64 (1 + (shape.1 % 4)) :: (.int .i64 (1 + (shape.2 % 4)) :: (cellsX T63 b1.1 ++ (cellsX T65 st2.1 ++ (cellsX T69 b1.2))))))], gt⟩) (v0_4.2.1, 0) hw26 (zL [] [] []) ?_
      as_aux_lemma =>
       intro st2 x29 h hd28
       unfold lineallaw06_HazardEnds_b2 at h
       refine AW.seq ?_
       refine zo ?_
       refine zB [(5, .bp 35000 0), (6, .int .i64 (1 + (shape.1 % 4))), (12, .int .i64 st2.2), (62, .bool (decide (st2.2 < (1 + (shape.1 % 4)))))] [(35000, .box 71 (.int .i64 (1 + (shape.1 % 4)) :: (.int .i64 (1 + (shape.2 % 4)) :: (cellsX T63 b1.1 ++ (cellsX T65 st2.1 ++ (cellsX T69 b1.2))))))] ?_
       refine zQ h (fun hb31 h => ?_) (fun hb31 h => ?_)
       ·refine zk ?_
        refine AW.have1 (fun b3 : (El T65) => lineallaw06_HazardEnds_k3 st2 b3 = some x29) (fun b3 => ⟨fr [(5, .bp 35000 0), (6, .int .i64 (1 + (shape.1 % 4))), (12, .int .i64 st2.2)], hpGet [(35000, .box 71 (.int .i64 (1 + (shape.1 % 4)) :: (.int .i64 (1 + (shape.2 % 4)) :: (cellsX T63 b1.1 ++ (cellsX T65 b3 ++ (cellsX T69 b1.2))))))], gt⟩) (fun b3 h => ?_) (fun hk_lineallaw06_HazardEnds_k3 => ?_)
        ·as_aux_lemma =>
          unfold lineallaw06_HazardEnds_k3 at h
          refine AW.ops ?_
          obtain ⟨c32, h⟩ := ck_some.1 h
          refine zA [(5, .bp 35000 0), (6, .int .i64 (1 + (shape.1 % 4))), (12, .int .i64 (st2.2 + 1))] [(35000, .box 71 (.int .i64 (1 + (shape.1 % 4)) :: (.int .i64 (1 + (shape.2 % 4)) :: (cellsX T63 b1.1 ++ (cellsX T65 b3 ++ (cellsX T69 b1.2))))))] ?_
          obtain rfl := Option.some.inj h
          exact ⟨_, rfl, zL [] [] []⟩
        ·refine AW.seq ?_
         refine AW.block ?_
         refine zo ?_
         refine zB [(5, .bp 35000 0), (6, .int .i64 (1 + (shape.1 % 4))), (12, .int .i64 st2.2), (13, .int .i64 0)] [(35000, .box 71 (.int .i64 (1 + (shape.1 % 4)) :: (.int .i64 (1 + (shape.2 % 4)) :: (cellsX T63 b1.1 ++ (cellsX T65 st2.1 ++ (cellsX T69 b1.2))))))] ?_
         refine AW.block ?_
         obtain ⟨rv37, hw33, ho34⟩ := Option.bind_eq_some_iff.1 h
         refine AW.loopO (lineallaw06_HazardEnds_b3 shape b1 st2) (fun st3 => ⟨fr [(5, .bp 35000 0), (6, .int .i64 (1 + (shape.1 % 4))), (12, .int .i64 st2.2), (13, .int .i64 st3.2)], hpGet [(35000, .box 71 (.int .i64 (1 + (shape.1 % 4)) :: (.int .i64 (1 + (shape.2 % 4)) :: (cellsX T63 b1.1 ++ (cellsX T65 st3.1 ++ (cellsX T69 b1.2))))))], gt⟩) (st2.1, 0) hw33 (zL [] [] []) ?_
         as_aux_lemma =>
          intro st3 x36 h hd35
          unfold lineallaw06_HazardEnds_b3 at h
          refine AW.seq ?_
          refine zo ?_
          refine zB [(5, .bp 35000 0), (6, .int .i64 (1 + (shape.1 % 4))), (12, .int .i64 st2.2), (13, .int .i64 st3.2), (66, .bool (decide (st3.2 < 2)))] [(35000, .box 71 (.int .i64 (1 + (shape.1 % 4)) :: (.int .i64 (1 + (shape.2 % 4)) :: (cellsX T63 b1.1 ++ (cellsX T65 st3.1 ++ (cellsX T69 b1.2))))))] ?_
          refine zQ h (fun hb38 h => ?_) (fun hb38 h => ?_)
          ·refine zk ?_
           refine AW.seq ?_
           refine AW.block ?_
           refine zo ?_
           refine zS 3 [(5, .bp 35000 0), (6, .int .i64 (1 + (shape.1 % 4))), (12, .int .i64 st2.2), (13, .int .i64 st3.2), (69, .bp 35000 0), (70, .int .i64 st2.2), (71, .int .i64 st3.2)] [(35000, .box 71 (.int .i64 (1 + (shape.1 % 4)) :: (.int .i64 (1 + (shape.2 % 4)) :: (cellsX T63 b1.1 ++ (cellsX T65 st3.1 ++ (cellsX T69 b1.2))))))] ?_
           obtain ⟨v0_7, hv39, h⟩ := Option.bind_eq_some_iff.1 h
           refine zC [] [(1000, 35000)] (hc_hazard_Yard_Clear st2.2 st3.2 ((1 + (shape.1 % 4)), (1 + (shape.2 % 4)), b1.1, st3.1, b1.2) hv39) [(5, .bp 35000 0), (6, .int .i64 (1 + (shape.1 % 4))), (12, .int .i64 st2.2), (13, .int .i64 st3.2), (72, .int .i64 v0_7.1)] [(35000, .box 71 (.int .i64 (1 + (shape.1 % 4)) :: (.int .i64 (1 + (shape.2 % 4)) :: (cellsX T63 b1.1 ++ (cellsX T65 v0_7.2 ++ (cellsX T69 b1.2))))))] ?_
           refine zB [(5, .bp 35000 0), (6, .int .i64 (1 + (shape.1 % 4))), (12, .int .i64 st2.2), (13, .int .i64 st3.2), (73, .bool (!(decide (v0_7.1 = 0))))] [(35000, .box 71 (.int .i64 (1 + (shape.1 % 4)) :: (.int .i64 (1 + (shape.2 % 4)) :: (cellsX T63 b1.1 ++ (cellsX T65 v0_7.2 ++ (cellsX T69 b1.2))))))] ?_
           refine zQ h (fun hb40 h => ?_) (fun hb40 h => ?_)
           ·refine zo ?_
            refine zB [(4, .bool false)] [] ?_
            refine AW.ret ?_
            refine ablock_r ?_
            refine athen_r ?_
            obtain rfl := Option.some.inj h
            try rw [← hd35 _ rfl] at ho34
            have h := ho34
            try simp only at h
            refine athen_r ?_
            refine ablock_r ?_
            refine ablock_r ?_
            refine athen_r ?_
            obtain rfl := Option.some.inj h
            try rw [← hd28 _ rfl] at ho27
            have h := ho27
            try simp only at h
            refine athen_r ?_
            refine ablock_r ?_
            refine athen_r ?_
            obtain rfl := Option.some.inj h
            exact zR [] [] []
           ·refine zm ?_
            refine athen_n ?_
            refine AW.ops ?_
            obtain ⟨c41, h⟩ := ck_some.1 h
            refine zA [(5, .bp 35000 0), (6, .int .i64 (1 + (shape.1 % 4))), (12, .int .i64 st2.2), (13, .int .i64 (st3.2 + 1))] [(35000, .box 71 (.int .i64 (1 + (shape.1 % 4)) :: (.int .i64 (1 + (shape.2 % 4)) :: (cellsX T63 b1.1 ++ (cellsX T65 v0_7.2 ++ (cellsX T69 b1.2))))))] ?_
            obtain rfl := Option.some.inj h
            exact ⟨_, rfl, zL [] [] []⟩
          ·refine AW.exit ?_
           refine athen_e ?_
           obtain rfl := Option.some.inj h
           rw [← hd35 _ rfl] at ho34
           have h := ho34
           try simp only at h
           refine athen_e ?_
           refine ablock_s ?_
           refine ablock_n ?_
           refine athen_n ?_
           exact AW.weaken (zL [] [] []) (hk_lineallaw06_HazardEnds_k3 _ h)
       ·refine AW.exit ?_
        refine athen_e ?_
        obtain rfl := Option.some.inj h
        rw [← hd28 _ rfl] at ho27
        have h := ho27
        try simp only at h
        refine athen_e ?_
        refine ablock_s ?_
        refine athen_n ?_
        exact AW.weaken (zL [] [] []) (hk_lineallaw06_HazardEnds_k2 _ h)
   ·refine AW.seq ?_
    refine zo ?_
    refine zB [(5, .bp 35000 0), (6, .int .i64 (1 + (shape.1 % 4))), (7, .int .i64 0)] [(35000, .box 71 (.int .i64 (1 + (shape.1 % 4)) :: (.int .i64 (1 + (shape.2 % 4)) :: (cellsX T63 v0_4.1 ++ (cellsX T65 v0_4.2.1 ++ (cellsX T69 v0_4.2.2))))))] ?_
    refine AW.block ?_
    obtain ⟨rv46, hw42, ho43⟩ := Option.bind_eq_some_iff.1 h
    refine AW.loopO (lineallaw06_HazardEnds_b1 shape v0_4) (fun st1 => ⟨fr [(5, .bp 35000 0), (6, .int .i64 (1 + (shape.1 % 4))), (7, .int .i64 st1.2.2)], hpGet [(35000, .box 71 (.int .i64 (1 + (shape.1 % 4)) :: (.int .i64 (1 + (shape.2 % 4)) :: (cellsX T63 st1.1 ++ (cellsX T65 v0_4.2.1 ++ (cellsX T69 st1.2.1))))))], gt⟩) (v0_4.1, v0_4.2.2, 0) hw42 (zL [] [] []) ?_
    as_aux_lemma =>
     intro st1 x45 h hd44
     unfold lineallaw06_HazardEnds_b1 at h
     refine AW.seq ?_
     refine zo ?_
     refine zB [(5, .bp 35000 0), (6, .int .i64 (1 + (shape.1 % 4))), (7, .int .i64 st1.2.2), (35, .bool (decide (st1.2.2 < (1 + (shape.1 % 4)))))] [(35000, .box 71 (.int .i64 (1 + (shape.1 % 4)) :: (.int .i64 (1 + (shape.2 % 4)) :: (cellsX T63 st1.1 ++ (cellsX T65 v0_4.2.1 ++ (cellsX T69 st1.2.1))))))] ?_
     refine zQ h (fun hb47 h => ?_) (fun hb47 h => ?_)
     ·refine zk ?_
      refine AW.seq ?_
      refine AW.block ?_
      refine zo ?_
      refine zS 2 [(5, .bp 35000 0), (6, .int .i64 (1 + (shape.1 % 4))), (7, .int .i64 st1.2.2), (39, .bp 35000 0), (40, .int .i64 st1.2.2)] [(35000, .box 71 (.int .i64 (1 + (shape.1 % 4)) :: (.int .i64 (1 + (shape.2 % 4)) :: (cellsX T63 st1.1 ++ (cellsX T65 v0_4.2.1 ++ (cellsX T69 st1.2.1))))))] ?_
      obtain ⟨v0_5, hv48, h⟩ := Option.bind_eq_some_iff.1 h
      refine zC [] [(1000, 35000)] (hc_hazard_Yard_Sweep st1.2.2 ((1 + (shape.1 % 4)), (1 + (shape.2 % 4)), st1.1, v0_4.2.1, st1.2.1) hv48) [(5, .bp 35000 0), (6, .int .i64 (1 + (shape.1 % 4))), (7, .int .i64 st1.2.2), (41, .tup [.int .i64 v0_5.1, .int .i64 v0_5.2.1])] [(35000, .box 71 (.int .i64 (1 + (shape.1 % 4)) :: (.int .i64 (1 + (shape.2 % 4)) :: (cellsX T63 v0_5.2.2.1 ++ (cellsX T65 v0_4.2.1 ++ (cellsX T69 v0_5.2.2.2))))))] ?_
      refine zB [(5, .bp 35000 0), (6, .int .i64 (1 + (shape.1 % 4))), (7, .int .i64 st1.2.2), (9, .int .i64 v0_5.2.1)] [(35000, .box 71 (.int .i64 (1 + (shape.1 % 4)) :: (.int .i64 (1 + (shape.2 % 4)) :: (cellsX T63 v0_5.2.2.1 ++ (cellsX T65 v0_4.2.1 ++ (cellsX T69 v0_5.2.2.2))))))] ?_
      refine zo ?_
      refine zS 2 [(5, .bp 35000 0), (6, .int .i64 (1 + (shape.1 % 4))), (7, .int .i64 st1.2.2), (9, .int .i64 v0_5.2.1), (45, .bp 35000 0), (46, .int .i64 st1.2.2)] [(35000, .box 71 (.int .i64 (1 + (shape.1 % 4)) :: (.int .i64 (1 + (shape.2 % 4)) :: (cellsX T63 v0_5.2.2.1 ++ (cellsX T65 v0_4.2.1 ++ (cellsX T69 v0_5.2.2.2))))))] ?_
      obtain ⟨v0_6, hv49, h⟩ := Option.bind_eq_some_iff.1 h
      refine zC [] [(1000, 35000)] (hc_hazard_Yard_Sweep st1.2.2 ((1 + (shape.1 % 4)), (1 + (shape.2 % 4)), v0_5.2.2.1, v0_4.2.1, v0_5.2.2.2) hv49) [(5, .bp 35000 0), (6, .int .i64 (1 + (shape.1 % 4))), (7, .int .i64 st1.2.2), (9, .int .i64 v0_5.2.1), (47, .tup [.int .i64 v0_6.1, .int .i64 v0_6.2.1])] [(35000, .box 71 (.int .i64 (1 + (shape.1 % 4)) :: (.int .i64 (1 + (shape.2 % 4)) :: (cellsX T63 v0_6.2.2.1 ++ (cellsX T65 v0_4.2.1 ++ (cellsX T69 v0_6.2.2.2))))))] ?_
      refine zB [(5, .bp 35000 0), (6, .int .i64 (1 + (shape.1 % 4))), (7, .int .i64 st1.2.2), (9, .int .i64 v0_5.2.1), (10, .int .i64 v0_6.1), (11, .int .i64 v0_6.2.1)] [(35000, .box 71 (.int .i64 (1 + (shape.1 % 4)) :: (.int .i64 (1 + (shape.2 % 4)) :: (cellsX T63 v0_6.2.2.1 ++ (cellsX T65 v0_4.2.1 ++ (cellsX T69 v0_6.2.2.2))))))] ?_
      refine zo ?_
      refine zS 3 [(5, .bp 35000 0), (6, .int .i64 (1 + (shape.1 % 4))), (7, .int .i64 st1.2.2), (10, .int .i64 v0_6.1), (11, .int .i64 v0_6.2.1), (52, .bool (!(decide (v0_5.2.1 = 0))))] [(35000, .box 71 (.int .i64 (1 + (shape.1 % 4)) :: (.int .i64 (1 + (shape.2 % 4)) :: (cellsX T63 v0_6.2.2.1 ++ (cellsX T65 v0_4.2.1 ++ (cellsX T69 v0_6.2.2.2))))))] ?_
      rcases zI h with ⟨hb50, h⟩ | ⟨hb50, h⟩
      ·refine zS 5 [(5, .bp 35000 0), (6, .int .i64 (1 + (shape.1 % 4))), (7, .int .i64 st1.2.2), (56, .bool true), (57, .cv (undef))] [(35000, .box 71 (.int .i64 (1 + (shape.1 % 4)) :: (.int .i64 (1 + (shape.2 % 4)) :: (cellsX T63 v0_6.2.2.1 ++ (cellsX T65 v0_4.2.1 ++ (cellsX T69 v0_6.2.2.2))))))] ?_
       refine zB [(5, .bp 35000 0), (6, .int .i64 (1 + (shape.1 % 4))), (7, .int .i64 st1.2.2), (59, .bool true)] [(35000, .box 71 (.int .i64 (1 + (shape.1 % 4)) :: (.int .i64 (1 + (shape.2 % 4)) :: (cellsX T63 v0_6.2.2.1 ++ (cellsX T65 v0_4.2.1 ++ (cellsX T69 v0_6.2.2.2))))))] ?_
       refine AW.cond (b := true) rfl (fun _ => ?_) (fun hb51 => by cases hb51)
       refine zo ?_
       refine zB [(4, .bool false)] [] ?_
       refine AW.ret ?_
       refine ablock_r ?_
       refine athen_r ?_
       obtain rfl := Option.some.inj h
       try rw [← hd44 _ rfl] at ho43
       have h := ho43
       try simp only at h
       refine athen_r ?_
       refine ablock_r ?_
       refine athen_r ?_
       obtain rfl := Option.some.inj h
       exact zR [] [] []
      ·refine zS 4 [(5, .bp 35000 0), (6, .int .i64 (1 + (shape.1 % 4))), (7, .int .i64 st1.2.2), (10, .int .i64 v0_6.1), (56, .bool (!(decide (v0_6.2.1 = 0))))] [(35000, .box 71 (.int .i64 (1 + (shape.1 % 4)) :: (.int .i64 (1 + (shape.2 % 4)) :: (cellsX T63 v0_6.2.2.1 ++ (cellsX T65 v0_4.2.1 ++ (cellsX T69 v0_6.2.2.2))))))] ?_
       rcases zI h with ⟨hb52, h⟩ | ⟨hb52, h⟩
       ·refine zB [(5, .bp 35000 0), (6, .int .i64 (1 + (shape.1 % 4))), (7, .int .i64 st1.2.2), (59, .bool true)] [(35000, .box 71 (.int .i64 (1 + (shape.1 % 4)) :: (.int .i64 (1 + (shape.2 % 4)) :: (cellsX T63 v0_6.2.2.1 ++ (cellsX T65 v0_4.2.1 ++ (cellsX T69 v0_6.2.2.2))))))] ?_
        refine AW.cond (b := true) rfl (fun _ => ?_) (fun hb53 => by cases hb53)
        refine zo ?_
        refine zB [(4, .bool false)] [] ?_
        refine AW.ret ?_
        refine ablock_r ?_
        refine athen_r ?_
        obtain rfl := Option.some.inj h
        try rw [← hd44 _ rfl] at ho43
        have h := ho43
        try simp only at h
        refine athen_r ?_
        refine ablock_r ?_
        refine athen_r ?_
        obtain rfl := Option.some.inj h
        exact zR [] [] []
       ·refine zB [(5, .bp 35000 0), (6, .int .i64 (1 + (shape.1 % 4))), (7, .int .i64 st1.2.2), (59, .bool (!(decide (v0_6.1 = 0))))] [(35000, .box 71 (.int .i64 (1 + (shape.1 % 4)) :: (.int .i64 (1 + (shape.2 % 4)) :: (cellsX T63 v0_6.2.2.1 ++ (cellsX T65 v0_4.2.1 ++ (cellsX T69 v0_6.2.2.2))))))] ?_
        refine zQ h (fun hb54 h => ?_) (fun hb54 h => ?_)
        ·refine zo ?_
         refine zB [(4, .bool false)] [] ?_
         refine AW.ret ?_
         refine ablock_r ?_
         refine athen_r ?_
         obtain rfl := Option.some.inj h
         try rw [← hd44 _ rfl] at ho43
         have h := ho43
         try simp only at h
         refine athen_r ?_
         refine ablock_r ?_
         refine athen_r ?_
         obtain rfl := Option.some.inj h
         exact zR [] [] []
        ·refine zm ?_
         refine athen_n ?_
         refine AW.ops ?_
         obtain ⟨c55, h⟩ := ck_some.1 h
         refine zA [(5, .bp 35000 0), (6, .int .i64 (1 + (shape.1 % 4))), (7, .int .i64 (st1.2.2 + 1))] [(35000, .box 71 (.int .i64 (1 + (shape.1 % 4)) :: (.int .i64 (1 + (shape.2 % 4)) :: (cellsX T63 v0_6.2.2.1 ++ (cellsX T65 v0_4.2.1 ++ (cellsX T69 v0_6.2.2.2))))))] ?_
         obtain rfl := Option.some.inj h
         exact ⟨_, rfl, zL [] [] []⟩
     ·refine AW.exit ?_
      refine athen_e ?_
      obtain rfl := Option.some.inj h
      rw [← hd44 _ rfl] at ho43
      have h := ho43
      try simp only at h
      refine athen_e ?_
      refine ablock_s ?_
      refine athen_n ?_
      exact AW.weaken (zL [] [] []) (hk_lineallaw06_HazardEnds_k1 _ h)

end Go.Proofs.YtcckpmeepcoafaaDoor
