/-
  Made by wip/tool/dc.py out of the print of the program: contracts.
-/
import Derived.Test.YtcckpmeepcoafaaDoorHzp
import Derived.Test.YtcckpmeepcoafaaDoorShz
import Derived.Test.YtcckpmeepcoafaaDoorHic6
import Derived.Test.YtcckpmeepcoafaaDoorHic7
import Derived.Test.YtcckpmeepcoafaaDoorHic8
namespace Go.Proofs.YtcckpmeepcoafaaDoor
open Go.RowKit

set_option linter.unusedSimpArgs false
set_option linter.unusedVariables false
set_option linter.constructorNameAsVariable false

set_option maxRecDepth 100000
set_option maxHeartbeats 40000000

theorem hc_lineallaw06_HazardCopies (shape : Int × Int) (deeds : List (Int × Int × Int × Int)) (more : List (Int × Int × Int × Int)) {r : Bool} (h : lineallaw06_HazardCopies shape deeds more = some r) : HC Tryd.prog 9 [] [.agg [.int .u8 shape.1, .int .u8 shape.2], .sl (.pair (.int .i64) (.pair (.int .i64) (.pair (.int .i64) (.int .i64)))) deeds, .sl (.pair (.int .i64) (.pair (.int .i64) (.pair (.int .i64) (.int .i64)))) more] [] (.bool r) := by
 unfold lineallaw06_HazardCopies at h
 refine zH Tryd.func9 [.tmp 6] 96 ?_
 refine zo ?_
 refine zB [(1, .sl (.pair (.int .i64) (.pair (.int .i64) (.pair (.int .i64) (.int .i64)))) deeds), (2, .sl (.pair (.int .i64) (.pair (.int .i64) (.pair (.int .i64) (.int .i64)))) more), (3, .bp 3 0)] [(3, .box 55 [.int .u8 shape.1, .int .u8 shape.2])] ?_
 refine AW.seq ?_
 refine zo ?_
 refine zS 4 [(1, .sl (.pair (.int .i64) (.pair (.int .i64) (.pair (.int .i64) (.int .i64)))) deeds), (2, .sl (.pair (.int .i64) (.pair (.int .i64) (.pair (.int .i64) (.int .i64)))) more), (3, .bp 3 0), (18, .bool (decide (100 < (deeds.length : Int))))] [(3, .box 55 [.int .u8 shape.1, .int .u8 shape.2])] ?_
 rcases zI h with ⟨hb1, h⟩ | ⟨hb1, h⟩
 ·refine zB [(1, .sl (.pair (.int .i64) (.pair (.int .i64) (.pair (.int .i64) (.int .i64)))) deeds), (2, .sl (.pair (.int .i64) (.pair (.int .i64) (.pair (.int .i64) (.int .i64)))) more), (3, .bp 3 0), (22, .bool true)] [(3, .box 55 [.int .u8 shape.1, .int .u8 shape.2])] ?_
  refine AW.cond (b := true) rfl (fun _ => ?_) (fun hb2 => by cases hb2)
  refine zo ?_
  obtain ⟨v0, hv3, h⟩ := Option.bind_eq_some_iff.1 h
  refine zC [] [] (hc_lineallaw06_Sane hv3) [(23, .bool v0)] [] ?_
  refine zB [(6, .bool v0)] [] ?_
  refine zr ?_
  obtain rfl := Option.some.inj h
  exact zR [] [] []
 ·refine zB [(1, .sl (.pair (.int .i64) (.pair (.int .i64) (.pair (.int .i64) (.int .i64)))) deeds), (2, .sl (.pair (.int .i64) (.pair (.int .i64) (.pair (.int .i64) (.int .i64)))) more), (3, .bp 3 0), (22, .bool (decide (100 < (more.length : Int))))] [(3, .box 55 [.int .u8 shape.1, .int .u8 shape.2])] ?_
  refine zQ h (fun hb4 h => ?_) (fun hb4 h => ?_)
  ·refine zo ?_
   obtain ⟨v0_2, hv5, h⟩ := Option.bind_eq_some_iff.1 h
   refine zC [] [] (hc_lineallaw06_Sane hv5) [(23, .bool v0_2)] [] ?_
   refine zB [(6, .bool v0_2)] [] ?_
   refine zr ?_
   obtain rfl := Option.some.inj h
   exact zR [] [] []
  ·refine zk ?_
   refine zo ?_
   refine zS 2 [(1, .sl (.pair (.int .i64) (.pair (.int .i64) (.pair (.int .i64) (.int .i64)))) deeds), (2, .sl (.pair (.int .i64) (.pair (.int .i64) (.pair (.int .i64) (.int .i64)))) more), (3, .bp 3 0), (24, .agg [.int .u8 shape.1, .int .u8 shape.2]), (25, .sl (.pair (.int .i64) (.pair (.int .i64) (.pair (.int .i64) (.int .i64)))) deeds)] [(3, .box 55 [.int .u8 shape.1, .int .u8 shape.2])] ?_
   obtain ⟨v0_3, hv6, h⟩ := Option.bind_eq_some_iff.1 h
   rcases v0_3 with v0_4 | v0_5
   ·try simp only at h
    refine zC [] [] (hc_lineallaw06_done_a0 shape deeds hv6) [(1, .sl (.pair (.int .i64) (.pair (.int .i64) (.pair (.int .i64) (.int .i64)))) deeds), (2, .sl (.pair (.int .i64) (.pair (.int .i64) (.pair (.int .i64) (.int .i64)))) more), (3, .bp 3 0), (26, .cv (.pointer none))] [(3, .box 55 [.int .u8 shape.1, .int .u8 shape.2])] ?_
    refine zB [(1, .sl (.pair (.int .i64) (.pair (.int .i64) (.pair (.int .i64) (.int .i64)))) deeds), (2, .sl (.pair (.int .i64) (.pair (.int .i64) (.pair (.int .i64) (.int .i64)))) more), (3, .bp 3 0), (7, .cv (.pointer none))] [(3, .box 55 [.int .u8 shape.1, .int .u8 shape.2])] ?_
    refine zo ?_
    refine zS 2 [(2, .sl (.pair (.int .i64) (.pair (.int .i64) (.pair (.int .i64) (.int .i64)))) more), (7, .cv (.pointer none)), (27, .agg [.int .u8 shape.1, .int .u8 shape.2]), (28, .sl (.pair (.int .i64) (.pair (.int .i64) (.pair (.int .i64) (.int .i64)))) deeds)] [] ?_
    obtain ⟨v0_6, hv7, h⟩ := Option.bind_eq_some_iff.1 h
    rcases v0_6 with v0_7 | v0_8
    ·try simp only at h
     refine zC [] [] (hc_lineallaw06_done_a0 shape deeds hv7) [(2, .sl (.pair (.int .i64) (.pair (.int .i64) (.pair (.int .i64) (.int .i64)))) more), (7, .cv (.pointer none)), (29, .cv (.pointer none))] [] ?_
     refine zB [(2, .sl (.pair (.int .i64) (.pair (.int .i64) (.pair (.int .i64) (.int .i64)))) more), (7, .cv (.pointer none)), (8, .cv (.pointer none))] [] ?_
     refine AW.seq ?_
     refine zo ?_
     refine zS 1 [(2, .sl (.pair (.int .i64) (.pair (.int .i64) (.pair (.int .i64) (.int .i64)))) more), (7, .cv (.pointer none)), (8, .cv (.pointer none)), (30, .cv (.pointer none))] [] ?_
     refine AO.ptrNil (neg := false) (p := true) (by decide) (.inl rfl) (by kernel_rfl) rfl rfl rfl ?_
     refine zT [(2, .sl (.pair (.int .i64) (.pair (.int .i64) (.pair (.int .i64) (.int .i64)))) more), (7, .cv (.pointer none)), (8, .cv (.pointer none)), (31, .bool true)] [] gt ?_
     refine zS 5 [(2, .sl (.pair (.int .i64) (.pair (.int .i64) (.pair (.int .i64) (.int .i64)))) more), (7, .cv (.pointer none)), (8, .cv (.pointer none)), (36, .bool true)] [] ?_
     refine zS 4 [(2, .sl (.pair (.int .i64) (.pair (.int .i64) (.pair (.int .i64) (.int .i64)))) more), (7, .cv (.pointer none)), (8, .cv (.pointer none)), (36, .bool true), (40, .cv (undef))] [] ?_
     refine zB [(2, .sl (.pair (.int .i64) (.pair (.int .i64) (.pair (.int .i64) (.int .i64)))) more), (7, .cv (.pointer none)), (8, .cv (.pointer none)), (41, .bool true)] [] ?_
     refine AW.cond (b := true) rfl (fun _ => ?_) (fun hb8 => by cases hb8)
     refine zo ?_
     refine zB [(6, .bool false)] [] ?_
     refine zr ?_
     obtain rfl := Option.some.inj h
     exact zR [] [] []
    ·try simp only at h
     refine zC [] [] (hc_lineallaw06_done_a1 shape deeds hv7) [(2, .sl (.pair (.int .i64) (.pair (.int .i64) (.pair (.int .i64) (.int .i64)))) more), (7, .cv (.pointer none)), (29, .bp 39000 0)] [(39000, .box 71 (.int .i64 (1 + (shape.1 % 4)) :: (.int .i64 (1 + (shape.2 % 4)) :: (cellsX T63 v0_8.1 ++ (cellsX T65 v0_8.2.1 ++ (cellsX T69 v0_8.2.2))))))] ?_
     refine zB [(2, .sl (.pair (.int .i64) (.pair (.int .i64) (.pair (.int .i64) (.int .i64)))) more), (7, .cv (.pointer none)), (8, .bp 39000 0)] [(39000, .box 71 (.int .i64 (1 + (shape.1 % 4)) :: (.int .i64 (1 + (shape.2 % 4)) :: (cellsX T63 v0_8.1 ++ (cellsX T65 v0_8.2.1 ++ (cellsX T69 v0_8.2.2))))))] ?_
     refine AW.seq ?_
     refine zo ?_
     refine zS 1 [(2, .sl (.pair (.int .i64) (.pair (.int .i64) (.pair (.int .i64) (.int .i64)))) more), (7, .cv (.pointer none)), (8, .bp 39000 0), (30, .cv (.pointer none))] [(39000, .box 71 (.int .i64 (1 + (shape.1 % 4)) :: (.int .i64 (1 + (shape.2 % 4)) :: (cellsX T63 v0_8.1 ++ (cellsX T65 v0_8.2.1 ++ (cellsX T69 v0_8.2.2))))))] ?_
     refine AO.ptrNil (neg := false) (p := true) (by decide) (.inl rfl) (by kernel_rfl) rfl rfl rfl ?_
     refine zT [(2, .sl (.pair (.int .i64) (.pair (.int .i64) (.pair (.int .i64) (.int .i64)))) more), (7, .cv (.pointer none)), (8, .bp 39000 0), (31, .bool true)] [(39000, .box 71 (.int .i64 (1 + (shape.1 % 4)) :: (.int .i64 (1 + (shape.2 % 4)) :: (cellsX T63 v0_8.1 ++ (cellsX T65 v0_8.2.1 ++ (cellsX T69 v0_8.2.2))))))] gt ?_
     refine zS 5 [(2, .sl (.pair (.int .i64) (.pair (.int .i64) (.pair (.int .i64) (.int .i64)))) more), (7, .cv (.pointer none)), (8, .bp 39000 0), (36, .bool true)] [(39000, .box 71 (.int .i64 (1 + (shape.1 % 4)) :: (.int .i64 (1 + (shape.2 % 4)) :: (cellsX T63 v0_8.1 ++ (cellsX T65 v0_8.2.1 ++ (cellsX T69 v0_8.2.2))))))] ?_
     refine zS 4 [(2, .sl (.pair (.int .i64) (.pair (.int .i64) (.pair (.int .i64) (.int .i64)))) more), (7, .cv (.pointer none)), (8, .bp 39000 0), (36, .bool true), (40, .cv (undef))] [(39000, .box 71 (.int .i64 (1 + (shape.1 % 4)) :: (.int .i64 (1 + (shape.2 % 4)) :: (cellsX T63 v0_8.1 ++ (cellsX T65 v0_8.2.1 ++ (cellsX T69 v0_8.2.2))))))] ?_
     refine zB [(2, .sl (.pair (.int .i64) (.pair (.int .i64) (.pair (.int .i64) (.int .i64)))) more), (7, .cv (.pointer none)), (8, .bp 39000 0), (41, .bool true)] [(39000, .box 71 (.int .i64 (1 + (shape.1 % 4)) :: (.int .i64 (1 + (shape.2 % 4)) :: (cellsX T63 v0_8.1 ++ (cellsX T65 v0_8.2.1 ++ (cellsX T69 v0_8.2.2))))))] ?_
     refine AW.cond (b := true) rfl (fun _ => ?_) (fun hb9 => by cases hb9)
     refine zo ?_
     refine zB [(6, .bool false)] [] ?_
     refine zr ?_
     obtain rfl := Option.some.inj h
     exact zR [] [] []
   ·try simp only at h
    refine zC [] [] (hc_lineallaw06_done_a1 shape deeds hv6) [(1, .sl (.pair (.int .i64) (.pair (.int .i64) (.pair (.int .i64) (.int .i64)))) deeds), (2, .sl (.pair (.int .i64) (.pair (.int .i64) (.pair (.int .i64) (.int .i64)))) more), (3, .bp 3 0), (26, .bp 36000 0)] [(3, .box 55 [.int .u8 shape.1, .int .u8 shape.2]), (36000, .box 71 (.int .i64 (1 + (shape.1 % 4)) :: (.int .i64 (1 + (shape.2 % 4)) :: (cellsX T63 v0_5.1 ++ (cellsX T65 v0_5.2.1 ++ (cellsX T69 v0_5.2.2))))))] ?_
    refine zB [(1, .sl (.pair (.int .i64) (.pair (.int .i64) (.pair (.int .i64) (.int .i64)))) deeds), (2, .sl (.pair (.int .i64) (.pair (.int .i64) (.pair (.int .i64) (.int .i64)))) more), (3, .bp 3 0), (7, .bp 36000 0)] [(3, .box 55 [.int .u8 shape.1, .int .u8 shape.2]), (36000, .box 71 (.int .i64 (1 + (shape.1 % 4)) :: (.int .i64 (1 + (shape.2 % 4)) :: (cellsX T63 v0_5.1 ++ (cellsX T65 v0_5.2.1 ++ (cellsX T69 v0_5.2.2))))))] ?_
    refine zo ?_
    refine zS 2 [(2, .sl (.pair (.int .i64) (.pair (.int .i64) (.pair (.int .i64) (.int .i64)))) more), (7, .bp 36000 0), (27, .agg [.int .u8 shape.1, .int .u8 shape.2]), (28, .sl (.pair (.int .i64) (.pair (.int .i64) (.pair (.int .i64) (.int .i64)))) deeds)] [(36000, .box 71 (.int .i64 (1 + (shape.1 % 4)) :: (.int .i64 (1 + (shape.2 % 4)) :: (cellsX T63 v0_5.1 ++ (cellsX T65 v0_5.2.1 ++ (cellsX T69 v0_5.2.2))))))] ?_
    obtain ⟨v0_9, hv10, h⟩ := Option.bind_eq_some_iff.1 h
    rcases v0_9 with v0_10 | v0_11
    ·try simp only at h
     refine zC [] [] (hc_lineallaw06_done_a0 shape deeds hv10) [(2, .sl (.pair (.int .i64) (.pair (.int .i64) (.pair (.int .i64) (.int .i64)))) more), (7, .bp 36000 0), (29, .cv (.pointer none))] [(36000, .box 71 (.int .i64 (1 + (shape.1 % 4)) :: (.int .i64 (1 + (shape.2 % 4)) :: (cellsX T63 v0_5.1 ++ (cellsX T65 v0_5.2.1 ++ (cellsX T69 v0_5.2.2))))))] ?_
     refine zB [(2, .sl (.pair (.int .i64) (.pair (.int .i64) (.pair (.int .i64) (.int .i64)))) more), (7, .bp 36000 0), (8, .cv (.pointer none))] [(36000, .box 71 (.int .i64 (1 + (shape.1 % 4)) :: (.int .i64 (1 + (shape.2 % 4)) :: (cellsX T63 v0_5.1 ++ (cellsX T65 v0_5.2.1 ++ (cellsX T69 v0_5.2.2))))))] ?_
     refine AW.seq ?_
     refine zo ?_
     refine zS 1 [(2, .sl (.pair (.int .i64) (.pair (.int .i64) (.pair (.int .i64) (.int .i64)))) more), (7, .bp 36000 0), (8, .cv (.pointer none)), (30, .bp 36000 0)] [(36000, .box 71 (.int .i64 (1 + (shape.1 % 4)) :: (.int .i64 (1 + (shape.2 % 4)) :: (cellsX T63 v0_5.1 ++ (cellsX T65 v0_5.2.1 ++ (cellsX T69 v0_5.2.2))))))] ?_
     refine AO.ptrNil (neg := false) (p := false) (by decide) (.inl rfl) (by kernel_rfl) rfl rfl rfl ?_
     refine zT [(2, .sl (.pair (.int .i64) (.pair (.int .i64) (.pair (.int .i64) (.int .i64)))) more), (7, .bp 36000 0), (8, .cv (.pointer none)), (31, .bool false)] [(36000, .box 71 (.int .i64 (1 + (shape.1 % 4)) :: (.int .i64 (1 + (shape.2 % 4)) :: (cellsX T63 v0_5.1 ++ (cellsX T65 v0_5.2.1 ++ (cellsX T69 v0_5.2.2))))))] gt ?_
     refine zS 2 [(2, .sl (.pair (.int .i64) (.pair (.int .i64) (.pair (.int .i64) (.int .i64)))) more), (7, .bp 36000 0), (8, .cv (.pointer none)), (32, .bool false), (33, .cv (.pointer none))] [(36000, .box 71 (.int .i64 (1 + (shape.1 % 4)) :: (.int .i64 (1 + (shape.2 % 4)) :: (cellsX T63 v0_5.1 ++ (cellsX T65 v0_5.2.1 ++ (cellsX T69 v0_5.2.2))))))] ?_
     refine AO.ptrNil (neg := false) (p := true) (by decide) (.inr ⟨_, _, _, rfl, rfl, rfl⟩) (by kernel_rfl) rfl rfl rfl ?_
     refine zT [(2, .sl (.pair (.int .i64) (.pair (.int .i64) (.pair (.int .i64) (.int .i64)))) more), (7, .bp 36000 0), (8, .cv (.pointer none)), (32, .bool false), (34, .bool true)] [(36000, .box 71 (.int .i64 (1 + (shape.1 % 4)) :: (.int .i64 (1 + (shape.2 % 4)) :: (cellsX T63 v0_5.1 ++ (cellsX T65 v0_5.2.1 ++ (cellsX T69 v0_5.2.2))))))] gt ?_
     refine zS 5 [(2, .sl (.pair (.int .i64) (.pair (.int .i64) (.pair (.int .i64) (.int .i64)))) more), (7, .bp 36000 0), (8, .cv (.pointer none)), (36, .bool true), (39, .cv (undef))] [(36000, .box 71 (.int .i64 (1 + (shape.1 % 4)) :: (.int .i64 (1 + (shape.2 % 4)) :: (cellsX T63 v0_5.1 ++ (cellsX T65 v0_5.2.1 ++ (cellsX T69 v0_5.2.2))))))] ?_
     refine zB [(2, .sl (.pair (.int .i64) (.pair (.int .i64) (.pair (.int .i64) (.int .i64)))) more), (7, .bp 36000 0), (8, .cv (.pointer none)), (41, .bool true)] [(36000, .box 71 (.int .i64 (1 + (shape.1 % 4)) :: (.int .i64 (1 + (shape.2 % 4)) :: (cellsX T63 v0_5.1 ++ (cellsX T65 v0_5.2.1 ++ (cellsX T69 v0_5.2.2))))))] ?_
     refine AW.cond (b := true) rfl (fun _ => ?_) (fun hb11 => by cases hb11)
     refine zo ?_
     refine zB [(6, .bool false)] [] ?_
     refine zr ?_
     obtain rfl := Option.some.inj h
     exact zR [] [] []
    ·try simp only at h
     refine zC [] [] (hc_lineallaw06_done_a1 shape deeds hv10) [(2, .sl (.pair (.int .i64) (.pair (.int .i64) (.pair (.int .i64) (.int .i64)))) more), (7, .bp 36000 0), (29, .bp 39000 0)] [(36000, .box 71 (.int .i64 (1 + (shape.1 % 4)) :: (.int .i64 (1 + (shape.2 % 4)) :: (cellsX T63 v0_5.1 ++ (cellsX T65 v0_5.2.1 ++ (cellsX T69 v0_5.2.2)))))), (39000, .box 71 (.int .i64 (1 + (shape.1 % 4)) :: (.int .i64 (1 + (shape.2 % 4)) :: (cellsX T63 v0_11.1 ++ (cellsX T65 v0_11.2.1 ++ (cellsX T69 v0_11.2.2))))))] ?_
     refine zB [(2, .sl (.pair (.int .i64) (.pair (.int .i64) (.pair (.int .i64) (.int .i64)))) more), (7, .bp 36000 0), (8, .bp 39000 0)] [(36000, .box 71 (.int .i64 (1 + (shape.1 % 4)) :: (.int .i64 (1 + (shape.2 % 4)) :: (cellsX T63 v0_5.1 ++ (cellsX T65 v0_5.2.1 ++ (cellsX T69 v0_5.2.2)))))), (39000, .box 71 (.int .i64 (1 + (shape.1 % 4)) :: (.int .i64 (1 + (shape.2 % 4)) :: (cellsX T63 v0_11.1 ++ (cellsX T65 v0_11.2.1 ++ (cellsX T69 v0_11.2.2))))))] ?_
     refine AW.seq ?_
     refine zo ?_
     refine zS 1 [(2, .sl (.pair (.int .i64) (.pair (.int .i64) (.pair (.int .i64) (.int .i64)))) more), (7, .bp 36000 0), (8, .bp 39000 0), (30, .bp 36000 0)] [(36000, .box 71 (.int .i64 (1 + (shape.1 % 4)) :: (.int .i64 (1 + (shape.2 % 4)) :: (cellsX T63 v0_5.1 ++ (cellsX T65 v0_5.2.1 ++ (cellsX T69 v0_5.2.2)))))), (39000, .box 71 (.int .i64 (1 + (shape.1 % 4)) :: (.int .i64 (1 + (shape.2 % 4)) :: (cellsX T63 v0_11.1 ++ (cellsX T65 v0_11.2.1 ++ (cellsX T69 v0_11.2.2))))))] ?_
     refine AO.ptrNil (neg := false) (p := false) (by decide) (.inl rfl) (by kernel_rfl) rfl rfl rfl ?_
     refine zT [(2, .sl (.pair (.int .i64) (.pair (.int .i64) (.pair (.int .i64) (.int .i64)))) more), (7, .bp 36000 0), (8, .bp 39000 0), (31, .bool false)] [(36000, .box 71 (.int .i64 (1 + (shape.1 % 4)) :: (.int .i64 (1 + (shape.2 % 4)) :: (cellsX T63 v0_5.1 ++ (cellsX T65 v0_5.2.1 ++ (cellsX T69 v0_5.2.2)))))), (39000, .box 71 (.int .i64 (1 + (shape.1 % 4)) :: (.int .i64 (1 + (shape.2 % 4)) :: (cellsX T63 v0_11.1 ++ (cellsX T65 v0_11.2.1 ++ (cellsX T69 v0_11.2.2))))))] gt ?_
     refine zS 2 [(2, .sl (.pair (.int .i64) (.pair (.int .i64) (.pair (.int .i64) (.int .i64)))) more), (7, .bp 36000 0), (8, .bp 39000 0), (32, .bool false), (33, .bp 39000 0)] [(36000, .box 71 (.int .i64 (1 + (shape.1 % 4)) :: (.int .i64 (1 + (shape.2 % 4)) :: (cellsX T63 v0_5.1 ++ (cellsX T65 v0_5.2.1 ++ (cellsX T69 v0_5.2.2)))))), (39000, .box 71 (.int .i64 (1 + (shape.1 % 4)) :: (.int .i64 (1 + (shape.2 % 4)) :: (cellsX T63 v0_11.1 ++ (cellsX T65 v0_11.2.1 ++ (cellsX T69 v0_11.2.2))))))] ?_
     refine AO.ptrNil (neg := false) (p := false) (by decide) (.inr ⟨_, _, _, rfl, rfl, rfl⟩) (by kernel_rfl) rfl rfl rfl ?_
     refine zT [(2, .sl (.pair (.int .i64) (.pair (.int .i64) (.pair (.int .i64) (.int .i64)))) more), (7, .bp 36000 0), (8, .bp 39000 0), (32, .bool false), (34, .bool false)] [(36000, .box 71 (.int .i64 (1 + (shape.1 % 4)) :: (.int .i64 (1 + (shape.2 % 4)) :: (cellsX T63 v0_5.1 ++ (cellsX T65 v0_5.2.1 ++ (cellsX T69 v0_5.2.2)))))), (39000, .box 71 (.int .i64 (1 + (shape.1 % 4)) :: (.int .i64 (1 + (shape.2 % 4)) :: (cellsX T63 v0_11.1 ++ (cellsX T65 v0_11.2.1 ++ (cellsX T69 v0_11.2.2))))))] gt ?_
     refine zS 4 [(2, .sl (.pair (.int .i64) (.pair (.int .i64) (.pair (.int .i64) (.int .i64)))) more), (7, .bp 36000 0), (8, .bp 39000 0), (36, .bool false), (37, .bp 36000 0), (38, .bp 39000 0)] [(36000, .box 71 (.int .i64 (1 + (shape.1 % 4)) :: (.int .i64 (1 + (shape.2 % 4)) :: (cellsX T63 v0_5.1 ++ (cellsX T65 v0_5.2.1 ++ (cellsX T69 v0_5.2.2)))))), (39000, .box 71 (.int .i64 (1 + (shape.1 % 4)) :: (.int .i64 (1 + (shape.2 % 4)) :: (cellsX T63 v0_11.1 ++ (cellsX T65 v0_11.2.1 ++ (cellsX T69 v0_11.2.2))))))] ?_
     obtain ⟨v0_12, hv12, h⟩ := Option.bind_eq_some_iff.1 h
     refine zG [] [(1000, 36000), (1001, 39000)] (hc_hazard_Same ((1 + (shape.1 % 4)), (1 + (shape.2 % 4)), v0_5) ((1 + (shape.1 % 4)), (1 + (shape.2 % 4)), v0_11) hv12) [(2, .sl (.pair (.int .i64) (.pair (.int .i64) (.pair (.int .i64) (.int .i64)))) more), (7, .bp 36000 0), (8, .bp 39000 0), (36, .bool false), (39, .bool v0_12)] [(36000, .box 71 (.int .i64 (1 + (shape.1 % 4)) :: (.int .i64 (1 + (shape.2 % 4)) :: (cellsX T63 v0_5.1 ++ (cellsX T65 v0_5.2.1 ++ (cellsX T69 v0_5.2.2)))))), (39000, .box 71 (.int .i64 (1 + (shape.1 % 4)) :: (.int .i64 (1 + (shape.2 % 4)) :: (cellsX T63 v0_11.1 ++ (cellsX T65 v0_11.2.1 ++ (cellsX T69 v0_11.2.2))))))] ?_
     refine zB [(2, .sl (.pair (.int .i64) (.pair (.int .i64) (.pair (.int .i64) (.int .i64)))) more), (7, .bp 36000 0), (8, .bp 39000 0), (41, .bool (!v0_12))] [(36000, .box 71 (.int .i64 (1 + (shape.1 % 4)) :: (.int .i64 (1 + (shape.2 % 4)) :: (cellsX T63 v0_5.1 ++ (cellsX T65 v0_5.2.1 ++ (cellsX T69 v0_5.2.2)))))), (39000, .box 71 (.int .i64 (1 + (shape.1 % 4)) :: (.int .i64 (1 + (shape.2 % 4)) :: (cellsX T63 v0_11.1 ++ (cellsX T65 v0_11.2.1 ++ (cellsX T69 v0_11.2.2))))))] ?_
     refine zQ h (fun hb13 h => ?_) (fun hb13 h => ?_)
     ·refine zo ?_
      refine zB [(6, .bool false)] [] ?_
      refine zr ?_
      obtain rfl := Option.some.inj h
      exact zR [] [] []
     ·refine zk ?_
      refine zo ?_
      refine zS 1 [(2, .sl (.pair (.int .i64) (.pair (.int .i64) (.pair (.int .i64) (.int .i64)))) more), (7, .bp 36000 0), (8, .bp 39000 0), (42, .bp 36000 0)] [(36000, .box 71 (.int .i64 (1 + (shape.1 % 4)) :: (.int .i64 (1 + (shape.2 % 4)) :: (cellsX T63 v0_5.1 ++ (cellsX T65 v0_5.2.1 ++ (cellsX T69 v0_5.2.2)))))), (39000, .box 71 (.int .i64 (1 + (shape.1 % 4)) :: (.int .i64 (1 + (shape.2 % 4)) :: (cellsX T63 v0_11.1 ++ (cellsX T65 v0_11.2.1 ++ (cellsX T69 v0_11.2.2))))))] ?_
      obtain ⟨v0_13, hv14, h⟩ := Option.bind_eq_some_iff.1 h
      rcases v0_13 with v0_14 | v0_15
      ·try simp only at h
       refine zC [] [(1000, 36000)] (hc_hazard_Yard_Copy_a0 ((1 + (shape.1 % 4)), (1 + (shape.2 % 4)), v0_5) hv14) [(2, .sl (.pair (.int .i64) (.pair (.int .i64) (.pair (.int .i64) (.int .i64)))) more), (7, .bp 36000 0), (8, .bp 39000 0), (43, .cv (.pointer none))] [(36000, .box 71 (.int .i64 (1 + (shape.1 % 4)) :: (.int .i64 (1 + (shape.2 % 4)) :: (cellsX T63 v0_5.1 ++ (cellsX T65 v0_5.2.1 ++ (cellsX T69 v0_5.2.2)))))), (39000, .box 71 (.int .i64 (1 + (shape.1 % 4)) :: (.int .i64 (1 + (shape.2 % 4)) :: (cellsX T63 v0_11.1 ++ (cellsX T65 v0_11.2.1 ++ (cellsX T69 v0_11.2.2))))))] ?_
       refine zB [(2, .sl (.pair (.int .i64) (.pair (.int .i64) (.pair (.int .i64) (.int .i64)))) more), (7, .bp 36000 0), (8, .bp 39000 0), (9, .cv (.pointer none))] [(36000, .box 71 (.int .i64 (1 + (shape.1 % 4)) :: (.int .i64 (1 + (shape.2 % 4)) :: (cellsX T63 v0_5.1 ++ (cellsX T65 v0_5.2.1 ++ (cellsX T69 v0_5.2.2)))))), (39000, .box 71 (.int .i64 (1 + (shape.1 % 4)) :: (.int .i64 (1 + (shape.2 % 4)) :: (cellsX T63 v0_11.1 ++ (cellsX T65 v0_11.2.1 ++ (cellsX T69 v0_11.2.2))))))] ?_
       refine AW.have1 (fun _ : Unit => lineallaw06_HazardCopies_k1 shape more v0_5 v0_11 = some r) (fun _ => ⟨fr [(2, .sl (.pair (.int .i64) (.pair (.int .i64) (.pair (.int .i64) (.int .i64)))) more), (7, .bp 36000 0), (8, .bp 39000 0), (9, .cv (.pointer none))], hpGet [(36000, .box 71 (.int .i64 (1 + (shape.1 % 4)) :: (.int .i64 (1 + (shape.2 % 4)) :: (cellsX T63 v0_5.1 ++ (cellsX T65 v0_5.2.1 ++ (cellsX T69 v0_5.2.2)))))), (39000, .box 71 (.int .i64 (1 + (shape.1 % 4)) :: (.int .i64 (1 + (shape.2 % 4)) :: (cellsX T63 v0_11.1 ++ (cellsX T65 v0_11.2.1 ++ (cellsX T69 v0_11.2.2))))))], gt⟩) (fun _ h => ?_) (fun hk_lineallaw06_HazardCopies_k1 => ?_)
       ·as_aux_lemma =>
         unfold lineallaw06_HazardCopies_k1 at h
         refine AW.seq ?_
         refine zo ?_
         refine zS 2 [(2, .sl (.pair (.int .i64) (.pair (.int .i64) (.pair (.int .i64) (.int .i64)))) more), (7, .bp 36000 0), (9, .cv (.pointer none)), (69, .bp 36000 0), (70, .bp 39000 0)] [(36000, .box 71 (.int .i64 (1 + (shape.1 % 4)) :: (.int .i64 (1 + (shape.2 % 4)) :: (cellsX T63 v0_5.1 ++ (cellsX T65 v0_5.2.1 ++ (cellsX T69 v0_5.2.2)))))), (39000, .box 71 (.int .i64 (1 + (shape.1 % 4)) :: (.int .i64 (1 + (shape.2 % 4)) :: (cellsX T63 v0_11.1 ++ (cellsX T65 v0_11.2.1 ++ (cellsX T69 v0_11.2.2))))))] ?_
         obtain ⟨v0_19, hv15, h⟩ := Option.bind_eq_some_iff.1 h
         refine zC [] [(1000, 36000), (1001, 39000)] (hc_hazard_Same ((1 + (shape.1 % 4)), (1 + (shape.2 % 4)), v0_5) ((1 + (shape.1 % 4)), (1 + (shape.2 % 4)), v0_11) hv15) [(2, .sl (.pair (.int .i64) (.pair (.int .i64) (.pair (.int .i64) (.int .i64)))) more), (7, .bp 36000 0), (9, .cv (.pointer none)), (71, .bool v0_19)] [(36000, .box 71 (.int .i64 (1 + (shape.1 % 4)) :: (.int .i64 (1 + (shape.2 % 4)) :: (cellsX T63 v0_5.1 ++ (cellsX T65 v0_5.2.1 ++ (cellsX T69 v0_5.2.2))))))] ?_
         refine zB [(2, .sl (.pair (.int .i64) (.pair (.int .i64) (.pair (.int .i64) (.int .i64)))) more), (7, .bp 36000 0), (9, .cv (.pointer none)), (72, .bool (!v0_19))] [(36000, .box 71 (.int .i64 (1 + (shape.1 % 4)) :: (.int .i64 (1 + (shape.2 % 4)) :: (cellsX T63 v0_5.1 ++ (cellsX T65 v0_5.2.1 ++ (cellsX T69 v0_5.2.2))))))] ?_
         refine zQ h (fun hb16 h => ?_) (fun hb16 h => ?_)
         ·refine zo ?_
          refine zB [(6, .bool false)] [] ?_
          refine zr ?_
          obtain rfl := Option.some.inj h
          exact zR [] [] []
         ·refine zk ?_
          refine AW.have1 (fun b2 : (El T63) × (El T65) × (El T69) => lineallaw06_HazardCopies_k2 shape b2 = some r) (fun b2 => ⟨fr [(7, .bp 36000 0), (9, .cv (.pointer none))], hpGet [(36000, .box 71 (.int .i64 (1 + (shape.1 % 4)) :: (.int .i64 (1 + (shape.2 % 4)) :: (cellsX T63 b2.1 ++ (cellsX T65 b2.2.1 ++ (cellsX T69 b2.2.2))))))], gt⟩) (fun b2 h => ?_) (fun hk_lineallaw06_HazardCopies_k2 => ?_)
          ·as_aux_lemma =>
            unfold lineallaw06_HazardCopies_k2 at h
            refine zo ?_
            refine zS 2 [(7, .bp 36000 0), (9, .cv (.pointer none)), (85, .bp 36000 0), (86, .cv (.pointer none))] [(36000, .box 71 (.int .i64 (1 + (shape.1 % 4)) :: (.int .i64 (1 + (shape.2 % 4)) :: (cellsX T63 b2.1 ++ (cellsX T65 b2.2.1 ++ (cellsX T69 b2.2.2))))))] ?_
            obtain ⟨v0_21, hv17, h⟩ := Option.bind_eq_some_iff.1 h
            refine zC [] [(1000, 36000)] (hc_hazard_Same_3 ((1 + (shape.1 % 4)), (1 + (shape.2 % 4)), b2) hv17) [(7, .bp 36000 0), (9, .cv (.pointer none)), (87, .bool v0_21)] [(36000, .box 71 (.int .i64 (1 + (shape.1 % 4)) :: (.int .i64 (1 + (shape.2 % 4)) :: (cellsX T63 b2.1 ++ (cellsX T65 b2.2.1 ++ (cellsX T69 b2.2.2))))))] ?_
            refine zS 1 [(7, .bp 36000 0), (9, .cv (.pointer none)), (88, .bool v0_21)] [(36000, .box 71 (.int .i64 (1 + (shape.1 % 4)) :: (.int .i64 (1 + (shape.2 % 4)) :: (cellsX T63 b2.1 ++ (cellsX T65 b2.2.1 ++ (cellsX T69 b2.2.2))))))] ?_
            rcases zI h with ⟨hb18, h⟩ | ⟨hb18, h⟩
            ·refine zS 2 [(88, .bool true), (89, .cv (.pointer none)), (90, .bp 36000 0)] [(36000, .box 71 (.int .i64 (1 + (shape.1 % 4)) :: (.int .i64 (1 + (shape.2 % 4)) :: (cellsX T63 b2.1 ++ (cellsX T65 b2.2.1 ++ (cellsX T69 b2.2.2))))))] ?_
             obtain ⟨v0_22, hv19, h⟩ := Option.bind_eq_some_iff.1 h
             refine zG [] [(1000, 36000)] (hc_hazard_Same_4 ((1 + (shape.1 % 4)), (1 + (shape.2 % 4)), b2) hv19) [(88, .bool true), (91, .bool (decide ((1 + (shape.1 % 4)) = 0)))] [] ?_
             refine zS 2 [(93, .bool (decide ((1 + (shape.1 % 4)) = 0)))] [] ?_
             rcases zI h with ⟨hb20, h⟩ | ⟨hb20, h⟩
             ·refine zT [(93, .bool true)] [] gt ?_
              obtain ⟨v0_23, hv21, h⟩ := Option.bind_eq_some_iff.1 h
              refine zG [] [] (hc_lineallaw06_Sane hv21) [(93, .bool true), (94, .bool v0_23)] [] ?_
              refine zB [(6, .bool v0_23)] [] ?_
              refine AW.ret ?_
              obtain rfl := Option.some.inj h
              exact zR [] [] []
             ·refine zB [(6, .bool false)] [] ?_
              refine AW.ret ?_
              obtain rfl := Option.some.inj h
              exact zR [] [] []
            ·refine zS 5 [(93, .bool false)] [] ?_
             refine zB [(6, .bool false)] [] ?_
             refine AW.ret ?_
             obtain rfl := Option.some.inj h
             exact zR [] [] []
          ·refine AW.seq ?_
           refine zo ?_
           refine zB [(2, .sl (.pair (.int .i64) (.pair (.int .i64) (.pair (.int .i64) (.int .i64)))) more), (7, .bp 36000 0), (9, .cv (.pointer none)), (14, .int .i64 0)] [(36000, .box 71 (.int .i64 (1 + (shape.1 % 4)) :: (.int .i64 (1 + (shape.2 % 4)) :: (cellsX T63 v0_5.1 ++ (cellsX T65 v0_5.2.1 ++ (cellsX T69 v0_5.2.2))))))] ?_
           refine AW.block ?_
           obtain ⟨rv26, hw22, ho23⟩ := Option.bind_eq_some_iff.1 h
           refine AW.loopO (lineallaw06_HazardCopies_b2 shape more) (fun st2 => ⟨fr [(2, .sl (.pair (.int .i64) (.pair (.int .i64) (.pair (.int .i64) (.int .i64)))) more), (7, .bp 36000 0), (9, .cv (.pointer none)), (14, .int .i64 st2.2.2.2)], hpGet [(36000, .box 71 (.int .i64 (1 + (shape.1 % 4)) :: (.int .i64 (1 + (shape.2 % 4)) :: (cellsX T63 st2.1 ++ (cellsX T65 st2.2.1 ++ (cellsX T69 st2.2.2.1))))))], gt⟩) (v0_5.1, v0_5.2.1, v0_5.2.2, 0) hw22 (zL [] [] []) ?_
           as_aux_lemma =>
            intro st2 x25 h hd24
            unfold lineallaw06_HazardCopies_b2 at h
            refine AW.seq ?_
            refine zo ?_
            refine zB [(2, .sl (.pair (.int .i64) (.pair (.int .i64) (.pair (.int .i64) (.int .i64)))) more), (7, .bp 36000 0), (9, .cv (.pointer none)), (14, .int .i64 st2.2.2.2), (76, .bool (decide (st2.2.2.2 < (more.length : Int))))] [(36000, .box 71 (.int .i64 (1 + (shape.1 % 4)) :: (.int .i64 (1 + (shape.2 % 4)) :: (cellsX T63 st2.1 ++ (cellsX T65 st2.2.1 ++ (cellsX T69 st2.2.2.1))))))] ?_
            refine zQ h (fun hb27 h => ?_) (fun hb27 h => ?_)
            ·refine zk ?_
             refine AW.seq ?_
             refine AW.block ?_
             refine AW.ops ?_
             obtain ⟨c28, h⟩ := ck_some.1 h
             obtain ⟨c29, h⟩ := ck_some.1 h
             refine zS 5 [(2, .sl (.pair (.int .i64) (.pair (.int .i64) (.pair (.int .i64) (.int .i64)))) more), (7, .bp 36000 0), (9, .cv (.pointer none)), (14, .int .i64 st2.2.2.2), (79, .bp 36000 0), (83, .agg [.int .i64 (more.getD st2.2.2.2.toNat (0, 0, 0, 0)).1, .int .i64 (more.getD st2.2.2.2.toNat (0, 0, 0, 0)).2.1, .int .i64 (more.getD st2.2.2.2.toNat (0, 0, 0, 0)).2.2.1, .int .i64 (more.getD st2.2.2.2.toNat (0, 0, 0, 0)).2.2.2])] [(36000, .box 71 (.int .i64 (1 + (shape.1 % 4)) :: (.int .i64 (1 + (shape.2 % 4)) :: (cellsX T63 st2.1 ++ (cellsX T65 st2.2.1 ++ (cellsX T69 st2.2.2.1))))))] ?_
             obtain ⟨v0_20, hv30, h⟩ := Option.bind_eq_some_iff.1 h
             refine zC [] [(1000, 36000)] (hc_hazard_Yard_Do (more.getD st2.2.2.2.toNat (0, 0, 0, 0)) ((1 + (shape.1 % 4)), (1 + (shape.2 % 4)), st2.1, st2.2.1, st2.2.2.1) hv30) [(2, .sl (.pair (.int .i64) (.pair (.int .i64) (.pair (.int .i64) (.int .i64)))) more), (7, .bp 36000 0), (9, .cv (.pointer none)), (14, .int .i64 st2.2.2.2)] [(36000, .box 71 (.int .i64 (1 + (shape.1 % 4)) :: (.int .i64 (1 + (shape.2 % 4)) :: (cellsX T63 v0_20.2.2.1 ++ (cellsX T65 v0_20.2.2.2.1 ++ (cellsX T69 v0_20.2.2.2.2))))))] ?_
             refine zA [(2, .sl (.pair (.int .i64) (.pair (.int .i64) (.pair (.int .i64) (.int .i64)))) more), (7, .bp 36000 0), (9, .cv (.pointer none)), (14, .int .i64 st2.2.2.2)] [(36000, .box 71 (.int .i64 (1 + (shape.1 % 4)) :: (.int .i64 (1 + (shape.2 % 4)) :: (cellsX T63 v0_20.2.2.1 ++ (cellsX T65 v0_20.2.2.2.1 ++ (cellsX T69 v0_20.2.2.2.2))))))] ?_
             refine ablock_n ?_
             refine athen_n ?_
             refine AW.ops ?_
             obtain ⟨c31, h⟩ := ck_some.1 h
             refine zA [(2, .sl (.pair (.int .i64) (.pair (.int .i64) (.pair (.int .i64) (.int .i64)))) more), (7, .bp 36000 0), (9, .cv (.pointer none)), (14, .int .i64 (st2.2.2.2 + 1))] [(36000, .box 71 (.int .i64 (1 + (shape.1 % 4)) :: (.int .i64 (1 + (shape.2 % 4)) :: (cellsX T63 v0_20.2.2.1 ++ (cellsX T65 v0_20.2.2.2.1 ++ (cellsX T69 v0_20.2.2.2.2))))))] ?_
             obtain rfl := Option.some.inj h
             exact ⟨_, rfl, zL [] [] []⟩
            ·refine AW.exit ?_
             refine athen_e ?_
             obtain rfl := Option.some.inj h
             rw [← hd24 _ rfl] at ho23
             have h := ho23
             refine athen_e ?_
             refine ablock_s ?_
             refine athen_n ?_
             exact AW.weaken (zL [] [] []) (hk_lineallaw06_HazardCopies_k2 _ h)
       ·refine AW.seq ?_
        refine zo ?_
        refine zB [(2, .sl (.pair (.int .i64) (.pair (.int .i64) (.pair (.int .i64) (.int .i64)))) more), (7, .bp 36000 0), (8, .bp 39000 0), (9, .cv (.pointer none)), (10, .int .i64 0)] [(36000, .box 71 (.int .i64 (1 + (shape.1 % 4)) :: (.int .i64 (1 + (shape.2 % 4)) :: (cellsX T63 v0_5.1 ++ (cellsX T65 v0_5.2.1 ++ (cellsX T69 v0_5.2.2)))))), (39000, .box 71 (.int .i64 (1 + (shape.1 % 4)) :: (.int .i64 (1 + (shape.2 % 4)) :: (cellsX T63 v0_11.1 ++ (cellsX T65 v0_11.2.1 ++ (cellsX T69 v0_11.2.2))))))] ?_
        refine AW.block ?_
        obtain ⟨rv36, hw32, ho33⟩ := Option.bind_eq_some_iff.1 h
        refine AW.loopO (lineallaw06_HazardCopies_b1 more) (fun st1 => ⟨fr [(2, .sl (.pair (.int .i64) (.pair (.int .i64) (.pair (.int .i64) (.int .i64)))) more), (7, .bp 36000 0), (8, .bp 39000 0), (9, .cv (.pointer none)), (10, .int .i64 st1)], hpGet [(36000, .box 71 (.int .i64 (1 + (shape.1 % 4)) :: (.int .i64 (1 + (shape.2 % 4)) :: (cellsX T63 v0_5.1 ++ (cellsX T65 v0_5.2.1 ++ (cellsX T69 v0_5.2.2)))))), (39000, .box 71 (.int .i64 (1 + (shape.1 % 4)) :: (.int .i64 (1 + (shape.2 % 4)) :: (cellsX T63 v0_11.1 ++ (cellsX T65 v0_11.2.1 ++ (cellsX T69 v0_11.2.2))))))], gt⟩) 0 hw32 (zL [] [] []) ?_
        as_aux_lemma =>
         intro st1 x35 h hd34
         unfold lineallaw06_HazardCopies_b1 at h
         refine AW.seq ?_
         refine zo ?_
         refine zB [(2, .sl (.pair (.int .i64) (.pair (.int .i64) (.pair (.int .i64) (.int .i64)))) more), (7, .bp 36000 0), (8, .bp 39000 0), (9, .cv (.pointer none)), (10, .int .i64 st1), (47, .bool (decide (st1 < (more.length : Int))))] [(36000, .box 71 (.int .i64 (1 + (shape.1 % 4)) :: (.int .i64 (1 + (shape.2 % 4)) :: (cellsX T63 v0_5.1 ++ (cellsX T65 v0_5.2.1 ++ (cellsX T69 v0_5.2.2)))))), (39000, .box 71 (.int .i64 (1 + (shape.1 % 4)) :: (.int .i64 (1 + (shape.2 % 4)) :: (cellsX T63 v0_11.1 ++ (cellsX T65 v0_11.2.1 ++ (cellsX T69 v0_11.2.2))))))] ?_
         refine zQ h (fun hb37 h => ?_) (fun hb37 h => ?_)
         ·refine zk ?_
          refine AW.seq ?_
          refine AW.block ?_
          refine zo ?_
          refine zS 1 [(2, .sl (.pair (.int .i64) (.pair (.int .i64) (.pair (.int .i64) (.int .i64)))) more), (7, .bp 36000 0), (8, .bp 39000 0), (9, .cv (.pointer none)), (10, .int .i64 st1), (50, .cv (.pointer none))] [(36000, .box 71 (.int .i64 (1 + (shape.1 % 4)) :: (.int .i64 (1 + (shape.2 % 4)) :: (cellsX T63 v0_5.1 ++ (cellsX T65 v0_5.2.1 ++ (cellsX T69 v0_5.2.2)))))), (39000, .box 71 (.int .i64 (1 + (shape.1 % 4)) :: (.int .i64 (1 + (shape.2 % 4)) :: (cellsX T63 v0_11.1 ++ (cellsX T65 v0_11.2.1 ++ (cellsX T69 v0_11.2.2))))))] ?_
          obtain ⟨v0_16, hv38, h⟩ := Option.bind_eq_some_iff.1 h
          refine zC [] [] (hc_hazard_Yard_Copy_2 hv38) [(2, .sl (.pair (.int .i64) (.pair (.int .i64) (.pair (.int .i64) (.int .i64)))) more), (7, .bp 36000 0), (8, .bp 39000 0), (9, .cv (.pointer none)), (10, .int .i64 st1), (51, .cv (.pointer none))] [(36000, .box 71 (.int .i64 (1 + (shape.1 % 4)) :: (.int .i64 (1 + (shape.2 % 4)) :: (cellsX T63 v0_5.1 ++ (cellsX T65 v0_5.2.1 ++ (cellsX T69 v0_5.2.2)))))), (39000, .box 71 (.int .i64 (1 + (shape.1 % 4)) :: (.int .i64 (1 + (shape.2 % 4)) :: (cellsX T63 v0_11.1 ++ (cellsX T65 v0_11.2.1 ++ (cellsX T69 v0_11.2.2))))))] ?_
          refine zB [(2, .sl (.pair (.int .i64) (.pair (.int .i64) (.pair (.int .i64) (.int .i64)))) more), (7, .bp 36000 0), (8, .bp 39000 0), (9, .cv (.pointer none)), (10, .int .i64 st1), (11, .cv (.pointer none))] [(36000, .box 71 (.int .i64 (1 + (shape.1 % 4)) :: (.int .i64 (1 + (shape.2 % 4)) :: (cellsX T63 v0_5.1 ++ (cellsX T65 v0_5.2.1 ++ (cellsX T69 v0_5.2.2)))))), (39000, .box 71 (.int .i64 (1 + (shape.1 % 4)) :: (.int .i64 (1 + (shape.2 % 4)) :: (cellsX T63 v0_11.1 ++ (cellsX T65 v0_11.2.1 ++ (cellsX T69 v0_11.2.2))))))] ?_
          refine zo ?_
          obtain ⟨c39, h⟩ := ck_some.1 h
          obtain ⟨c40, h⟩ := ck_some.1 h
          refine zS 5 [(2, .sl (.pair (.int .i64) (.pair (.int .i64) (.pair (.int .i64) (.int .i64)))) more), (7, .bp 36000 0), (8, .bp 39000 0), (9, .cv (.pointer none)), (10, .int .i64 st1), (11, .cv (.pointer none)), (53, .cv (.pointer none)), (57, .agg [.int .i64 (more.getD st1.toNat (0, 0, 0, 0)).1, .int .i64 (more.getD st1.toNat (0, 0, 0, 0)).2.1, .int .i64 (more.getD st1.toNat (0, 0, 0, 0)).2.2.1, .int .i64 (more.getD st1.toNat (0, 0, 0, 0)).2.2.2])] [(36000, .box 71 (.int .i64 (1 + (shape.1 % 4)) :: (.int .i64 (1 + (shape.2 % 4)) :: (cellsX T63 v0_5.1 ++ (cellsX T65 v0_5.2.1 ++ (cellsX T69 v0_5.2.2)))))), (39000, .box 71 (.int .i64 (1 + (shape.1 % 4)) :: (.int .i64 (1 + (shape.2 % 4)) :: (cellsX T63 v0_11.1 ++ (cellsX T65 v0_11.2.1 ++ (cellsX T69 v0_11.2.2))))))] ?_
          obtain ⟨v0_17, hv41, h⟩ := Option.bind_eq_some_iff.1 h
          refine zC [] [] (hc_hazard_Yard_Do_2 (more.getD st1.toNat (0, 0, 0, 0)) hv41) [(2, .sl (.pair (.int .i64) (.pair (.int .i64) (.pair (.int .i64) (.int .i64)))) more), (7, .bp 36000 0), (8, .bp 39000 0), (9, .cv (.pointer none)), (10, .int .i64 st1), (11, .cv (.pointer none)), (58, .tup [.int .i64 0, .int .i64 60])] [(36000, .box 71 (.int .i64 (1 + (shape.1 % 4)) :: (.int .i64 (1 + (shape.2 % 4)) :: (cellsX T63 v0_5.1 ++ (cellsX T65 v0_5.2.1 ++ (cellsX T69 v0_5.2.2)))))), (39000, .box 71 (.int .i64 (1 + (shape.1 % 4)) :: (.int .i64 (1 + (shape.2 % 4)) :: (cellsX T63 v0_11.1 ++ (cellsX T65 v0_11.2.1 ++ (cellsX T69 v0_11.2.2))))))] ?_
          refine zB [(2, .sl (.pair (.int .i64) (.pair (.int .i64) (.pair (.int .i64) (.int .i64)))) more), (7, .bp 36000 0), (8, .bp 39000 0), (9, .cv (.pointer none)), (10, .int .i64 st1), (11, .cv (.pointer none)), (13, .int .i64 60)] [(36000, .box 71 (.int .i64 (1 + (shape.1 % 4)) :: (.int .i64 (1 + (shape.2 % 4)) :: (cellsX T63 v0_5.1 ++ (cellsX T65 v0_5.2.1 ++ (cellsX T69 v0_5.2.2)))))), (39000, .box 71 (.int .i64 (1 + (shape.1 % 4)) :: (.int .i64 (1 + (shape.2 % 4)) :: (cellsX T63 v0_11.1 ++ (cellsX T65 v0_11.2.1 ++ (cellsX T69 v0_11.2.2))))))] ?_
          refine zo ?_
          have hx42 : (!decide ((60 : Int) = 0)) = true := rfl
          refine zS 5 [(2, .sl (.pair (.int .i64) (.pair (.int .i64) (.pair (.int .i64) (.int .i64)))) more), (7, .bp 36000 0), (8, .bp 39000 0), (9, .cv (.pointer none)), (10, .int .i64 st1), (63, .bool true), (64, .cv (.pointer none)), (65, .cv (.pointer none))] [(36000, .box 71 (.int .i64 (1 + (shape.1 % 4)) :: (.int .i64 (1 + (shape.2 % 4)) :: (cellsX T63 v0_5.1 ++ (cellsX T65 v0_5.2.1 ++ (cellsX T69 v0_5.2.2)))))), (39000, .box 71 (.int .i64 (1 + (shape.1 % 4)) :: (.int .i64 (1 + (shape.2 % 4)) :: (cellsX T63 v0_11.1 ++ (cellsX T65 v0_11.2.1 ++ (cellsX T69 v0_11.2.2))))))] ?_
          obtain ⟨v0_18, hv43, h⟩ := Option.bind_eq_some_iff.1 h
          refine zG [] [] (hc_hazard_Same_2 hv43) [(2, .sl (.pair (.int .i64) (.pair (.int .i64) (.pair (.int .i64) (.int .i64)))) more), (7, .bp 36000 0), (8, .bp 39000 0), (9, .cv (.pointer none)), (10, .int .i64 st1), (63, .bool true), (66, .bool true)] [(36000, .box 71 (.int .i64 (1 + (shape.1 % 4)) :: (.int .i64 (1 + (shape.2 % 4)) :: (cellsX T63 v0_5.1 ++ (cellsX T65 v0_5.2.1 ++ (cellsX T69 v0_5.2.2)))))), (39000, .box 71 (.int .i64 (1 + (shape.1 % 4)) :: (.int .i64 (1 + (shape.2 % 4)) :: (cellsX T63 v0_11.1 ++ (cellsX T65 v0_11.2.1 ++ (cellsX T69 v0_11.2.2))))))] ?_
          refine zB [(2, .sl (.pair (.int .i64) (.pair (.int .i64) (.pair (.int .i64) (.int .i64)))) more), (7, .bp 36000 0), (8, .bp 39000 0), (9, .cv (.pointer none)), (10, .int .i64 st1), (68, .bool false)] [(36000, .box 71 (.int .i64 (1 + (shape.1 % 4)) :: (.int .i64 (1 + (shape.2 % 4)) :: (cellsX T63 v0_5.1 ++ (cellsX T65 v0_5.2.1 ++ (cellsX T69 v0_5.2.2)))))), (39000, .box 71 (.int .i64 (1 + (shape.1 % 4)) :: (.int .i64 (1 + (shape.2 % 4)) :: (cellsX T63 v0_11.1 ++ (cellsX T65 v0_11.2.1 ++ (cellsX T69 v0_11.2.2))))))] ?_
          refine AW.cond (b := false) rfl (fun hb44 => by cases hb44) (fun _ => ?_)
          refine zm ?_
          refine athen_n ?_
          refine AW.ops ?_
          obtain ⟨c45, h⟩ := ck_some.1 h
          refine zA [(2, .sl (.pair (.int .i64) (.pair (.int .i64) (.pair (.int .i64) (.int .i64)))) more), (7, .bp 36000 0), (8, .bp 39000 0), (9, .cv (.pointer none)), (10, .int .i64 (st1 + 1))] [(36000, .box 71 (.int .i64 (1 + (shape.1 % 4)) :: (.int .i64 (1 + (shape.2 % 4)) :: (cellsX T63 v0_5.1 ++ (cellsX T65 v0_5.2.1 ++ (cellsX T69 v0_5.2.2)))))), (39000, .box 71 (.int .i64 (1 + (shape.1 % 4)) :: (.int .i64 (1 + (shape.2 % 4)) :: (cellsX T63 v0_11.1 ++ (cellsX T65 v0_11.2.1 ++ (cellsX T69 v0_11.2.2))))))] ?_
          obtain rfl := Option.some.inj h
          exact ⟨_, rfl, zL [] [] []⟩
         ·refine AW.exit ?_
          refine athen_e ?_
          obtain rfl := Option.some.inj h
          try rw [← hd34 _ rfl] at ho33
          have h := ho33
          refine athen_e ?_
          refine ablock_s ?_
          refine athen_n ?_
          exact AW.weaken (zL [] [] []) (hk_lineallaw06_HazardCopies_k1 () h)
      ·try simp only at h
       refine zC [] [(1000, 36000)] (hc_hazard_Yard_Copy_a1 ((1 + (shape.1 % 4)), (1 + (shape.2 % 4)), v0_5) hv14) [(2, .sl (.pair (.int .i64) (.pair (.int .i64) (.pair (.int .i64) (.int .i64)))) more), (7, .bp 36000 0), (8, .bp 39000 0), (43, .bp 53000 0)] [(36000, .box 71 (.int .i64 (1 + (shape.1 % 4)) :: (.int .i64 (1 + (shape.2 % 4)) :: (cellsX T63 v0_5.1 ++ (cellsX T65 v0_5.2.1 ++ (cellsX T69 v0_5.2.2)))))), (39000, .box 71 (.int .i64 (1 + (shape.1 % 4)) :: (.int .i64 (1 + (shape.2 % 4)) :: (cellsX T63 v0_11.1 ++ (cellsX T65 v0_11.2.1 ++ (cellsX T69 v0_11.2.2)))))), (53000, .box 71 (.int .i64 (1 + (shape.1 % 4)) :: (.int .i64 (1 + (shape.2 % 4)) :: (cellsX T63 v0_5.1 ++ (cellsX T65 v0_5.2.1 ++ (cellsX T69 v0_5.2.2))))))] ?_
       refine zB [(2, .sl (.pair (.int .i64) (.pair (.int .i64) (.pair (.int .i64) (.int .i64)))) more), (7, .bp 36000 0), (8, .bp 39000 0), (9, .bp 53000 0)] [(36000, .box 71 (.int .i64 (1 + (shape.1 % 4)) :: (.int .i64 (1 + (shape.2 % 4)) :: (cellsX T63 v0_5.1 ++ (cellsX T65 v0_5.2.1 ++ (cellsX T69 v0_5.2.2)))))), (39000, .box 71 (.int .i64 (1 + (shape.1 % 4)) :: (.int .i64 (1 + (shape.2 % 4)) :: (cellsX T63 v0_11.1 ++ (cellsX T65 v0_11.2.1 ++ (cellsX T69 v0_11.2.2)))))), (53000, .box 71 (.int .i64 (1 + (shape.1 % 4)) :: (.int .i64 (1 + (shape.2 % 4)) :: (cellsX T63 v0_5.1 ++ (cellsX T65 v0_5.2.1 ++ (cellsX T69 v0_5.2.2))))))] ?_
       refine AW.have1 (fun b3 : (El T63) × (El T65) × (El T69) => lineallaw06_HazardCopies_k3 shape more v0_5 v0_11 b3 = some r) (fun b3 => ⟨fr [(2, .sl (.pair (.int .i64) (.pair (.int .i64) (.pair (.int .i64) (.int .i64)))) more), (7, .bp 36000 0), (8, .bp 39000 0), (9, .bp 53000 0)], hpGet [(36000, .box 71 (.int .i64 (1 + (shape.1 % 4)) :: (.int .i64 (1 + (shape.2 % 4)) :: (cellsX T63 v0_5.1 ++ (cellsX T65 v0_5.2.1 ++ (cellsX T69 v0_5.2.2)))))), (39000, .box 71 (.int .i64 (1 + (shape.1 % 4)) :: (.int .i64 (1 + (shape.2 % 4)) :: (cellsX T63 v0_11.1 ++ (cellsX T65 v0_11.2.1 ++ (cellsX T69 v0_11.2.2)))))), (53000, .box 71 (.int .i64 (1 + (shape.1 % 4)) :: (.int .i64 (1 + (shape.2 % 4)) :: (cellsX T63 b3.1 ++ (cellsX T65 b3.2.1 ++ (cellsX T69 b3.2.2))))))], gt⟩) (fun b3 h => ?_) (fun hk_lineallaw06_HazardCopies_k3 => ?_)
       ·as_aux_lemma =>
         unfold lineallaw06_HazardCopies_k3 at h
         refine AW.seq ?_
         refine zo ?_
         refine zS 2 [(2, .sl (.pair (.int .i64) (.pair (.int .i64) (.pair (.int .i64) (.int .i64)))) more), (7, .bp 36000 0), (9, .bp 53000 0), (69, .bp 36000 0), (70, .bp 39000 0)] [(36000, .box 71 (.int .i64 (1 + (shape.1 % 4)) :: (.int .i64 (1 + (shape.2 % 4)) :: (cellsX T63 v0_5.1 ++ (cellsX T65 v0_5.2.1 ++ (cellsX T69 v0_5.2.2)))))), (39000, .box 71 (.int .i64 (1 + (shape.1 % 4)) :: (.int .i64 (1 + (shape.2 % 4)) :: (cellsX T63 v0_11.1 ++ (cellsX T65 v0_11.2.1 ++ (cellsX T69 v0_11.2.2)))))), (53000, .box 71 (.int .i64 (1 + (shape.1 % 4)) :: (.int .i64 (1 + (shape.2 % 4)) :: (cellsX T63 b3.1 ++ (cellsX T65 b3.2.1 ++ (cellsX T69 b3.2.2))))))] ?_
         obtain ⟨v0_31, hv46, h⟩ := Option.bind_eq_some_iff.1 h
         refine zC [] [(1000, 36000), (1001, 39000)] (hc_hazard_Same ((1 + (shape.1 % 4)), (1 + (shape.2 % 4)), v0_5) ((1 + (shape.1 % 4)), (1 + (shape.2 % 4)), v0_11) hv46) [(2, .sl (.pair (.int .i64) (.pair (.int .i64) (.pair (.int .i64) (.int .i64)))) more), (7, .bp 36000 0), (9, .bp 53000 0), (71, .bool v0_31)] [(36000, .box 71 (.int .i64 (1 + (shape.1 % 4)) :: (.int .i64 (1 + (shape.2 % 4)) :: (cellsX T63 v0_5.1 ++ (cellsX T65 v0_5.2.1 ++ (cellsX T69 v0_5.2.2)))))), (53000, .box 71 (.int .i64 (1 + (shape.1 % 4)) :: (.int .i64 (1 + (shape.2 % 4)) :: (cellsX T63 b3.1 ++ (cellsX T65 b3.2.1 ++ (cellsX T69 b3.2.2))))))] ?_
         refine zB [(2, .sl (.pair (.int .i64) (.pair (.int .i64) (.pair (.int .i64) (.int .i64)))) more), (7, .bp 36000 0), (9, .bp 53000 0), (72, .bool (!v0_31))] [(36000, .box 71 (.int .i64 (1 + (shape.1 % 4)) :: (.int .i64 (1 + (shape.2 % 4)) :: (cellsX T63 v0_5.1 ++ (cellsX T65 v0_5.2.1 ++ (cellsX T69 v0_5.2.2)))))), (53000, .box 71 (.int .i64 (1 + (shape.1 % 4)) :: (.int .i64 (1 + (shape.2 % 4)) :: (cellsX T63 b3.1 ++ (cellsX T65 b3.2.1 ++ (cellsX T69 b3.2.2))))))] ?_
         refine zQ h (fun hb47 h => ?_) (fun hb47 h => ?_)
         ·refine zo ?_
          refine zB [(6, .bool false)] [] ?_
          refine zr ?_
          obtain rfl := Option.some.inj h
          exact zR [] [] []
         ·refine zk ?_
          refine AW.have1 (fun b4 : (El T63) × (El T65) × (El T69) => lineallaw06_HazardCopies_k4 shape b3 b4 = some r) (fun b4 => ⟨fr [(7, .bp 36000 0), (9, .bp 53000 0)], hpGet [(36000, .box 71 (.int .i64 (1 + (shape.1 % 4)) :: (.int .i64 (1 + (shape.2 % 4)) :: (cellsX T63 b4.1 ++ (cellsX T65 b4.2.1 ++ (cellsX T69 b4.2.2)))))), (53000, .box 71 (.int .i64 (1 + (shape.1 % 4)) :: (.int .i64 (1 + (shape.2 % 4)) :: (cellsX T63 b3.1 ++ (cellsX T65 b3.2.1 ++ (cellsX T69 b3.2.2))))))], gt⟩) (fun b4 h => ?_) (fun hk_lineallaw06_HazardCopies_k4 => ?_)
          ·as_aux_lemma =>
            unfold lineallaw06_HazardCopies_k4 at h
            refine zo ?_
            refine zS 2 [(7, .bp 36000 0), (9, .bp 53000 0), (85, .bp 36000 0), (86, .bp 53000 0)] [(36000, .box 71 (.int .i64 (1 + (shape.1 % 4)) :: (.int .i64 (1 + (shape.2 % 4)) :: (cellsX T63 b4.1 ++ (cellsX T65 b4.2.1 ++ (cellsX T69 b4.2.2)))))), (53000, .box 71 (.int .i64 (1 + (shape.1 % 4)) :: (.int .i64 (1 + (shape.2 % 4)) :: (cellsX T63 b3.1 ++ (cellsX T65 b3.2.1 ++ (cellsX T69 b3.2.2))))))] ?_
            obtain ⟨v0_33, hv48, h⟩ := Option.bind_eq_some_iff.1 h
            refine zC [] [(1000, 36000), (1001, 53000)] (hc_hazard_Same ((1 + (shape.1 % 4)), (1 + (shape.2 % 4)), b4) ((1 + (shape.1 % 4)), (1 + (shape.2 % 4)), b3) hv48) [(7, .bp 36000 0), (9, .bp 53000 0), (87, .bool v0_33)] [(36000, .box 71 (.int .i64 (1 + (shape.1 % 4)) :: (.int .i64 (1 + (shape.2 % 4)) :: (cellsX T63 b4.1 ++ (cellsX T65 b4.2.1 ++ (cellsX T69 b4.2.2)))))), (53000, .box 71 (.int .i64 (1 + (shape.1 % 4)) :: (.int .i64 (1 + (shape.2 % 4)) :: (cellsX T63 b3.1 ++ (cellsX T65 b3.2.1 ++ (cellsX T69 b3.2.2))))))] ?_
            refine zS 1 [(7, .bp 36000 0), (9, .bp 53000 0), (88, .bool v0_33)] [(36000, .box 71 (.int .i64 (1 + (shape.1 % 4)) :: (.int .i64 (1 + (shape.2 % 4)) :: (cellsX T63 b4.1 ++ (cellsX T65 b4.2.1 ++ (cellsX T69 b4.2.2)))))), (53000, .box 71 (.int .i64 (1 + (shape.1 % 4)) :: (.int .i64 (1 + (shape.2 % 4)) :: (cellsX T63 b3.1 ++ (cellsX T65 b3.2.1 ++ (cellsX T69 b3.2.2))))))] ?_
            rcases zI h with ⟨hb49, h⟩ | ⟨hb49, h⟩
            ·refine zS 2 [(88, .bool true), (89, .bp 53000 0), (90, .bp 36000 0)] [(36000, .box 71 (.int .i64 (1 + (shape.1 % 4)) :: (.int .i64 (1 + (shape.2 % 4)) :: (cellsX T63 b4.1 ++ (cellsX T65 b4.2.1 ++ (cellsX T69 b4.2.2)))))), (53000, .box 71 (.int .i64 (1 + (shape.1 % 4)) :: (.int .i64 (1 + (shape.2 % 4)) :: (cellsX T63 b3.1 ++ (cellsX T65 b3.2.1 ++ (cellsX T69 b3.2.2))))))] ?_
             obtain ⟨v0_34, hv50, h⟩ := Option.bind_eq_some_iff.1 h
             refine zG [] [(1000, 53000), (1001, 36000)] (hc_hazard_Same ((1 + (shape.1 % 4)), (1 + (shape.2 % 4)), b3) ((1 + (shape.1 % 4)), (1 + (shape.2 % 4)), b4) hv50) [(88, .bool true), (91, .bool v0_34)] [] ?_
             refine zS 2 [(93, .bool v0_34)] [] ?_
             rcases zI h with ⟨hb51, h⟩ | ⟨hb51, h⟩
             ·refine zT [(93, .bool true)] [] gt ?_
              obtain ⟨v0_35, hv52, h⟩ := Option.bind_eq_some_iff.1 h
              refine zG [] [] (hc_lineallaw06_Sane hv52) [(93, .bool true), (94, .bool v0_35)] [] ?_
              refine zB [(6, .bool v0_35)] [] ?_
              refine AW.ret ?_
              obtain rfl := Option.some.inj h
              exact zR [] [] []
             ·refine zB [(6, .bool false)] [] ?_
              refine AW.ret ?_
              obtain rfl := Option.some.inj h
              exact zR [] [] []
            ·refine zS 5 [(93, .bool false)] [] ?_
             refine zB [(6, .bool false)] [] ?_
             refine AW.ret ?_
             obtain rfl := Option.some.inj h
             exact zR [] [] []
          ·refine AW.seq ?_
           refine zo ?_
           refine zB [(2, .sl (.pair (.int .i64) (.pair (.int .i64) (.pair (.int .i64) (.int .i64)))) more), (7, .bp 36000 0), (9, .bp 53000 0), (14, .int .i64 0)] [(36000, .box 71 (.int .i64 (1 + (shape.1 % 4)) :: (.int .i64 (1 + (shape.2 % 4)) :: (cellsX T63 v0_5.1 ++ (cellsX T65 v0_5.2.1 ++ (cellsX T69 v0_5.2.2)))))), (53000, .box 71 (.int .i64 (1 + (shape.1 % 4)) :: (.int .i64 (1 + (shape.2 % 4)) :: (cellsX T63 b3.1 ++ (cellsX T65 b3.2.1 ++ (cellsX T69 b3.2.2))))))] ?_
           refine AW.block ?_
           obtain ⟨rv57, hw53, ho54⟩ := Option.bind_eq_some_iff.1 h
           refine AW.loopO (lineallaw06_HazardCopies_b4 shape more) (fun st4 => ⟨fr [(2, .sl (.pair (.int .i64) (.pair (.int .i64) (.pair (.int .i64) (.int .i64)))) more), (7, .bp 36000 0), (9, .bp 53000 0), (14, .int .i64 st4.2.2.2)], hpGet [(36000, .box 71 (.int .i64 (1 + (shape.1 % 4)) :: (.int .i64 (1 + (shape.2 % 4)) :: (cellsX T63 st4.1 ++ (cellsX T65 st4.2.1 ++ (cellsX T69 st4.2.2.1)))))), (53000, .box 71 (.int .i64 (1 + (shape.1 % 4)) :: (.int .i64 (1 + (shape.2 % 4)) :: (cellsX T63 b3.1 ++ (cellsX T65 b3.2.1 ++ (cellsX T69 b3.2.2))))))], gt⟩) (v0_5.1, v0_5.2.1, v0_5.2.2, 0) hw53 (zL [] [] []) ?_
           as_aux_lemma =>
            intro st4 x56 h hd55
            unfold lineallaw06_HazardCopies_b4 at h
            refine AW.seq ?_
            refine zo ?_
            refine zB [(2, .sl (.pair (.int .i64) (.pair (.int .i64) (.pair (.int .i64) (.int .i64)))) more), (7, .bp 36000 0), (9, .bp 53000 0), (14, .int .i64 st4.2.2.2), (76, .bool (decide (st4.2.2.2 < (more.length : Int))))] [(36000, .box 71 (.int .i64 (1 + (shape.1 % 4)) :: (.int .i64 (1 + (shape.2 % 4)) :: (cellsX T63 st4.1 ++ (cellsX T65 st4.2.1 ++ (cellsX T69 st4.2.2.1)))))), (53000, .box 71 (.int .i64 (1 + (shape.1 % 4)) :: (.int .i64 (1 + (shape.2 % 4)) :: (cellsX T63 b3.1 ++ (cellsX T65 b3.2.1 ++ (cellsX T69 b3.2.2))))))] ?_
            refine zQ h (fun hb58 h => ?_) (fun hb58 h => ?_)
            ·refine zk ?_
             refine AW.seq ?_
             refine AW.block ?_
             refine AW.ops ?_
             obtain ⟨c59, h⟩ := ck_some.1 h
             obtain ⟨c60, h⟩ := ck_some.1 h
             refine zS 5 [(2, .sl (.pair (.int .i64) (.pair (.int .i64) (.pair (.int .i64) (.int .i64)))) more), (7, .bp 36000 0), (9, .bp 53000 0), (14, .int .i64 st4.2.2.2), (79, .bp 36000 0), (83, .agg [.int .i64 (more.getD st4.2.2.2.toNat (0, 0, 0, 0)).1, .int .i64 (more.getD st4.2.2.2.toNat (0, 0, 0, 0)).2.1, .int .i64 (more.getD st4.2.2.2.toNat (0, 0, 0, 0)).2.2.1, .int .i64 (more.getD st4.2.2.2.toNat (0, 0, 0, 0)).2.2.2])] [(36000, .box 71 (.int .i64 (1 + (shape.1 % 4)) :: (.int .i64 (1 + (shape.2 % 4)) :: (cellsX T63 st4.1 ++ (cellsX T65 st4.2.1 ++ (cellsX T69 st4.2.2.1)))))), (53000, .box 71 (.int .i64 (1 + (shape.1 % 4)) :: (.int .i64 (1 + (shape.2 % 4)) :: (cellsX T63 b3.1 ++ (cellsX T65 b3.2.1 ++ (cellsX T69 b3.2.2))))))] ?_
             obtain ⟨v0_32, hv61, h⟩ := Option.bind_eq_some_iff.1 h
             refine zC [] [(1000, 36000)] (hc_hazard_Yard_Do (more.getD st4.2.2.2.toNat (0, 0, 0, 0)) ((1 + (shape.1 % 4)), (1 + (shape.2 % 4)), st4.1, st4.2.1, st4.2.2.1) hv61) [(2, .sl (.pair (.int .i64) (.pair (.int .i64) (.pair (.int .i64) (.int .i64)))) more), (7, .bp 36000 0), (9, .bp 53000 0), (14, .int .i64 st4.2.2.2)] [(36000, .box 71 (.int .i64 (1 + (shape.1 % 4)) :: (.int .i64 (1 + (shape.2 % 4)) :: (cellsX T63 v0_32.2.2.1 ++ (cellsX T65 v0_32.2.2.2.1 ++ (cellsX T69 v0_32.2.2.2.2)))))), (53000, .box 71 (.int .i64 (1 + (shape.1 % 4)) :: (.int .i64 (1 + (shape.2 % 4)) :: (cellsX T63 b3.1 ++ (cellsX T65 b3.2.1 ++ (cellsX T69 b3.2.2))))))] ?_
             refine zA [(2, .sl (.pair (.int .i64) (.pair (.int .i64) (.pair (.int .i64) (.int .i64)))) more), (7, .bp 36000 0), (9, .bp 53000 0), (14, .int .i64 st4.2.2.2)] [(36000, .box 71 (.int .i64 (1 + (shape.1 % 4)) :: (.int .i64 (1 + (shape.2 % 4)) :: (cellsX T63 v0_32.2.2.1 ++ (cellsX T65 v0_32.2.2.2.1 ++ (cellsX T69 v0_32.2.2.2.2)))))), (53000, .box 71 (.int .i64 (1 + (shape.1 % 4)) :: (.int .i64 (1 + (shape.2 % 4)) :: (cellsX T63 b3.1 ++ (cellsX T65 b3.2.1 ++ (cellsX T69 b3.2.2))))))] ?_
             refine ablock_n ?_
             refine athen_n ?_
             refine AW.ops ?_
             obtain ⟨c62, h⟩ := ck_some.1 h
             refine zA [(2, .sl (.pair (.int .i64) (.pair (.int .i64) (.pair (.int .i64) (.int .i64)))) more), (7, .bp 36000 0), (9, .bp 53000 0), (14, .int .i64 (st4.2.2.2 + 1))] [(36000, .box 71 (.int .i64 (1 + (shape.1 % 4)) :: (.int .i64 (1 + (shape.2 % 4)) :: (cellsX T63 v0_32.2.2.1 ++ (cellsX T65 v0_32.2.2.2.1 ++ (cellsX T69 v0_32.2.2.2.2)))))), (53000, .box 71 (.int .i64 (1 + (shape.1 % 4)) :: (.int .i64 (1 + (shape.2 % 4)) :: (cellsX T63 b3.1 ++ (cellsX T65 b3.2.1 ++ (cellsX T69 b3.2.2))))))] ?_
             obtain rfl := Option.some.inj h
             exact ⟨_, rfl, zL [] [] []⟩
            ·refine AW.exit ?_
             refine athen_e ?_
             obtain rfl := Option.some.inj h
             rw [← hd55 _ rfl] at ho54
             have h := ho54
             refine athen_e ?_
             refine ablock_s ?_
             refine athen_n ?_
             exact AW.weaken (zL [] [] []) (hk_lineallaw06_HazardCopies_k4 _ h)
       ·refine AW.seq ?_
        refine zo ?_
        refine zB [(2, .sl (.pair (.int .i64) (.pair (.int .i64) (.pair (.int .i64) (.int .i64)))) more), (7, .bp 36000 0), (8, .bp 39000 0), (9, .bp 53000 0), (10, .int .i64 0)] [(36000, .box 71 (.int .i64 (1 + (shape.1 % 4)) :: (.int .i64 (1 + (shape.2 % 4)) :: (cellsX T63 v0_5.1 ++ (cellsX T65 v0_5.2.1 ++ (cellsX T69 v0_5.2.2)))))), (39000, .box 71 (.int .i64 (1 + (shape.1 % 4)) :: (.int .i64 (1 + (shape.2 % 4)) :: (cellsX T63 v0_11.1 ++ (cellsX T65 v0_11.2.1 ++ (cellsX T69 v0_11.2.2)))))), (53000, .box 71 (.int .i64 (1 + (shape.1 % 4)) :: (.int .i64 (1 + (shape.2 % 4)) :: (cellsX T63 v0_5.1 ++ (cellsX T65 v0_5.2.1 ++ (cellsX T69 v0_5.2.2))))))] ?_
        refine AW.block ?_
        obtain ⟨rv67, hw63, ho64⟩ := Option.bind_eq_some_iff.1 h
        refine AW.loopO (lineallaw06_HazardCopies_b3 shape more) (fun st3 => ⟨fr [(2, .sl (.pair (.int .i64) (.pair (.int .i64) (.pair (.int .i64) (.int .i64)))) more), (7, .bp 36000 0), (8, .bp 39000 0), (9, .bp 53000 0), (10, .int .i64 st3.2.2.2)], hpGet [(36000, .box 71 (.int .i64 (1 + (shape.1 % 4)) :: (.int .i64 (1 + (shape.2 % 4)) :: (cellsX T63 v0_5.1 ++ (cellsX T65 v0_5.2.1 ++ (cellsX T69 v0_5.2.2)))))), (39000, .box 71 (.int .i64 (1 + (shape.1 % 4)) :: (.int .i64 (1 + (shape.2 % 4)) :: (cellsX T63 v0_11.1 ++ (cellsX T65 v0_11.2.1 ++ (cellsX T69 v0_11.2.2)))))), (53000, .box 71 (.int .i64 (1 + (shape.1 % 4)) :: (.int .i64 (1 + (shape.2 % 4)) :: (cellsX T63 st3.1 ++ (cellsX T65 st3.2.1 ++ (cellsX T69 st3.2.2.1))))))], gt⟩) (v0_5.1, v0_5.2.1, v0_5.2.2, 0) hw63 (zL [] [] []) ?_
        as_aux_lemma =>
         intro st3 x66 h hd65
         unfold lineallaw06_HazardCopies_b3 at h
         refine AW.seq ?_
         refine zo ?_
         refine zB [(2, .sl (.pair (.int .i64) (.pair (.int .i64) (.pair (.int .i64) (.int .i64)))) more), (7, .bp 36000 0), (8, .bp 39000 0), (9, .bp 53000 0), (10, .int .i64 st3.2.2.2), (47, .bool (decide (st3.2.2.2 < (more.length : Int))))] [(36000, .box 71 (.int .i64 (1 + (shape.1 % 4)) :: (.int .i64 (1 + (shape.2 % 4)) :: (cellsX T63 v0_5.1 ++ (cellsX T65 v0_5.2.1 ++ (cellsX T69 v0_5.2.2)))))), (39000, .box 71 (.int .i64 (1 + (shape.1 % 4)) :: (.int .i64 (1 + (shape.2 % 4)) :: (cellsX T63 v0_11.1 ++ (cellsX T65 v0_11.2.1 ++ (cellsX T69 v0_11.2.2)))))), (53000, .box 71 (.int .i64 (1 + (shape.1 % 4)) :: (.int .i64 (1 + (shape.2 % 4)) :: (cellsX T63 st3.1 ++ (cellsX T65 st3.2.1 ++ (cellsX T69 st3.2.2.1))))))] ?_
         refine zQ h (fun hb68 h => ?_) (fun hb68 h => ?_)
         ·refine zk ?_
          refine AW.seq ?_
          refine AW.block ?_
          refine zo ?_
          refine zS 1 [(2, .sl (.pair (.int .i64) (.pair (.int .i64) (.pair (.int .i64) (.int .i64)))) more), (7, .bp 36000 0), (8, .bp 39000 0), (9, .bp 53000 0), (10, .int .i64 st3.2.2.2), (50, .bp 53000 0)] [(36000, .box 71 (.int .i64 (1 + (shape.1 % 4)) :: (.int .i64 (1 + (shape.2 % 4)) :: (cellsX T63 v0_5.1 ++ (cellsX T65 v0_5.2.1 ++ (cellsX T69 v0_5.2.2)))))), (39000, .box 71 (.int .i64 (1 + (shape.1 % 4)) :: (.int .i64 (1 + (shape.2 % 4)) :: (cellsX T63 v0_11.1 ++ (cellsX T65 v0_11.2.1 ++ (cellsX T69 v0_11.2.2)))))), (53000, .box 71 (.int .i64 (1 + (shape.1 % 4)) :: (.int .i64 (1 + (shape.2 % 4)) :: (cellsX T63 st3.1 ++ (cellsX T65 st3.2.1 ++ (cellsX T69 st3.2.2.1))))))] ?_
          obtain ⟨v0_24, hv69, h⟩ := Option.bind_eq_some_iff.1 h
          rcases v0_24 with v0_25 | v0_26
          ·try simp only at h
           refine zC [] [(1000, 53000)] (hc_hazard_Yard_Copy_a0 ((1 + (shape.1 % 4)), (1 + (shape.2 % 4)), st3.1, st3.2.1, st3.2.2.1) hv69) [(2, .sl (.pair (.int .i64) (.pair (.int .i64) (.pair (.int .i64) (.int .i64)))) more), (7, .bp 36000 0), (8, .bp 39000 0), (9, .bp 53000 0), (10, .int .i64 st3.2.2.2), (51, .cv (.pointer none))] [(36000, .box 71 (.int .i64 (1 + (shape.1 % 4)) :: (.int .i64 (1 + (shape.2 % 4)) :: (cellsX T63 v0_5.1 ++ (cellsX T65 v0_5.2.1 ++ (cellsX T69 v0_5.2.2)))))), (39000, .box 71 (.int .i64 (1 + (shape.1 % 4)) :: (.int .i64 (1 + (shape.2 % 4)) :: (cellsX T63 v0_11.1 ++ (cellsX T65 v0_11.2.1 ++ (cellsX T69 v0_11.2.2)))))), (53000, .box 71 (.int .i64 (1 + (shape.1 % 4)) :: (.int .i64 (1 + (shape.2 % 4)) :: (cellsX T63 st3.1 ++ (cellsX T65 st3.2.1 ++ (cellsX T69 st3.2.2.1))))))] ?_
           refine zB [(2, .sl (.pair (.int .i64) (.pair (.int .i64) (.pair (.int .i64) (.int .i64)))) more), (7, .bp 36000 0), (8, .bp 39000 0), (9, .bp 53000 0), (10, .int .i64 st3.2.2.2), (11, .cv (.pointer none))] [(36000, .box 71 (.int .i64 (1 + (shape.1 % 4)) :: (.int .i64 (1 + (shape.2 % 4)) :: (cellsX T63 v0_5.1 ++ (cellsX T65 v0_5.2.1 ++ (cellsX T69 v0_5.2.2)))))), (39000, .box 71 (.int .i64 (1 + (shape.1 % 4)) :: (.int .i64 (1 + (shape.2 % 4)) :: (cellsX T63 v0_11.1 ++ (cellsX T65 v0_11.2.1 ++ (cellsX T69 v0_11.2.2)))))), (53000, .box 71 (.int .i64 (1 + (shape.1 % 4)) :: (.int .i64 (1 + (shape.2 % 4)) :: (cellsX T63 st3.1 ++ (cellsX T65 st3.2.1 ++ (cellsX T69 st3.2.2.1))))))] ?_
           refine zo ?_
           obtain ⟨c70, h⟩ := ck_some.1 h
           obtain ⟨c71, h⟩ := ck_some.1 h
           refine zS 5 [(2, .sl (.pair (.int .i64) (.pair (.int .i64) (.pair (.int .i64) (.int .i64)))) more), (7, .bp 36000 0), (8, .bp 39000 0), (9, .bp 53000 0), (10, .int .i64 st3.2.2.2), (11, .cv (.pointer none)), (53, .bp 53000 0), (57, .agg [.int .i64 (more.getD st3.2.2.2.toNat (0, 0, 0, 0)).1, .int .i64 (more.getD st3.2.2.2.toNat (0, 0, 0, 0)).2.1, .int .i64 (more.getD st3.2.2.2.toNat (0, 0, 0, 0)).2.2.1, .int .i64 (more.getD st3.2.2.2.toNat (0, 0, 0, 0)).2.2.2])] [(36000, .box 71 (.int .i64 (1 + (shape.1 % 4)) :: (.int .i64 (1 + (shape.2 % 4)) :: (cellsX T63 v0_5.1 ++ (cellsX T65 v0_5.2.1 ++ (cellsX T69 v0_5.2.2)))))), (39000, .box 71 (.int .i64 (1 + (shape.1 % 4)) :: (.int .i64 (1 + (shape.2 % 4)) :: (cellsX T63 v0_11.1 ++ (cellsX T65 v0_11.2.1 ++ (cellsX T69 v0_11.2.2)))))), (53000, .box 71 (.int .i64 (1 + (shape.1 % 4)) :: (.int .i64 (1 + (shape.2 % 4)) :: (cellsX T63 st3.1 ++ (cellsX T65 st3.2.1 ++ (cellsX T69 st3.2.2.1))))))] ?_
           obtain ⟨v0_27, hv72, h⟩ := Option.bind_eq_some_iff.1 h
           refine zC [] [(1000, 53000)] (hc_hazard_Yard_Do (more.getD st3.2.2.2.toNat (0, 0, 0, 0)) ((1 + (shape.1 % 4)), (1 + (shape.2 % 4)), st3.1, st3.2.1, st3.2.2.1) hv72) [(2, .sl (.pair (.int .i64) (.pair (.int .i64) (.pair (.int .i64) (.int .i64)))) more), (7, .bp 36000 0), (8, .bp 39000 0), (9, .bp 53000 0), (10, .int .i64 st3.2.2.2), (11, .cv (.pointer none)), (58, .tup [.int .i64 v0_27.1, .int .i64 v0_27.2.1])] [(36000, .box 71 (.int .i64 (1 + (shape.1 % 4)) :: (.int .i64 (1 + (shape.2 % 4)) :: (cellsX T63 v0_5.1 ++ (cellsX T65 v0_5.2.1 ++ (cellsX T69 v0_5.2.2)))))), (39000, .box 71 (.int .i64 (1 + (shape.1 % 4)) :: (.int .i64 (1 + (shape.2 % 4)) :: (cellsX T63 v0_11.1 ++ (cellsX T65 v0_11.2.1 ++ (cellsX T69 v0_11.2.2)))))), (53000, .box 71 (.int .i64 (1 + (shape.1 % 4)) :: (.int .i64 (1 + (shape.2 % 4)) :: (cellsX T63 v0_27.2.2.1 ++ (cellsX T65 v0_27.2.2.2.1 ++ (cellsX T69 v0_27.2.2.2.2))))))] ?_
           refine zB [(2, .sl (.pair (.int .i64) (.pair (.int .i64) (.pair (.int .i64) (.int .i64)))) more), (7, .bp 36000 0), (8, .bp 39000 0), (9, .bp 53000 0), (10, .int .i64 st3.2.2.2), (11, .cv (.pointer none)), (13, .int .i64 v0_27.2.1)] [(36000, .box 71 (.int .i64 (1 + (shape.1 % 4)) :: (.int .i64 (1 + (shape.2 % 4)) :: (cellsX T63 v0_5.1 ++ (cellsX T65 v0_5.2.1 ++ (cellsX T69 v0_5.2.2)))))), (39000, .box 71 (.int .i64 (1 + (shape.1 % 4)) :: (.int .i64 (1 + (shape.2 % 4)) :: (cellsX T63 v0_11.1 ++ (cellsX T65 v0_11.2.1 ++ (cellsX T69 v0_11.2.2)))))), (53000, .box 71 (.int .i64 (1 + (shape.1 % 4)) :: (.int .i64 (1 + (shape.2 % 4)) :: (cellsX T63 v0_27.2.2.1 ++ (cellsX T65 v0_27.2.2.2.1 ++ (cellsX T69 v0_27.2.2.2.2))))))] ?_
           refine zo ?_
           refine zS 3 [(2, .sl (.pair (.int .i64) (.pair (.int .i64) (.pair (.int .i64) (.int .i64)))) more), (7, .bp 36000 0), (8, .bp 39000 0), (9, .bp 53000 0), (10, .int .i64 st3.2.2.2), (11, .cv (.pointer none)), (63, .bool (!(decide (v0_27.2.1 = 0))))] [(36000, .box 71 (.int .i64 (1 + (shape.1 % 4)) :: (.int .i64 (1 + (shape.2 % 4)) :: (cellsX T63 v0_5.1 ++ (cellsX T65 v0_5.2.1 ++ (cellsX T69 v0_5.2.2)))))), (39000, .box 71 (.int .i64 (1 + (shape.1 % 4)) :: (.int .i64 (1 + (shape.2 % 4)) :: (cellsX T63 v0_11.1 ++ (cellsX T65 v0_11.2.1 ++ (cellsX T69 v0_11.2.2)))))), (53000, .box 71 (.int .i64 (1 + (shape.1 % 4)) :: (.int .i64 (1 + (shape.2 % 4)) :: (cellsX T63 v0_27.2.2.1 ++ (cellsX T65 v0_27.2.2.2.1 ++ (cellsX T69 v0_27.2.2.2.2))))))] ?_
           rcases zI h with ⟨hb73, h⟩ | ⟨hb73, h⟩
           ·refine zS 2 [(2, .sl (.pair (.int .i64) (.pair (.int .i64) (.pair (.int .i64) (.int .i64)))) more), (7, .bp 36000 0), (8, .bp 39000 0), (9, .bp 53000 0), (10, .int .i64 st3.2.2.2), (63, .bool true), (64, .bp 53000 0), (65, .cv (.pointer none))] [(36000, .box 71 (.int .i64 (1 + (shape.1 % 4)) :: (.int .i64 (1 + (shape.2 % 4)) :: (cellsX T63 v0_5.1 ++ (cellsX T65 v0_5.2.1 ++ (cellsX T69 v0_5.2.2)))))), (39000, .box 71 (.int .i64 (1 + (shape.1 % 4)) :: (.int .i64 (1 + (shape.2 % 4)) :: (cellsX T63 v0_11.1 ++ (cellsX T65 v0_11.2.1 ++ (cellsX T69 v0_11.2.2)))))), (53000, .box 71 (.int .i64 (1 + (shape.1 % 4)) :: (.int .i64 (1 + (shape.2 % 4)) :: (cellsX T63 v0_27.2.2.1 ++ (cellsX T65 v0_27.2.2.2.1 ++ (cellsX T69 v0_27.2.2.2.2))))))] ?_
            obtain ⟨v0_28, hv74, h⟩ := Option.bind_eq_some_iff.1 h
            refine zG [] [(1000, 53000)] (hc_hazard_Same_3 ((1 + (shape.1 % 4)), (1 + (shape.2 % 4)), v0_27.2.2) hv74) [(2, .sl (.pair (.int .i64) (.pair (.int .i64) (.pair (.int .i64) (.int .i64)))) more), (7, .bp 36000 0), (8, .bp 39000 0), (9, .bp 53000 0), (10, .int .i64 st3.2.2.2), (63, .bool true), (66, .bool v0_28)] [(36000, .box 71 (.int .i64 (1 + (shape.1 % 4)) :: (.int .i64 (1 + (shape.2 % 4)) :: (cellsX T63 v0_5.1 ++ (cellsX T65 v0_5.2.1 ++ (cellsX T69 v0_5.2.2)))))), (39000, .box 71 (.int .i64 (1 + (shape.1 % 4)) :: (.int .i64 (1 + (shape.2 % 4)) :: (cellsX T63 v0_11.1 ++ (cellsX T65 v0_11.2.1 ++ (cellsX T69 v0_11.2.2)))))), (53000, .box 71 (.int .i64 (1 + (shape.1 % 4)) :: (.int .i64 (1 + (shape.2 % 4)) :: (cellsX T63 v0_27.2.2.1 ++ (cellsX T65 v0_27.2.2.2.1 ++ (cellsX T69 v0_27.2.2.2.2))))))] ?_
            refine zB [(2, .sl (.pair (.int .i64) (.pair (.int .i64) (.pair (.int .i64) (.int .i64)))) more), (7, .bp 36000 0), (8, .bp 39000 0), (9, .bp 53000 0), (10, .int .i64 st3.2.2.2), (68, .bool (!v0_28))] [(36000, .box 71 (.int .i64 (1 + (shape.1 % 4)) :: (.int .i64 (1 + (shape.2 % 4)) :: (cellsX T63 v0_5.1 ++ (cellsX T65 v0_5.2.1 ++ (cellsX T69 v0_5.2.2)))))), (39000, .box 71 (.int .i64 (1 + (shape.1 % 4)) :: (.int .i64 (1 + (shape.2 % 4)) :: (cellsX T63 v0_11.1 ++ (cellsX T65 v0_11.2.1 ++ (cellsX T69 v0_11.2.2)))))), (53000, .box 71 (.int .i64 (1 + (shape.1 % 4)) :: (.int .i64 (1 + (shape.2 % 4)) :: (cellsX T63 v0_27.2.2.1 ++ (cellsX T65 v0_27.2.2.2.1 ++ (cellsX T69 v0_27.2.2.2.2))))))] ?_
            refine zQ h (fun hb75 h => ?_) (fun hb75 h => ?_)
            ·refine zo ?_
             refine zB [(6, .bool false)] [] ?_
             refine AW.ret ?_
             refine ablock_r ?_
             refine athen_r ?_
             obtain rfl := Option.some.inj h
             try rw [← hd65 _ rfl] at ho64
             have h := ho64
             try simp only at h
             refine athen_r ?_
             refine ablock_r ?_
             refine athen_r ?_
             obtain rfl := Option.some.inj h
             exact zR [] [] []
            ·refine zm ?_
             refine athen_n ?_
             refine AW.ops ?_
             obtain ⟨c76, h⟩ := ck_some.1 h
             refine zA [(2, .sl (.pair (.int .i64) (.pair (.int .i64) (.pair (.int .i64) (.int .i64)))) more), (7, .bp 36000 0), (8, .bp 39000 0), (9, .bp 53000 0), (10, .int .i64 (st3.2.2.2 + 1))] [(36000, .box 71 (.int .i64 (1 + (shape.1 % 4)) :: (.int .i64 (1 + (shape.2 % 4)) :: (cellsX T63 v0_5.1 ++ (cellsX T65 v0_5.2.1 ++ (cellsX T69 v0_5.2.2)))))), (39000, .box 71 (.int .i64 (1 + (shape.1 % 4)) :: (.int .i64 (1 + (shape.2 % 4)) :: (cellsX T63 v0_11.1 ++ (cellsX T65 v0_11.2.1 ++ (cellsX T69 v0_11.2.2)))))), (53000, .box 71 (.int .i64 (1 + (shape.1 % 4)) :: (.int .i64 (1 + (shape.2 % 4)) :: (cellsX T63 v0_27.2.2.1 ++ (cellsX T65 v0_27.2.2.2.1 ++ (cellsX T69 v0_27.2.2.2.2))))))] ?_
             obtain rfl := Option.some.inj h
             exact ⟨_, rfl, zL [] [] []⟩
           ·refine zS 4 [(2, .sl (.pair (.int .i64) (.pair (.int .i64) (.pair (.int .i64) (.int .i64)))) more), (7, .bp 36000 0), (8, .bp 39000 0), (9, .bp 53000 0), (10, .int .i64 st3.2.2.2), (63, .bool false), (67, .cv (undef))] [(36000, .box 71 (.int .i64 (1 + (shape.1 % 4)) :: (.int .i64 (1 + (shape.2 % 4)) :: (cellsX T63 v0_5.1 ++ (cellsX T65 v0_5.2.1 ++ (cellsX T69 v0_5.2.2)))))), (39000, .box 71 (.int .i64 (1 + (shape.1 % 4)) :: (.int .i64 (1 + (shape.2 % 4)) :: (cellsX T63 v0_11.1 ++ (cellsX T65 v0_11.2.1 ++ (cellsX T69 v0_11.2.2)))))), (53000, .box 71 (.int .i64 (1 + (shape.1 % 4)) :: (.int .i64 (1 + (shape.2 % 4)) :: (cellsX T63 v0_27.2.2.1 ++ (cellsX T65 v0_27.2.2.2.1 ++ (cellsX T69 v0_27.2.2.2.2))))))] ?_
            refine zB [(2, .sl (.pair (.int .i64) (.pair (.int .i64) (.pair (.int .i64) (.int .i64)))) more), (7, .bp 36000 0), (8, .bp 39000 0), (9, .bp 53000 0), (10, .int .i64 st3.2.2.2), (68, .bool false)] [(36000, .box 71 (.int .i64 (1 + (shape.1 % 4)) :: (.int .i64 (1 + (shape.2 % 4)) :: (cellsX T63 v0_5.1 ++ (cellsX T65 v0_5.2.1 ++ (cellsX T69 v0_5.2.2)))))), (39000, .box 71 (.int .i64 (1 + (shape.1 % 4)) :: (.int .i64 (1 + (shape.2 % 4)) :: (cellsX T63 v0_11.1 ++ (cellsX T65 v0_11.2.1 ++ (cellsX T69 v0_11.2.2)))))), (53000, .box 71 (.int .i64 (1 + (shape.1 % 4)) :: (.int .i64 (1 + (shape.2 % 4)) :: (cellsX T63 v0_27.2.2.1 ++ (cellsX T65 v0_27.2.2.2.1 ++ (cellsX T69 v0_27.2.2.2.2))))))] ?_
            refine AW.cond (b := false) rfl (fun hb77 => by cases hb77) (fun _ => ?_)
            refine zm ?_
            refine athen_n ?_
            refine AW.ops ?_
            obtain ⟨c78, h⟩ := ck_some.1 h
            refine zA [(2, .sl (.pair (.int .i64) (.pair (.int .i64) (.pair (.int .i64) (.int .i64)))) more), (7, .bp 36000 0), (8, .bp 39000 0), (9, .bp 53000 0), (10, .int .i64 (st3.2.2.2 + 1))] [(36000, .box 71 (.int .i64 (1 + (shape.1 % 4)) :: (.int .i64 (1 + (shape.2 % 4)) :: (cellsX T63 v0_5.1 ++ (cellsX T65 v0_5.2.1 ++ (cellsX T69 v0_5.2.2)))))), (39000, .box 71 (.int .i64 (1 + (shape.1 % 4)) :: (.int .i64 (1 + (shape.2 % 4)) :: (cellsX T63 v0_11.1 ++ (cellsX T65 v0_11.2.1 ++ (cellsX T69 v0_11.2.2)))))), (53000, .box 71 (.int .i64 (1 + (shape.1 % 4)) :: (.int .i64 (1 + (shape.2 % 4)) :: (cellsX T63 v0_27.2.2.1 ++ (cellsX T65 v0_27.2.2.2.1 ++ (cellsX T69 v0_27.2.2.2.2))))))] ?_
            obtain rfl := Option.some.inj h
            exact ⟨_, rfl, zL [] [] []⟩
          ·try simp only at h
           refine zC [] [(1000, 53000)] (hc_hazard_Yard_Copy_a1 ((1 + (shape.1 % 4)), (1 + (shape.2 % 4)), st3.1, st3.2.1, st3.2.2.1) hv69) [(2, .sl (.pair (.int .i64) (.pair (.int .i64) (.pair (.int .i64) (.int .i64)))) more), (7, .bp 36000 0), (8, .bp 39000 0), (9, .bp 53000 0), (10, .int .i64 st3.2.2.2), (51, .bp 61000 0)] [(36000, .box 71 (.int .i64 (1 + (shape.1 % 4)) :: (.int .i64 (1 + (shape.2 % 4)) :: (cellsX T63 v0_5.1 ++ (cellsX T65 v0_5.2.1 ++ (cellsX T69 v0_5.2.2)))))), (39000, .box 71 (.int .i64 (1 + (shape.1 % 4)) :: (.int .i64 (1 + (shape.2 % 4)) :: (cellsX T63 v0_11.1 ++ (cellsX T65 v0_11.2.1 ++ (cellsX T69 v0_11.2.2)))))), (53000, .box 71 (.int .i64 (1 + (shape.1 % 4)) :: (.int .i64 (1 + (shape.2 % 4)) :: (cellsX T63 st3.1 ++ (cellsX T65 st3.2.1 ++ (cellsX T69 st3.2.2.1)))))), (61000, .box 71 (.int .i64 (1 + (shape.1 % 4)) :: (.int .i64 (1 + (shape.2 % 4)) :: (cellsX T63 st3.1 ++ (cellsX T65 st3.2.1 ++ (cellsX T69 st3.2.2.1))))))] ?_
           refine zB [(2, .sl (.pair (.int .i64) (.pair (.int .i64) (.pair (.int .i64) (.int .i64)))) more), (7, .bp 36000 0), (8, .bp 39000 0), (9, .bp 53000 0), (10, .int .i64 st3.2.2.2), (11, .bp 61000 0)] [(36000, .box 71 (.int .i64 (1 + (shape.1 % 4)) :: (.int .i64 (1 + (shape.2 % 4)) :: (cellsX T63 v0_5.1 ++ (cellsX T65 v0_5.2.1 ++ (cellsX T69 v0_5.2.2)))))), (39000, .box 71 (.int .i64 (1 + (shape.1 % 4)) :: (.int .i64 (1 + (shape.2 % 4)) :: (cellsX T63 v0_11.1 ++ (cellsX T65 v0_11.2.1 ++ (cellsX T69 v0_11.2.2)))))), (53000, .box 71 (.int .i64 (1 + (shape.1 % 4)) :: (.int .i64 (1 + (shape.2 % 4)) :: (cellsX T63 st3.1 ++ (cellsX T65 st3.2.1 ++ (cellsX T69 st3.2.2.1)))))), (61000, .box 71 (.int .i64 (1 + (shape.1 % 4)) :: (.int .i64 (1 + (shape.2 % 4)) :: (cellsX T63 st3.1 ++ (cellsX T65 st3.2.1 ++ (cellsX T69 st3.2.2.1))))))] ?_
           refine zo ?_
           obtain ⟨c79, h⟩ := ck_some.1 h
           obtain ⟨c80, h⟩ := ck_some.1 h
           refine zS 5 [(2, .sl (.pair (.int .i64) (.pair (.int .i64) (.pair (.int .i64) (.int .i64)))) more), (7, .bp 36000 0), (8, .bp 39000 0), (9, .bp 53000 0), (10, .int .i64 st3.2.2.2), (11, .bp 61000 0), (53, .bp 53000 0), (57, .agg [.int .i64 (more.getD st3.2.2.2.toNat (0, 0, 0, 0)).1, .int .i64 (more.getD st3.2.2.2.toNat (0, 0, 0, 0)).2.1, .int .i64 (more.getD st3.2.2.2.toNat (0, 0, 0, 0)).2.2.1, .int .i64 (more.getD st3.2.2.2.toNat (0, 0, 0, 0)).2.2.2])] [(36000, .box 71 (.int .i64 (1 + (shape.1 % 4)) :: (.int .i64 (1 + (shape.2 % 4)) :: (cellsX T63 v0_5.1 ++ (cellsX T65 v0_5.2.1 ++ (cellsX T69 v0_5.2.2)))))), (39000, .box 71 (.int .i64 (1 + (shape.1 % 4)) :: (.int .i64 (1 + (shape.2 % 4)) :: (cellsX T63 v0_11.1 ++ (cellsX T65 v0_11.2.1 ++ (cellsX T69 v0_11.2.2)))))), (53000, .box 71 (.int .i64 (1 + (shape.1 % 4)) :: (.int .i64 (1 + (shape.2 % 4)) :: (cellsX T63 st3.1 ++ (cellsX T65 st3.2.1 ++ (cellsX T69 st3.2.2.1)))))), (61000, .box 71 (.int .i64 (1 + (shape.1 % 4)) :: (.int .i64 (1 + (shape.2 % 4)) :: (cellsX T63 st3.1 ++ (cellsX T65 st3.2.1 ++ (cellsX T69 st3.2.2.1))))))] ?_
           obtain ⟨v0_29, hv81, h⟩ := Option.bind_eq_some_iff.1 h
           refine zC [] [(1000, 53000)] (hc_hazard_Yard_Do (more.getD st3.2.2.2.toNat (0, 0, 0, 0)) ((1 + (shape.1 % 4)), (1 + (shape.2 % 4)), st3.1, st3.2.1, st3.2.2.1) hv81) [(2, .sl (.pair (.int .i64) (.pair (.int .i64) (.pair (.int .i64) (.int .i64)))) more), (7, .bp 36000 0), (8, .bp 39000 0), (9, .bp 53000 0), (10, .int .i64 st3.2.2.2), (11, .bp 61000 0), (58, .tup [.int .i64 v0_29.1, .int .i64 v0_29.2.1])] [(36000, .box 71 (.int .i64 (1 + (shape.1 % 4)) :: (.int .i64 (1 + (shape.2 % 4)) :: (cellsX T63 v0_5.1 ++ (cellsX T65 v0_5.2.1 ++ (cellsX T69 v0_5.2.2)))))), (39000, .box 71 (.int .i64 (1 + (shape.1 % 4)) :: (.int .i64 (1 + (shape.2 % 4)) :: (cellsX T63 v0_11.1 ++ (cellsX T65 v0_11.2.1 ++ (cellsX T69 v0_11.2.2)))))), (53000, .box 71 (.int .i64 (1 + (shape.1 % 4)) :: (.int .i64 (1 + (shape.2 % 4)) :: (cellsX T63 v0_29.2.2.1 ++ (cellsX T65 v0_29.2.2.2.1 ++ (cellsX T69 v0_29.2.2.2.2)))))), (61000, .box 71 (.int .i64 (1 + (shape.1 % 4)) :: (.int .i64 (1 + (shape.2 % 4)) :: (cellsX T63 st3.1 ++ (cellsX T65 st3.2.1 ++ (cellsX T69 st3.2.2.1))))))] ?_
           refine zB [(2, .sl (.pair (.int .i64) (.pair (.int .i64) (.pair (.int .i64) (.int .i64)))) more), (7, .bp 36000 0), (8, .bp 39000 0), (9, .bp 53000 0), (10, .int .i64 st3.2.2.2), (11, .bp 61000 0), (13, .int .i64 v0_29.2.1)] [(36000, .box 71 (.int .i64 (1 + (shape.1 % 4)) :: (.int .i64 (1 + (shape.2 % 4)) :: (cellsX T63 v0_5.1 ++ (cellsX T65 v0_5.2.1 ++ (cellsX T69 v0_5.2.2)))))), (39000, .box 71 (.int .i64 (1 + (shape.1 % 4)) :: (.int .i64 (1 + (shape.2 % 4)) :: (cellsX T63 v0_11.1 ++ (cellsX T65 v0_11.2.1 ++ (cellsX T69 v0_11.2.2)))))), (53000, .box 71 (.int .i64 (1 + (shape.1 % 4)) :: (.int .i64 (1 + (shape.2 % 4)) :: (cellsX T63 v0_29.2.2.1 ++ (cellsX T65 v0_29.2.2.2.1 ++ (cellsX T69 v0_29.2.2.2.2)))))), (61000, .box 71 (.int .i64 (1 + (shape.1 % 4)) :: (.int .i64 (1 + (shape.2 % 4)) :: (cellsX T63 st3.1 ++ (cellsX T65 st3.2.1 ++ (cellsX T69 st3.2.2.1))))))] ?_
           refine zo ?_
           refine zS 3 [(2, .sl (.pair (.int .i64) (.pair (.int .i64) (.pair (.int .i64) (.int .i64)))) more), (7, .bp 36000 0), (8, .bp 39000 0), (9, .bp 53000 0), (10, .int .i64 st3.2.2.2), (11, .bp 61000 0), (63, .bool (!(decide (v0_29.2.1 = 0))))] [(36000, .box 71 (.int .i64 (1 + (shape.1 % 4)) :: (.int .i64 (1 + (shape.2 % 4)) :: (cellsX T63 v0_5.1 ++ (cellsX T65 v0_5.2.1 ++ (cellsX T69 v0_5.2.2)))))), (39000, .box 71 (.int .i64 (1 + (shape.1 % 4)) :: (.int .i64 (1 + (shape.2 % 4)) :: (cellsX T63 v0_11.1 ++ (cellsX T65 v0_11.2.1 ++ (cellsX T69 v0_11.2.2)))))), (53000, .box 71 (.int .i64 (1 + (shape.1 % 4)) :: (.int .i64 (1 + (shape.2 % 4)) :: (cellsX T63 v0_29.2.2.1 ++ (cellsX T65 v0_29.2.2.2.1 ++ (cellsX T69 v0_29.2.2.2.2)))))), (61000, .box 71 (.int .i64 (1 + (shape.1 % 4)) :: (.int .i64 (1 + (shape.2 % 4)) :: (cellsX T63 st3.1 ++ (cellsX T65 st3.2.1 ++ (cellsX T69 st3.2.2.1))))))] ?_
           rcases zI h with ⟨hb82, h⟩ | ⟨hb82, h⟩
           ·refine zS 2 [(2, .sl (.pair (.int .i64) (.pair (.int .i64) (.pair (.int .i64) (.int .i64)))) more), (7, .bp 36000 0), (8, .bp 39000 0), (9, .bp 53000 0), (10, .int .i64 st3.2.2.2), (63, .bool true), (64, .bp 53000 0), (65, .bp 61000 0)] [(36000, .box 71 (.int .i64 (1 + (shape.1 % 4)) :: (.int .i64 (1 + (shape.2 % 4)) :: (cellsX T63 v0_5.1 ++ (cellsX T65 v0_5.2.1 ++ (cellsX T69 v0_5.2.2)))))), (39000, .box 71 (.int .i64 (1 + (shape.1 % 4)) :: (.int .i64 (1 + (shape.2 % 4)) :: (cellsX T63 v0_11.1 ++ (cellsX T65 v0_11.2.1 ++ (cellsX T69 v0_11.2.2)))))), (53000, .box 71 (.int .i64 (1 + (shape.1 % 4)) :: (.int .i64 (1 + (shape.2 % 4)) :: (cellsX T63 v0_29.2.2.1 ++ (cellsX T65 v0_29.2.2.2.1 ++ (cellsX T69 v0_29.2.2.2.2)))))), (61000, .box 71 (.int .i64 (1 + (shape.1 % 4)) :: (.int .i64 (1 + (shape.2 % 4)) :: (cellsX T63 st3.1 ++ (cellsX T65 st3.2.1 ++ (cellsX T69 st3.2.2.1))))))] ?_
            obtain ⟨v0_30, hv83, h⟩ := Option.bind_eq_some_iff.1 h
            refine zG [] [(1000, 53000), (1001, 61000)] (hc_hazard_Same ((1 + (shape.1 % 4)), (1 + (shape.2 % 4)), v0_29.2.2) ((1 + (shape.1 % 4)), (1 + (shape.2 % 4)), st3.1, st3.2.1, st3.2.2.1) hv83) [(2, .sl (.pair (.int .i64) (.pair (.int .i64) (.pair (.int .i64) (.int .i64)))) more), (7, .bp 36000 0), (8, .bp 39000 0), (9, .bp 53000 0), (10, .int .i64 st3.2.2.2), (63, .bool true), (66, .bool v0_30)] [(36000, .box 71 (.int .i64 (1 + (shape.1 % 4)) :: (.int .i64 (1 + (shape.2 % 4)) :: (cellsX T63 v0_5.1 ++ (cellsX T65 v0_5.2.1 ++ (cellsX T69 v0_5.2.2)))))), (39000, .box 71 (.int .i64 (1 + (shape.1 % 4)) :: (.int .i64 (1 + (shape.2 % 4)) :: (cellsX T63 v0_11.1 ++ (cellsX T65 v0_11.2.1 ++ (cellsX T69 v0_11.2.2)))))), (53000, .box 71 (.int .i64 (1 + (shape.1 % 4)) :: (.int .i64 (1 + (shape.2 % 4)) :: (cellsX T63 v0_29.2.2.1 ++ (cellsX T65 v0_29.2.2.2.1 ++ (cellsX T69 v0_29.2.2.2.2))))))] ?_
            refine zB [(2, .sl (.pair (.int .i64) (.pair (.int .i64) (.pair (.int .i64) (.int .i64)))) more), (7, .bp 36000 0), (8, .bp 39000 0), (9, .bp 53000 0), (10, .int .i64 st3.2.2.2), (68, .bool (!v0_30))] [(36000, .box 71 (.int .i64 (1 + (shape.1 % 4)) :: (.int .i64 (1 + (shape.2 % 4)) :: (cellsX T63 v0_5.1 ++ (cellsX T65 v0_5.2.1 ++ (cellsX T69 v0_5.2.2)))))), (39000, .box 71 (.int .i64 (1 + (shape.1 % 4)) :: (.int .i64 (1 + (shape.2 % 4)) :: (cellsX T63 v0_11.1 ++ (cellsX T65 v0_11.2.1 ++ (cellsX T69 v0_11.2.2)))))), (53000, .box 71 (.int .i64 (1 + (shape.1 % 4)) :: (.int .i64 (1 + (shape.2 % 4)) :: (cellsX T63 v0_29.2.2.1 ++ (cellsX T65 v0_29.2.2.2.1 ++ (cellsX T69 v0_29.2.2.2.2))))))] ?_
            refine zQ h (fun hb84 h => ?_) (fun hb84 h => ?_)
            ·refine zo ?_
             refine zB [(6, .bool false)] [] ?_
             refine AW.ret ?_
             refine ablock_r ?_
             refine athen_r ?_
             obtain rfl := Option.some.inj h
             try rw [← hd65 _ rfl] at ho64
             have h := ho64
             try simp only at h
             refine athen_r ?_
             refine ablock_r ?_
             refine athen_r ?_
             obtain rfl := Option.some.inj h
             exact zR [] [] []
            ·refine zm ?_
             refine athen_n ?_
             refine AW.ops ?_
             obtain ⟨c85, h⟩ := ck_some.1 h
             refine zA [(2, .sl (.pair (.int .i64) (.pair (.int .i64) (.pair (.int .i64) (.int .i64)))) more), (7, .bp 36000 0), (8, .bp 39000 0), (9, .bp 53000 0), (10, .int .i64 (st3.2.2.2 + 1))] [(36000, .box 71 (.int .i64 (1 + (shape.1 % 4)) :: (.int .i64 (1 + (shape.2 % 4)) :: (cellsX T63 v0_5.1 ++ (cellsX T65 v0_5.2.1 ++ (cellsX T69 v0_5.2.2)))))), (39000, .box 71 (.int .i64 (1 + (shape.1 % 4)) :: (.int .i64 (1 + (shape.2 % 4)) :: (cellsX T63 v0_11.1 ++ (cellsX T65 v0_11.2.1 ++ (cellsX T69 v0_11.2.2)))))), (53000, .box 71 (.int .i64 (1 + (shape.1 % 4)) :: (.int .i64 (1 + (shape.2 % 4)) :: (cellsX T63 v0_29.2.2.1 ++ (cellsX T65 v0_29.2.2.2.1 ++ (cellsX T69 v0_29.2.2.2.2))))))] ?_
             obtain rfl := Option.some.inj h
             exact ⟨_, rfl, zL [] [] []⟩
           ·refine zS 4 [(2, .sl (.pair (.int .i64) (.pair (.int .i64) (.pair (.int .i64) (.int .i64)))) more), (7, .bp 36000 0), (8, .bp 39000 0), (9, .bp 53000 0), (10, .int .i64 st3.2.2.2), (63, .bool false), (67, .cv (undef))] [(36000, .box 71 (.int .i64 (1 + (shape.1 % 4)) :: (.int .i64 (1 + (shape.2 % 4)) :: (cellsX T63 v0_5.1 ++ (cellsX T65 v0_5.2.1 ++ (cellsX T69 v0_5.2.2)))))), (39000, .box 71 (.int .i64 (1 + (shape.1 % 4)) :: (.int .i64 (1 + (shape.2 % 4)) :: (cellsX T63 v0_11.1 ++ (cellsX T65 v0_11.2.1 ++ (cellsX T69 v0_11.2.2)))))), (53000, .box 71 (.int .i64 (1 + (shape.1 % 4)) :: (.int .i64 (1 + (shape.2 % 4)) :: (cellsX T63 v0_29.2.2.1 ++ (cellsX T65 v0_29.2.2.2.1 ++ (cellsX T69 v0_29.2.2.2.2))))))] ?_
            refine zB [(2, .sl (.pair (.int .i64) (.pair (.int .i64) (.pair (.int .i64) (.int .i64)))) more), (7, .bp 36000 0), (8, .bp 39000 0), (9, .bp 53000 0), (10, .int .i64 st3.2.2.2), (68, .bool false)] [(36000, .box 71 (.int .i64 (1 + (shape.1 % 4)) :: (.int .i64 (1 + (shape.2 % 4)) :: (cellsX T63 v0_5.1 ++ (cellsX T65 v0_5.2.1 ++ (cellsX T69 v0_5.2.2)))))), (39000, .box 71 (.int .i64 (1 + (shape.1 % 4)) :: (.int .i64 (1 + (shape.2 % 4)) :: (cellsX T63 v0_11.1 ++ (cellsX T65 v0_11.2.1 ++ (cellsX T69 v0_11.2.2)))))), (53000, .box 71 (.int .i64 (1 + (shape.1 % 4)) :: (.int .i64 (1 + (shape.2 % 4)) :: (cellsX T63 v0_29.2.2.1 ++ (cellsX T65 v0_29.2.2.2.1 ++ (cellsX T69 v0_29.2.2.2.2))))))] ?_
            refine AW.cond (b := false) rfl (fun hb86 => by cases hb86) (fun _ => ?_)
            refine zm ?_
            refine athen_n ?_
            refine AW.ops ?_
            obtain ⟨c87, h⟩ := ck_some.1 h
            refine zA [(2, .sl (.pair (.int .i64) (.pair (.int .i64) (.pair (.int .i64) (.int .i64)))) more), (7, .bp 36000 0), (8, .bp 39000 0), (9, .bp 53000 0), (10, .int .i64 (st3.2.2.2 + 1))] [(36000, .box 71 (.int .i64 (1 + (shape.1 % 4)) :: (.int .i64 (1 + (shape.2 % 4)) :: (cellsX T63 v0_5.1 ++ (cellsX T65 v0_5.2.1 ++ (cellsX T69 v0_5.2.2)))))), (39000, .box 71 (.int .i64 (1 + (shape.1 % 4)) :: (.int .i64 (1 + (shape.2 % 4)) :: (cellsX T63 v0_11.1 ++ (cellsX T65 v0_11.2.1 ++ (cellsX T69 v0_11.2.2)))))), (53000, .box 71 (.int .i64 (1 + (shape.1 % 4)) :: (.int .i64 (1 + (shape.2 % 4)) :: (cellsX T63 v0_29.2.2.1 ++ (cellsX T65 v0_29.2.2.2.1 ++ (cellsX T69 v0_29.2.2.2.2))))))] ?_
            obtain rfl := Option.some.inj h
            exact ⟨_, rfl, zL [] [] []⟩
         ·refine AW.exit ?_
          refine athen_e ?_
          obtain rfl := Option.some.inj h
          rw [← hd65 _ rfl] at ho64
          have h := ho64
          try simp only at h
          refine athen_e ?_
          refine ablock_s ?_
          refine athen_n ?_
          exact AW.weaken (zL [] [] []) (hk_lineallaw06_HazardCopies_k3 _ h)

end Go.Proofs.YtcckpmeepcoafaaDoor
