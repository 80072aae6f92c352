/-
  Made by wip/tool/dc.py out of the print of the program: contracts.
-/
import Derived.Test.YtlfpagicagmjgaaHp
import Derived.Test.YtlfpagicagmjgaaShh
import Derived.Test.YtlfpagicagmjgaaKjc2
import Derived.Test.YtlfpagicagmjgaaKjc3
import Derived.Test.YtlfpagicagmjgaaKjc4
import Derived.Test.YtlfpagicagmjgaaKjc5
namespace Go.Proofs.Ytlfpagicagmjgaa
open Go.RowKit

set_option linter.unusedSimpArgs false
set_option linter.unusedVariables false
set_option linter.constructorNameAsVariable false

set_option maxRecDepth 100000
set_option maxHeartbeats 2000000

theorem hc_lineallaw02_HistoryFirsts (specs : ZS) (h0 : ZH) (l : List Int) {r : Bool} (h : lineallaw02_HistoryFirsts specs h0 l = some r) : HC Try.prog 11 [] [.sl Y0 specs, .sl Y1 h0, .sl (.int .i64) l] [] (.bool r) := by
 unfold lineallaw02_HistoryFirsts at h
 refine zH Try.func11 [.tmp 6] 211 ?_
 refine zo ?_
 refine zB [(0, .sl Y0 specs), (1, .sl Y1 h0), (2, .sl (.int .i64) l)] [] ?_
 refine AW.seq ?_
 refine zo ?_
 refine zS 1 [(0, .sl Y0 specs), (1, .sl Y1 h0), (2, .sl (.int .i64) l), (24, .sl Y0 specs)] [] ?_
 obtain ⟨v0, hv1, h⟩ := Option.bind_eq_some_iff.1 h
 refine zC [] [] (hc_lineallaw02_Large specs hv1) [(0, .sl Y0 specs), (1, .sl Y1 h0), (2, .sl (.int .i64) l), (25, .bool v0)] [] ?_
 refine zS 1 [(0, .sl Y0 specs), (1, .sl Y1 h0), (2, .sl (.int .i64) l), (26, .bool v0)] [] ?_
 rcases zI h with ⟨hb2, h⟩ | ⟨hb2, h⟩
 ·refine zS 6 [(0, .sl Y0 specs), (1, .sl Y1 h0), (2, .sl (.int .i64) l), (30, .bool true), (32, .cv (undef))] [] ?_
  refine zS 6 [(0, .sl Y0 specs), (1, .sl Y1 h0), (2, .sl (.int .i64) l), (35, .bool true), (38, .cv (undef))] [] ?_
  refine zB [(0, .sl Y0 specs), (1, .sl Y1 h0), (2, .sl (.int .i64) l), (40, .bool true)] [] ?_
  refine AW.cond (b := true) rfl (fun _ => ?_) (fun hb3 => by cases hb3)
  refine zo ?_
  obtain ⟨v0_2, hv4, h⟩ := Option.bind_eq_some_iff.1 h
  refine zC [] [] (hc_lineallaw02_Sane hv4) [(41, .bool v0_2)] [] ?_
  refine zB [(6, .bool v0_2)] [] ?_
  refine zr ?_
  obtain rfl := Option.some.inj h
  exact zR [] [] []
 ·refine zS 1 [(0, .sl Y0 specs), (1, .sl Y1 h0), (2, .sl (.int .i64) l), (26, .bool false), (27, .sl Y1 h0)] [] ?_
  obtain ⟨v0_3, hv5, h⟩ := Option.bind_eq_some_iff.1 h
  refine zG [] [] (hc_lineallaw02_Long h0 hv5) [(0, .sl Y0 specs), (1, .sl Y1 h0), (2, .sl (.int .i64) l), (26, .bool false), (28, .bool (decide (40 < (h0.length : Int))))] [] ?_
  refine zS 2 [(0, .sl Y0 specs), (1, .sl Y1 h0), (2, .sl (.int .i64) l), (30, .bool (decide (40 < (h0.length : Int))))] [] ?_
  rcases zI h with ⟨hb6, h⟩ | ⟨hb6, h⟩
  ·refine zS 6 [(0, .sl Y0 specs), (1, .sl Y1 h0), (2, .sl (.int .i64) l), (35, .bool true), (36, .cv (undef))] [] ?_
   refine zB [(0, .sl Y0 specs), (1, .sl Y1 h0), (2, .sl (.int .i64) l), (40, .bool true)] [] ?_
   refine AW.cond (b := true) rfl (fun _ => ?_) (fun hb7 => by cases hb7)
   refine zo ?_
   obtain ⟨v0_4, hv8, h⟩ := Option.bind_eq_some_iff.1 h
   refine zC [] [] (hc_lineallaw02_Sane hv8) [(41, .bool v0_4)] [] ?_
   refine zB [(6, .bool v0_4)] [] ?_
   refine zr ?_
   obtain rfl := Option.some.inj h
   exact zR [] [] []
  ·refine zS 5 [(0, .sl Y0 specs), (1, .sl Y1 h0), (2, .sl (.int .i64) l), (35, .bool (decide (60 < (l.length : Int))))] [] ?_
   rcases zI h with ⟨hb9, h⟩ | ⟨hb9, h⟩
   ·refine zS 4 [(0, .sl Y0 specs), (1, .sl Y1 h0), (2, .sl (.int .i64) l), (35, .bool true), (39, .cv (undef))] [] ?_
    refine zB [(0, .sl Y0 specs), (1, .sl Y1 h0), (2, .sl (.int .i64) l), (40, .bool true)] [] ?_
    refine AW.cond (b := true) rfl (fun _ => ?_) (fun hb10 => by cases hb10)
    refine zo ?_
    obtain ⟨v0_5, hv11, h⟩ := Option.bind_eq_some_iff.1 h
    refine zC [] [] (hc_lineallaw02_Sane hv11) [(41, .bool v0_5)] [] ?_
    refine zB [(6, .bool v0_5)] [] ?_
    refine zr ?_
    obtain rfl := Option.some.inj h
    exact zR [] [] []
   ·refine zS 2 [(0, .sl Y0 specs), (1, .sl Y1 h0), (2, .sl (.int .i64) l), (35, .bool false), (36, .sl Y0 specs), (37, .sl Y1 h0)] [] ?_
    obtain ⟨v0_6, hv12, h⟩ := Option.bind_eq_some_iff.1 h
    refine zG [] [] (hc_lineallaw02_isFor specs h0 hv12) [(0, .sl Y0 specs), (1, .sl Y1 h0), (2, .sl (.int .i64) l), (35, .bool false), (38, .bool v0_6)] [] ?_
    refine zB [(0, .sl Y0 specs), (1, .sl Y1 h0), (2, .sl (.int .i64) l), (40, .bool (!v0_6))] [] ?_
    refine zQ h (fun hb13 h => ?_) (fun hb13 h => ?_)
    ·refine zo ?_
     obtain ⟨v0_7, hv14, h⟩ := Option.bind_eq_some_iff.1 h
     refine zC [] [] (hc_lineallaw02_Sane hv14) [(41, .bool v0_7)] [] ?_
     refine zB [(6, .bool v0_7)] [] ?_
     refine zr ?_
     obtain rfl := Option.some.inj h
     exact zR [] [] []
    ·refine zk ?_
     refine zo ?_
     refine zS 2 [(0, .sl Y0 specs), (1, .sl Y1 h0), (2, .sl (.int .i64) l), (43, .sl Y0 specs), (44, .sl Y1 h0)] [] ?_
     obtain ⟨v0_8, hv15, h⟩ := Option.bind_eq_some_iff.1 h
     refine zC [] [] (hc_history_Linear specs h0 hv15) [(0, .sl Y0 specs), (1, .sl Y1 h0), (2, .sl (.int .i64) l), (45, .tup [.bool v0_8.1, .int .i64 v0_8.2])] [] ?_
     refine zB [(0, .sl Y0 specs), (1, .sl Y1 h0), (2, .sl (.int .i64) l), (7, .bool v0_8.1), (8, .int .i64 v0_8.2)] [] ?_
     refine zo ?_
     refine zS 2 [(0, .sl Y0 specs), (1, .sl Y1 h0), (2, .sl (.int .i64) l), (7, .bool v0_8.1), (8, .int .i64 v0_8.2), (49, .sl Y0 specs), (50, .sl Y1 h0)] [] ?_
     obtain ⟨v0_9, hv16, h⟩ := Option.bind_eq_some_iff.1 h
     refine zC [] [] (hc_history_Orderly specs h0 hv16) [(0, .sl Y0 specs), (1, .sl Y1 h0), (2, .sl (.int .i64) l), (7, .bool v0_8.1), (8, .int .i64 v0_8.2), (51, .tup [.bool v0_9.1, .int .i64 v0_9.2])] [] ?_
     refine zB [(0, .sl Y0 specs), (1, .sl Y1 h0), (2, .sl (.int .i64) l), (7, .bool v0_8.1), (8, .int .i64 v0_8.2), (9, .bool v0_9.1), (10, .int .i64 v0_9.2)] [] ?_
     refine zo ?_
     refine zS 2 [(0, .sl Y0 specs), (1, .sl Y1 h0), (2, .sl (.int .i64) l), (7, .bool v0_8.1), (8, .int .i64 v0_8.2), (9, .bool v0_9.1), (10, .int .i64 v0_9.2), (55, .sl Y0 specs), (56, .sl Y1 h0)] [] ?_
     obtain ⟨v0_10, hv17, h⟩ := Option.bind_eq_some_iff.1 h
     refine zC [] [] (hc_history_Orders specs h0 hv17) [(0, .sl Y0 specs), (1, .sl Y1 h0), (2, .sl (.int .i64) l), (7, .bool v0_8.1), (8, .int .i64 v0_8.2), (9, .bool v0_9.1), (10, .int .i64 v0_9.2), (57, .tup [.int .i64 v0_10.1, .int .i64 v0_10.2])] [] ?_
     refine zB [(0, .sl Y0 specs), (1, .sl Y1 h0), (2, .sl (.int .i64) l), (7, .bool v0_8.1), (8, .int .i64 v0_8.2), (9, .bool v0_9.1), (10, .int .i64 v0_9.2), (11, .int .i64 v0_10.1), (12, .int .i64 v0_10.2)] [] ?_
     refine zo ?_
     refine zS 2 [(0, .sl Y0 specs), (1, .sl Y1 h0), (2, .sl (.int .i64) l), (7, .bool v0_8.1), (8, .int .i64 v0_8.2), (9, .bool v0_9.1), (10, .int .i64 v0_9.2), (11, .int .i64 v0_10.1), (12, .int .i64 v0_10.2), (61, .sl Y0 specs), (62, .sl Y1 h0)] [] ?_
     obtain ⟨v0_11, hv18, h⟩ := Option.bind_eq_some_iff.1 h
     refine zC [] [] (hc_history_Order specs h0 hv18) [(0, .sl Y0 specs), (1, .sl Y1 h0), (2, .sl (.int .i64) l), (7, .bool v0_8.1), (8, .int .i64 v0_8.2), (9, .bool v0_9.1), (10, .int .i64 v0_9.2), (11, .int .i64 v0_10.1), (12, .int .i64 v0_10.2), (63, .tup [.own 73000, .int .i64 v0_11.2])] [(73000, .arr 3 (.int .i64) v0_11.1)] ?_
     refine zB [(0, .sl Y0 specs), (1, .sl Y1 h0), (2, .sl (.int .i64) l), (7, .bool v0_8.1), (8, .int .i64 v0_8.2), (9, .bool v0_9.1), (10, .int .i64 v0_9.2), (11, .int .i64 v0_10.1), (12, .int .i64 v0_10.2), (13, .own 73000), (14, .int .i64 v0_11.2)] [(73000, .arr 3 (.int .i64) v0_11.1)] ?_
     refine zo ?_
     refine zS 1 [(0, .sl Y0 specs), (1, .sl Y1 h0), (2, .sl (.int .i64) l), (7, .bool v0_8.1), (8, .int .i64 v0_8.2), (9, .bool v0_9.1), (10, .int .i64 v0_9.2), (11, .int .i64 v0_10.1), (12, .int .i64 v0_10.2), (13, .own 73000), (14, .int .i64 v0_11.2), (67, .sl Y1 h0)] [(73000, .arr 3 (.int .i64) v0_11.1)] ?_
     obtain ⟨v0_12, hv19, h⟩ := Option.bind_eq_some_iff.1 h
     refine zC [] [] (hc_history_Alone h0 hv19) [(0, .sl Y0 specs), (1, .sl Y1 h0), (2, .sl (.int .i64) l), (7, .bool v0_8.1), (8, .int .i64 v0_8.2), (9, .bool v0_9.1), (10, .int .i64 v0_9.2), (11, .int .i64 v0_10.1), (12, .int .i64 v0_10.2), (13, .own 73000), (14, .int .i64 v0_11.2), (68, .tup [.bool v0_12.1, .int .i64 v0_12.2])] [(73000, .arr 3 (.int .i64) v0_11.1)] ?_
     refine zB [(0, .sl Y0 specs), (1, .sl Y1 h0), (2, .sl (.int .i64) l), (7, .bool v0_8.1), (8, .int .i64 v0_8.2), (9, .bool v0_9.1), (10, .int .i64 v0_9.2), (11, .int .i64 v0_10.1), (12, .int .i64 v0_10.2), (13, .own 73000), (14, .int .i64 v0_11.2), (15, .bool v0_12.1), (16, .int .i64 v0_12.2)] [(73000, .arr 3 (.int .i64) v0_11.1)] ?_
     refine AW.have2 (fun b1 : Bool => lineallaw02_HistoryFirsts_k1 specs h0 l v0_10 v0_11 v0_12 b1 = some r) (fun b1 => ⟨fr [(0, .sl Y0 specs), (1, .sl Y1 h0), (2, .sl (.int .i64) l), (7, .bool b1), (11, .int .i64 v0_10.1), (13, .own 73000), (15, .bool v0_12.1), (17, .bool false)], hpGet [(73000, .arr 3 (.int .i64) v0_11.1)], gt⟩) (fun b1 h => ?_) (fun hk_lineallaw02_HistoryFirsts_k1 => ?_)
     ·unfold lineallaw02_HistoryFirsts_k1 at h
      refine AW.have1 (fun b2 : Bool => lineallaw02_HistoryFirsts_k2 specs h0 l v0_10 v0_11 v0_12 b1 b2 = some r) (fun b2 => ⟨fr [(0, .sl Y0 specs), (1, .sl Y1 h0), (2, .sl (.int .i64) l), (7, .bool b1), (11, .int .i64 v0_10.1), (13, .own 73000), (15, .bool v0_12.1), (17, .bool b2)], hpGet [(73000, .arr 3 (.int .i64) v0_11.1)], gt⟩) (fun b2 h => ?_) (fun hk_lineallaw02_HistoryFirsts_k2 => ?_)
      ·unfold lineallaw02_HistoryFirsts_k2 at h
       refine AW.have1 (fun _ : Unit => lineallaw02_HistoryFirsts_k3 specs h0 l v0_11 b1 = some r) (fun _ => ⟨fr [(0, .sl Y0 specs), (1, .sl Y1 h0), (2, .sl (.int .i64) l), (7, .bool b1), (13, .own 73000)], hpGet [(73000, .arr 3 (.int .i64) v0_11.1)], gt⟩) (fun _ h => ?_) (fun hk_lineallaw02_HistoryFirsts_k3 => ?_)
       ·unfold lineallaw02_HistoryFirsts_k3 at h
        refine zo ?_
        refine zS 3 [(0, .sl Y0 specs), (1, .sl Y1 h0), (2, .sl (.int .i64) l), (7, .bool b1), (13, .own 73000), (137, .sl Y0 specs), (138, .sl Y1 h0), (139, .sl (.int .i64) l)] [(73000, .arr 3 (.int .i64) v0_11.1)] ?_
        obtain ⟨v0_13, hv20, h⟩ := Option.bind_eq_some_iff.1 h
        refine zC [] [] (hc_history_IsOrder specs h0 l hv20) [(0, .sl Y0 specs), (1, .sl Y1 h0), (2, .sl (.int .i64) l), (7, .bool b1), (13, .own 73000), (140, .tup [.bool v0_13.1, .int .i64 v0_13.2])] [(73000, .arr 3 (.int .i64) v0_11.1)] ?_
        refine zB [(0, .sl Y0 specs), (1, .sl Y1 h0), (2, .sl (.int .i64) l), (7, .bool b1), (8, .int .i64 v0_13.2), (13, .own 73000), (19, .bool v0_13.1)] [(73000, .arr 3 (.int .i64) v0_11.1)] ?_
        refine AW.have1 (fun b4 : Bool => lineallaw02_HistoryFirsts_k4 specs h0 l v0_11 b1 b4 = some r) (fun b4 => ⟨fr [(0, .sl Y0 specs), (1, .sl Y1 h0), (2, .sl (.int .i64) l), (7, .bool b1), (13, .own 73000), (19, .bool b4)], hpGet [(73000, .arr 3 (.int .i64) v0_11.1)], gt⟩) (fun b4 h => ?_) (fun hk_lineallaw02_HistoryFirsts_k4 => ?_)
        ·unfold lineallaw02_HistoryFirsts_k4 at h
         refine AW.seq ?_
         refine zo ?_
         refine zB [(0, .sl Y0 specs), (1, .sl Y1 h0), (2, .sl (.int .i64) l), (13, .own 73000), (19, .bool b4), (153, .bool (!b1))] [(73000, .arr 3 (.int .i64) v0_11.1)] ?_
         refine zQ h (fun hb21 h => ?_) (fun hb21 h => ?_)
         ·refine zo ?_
          obtain ⟨v0_14, hv22, h⟩ := Option.bind_eq_some_iff.1 h
          refine zC [] [] (hc_lineallaw02_Sane hv22) [(154, .bool v0_14)] [] ?_
          refine zB [(6, .bool v0_14)] [] ?_
          refine zr ?_
          obtain rfl := Option.some.inj h
          exact zR [] [] []
         ·refine zk ?_
          refine zo ?_
          refine zS 3 [(0, .sl Y0 specs), (1, .sl Y1 h0), (2, .sl (.int .i64) l), (13, .own 73000), (19, .bool b4), (156, .sl Y0 specs), (157, .sl Y1 h0), (158, .own 73000)] [(73000, .arr 3 (.int .i64) v0_11.1)] ?_
          obtain ⟨v0_15, hv23, h⟩ := Option.bind_eq_some_iff.1 h
          refine zC [73000] [] (hc_history_IsOrder specs h0 v0_11.1 hv23) [(0, .sl Y0 specs), (1, .sl Y1 h0), (2, .sl (.int .i64) l), (13, .own 73000), (19, .bool b4), (159, .tup [.bool v0_15.1, .int .i64 v0_15.2])] [(73000, .arr 3 (.int .i64) v0_11.1)] ?_
          refine zB [(0, .sl Y0 specs), (1, .sl Y1 h0), (2, .sl (.int .i64) l), (8, .int .i64 v0_15.2), (13, .own 73000), (19, .bool b4), (20, .bool v0_15.1)] [(73000, .arr 3 (.int .i64) v0_11.1)] ?_
          refine zo ?_
          refine zS 2 [(0, .sl Y0 specs), (1, .sl Y1 h0), (2, .sl (.int .i64) l), (8, .int .i64 v0_15.2), (13, .own 73000), (19, .bool b4), (20, .bool v0_15.1), (163, .sl Y1 h0), (164, .own 73000)] [(73000, .arr 3 (.int .i64) v0_11.1)] ?_
          obtain ⟨v0_16, hv24, h⟩ := Option.bind_eq_some_iff.1 h
          refine zC [73000] [] (hc_history_Keeps h0 v0_11.1 hv24) [(0, .sl Y0 specs), (1, .sl Y1 h0), (2, .sl (.int .i64) l), (8, .int .i64 v0_15.2), (13, .own 73000), (19, .bool b4), (20, .bool v0_15.1), (165, .tup [.bool v0_16.1, .bool v0_16.2.1, .int .i64 v0_16.2.2])] [(73000, .arr 3 (.int .i64) v0_11.1)] ?_
          refine zB [(0, .sl Y0 specs), (1, .sl Y1 h0), (2, .sl (.int .i64) l), (8, .int .i64 v0_15.2), (10, .int .i64 v0_16.2.2), (13, .own 73000), (19, .bool b4), (20, .bool v0_15.1), (21, .bool v0_16.1), (22, .bool v0_16.2.1)] [(73000, .arr 3 (.int .i64) v0_11.1)] ?_
          refine zo ?_
          refine zS 3 [(2, .sl (.int .i64) l), (8, .int .i64 v0_15.2), (10, .int .i64 v0_16.2.2), (13, .own 73000), (19, .bool b4), (20, .bool v0_15.1), (21, .bool v0_16.1), (22, .bool v0_16.2.1), (170, .sl Y0 specs), (171, .sl Y1 h0), (172, .own 73000)] [(73000, .arr 3 (.int .i64) v0_11.1)] ?_
          obtain ⟨v0_17, hv25, h⟩ := Option.bind_eq_some_iff.1 h
          refine zC [73000] [] (hc_history_Allows specs h0 v0_11.1 hv25) [(2, .sl (.int .i64) l), (8, .int .i64 v0_15.2), (10, .int .i64 v0_16.2.2), (13, .own 73000), (19, .bool b4), (20, .bool v0_15.1), (21, .bool v0_16.1), (22, .bool v0_16.2.1), (173, .tup [.bool v0_17.1, .int .i64 v0_17.2])] [(73000, .arr 3 (.int .i64) v0_11.1)] ?_
          refine zB [(2, .sl (.int .i64) l), (8, .int .i64 v0_15.2), (10, .int .i64 v0_16.2.2), (12, .int .i64 v0_17.2), (13, .own 73000), (19, .bool b4), (20, .bool v0_15.1), (21, .bool v0_16.1), (22, .bool v0_16.2.1), (23, .bool v0_17.1)] [(73000, .arr 3 (.int .i64) v0_11.1)] ?_
          refine zo ?_
          refine zS 3 [(2, .sl (.int .i64) l), (10, .int .i64 v0_16.2.2), (12, .int .i64 v0_17.2), (13, .own 73000), (19, .bool b4), (20, .bool v0_15.1), (21, .bool v0_16.1), (22, .bool v0_16.2.1), (23, .bool v0_17.1), (178, .bool (decide (v0_15.2 = 0)))] [(73000, .arr 3 (.int .i64) v0_11.1)] ?_
          rcases zI h with ⟨hb26, h⟩ | ⟨hb26, h⟩
          ·refine zS 4 [(2, .sl (.int .i64) l), (12, .int .i64 v0_17.2), (13, .own 73000), (19, .bool b4), (20, .bool v0_15.1), (21, .bool v0_16.1), (22, .bool v0_16.2.1), (23, .bool v0_17.1), (182, .bool (decide (v0_16.2.2 = 0)))] [(73000, .arr 3 (.int .i64) v0_11.1)] ?_
           rcases zI h with ⟨hb27, h⟩ | ⟨hb27, h⟩
           ·refine zS 4 [(2, .sl (.int .i64) l), (13, .own 73000), (19, .bool b4), (20, .bool v0_15.1), (21, .bool v0_16.1), (22, .bool v0_16.2.1), (23, .bool v0_17.1), (186, .bool (decide (v0_17.2 = 0)))] [(73000, .arr 3 (.int .i64) v0_11.1)] ?_
            rcases zI h with ⟨hb28, h⟩ | ⟨hb28, h⟩
            ·refine zS 3 [(2, .sl (.int .i64) l), (13, .own 73000), (19, .bool b4), (21, .bool v0_16.1), (22, .bool v0_16.2.1), (23, .bool v0_17.1), (189, .bool v0_15.1)] [(73000, .arr 3 (.int .i64) v0_11.1)] ?_
             rcases zI h with ⟨hb29, h⟩ | ⟨hb29, h⟩
             ·refine zS 3 [(2, .sl (.int .i64) l), (13, .own 73000), (19, .bool b4), (22, .bool v0_16.2.1), (23, .bool v0_17.1), (192, .bool v0_16.1)] [(73000, .arr 3 (.int .i64) v0_11.1)] ?_
              rcases zI h with ⟨hb30, h⟩ | ⟨hb30, h⟩
              ·refine zS 3 [(2, .sl (.int .i64) l), (13, .own 73000), (19, .bool b4), (23, .bool v0_17.1), (195, .bool v0_16.2.1)] [(73000, .arr 3 (.int .i64) v0_11.1)] ?_
               rcases zI h with ⟨hb31, h⟩ | ⟨hb31, h⟩
               ·refine zS 3 [(2, .sl (.int .i64) l), (13, .own 73000), (19, .bool b4), (198, .bool v0_17.1)] [(73000, .arr 3 (.int .i64) v0_11.1)] ?_
                rcases zI h with ⟨hb32, h⟩ | ⟨hb32, h⟩
                ·refine zS 3 [(2, .sl (.int .i64) l), (13, .own 73000), (198, .bool true), (201, .bool (!b4))] [(73000, .arr 3 (.int .i64) v0_11.1)] ?_
                 rcases zI h with ⟨hb33, h⟩ | ⟨hb33, h⟩
                 ·refine zS 4 [(198, .bool true), (201, .bool true), (205, .cv (undef))] [] ?_
                  refine zS 3 [(208, .bool true)] [] ?_
                  obtain ⟨v0_18, hv34, h⟩ := Option.bind_eq_some_iff.1 h
                  refine zG [] [] (hc_lineallaw02_Sane hv34) [(208, .bool true), (209, .bool v0_18)] [] ?_
                  refine zB [(6, .bool v0_18)] [] ?_
                  refine AW.ret ?_
                  obtain rfl := Option.some.inj h
                  exact zR [] [] []
                 ·refine zS 2 [(198, .bool true), (201, .bool false), (202, .sl (.int .i64) l), (203, .own 73000)] [(73000, .arr 3 (.int .i64) v0_11.1)] ?_
                  obtain ⟨v0_19, hv35, h⟩ := Option.bind_eq_some_iff.1 h
                  refine zG [73000] [] (hc_lineallaw02_comes l v0_11.1 hv35) [(198, .bool true), (201, .bool false), (204, .bool v0_19)] [] ?_
                  refine zS 4 [(208, .bool (!v0_19))] [] ?_
                  rcases zI h with ⟨hb36, h⟩ | ⟨hb36, h⟩
                  ·refine zT [(208, .bool true)] [] gt ?_
                   obtain ⟨v0_20, hv37, h⟩ := Option.bind_eq_some_iff.1 h
                   refine zG [] [] (hc_lineallaw02_Sane hv37) [(208, .bool true), (209, .bool v0_20)] [] ?_
                   refine zB [(6, .bool v0_20)] [] ?_
                   refine AW.ret ?_
                   obtain rfl := Option.some.inj h
                   exact zR [] [] []
                  ·refine zB [(6, .bool false)] [] ?_
                   refine AW.ret ?_
                   obtain rfl := Option.some.inj h
                   exact zR [] [] []
                ·refine zS 4 [(13, .own 73000), (198, .bool false), (201, .cv (undef)), (202, .cv (undef))] [(73000, .arr 3 (.int .i64) v0_11.1)] ?_
                 refine zS 4 [(198, .bool false), (206, .cv (undef))] [] ?_
                 refine zB [(6, .bool false)] [] ?_
                 refine AW.ret ?_
                 obtain rfl := Option.some.inj h
                 exact zR [] [] []
               ·refine zS 6 [(2, .sl (.int .i64) l), (13, .own 73000), (198, .bool false), (201, .cv (undef))] [(73000, .arr 3 (.int .i64) v0_11.1)] ?_
                refine zS 4 [(198, .bool false), (201, .cv (undef)), (205, .cv (undef))] [] ?_
                refine zB [(6, .bool false)] [] ?_
                refine AW.ret ?_
                obtain rfl := Option.some.inj h
                exact zR [] [] []
              ·refine zS 8 [(2, .sl (.int .i64) l), (13, .own 73000), (198, .bool false), (200, .cv (undef))] [(73000, .arr 3 (.int .i64) v0_11.1)] ?_
               refine zS 4 [(198, .bool false), (201, .cv (undef)), (204, .cv (undef))] [] ?_
               refine zB [(6, .bool false)] [] ?_
               refine AW.ret ?_
               obtain rfl := Option.some.inj h
               exact zR [] [] []
             ·refine zS 10 [(2, .sl (.int .i64) l), (13, .own 73000), (198, .bool false), (199, .cv (undef))] [(73000, .arr 3 (.int .i64) v0_11.1)] ?_
              refine zS 4 [(198, .bool false), (201, .cv (undef)), (202, .cv (undef)), (203, .cv (undef))] [] ?_
              refine zS 6 [(208, .bool false), (209, .cv (undef))] [] ?_
              refine zB [(6, .bool false)] [] ?_
              refine AW.ret ?_
              obtain rfl := Option.some.inj h
              exact zR [] [] []
            ·refine zS 10 [(2, .sl (.int .i64) l), (13, .own 73000), (19, .bool b4), (195, .bool false), (196, .cv (undef))] [(73000, .arr 3 (.int .i64) v0_11.1)] ?_
             refine zS 6 [(13, .own 73000), (198, .bool false), (201, .cv (undef)), (202, .cv (undef))] [(73000, .arr 3 (.int .i64) v0_11.1)] ?_
             refine zS 4 [(198, .bool false), (206, .cv (undef))] [] ?_
             refine zB [(6, .bool false)] [] ?_
             refine AW.ret ?_
             obtain rfl := Option.some.inj h
             exact zR [] [] []
           ·refine zS 8 [(2, .sl (.int .i64) l), (13, .own 73000), (19, .bool b4), (22, .bool v0_16.2.1), (23, .bool v0_17.1), (189, .bool false), (190, .cv (undef))] [(73000, .arr 3 (.int .i64) v0_11.1)] ?_
            refine zS 10 [(2, .sl (.int .i64) l), (13, .own 73000), (198, .bool false), (200, .cv (undef))] [(73000, .arr 3 (.int .i64) v0_11.1)] ?_
            refine zS 4 [(198, .bool false), (201, .cv (undef)), (204, .cv (undef))] [] ?_
            refine zB [(6, .bool false)] [] ?_
            refine AW.ret ?_
            obtain rfl := Option.some.inj h
            exact zR [] [] []
          ·refine zS 6 [(2, .sl (.int .i64) l), (13, .own 73000), (19, .bool b4), (20, .bool v0_15.1), (21, .bool v0_16.1), (22, .bool v0_16.2.1), (23, .bool v0_17.1), (182, .bool false), (184, .cv (undef))] [(73000, .arr 3 (.int .i64) v0_11.1)] ?_
           refine zS 12 [(2, .sl (.int .i64) l), (13, .own 73000), (19, .bool b4), (195, .bool false), (196, .cv (undef))] [(73000, .arr 3 (.int .i64) v0_11.1)] ?_
           refine zS 6 [(13, .own 73000), (198, .bool false), (201, .cv (undef)), (202, .cv (undef))] [(73000, .arr 3 (.int .i64) v0_11.1)] ?_
           refine zS 4 [(198, .bool false), (206, .cv (undef))] [] ?_
           refine zB [(6, .bool false)] [] ?_
           refine AW.ret ?_
           obtain rfl := Option.some.inj h
           exact zR [] [] []
        ·refine AW.seq ?_
         refine zo ?_
         refine zS 3 [(0, .sl Y0 specs), (1, .sl Y1 h0), (2, .sl (.int .i64) l), (7, .bool b1), (13, .own 73000), (19, .bool v0_13.1), (145, .bool (!(decide (v0_13.2 = 0))))] [(73000, .arr 3 (.int .i64) v0_11.1)] ?_
         rcases zI h with ⟨hb38, h⟩ | ⟨hb38, h⟩
         ·refine zS 4 [(0, .sl Y0 specs), (1, .sl Y1 h0), (2, .sl (.int .i64) l), (7, .bool b1), (13, .own 73000), (19, .bool v0_13.1), (145, .bool true), (147, .cv (undef)), (149, .cv (undef))] [(73000, .arr 3 (.int .i64) v0_11.1)] ?_
          refine zB [(0, .sl Y0 specs), (1, .sl Y1 h0), (2, .sl (.int .i64) l), (7, .bool b1), (13, .own 73000), (19, .bool v0_13.1), (151, .bool true)] [(73000, .arr 3 (.int .i64) v0_11.1)] ?_
          refine AW.cond (b := true) rfl (fun _ => ?_) (fun hb39 => by cases hb39)
          refine zo ?_
          refine zB [(6, .bool false)] [] ?_
          refine zr ?_
          obtain rfl := Option.some.inj h
          exact zR [] [] []
         ·refine zS 2 [(0, .sl Y0 specs), (1, .sl Y1 h0), (2, .sl (.int .i64) l), (7, .bool b1), (13, .own 73000), (19, .bool v0_13.1), (145, .bool false), (147, .bool v0_13.1)] [(73000, .arr 3 (.int .i64) v0_11.1)] ?_
          rcases zI h with ⟨hb40, h⟩ | ⟨hb40, h⟩
          ·refine zB [(0, .sl Y0 specs), (1, .sl Y1 h0), (2, .sl (.int .i64) l), (7, .bool b1), (13, .own 73000), (19, .bool true), (151, .bool (!b1))] [(73000, .arr 3 (.int .i64) v0_11.1)] ?_
           refine zQ h (fun hb41 h => ?_) (fun hb41 h => ?_)
           ·refine zo ?_
            refine zB [(6, .bool false)] [] ?_
            refine zr ?_
            obtain rfl := Option.some.inj h
            exact zR [] [] []
           ·refine zk ?_
            exact AW.weaken (zL [] [] []) (hk_lineallaw02_HistoryFirsts_k4 _ h)
          ·refine zB [(0, .sl Y0 specs), (1, .sl Y1 h0), (2, .sl (.int .i64) l), (7, .bool b1), (13, .own 73000), (19, .bool false), (151, .bool false)] [(73000, .arr 3 (.int .i64) v0_11.1)] ?_
           refine AW.cond (b := false) rfl (fun hb42 => by cases hb42) (fun _ => ?_)
           refine zk ?_
           exact AW.weaken (zL [] [] []) (hk_lineallaw02_HistoryFirsts_k4 _ h)
       ·refine AW.seq ?_
        refine zo ?_
        refine zS 2 [(0, .sl Y0 specs), (1, .sl Y1 h0), (2, .sl (.int .i64) l), (7, .bool b1), (11, .int .i64 v0_10.1), (13, .own 73000), (17, .bool b2), (128, .bool v0_12.1)] [(73000, .arr 3 (.int .i64) v0_11.1)] ?_
        rcases zI h with ⟨hb43, h⟩ | ⟨hb43, h⟩
        ·refine zS 4 [(0, .sl Y0 specs), (1, .sl Y1 h0), (2, .sl (.int .i64) l), (7, .bool b1), (11, .int .i64 v0_10.1), (13, .own 73000), (132, .bool (!b2))] [(73000, .arr 3 (.int .i64) v0_11.1)] ?_
         rcases zI h with ⟨hb44, h⟩ | ⟨hb44, h⟩
         ·refine zB [(0, .sl Y0 specs), (1, .sl Y1 h0), (2, .sl (.int .i64) l), (7, .bool b1), (13, .own 73000), (135, .bool (decide (1 < v0_10.1)))] [(73000, .arr 3 (.int .i64) v0_11.1)] ?_
          refine zQ h (fun hb45 h => ?_) (fun hb45 h => ?_)
          ·refine zo ?_
           refine zB [(6, .bool false)] [] ?_
           refine zr ?_
           obtain rfl := Option.some.inj h
           exact zR [] [] []
          ·refine zk ?_
           exact AW.weaken (zL [] [] []) (hk_lineallaw02_HistoryFirsts_k3 () h)
         ·refine zB [(0, .sl Y0 specs), (1, .sl Y1 h0), (2, .sl (.int .i64) l), (7, .bool b1), (13, .own 73000), (135, .bool false)] [(73000, .arr 3 (.int .i64) v0_11.1)] ?_
          refine AW.cond (b := false) rfl (fun hb46 => by cases hb46) (fun _ => ?_)
          refine zk ?_
          exact AW.weaken (zL [] [] []) (hk_lineallaw02_HistoryFirsts_k3 () h)
        ·refine zS 6 [(0, .sl Y0 specs), (1, .sl Y1 h0), (2, .sl (.int .i64) l), (7, .bool b1), (13, .own 73000), (132, .bool false), (134, .cv (undef))] [(73000, .arr 3 (.int .i64) v0_11.1)] ?_
         refine zB [(0, .sl Y0 specs), (1, .sl Y1 h0), (2, .sl (.int .i64) l), (7, .bool b1), (13, .own 73000), (135, .bool false)] [(73000, .arr 3 (.int .i64) v0_11.1)] ?_
         refine AW.cond (b := false) rfl (fun hb47 => by cases hb47) (fun _ => ?_)
         refine zk ?_
         exact AW.weaken (zL [] [] []) (hk_lineallaw02_HistoryFirsts_k3 () h)
      ·refine AW.seq ?_
       refine zo ?_
       refine zB [(0, .sl Y0 specs), (1, .sl Y1 h0), (2, .sl (.int .i64) l), (7, .bool b1), (11, .int .i64 v0_10.1), (13, .own 73000), (15, .bool v0_12.1), (17, .bool false), (18, .int .i64 0)] [(73000, .arr 3 (.int .i64) v0_11.1)] ?_
       refine AW.block ?_
       obtain ⟨rv52, hw48, ho49⟩ := Option.bind_eq_some_iff.1 h
       refine AW.loopO (lineallaw02_HistoryFirsts_b1 h0) (fun st1 => ⟨fr [(0, .sl Y0 specs), (1, .sl Y1 h0), (2, .sl (.int .i64) l), (7, .bool b1), (11, .int .i64 v0_10.1), (13, .own 73000), (15, .bool v0_12.1), (17, .bool st1.1), (18, .int .i64 st1.2)], hpGet [(73000, .arr 3 (.int .i64) v0_11.1)], gt⟩) (false, 0) hw48 (zL [] [] []) ?_
       intro st1 x51 h hd50
       unfold lineallaw02_HistoryFirsts_b1 at h
       refine AW.seq ?_
       refine zo ?_
       refine zB [(0, .sl Y0 specs), (1, .sl Y1 h0), (2, .sl (.int .i64) l), (7, .bool b1), (11, .int .i64 v0_10.1), (13, .own 73000), (15, .bool v0_12.1), (17, .bool st1.1), (18, .int .i64 st1.2), (115, .bool (decide (st1.2 < (h0.length : Int))))] [(73000, .arr 3 (.int .i64) v0_11.1)] ?_
       refine zQ h (fun hb53 h => ?_) (fun hb53 h => ?_)
       ·refine zk ?_
        refine AW.seq ?_
        refine AW.block ?_
        refine AW.ops ?_
        refine zS 2 [(0, .sl Y0 specs), (1, .sl Y1 h0), (2, .sl (.int .i64) l), (7, .bool b1), (11, .int .i64 v0_10.1), (13, .own 73000), (15, .bool v0_12.1), (18, .int .i64 st1.2), (119, .bool st1.1)] [(73000, .arr 3 (.int .i64) v0_11.1)] ?_
        rcases zI h with ⟨hb54, h⟩ | ⟨hb54, h⟩
        ·refine zS 4 [(0, .sl Y0 specs), (1, .sl Y1 h0), (2, .sl (.int .i64) l), (7, .bool b1), (11, .int .i64 v0_10.1), (13, .own 73000), (15, .bool v0_12.1), (18, .int .i64 st1.2), (119, .bool true), (123, .cv (undef))] [(73000, .arr 3 (.int .i64) v0_11.1)] ?_
         refine zA [(0, .sl Y0 specs), (1, .sl Y1 h0), (2, .sl (.int .i64) l), (7, .bool b1), (11, .int .i64 v0_10.1), (13, .own 73000), (15, .bool v0_12.1), (17, .bool true), (18, .int .i64 st1.2)] [(73000, .arr 3 (.int .i64) v0_11.1)] ?_
         refine ablock_n ?_
         refine athen_n ?_
         refine AW.ops ?_
         obtain ⟨c55, h⟩ := ck_some.1 h
         refine zA [(0, .sl Y0 specs), (1, .sl Y1 h0), (2, .sl (.int .i64) l), (7, .bool b1), (11, .int .i64 v0_10.1), (13, .own 73000), (15, .bool v0_12.1), (17, .bool true), (18, .int .i64 (st1.2 + 1))] [(73000, .arr 3 (.int .i64) v0_11.1)] ?_
         obtain rfl := Option.some.inj h
         exact ⟨_, rfl, zL [] [] []⟩
        ·obtain ⟨c56, h⟩ := ck_some.1 h
         obtain ⟨c57, h⟩ := ck_some.1 h
         refine zA [(0, .sl Y0 specs), (1, .sl Y1 h0), (2, .sl (.int .i64) l), (7, .bool b1), (11, .int .i64 v0_10.1), (13, .own 73000), (15, .bool v0_12.1), (17, .bool (decide ((h0.getD st1.2.toNat (0, 0, 0, 0, 0, 0)).2.2.2.2.2 = 0))), (18, .int .i64 st1.2)] [(73000, .arr 3 (.int .i64) v0_11.1)] ?_
         refine ablock_n ?_
         refine athen_n ?_
         refine AW.ops ?_
         obtain ⟨c58, h⟩ := ck_some.1 h
         refine zA [(0, .sl Y0 specs), (1, .sl Y1 h0), (2, .sl (.int .i64) l), (7, .bool b1), (11, .int .i64 v0_10.1), (13, .own 73000), (15, .bool v0_12.1), (17, .bool (decide ((h0.getD st1.2.toNat (0, 0, 0, 0, 0, 0)).2.2.2.2.2 = 0))), (18, .int .i64 (st1.2 + 1))] [(73000, .arr 3 (.int .i64) v0_11.1)] ?_
         obtain rfl := Option.some.inj h
         exact ⟨_, rfl, zL [] [] []⟩
       ·refine AW.exit ?_
        refine athen_e ?_
        obtain rfl := Option.some.inj h
        rw [← hd50 _ rfl] at ho49
        have h := ho49
        refine athen_e ?_
        refine ablock_s ?_
        refine athen_n ?_
        exact AW.weaken (zL [] [] []) (hk_lineallaw02_HistoryFirsts_k2 _ h)
     ·refine AW.seq ?_
      refine zo ?_
      refine zS 3 [(0, .sl Y0 specs), (1, .sl Y1 h0), (2, .sl (.int .i64) l), (7, .bool v0_8.1), (9, .bool v0_9.1), (10, .int .i64 v0_9.2), (11, .int .i64 v0_10.1), (12, .int .i64 v0_10.2), (13, .own 73000), (14, .int .i64 v0_11.2), (15, .bool v0_12.1), (16, .int .i64 v0_12.2), (73, .bool (!(decide (v0_8.2 = 0))))] [(73000, .arr 3 (.int .i64) v0_11.1)] ?_
      rcases zI h with ⟨hb59, h⟩ | ⟨hb59, h⟩
      ·refine zS 6 [(0, .sl Y0 specs), (1, .sl Y1 h0), (2, .sl (.int .i64) l), (7, .bool v0_8.1), (9, .bool v0_9.1), (11, .int .i64 v0_10.1), (13, .own 73000), (14, .int .i64 v0_11.2), (15, .bool v0_12.1), (16, .int .i64 v0_12.2), (77, .bool true), (79, .cv (undef))] [(73000, .arr 3 (.int .i64) v0_11.1)] ?_
       refine zS 8 [(0, .sl Y0 specs), (1, .sl Y1 h0), (2, .sl (.int .i64) l), (7, .bool v0_8.1), (9, .bool v0_9.1), (11, .int .i64 v0_10.1), (13, .own 73000), (14, .int .i64 v0_11.2), (15, .bool v0_12.1), (85, .bool true), (87, .cv (undef))] [(73000, .arr 3 (.int .i64) v0_11.1)] ?_
       refine zS 4 [(0, .sl Y0 specs), (1, .sl Y1 h0), (2, .sl (.int .i64) l), (7, .bool v0_8.1), (9, .bool v0_9.1), (11, .int .i64 v0_10.1), (13, .own 73000), (14, .int .i64 v0_11.2), (15, .bool v0_12.1), (85, .bool true), (91, .cv (undef))] [(73000, .arr 3 (.int .i64) v0_11.1)] ?_
       refine zS 6 [(0, .sl Y0 specs), (1, .sl Y1 h0), (2, .sl (.int .i64) l), (7, .bool v0_8.1), (9, .bool v0_9.1), (11, .int .i64 v0_10.1), (13, .own 73000), (14, .int .i64 v0_11.2), (15, .bool v0_12.1), (93, .bool true), (97, .cv (undef))] [(73000, .arr 3 (.int .i64) v0_11.1)] ?_
       refine zS 6 [(0, .sl Y0 specs), (1, .sl Y1 h0), (2, .sl (.int .i64) l), (7, .bool v0_8.1), (9, .bool v0_9.1), (11, .int .i64 v0_10.1), (13, .own 73000), (15, .bool v0_12.1), (99, .bool true), (103, .cv (undef))] [(73000, .arr 3 (.int .i64) v0_11.1)] ?_
       refine zS 6 [(0, .sl Y0 specs), (1, .sl Y1 h0), (2, .sl (.int .i64) l), (7, .bool v0_8.1), (11, .int .i64 v0_10.1), (13, .own 73000), (15, .bool v0_12.1), (105, .bool true), (107, .cv (undef)), (109, .cv (undef))] [(73000, .arr 3 (.int .i64) v0_11.1)] ?_
       refine zB [(0, .sl Y0 specs), (1, .sl Y1 h0), (2, .sl (.int .i64) l), (7, .bool v0_8.1), (11, .int .i64 v0_10.1), (13, .own 73000), (15, .bool v0_12.1), (111, .bool true)] [(73000, .arr 3 (.int .i64) v0_11.1)] ?_
       refine AW.cond (b := true) rfl (fun _ => ?_) (fun hb60 => by cases hb60)
       refine zo ?_
       refine zB [(6, .bool false)] [] ?_
       refine zr ?_
       obtain rfl := Option.some.inj h
       exact zR [] [] []
      ·refine zS 4 [(0, .sl Y0 specs), (1, .sl Y1 h0), (2, .sl (.int .i64) l), (7, .bool v0_8.1), (9, .bool v0_9.1), (11, .int .i64 v0_10.1), (12, .int .i64 v0_10.2), (13, .own 73000), (14, .int .i64 v0_11.2), (15, .bool v0_12.1), (16, .int .i64 v0_12.2), (77, .bool (!(decide (v0_9.2 = 0))))] [(73000, .arr 3 (.int .i64) v0_11.1)] ?_
       rcases zI h with ⟨hb61, h⟩ | ⟨hb61, h⟩
       ·refine zS 6 [(0, .sl Y0 specs), (1, .sl Y1 h0), (2, .sl (.int .i64) l), (7, .bool v0_8.1), (9, .bool v0_9.1), (11, .int .i64 v0_10.1), (13, .own 73000), (14, .int .i64 v0_11.2), (15, .bool v0_12.1), (81, .bool true), (83, .cv (undef))] [(73000, .arr 3 (.int .i64) v0_11.1)] ?_
        refine zS 6 [(0, .sl Y0 specs), (1, .sl Y1 h0), (2, .sl (.int .i64) l), (7, .bool v0_8.1), (9, .bool v0_9.1), (11, .int .i64 v0_10.1), (13, .own 73000), (14, .int .i64 v0_11.2), (15, .bool v0_12.1), (85, .bool true), (88, .cv (undef)), (89, .cv (undef))] [(73000, .arr 3 (.int .i64) v0_11.1)] ?_
        refine zS 6 [(0, .sl Y0 specs), (1, .sl Y1 h0), (2, .sl (.int .i64) l), (7, .bool v0_8.1), (9, .bool v0_9.1), (11, .int .i64 v0_10.1), (13, .own 73000), (14, .int .i64 v0_11.2), (15, .bool v0_12.1), (93, .bool true), (94, .cv (undef)), (95, .cv (undef))] [(73000, .arr 3 (.int .i64) v0_11.1)] ?_
        refine zS 6 [(0, .sl Y0 specs), (1, .sl Y1 h0), (2, .sl (.int .i64) l), (7, .bool v0_8.1), (9, .bool v0_9.1), (11, .int .i64 v0_10.1), (13, .own 73000), (15, .bool v0_12.1), (99, .bool true), (100, .cv (undef)), (101, .cv (undef))] [(73000, .arr 3 (.int .i64) v0_11.1)] ?_
        refine zS 6 [(0, .sl Y0 specs), (1, .sl Y1 h0), (2, .sl (.int .i64) l), (7, .bool v0_8.1), (9, .bool v0_9.1), (11, .int .i64 v0_10.1), (13, .own 73000), (15, .bool v0_12.1), (105, .bool true), (107, .cv (undef))] [(73000, .arr 3 (.int .i64) v0_11.1)] ?_
        refine zB [(0, .sl Y0 specs), (1, .sl Y1 h0), (2, .sl (.int .i64) l), (7, .bool v0_8.1), (11, .int .i64 v0_10.1), (13, .own 73000), (15, .bool v0_12.1), (111, .bool true)] [(73000, .arr 3 (.int .i64) v0_11.1)] ?_
        refine AW.cond (b := true) rfl (fun _ => ?_) (fun hb62 => by cases hb62)
        refine zo ?_
        refine zB [(6, .bool false)] [] ?_
        refine zr ?_
        obtain rfl := Option.some.inj h
        exact zR [] [] []
       ·refine zS 4 [(0, .sl Y0 specs), (1, .sl Y1 h0), (2, .sl (.int .i64) l), (7, .bool v0_8.1), (9, .bool v0_9.1), (11, .int .i64 v0_10.1), (13, .own 73000), (14, .int .i64 v0_11.2), (15, .bool v0_12.1), (16, .int .i64 v0_12.2), (81, .bool (!(decide (v0_10.2 = 0))))] [(73000, .arr 3 (.int .i64) v0_11.1)] ?_
        rcases zI h with ⟨hb63, h⟩ | ⟨hb63, h⟩
        ·refine zS 6 [(0, .sl Y0 specs), (1, .sl Y1 h0), (2, .sl (.int .i64) l), (7, .bool v0_8.1), (9, .bool v0_9.1), (11, .int .i64 v0_10.1), (13, .own 73000), (14, .int .i64 v0_11.2), (15, .bool v0_12.1), (85, .bool true), (87, .cv (undef))] [(73000, .arr 3 (.int .i64) v0_11.1)] ?_
         refine zS 4 [(0, .sl Y0 specs), (1, .sl Y1 h0), (2, .sl (.int .i64) l), (7, .bool v0_8.1), (9, .bool v0_9.1), (11, .int .i64 v0_10.1), (13, .own 73000), (14, .int .i64 v0_11.2), (15, .bool v0_12.1), (85, .bool true), (91, .cv (undef))] [(73000, .arr 3 (.int .i64) v0_11.1)] ?_
         refine zS 6 [(0, .sl Y0 specs), (1, .sl Y1 h0), (2, .sl (.int .i64) l), (7, .bool v0_8.1), (9, .bool v0_9.1), (11, .int .i64 v0_10.1), (13, .own 73000), (14, .int .i64 v0_11.2), (15, .bool v0_12.1), (93, .bool true), (97, .cv (undef))] [(73000, .arr 3 (.int .i64) v0_11.1)] ?_
         refine zS 6 [(0, .sl Y0 specs), (1, .sl Y1 h0), (2, .sl (.int .i64) l), (7, .bool v0_8.1), (9, .bool v0_9.1), (11, .int .i64 v0_10.1), (13, .own 73000), (15, .bool v0_12.1), (99, .bool true), (103, .cv (undef))] [(73000, .arr 3 (.int .i64) v0_11.1)] ?_
         refine zS 6 [(0, .sl Y0 specs), (1, .sl Y1 h0), (2, .sl (.int .i64) l), (7, .bool v0_8.1), (11, .int .i64 v0_10.1), (13, .own 73000), (15, .bool v0_12.1), (105, .bool true), (107, .cv (undef)), (109, .cv (undef))] [(73000, .arr 3 (.int .i64) v0_11.1)] ?_
         refine zB [(0, .sl Y0 specs), (1, .sl Y1 h0), (2, .sl (.int .i64) l), (7, .bool v0_8.1), (11, .int .i64 v0_10.1), (13, .own 73000), (15, .bool v0_12.1), (111, .bool true)] [(73000, .arr 3 (.int .i64) v0_11.1)] ?_
         refine AW.cond (b := true) rfl (fun _ => ?_) (fun hb64 => by cases hb64)
         refine zo ?_
         refine zB [(6, .bool false)] [] ?_
         refine zr ?_
         obtain rfl := Option.some.inj h
         exact zR [] [] []
        ·refine zS 4 [(0, .sl Y0 specs), (1, .sl Y1 h0), (2, .sl (.int .i64) l), (7, .bool v0_8.1), (9, .bool v0_9.1), (11, .int .i64 v0_10.1), (13, .own 73000), (14, .int .i64 v0_11.2), (15, .bool v0_12.1), (85, .bool (!(decide (v0_12.2 = 0))))] [(73000, .arr 3 (.int .i64) v0_11.1)] ?_
         rcases zI h with ⟨hb65, h⟩ | ⟨hb65, h⟩
         ·refine zS 4 [(0, .sl Y0 specs), (1, .sl Y1 h0), (2, .sl (.int .i64) l), (7, .bool v0_8.1), (9, .bool v0_9.1), (11, .int .i64 v0_10.1), (13, .own 73000), (14, .int .i64 v0_11.2), (15, .bool v0_12.1), (85, .bool true), (88, .cv (undef)), (89, .cv (undef))] [(73000, .arr 3 (.int .i64) v0_11.1)] ?_
          refine zS 6 [(0, .sl Y0 specs), (1, .sl Y1 h0), (2, .sl (.int .i64) l), (7, .bool v0_8.1), (9, .bool v0_9.1), (11, .int .i64 v0_10.1), (13, .own 73000), (14, .int .i64 v0_11.2), (15, .bool v0_12.1), (93, .bool true), (94, .cv (undef)), (95, .cv (undef))] [(73000, .arr 3 (.int .i64) v0_11.1)] ?_
          refine zS 6 [(0, .sl Y0 specs), (1, .sl Y1 h0), (2, .sl (.int .i64) l), (7, .bool v0_8.1), (9, .bool v0_9.1), (11, .int .i64 v0_10.1), (13, .own 73000), (15, .bool v0_12.1), (99, .bool true), (100, .cv (undef)), (101, .cv (undef))] [(73000, .arr 3 (.int .i64) v0_11.1)] ?_
          refine zS 6 [(0, .sl Y0 specs), (1, .sl Y1 h0), (2, .sl (.int .i64) l), (7, .bool v0_8.1), (9, .bool v0_9.1), (11, .int .i64 v0_10.1), (13, .own 73000), (15, .bool v0_12.1), (105, .bool true), (107, .cv (undef))] [(73000, .arr 3 (.int .i64) v0_11.1)] ?_
          refine zB [(0, .sl Y0 specs), (1, .sl Y1 h0), (2, .sl (.int .i64) l), (7, .bool v0_8.1), (11, .int .i64 v0_10.1), (13, .own 73000), (15, .bool v0_12.1), (111, .bool true)] [(73000, .arr 3 (.int .i64) v0_11.1)] ?_
          refine AW.cond (b := true) rfl (fun _ => ?_) (fun hb66 => by cases hb66)
          refine zo ?_
          refine zB [(6, .bool false)] [] ?_
          refine zr ?_
          obtain rfl := Option.some.inj h
          exact zR [] [] []
         ·refine zS 3 [(0, .sl Y0 specs), (1, .sl Y1 h0), (2, .sl (.int .i64) l), (7, .bool v0_8.1), (9, .bool v0_9.1), (11, .int .i64 v0_10.1), (13, .own 73000), (14, .int .i64 v0_11.2), (15, .bool v0_12.1), (85, .bool false), (88, .bool (!(decide (v0_11.2 = 0))))] [(73000, .arr 3 (.int .i64) v0_11.1)] ?_
          rcases zI h with ⟨hb67, h⟩ | ⟨hb67, h⟩
          ·refine zS 5 [(0, .sl Y0 specs), (1, .sl Y1 h0), (2, .sl (.int .i64) l), (7, .bool v0_8.1), (9, .bool v0_9.1), (11, .int .i64 v0_10.1), (13, .own 73000), (14, .int .i64 v0_11.2), (15, .bool v0_12.1), (93, .bool (!(decide (v0_11.2 = 5))))] [(73000, .arr 3 (.int .i64) v0_11.1)] ?_
           rcases zI h with ⟨hb68, h⟩ | ⟨hb68, h⟩
           ·refine zS 4 [(0, .sl Y0 specs), (1, .sl Y1 h0), (2, .sl (.int .i64) l), (7, .bool v0_8.1), (9, .bool v0_9.1), (11, .int .i64 v0_10.1), (13, .own 73000), (14, .int .i64 v0_11.2), (15, .bool v0_12.1), (93, .bool true), (97, .cv (undef))] [(73000, .arr 3 (.int .i64) v0_11.1)] ?_
            refine zS 6 [(0, .sl Y0 specs), (1, .sl Y1 h0), (2, .sl (.int .i64) l), (7, .bool v0_8.1), (9, .bool v0_9.1), (11, .int .i64 v0_10.1), (13, .own 73000), (15, .bool v0_12.1), (99, .bool true), (103, .cv (undef))] [(73000, .arr 3 (.int .i64) v0_11.1)] ?_
            refine zS 6 [(0, .sl Y0 specs), (1, .sl Y1 h0), (2, .sl (.int .i64) l), (7, .bool v0_8.1), (11, .int .i64 v0_10.1), (13, .own 73000), (15, .bool v0_12.1), (105, .bool true), (107, .cv (undef)), (109, .cv (undef))] [(73000, .arr 3 (.int .i64) v0_11.1)] ?_
            refine zB [(0, .sl Y0 specs), (1, .sl Y1 h0), (2, .sl (.int .i64) l), (7, .bool v0_8.1), (11, .int .i64 v0_10.1), (13, .own 73000), (15, .bool v0_12.1), (111, .bool true)] [(73000, .arr 3 (.int .i64) v0_11.1)] ?_
            refine AW.cond (b := true) rfl (fun _ => ?_) (fun hb69 => by cases hb69)
            refine zo ?_
            refine zB [(6, .bool false)] [] ?_
            refine zr ?_
            obtain rfl := Option.some.inj h
            exact zR [] [] []
           ·refine zS 6 [(0, .sl Y0 specs), (1, .sl Y1 h0), (2, .sl (.int .i64) l), (7, .bool v0_8.1), (9, .bool v0_9.1), (11, .int .i64 v0_10.1), (13, .own 73000), (14, .int .i64 v0_11.2), (15, .bool v0_12.1), (99, .bool ((v0_8.1 == (decide (0 < v0_10.1))) != true))] [(73000, .arr 3 (.int .i64) v0_11.1)] ?_
            rcases zI h with ⟨hb70, h⟩ | ⟨hb70, h⟩
            ·refine zS 4 [(0, .sl Y0 specs), (1, .sl Y1 h0), (2, .sl (.int .i64) l), (7, .bool v0_8.1), (9, .bool v0_9.1), (11, .int .i64 v0_10.1), (13, .own 73000), (15, .bool v0_12.1), (99, .bool true), (103, .cv (undef))] [(73000, .arr 3 (.int .i64) v0_11.1)] ?_
             refine zS 6 [(0, .sl Y0 specs), (1, .sl Y1 h0), (2, .sl (.int .i64) l), (7, .bool v0_8.1), (11, .int .i64 v0_10.1), (13, .own 73000), (15, .bool v0_12.1), (105, .bool true), (107, .cv (undef)), (109, .cv (undef))] [(73000, .arr 3 (.int .i64) v0_11.1)] ?_
             refine zB [(0, .sl Y0 specs), (1, .sl Y1 h0), (2, .sl (.int .i64) l), (7, .bool v0_8.1), (11, .int .i64 v0_10.1), (13, .own 73000), (15, .bool v0_12.1), (111, .bool true)] [(73000, .arr 3 (.int .i64) v0_11.1)] ?_
             refine AW.cond (b := true) rfl (fun _ => ?_) (fun hb71 => by cases hb71)
             refine zo ?_
             refine zB [(6, .bool false)] [] ?_
             refine zr ?_
             obtain rfl := Option.some.inj h
             exact zR [] [] []
            ·refine zS 6 [(0, .sl Y0 specs), (1, .sl Y1 h0), (2, .sl (.int .i64) l), (7, .bool v0_8.1), (9, .bool v0_9.1), (11, .int .i64 v0_10.1), (13, .own 73000), (15, .bool v0_12.1), (105, .bool ((v0_8.1 == (decide (v0_11.2 = 0))) != true))] [(73000, .arr 3 (.int .i64) v0_11.1)] ?_
             rcases zI h with ⟨hb72, h⟩ | ⟨hb72, h⟩
             ·refine zS 4 [(0, .sl Y0 specs), (1, .sl Y1 h0), (2, .sl (.int .i64) l), (7, .bool v0_8.1), (11, .int .i64 v0_10.1), (13, .own 73000), (15, .bool v0_12.1), (105, .bool true), (107, .cv (undef)), (109, .cv (undef))] [(73000, .arr 3 (.int .i64) v0_11.1)] ?_
              refine zB [(0, .sl Y0 specs), (1, .sl Y1 h0), (2, .sl (.int .i64) l), (7, .bool v0_8.1), (11, .int .i64 v0_10.1), (13, .own 73000), (15, .bool v0_12.1), (111, .bool true)] [(73000, .arr 3 (.int .i64) v0_11.1)] ?_
              refine AW.cond (b := true) rfl (fun _ => ?_) (fun hb73 => by cases hb73)
              refine zo ?_
              refine zB [(6, .bool false)] [] ?_
              refine zr ?_
              obtain rfl := Option.some.inj h
              exact zR [] [] []
             ·refine zS 2 [(0, .sl Y0 specs), (1, .sl Y1 h0), (2, .sl (.int .i64) l), (7, .bool v0_8.1), (9, .bool v0_9.1), (11, .int .i64 v0_10.1), (13, .own 73000), (15, .bool v0_12.1), (105, .bool false), (107, .bool v0_8.1)] [(73000, .arr 3 (.int .i64) v0_11.1)] ?_
              rcases zI h with ⟨hb74, h⟩ | ⟨hb74, h⟩
              ·refine zB [(0, .sl Y0 specs), (1, .sl Y1 h0), (2, .sl (.int .i64) l), (7, .bool true), (11, .int .i64 v0_10.1), (13, .own 73000), (15, .bool v0_12.1), (111, .bool (!v0_9.1))] [(73000, .arr 3 (.int .i64) v0_11.1)] ?_
               refine zQ h (fun hb75 h => ?_) (fun hb75 h => ?_)
               ·refine zo ?_
                refine zB [(6, .bool false)] [] ?_
                refine zr ?_
                obtain rfl := Option.some.inj h
                exact zR [] [] []
               ·refine zk ?_
                refine zo ?_
                refine zB [(0, .sl Y0 specs), (1, .sl Y1 h0), (2, .sl (.int .i64) l), (7, .bool true), (11, .int .i64 v0_10.1), (13, .own 73000), (15, .bool v0_12.1), (17, .bool false)] [(73000, .arr 3 (.int .i64) v0_11.1)] ?_
                exact AW.weaken (zL [] [] []) (hk_lineallaw02_HistoryFirsts_k1 _ h)
              ·refine zB [(0, .sl Y0 specs), (1, .sl Y1 h0), (2, .sl (.int .i64) l), (7, .bool false), (11, .int .i64 v0_10.1), (13, .own 73000), (15, .bool v0_12.1), (111, .bool false)] [(73000, .arr 3 (.int .i64) v0_11.1)] ?_
               refine AW.cond (b := false) rfl (fun hb76 => by cases hb76) (fun _ => ?_)
               refine zk ?_
               refine zo ?_
               refine zB [(0, .sl Y0 specs), (1, .sl Y1 h0), (2, .sl (.int .i64) l), (7, .bool false), (11, .int .i64 v0_10.1), (13, .own 73000), (15, .bool v0_12.1), (17, .bool false)] [(73000, .arr 3 (.int .i64) v0_11.1)] ?_
               exact AW.weaken (zL [] [] []) (hk_lineallaw02_HistoryFirsts_k1 _ h)
          ·refine zS 11 [(0, .sl Y0 specs), (1, .sl Y1 h0), (2, .sl (.int .i64) l), (7, .bool v0_8.1), (9, .bool v0_9.1), (11, .int .i64 v0_10.1), (13, .own 73000), (14, .int .i64 v0_11.2), (15, .bool v0_12.1), (99, .bool ((v0_8.1 == (decide (0 < v0_10.1))) != true))] [(73000, .arr 3 (.int .i64) v0_11.1)] ?_
           rcases zI h with ⟨hb77, h⟩ | ⟨hb77, h⟩
           ·refine zS 4 [(0, .sl Y0 specs), (1, .sl Y1 h0), (2, .sl (.int .i64) l), (7, .bool v0_8.1), (9, .bool v0_9.1), (11, .int .i64 v0_10.1), (13, .own 73000), (15, .bool v0_12.1), (99, .bool true), (103, .cv (undef))] [(73000, .arr 3 (.int .i64) v0_11.1)] ?_
            refine zS 6 [(0, .sl Y0 specs), (1, .sl Y1 h0), (2, .sl (.int .i64) l), (7, .bool v0_8.1), (11, .int .i64 v0_10.1), (13, .own 73000), (15, .bool v0_12.1), (105, .bool true), (107, .cv (undef)), (109, .cv (undef))] [(73000, .arr 3 (.int .i64) v0_11.1)] ?_
            refine zB [(0, .sl Y0 specs), (1, .sl Y1 h0), (2, .sl (.int .i64) l), (7, .bool v0_8.1), (11, .int .i64 v0_10.1), (13, .own 73000), (15, .bool v0_12.1), (111, .bool true)] [(73000, .arr 3 (.int .i64) v0_11.1)] ?_
            refine AW.cond (b := true) rfl (fun _ => ?_) (fun hb78 => by cases hb78)
            refine zo ?_
            refine zB [(6, .bool false)] [] ?_
            refine zr ?_
            obtain rfl := Option.some.inj h
            exact zR [] [] []
           ·refine zS 6 [(0, .sl Y0 specs), (1, .sl Y1 h0), (2, .sl (.int .i64) l), (7, .bool v0_8.1), (9, .bool v0_9.1), (11, .int .i64 v0_10.1), (13, .own 73000), (15, .bool v0_12.1), (105, .bool ((v0_8.1 == (decide (v0_11.2 = 0))) != true))] [(73000, .arr 3 (.int .i64) v0_11.1)] ?_
            rcases zI h with ⟨hb79, h⟩ | ⟨hb79, h⟩
            ·refine zS 4 [(0, .sl Y0 specs), (1, .sl Y1 h0), (2, .sl (.int .i64) l), (7, .bool v0_8.1), (11, .int .i64 v0_10.1), (13, .own 73000), (15, .bool v0_12.1), (105, .bool true), (107, .cv (undef)), (109, .cv (undef))] [(73000, .arr 3 (.int .i64) v0_11.1)] ?_
             refine zB [(0, .sl Y0 specs), (1, .sl Y1 h0), (2, .sl (.int .i64) l), (7, .bool v0_8.1), (11, .int .i64 v0_10.1), (13, .own 73000), (15, .bool v0_12.1), (111, .bool true)] [(73000, .arr 3 (.int .i64) v0_11.1)] ?_
             refine AW.cond (b := true) rfl (fun _ => ?_) (fun hb80 => by cases hb80)
             refine zo ?_
             refine zB [(6, .bool false)] [] ?_
             refine zr ?_
             obtain rfl := Option.some.inj h
             exact zR [] [] []
            ·refine zS 2 [(0, .sl Y0 specs), (1, .sl Y1 h0), (2, .sl (.int .i64) l), (7, .bool v0_8.1), (9, .bool v0_9.1), (11, .int .i64 v0_10.1), (13, .own 73000), (15, .bool v0_12.1), (105, .bool false), (107, .bool v0_8.1)] [(73000, .arr 3 (.int .i64) v0_11.1)] ?_
             rcases zI h with ⟨hb81, h⟩ | ⟨hb81, h⟩
             ·refine zB [(0, .sl Y0 specs), (1, .sl Y1 h0), (2, .sl (.int .i64) l), (7, .bool true), (11, .int .i64 v0_10.1), (13, .own 73000), (15, .bool v0_12.1), (111, .bool (!v0_9.1))] [(73000, .arr 3 (.int .i64) v0_11.1)] ?_
              refine zQ h (fun hb82 h => ?_) (fun hb82 h => ?_)
              ·refine zo ?_
               refine zB [(6, .bool false)] [] ?_
               refine zr ?_
               obtain rfl := Option.some.inj h
               exact zR [] [] []
              ·refine zk ?_
               refine zo ?_
               refine zB [(0, .sl Y0 specs), (1, .sl Y1 h0), (2, .sl (.int .i64) l), (7, .bool true), (11, .int .i64 v0_10.1), (13, .own 73000), (15, .bool v0_12.1), (17, .bool false)] [(73000, .arr 3 (.int .i64) v0_11.1)] ?_
               exact AW.weaken (zL [] [] []) (hk_lineallaw02_HistoryFirsts_k1 _ h)
             ·refine zB [(0, .sl Y0 specs), (1, .sl Y1 h0), (2, .sl (.int .i64) l), (7, .bool false), (11, .int .i64 v0_10.1), (13, .own 73000), (15, .bool v0_12.1), (111, .bool false)] [(73000, .arr 3 (.int .i64) v0_11.1)] ?_
              refine AW.cond (b := false) rfl (fun hb83 => by cases hb83) (fun _ => ?_)
              refine zk ?_
              refine zo ?_
              refine zB [(0, .sl Y0 specs), (1, .sl Y1 h0), (2, .sl (.int .i64) l), (7, .bool false), (11, .int .i64 v0_10.1), (13, .own 73000), (15, .bool v0_12.1), (17, .bool false)] [(73000, .arr 3 (.int .i64) v0_11.1)] ?_
              exact AW.weaken (zL [] [] []) (hk_lineallaw02_HistoryFirsts_k1 _ h)

end Go.Proofs.Ytlfpagicagmjgaa
