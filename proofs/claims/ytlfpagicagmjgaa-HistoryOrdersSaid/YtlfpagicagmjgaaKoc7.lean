/-
  Made by wip/tool/dc.py out of the print of the program: contracts.
-/
import Derived.Test.YtlfpagicagmjgaaHp
import Derived.Test.YtlfpagicagmjgaaShh
import Derived.Test.YtlfpagicagmjgaaKoc3
import Derived.Test.YtlfpagicagmjgaaKoc4
import Derived.Test.YtlfpagicagmjgaaKoc5
import Derived.Test.YtlfpagicagmjgaaKoc6
namespace Go.Proofs.Ytlfpagicagmjgaa
open Go.RowKit

set_option linter.unusedSimpArgs false
set_option linter.unusedVariables false
set_option linter.constructorNameAsVariable false

set_option maxRecDepth 100000
set_option maxHeartbeats 2000000

theorem hc_lineallaw02_HistoryOrders (specs : List (Int × Int × (List (List Int)) × (List (List Int)))) (h0 : List (Int × Int × Int × Int × Int × Int)) (l : List Int) {r : Bool} (h : lineallaw02_HistoryOrders specs h0 l = some r) : HC Try.prog 4 [] [.sl Y0 specs, .sl Y1 h0, .sl (.int .i64) l] [] (.bool r) := by
  unfold lineallaw02_HistoryOrders at h
  refine zH Try.func4 [.tmp 6] 98 ?_
  refine zo ?_
  refine zB [(0, .sl Y0 specs), (1, .sl Y1 h0), (2, .sl (.int .i64) l)] [] ?_
  refine AW.seq ?_
  refine zo ?_
  refine zS 1 [(0, .sl Y0 specs), (1, .sl Y1 h0), (2, .sl (.int .i64) l), (17, .sl Y0 specs)] [] ?_
  obtain ⟨v0, hv1, h⟩ := Option.bind_eq_some_iff.1 h
  refine zC [] [] (hc_lineallaw02_Large specs hv1) [(0, .sl Y0 specs), (1, .sl Y1 h0), (2, .sl (.int .i64) l), (18, .bool v0)] [] ?_
  refine zS 1 [(0, .sl Y0 specs), (1, .sl Y1 h0), (2, .sl (.int .i64) l), (19, .bool v0)] [] ?_
  rcases zI h with ⟨hb2, h⟩ | ⟨hb2, h⟩
  ·
    refine zT [(0, .sl Y0 specs), (1, .sl Y1 h0), (2, .sl (.int .i64) l), (19, .bool true)] [] gt ?_
    refine zS 6 [(0, .sl Y0 specs), (1, .sl Y1 h0), (2, .sl (.int .i64) l), (23, .bool true), (25, .cv (undef))] [] ?_
    refine zB [(0, .sl Y0 specs), (1, .sl Y1 h0), (2, .sl (.int .i64) l), (27, .bool true)] [] ?_
    refine AW.cond (b := true) rfl (fun _ => ?_) (fun hb3 => by cases hb3)
    refine zo ?_
    obtain ⟨v0_2, hv4, h⟩ := Option.bind_eq_some_iff.1 h
    refine zC [] [] (hc_lineallaw02_Sane hv4) [(28, .bool v0_2)] [] ?_
    refine zB [(6, .bool v0_2)] [] ?_
    refine zr ?_
    obtain rfl := Option.some.inj h
    exact zR [] [] []
  ·
    refine zT [(0, .sl Y0 specs), (1, .sl Y1 h0), (2, .sl (.int .i64) l), (19, .bool false)] [] gt ?_
    refine zS 1 [(0, .sl Y0 specs), (1, .sl Y1 h0), (2, .sl (.int .i64) l), (19, .bool false), (20, .sl Y1 h0)] [] ?_
    obtain ⟨v0_3, hv5, h⟩ := Option.bind_eq_some_iff.1 h
    refine zG [] [] (hc_lineallaw02_Long h0 hv5) [(0, .sl Y0 specs), (1, .sl Y1 h0), (2, .sl (.int .i64) l), (19, .bool false), (21, .bool (decide (40 < (h0.length : Int))))] [] ?_
    refine zS 2 [(0, .sl Y0 specs), (1, .sl Y1 h0), (2, .sl (.int .i64) l), (23, .bool (decide (40 < (h0.length : Int))))] [] ?_
    rcases zI h with ⟨hb6, h⟩ | ⟨hb6, h⟩
    ·
      refine zT [(0, .sl Y0 specs), (1, .sl Y1 h0), (2, .sl (.int .i64) l), (23, .bool true)] [] gt ?_
      refine zB [(0, .sl Y0 specs), (1, .sl Y1 h0), (2, .sl (.int .i64) l), (27, .bool true)] [] ?_
      refine AW.cond (b := true) rfl (fun _ => ?_) (fun hb7 => by cases hb7)
      refine zo ?_
      obtain ⟨v0_4, hv8, h⟩ := Option.bind_eq_some_iff.1 h
      refine zC [] [] (hc_lineallaw02_Sane hv8) [(28, .bool v0_4)] [] ?_
      refine zB [(6, .bool v0_4)] [] ?_
      refine zr ?_
      obtain rfl := Option.some.inj h
      exact zR [] [] []
    ·
      refine zT [(0, .sl Y0 specs), (1, .sl Y1 h0), (2, .sl (.int .i64) l), (23, .bool false)] [] gt ?_
      refine zB [(0, .sl Y0 specs), (1, .sl Y1 h0), (2, .sl (.int .i64) l), (27, .bool (decide (60 < (l.length : Int))))] [] ?_
      refine zQ h (fun hb9 h => ?_) (fun hb9 h => ?_)
      ·
        refine zo ?_
        obtain ⟨v0_5, hv10, h⟩ := Option.bind_eq_some_iff.1 h
        refine zC [] [] (hc_lineallaw02_Sane hv10) [(28, .bool v0_5)] [] ?_
        refine zB [(6, .bool v0_5)] [] ?_
        refine zr ?_
        obtain rfl := Option.some.inj h
        exact zR [] [] []
      ·
        refine zk ?_
        refine zo ?_
        refine zS 3 [(0, .sl Y0 specs), (1, .sl Y1 h0), (2, .sl (.int .i64) l), (30, .sl Y0 specs), (31, .sl Y1 h0), (32, .sl (.int .i64) l)] [] ?_
        obtain ⟨v0_6, hv11, h⟩ := Option.bind_eq_some_iff.1 h
        refine zC [] [] (hc_history_IsOrder specs h0 l hv11) [(0, .sl Y0 specs), (1, .sl Y1 h0), (2, .sl (.int .i64) l), (33, .tup [.bool v0_6.1, .int .i64 v0_6.2])] [] ?_
        refine zB [(0, .sl Y0 specs), (1, .sl Y1 h0), (2, .sl (.int .i64) l), (7, .bool v0_6.1), (8, .int .i64 v0_6.2)] [] ?_
        refine zo ?_
        refine zS 3 [(0, .sl Y0 specs), (1, .sl Y1 h0), (2, .sl (.int .i64) l), (7, .bool v0_6.1), (8, .int .i64 v0_6.2), (37, .sl Y0 specs), (38, .sl Y1 h0), (39, .sl (.int .i64) l)] [] ?_
        obtain ⟨v0_7, hv12, h⟩ := Option.bind_eq_some_iff.1 h
        refine zC [] [] (hc_linealref02_IsOrder specs h0 l hv12) [(0, .sl Y0 specs), (1, .sl Y1 h0), (2, .sl (.int .i64) l), (7, .bool v0_6.1), (8, .int .i64 v0_6.2), (40, .tup [.bool v0_7.1, .int .i64 v0_7.2])] [] ?_
        refine zB [(0, .sl Y0 specs), (1, .sl Y1 h0), (2, .sl (.int .i64) l), (7, .bool v0_6.1), (8, .int .i64 v0_6.2), (9, .bool v0_7.1), (10, .int .i64 v0_7.2)] [] ?_
        refine zo ?_
        refine zS 3 [(0, .sl Y0 specs), (1, .sl Y1 h0), (2, .sl (.int .i64) l), (7, .bool v0_6.1), (8, .int .i64 v0_6.2), (9, .bool v0_7.1), (10, .int .i64 v0_7.2), (44, .sl Y0 specs), (45, .sl Y1 h0), (46, .sl (.int .i64) l)] [] ?_
        obtain ⟨v0_8, hv13, h⟩ := Option.bind_eq_some_iff.1 h
        refine zC [] [] (hc_history_Allows specs h0 l hv13) [(0, .sl Y0 specs), (1, .sl Y1 h0), (2, .sl (.int .i64) l), (7, .bool v0_6.1), (8, .int .i64 v0_6.2), (9, .bool v0_7.1), (10, .int .i64 v0_7.2), (47, .tup [.bool v0_8.1, .int .i64 v0_8.2])] [] ?_
        refine zB [(0, .sl Y0 specs), (1, .sl Y1 h0), (2, .sl (.int .i64) l), (7, .bool v0_6.1), (8, .int .i64 v0_6.2), (9, .bool v0_7.1), (10, .int .i64 v0_7.2), (11, .bool v0_8.1), (12, .int .i64 v0_8.2)] [] ?_
        refine zo ?_
        refine zS 3 [(0, .sl Y0 specs), (1, .sl Y1 h0), (7, .bool v0_6.1), (8, .int .i64 v0_6.2), (9, .bool v0_7.1), (10, .int .i64 v0_7.2), (11, .bool v0_8.1), (12, .int .i64 v0_8.2), (51, .sl Y0 specs), (52, .sl Y1 h0), (53, .sl (.int .i64) l)] [] ?_
        obtain ⟨v0_9, hv14, h⟩ := Option.bind_eq_some_iff.1 h
        refine zC [] [] (hc_linealref02_Allows specs h0 l hv14) [(0, .sl Y0 specs), (1, .sl Y1 h0), (7, .bool v0_6.1), (8, .int .i64 v0_6.2), (9, .bool v0_7.1), (10, .int .i64 v0_7.2), (11, .bool v0_8.1), (12, .int .i64 v0_8.2), (54, .tup [.bool v0_9.1, .int .i64 v0_9.2])] [] ?_
        refine zB [(0, .sl Y0 specs), (1, .sl Y1 h0), (7, .bool v0_6.1), (8, .int .i64 v0_6.2), (9, .bool v0_7.1), (10, .int .i64 v0_7.2), (11, .bool v0_8.1), (12, .int .i64 v0_8.2), (13, .bool v0_9.1), (14, .int .i64 v0_9.2)] [] ?_
        refine AW.seq ?_
        refine zo ?_
        refine zS 4 [(0, .sl Y0 specs), (1, .sl Y1 h0), (8, .int .i64 v0_6.2), (10, .int .i64 v0_7.2), (11, .bool v0_8.1), (12, .int .i64 v0_8.2), (13, .bool v0_9.1), (14, .int .i64 v0_9.2), (60, .bool ((v0_6.1 == v0_7.1) != true))] [] ?_
        rcases zI h with ⟨hb15, h⟩ | ⟨hb15, h⟩
        ·
          refine zT [(0, .sl Y0 specs), (1, .sl Y1 h0), (8, .int .i64 v0_6.2), (10, .int .i64 v0_7.2), (11, .bool v0_8.1), (12, .int .i64 v0_8.2), (13, .bool v0_9.1), (14, .int .i64 v0_9.2), (60, .bool true)] [] gt ?_
          refine zS 6 [(0, .sl Y0 specs), (1, .sl Y1 h0), (12, .int .i64 v0_8.2), (13, .bool v0_9.1), (14, .int .i64 v0_9.2), (65, .bool true), (66, .cv (undef))] [] ?_
          refine zS 6 [(0, .sl Y0 specs), (1, .sl Y1 h0), (70, .bool true), (71, .cv (undef)), (72, .cv (undef))] [] ?_
          refine zB [(0, .sl Y0 specs), (1, .sl Y1 h0), (74, .bool true)] [] ?_
          refine AW.cond (b := true) rfl (fun _ => ?_) (fun hb16 => by cases hb16)
          refine zo ?_
          refine zB [(6, .bool false)] [] ?_
          refine zr ?_
          obtain rfl := Option.some.inj h
          exact zR [] [] []
        ·
          refine zT [(0, .sl Y0 specs), (1, .sl Y1 h0), (8, .int .i64 v0_6.2), (10, .int .i64 v0_7.2), (11, .bool v0_8.1), (12, .int .i64 v0_8.2), (13, .bool v0_9.1), (14, .int .i64 v0_9.2), (60, .bool false)] [] gt ?_
          refine zS 5 [(0, .sl Y0 specs), (1, .sl Y1 h0), (11, .bool v0_8.1), (12, .int .i64 v0_8.2), (13, .bool v0_9.1), (14, .int .i64 v0_9.2), (65, .bool (!(decide (v0_6.2 = v0_7.2))))] [] ?_
          rcases zI h with ⟨hb17, h⟩ | ⟨hb17, h⟩
          ·
            refine zT [(0, .sl Y0 specs), (1, .sl Y1 h0), (11, .bool v0_8.1), (12, .int .i64 v0_8.2), (13, .bool v0_9.1), (14, .int .i64 v0_9.2), (65, .bool true)] [] gt ?_
            refine zS 6 [(0, .sl Y0 specs), (1, .sl Y1 h0), (14, .int .i64 v0_9.2), (70, .bool true), (71, .cv (undef))] [] ?_
            refine zB [(0, .sl Y0 specs), (1, .sl Y1 h0), (74, .bool true)] [] ?_
            refine AW.cond (b := true) rfl (fun _ => ?_) (fun hb18 => by cases hb18)
            refine zo ?_
            refine zB [(6, .bool false)] [] ?_
            refine zr ?_
            obtain rfl := Option.some.inj h
            exact zR [] [] []
          ·
            refine zT [(0, .sl Y0 specs), (1, .sl Y1 h0), (11, .bool v0_8.1), (12, .int .i64 v0_8.2), (13, .bool v0_9.1), (14, .int .i64 v0_9.2), (65, .bool false)] [] gt ?_
            refine zS 5 [(0, .sl Y0 specs), (1, .sl Y1 h0), (12, .int .i64 v0_8.2), (14, .int .i64 v0_9.2), (70, .bool ((v0_8.1 == v0_9.1) != true))] [] ?_
            rcases zI h with ⟨hb19, h⟩ | ⟨hb19, h⟩
            ·
              refine zT [(0, .sl Y0 specs), (1, .sl Y1 h0), (12, .int .i64 v0_8.2), (14, .int .i64 v0_9.2), (70, .bool true)] [] gt ?_
              refine zB [(0, .sl Y0 specs), (1, .sl Y1 h0), (74, .bool true)] [] ?_
              refine AW.cond (b := true) rfl (fun _ => ?_) (fun hb20 => by cases hb20)
              refine zo ?_
              refine zB [(6, .bool false)] [] ?_
              refine zr ?_
              obtain rfl := Option.some.inj h
              exact zR [] [] []
            ·
              refine zT [(0, .sl Y0 specs), (1, .sl Y1 h0), (12, .int .i64 v0_8.2), (14, .int .i64 v0_9.2), (70, .bool false)] [] gt ?_
              refine zB [(0, .sl Y0 specs), (1, .sl Y1 h0), (74, .bool (!(decide (v0_8.2 = v0_9.2))))] [] ?_
              refine zQ h (fun hb21 h => ?_) (fun hb21 h => ?_)
              ·
                refine zo ?_
                refine zB [(6, .bool false)] [] ?_
                refine zr ?_
                obtain rfl := Option.some.inj h
                exact zR [] [] []
              ·
                refine zk ?_
                refine zo ?_
                refine zS 2 [(0, .sl Y0 specs), (1, .sl Y1 h0), (76, .sl Y0 specs), (77, .sl Y1 h0)] [] ?_
                obtain ⟨v0_10, hv22, h⟩ := Option.bind_eq_some_iff.1 h
                refine zC [] [] (hc_history_Order specs h0 hv22) [(0, .sl Y0 specs), (1, .sl Y1 h0), (78, .tup [.own 88000, .int .i64 v0_10.2])] [(88000, .arr 3 (.int .i64) v0_10.1)] ?_
                refine zB [(0, .sl Y0 specs), (1, .sl Y1 h0), (8, .int .i64 v0_10.2), (15, .own 88000)] [(88000, .arr 3 (.int .i64) v0_10.1)] ?_
                refine zo ?_
                refine zS 2 [(8, .int .i64 v0_10.2), (15, .own 88000), (82, .sl Y0 specs), (83, .sl Y1 h0)] [(88000, .arr 3 (.int .i64) v0_10.1)] ?_
                obtain ⟨v0_11, hv23, h⟩ := Option.bind_eq_some_iff.1 h
                refine zC [] [] (hc_linealref02_Order specs h0 hv23) [(8, .int .i64 v0_10.2), (15, .own 88000), (84, .tup [.own 94000, .int .i64 v0_11.2])] [(88000, .arr 3 (.int .i64) v0_10.1), (94000, .arr 3 (.int .i64) v0_11.1)] ?_
                refine zB [(8, .int .i64 v0_10.2), (10, .int .i64 v0_11.2), (15, .own 88000), (16, .own 94000)] [(88000, .arr 3 (.int .i64) v0_10.1), (94000, .arr 3 (.int .i64) v0_11.1)] ?_
                refine zo ?_
                refine zS 2 [(8, .int .i64 v0_10.2), (10, .int .i64 v0_11.2), (87, .own 88000), (88, .own 94000)] [(88000, .arr 3 (.int .i64) v0_10.1), (94000, .arr 3 (.int .i64) v0_11.1)] ?_
                obtain ⟨v0_12, hv24, h⟩ := Option.bind_eq_some_iff.1 h
                refine zC [88000, 94000] [] (hc_linealref02_SameInts v0_10.1 v0_11.1 hv24) [(8, .int .i64 v0_10.2), (10, .int .i64 v0_11.2), (89, .bool v0_12)] [] ?_
                refine zS 1 [(8, .int .i64 v0_10.2), (10, .int .i64 v0_11.2), (90, .bool v0_12)] [] ?_
                rcases zI h with ⟨hb25, h⟩ | ⟨hb25, h⟩
                ·
                  refine zT [(8, .int .i64 v0_10.2), (10, .int .i64 v0_11.2), (90, .bool true)] [] gt ?_
                  refine zS 5 [(95, .bool (decide (v0_10.2 = v0_11.2)))] [] ?_
                  rcases zI h with ⟨hb26, h⟩ | ⟨hb26, h⟩
                  ·
                    refine zT [(95, .bool true)] [] gt ?_
                    obtain ⟨v0_13, hv27, h⟩ := Option.bind_eq_some_iff.1 h
                    refine zG [] [] (hc_lineallaw02_Sane hv27) [(95, .bool true), (96, .bool v0_13)] [] ?_
                    refine zB [(6, .bool v0_13)] [] ?_
                    refine AW.ret ?_
                    obtain rfl := Option.some.inj h
                    exact zR [] [] []
                  ·
                    refine zT [(95, .bool false)] [] gt ?_
                    refine zB [(6, .bool false)] [] ?_
                    refine AW.ret ?_
                    obtain rfl := Option.some.inj h
                    exact zR [] [] []
                ·
                  refine zT [(8, .int .i64 v0_10.2), (10, .int .i64 v0_11.2), (90, .bool false)] [] gt ?_
                  refine zS 6 [(95, .bool false), (96, .cv (undef))] [] ?_
                  refine zB [(6, .bool false)] [] ?_
                  refine AW.ret ?_
                  obtain rfl := Option.some.inj h
                  exact zR [] [] []

end Go.Proofs.Ytlfpagicagmjgaa
