/-
  Made by wip/tool/dc.py out of the print of the program: contracts.
-/
import Derived.Test.YteclokkdgmacpaaGrp
import Derived.Test.YteclokkdgmacpaaSh7
import Derived.Test.YteclokkdgmacpaaGhc6
import Derived.Test.YteclokkdgmacpaaGhc7
import Derived.Test.YteclokkdgmacpaaGhc8
namespace Go.Proofs.Yteclokkdgmacpaa
open Go.RowKit

set_option linter.unusedSimpArgs false
set_option linter.unusedVariables false
set_option linter.constructorNameAsVariable false

set_option maxRecDepth 100000
set_option maxHeartbeats 2000000

theorem hc_lineallaw07_ProgressNames (g : Int × (List (Int × Int × Int × Bool))) (claim : Int) (thread : Int) (a : Int) (b : Int) {r : Bool} (h : lineallaw07_ProgressNames g claim thread a b = some r) : HC Try.prog 12 [] [.agg [.int .i64 g.1, .sl (.pair (.int .i64) (.pair (.int .i64) (.pair (.int .i64) .bool))) g.2], .int .u8 claim, .int .u8 thread, .int .u8 a, .int .u8 b] [] (.bool r) := by
 unfold lineallaw07_ProgressNames at h
 refine zH Try.func12 [.tmp 10] 103 ?_
 refine zo ?_
 refine zB [(1, .int .u8 claim), (2, .int .u8 thread), (3, .int .u8 a), (4, .int .u8 b), (5, .bp 5 0)] [(5, .box 24 [.int .i64 g.1, .sl (.pair (.int .i64) (.pair (.int .i64) (.pair (.int .i64) .bool))) g.2])] ?_
 refine AW.seq ?_
 refine zo ?_
 refine zS 1 [(1, .int .u8 claim), (2, .int .u8 thread), (3, .int .u8 a), (4, .int .u8 b), (5, .bp 5 0), (22, .agg [.int .i64 g.1, .sl (.pair (.int .i64) (.pair (.int .i64) (.pair (.int .i64) .bool))) g.2])] [(5, .box 24 [.int .i64 g.1, .sl (.pair (.int .i64) (.pair (.int .i64) (.pair (.int .i64) .bool))) g.2])] ?_
 obtain ⟨v0, hv1, h⟩ := Option.bind_eq_some_iff.1 h
 refine zC [] [] (hc_lineallaw07_Long g hv1) [(1, .int .u8 claim), (2, .int .u8 thread), (3, .int .u8 a), (4, .int .u8 b), (5, .bp 5 0), (23, .bool (decide (100 < (g.2.length : Int))))] [(5, .box 24 [.int .i64 g.1, .sl (.pair (.int .i64) (.pair (.int .i64) (.pair (.int .i64) .bool))) g.2])] ?_
 refine zS 1 [(1, .int .u8 claim), (2, .int .u8 thread), (3, .int .u8 a), (4, .int .u8 b), (5, .bp 5 0), (24, .bool (decide (100 < (g.2.length : Int))))] [(5, .box 24 [.int .i64 g.1, .sl (.pair (.int .i64) (.pair (.int .i64) (.pair (.int .i64) .bool))) g.2])] ?_
 rcases zI h with ⟨hb2, h⟩ | ⟨hb2, h⟩
 ·refine zB [(1, .int .u8 claim), (2, .int .u8 thread), (3, .int .u8 a), (4, .int .u8 b), (5, .bp 5 0), (28, .bool true)] [(5, .box 24 [.int .i64 g.1, .sl (.pair (.int .i64) (.pair (.int .i64) (.pair (.int .i64) .bool))) g.2])] ?_
  refine AW.cond (b := true) rfl (fun _ => ?_) (fun hb3 => by cases hb3)
  refine zo ?_
  obtain ⟨v0_2, hv4, h⟩ := Option.bind_eq_some_iff.1 h
  refine zC [] [] (hc_lineallaw07_Awake hv4) [(29, .bool v0_2)] [] ?_
  refine zB [(10, .bool v0_2)] [] ?_
  refine zr ?_
  obtain rfl := Option.some.inj h
  exact zR [] [] []
 ·refine zS 1 [(1, .int .u8 claim), (2, .int .u8 thread), (3, .int .u8 a), (4, .int .u8 b), (5, .bp 5 0), (24, .bool false), (25, .agg [.int .i64 g.1, .sl (.pair (.int .i64) (.pair (.int .i64) (.pair (.int .i64) .bool))) g.2])] [(5, .box 24 [.int .i64 g.1, .sl (.pair (.int .i64) (.pair (.int .i64) (.pair (.int .i64) .bool))) g.2])] ?_
  obtain ⟨v0_3, hv5, h⟩ := Option.bind_eq_some_iff.1 h
  refine zG [] [] (hc_linealref07_Valid g hv5) [(1, .int .u8 claim), (2, .int .u8 thread), (3, .int .u8 a), (4, .int .u8 b), (5, .bp 5 0), (24, .bool false), (26, .bool v0_3)] [(5, .box 24 [.int .i64 g.1, .sl (.pair (.int .i64) (.pair (.int .i64) (.pair (.int .i64) .bool))) g.2])] ?_
  refine zB [(1, .int .u8 claim), (2, .int .u8 thread), (3, .int .u8 a), (4, .int .u8 b), (5, .bp 5 0), (28, .bool (!v0_3))] [(5, .box 24 [.int .i64 g.1, .sl (.pair (.int .i64) (.pair (.int .i64) (.pair (.int .i64) .bool))) g.2])] ?_
  refine zQ h (fun hb6 h => ?_) (fun hb6 h => ?_)
  ·refine zo ?_
   obtain ⟨v0_4, hv7, h⟩ := Option.bind_eq_some_iff.1 h
   refine zC [] [] (hc_lineallaw07_Awake hv7) [(29, .bool v0_4)] [] ?_
   refine zB [(10, .bool v0_4)] [] ?_
   refine zr ?_
   obtain rfl := Option.some.inj h
   exact zR [] [] []
  ·refine zk ?_
   refine zo ?_
   refine zS 2 [(3, .int .u8 a), (4, .int .u8 b), (5, .bp 5 0), (31, .int .u8 claim), (32, .int .u8 thread)] [(5, .box 24 [.int .i64 g.1, .sl (.pair (.int .i64) (.pair (.int .i64) (.pair (.int .i64) .bool))) g.2])] ?_
   obtain ⟨v0_5, hv8, h⟩ := Option.bind_eq_some_iff.1 h
   refine zC [] [] (hc_lineallaw07_asked claim thread hv8) [(3, .int .u8 a), (4, .int .u8 b), (5, .bp 5 0), (33, .tup [.int .i64 v0_5.1, .int .i64 v0_5.2])] [(5, .box 24 [.int .i64 g.1, .sl (.pair (.int .i64) (.pair (.int .i64) (.pair (.int .i64) .bool))) g.2])] ?_
   refine zB [(3, .int .u8 a), (4, .int .u8 b), (5, .bp 5 0), (11, .int .i64 v0_5.1), (12, .int .i64 v0_5.2)] [(5, .box 24 [.int .i64 g.1, .sl (.pair (.int .i64) (.pair (.int .i64) (.pair (.int .i64) .bool))) g.2])] ?_
   refine zo ?_
   obtain ⟨c9, h⟩ := ck_some.1 h
   obtain ⟨c10, h⟩ := ck_some.1 h
   obtain ⟨c11, h⟩ := ck_some.1 h
   refine zS 5 [(5, .bp 5 0), (11, .int .i64 v0_5.1), (12, .int .i64 v0_5.2), (38, .int .i64 (a % 3)), (40, .int .i64 b)] [(5, .box 24 [.int .i64 g.1, .sl (.pair (.int .i64) (.pair (.int .i64) (.pair (.int .i64) .bool))) g.2])] ?_
   obtain ⟨c12, h⟩ := ck_some.1 h
   refine zB [(5, .bp 5 0), (11, .int .i64 v0_5.1), (12, .int .i64 v0_5.2), (13, .int .i64 (a % 3)), (14, .int .i64 (b % 3))] [(5, .box 24 [.int .i64 g.1, .sl (.pair (.int .i64) (.pair (.int .i64) (.pair (.int .i64) .bool))) g.2])] ?_
   refine zo ?_
   refine zS 3 [(5, .bp 5 0), (11, .int .i64 v0_5.1), (12, .int .i64 v0_5.2), (13, .int .i64 (a % 3)), (14, .int .i64 (b % 3)), (43, .agg [.int .i64 g.1, .sl (.pair (.int .i64) (.pair (.int .i64) (.pair (.int .i64) .bool))) g.2]), (44, .int .i64 (a % 3)), (45, .int .i64 (b % 3))] [(5, .box 24 [.int .i64 g.1, .sl (.pair (.int .i64) (.pair (.int .i64) (.pair (.int .i64) .bool))) g.2])] ?_
   obtain ⟨v0_6, hv13, h⟩ := Option.bind_eq_some_iff.1 h
   refine zC [] [] (hc_progress_Renamed g (a % 3) (b % 3) hv13) [(5, .bp 5 0), (11, .int .i64 v0_5.1), (12, .int .i64 v0_5.2), (13, .int .i64 (a % 3)), (14, .int .i64 (b % 3)), (46, .tup [.agg [.int .i64 v0_6.1, .own 56000], .int .i64 v0_6.2.2])] [(5, .box 24 [.int .i64 g.1, .sl (.pair (.int .i64) (.pair (.int .i64) (.pair (.int .i64) .bool))) g.2]), (56000, .arr 61 (.pair (.int .i64) (.pair (.int .i64) (.pair (.int .i64) .bool))) v0_6.2.1)] ?_
   refine zS 5 [(5, .bp 5 0), (11, .int .i64 v0_5.1), (12, .int .i64 v0_5.2), (13, .int .i64 (a % 3)), (14, .int .i64 (b % 3)), (15, .bp 15 0), (48, .int .i64 v0_6.2.2)] [(5, .box 24 [.int .i64 g.1, .sl (.pair (.int .i64) (.pair (.int .i64) (.pair (.int .i64) .bool))) g.2]), (15, .box 24 [.int .i64 v0_6.1, .own 56000]), (56000, .arr 61 (.pair (.int .i64) (.pair (.int .i64) (.pair (.int .i64) .bool))) v0_6.2.1)] ?_
   refine zB [(5, .bp 5 0), (11, .int .i64 v0_5.1), (12, .int .i64 v0_5.2), (13, .int .i64 (a % 3)), (14, .int .i64 (b % 3)), (15, .bp 15 0), (16, .int .i64 v0_6.2.2)] [(5, .box 24 [.int .i64 g.1, .sl (.pair (.int .i64) (.pair (.int .i64) (.pair (.int .i64) .bool))) g.2]), (15, .box 24 [.int .i64 v0_6.1, .own 56000]), (56000, .arr 61 (.pair (.int .i64) (.pair (.int .i64) (.pair (.int .i64) .bool))) v0_6.2.1)] ?_
   refine zo ?_
   refine zS 3 [(5, .bp 5 0), (11, .int .i64 v0_5.1), (12, .int .i64 v0_5.2), (13, .int .i64 (a % 3)), (14, .int .i64 (b % 3)), (15, .bp 15 0), (16, .int .i64 v0_6.2.2), (50, .agg [.int .i64 v0_6.1, .own 56000]), (51, .int .i64 (a % 3)), (52, .int .i64 (b % 3))] [(5, .box 24 [.int .i64 g.1, .sl (.pair (.int .i64) (.pair (.int .i64) (.pair (.int .i64) .bool))) g.2]), (15, .box 24 [.int .i64 v0_6.1, .own 56000]), (56000, .arr 61 (.pair (.int .i64) (.pair (.int .i64) (.pair (.int .i64) .bool))) v0_6.2.1)] ?_
   obtain ⟨v0_7, hv14, h⟩ := Option.bind_eq_some_iff.1 h
   refine zC [56000] [] (hc_progress_Renamed (v0_6.1, v0_6.2.1) (a % 3) (b % 3) hv14) [(5, .bp 5 0), (11, .int .i64 v0_5.1), (12, .int .i64 v0_5.2), (13, .int .i64 (a % 3)), (14, .int .i64 (b % 3)), (15, .bp 15 0), (16, .int .i64 v0_6.2.2), (53, .tup [.agg [.int .i64 v0_7.1, .own 63000], .int .i64 v0_7.2.2])] [(5, .box 24 [.int .i64 g.1, .sl (.pair (.int .i64) (.pair (.int .i64) (.pair (.int .i64) .bool))) g.2]), (15, .box 24 [.int .i64 v0_6.1, .own 56000]), (56000, .arr 61 (.pair (.int .i64) (.pair (.int .i64) (.pair (.int .i64) .bool))) v0_6.2.1), (63000, .arr 61 (.pair (.int .i64) (.pair (.int .i64) (.pair (.int .i64) .bool))) v0_7.2.1)] ?_
   refine zS 5 [(5, .bp 5 0), (11, .int .i64 v0_5.1), (12, .int .i64 v0_5.2), (13, .int .i64 (a % 3)), (14, .int .i64 (b % 3)), (15, .bp 15 0), (16, .int .i64 v0_6.2.2), (17, .bp 17 0), (55, .int .i64 v0_7.2.2)] [(5, .box 24 [.int .i64 g.1, .sl (.pair (.int .i64) (.pair (.int .i64) (.pair (.int .i64) .bool))) g.2]), (15, .box 24 [.int .i64 v0_6.1, .own 56000]), (17, .box 24 [.int .i64 v0_7.1, .own 63000]), (56000, .arr 61 (.pair (.int .i64) (.pair (.int .i64) (.pair (.int .i64) .bool))) v0_6.2.1), (63000, .arr 61 (.pair (.int .i64) (.pair (.int .i64) (.pair (.int .i64) .bool))) v0_7.2.1)] ?_
   refine zB [(5, .bp 5 0), (11, .int .i64 v0_5.1), (12, .int .i64 v0_5.2), (13, .int .i64 (a % 3)), (14, .int .i64 (b % 3)), (15, .bp 15 0), (16, .int .i64 v0_6.2.2), (17, .bp 17 0), (18, .int .i64 v0_7.2.2)] [(5, .box 24 [.int .i64 g.1, .sl (.pair (.int .i64) (.pair (.int .i64) (.pair (.int .i64) .bool))) g.2]), (15, .box 24 [.int .i64 v0_6.1, .own 56000]), (17, .box 24 [.int .i64 v0_7.1, .own 63000]), (56000, .arr 61 (.pair (.int .i64) (.pair (.int .i64) (.pair (.int .i64) .bool))) v0_6.2.1), (63000, .arr 61 (.pair (.int .i64) (.pair (.int .i64) (.pair (.int .i64) .bool))) v0_7.2.1)] ?_
   refine AW.seq ?_
   refine zo ?_
   refine zS 3 [(5, .bp 5 0), (11, .int .i64 v0_5.1), (12, .int .i64 v0_5.2), (13, .int .i64 (a % 3)), (14, .int .i64 (b % 3)), (15, .bp 15 0), (17, .bp 17 0), (18, .int .i64 v0_7.2.2), (58, .bool (!(decide (v0_6.2.2 = 0))))] [(5, .box 24 [.int .i64 g.1, .sl (.pair (.int .i64) (.pair (.int .i64) (.pair (.int .i64) .bool))) g.2]), (15, .box 24 [.int .i64 v0_6.1, .own 56000]), (17, .box 24 [.int .i64 v0_7.1, .own 63000]), (56000, .arr 61 (.pair (.int .i64) (.pair (.int .i64) (.pair (.int .i64) .bool))) v0_6.2.1), (63000, .arr 61 (.pair (.int .i64) (.pair (.int .i64) (.pair (.int .i64) .bool))) v0_7.2.1)] ?_
   rcases zI h with ⟨hb15, h⟩ | ⟨hb15, h⟩
   ·refine zS 5 [(5, .bp 5 0), (11, .int .i64 v0_5.1), (12, .int .i64 v0_5.2), (13, .int .i64 (a % 3)), (14, .int .i64 (b % 3)), (15, .bp 15 0), (62, .bool true), (63, .cv (undef))] [(5, .box 24 [.int .i64 g.1, .sl (.pair (.int .i64) (.pair (.int .i64) (.pair (.int .i64) .bool))) g.2]), (15, .box 24 [.int .i64 v0_6.1, .own 56000]), (56000, .arr 61 (.pair (.int .i64) (.pair (.int .i64) (.pair (.int .i64) .bool))) v0_6.2.1)] ?_
    refine zB [(5, .bp 5 0), (11, .int .i64 v0_5.1), (12, .int .i64 v0_5.2), (13, .int .i64 (a % 3)), (14, .int .i64 (b % 3)), (15, .bp 15 0), (67, .bool true)] [(5, .box 24 [.int .i64 g.1, .sl (.pair (.int .i64) (.pair (.int .i64) (.pair (.int .i64) .bool))) g.2]), (15, .box 24 [.int .i64 v0_6.1, .own 56000]), (56000, .arr 61 (.pair (.int .i64) (.pair (.int .i64) (.pair (.int .i64) .bool))) v0_6.2.1)] ?_
    refine AW.cond (b := true) rfl (fun _ => ?_) (fun hb16 => by cases hb16)
    refine zo ?_
    refine zB [(10, .bool false)] [] ?_
    refine zr ?_
    obtain rfl := Option.some.inj h
    exact zR [] [] []
   ·refine zS 4 [(5, .bp 5 0), (11, .int .i64 v0_5.1), (12, .int .i64 v0_5.2), (13, .int .i64 (a % 3)), (14, .int .i64 (b % 3)), (15, .bp 15 0), (17, .bp 17 0), (62, .bool (!(decide (v0_7.2.2 = 0))))] [(5, .box 24 [.int .i64 g.1, .sl (.pair (.int .i64) (.pair (.int .i64) (.pair (.int .i64) .bool))) g.2]), (15, .box 24 [.int .i64 v0_6.1, .own 56000]), (17, .box 24 [.int .i64 v0_7.1, .own 63000]), (56000, .arr 61 (.pair (.int .i64) (.pair (.int .i64) (.pair (.int .i64) .bool))) v0_6.2.1), (63000, .arr 61 (.pair (.int .i64) (.pair (.int .i64) (.pair (.int .i64) .bool))) v0_7.2.1)] ?_
    rcases zI h with ⟨hb17, h⟩ | ⟨hb17, h⟩
    ·refine zS 4 [(5, .bp 5 0), (11, .int .i64 v0_5.1), (12, .int .i64 v0_5.2), (13, .int .i64 (a % 3)), (14, .int .i64 (b % 3)), (15, .bp 15 0), (62, .bool true), (66, .cv (undef))] [(5, .box 24 [.int .i64 g.1, .sl (.pair (.int .i64) (.pair (.int .i64) (.pair (.int .i64) .bool))) g.2]), (15, .box 24 [.int .i64 v0_6.1, .own 56000]), (56000, .arr 61 (.pair (.int .i64) (.pair (.int .i64) (.pair (.int .i64) .bool))) v0_6.2.1)] ?_
     refine zB [(5, .bp 5 0), (11, .int .i64 v0_5.1), (12, .int .i64 v0_5.2), (13, .int .i64 (a % 3)), (14, .int .i64 (b % 3)), (15, .bp 15 0), (67, .bool true)] [(5, .box 24 [.int .i64 g.1, .sl (.pair (.int .i64) (.pair (.int .i64) (.pair (.int .i64) .bool))) g.2]), (15, .box 24 [.int .i64 v0_6.1, .own 56000]), (56000, .arr 61 (.pair (.int .i64) (.pair (.int .i64) (.pair (.int .i64) .bool))) v0_6.2.1)] ?_
     refine AW.cond (b := true) rfl (fun _ => ?_) (fun hb18 => by cases hb18)
     refine zo ?_
     refine zB [(10, .bool false)] [] ?_
     refine zr ?_
     obtain rfl := Option.some.inj h
     exact zR [] [] []
    ·refine zS 2 [(5, .bp 5 0), (11, .int .i64 v0_5.1), (12, .int .i64 v0_5.2), (13, .int .i64 (a % 3)), (14, .int .i64 (b % 3)), (15, .bp 15 0), (62, .bool false), (63, .agg [.int .i64 v0_7.1, .own 63000]), (64, .agg [.int .i64 g.1, .sl (.pair (.int .i64) (.pair (.int .i64) (.pair (.int .i64) .bool))) g.2])] [(5, .box 24 [.int .i64 g.1, .sl (.pair (.int .i64) (.pair (.int .i64) (.pair (.int .i64) .bool))) g.2]), (15, .box 24 [.int .i64 v0_6.1, .own 56000]), (56000, .arr 61 (.pair (.int .i64) (.pair (.int .i64) (.pair (.int .i64) .bool))) v0_6.2.1), (63000, .arr 61 (.pair (.int .i64) (.pair (.int .i64) (.pair (.int .i64) .bool))) v0_7.2.1)] ?_
     obtain ⟨v0_8, hv19, h⟩ := Option.bind_eq_some_iff.1 h
     refine zG [63000] [] (hc_linealref07_Same (v0_7.1, v0_7.2.1) g hv19) [(5, .bp 5 0), (11, .int .i64 v0_5.1), (12, .int .i64 v0_5.2), (13, .int .i64 (a % 3)), (14, .int .i64 (b % 3)), (15, .bp 15 0), (62, .bool false), (65, .bool v0_8)] [(5, .box 24 [.int .i64 g.1, .sl (.pair (.int .i64) (.pair (.int .i64) (.pair (.int .i64) .bool))) g.2]), (15, .box 24 [.int .i64 v0_6.1, .own 56000]), (56000, .arr 61 (.pair (.int .i64) (.pair (.int .i64) (.pair (.int .i64) .bool))) v0_6.2.1)] ?_
     refine zB [(5, .bp 5 0), (11, .int .i64 v0_5.1), (12, .int .i64 v0_5.2), (13, .int .i64 (a % 3)), (14, .int .i64 (b % 3)), (15, .bp 15 0), (67, .bool (!v0_8))] [(5, .box 24 [.int .i64 g.1, .sl (.pair (.int .i64) (.pair (.int .i64) (.pair (.int .i64) .bool))) g.2]), (15, .box 24 [.int .i64 v0_6.1, .own 56000]), (56000, .arr 61 (.pair (.int .i64) (.pair (.int .i64) (.pair (.int .i64) .bool))) v0_6.2.1)] ?_
     refine zQ h (fun hb20 h => ?_) (fun hb20 h => ?_)
     ·refine zo ?_
      refine zB [(10, .bool false)] [] ?_
      refine zr ?_
      obtain rfl := Option.some.inj h
      exact zR [] [] []
     ·refine zk ?_
      refine zo ?_
      refine zB [(5, .bp 5 0), (11, .int .i64 v0_5.1), (12, .int .i64 v0_5.2), (13, .int .i64 (a % 3)), (14, .int .i64 (b % 3)), (15, .bp 15 0), (19, .int .i64 v0_5.2)] [(5, .box 24 [.int .i64 g.1, .sl (.pair (.int .i64) (.pair (.int .i64) (.pair (.int .i64) .bool))) g.2]), (15, .box 24 [.int .i64 v0_6.1, .own 56000]), (56000, .arr 61 (.pair (.int .i64) (.pair (.int .i64) (.pair (.int .i64) .bool))) v0_6.2.1)] ?_
      refine AW.have1 (fun b1 : Int => lineallaw07_ProgressNames_k1 g v0_5 v0_6 b1 = some r) (fun b1 => ⟨fr [(5, .bp 5 0), (11, .int .i64 v0_5.1), (12, .int .i64 v0_5.2), (15, .bp 15 0), (19, .int .i64 b1)], hpGet [(5, .box 24 [.int .i64 g.1, .sl (.pair (.int .i64) (.pair (.int .i64) (.pair (.int .i64) .bool))) g.2]), (15, .box 24 [.int .i64 v0_6.1, .own 56000]), (56000, .arr 61 (.pair (.int .i64) (.pair (.int .i64) (.pair (.int .i64) .bool))) v0_6.2.1)], gt⟩) (fun b1 h => ?_) (fun hk_lineallaw07_ProgressNames_k1 => ?_)
      ·as_aux_lemma =>
        unfold lineallaw07_ProgressNames_k1 at h
        refine zo ?_
        refine zS 3 [(11, .int .i64 v0_5.1), (15, .bp 15 0), (19, .int .i64 b1), (76, .agg [.int .i64 g.1, .sl (.pair (.int .i64) (.pair (.int .i64) (.pair (.int .i64) .bool))) g.2]), (77, .int .i64 v0_5.1), (78, .int .i64 v0_5.2)] [(15, .box 24 [.int .i64 v0_6.1, .own 56000]), (56000, .arr 61 (.pair (.int .i64) (.pair (.int .i64) (.pair (.int .i64) .bool))) v0_6.2.1)] ?_
        obtain ⟨v0_10, hv21, h⟩ := Option.bind_eq_some_iff.1 h
        refine zC [] [] (hc_progress_Holds g v0_5.1 v0_5.2 hv21) [(11, .int .i64 v0_5.1), (15, .bp 15 0), (19, .int .i64 b1), (79, .tup [.bool v0_10.1, .int .i64 v0_10.2])] [(15, .box 24 [.int .i64 v0_6.1, .own 56000]), (56000, .arr 61 (.pair (.int .i64) (.pair (.int .i64) (.pair (.int .i64) .bool))) v0_6.2.1)] ?_
        refine zB [(11, .int .i64 v0_5.1), (15, .bp 15 0), (16, .int .i64 v0_10.2), (19, .int .i64 b1), (20, .bool v0_10.1)] [(15, .box 24 [.int .i64 v0_6.1, .own 56000]), (56000, .arr 61 (.pair (.int .i64) (.pair (.int .i64) (.pair (.int .i64) .bool))) v0_6.2.1)] ?_
        refine zo ?_
        refine zS 3 [(16, .int .i64 v0_10.2), (20, .bool v0_10.1), (83, .agg [.int .i64 v0_6.1, .own 56000]), (84, .int .i64 v0_5.1), (85, .int .i64 b1)] [(56000, .arr 61 (.pair (.int .i64) (.pair (.int .i64) (.pair (.int .i64) .bool))) v0_6.2.1)] ?_
        obtain ⟨v0_11, hv22, h⟩ := Option.bind_eq_some_iff.1 h
        refine zC [56000] [] (hc_progress_Holds (v0_6.1, v0_6.2.1) v0_5.1 b1 hv22) [(16, .int .i64 v0_10.2), (20, .bool v0_10.1), (86, .tup [.bool v0_11.1, .int .i64 v0_11.2])] [] ?_
        refine zB [(16, .int .i64 v0_10.2), (18, .int .i64 v0_11.2), (20, .bool v0_10.1), (21, .bool v0_11.1)] [] ?_
        refine zo ?_
        refine zS 3 [(18, .int .i64 v0_11.2), (20, .bool v0_10.1), (21, .bool v0_11.1), (91, .bool (decide (v0_10.2 = 0)))] [] ?_
        rcases zI h with ⟨hb23, h⟩ | ⟨hb23, h⟩
        ·refine zS 4 [(20, .bool v0_10.1), (21, .bool v0_11.1), (95, .bool (decide (v0_11.2 = 0)))] [] ?_
         rcases zI h with ⟨hb24, h⟩ | ⟨hb24, h⟩
         ·refine zS 5 [(100, .bool ((v0_10.1 == v0_11.1) != false))] [] ?_
          rcases zI h with ⟨hb25, h⟩ | ⟨hb25, h⟩
          ·refine zT [(100, .bool true)] [] gt ?_
           obtain ⟨v0_12, hv26, h⟩ := Option.bind_eq_some_iff.1 h
           refine zG [] [] (hc_lineallaw07_Awake hv26) [(100, .bool true), (101, .bool v0_12)] [] ?_
           refine zB [(10, .bool v0_12)] [] ?_
           refine AW.ret ?_
           obtain rfl := Option.some.inj h
           exact zR [] [] []
          ·refine zB [(10, .bool false)] [] ?_
           refine AW.ret ?_
           obtain rfl := Option.some.inj h
           exact zR [] [] []
         ·refine zS 5 [(100, .bool false)] [] ?_
          refine zB [(10, .bool false)] [] ?_
          refine AW.ret ?_
          obtain rfl := Option.some.inj h
          exact zR [] [] []
        ·refine zS 5 [(21, .bool v0_11.1), (95, .bool false), (96, .cv (undef))] [] ?_
         refine zS 5 [(100, .bool false), (101, .cv (undef))] [] ?_
         refine zB [(10, .bool false)] [] ?_
         refine AW.ret ?_
         obtain rfl := Option.some.inj h
         exact zR [] [] []
      ·refine AW.seq ?_
       refine zo ?_
       refine zB [(5, .bp 5 0), (11, .int .i64 v0_5.1), (12, .int .i64 v0_5.2), (13, .int .i64 (a % 3)), (14, .int .i64 (b % 3)), (15, .bp 15 0), (19, .int .i64 v0_5.2), (70, .bool (decide (0 < v0_5.1)))] [(5, .box 24 [.int .i64 g.1, .sl (.pair (.int .i64) (.pair (.int .i64) (.pair (.int .i64) .bool))) g.2]), (15, .box 24 [.int .i64 v0_6.1, .own 56000]), (56000, .arr 61 (.pair (.int .i64) (.pair (.int .i64) (.pair (.int .i64) .bool))) v0_6.2.1)] ?_
       refine zQ h (fun hb27 h => ?_) (fun hb27 h => ?_)
       ·refine AW.ops ?_
        refine zS 3 [(5, .bp 5 0), (11, .int .i64 v0_5.1), (12, .int .i64 v0_5.2), (15, .bp 15 0), (71, .int .i64 v0_5.2), (72, .int .i64 (a % 3)), (73, .int .i64 (b % 3))] [(5, .box 24 [.int .i64 g.1, .sl (.pair (.int .i64) (.pair (.int .i64) (.pair (.int .i64) .bool))) g.2]), (15, .box 24 [.int .i64 v0_6.1, .own 56000]), (56000, .arr 61 (.pair (.int .i64) (.pair (.int .i64) (.pair (.int .i64) .bool))) v0_6.2.1)] ?_
        obtain ⟨v0_9, hv28, h⟩ := Option.bind_eq_some_iff.1 h
        refine zC [] [] (hc_linealref07_Swapped v0_5.2 (a % 3) (b % 3) hv28) [(5, .bp 5 0), (11, .int .i64 v0_5.1), (12, .int .i64 v0_5.2), (15, .bp 15 0), (74, .int .i64 v0_9)] [(5, .box 24 [.int .i64 g.1, .sl (.pair (.int .i64) (.pair (.int .i64) (.pair (.int .i64) .bool))) g.2]), (15, .box 24 [.int .i64 v0_6.1, .own 56000]), (56000, .arr 61 (.pair (.int .i64) (.pair (.int .i64) (.pair (.int .i64) .bool))) v0_6.2.1)] ?_
        refine zB [(5, .bp 5 0), (11, .int .i64 v0_5.1), (12, .int .i64 v0_5.2), (15, .bp 15 0), (19, .int .i64 v0_9)] [(5, .box 24 [.int .i64 g.1, .sl (.pair (.int .i64) (.pair (.int .i64) (.pair (.int .i64) .bool))) g.2]), (15, .box 24 [.int .i64 v0_6.1, .own 56000]), (56000, .arr 61 (.pair (.int .i64) (.pair (.int .i64) (.pair (.int .i64) .bool))) v0_6.2.1)] ?_
        exact AW.weaken (zL [] [] []) (hk_lineallaw07_ProgressNames_k1 _ h)
       ·refine zk ?_
        exact AW.weaken (zL [] [] []) (hk_lineallaw07_ProgressNames_k1 _ h)

end Go.Proofs.Yteclokkdgmacpaa
