/-
  Made by wip/tool/dc.py out of the print of the program: contracts.
-/
import Derived.Test.YtljonmpcehlpaaaRfp
import Derived.Test.YtljonmpcehlpaaaShr
import Derived.Test.YtljonmpcehlpaaaNvc1
import Derived.Test.YtljonmpcehlpaaaNvc3
import Derived.Test.YtljonmpcehlpaaaNvc4
import Derived.Test.YtljonmpcehlpaaaNvc5
import Derived.Test.YtljonmpcehlpaaaNvc6
import Derived.Test.YtljonmpcehlpaaaNvc7
import Derived.Test.YtljonmpcehlpaaaNvc8
namespace Go.Proofs.Ytljonmpcehlpaaa
open Go.RowKit

set_option linter.unusedSimpArgs false
set_option linter.unusedVariables false
set_option linter.constructorNameAsVariable false

set_option maxRecDepth 100000
set_option maxHeartbeats 2000000

theorem hc_lineallaw05_RefineShows (c : Int × (List (Int × Int × Int))) (a : Int × (List (Int × Int × Int))) {r : Bool} (h : lineallaw05_RefineShows c a = some r) : HC Try.prog 6 [] [.agg [.int .i64 c.1, .sl (.pair (.int .i64) (.pair (.int .i64) (.int .i64))) c.2], .agg [.int .i64 a.1, .sl (.pair (.int .i64) (.pair (.int .i64) (.int .i64))) a.2]] [] (.bool r) := by
 unfold lineallaw05_RefineShows at h
 refine zH Try.func6 [.tmp 4] 84 ?_
 refine zo ?_
 refine zB [(2, .bp 2 0), (3, .bp 3 0)] [(2, .box 24 [.int .i64 c.1, .sl (.pair (.int .i64) (.pair (.int .i64) (.int .i64))) c.2]), (3, .box 24 [.int .i64 a.1, .sl (.pair (.int .i64) (.pair (.int .i64) (.int .i64))) a.2])] ?_
 refine AW.seq ?_
 refine zo ?_
 refine zS 1 [(2, .bp 2 0), (3, .bp 3 0), (15, .agg [.int .i64 c.1, .sl (.pair (.int .i64) (.pair (.int .i64) (.int .i64))) c.2])] [(2, .box 24 [.int .i64 c.1, .sl (.pair (.int .i64) (.pair (.int .i64) (.int .i64))) c.2]), (3, .box 24 [.int .i64 a.1, .sl (.pair (.int .i64) (.pair (.int .i64) (.int .i64))) a.2])] ?_
 obtain ⟨v0, hv1, h⟩ := Option.bind_eq_some_iff.1 h
 refine zC [] [] (hc_lineallaw05_Long c hv1) [(2, .bp 2 0), (3, .bp 3 0), (16, .bool (decide (100 < (c.2.length : Int))))] [(2, .box 24 [.int .i64 c.1, .sl (.pair (.int .i64) (.pair (.int .i64) (.int .i64))) c.2]), (3, .box 24 [.int .i64 a.1, .sl (.pair (.int .i64) (.pair (.int .i64) (.int .i64))) a.2])] ?_
 refine zS 1 [(2, .bp 2 0), (3, .bp 3 0), (17, .bool (decide (100 < (c.2.length : Int))))] [(2, .box 24 [.int .i64 c.1, .sl (.pair (.int .i64) (.pair (.int .i64) (.int .i64))) c.2]), (3, .box 24 [.int .i64 a.1, .sl (.pair (.int .i64) (.pair (.int .i64) (.int .i64))) a.2])] ?_
 rcases zI h with ⟨hb2, h⟩ | ⟨hb2, h⟩
 ·refine zB [(2, .bp 2 0), (3, .bp 3 0), (20, .bool true)] [(2, .box 24 [.int .i64 c.1, .sl (.pair (.int .i64) (.pair (.int .i64) (.int .i64))) c.2]), (3, .box 24 [.int .i64 a.1, .sl (.pair (.int .i64) (.pair (.int .i64) (.int .i64))) a.2])] ?_
  refine AW.cond (b := true) rfl (fun _ => ?_) (fun hb3 => by cases hb3)
  refine zo ?_
  obtain ⟨v0_2, hv4, h⟩ := Option.bind_eq_some_iff.1 h
  refine zC [] [] (hc_lineallaw05_Awake hv4) [(21, .bool v0_2)] [] ?_
  refine zB [(4, .bool v0_2)] [] ?_
  refine zr ?_
  obtain rfl := Option.some.inj h
  exact zR [] [] []
 ·refine zS 1 [(2, .bp 2 0), (3, .bp 3 0), (17, .bool false), (18, .agg [.int .i64 a.1, .sl (.pair (.int .i64) (.pair (.int .i64) (.int .i64))) a.2])] [(2, .box 24 [.int .i64 c.1, .sl (.pair (.int .i64) (.pair (.int .i64) (.int .i64))) c.2]), (3, .box 24 [.int .i64 a.1, .sl (.pair (.int .i64) (.pair (.int .i64) (.int .i64))) a.2])] ?_
  obtain ⟨v0_3, hv5, h⟩ := Option.bind_eq_some_iff.1 h
  refine zG [] [] (hc_lineallaw05_Long a hv5) [(2, .bp 2 0), (3, .bp 3 0), (17, .bool false), (19, .bool (decide (100 < (a.2.length : Int))))] [(2, .box 24 [.int .i64 c.1, .sl (.pair (.int .i64) (.pair (.int .i64) (.int .i64))) c.2]), (3, .box 24 [.int .i64 a.1, .sl (.pair (.int .i64) (.pair (.int .i64) (.int .i64))) a.2])] ?_
  refine zB [(2, .bp 2 0), (3, .bp 3 0), (20, .bool (decide (100 < (a.2.length : Int))))] [(2, .box 24 [.int .i64 c.1, .sl (.pair (.int .i64) (.pair (.int .i64) (.int .i64))) c.2]), (3, .box 24 [.int .i64 a.1, .sl (.pair (.int .i64) (.pair (.int .i64) (.int .i64))) a.2])] ?_
  refine zQ h (fun hb6 h => ?_) (fun hb6 h => ?_)
  ·refine zo ?_
   obtain ⟨v0_4, hv7, h⟩ := Option.bind_eq_some_iff.1 h
   refine zC [] [] (hc_lineallaw05_Awake hv7) [(21, .bool v0_4)] [] ?_
   refine zB [(4, .bool v0_4)] [] ?_
   refine zr ?_
   obtain rfl := Option.some.inj h
   exact zR [] [] []
  ·refine zk ?_
   refine zo ?_
   refine zS 2 [(2, .bp 2 0), (3, .bp 3 0), (23, .agg [.int .i64 c.1, .sl (.pair (.int .i64) (.pair (.int .i64) (.int .i64))) c.2]), (24, .agg [.int .i64 a.1, .sl (.pair (.int .i64) (.pair (.int .i64) (.int .i64))) a.2])] [(2, .box 24 [.int .i64 c.1, .sl (.pair (.int .i64) (.pair (.int .i64) (.int .i64))) c.2]), (3, .box 24 [.int .i64 a.1, .sl (.pair (.int .i64) (.pair (.int .i64) (.int .i64))) a.2])] ?_
   obtain ⟨v0_5, hv8, h⟩ := Option.bind_eq_some_iff.1 h
   refine zC [] [] (hc_refine_Shows c a hv8) [(2, .bp 2 0), (3, .bp 3 0), (25, .tup [.own 35000, .int .i64 v0_5.2])] [(2, .box 24 [.int .i64 c.1, .sl (.pair (.int .i64) (.pair (.int .i64) (.int .i64))) c.2]), (3, .box 24 [.int .i64 a.1, .sl (.pair (.int .i64) (.pair (.int .i64) (.int .i64))) a.2]), (35000, .arr 3 (.int .i64) v0_5.1)] ?_
   refine zB [(2, .bp 2 0), (3, .bp 3 0), (5, .own 35000), (6, .int .i64 v0_5.2)] [(2, .box 24 [.int .i64 c.1, .sl (.pair (.int .i64) (.pair (.int .i64) (.int .i64))) c.2]), (3, .box 24 [.int .i64 a.1, .sl (.pair (.int .i64) (.pair (.int .i64) (.int .i64))) a.2]), (35000, .arr 3 (.int .i64) v0_5.1)] ?_
   refine zo ?_
   refine zS 2 [(2, .bp 2 0), (5, .own 35000), (6, .int .i64 v0_5.2), (29, .agg [.int .i64 c.1, .sl (.pair (.int .i64) (.pair (.int .i64) (.int .i64))) c.2]), (30, .agg [.int .i64 a.1, .sl (.pair (.int .i64) (.pair (.int .i64) (.int .i64))) a.2])] [(2, .box 24 [.int .i64 c.1, .sl (.pair (.int .i64) (.pair (.int .i64) (.int .i64))) c.2]), (35000, .arr 3 (.int .i64) v0_5.1)] ?_
   obtain ⟨v0_6, hv9, h⟩ := Option.bind_eq_some_iff.1 h
   refine zC [] [] (hc_linealref05_Shows c a hv9) [(2, .bp 2 0), (5, .own 35000), (6, .int .i64 v0_5.2), (31, .tup [.own 41000, .int .i64 v0_6.2])] [(2, .box 24 [.int .i64 c.1, .sl (.pair (.int .i64) (.pair (.int .i64) (.int .i64))) c.2]), (35000, .arr 3 (.int .i64) v0_5.1), (41000, .arr 3 (.int .i64) v0_6.1)] ?_
   refine zB [(2, .bp 2 0), (5, .own 35000), (6, .int .i64 v0_5.2), (7, .own 41000), (8, .int .i64 v0_6.2)] [(2, .box 24 [.int .i64 c.1, .sl (.pair (.int .i64) (.pair (.int .i64) (.int .i64))) c.2]), (35000, .arr 3 (.int .i64) v0_5.1), (41000, .arr 3 (.int .i64) v0_6.1)] ?_
   refine zo ?_
   refine zS 1 [(2, .bp 2 0), (5, .own 35000), (6, .int .i64 v0_5.2), (7, .own 41000), (8, .int .i64 v0_6.2), (35, .agg [.int .i64 c.1, .sl (.pair (.int .i64) (.pair (.int .i64) (.int .i64))) c.2])] [(2, .box 24 [.int .i64 c.1, .sl (.pair (.int .i64) (.pair (.int .i64) (.int .i64))) c.2]), (35000, .arr 3 (.int .i64) v0_5.1), (41000, .arr 3 (.int .i64) v0_6.1)] ?_
   obtain ⟨v0_7, hv10, h⟩ := Option.bind_eq_some_iff.1 h
   refine zC [] [] (hc_refine_Plain c hv10) [(2, .bp 2 0), (5, .own 35000), (6, .int .i64 v0_5.2), (7, .own 41000), (8, .int .i64 v0_6.2), (36, .tup [.bool v0_7.1, .int .i64 v0_7.2])] [(2, .box 24 [.int .i64 c.1, .sl (.pair (.int .i64) (.pair (.int .i64) (.int .i64))) c.2]), (35000, .arr 3 (.int .i64) v0_5.1), (41000, .arr 3 (.int .i64) v0_6.1)] ?_
   refine zB [(2, .bp 2 0), (5, .own 35000), (6, .int .i64 v0_5.2), (7, .own 41000), (8, .int .i64 v0_6.2), (9, .bool v0_7.1), (10, .int .i64 v0_7.2)] [(2, .box 24 [.int .i64 c.1, .sl (.pair (.int .i64) (.pair (.int .i64) (.int .i64))) c.2]), (35000, .arr 3 (.int .i64) v0_5.1), (41000, .arr 3 (.int .i64) v0_6.1)] ?_
   refine zo ?_
   refine zS 1 [(2, .bp 2 0), (5, .own 35000), (6, .int .i64 v0_5.2), (7, .own 41000), (8, .int .i64 v0_6.2), (9, .bool v0_7.1), (10, .int .i64 v0_7.2), (40, .agg [.int .i64 c.1, .sl (.pair (.int .i64) (.pair (.int .i64) (.int .i64))) c.2])] [(2, .box 24 [.int .i64 c.1, .sl (.pair (.int .i64) (.pair (.int .i64) (.int .i64))) c.2]), (35000, .arr 3 (.int .i64) v0_5.1), (41000, .arr 3 (.int .i64) v0_6.1)] ?_
   obtain ⟨v0_8, hv11, h⟩ := Option.bind_eq_some_iff.1 h
   refine zC [] [] (hc_linealref05_Plain c hv11) [(2, .bp 2 0), (5, .own 35000), (6, .int .i64 v0_5.2), (7, .own 41000), (8, .int .i64 v0_6.2), (9, .bool v0_7.1), (10, .int .i64 v0_7.2), (41, .tup [.bool v0_8.1, .int .i64 v0_8.2])] [(2, .box 24 [.int .i64 c.1, .sl (.pair (.int .i64) (.pair (.int .i64) (.int .i64))) c.2]), (35000, .arr 3 (.int .i64) v0_5.1), (41000, .arr 3 (.int .i64) v0_6.1)] ?_
   refine zB [(2, .bp 2 0), (5, .own 35000), (6, .int .i64 v0_5.2), (7, .own 41000), (8, .int .i64 v0_6.2), (9, .bool v0_7.1), (10, .int .i64 v0_7.2), (11, .bool v0_8.1), (12, .int .i64 v0_8.2)] [(2, .box 24 [.int .i64 c.1, .sl (.pair (.int .i64) (.pair (.int .i64) (.int .i64))) c.2]), (35000, .arr 3 (.int .i64) v0_5.1), (41000, .arr 3 (.int .i64) v0_6.1)] ?_
   refine AW.seq ?_
   refine zo ?_
   refine zS 2 [(2, .bp 2 0), (6, .int .i64 v0_5.2), (8, .int .i64 v0_6.2), (9, .bool v0_7.1), (10, .int .i64 v0_7.2), (11, .bool v0_8.1), (12, .int .i64 v0_8.2), (44, .own 35000), (45, .own 41000)] [(2, .box 24 [.int .i64 c.1, .sl (.pair (.int .i64) (.pair (.int .i64) (.int .i64))) c.2]), (35000, .arr 3 (.int .i64) v0_5.1), (41000, .arr 3 (.int .i64) v0_6.1)] ?_
   obtain ⟨v0_9, hv12, h⟩ := Option.bind_eq_some_iff.1 h
   refine zC [35000, 41000] [] (hc_linealref05_SameInts v0_5.1 v0_6.1 hv12) [(2, .bp 2 0), (6, .int .i64 v0_5.2), (8, .int .i64 v0_6.2), (9, .bool v0_7.1), (10, .int .i64 v0_7.2), (11, .bool v0_8.1), (12, .int .i64 v0_8.2), (46, .bool v0_9)] [(2, .box 24 [.int .i64 c.1, .sl (.pair (.int .i64) (.pair (.int .i64) (.int .i64))) c.2])] ?_
   refine zS 2 [(2, .bp 2 0), (6, .int .i64 v0_5.2), (8, .int .i64 v0_6.2), (9, .bool v0_7.1), (10, .int .i64 v0_7.2), (11, .bool v0_8.1), (12, .int .i64 v0_8.2), (48, .bool (!v0_9))] [(2, .box 24 [.int .i64 c.1, .sl (.pair (.int .i64) (.pair (.int .i64) (.int .i64))) c.2])] ?_
   rcases zI h with ⟨hb13, h⟩ | ⟨hb13, h⟩
   ·refine zS 5 [(2, .bp 2 0), (9, .bool v0_7.1), (10, .int .i64 v0_7.2), (11, .bool v0_8.1), (12, .int .i64 v0_8.2), (53, .bool true)] [(2, .box 24 [.int .i64 c.1, .sl (.pair (.int .i64) (.pair (.int .i64) (.int .i64))) c.2])] ?_
    refine zS 5 [(2, .bp 2 0), (10, .int .i64 v0_7.2), (12, .int .i64 v0_8.2), (58, .bool true)] [(2, .box 24 [.int .i64 c.1, .sl (.pair (.int .i64) (.pair (.int .i64) (.int .i64))) c.2])] ?_
    refine zB [(2, .bp 2 0), (62, .bool true)] [(2, .box 24 [.int .i64 c.1, .sl (.pair (.int .i64) (.pair (.int .i64) (.int .i64))) c.2])] ?_
    refine AW.cond (b := true) rfl (fun _ => ?_) (fun hb14 => by cases hb14)
    refine zo ?_
    refine zB [(4, .bool false)] [] ?_
    refine zr ?_
    obtain rfl := Option.some.inj h
    exact zR [] [] []
   ·refine zS 5 [(2, .bp 2 0), (9, .bool v0_7.1), (10, .int .i64 v0_7.2), (11, .bool v0_8.1), (12, .int .i64 v0_8.2), (53, .bool (!(decide (v0_5.2 = v0_6.2))))] [(2, .box 24 [.int .i64 c.1, .sl (.pair (.int .i64) (.pair (.int .i64) (.int .i64))) c.2])] ?_
    rcases zI h with ⟨hb15, h⟩ | ⟨hb15, h⟩
    ·refine zS 5 [(2, .bp 2 0), (10, .int .i64 v0_7.2), (12, .int .i64 v0_8.2), (58, .bool true)] [(2, .box 24 [.int .i64 c.1, .sl (.pair (.int .i64) (.pair (.int .i64) (.int .i64))) c.2])] ?_
     refine zB [(2, .bp 2 0), (62, .bool true)] [(2, .box 24 [.int .i64 c.1, .sl (.pair (.int .i64) (.pair (.int .i64) (.int .i64))) c.2])] ?_
     refine AW.cond (b := true) rfl (fun _ => ?_) (fun hb16 => by cases hb16)
     refine zo ?_
     refine zB [(4, .bool false)] [] ?_
     refine zr ?_
     obtain rfl := Option.some.inj h
     exact zR [] [] []
    ·refine zS 5 [(2, .bp 2 0), (10, .int .i64 v0_7.2), (12, .int .i64 v0_8.2), (58, .bool ((v0_7.1 == v0_8.1) != true))] [(2, .box 24 [.int .i64 c.1, .sl (.pair (.int .i64) (.pair (.int .i64) (.int .i64))) c.2])] ?_
     rcases zI h with ⟨hb17, h⟩ | ⟨hb17, h⟩
     ·refine zB [(2, .bp 2 0), (62, .bool true)] [(2, .box 24 [.int .i64 c.1, .sl (.pair (.int .i64) (.pair (.int .i64) (.int .i64))) c.2])] ?_
      refine AW.cond (b := true) rfl (fun _ => ?_) (fun hb18 => by cases hb18)
      refine zo ?_
      refine zB [(4, .bool false)] [] ?_
      refine zr ?_
      obtain rfl := Option.some.inj h
      exact zR [] [] []
     ·refine zB [(2, .bp 2 0), (62, .bool (!(decide (v0_7.2 = v0_8.2))))] [(2, .box 24 [.int .i64 c.1, .sl (.pair (.int .i64) (.pair (.int .i64) (.int .i64))) c.2])] ?_
      refine zQ h (fun hb19 h => ?_) (fun hb19 h => ?_)
      ·refine zo ?_
       refine zB [(4, .bool false)] [] ?_
       refine zr ?_
       obtain rfl := Option.some.inj h
       exact zR [] [] []
      ·refine zk ?_
       refine zo ?_
       refine zS 1 [(2, .bp 2 0), (64, .agg [.int .i64 c.1, .sl (.pair (.int .i64) (.pair (.int .i64) (.int .i64))) c.2])] [(2, .box 24 [.int .i64 c.1, .sl (.pair (.int .i64) (.pair (.int .i64) (.int .i64))) c.2])] ?_
       obtain ⟨v0_10, hv20, h⟩ := Option.bind_eq_some_iff.1 h
       refine zC [] [] (hc_refine_Seen c hv20) [(2, .bp 2 0), (65, .tup [.agg [.int .i64 v0_10.1, .own 75000], .int .i64 v0_10.2.2])] [(2, .box 24 [.int .i64 c.1, .sl (.pair (.int .i64) (.pair (.int .i64) (.int .i64))) c.2]), (75000, .arr 66 (.pair (.int .i64) (.pair (.int .i64) (.int .i64))) v0_10.2.1)] ?_
       refine zS 5 [(2, .bp 2 0), (13, .bp 13 0), (67, .int .i64 v0_10.2.2)] [(2, .box 24 [.int .i64 c.1, .sl (.pair (.int .i64) (.pair (.int .i64) (.int .i64))) c.2]), (13, .box 24 [.int .i64 v0_10.1, .own 75000]), (75000, .arr 66 (.pair (.int .i64) (.pair (.int .i64) (.int .i64))) v0_10.2.1)] ?_
       refine zB [(2, .bp 2 0), (6, .int .i64 v0_10.2.2), (13, .bp 13 0)] [(2, .box 24 [.int .i64 c.1, .sl (.pair (.int .i64) (.pair (.int .i64) (.int .i64))) c.2]), (13, .box 24 [.int .i64 v0_10.1, .own 75000]), (75000, .arr 66 (.pair (.int .i64) (.pair (.int .i64) (.int .i64))) v0_10.2.1)] ?_
       refine zo ?_
       refine zS 1 [(6, .int .i64 v0_10.2.2), (13, .bp 13 0), (69, .agg [.int .i64 c.1, .sl (.pair (.int .i64) (.pair (.int .i64) (.int .i64))) c.2])] [(13, .box 24 [.int .i64 v0_10.1, .own 75000]), (75000, .arr 66 (.pair (.int .i64) (.pair (.int .i64) (.int .i64))) v0_10.2.1)] ?_
       obtain ⟨v0_11, hv21, h⟩ := Option.bind_eq_some_iff.1 h
       refine zC [] [] (hc_linealref05_Seen c hv21) [(6, .int .i64 v0_10.2.2), (13, .bp 13 0), (70, .tup [.agg [.int .i64 v0_11.1, .own 80000], .int .i64 v0_11.2.2])] [(13, .box 24 [.int .i64 v0_10.1, .own 75000]), (75000, .arr 66 (.pair (.int .i64) (.pair (.int .i64) (.int .i64))) v0_10.2.1), (80000, .arr 66 (.pair (.int .i64) (.pair (.int .i64) (.int .i64))) v0_11.2.1)] ?_
       refine zS 5 [(6, .int .i64 v0_10.2.2), (13, .bp 13 0), (14, .bp 14 0), (72, .int .i64 v0_11.2.2)] [(13, .box 24 [.int .i64 v0_10.1, .own 75000]), (14, .box 24 [.int .i64 v0_11.1, .own 80000]), (75000, .arr 66 (.pair (.int .i64) (.pair (.int .i64) (.int .i64))) v0_10.2.1), (80000, .arr 66 (.pair (.int .i64) (.pair (.int .i64) (.int .i64))) v0_11.2.1)] ?_
       refine zB [(6, .int .i64 v0_10.2.2), (8, .int .i64 v0_11.2.2), (13, .bp 13 0), (14, .bp 14 0)] [(13, .box 24 [.int .i64 v0_10.1, .own 75000]), (14, .box 24 [.int .i64 v0_11.1, .own 80000]), (75000, .arr 66 (.pair (.int .i64) (.pair (.int .i64) (.int .i64))) v0_10.2.1), (80000, .arr 66 (.pair (.int .i64) (.pair (.int .i64) (.int .i64))) v0_11.2.1)] ?_
       refine zo ?_
       refine zS 2 [(6, .int .i64 v0_10.2.2), (8, .int .i64 v0_11.2.2), (73, .agg [.int .i64 v0_10.1, .own 75000]), (74, .agg [.int .i64 v0_11.1, .own 80000])] [(75000, .arr 66 (.pair (.int .i64) (.pair (.int .i64) (.int .i64))) v0_10.2.1), (80000, .arr 66 (.pair (.int .i64) (.pair (.int .i64) (.int .i64))) v0_11.2.1)] ?_
       obtain ⟨v0_12, hv22, h⟩ := Option.bind_eq_some_iff.1 h
       refine zC [75000, 80000] [] (hc_linealref05_Same (v0_10.1, v0_10.2.1) (v0_11.1, v0_11.2.1) hv22) [(6, .int .i64 v0_10.2.2), (8, .int .i64 v0_11.2.2), (75, .bool v0_12)] [] ?_
       refine zS 1 [(6, .int .i64 v0_10.2.2), (8, .int .i64 v0_11.2.2), (76, .bool v0_12)] [] ?_
       rcases zI h with ⟨hb23, h⟩ | ⟨hb23, h⟩
       ·refine zS 5 [(81, .bool (decide (v0_10.2.2 = v0_11.2.2)))] [] ?_
        rcases zI h with ⟨hb24, h⟩ | ⟨hb24, h⟩
        ·refine zT [(81, .bool true)] [] gt ?_
         obtain ⟨v0_13, hv25, h⟩ := Option.bind_eq_some_iff.1 h
         refine zG [] [] (hc_lineallaw05_Awake hv25) [(81, .bool true), (82, .bool v0_13)] [] ?_
         refine zB [(4, .bool v0_13)] [] ?_
         refine AW.ret ?_
         obtain rfl := Option.some.inj h
         exact zR [] [] []
        ·refine zB [(4, .bool false)] [] ?_
         refine AW.ret ?_
         obtain rfl := Option.some.inj h
         exact zR [] [] []
       ·refine zS 5 [(81, .bool false)] [] ?_
        refine zB [(4, .bool false)] [] ?_
        refine AW.ret ?_
        obtain rfl := Option.some.inj h
        exact zR [] [] []

end Go.Proofs.Ytljonmpcehlpaaa
