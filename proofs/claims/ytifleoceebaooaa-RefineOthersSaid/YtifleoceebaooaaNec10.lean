/-
  Made by wip/tool/dc.py out of the print of the program: contracts.
-/
import Derived.Test.YtifleoceebaooaaRfp
import Derived.Test.YtifleoceebaooaaShr
import Derived.Test.YtifleoceebaooaaNec1
import Derived.Test.YtifleoceebaooaaNec4
import Derived.Test.YtifleoceebaooaaNec5
import Derived.Test.YtifleoceebaooaaNec6
import Derived.Test.YtifleoceebaooaaNec8
import Derived.Test.YtifleoceebaooaaNec9
namespace Go.Proofs.Ytifleoceebaooaa
open Go.RowKit

set_option linter.unusedSimpArgs false
set_option linter.unusedVariables false
set_option linter.constructorNameAsVariable false

set_option maxRecDepth 100000
set_option maxHeartbeats 2000000

theorem hc_lineallaw05_RefineOthers (s : Int × (List (Int × Int × Int))) (t : Int × (List (Int × Int × Int))) (label : Int) (step : Int) {r : Bool} (h : lineallaw05_RefineOthers s t label step = some r) : HC Try.prog 7 [] [.agg [.int .i64 s.1, .sl (.pair (.int .i64) (.pair (.int .i64) (.int .i64))) s.2], .agg [.int .i64 t.1, .sl (.pair (.int .i64) (.pair (.int .i64) (.int .i64))) t.2], .int .i64 label, .int .i64 step] [] (.bool r) := by
 unfold lineallaw05_RefineOthers at h
 refine zH Try.func7 [.tmp 8] 85 ?_
 refine zo ?_
 refine zB [(2, .int .i64 label), (3, .int .i64 step), (4, .bp 4 0), (5, .bp 5 0)] [(4, .box 24 [.int .i64 s.1, .sl (.pair (.int .i64) (.pair (.int .i64) (.int .i64))) s.2]), (5, .box 24 [.int .i64 t.1, .sl (.pair (.int .i64) (.pair (.int .i64) (.int .i64))) t.2])] ?_
 refine AW.seq ?_
 refine zo ?_
 refine zS 1 [(2, .int .i64 label), (3, .int .i64 step), (4, .bp 4 0), (5, .bp 5 0), (13, .agg [.int .i64 s.1, .sl (.pair (.int .i64) (.pair (.int .i64) (.int .i64))) s.2])] [(4, .box 24 [.int .i64 s.1, .sl (.pair (.int .i64) (.pair (.int .i64) (.int .i64))) s.2]), (5, .box 24 [.int .i64 t.1, .sl (.pair (.int .i64) (.pair (.int .i64) (.int .i64))) t.2])] ?_
 obtain ⟨v0, hv1, h⟩ := Option.bind_eq_some_iff.1 h
 refine zC [] [] (hc_lineallaw05_Long s hv1) [(2, .int .i64 label), (3, .int .i64 step), (4, .bp 4 0), (5, .bp 5 0), (14, .bool (decide (100 < (s.2.length : Int))))] [(4, .box 24 [.int .i64 s.1, .sl (.pair (.int .i64) (.pair (.int .i64) (.int .i64))) s.2]), (5, .box 24 [.int .i64 t.1, .sl (.pair (.int .i64) (.pair (.int .i64) (.int .i64))) t.2])] ?_
 refine zS 1 [(2, .int .i64 label), (3, .int .i64 step), (4, .bp 4 0), (5, .bp 5 0), (15, .bool (decide (100 < (s.2.length : Int))))] [(4, .box 24 [.int .i64 s.1, .sl (.pair (.int .i64) (.pair (.int .i64) (.int .i64))) s.2]), (5, .box 24 [.int .i64 t.1, .sl (.pair (.int .i64) (.pair (.int .i64) (.int .i64))) t.2])] ?_
 rcases zI h with ⟨hb2, h⟩ | ⟨hb2, h⟩
 ·refine zB [(2, .int .i64 label), (3, .int .i64 step), (4, .bp 4 0), (5, .bp 5 0), (18, .bool true)] [(4, .box 24 [.int .i64 s.1, .sl (.pair (.int .i64) (.pair (.int .i64) (.int .i64))) s.2]), (5, .box 24 [.int .i64 t.1, .sl (.pair (.int .i64) (.pair (.int .i64) (.int .i64))) t.2])] ?_
  refine AW.cond (b := true) rfl (fun _ => ?_) (fun hb3 => by cases hb3)
  refine zo ?_
  obtain ⟨v0_2, hv4, h⟩ := Option.bind_eq_some_iff.1 h
  refine zC [] [] (hc_lineallaw05_Awake hv4) [(19, .bool v0_2)] [] ?_
  refine zB [(8, .bool v0_2)] [] ?_
  refine zr ?_
  obtain rfl := Option.some.inj h
  exact zR [] [] []
 ·refine zS 1 [(2, .int .i64 label), (3, .int .i64 step), (4, .bp 4 0), (5, .bp 5 0), (15, .bool false), (16, .agg [.int .i64 t.1, .sl (.pair (.int .i64) (.pair (.int .i64) (.int .i64))) t.2])] [(4, .box 24 [.int .i64 s.1, .sl (.pair (.int .i64) (.pair (.int .i64) (.int .i64))) s.2]), (5, .box 24 [.int .i64 t.1, .sl (.pair (.int .i64) (.pair (.int .i64) (.int .i64))) t.2])] ?_
  obtain ⟨v0_3, hv5, h⟩ := Option.bind_eq_some_iff.1 h
  refine zG [] [] (hc_lineallaw05_Long t hv5) [(2, .int .i64 label), (3, .int .i64 step), (4, .bp 4 0), (5, .bp 5 0), (15, .bool false), (17, .bool (decide (100 < (t.2.length : Int))))] [(4, .box 24 [.int .i64 s.1, .sl (.pair (.int .i64) (.pair (.int .i64) (.int .i64))) s.2]), (5, .box 24 [.int .i64 t.1, .sl (.pair (.int .i64) (.pair (.int .i64) (.int .i64))) t.2])] ?_
  refine zB [(2, .int .i64 label), (3, .int .i64 step), (4, .bp 4 0), (5, .bp 5 0), (18, .bool (decide (100 < (t.2.length : Int))))] [(4, .box 24 [.int .i64 s.1, .sl (.pair (.int .i64) (.pair (.int .i64) (.int .i64))) s.2]), (5, .box 24 [.int .i64 t.1, .sl (.pair (.int .i64) (.pair (.int .i64) (.int .i64))) t.2])] ?_
  refine zQ h (fun hb6 h => ?_) (fun hb6 h => ?_)
  ·refine zo ?_
   obtain ⟨v0_4, hv7, h⟩ := Option.bind_eq_some_iff.1 h
   refine zC [] [] (hc_lineallaw05_Awake hv7) [(19, .bool v0_4)] [] ?_
   refine zB [(8, .bool v0_4)] [] ?_
   refine zr ?_
   obtain rfl := Option.some.inj h
   exact zR [] [] []
  ·refine zk ?_
   refine zo ?_
   refine zS 2 [(2, .int .i64 label), (3, .int .i64 step), (4, .bp 4 0), (5, .bp 5 0), (21, .agg [.int .i64 s.1, .sl (.pair (.int .i64) (.pair (.int .i64) (.int .i64))) s.2]), (22, .int .i64 label)] [(4, .box 24 [.int .i64 s.1, .sl (.pair (.int .i64) (.pair (.int .i64) (.int .i64))) s.2]), (5, .box 24 [.int .i64 t.1, .sl (.pair (.int .i64) (.pair (.int .i64) (.int .i64))) t.2])] ?_
   obtain ⟨v0_5, hv8, h⟩ := Option.bind_eq_some_iff.1 h
   refine zC [] [] (hc_refine_Hidden s label hv8) [(2, .int .i64 label), (3, .int .i64 step), (4, .bp 4 0), (5, .bp 5 0), (23, .tup [.agg [.int .i64 v0_5.1, .own 33000], .int .i64 v0_5.2.2])] [(4, .box 24 [.int .i64 s.1, .sl (.pair (.int .i64) (.pair (.int .i64) (.int .i64))) s.2]), (5, .box 24 [.int .i64 t.1, .sl (.pair (.int .i64) (.pair (.int .i64) (.int .i64))) t.2]), (33000, .arr 66 (.pair (.int .i64) (.pair (.int .i64) (.int .i64))) v0_5.2.1)] ?_
   refine zS 5 [(2, .int .i64 label), (3, .int .i64 step), (4, .bp 4 0), (5, .bp 5 0), (9, .bp 9 0), (25, .int .i64 v0_5.2.2)] [(4, .box 24 [.int .i64 s.1, .sl (.pair (.int .i64) (.pair (.int .i64) (.int .i64))) s.2]), (5, .box 24 [.int .i64 t.1, .sl (.pair (.int .i64) (.pair (.int .i64) (.int .i64))) t.2]), (9, .box 24 [.int .i64 v0_5.1, .own 33000]), (33000, .arr 66 (.pair (.int .i64) (.pair (.int .i64) (.int .i64))) v0_5.2.1)] ?_
   refine zB [(2, .int .i64 label), (3, .int .i64 step), (4, .bp 4 0), (5, .bp 5 0), (9, .bp 9 0), (10, .int .i64 v0_5.2.2)] [(4, .box 24 [.int .i64 s.1, .sl (.pair (.int .i64) (.pair (.int .i64) (.int .i64))) s.2]), (5, .box 24 [.int .i64 t.1, .sl (.pair (.int .i64) (.pair (.int .i64) (.int .i64))) t.2]), (9, .box 24 [.int .i64 v0_5.1, .own 33000]), (33000, .arr 66 (.pair (.int .i64) (.pair (.int .i64) (.int .i64))) v0_5.2.1)] ?_
   refine zo ?_
   refine zS 2 [(3, .int .i64 step), (4, .bp 4 0), (5, .bp 5 0), (9, .bp 9 0), (10, .int .i64 v0_5.2.2), (27, .agg [.int .i64 s.1, .sl (.pair (.int .i64) (.pair (.int .i64) (.int .i64))) s.2]), (28, .int .i64 label)] [(4, .box 24 [.int .i64 s.1, .sl (.pair (.int .i64) (.pair (.int .i64) (.int .i64))) s.2]), (5, .box 24 [.int .i64 t.1, .sl (.pair (.int .i64) (.pair (.int .i64) (.int .i64))) t.2]), (9, .box 24 [.int .i64 v0_5.1, .own 33000]), (33000, .arr 66 (.pair (.int .i64) (.pair (.int .i64) (.int .i64))) v0_5.2.1)] ?_
   obtain ⟨v0_6, hv9, h⟩ := Option.bind_eq_some_iff.1 h
   refine zC [] [] (hc_linealref05_Hidden s label hv9) [(3, .int .i64 step), (4, .bp 4 0), (5, .bp 5 0), (9, .bp 9 0), (10, .int .i64 v0_5.2.2), (29, .tup [.agg [.int .i64 v0_6.1, .own 39000], .int .i64 v0_6.2.2])] [(4, .box 24 [.int .i64 s.1, .sl (.pair (.int .i64) (.pair (.int .i64) (.int .i64))) s.2]), (5, .box 24 [.int .i64 t.1, .sl (.pair (.int .i64) (.pair (.int .i64) (.int .i64))) t.2]), (9, .box 24 [.int .i64 v0_5.1, .own 33000]), (33000, .arr 66 (.pair (.int .i64) (.pair (.int .i64) (.int .i64))) v0_5.2.1), (39000, .arr 66 (.pair (.int .i64) (.pair (.int .i64) (.int .i64))) v0_6.2.1)] ?_
   refine zS 5 [(3, .int .i64 step), (4, .bp 4 0), (5, .bp 5 0), (9, .bp 9 0), (10, .int .i64 v0_5.2.2), (11, .bp 11 0), (31, .int .i64 v0_6.2.2)] [(4, .box 24 [.int .i64 s.1, .sl (.pair (.int .i64) (.pair (.int .i64) (.int .i64))) s.2]), (5, .box 24 [.int .i64 t.1, .sl (.pair (.int .i64) (.pair (.int .i64) (.int .i64))) t.2]), (9, .box 24 [.int .i64 v0_5.1, .own 33000]), (11, .box 24 [.int .i64 v0_6.1, .own 39000]), (33000, .arr 66 (.pair (.int .i64) (.pair (.int .i64) (.int .i64))) v0_5.2.1), (39000, .arr 66 (.pair (.int .i64) (.pair (.int .i64) (.int .i64))) v0_6.2.1)] ?_
   refine zB [(3, .int .i64 step), (4, .bp 4 0), (5, .bp 5 0), (9, .bp 9 0), (10, .int .i64 v0_5.2.2), (11, .bp 11 0), (12, .int .i64 v0_6.2.2)] [(4, .box 24 [.int .i64 s.1, .sl (.pair (.int .i64) (.pair (.int .i64) (.int .i64))) s.2]), (5, .box 24 [.int .i64 t.1, .sl (.pair (.int .i64) (.pair (.int .i64) (.int .i64))) t.2]), (9, .box 24 [.int .i64 v0_5.1, .own 33000]), (11, .box 24 [.int .i64 v0_6.1, .own 39000]), (33000, .arr 66 (.pair (.int .i64) (.pair (.int .i64) (.int .i64))) v0_5.2.1), (39000, .arr 66 (.pair (.int .i64) (.pair (.int .i64) (.int .i64))) v0_6.2.1)] ?_
   refine AW.seq ?_
   refine zo ?_
   refine zS 2 [(3, .int .i64 step), (4, .bp 4 0), (5, .bp 5 0), (9, .bp 9 0), (10, .int .i64 v0_5.2.2), (11, .bp 11 0), (12, .int .i64 v0_6.2.2), (32, .agg [.int .i64 v0_5.1, .own 33000]), (33, .agg [.int .i64 v0_6.1, .own 39000])] [(4, .box 24 [.int .i64 s.1, .sl (.pair (.int .i64) (.pair (.int .i64) (.int .i64))) s.2]), (5, .box 24 [.int .i64 t.1, .sl (.pair (.int .i64) (.pair (.int .i64) (.int .i64))) t.2]), (9, .box 24 [.int .i64 v0_5.1, .own 33000]), (11, .box 24 [.int .i64 v0_6.1, .own 39000]), (33000, .arr 66 (.pair (.int .i64) (.pair (.int .i64) (.int .i64))) v0_5.2.1), (39000, .arr 66 (.pair (.int .i64) (.pair (.int .i64) (.int .i64))) v0_6.2.1)] ?_
   obtain ⟨v0_7, hv10, h⟩ := Option.bind_eq_some_iff.1 h
   refine zC [33000, 39000] [] (hc_linealref05_Same (v0_5.1, v0_5.2.1) (v0_6.1, v0_6.2.1) hv10) [(3, .int .i64 step), (4, .bp 4 0), (5, .bp 5 0), (9, .bp 9 0), (10, .int .i64 v0_5.2.2), (11, .bp 11 0), (12, .int .i64 v0_6.2.2), (34, .bool v0_7)] [(4, .box 24 [.int .i64 s.1, .sl (.pair (.int .i64) (.pair (.int .i64) (.int .i64))) s.2]), (5, .box 24 [.int .i64 t.1, .sl (.pair (.int .i64) (.pair (.int .i64) (.int .i64))) t.2]), (9, .box 24 [.int .i64 v0_5.1, .own 33000]), (11, .box 24 [.int .i64 v0_6.1, .own 39000]), (33000, .arr 66 (.pair (.int .i64) (.pair (.int .i64) (.int .i64))) v0_5.2.1), (39000, .arr 66 (.pair (.int .i64) (.pair (.int .i64) (.int .i64))) v0_6.2.1)] ?_
   refine zS 2 [(3, .int .i64 step), (4, .bp 4 0), (5, .bp 5 0), (9, .bp 9 0), (10, .int .i64 v0_5.2.2), (11, .bp 11 0), (12, .int .i64 v0_6.2.2), (36, .bool (!v0_7))] [(4, .box 24 [.int .i64 s.1, .sl (.pair (.int .i64) (.pair (.int .i64) (.int .i64))) s.2]), (5, .box 24 [.int .i64 t.1, .sl (.pair (.int .i64) (.pair (.int .i64) (.int .i64))) t.2]), (9, .box 24 [.int .i64 v0_5.1, .own 33000]), (11, .box 24 [.int .i64 v0_6.1, .own 39000]), (33000, .arr 66 (.pair (.int .i64) (.pair (.int .i64) (.int .i64))) v0_5.2.1), (39000, .arr 66 (.pair (.int .i64) (.pair (.int .i64) (.int .i64))) v0_6.2.1)] ?_
   rcases zI h with ⟨hb11, h⟩ | ⟨hb11, h⟩
   ·refine zB [(3, .int .i64 step), (4, .bp 4 0), (5, .bp 5 0), (9, .bp 9 0), (11, .bp 11 0), (40, .bool true)] [(4, .box 24 [.int .i64 s.1, .sl (.pair (.int .i64) (.pair (.int .i64) (.int .i64))) s.2]), (5, .box 24 [.int .i64 t.1, .sl (.pair (.int .i64) (.pair (.int .i64) (.int .i64))) t.2]), (9, .box 24 [.int .i64 v0_5.1, .own 33000]), (11, .box 24 [.int .i64 v0_6.1, .own 39000]), (33000, .arr 66 (.pair (.int .i64) (.pair (.int .i64) (.int .i64))) v0_5.2.1), (39000, .arr 66 (.pair (.int .i64) (.pair (.int .i64) (.int .i64))) v0_6.2.1)] ?_
    refine AW.cond (b := true) rfl (fun _ => ?_) (fun hb12 => by cases hb12)
    refine zo ?_
    refine zB [(8, .bool false)] [] ?_
    refine zr ?_
    obtain rfl := Option.some.inj h
    exact zR [] [] []
   ·refine zB [(3, .int .i64 step), (4, .bp 4 0), (5, .bp 5 0), (9, .bp 9 0), (11, .bp 11 0), (40, .bool (!(decide (v0_5.2.2 = v0_6.2.2))))] [(4, .box 24 [.int .i64 s.1, .sl (.pair (.int .i64) (.pair (.int .i64) (.int .i64))) s.2]), (5, .box 24 [.int .i64 t.1, .sl (.pair (.int .i64) (.pair (.int .i64) (.int .i64))) t.2]), (9, .box 24 [.int .i64 v0_5.1, .own 33000]), (11, .box 24 [.int .i64 v0_6.1, .own 39000]), (33000, .arr 66 (.pair (.int .i64) (.pair (.int .i64) (.int .i64))) v0_5.2.1), (39000, .arr 66 (.pair (.int .i64) (.pair (.int .i64) (.int .i64))) v0_6.2.1)] ?_
    refine zQ h (fun hb13 h => ?_) (fun hb13 h => ?_)
    ·refine zo ?_
     refine zB [(8, .bool false)] [] ?_
     refine zr ?_
     obtain rfl := Option.some.inj h
     exact zR [] [] []
    ·refine zk ?_
     refine zo ?_
     refine zS 2 [(3, .int .i64 step), (4, .bp 4 0), (5, .bp 5 0), (9, .bp 9 0), (11, .bp 11 0), (42, .agg [.int .i64 s.1, .sl (.pair (.int .i64) (.pair (.int .i64) (.int .i64))) s.2]), (43, .int .i64 step)] [(4, .box 24 [.int .i64 s.1, .sl (.pair (.int .i64) (.pair (.int .i64) (.int .i64))) s.2]), (5, .box 24 [.int .i64 t.1, .sl (.pair (.int .i64) (.pair (.int .i64) (.int .i64))) t.2]), (9, .box 24 [.int .i64 v0_5.1, .own 33000]), (11, .box 24 [.int .i64 v0_6.1, .own 39000]), (33000, .arr 66 (.pair (.int .i64) (.pair (.int .i64) (.int .i64))) v0_5.2.1), (39000, .arr 66 (.pair (.int .i64) (.pair (.int .i64) (.int .i64))) v0_6.2.1)] ?_
     obtain ⟨v0_8, hv14, h⟩ := Option.bind_eq_some_iff.1 h
     refine zC [] [] (hc_refine_Without s step hv14) [(3, .int .i64 step), (4, .bp 4 0), (5, .bp 5 0), (9, .bp 9 0), (11, .bp 11 0), (44, .tup [.agg [.int .i64 v0_8.1, .own 54000], .int .i64 v0_8.2.2])] [(4, .box 24 [.int .i64 s.1, .sl (.pair (.int .i64) (.pair (.int .i64) (.int .i64))) s.2]), (5, .box 24 [.int .i64 t.1, .sl (.pair (.int .i64) (.pair (.int .i64) (.int .i64))) t.2]), (9, .box 24 [.int .i64 v0_5.1, .own 33000]), (11, .box 24 [.int .i64 v0_6.1, .own 39000]), (33000, .arr 66 (.pair (.int .i64) (.pair (.int .i64) (.int .i64))) v0_5.2.1), (39000, .arr 66 (.pair (.int .i64) (.pair (.int .i64) (.int .i64))) v0_6.2.1), (54000, .arr 66 (.pair (.int .i64) (.pair (.int .i64) (.int .i64))) v0_8.2.1)] ?_
     refine zB [(3, .int .i64 step), (4, .bp 4 0), (5, .bp 5 0), (9, .bp 9 0), (10, .int .i64 v0_8.2.2), (11, .bp 11 0)] [(4, .box 24 [.int .i64 s.1, .sl (.pair (.int .i64) (.pair (.int .i64) (.int .i64))) s.2]), (5, .box 24 [.int .i64 t.1, .sl (.pair (.int .i64) (.pair (.int .i64) (.int .i64))) t.2]), (9, .box 24 [.int .i64 v0_8.1, .own 54000]), (11, .box 24 [.int .i64 v0_6.1, .own 39000]), (39000, .arr 66 (.pair (.int .i64) (.pair (.int .i64) (.int .i64))) v0_6.2.1), (54000, .arr 66 (.pair (.int .i64) (.pair (.int .i64) (.int .i64))) v0_8.2.1)] ?_
     refine zo ?_
     refine zS 2 [(4, .bp 4 0), (5, .bp 5 0), (9, .bp 9 0), (10, .int .i64 v0_8.2.2), (11, .bp 11 0), (48, .agg [.int .i64 s.1, .sl (.pair (.int .i64) (.pair (.int .i64) (.int .i64))) s.2]), (49, .int .i64 step)] [(4, .box 24 [.int .i64 s.1, .sl (.pair (.int .i64) (.pair (.int .i64) (.int .i64))) s.2]), (5, .box 24 [.int .i64 t.1, .sl (.pair (.int .i64) (.pair (.int .i64) (.int .i64))) t.2]), (9, .box 24 [.int .i64 v0_8.1, .own 54000]), (11, .box 24 [.int .i64 v0_6.1, .own 39000]), (39000, .arr 66 (.pair (.int .i64) (.pair (.int .i64) (.int .i64))) v0_6.2.1), (54000, .arr 66 (.pair (.int .i64) (.pair (.int .i64) (.int .i64))) v0_8.2.1)] ?_
     obtain ⟨v0_9, hv15, h⟩ := Option.bind_eq_some_iff.1 h
     refine zC [] [] (hc_linealref05_Without s step hv15) [(4, .bp 4 0), (5, .bp 5 0), (9, .bp 9 0), (10, .int .i64 v0_8.2.2), (11, .bp 11 0), (50, .tup [.agg [.int .i64 v0_9.1, .own 60000], .int .i64 v0_9.2.2])] [(4, .box 24 [.int .i64 s.1, .sl (.pair (.int .i64) (.pair (.int .i64) (.int .i64))) s.2]), (5, .box 24 [.int .i64 t.1, .sl (.pair (.int .i64) (.pair (.int .i64) (.int .i64))) t.2]), (9, .box 24 [.int .i64 v0_8.1, .own 54000]), (11, .box 24 [.int .i64 v0_6.1, .own 39000]), (39000, .arr 66 (.pair (.int .i64) (.pair (.int .i64) (.int .i64))) v0_6.2.1), (54000, .arr 66 (.pair (.int .i64) (.pair (.int .i64) (.int .i64))) v0_8.2.1), (60000, .arr 66 (.pair (.int .i64) (.pair (.int .i64) (.int .i64))) v0_9.2.1)] ?_
     refine zB [(4, .bp 4 0), (5, .bp 5 0), (9, .bp 9 0), (10, .int .i64 v0_8.2.2), (11, .bp 11 0), (12, .int .i64 v0_9.2.2)] [(4, .box 24 [.int .i64 s.1, .sl (.pair (.int .i64) (.pair (.int .i64) (.int .i64))) s.2]), (5, .box 24 [.int .i64 t.1, .sl (.pair (.int .i64) (.pair (.int .i64) (.int .i64))) t.2]), (9, .box 24 [.int .i64 v0_8.1, .own 54000]), (11, .box 24 [.int .i64 v0_9.1, .own 60000]), (54000, .arr 66 (.pair (.int .i64) (.pair (.int .i64) (.int .i64))) v0_8.2.1), (60000, .arr 66 (.pair (.int .i64) (.pair (.int .i64) (.int .i64))) v0_9.2.1)] ?_
     refine AW.seq ?_
     refine zo ?_
     refine zS 2 [(4, .bp 4 0), (5, .bp 5 0), (9, .bp 9 0), (10, .int .i64 v0_8.2.2), (11, .bp 11 0), (12, .int .i64 v0_9.2.2), (53, .agg [.int .i64 v0_8.1, .own 54000]), (54, .agg [.int .i64 v0_9.1, .own 60000])] [(4, .box 24 [.int .i64 s.1, .sl (.pair (.int .i64) (.pair (.int .i64) (.int .i64))) s.2]), (5, .box 24 [.int .i64 t.1, .sl (.pair (.int .i64) (.pair (.int .i64) (.int .i64))) t.2]), (9, .box 24 [.int .i64 v0_8.1, .own 54000]), (11, .box 24 [.int .i64 v0_9.1, .own 60000]), (54000, .arr 66 (.pair (.int .i64) (.pair (.int .i64) (.int .i64))) v0_8.2.1), (60000, .arr 66 (.pair (.int .i64) (.pair (.int .i64) (.int .i64))) v0_9.2.1)] ?_
     obtain ⟨v0_10, hv16, h⟩ := Option.bind_eq_some_iff.1 h
     refine zC [54000, 60000] [] (hc_linealref05_Same (v0_8.1, v0_8.2.1) (v0_9.1, v0_9.2.1) hv16) [(4, .bp 4 0), (5, .bp 5 0), (9, .bp 9 0), (10, .int .i64 v0_8.2.2), (11, .bp 11 0), (12, .int .i64 v0_9.2.2), (55, .bool v0_10)] [(4, .box 24 [.int .i64 s.1, .sl (.pair (.int .i64) (.pair (.int .i64) (.int .i64))) s.2]), (5, .box 24 [.int .i64 t.1, .sl (.pair (.int .i64) (.pair (.int .i64) (.int .i64))) t.2]), (9, .box 24 [.int .i64 v0_8.1, .own 54000]), (11, .box 24 [.int .i64 v0_9.1, .own 60000]), (54000, .arr 66 (.pair (.int .i64) (.pair (.int .i64) (.int .i64))) v0_8.2.1), (60000, .arr 66 (.pair (.int .i64) (.pair (.int .i64) (.int .i64))) v0_9.2.1)] ?_
     refine zS 2 [(4, .bp 4 0), (5, .bp 5 0), (9, .bp 9 0), (10, .int .i64 v0_8.2.2), (11, .bp 11 0), (12, .int .i64 v0_9.2.2), (57, .bool (!v0_10))] [(4, .box 24 [.int .i64 s.1, .sl (.pair (.int .i64) (.pair (.int .i64) (.int .i64))) s.2]), (5, .box 24 [.int .i64 t.1, .sl (.pair (.int .i64) (.pair (.int .i64) (.int .i64))) t.2]), (9, .box 24 [.int .i64 v0_8.1, .own 54000]), (11, .box 24 [.int .i64 v0_9.1, .own 60000]), (54000, .arr 66 (.pair (.int .i64) (.pair (.int .i64) (.int .i64))) v0_8.2.1), (60000, .arr 66 (.pair (.int .i64) (.pair (.int .i64) (.int .i64))) v0_9.2.1)] ?_
     rcases zI h with ⟨hb17, h⟩ | ⟨hb17, h⟩
     ·refine zB [(4, .bp 4 0), (5, .bp 5 0), (9, .bp 9 0), (11, .bp 11 0), (61, .bool true)] [(4, .box 24 [.int .i64 s.1, .sl (.pair (.int .i64) (.pair (.int .i64) (.int .i64))) s.2]), (5, .box 24 [.int .i64 t.1, .sl (.pair (.int .i64) (.pair (.int .i64) (.int .i64))) t.2]), (9, .box 24 [.int .i64 v0_8.1, .own 54000]), (11, .box 24 [.int .i64 v0_9.1, .own 60000]), (54000, .arr 66 (.pair (.int .i64) (.pair (.int .i64) (.int .i64))) v0_8.2.1), (60000, .arr 66 (.pair (.int .i64) (.pair (.int .i64) (.int .i64))) v0_9.2.1)] ?_
      refine AW.cond (b := true) rfl (fun _ => ?_) (fun hb18 => by cases hb18)
      refine zo ?_
      refine zB [(8, .bool false)] [] ?_
      refine zr ?_
      obtain rfl := Option.some.inj h
      exact zR [] [] []
     ·refine zB [(4, .bp 4 0), (5, .bp 5 0), (9, .bp 9 0), (11, .bp 11 0), (61, .bool (!(decide (v0_8.2.2 = v0_9.2.2))))] [(4, .box 24 [.int .i64 s.1, .sl (.pair (.int .i64) (.pair (.int .i64) (.int .i64))) s.2]), (5, .box 24 [.int .i64 t.1, .sl (.pair (.int .i64) (.pair (.int .i64) (.int .i64))) t.2]), (9, .box 24 [.int .i64 v0_8.1, .own 54000]), (11, .box 24 [.int .i64 v0_9.1, .own 60000]), (54000, .arr 66 (.pair (.int .i64) (.pair (.int .i64) (.int .i64))) v0_8.2.1), (60000, .arr 66 (.pair (.int .i64) (.pair (.int .i64) (.int .i64))) v0_9.2.1)] ?_
      refine zQ h (fun hb19 h => ?_) (fun hb19 h => ?_)
      ·refine zo ?_
       refine zB [(8, .bool false)] [] ?_
       refine zr ?_
       obtain rfl := Option.some.inj h
       exact zR [] [] []
      ·refine zk ?_
       refine zo ?_
       refine zS 2 [(4, .bp 4 0), (5, .bp 5 0), (9, .bp 9 0), (11, .bp 11 0), (63, .agg [.int .i64 s.1, .sl (.pair (.int .i64) (.pair (.int .i64) (.int .i64))) s.2]), (64, .agg [.int .i64 t.1, .sl (.pair (.int .i64) (.pair (.int .i64) (.int .i64))) t.2])] [(4, .box 24 [.int .i64 s.1, .sl (.pair (.int .i64) (.pair (.int .i64) (.int .i64))) s.2]), (5, .box 24 [.int .i64 t.1, .sl (.pair (.int .i64) (.pair (.int .i64) (.int .i64))) t.2]), (9, .box 24 [.int .i64 v0_8.1, .own 54000]), (11, .box 24 [.int .i64 v0_9.1, .own 60000]), (54000, .arr 66 (.pair (.int .i64) (.pair (.int .i64) (.int .i64))) v0_8.2.1), (60000, .arr 66 (.pair (.int .i64) (.pair (.int .i64) (.int .i64))) v0_9.2.1)] ?_
       obtain ⟨v0_11, hv20, h⟩ := Option.bind_eq_some_iff.1 h
       refine zC [] [] (hc_refine_Both s t hv20) [(4, .bp 4 0), (5, .bp 5 0), (9, .bp 9 0), (11, .bp 11 0), (65, .tup [.agg [.int .i64 v0_11.1, .own 75000], .int .i64 v0_11.2.2])] [(4, .box 24 [.int .i64 s.1, .sl (.pair (.int .i64) (.pair (.int .i64) (.int .i64))) s.2]), (5, .box 24 [.int .i64 t.1, .sl (.pair (.int .i64) (.pair (.int .i64) (.int .i64))) t.2]), (9, .box 24 [.int .i64 v0_8.1, .own 54000]), (11, .box 24 [.int .i64 v0_9.1, .own 60000]), (54000, .arr 66 (.pair (.int .i64) (.pair (.int .i64) (.int .i64))) v0_8.2.1), (60000, .arr 66 (.pair (.int .i64) (.pair (.int .i64) (.int .i64))) v0_9.2.1), (75000, .arr 66 (.pair (.int .i64) (.pair (.int .i64) (.int .i64))) v0_11.2.1)] ?_
       refine zB [(4, .bp 4 0), (5, .bp 5 0), (9, .bp 9 0), (10, .int .i64 v0_11.2.2), (11, .bp 11 0)] [(4, .box 24 [.int .i64 s.1, .sl (.pair (.int .i64) (.pair (.int .i64) (.int .i64))) s.2]), (5, .box 24 [.int .i64 t.1, .sl (.pair (.int .i64) (.pair (.int .i64) (.int .i64))) t.2]), (9, .box 24 [.int .i64 v0_11.1, .own 75000]), (11, .box 24 [.int .i64 v0_9.1, .own 60000]), (60000, .arr 66 (.pair (.int .i64) (.pair (.int .i64) (.int .i64))) v0_9.2.1), (75000, .arr 66 (.pair (.int .i64) (.pair (.int .i64) (.int .i64))) v0_11.2.1)] ?_
       refine zo ?_
       refine zS 2 [(9, .bp 9 0), (10, .int .i64 v0_11.2.2), (11, .bp 11 0), (69, .agg [.int .i64 s.1, .sl (.pair (.int .i64) (.pair (.int .i64) (.int .i64))) s.2]), (70, .agg [.int .i64 t.1, .sl (.pair (.int .i64) (.pair (.int .i64) (.int .i64))) t.2])] [(9, .box 24 [.int .i64 v0_11.1, .own 75000]), (11, .box 24 [.int .i64 v0_9.1, .own 60000]), (60000, .arr 66 (.pair (.int .i64) (.pair (.int .i64) (.int .i64))) v0_9.2.1), (75000, .arr 66 (.pair (.int .i64) (.pair (.int .i64) (.int .i64))) v0_11.2.1)] ?_
       obtain ⟨v0_12, hv21, h⟩ := Option.bind_eq_some_iff.1 h
       refine zC [] [] (hc_linealref05_Both s t hv21) [(9, .bp 9 0), (10, .int .i64 v0_11.2.2), (11, .bp 11 0), (71, .tup [.agg [.int .i64 v0_12.1, .own 81000], .int .i64 v0_12.2.2])] [(9, .box 24 [.int .i64 v0_11.1, .own 75000]), (11, .box 24 [.int .i64 v0_9.1, .own 60000]), (60000, .arr 66 (.pair (.int .i64) (.pair (.int .i64) (.int .i64))) v0_9.2.1), (75000, .arr 66 (.pair (.int .i64) (.pair (.int .i64) (.int .i64))) v0_11.2.1), (81000, .arr 66 (.pair (.int .i64) (.pair (.int .i64) (.int .i64))) v0_12.2.1)] ?_
       refine zB [(9, .bp 9 0), (10, .int .i64 v0_11.2.2), (11, .bp 11 0), (12, .int .i64 v0_12.2.2)] [(9, .box 24 [.int .i64 v0_11.1, .own 75000]), (11, .box 24 [.int .i64 v0_12.1, .own 81000]), (75000, .arr 66 (.pair (.int .i64) (.pair (.int .i64) (.int .i64))) v0_11.2.1), (81000, .arr 66 (.pair (.int .i64) (.pair (.int .i64) (.int .i64))) v0_12.2.1)] ?_
       refine zo ?_
       refine zS 2 [(10, .int .i64 v0_11.2.2), (12, .int .i64 v0_12.2.2), (74, .agg [.int .i64 v0_11.1, .own 75000]), (75, .agg [.int .i64 v0_12.1, .own 81000])] [(75000, .arr 66 (.pair (.int .i64) (.pair (.int .i64) (.int .i64))) v0_11.2.1), (81000, .arr 66 (.pair (.int .i64) (.pair (.int .i64) (.int .i64))) v0_12.2.1)] ?_
       obtain ⟨v0_13, hv22, h⟩ := Option.bind_eq_some_iff.1 h
       refine zC [75000, 81000] [] (hc_linealref05_Same (v0_11.1, v0_11.2.1) (v0_12.1, v0_12.2.1) hv22) [(10, .int .i64 v0_11.2.2), (12, .int .i64 v0_12.2.2), (76, .bool v0_13)] [] ?_
       refine zS 1 [(10, .int .i64 v0_11.2.2), (12, .int .i64 v0_12.2.2), (77, .bool v0_13)] [] ?_
       rcases zI h with ⟨hb23, h⟩ | ⟨hb23, h⟩
       ·refine zS 5 [(82, .bool (decide (v0_11.2.2 = v0_12.2.2)))] [] ?_
        rcases zI h with ⟨hb24, h⟩ | ⟨hb24, h⟩
        ·refine zT [(82, .bool true)] [] gt ?_
         obtain ⟨v0_14, hv25, h⟩ := Option.bind_eq_some_iff.1 h
         refine zG [] [] (hc_lineallaw05_Awake hv25) [(82, .bool true), (83, .bool v0_14)] [] ?_
         refine zB [(8, .bool v0_14)] [] ?_
         refine AW.ret ?_
         obtain rfl := Option.some.inj h
         exact zR [] [] []
        ·refine zB [(8, .bool false)] [] ?_
         refine AW.ret ?_
         obtain rfl := Option.some.inj h
         exact zR [] [] []
       ·refine zS 5 [(82, .bool false)] [] ?_
        refine zB [(8, .bool false)] [] ?_
        refine AW.ret ?_
        obtain rfl := Option.some.inj h
        exact zR [] [] []

end Go.Proofs.Ytifleoceebaooaa
