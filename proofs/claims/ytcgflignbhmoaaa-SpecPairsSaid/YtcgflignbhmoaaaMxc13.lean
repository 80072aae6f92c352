/-
  Made by wip/tool/dc.py out of the print of the program: contracts.
-/
import Derived.Test.YtcgflignbhmoaaaQp
import Derived.Test.YtcgflignbhmoaaaShs
import Derived.Test.YtcgflignbhmoaaaMxc1
import Derived.Test.YtcgflignbhmoaaaMxc11
import Derived.Test.YtcgflignbhmoaaaMxc12
import Derived.Test.YtcgflignbhmoaaaMxc4
import Derived.Test.YtcgflignbhmoaaaMxc5
import Derived.Test.YtcgflignbhmoaaaMxc7
import Derived.Test.YtcgflignbhmoaaaMxc8
namespace Go.Proofs.Ytcgflignbhmoaaa
open Go.RowKit

set_option linter.unusedSimpArgs false
set_option linter.unusedVariables false
set_option linter.constructorNameAsVariable false

set_option maxRecDepth 100000
set_option maxHeartbeats 2000000

theorem hc_lineallaw01_SpecPairs (s : Int × Int × (List (List Int)) × (List (List Int))) (t : Int × Int × (List (List Int)) × (List (List Int))) {r : Bool} (h : lineallaw01_SpecPairs s t = some r) : HC Try.prog 6 [] [.agg [.int .i64 s.1, .int .i64 s.2.1, .sl (.sl (.int .i64)) s.2.2.1, .sl (.sl (.int .i64)) s.2.2.2], .agg [.int .i64 t.1, .int .i64 t.2.1, .sl (.sl (.int .i64)) t.2.2.1, .sl (.sl (.int .i64)) t.2.2.2]] [] (.bool r) := by
 unfold lineallaw01_SpecPairs at h
 refine zH Try.func6 [.tmp 4] 88 ?_
 refine zo ?_
 refine zB [(2, .bp 2 0), (3, .bp 3 0)] [(2, .box 24 [.int .i64 s.1, .int .i64 s.2.1, .sl (.sl (.int .i64)) s.2.2.1, .sl (.sl (.int .i64)) s.2.2.2]), (3, .box 24 [.int .i64 t.1, .int .i64 t.2.1, .sl (.sl (.int .i64)) t.2.2.1, .sl (.sl (.int .i64)) t.2.2.2])] ?_
 refine AW.seq ?_
 refine zo ?_
 refine zS 1 [(2, .bp 2 0), (3, .bp 3 0), (15, .agg [.int .i64 s.1, .int .i64 s.2.1, .sl (.sl (.int .i64)) s.2.2.1, .sl (.sl (.int .i64)) s.2.2.2])] [(2, .box 24 [.int .i64 s.1, .int .i64 s.2.1, .sl (.sl (.int .i64)) s.2.2.1, .sl (.sl (.int .i64)) s.2.2.2]), (3, .box 24 [.int .i64 t.1, .int .i64 t.2.1, .sl (.sl (.int .i64)) t.2.2.1, .sl (.sl (.int .i64)) t.2.2.2])] ?_
 obtain ⟨v0, hv1, h⟩ := Option.bind_eq_some_iff.1 h
 refine zC [] [] (hc_lineallaw01_Long s hv1) [(2, .bp 2 0), (3, .bp 3 0), (16, .bool v0)] [(2, .box 24 [.int .i64 s.1, .int .i64 s.2.1, .sl (.sl (.int .i64)) s.2.2.1, .sl (.sl (.int .i64)) s.2.2.2]), (3, .box 24 [.int .i64 t.1, .int .i64 t.2.1, .sl (.sl (.int .i64)) t.2.2.1, .sl (.sl (.int .i64)) t.2.2.2])] ?_
 refine zS 1 [(2, .bp 2 0), (3, .bp 3 0), (17, .bool v0)] [(2, .box 24 [.int .i64 s.1, .int .i64 s.2.1, .sl (.sl (.int .i64)) s.2.2.1, .sl (.sl (.int .i64)) s.2.2.2]), (3, .box 24 [.int .i64 t.1, .int .i64 t.2.1, .sl (.sl (.int .i64)) t.2.2.1, .sl (.sl (.int .i64)) t.2.2.2])] ?_
 rcases zI h with ⟨hb2, h⟩ | ⟨hb2, h⟩
 ·refine zB [(2, .bp 2 0), (3, .bp 3 0), (20, .bool true)] [(2, .box 24 [.int .i64 s.1, .int .i64 s.2.1, .sl (.sl (.int .i64)) s.2.2.1, .sl (.sl (.int .i64)) s.2.2.2]), (3, .box 24 [.int .i64 t.1, .int .i64 t.2.1, .sl (.sl (.int .i64)) t.2.2.1, .sl (.sl (.int .i64)) t.2.2.2])] ?_
  refine AW.cond (b := true) rfl (fun _ => ?_) (fun hb3 => by cases hb3)
  refine zo ?_
  obtain ⟨v0_2, hv4, h⟩ := Option.bind_eq_some_iff.1 h
  refine zC [] [] (hc_lineallaw01_Awake hv4) [(21, .bool v0_2)] [] ?_
  refine zB [(4, .bool v0_2)] [] ?_
  refine zr ?_
  obtain rfl := Option.some.inj h
  exact zR [] [] []
 ·refine zS 1 [(2, .bp 2 0), (3, .bp 3 0), (17, .bool false), (18, .agg [.int .i64 t.1, .int .i64 t.2.1, .sl (.sl (.int .i64)) t.2.2.1, .sl (.sl (.int .i64)) t.2.2.2])] [(2, .box 24 [.int .i64 s.1, .int .i64 s.2.1, .sl (.sl (.int .i64)) s.2.2.1, .sl (.sl (.int .i64)) s.2.2.2]), (3, .box 24 [.int .i64 t.1, .int .i64 t.2.1, .sl (.sl (.int .i64)) t.2.2.1, .sl (.sl (.int .i64)) t.2.2.2])] ?_
  obtain ⟨v0_3, hv5, h⟩ := Option.bind_eq_some_iff.1 h
  refine zG [] [] (hc_lineallaw01_Long t hv5) [(2, .bp 2 0), (3, .bp 3 0), (17, .bool false), (19, .bool v0_3)] [(2, .box 24 [.int .i64 s.1, .int .i64 s.2.1, .sl (.sl (.int .i64)) s.2.2.1, .sl (.sl (.int .i64)) s.2.2.2]), (3, .box 24 [.int .i64 t.1, .int .i64 t.2.1, .sl (.sl (.int .i64)) t.2.2.1, .sl (.sl (.int .i64)) t.2.2.2])] ?_
  refine zB [(2, .bp 2 0), (3, .bp 3 0), (20, .bool v0_3)] [(2, .box 24 [.int .i64 s.1, .int .i64 s.2.1, .sl (.sl (.int .i64)) s.2.2.1, .sl (.sl (.int .i64)) s.2.2.2]), (3, .box 24 [.int .i64 t.1, .int .i64 t.2.1, .sl (.sl (.int .i64)) t.2.2.1, .sl (.sl (.int .i64)) t.2.2.2])] ?_
  refine zQ h (fun hb6 h => ?_) (fun hb6 h => ?_)
  ·refine zo ?_
   obtain ⟨v0_4, hv7, h⟩ := Option.bind_eq_some_iff.1 h
   refine zC [] [] (hc_lineallaw01_Awake hv7) [(21, .bool v0_4)] [] ?_
   refine zB [(4, .bool v0_4)] [] ?_
   refine zr ?_
   obtain rfl := Option.some.inj h
   exact zR [] [] []
  ·refine zk ?_
   refine zo ?_
   refine zS 2 [(2, .bp 2 0), (3, .bp 3 0), (23, .agg [.int .i64 s.1, .int .i64 s.2.1, .sl (.sl (.int .i64)) s.2.2.1, .sl (.sl (.int .i64)) s.2.2.2]), (24, .agg [.int .i64 t.1, .int .i64 t.2.1, .sl (.sl (.int .i64)) t.2.2.1, .sl (.sl (.int .i64)) t.2.2.2])] [(2, .box 24 [.int .i64 s.1, .int .i64 s.2.1, .sl (.sl (.int .i64)) s.2.2.1, .sl (.sl (.int .i64)) s.2.2.2]), (3, .box 24 [.int .i64 t.1, .int .i64 t.2.1, .sl (.sl (.int .i64)) t.2.2.1, .sl (.sl (.int .i64)) t.2.2.2])] ?_
   obtain ⟨v0_5, hv8, h⟩ := Option.bind_eq_some_iff.1 h
   refine zC [] [] (hc_spec_Alike s t hv8) [(2, .bp 2 0), (3, .bp 3 0), (25, .tup [.bool v0_5.1, .int .i64 v0_5.2])] [(2, .box 24 [.int .i64 s.1, .int .i64 s.2.1, .sl (.sl (.int .i64)) s.2.2.1, .sl (.sl (.int .i64)) s.2.2.2]), (3, .box 24 [.int .i64 t.1, .int .i64 t.2.1, .sl (.sl (.int .i64)) t.2.2.1, .sl (.sl (.int .i64)) t.2.2.2])] ?_
   refine zB [(2, .bp 2 0), (3, .bp 3 0), (5, .bool v0_5.1), (6, .int .i64 v0_5.2)] [(2, .box 24 [.int .i64 s.1, .int .i64 s.2.1, .sl (.sl (.int .i64)) s.2.2.1, .sl (.sl (.int .i64)) s.2.2.2]), (3, .box 24 [.int .i64 t.1, .int .i64 t.2.1, .sl (.sl (.int .i64)) t.2.2.1, .sl (.sl (.int .i64)) t.2.2.2])] ?_
   refine zo ?_
   refine zS 2 [(2, .bp 2 0), (3, .bp 3 0), (5, .bool v0_5.1), (6, .int .i64 v0_5.2), (29, .agg [.int .i64 s.1, .int .i64 s.2.1, .sl (.sl (.int .i64)) s.2.2.1, .sl (.sl (.int .i64)) s.2.2.2]), (30, .agg [.int .i64 t.1, .int .i64 t.2.1, .sl (.sl (.int .i64)) t.2.2.1, .sl (.sl (.int .i64)) t.2.2.2])] [(2, .box 24 [.int .i64 s.1, .int .i64 s.2.1, .sl (.sl (.int .i64)) s.2.2.1, .sl (.sl (.int .i64)) s.2.2.2]), (3, .box 24 [.int .i64 t.1, .int .i64 t.2.1, .sl (.sl (.int .i64)) t.2.2.1, .sl (.sl (.int .i64)) t.2.2.2])] ?_
   obtain ⟨v0_6, hv9, h⟩ := Option.bind_eq_some_iff.1 h
   refine zC [] [] (hc_linealref01_Alike s t hv9) [(2, .bp 2 0), (3, .bp 3 0), (5, .bool v0_5.1), (6, .int .i64 v0_5.2), (31, .tup [.bool v0_6.1, .int .i64 v0_6.2])] [(2, .box 24 [.int .i64 s.1, .int .i64 s.2.1, .sl (.sl (.int .i64)) s.2.2.1, .sl (.sl (.int .i64)) s.2.2.2]), (3, .box 24 [.int .i64 t.1, .int .i64 t.2.1, .sl (.sl (.int .i64)) t.2.2.1, .sl (.sl (.int .i64)) t.2.2.2])] ?_
   refine zB [(2, .bp 2 0), (3, .bp 3 0), (5, .bool v0_5.1), (6, .int .i64 v0_5.2), (7, .bool v0_6.1), (8, .int .i64 v0_6.2)] [(2, .box 24 [.int .i64 s.1, .int .i64 s.2.1, .sl (.sl (.int .i64)) s.2.2.1, .sl (.sl (.int .i64)) s.2.2.2]), (3, .box 24 [.int .i64 t.1, .int .i64 t.2.1, .sl (.sl (.int .i64)) t.2.2.1, .sl (.sl (.int .i64)) t.2.2.2])] ?_
   refine zo ?_
   refine zS 2 [(2, .bp 2 0), (3, .bp 3 0), (5, .bool v0_5.1), (6, .int .i64 v0_5.2), (7, .bool v0_6.1), (8, .int .i64 v0_6.2), (35, .agg [.int .i64 s.1, .int .i64 s.2.1, .sl (.sl (.int .i64)) s.2.2.1, .sl (.sl (.int .i64)) s.2.2.2]), (36, .agg [.int .i64 t.1, .int .i64 t.2.1, .sl (.sl (.int .i64)) t.2.2.1, .sl (.sl (.int .i64)) t.2.2.2])] [(2, .box 24 [.int .i64 s.1, .int .i64 s.2.1, .sl (.sl (.int .i64)) s.2.2.1, .sl (.sl (.int .i64)) s.2.2.2]), (3, .box 24 [.int .i64 t.1, .int .i64 t.2.1, .sl (.sl (.int .i64)) t.2.2.1, .sl (.sl (.int .i64)) t.2.2.2])] ?_
   obtain ⟨v0_7, hv10, h⟩ := Option.bind_eq_some_iff.1 h
   refine zC [] [] (hc_spec_Unlike s t hv10) [(2, .bp 2 0), (3, .bp 3 0), (5, .bool v0_5.1), (6, .int .i64 v0_5.2), (7, .bool v0_6.1), (8, .int .i64 v0_6.2), (37, .tup [.own 47000, .int .i64 v0_7.2])] [(2, .box 24 [.int .i64 s.1, .int .i64 s.2.1, .sl (.sl (.int .i64)) s.2.2.1, .sl (.sl (.int .i64)) s.2.2.2]), (3, .box 24 [.int .i64 t.1, .int .i64 t.2.1, .sl (.sl (.int .i64)) t.2.2.1, .sl (.sl (.int .i64)) t.2.2.2]), (47000, .arr 3 (.int .i64) v0_7.1)] ?_
   refine zB [(2, .bp 2 0), (3, .bp 3 0), (5, .bool v0_5.1), (6, .int .i64 v0_5.2), (7, .bool v0_6.1), (8, .int .i64 v0_6.2), (9, .own 47000), (10, .int .i64 v0_7.2)] [(2, .box 24 [.int .i64 s.1, .int .i64 s.2.1, .sl (.sl (.int .i64)) s.2.2.1, .sl (.sl (.int .i64)) s.2.2.2]), (3, .box 24 [.int .i64 t.1, .int .i64 t.2.1, .sl (.sl (.int .i64)) t.2.2.1, .sl (.sl (.int .i64)) t.2.2.2]), (47000, .arr 3 (.int .i64) v0_7.1)] ?_
   refine zo ?_
   refine zS 2 [(2, .bp 2 0), (3, .bp 3 0), (5, .bool v0_5.1), (6, .int .i64 v0_5.2), (7, .bool v0_6.1), (8, .int .i64 v0_6.2), (9, .own 47000), (10, .int .i64 v0_7.2), (41, .agg [.int .i64 s.1, .int .i64 s.2.1, .sl (.sl (.int .i64)) s.2.2.1, .sl (.sl (.int .i64)) s.2.2.2]), (42, .agg [.int .i64 t.1, .int .i64 t.2.1, .sl (.sl (.int .i64)) t.2.2.1, .sl (.sl (.int .i64)) t.2.2.2])] [(2, .box 24 [.int .i64 s.1, .int .i64 s.2.1, .sl (.sl (.int .i64)) s.2.2.1, .sl (.sl (.int .i64)) s.2.2.2]), (3, .box 24 [.int .i64 t.1, .int .i64 t.2.1, .sl (.sl (.int .i64)) t.2.2.1, .sl (.sl (.int .i64)) t.2.2.2]), (47000, .arr 3 (.int .i64) v0_7.1)] ?_
   obtain ⟨v0_8, hv11, h⟩ := Option.bind_eq_some_iff.1 h
   refine zC [] [] (hc_linealref01_Unlike s t hv11) [(2, .bp 2 0), (3, .bp 3 0), (5, .bool v0_5.1), (6, .int .i64 v0_5.2), (7, .bool v0_6.1), (8, .int .i64 v0_6.2), (9, .own 47000), (10, .int .i64 v0_7.2), (43, .tup [.own 53000, .int .i64 v0_8.2])] [(2, .box 24 [.int .i64 s.1, .int .i64 s.2.1, .sl (.sl (.int .i64)) s.2.2.1, .sl (.sl (.int .i64)) s.2.2.2]), (3, .box 24 [.int .i64 t.1, .int .i64 t.2.1, .sl (.sl (.int .i64)) t.2.2.1, .sl (.sl (.int .i64)) t.2.2.2]), (47000, .arr 3 (.int .i64) v0_7.1), (53000, .arr 3 (.int .i64) v0_8.1)] ?_
   refine zB [(2, .bp 2 0), (3, .bp 3 0), (5, .bool v0_5.1), (6, .int .i64 v0_5.2), (7, .bool v0_6.1), (8, .int .i64 v0_6.2), (9, .own 47000), (10, .int .i64 v0_7.2), (11, .own 53000), (12, .int .i64 v0_8.2)] [(2, .box 24 [.int .i64 s.1, .int .i64 s.2.1, .sl (.sl (.int .i64)) s.2.2.1, .sl (.sl (.int .i64)) s.2.2.2]), (3, .box 24 [.int .i64 t.1, .int .i64 t.2.1, .sl (.sl (.int .i64)) t.2.2.1, .sl (.sl (.int .i64)) t.2.2.2]), (47000, .arr 3 (.int .i64) v0_7.1), (53000, .arr 3 (.int .i64) v0_8.1)] ?_
   refine AW.seq ?_
   refine zo ?_
   refine zS 4 [(2, .bp 2 0), (3, .bp 3 0), (6, .int .i64 v0_5.2), (8, .int .i64 v0_6.2), (9, .own 47000), (10, .int .i64 v0_7.2), (11, .own 53000), (12, .int .i64 v0_8.2), (49, .bool ((v0_5.1 == v0_6.1) != true))] [(2, .box 24 [.int .i64 s.1, .int .i64 s.2.1, .sl (.sl (.int .i64)) s.2.2.1, .sl (.sl (.int .i64)) s.2.2.2]), (3, .box 24 [.int .i64 t.1, .int .i64 t.2.1, .sl (.sl (.int .i64)) t.2.2.1, .sl (.sl (.int .i64)) t.2.2.2]), (47000, .arr 3 (.int .i64) v0_7.1), (53000, .arr 3 (.int .i64) v0_8.1)] ?_
   rcases zI h with ⟨hb12, h⟩ | ⟨hb12, h⟩
   ·refine zS 6 [(2, .bp 2 0), (3, .bp 3 0), (10, .int .i64 v0_7.2), (11, .own 53000), (12, .int .i64 v0_8.2), (54, .bool true), (55, .cv (undef))] [(2, .box 24 [.int .i64 s.1, .int .i64 s.2.1, .sl (.sl (.int .i64)) s.2.2.1, .sl (.sl (.int .i64)) s.2.2.2]), (3, .box 24 [.int .i64 t.1, .int .i64 t.2.1, .sl (.sl (.int .i64)) t.2.2.1, .sl (.sl (.int .i64)) t.2.2.2]), (53000, .arr 3 (.int .i64) v0_8.1)] ?_
    refine zS 6 [(2, .bp 2 0), (3, .bp 3 0), (12, .int .i64 v0_8.2), (60, .bool true), (61, .cv (undef))] [(2, .box 24 [.int .i64 s.1, .int .i64 s.2.1, .sl (.sl (.int .i64)) s.2.2.1, .sl (.sl (.int .i64)) s.2.2.2]), (3, .box 24 [.int .i64 t.1, .int .i64 t.2.1, .sl (.sl (.int .i64)) t.2.2.1, .sl (.sl (.int .i64)) t.2.2.2])] ?_
    refine zB [(2, .bp 2 0), (3, .bp 3 0), (64, .bool true)] [(2, .box 24 [.int .i64 s.1, .int .i64 s.2.1, .sl (.sl (.int .i64)) s.2.2.1, .sl (.sl (.int .i64)) s.2.2.2]), (3, .box 24 [.int .i64 t.1, .int .i64 t.2.1, .sl (.sl (.int .i64)) t.2.2.1, .sl (.sl (.int .i64)) t.2.2.2])] ?_
    refine AW.cond (b := true) rfl (fun _ => ?_) (fun hb13 => by cases hb13)
    refine zo ?_
    refine zB [(4, .bool false)] [] ?_
    refine zr ?_
    obtain rfl := Option.some.inj h
    exact zR [] [] []
   ·refine zS 5 [(2, .bp 2 0), (3, .bp 3 0), (9, .own 47000), (10, .int .i64 v0_7.2), (11, .own 53000), (12, .int .i64 v0_8.2), (54, .bool (!(decide (v0_5.2 = v0_6.2))))] [(2, .box 24 [.int .i64 s.1, .int .i64 s.2.1, .sl (.sl (.int .i64)) s.2.2.1, .sl (.sl (.int .i64)) s.2.2.2]), (3, .box 24 [.int .i64 t.1, .int .i64 t.2.1, .sl (.sl (.int .i64)) t.2.2.1, .sl (.sl (.int .i64)) t.2.2.2]), (47000, .arr 3 (.int .i64) v0_7.1), (53000, .arr 3 (.int .i64) v0_8.1)] ?_
    rcases zI h with ⟨hb14, h⟩ | ⟨hb14, h⟩
    ·refine zS 4 [(2, .bp 2 0), (3, .bp 3 0), (10, .int .i64 v0_7.2), (12, .int .i64 v0_8.2), (54, .bool true), (58, .cv (undef))] [(2, .box 24 [.int .i64 s.1, .int .i64 s.2.1, .sl (.sl (.int .i64)) s.2.2.1, .sl (.sl (.int .i64)) s.2.2.2]), (3, .box 24 [.int .i64 t.1, .int .i64 t.2.1, .sl (.sl (.int .i64)) t.2.2.1, .sl (.sl (.int .i64)) t.2.2.2])] ?_
     refine zB [(2, .bp 2 0), (3, .bp 3 0), (64, .bool true)] [(2, .box 24 [.int .i64 s.1, .int .i64 s.2.1, .sl (.sl (.int .i64)) s.2.2.1, .sl (.sl (.int .i64)) s.2.2.2]), (3, .box 24 [.int .i64 t.1, .int .i64 t.2.1, .sl (.sl (.int .i64)) t.2.2.1, .sl (.sl (.int .i64)) t.2.2.2])] ?_
     refine AW.cond (b := true) rfl (fun _ => ?_) (fun hb15 => by cases hb15)
     refine zo ?_
     refine zB [(4, .bool false)] [] ?_
     refine zr ?_
     obtain rfl := Option.some.inj h
     exact zR [] [] []
    ·refine zS 2 [(2, .bp 2 0), (3, .bp 3 0), (10, .int .i64 v0_7.2), (12, .int .i64 v0_8.2), (54, .bool false), (55, .own 47000), (56, .own 53000)] [(2, .box 24 [.int .i64 s.1, .int .i64 s.2.1, .sl (.sl (.int .i64)) s.2.2.1, .sl (.sl (.int .i64)) s.2.2.2]), (3, .box 24 [.int .i64 t.1, .int .i64 t.2.1, .sl (.sl (.int .i64)) t.2.2.1, .sl (.sl (.int .i64)) t.2.2.2]), (47000, .arr 3 (.int .i64) v0_7.1), (53000, .arr 3 (.int .i64) v0_8.1)] ?_
     obtain ⟨v0_9, hv16, h⟩ := Option.bind_eq_some_iff.1 h
     refine zG [47000, 53000] [] (hc_linealref01_SameInts v0_7.1 v0_8.1 hv16) [(2, .bp 2 0), (3, .bp 3 0), (10, .int .i64 v0_7.2), (12, .int .i64 v0_8.2), (54, .bool false), (57, .bool v0_9)] [(2, .box 24 [.int .i64 s.1, .int .i64 s.2.1, .sl (.sl (.int .i64)) s.2.2.1, .sl (.sl (.int .i64)) s.2.2.2]), (3, .box 24 [.int .i64 t.1, .int .i64 t.2.1, .sl (.sl (.int .i64)) t.2.2.1, .sl (.sl (.int .i64)) t.2.2.2])] ?_
     refine zS 3 [(2, .bp 2 0), (3, .bp 3 0), (10, .int .i64 v0_7.2), (12, .int .i64 v0_8.2), (60, .bool (!v0_9))] [(2, .box 24 [.int .i64 s.1, .int .i64 s.2.1, .sl (.sl (.int .i64)) s.2.2.1, .sl (.sl (.int .i64)) s.2.2.2]), (3, .box 24 [.int .i64 t.1, .int .i64 t.2.1, .sl (.sl (.int .i64)) t.2.2.1, .sl (.sl (.int .i64)) t.2.2.2])] ?_
     rcases zI h with ⟨hb17, h⟩ | ⟨hb17, h⟩
     ·refine zB [(2, .bp 2 0), (3, .bp 3 0), (64, .bool true)] [(2, .box 24 [.int .i64 s.1, .int .i64 s.2.1, .sl (.sl (.int .i64)) s.2.2.1, .sl (.sl (.int .i64)) s.2.2.2]), (3, .box 24 [.int .i64 t.1, .int .i64 t.2.1, .sl (.sl (.int .i64)) t.2.2.1, .sl (.sl (.int .i64)) t.2.2.2])] ?_
      refine AW.cond (b := true) rfl (fun _ => ?_) (fun hb18 => by cases hb18)
      refine zo ?_
      refine zB [(4, .bool false)] [] ?_
      refine zr ?_
      obtain rfl := Option.some.inj h
      exact zR [] [] []
     ·refine zB [(2, .bp 2 0), (3, .bp 3 0), (64, .bool (!(decide (v0_7.2 = v0_8.2))))] [(2, .box 24 [.int .i64 s.1, .int .i64 s.2.1, .sl (.sl (.int .i64)) s.2.2.1, .sl (.sl (.int .i64)) s.2.2.2]), (3, .box 24 [.int .i64 t.1, .int .i64 t.2.1, .sl (.sl (.int .i64)) t.2.2.1, .sl (.sl (.int .i64)) t.2.2.2])] ?_
      refine zQ h (fun hb19 h => ?_) (fun hb19 h => ?_)
      ·refine zo ?_
       refine zB [(4, .bool false)] [] ?_
       refine zr ?_
       obtain rfl := Option.some.inj h
       exact zR [] [] []
      ·refine zk ?_
       refine zo ?_
       refine zS 2 [(2, .bp 2 0), (3, .bp 3 0), (66, .agg [.int .i64 s.1, .int .i64 s.2.1, .sl (.sl (.int .i64)) s.2.2.1, .sl (.sl (.int .i64)) s.2.2.2]), (67, .agg [.int .i64 t.1, .int .i64 t.2.1, .sl (.sl (.int .i64)) t.2.2.1, .sl (.sl (.int .i64)) t.2.2.2])] [(2, .box 24 [.int .i64 s.1, .int .i64 s.2.1, .sl (.sl (.int .i64)) s.2.2.1, .sl (.sl (.int .i64)) s.2.2.2]), (3, .box 24 [.int .i64 t.1, .int .i64 t.2.1, .sl (.sl (.int .i64)) t.2.2.1, .sl (.sl (.int .i64)) t.2.2.2])] ?_
       obtain ⟨v0_10, hv20, h⟩ := Option.bind_eq_some_iff.1 h
       refine zC [] [] (hc_spec_Both s t hv20) [(2, .bp 2 0), (3, .bp 3 0), (68, .tup [.agg [.int .i64 v0_10.1, .int .i64 v0_10.2.1, .own 78000, .own 78001], .int .i64 v0_10.2.2.2.2])] [(2, .box 24 [.int .i64 s.1, .int .i64 s.2.1, .sl (.sl (.int .i64)) s.2.2.1, .sl (.sl (.int .i64)) s.2.2.2]), (3, .box 24 [.int .i64 t.1, .int .i64 t.2.1, .sl (.sl (.int .i64)) t.2.2.1, .sl (.sl (.int .i64)) t.2.2.2]), (78000, .arr 25 (.sl (.int .i64)) v0_10.2.2.1), (78001, .arr 25 (.sl (.int .i64)) v0_10.2.2.2.1)] ?_
       refine zB [(2, .bp 2 0), (3, .bp 3 0), (6, .int .i64 v0_10.2.2.2.2), (13, .bp 13 0)] [(2, .box 24 [.int .i64 s.1, .int .i64 s.2.1, .sl (.sl (.int .i64)) s.2.2.1, .sl (.sl (.int .i64)) s.2.2.2]), (3, .box 24 [.int .i64 t.1, .int .i64 t.2.1, .sl (.sl (.int .i64)) t.2.2.1, .sl (.sl (.int .i64)) t.2.2.2]), (13, .box 24 [.int .i64 v0_10.1, .int .i64 v0_10.2.1, .own 78000, .own 78001]), (78000, .arr 25 (.sl (.int .i64)) v0_10.2.2.1), (78001, .arr 25 (.sl (.int .i64)) v0_10.2.2.2.1)] ?_
       refine zo ?_
       refine zS 2 [(6, .int .i64 v0_10.2.2.2.2), (13, .bp 13 0), (72, .agg [.int .i64 s.1, .int .i64 s.2.1, .sl (.sl (.int .i64)) s.2.2.1, .sl (.sl (.int .i64)) s.2.2.2]), (73, .agg [.int .i64 t.1, .int .i64 t.2.1, .sl (.sl (.int .i64)) t.2.2.1, .sl (.sl (.int .i64)) t.2.2.2])] [(13, .box 24 [.int .i64 v0_10.1, .int .i64 v0_10.2.1, .own 78000, .own 78001]), (78000, .arr 25 (.sl (.int .i64)) v0_10.2.2.1), (78001, .arr 25 (.sl (.int .i64)) v0_10.2.2.2.1)] ?_
       obtain ⟨v0_11, hv21, h⟩ := Option.bind_eq_some_iff.1 h
       refine zC [] [] (hc_linealref01_Both s t hv21) [(6, .int .i64 v0_10.2.2.2.2), (13, .bp 13 0), (74, .tup [.agg [.int .i64 v0_11.1, .int .i64 v0_11.2.1, .own 84000, .own 84001], .int .i64 v0_11.2.2.2.2])] [(13, .box 24 [.int .i64 v0_10.1, .int .i64 v0_10.2.1, .own 78000, .own 78001]), (78000, .arr 25 (.sl (.int .i64)) v0_10.2.2.1), (78001, .arr 25 (.sl (.int .i64)) v0_10.2.2.2.1), (84000, .arr 25 (.sl (.int .i64)) v0_11.2.2.1), (84001, .arr 25 (.sl (.int .i64)) v0_11.2.2.2.1)] ?_
       refine zB [(6, .int .i64 v0_10.2.2.2.2), (8, .int .i64 v0_11.2.2.2.2), (13, .bp 13 0), (14, .bp 14 0)] [(13, .box 24 [.int .i64 v0_10.1, .int .i64 v0_10.2.1, .own 78000, .own 78001]), (14, .box 24 [.int .i64 v0_11.1, .int .i64 v0_11.2.1, .own 84000, .own 84001]), (78000, .arr 25 (.sl (.int .i64)) v0_10.2.2.1), (78001, .arr 25 (.sl (.int .i64)) v0_10.2.2.2.1), (84000, .arr 25 (.sl (.int .i64)) v0_11.2.2.1), (84001, .arr 25 (.sl (.int .i64)) v0_11.2.2.2.1)] ?_
       refine zo ?_
       refine zS 2 [(6, .int .i64 v0_10.2.2.2.2), (8, .int .i64 v0_11.2.2.2.2), (77, .agg [.int .i64 v0_10.1, .int .i64 v0_10.2.1, .own 78000, .own 78001]), (78, .agg [.int .i64 v0_11.1, .int .i64 v0_11.2.1, .own 84000, .own 84001])] [(78000, .arr 25 (.sl (.int .i64)) v0_10.2.2.1), (78001, .arr 25 (.sl (.int .i64)) v0_10.2.2.2.1), (84000, .arr 25 (.sl (.int .i64)) v0_11.2.2.1), (84001, .arr 25 (.sl (.int .i64)) v0_11.2.2.2.1)] ?_
       obtain ⟨v0_12, hv22, h⟩ := Option.bind_eq_some_iff.1 h
       refine zC [78000, 78001, 84000, 84001] [] (hc_linealref01_Equal (v0_10.1, v0_10.2.1, v0_10.2.2.1, v0_10.2.2.2.1) (v0_11.1, v0_11.2.1, v0_11.2.2.1, v0_11.2.2.2.1) hv22) [(6, .int .i64 v0_10.2.2.2.2), (8, .int .i64 v0_11.2.2.2.2), (79, .bool v0_12)] [] ?_
       refine zS 1 [(6, .int .i64 v0_10.2.2.2.2), (8, .int .i64 v0_11.2.2.2.2), (80, .bool v0_12)] [] ?_
       rcases zI h with ⟨hb23, h⟩ | ⟨hb23, h⟩
       ·refine zS 5 [(85, .bool (decide (v0_10.2.2.2.2 = v0_11.2.2.2.2)))] [] ?_
        rcases zI h with ⟨hb24, h⟩ | ⟨hb24, h⟩
        ·refine zT [(85, .bool true)] [] gt ?_
         obtain ⟨v0_13, hv25, h⟩ := Option.bind_eq_some_iff.1 h
         refine zG [] [] (hc_lineallaw01_Awake hv25) [(85, .bool true), (86, .bool v0_13)] [] ?_
         refine zB [(4, .bool v0_13)] [] ?_
         refine AW.ret ?_
         obtain rfl := Option.some.inj h
         exact zR [] [] []
        ·refine zB [(4, .bool false)] [] ?_
         refine AW.ret ?_
         obtain rfl := Option.some.inj h
         exact zR [] [] []
       ·refine zS 6 [(85, .bool false), (86, .cv (undef))] [] ?_
        refine zB [(4, .bool false)] [] ?_
        refine AW.ret ?_
        obtain rfl := Option.some.inj h
        exact zR [] [] []

end Go.Proofs.Ytcgflignbhmoaaa
