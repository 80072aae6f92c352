/-
  Made by wip/tool/dc.py out of the print of the program: contracts.
-/
import Derived.Test.YtljonmpcehlpaaaRfp
import Derived.Test.YtljonmpcehlpaaaShr
import Derived.Test.YtljonmpcehlpaaaNsc3
import Derived.Test.YtljonmpcehlpaaaNsc4
import Derived.Test.YtljonmpcehlpaaaNsc5
import Derived.Test.YtljonmpcehlpaaaNsc6
import Derived.Test.YtljonmpcehlpaaaNsc7
import Derived.Test.YtljonmpcehlpaaaNsc8
namespace Go.Proofs.Ytljonmpcehlpaaa
open Go.RowKit

set_option linter.unusedSimpArgs false
set_option linter.unusedVariables false
set_option linter.constructorNameAsVariable false

set_option maxRecDepth 100000
set_option maxHeartbeats 2000000

theorem hc_lineallaw05_RefineSeen (s : Int × (List (Int × Int × Int))) (trace : List Int) {r : Bool} (h : lineallaw05_RefineSeen s trace = some r) : HC Try.prog 11 [] [.agg [.int .i64 s.1, .sl (.pair (.int .i64) (.pair (.int .i64) (.int .i64))) s.2], .sl (.int .i64) trace] [] (.bool r) := by
 unfold lineallaw05_RefineSeen at h
 refine zH Try.func11 [.tmp 4] 131 ?_
 refine zo ?_
 refine zB [(1, .sl (.int .i64) trace), (2, .bp 2 0)] [(2, .box 24 [.int .i64 s.1, .sl (.pair (.int .i64) (.pair (.int .i64) (.int .i64))) s.2])] ?_
 refine AW.seq ?_
 refine zo ?_
 refine zS 2 [(1, .sl (.int .i64) trace), (2, .bp 2 0), (19, .own 19)] [(2, .box 24 [.int .i64 s.1, .sl (.pair (.int .i64) (.pair (.int .i64) (.int .i64))) s.2]), (19, .arr 24 (.pair (.int .i64) (.sl (.pair (.int .i64) (.pair (.int .i64) (.int .i64))))) [s])] ?_
 obtain ⟨v0, hv1, h⟩ := Option.bind_eq_some_iff.1 h
 refine zC [19] [] (hc_lineallaw05_valid [s] hv1) [(1, .sl (.int .i64) trace), (2, .bp 2 0), (20, .bool v0)] [(2, .box 24 [.int .i64 s.1, .sl (.pair (.int .i64) (.pair (.int .i64) (.int .i64))) s.2])] ?_
 refine zS 2 [(1, .sl (.int .i64) trace), (2, .bp 2 0), (22, .bool (!v0))] [(2, .box 24 [.int .i64 s.1, .sl (.pair (.int .i64) (.pair (.int .i64) (.int .i64))) s.2])] ?_
 rcases zI h with ⟨hb2, h⟩ | ⟨hb2, h⟩
 ·refine zB [(1, .sl (.int .i64) trace), (2, .bp 2 0), (26, .bool true)] [(2, .box 24 [.int .i64 s.1, .sl (.pair (.int .i64) (.pair (.int .i64) (.int .i64))) s.2])] ?_
  refine AW.cond (b := true) rfl (fun _ => ?_) (fun hb3 => by cases hb3)
  refine zo ?_
  obtain ⟨v0_2, hv4, h⟩ := Option.bind_eq_some_iff.1 h
  refine zC [] [] (hc_lineallaw05_Awake hv4) [(27, .bool v0_2)] [] ?_
  refine zB [(4, .bool v0_2)] [] ?_
  refine zr ?_
  obtain rfl := Option.some.inj h
  exact zR [] [] []
 ·refine zB [(1, .sl (.int .i64) trace), (2, .bp 2 0), (26, .bool (decide (100 < (trace.length : Int))))] [(2, .box 24 [.int .i64 s.1, .sl (.pair (.int .i64) (.pair (.int .i64) (.int .i64))) s.2])] ?_
  refine zQ h (fun hb5 h => ?_) (fun hb5 h => ?_)
  ·refine zo ?_
   obtain ⟨v0_3, hv6, h⟩ := Option.bind_eq_some_iff.1 h
   refine zC [] [] (hc_lineallaw05_Awake hv6) [(27, .bool v0_3)] [] ?_
   refine zB [(4, .bool v0_3)] [] ?_
   refine zr ?_
   obtain rfl := Option.some.inj h
   exact zR [] [] []
  ·refine zk ?_
   refine zo ?_
   refine zS 1 [(1, .sl (.int .i64) trace), (2, .bp 2 0), (29, .agg [.int .i64 s.1, .sl (.pair (.int .i64) (.pair (.int .i64) (.int .i64))) s.2])] [(2, .box 24 [.int .i64 s.1, .sl (.pair (.int .i64) (.pair (.int .i64) (.int .i64))) s.2])] ?_
   obtain ⟨v0_4, hv7, h⟩ := Option.bind_eq_some_iff.1 h
   refine zC [] [] (hc_refine_Seen s hv7) [(1, .sl (.int .i64) trace), (2, .bp 2 0), (30, .tup [.agg [.int .i64 v0_4.1, .own 40000], .int .i64 v0_4.2.2])] [(2, .box 24 [.int .i64 s.1, .sl (.pair (.int .i64) (.pair (.int .i64) (.int .i64))) s.2]), (40000, .arr 66 (.pair (.int .i64) (.pair (.int .i64) (.int .i64))) v0_4.2.1)] ?_
   refine zS 5 [(1, .sl (.int .i64) trace), (2, .bp 2 0), (5, .bp 5 0), (32, .int .i64 v0_4.2.2)] [(2, .box 24 [.int .i64 s.1, .sl (.pair (.int .i64) (.pair (.int .i64) (.int .i64))) s.2]), (5, .box 24 [.int .i64 v0_4.1, .own 40000]), (40000, .arr 66 (.pair (.int .i64) (.pair (.int .i64) (.int .i64))) v0_4.2.1)] ?_
   refine zB [(1, .sl (.int .i64) trace), (2, .bp 2 0), (5, .bp 5 0), (6, .int .i64 v0_4.2.2)] [(2, .box 24 [.int .i64 s.1, .sl (.pair (.int .i64) (.pair (.int .i64) (.int .i64))) s.2]), (5, .box 24 [.int .i64 v0_4.1, .own 40000]), (40000, .arr 66 (.pair (.int .i64) (.pair (.int .i64) (.int .i64))) v0_4.2.1)] ?_
   refine AW.seq ?_
   refine zo ?_
   refine zB [(1, .sl (.int .i64) trace), (2, .bp 2 0), (5, .bp 5 0), (6, .int .i64 v0_4.2.2), (34, .bool (!(decide (v0_4.2.2 = 0))))] [(2, .box 24 [.int .i64 s.1, .sl (.pair (.int .i64) (.pair (.int .i64) (.int .i64))) s.2]), (5, .box 24 [.int .i64 v0_4.1, .own 40000]), (40000, .arr 66 (.pair (.int .i64) (.pair (.int .i64) (.int .i64))) v0_4.2.1)] ?_
   refine zQ h (fun hb8 h => ?_) (fun hb8 h => ?_)
   ·refine zo ?_
    refine zS 3 [(5, .bp 5 0), (37, .bool (decide (v0_4.2.2 = 4)))] [(5, .box 24 [.int .i64 v0_4.1, .own 40000]), (40000, .arr 66 (.pair (.int .i64) (.pair (.int .i64) (.int .i64))) v0_4.2.1)] ?_
    rcases zI h with ⟨hb9, h⟩ | ⟨hb9, h⟩
    ·refine zS 5 [(42, .bool (decide (v0_4.1 = 0)))] [] ?_
     rcases zI h with ⟨hb10, h⟩ | ⟨hb10, h⟩
     ·refine zT [(42, .bool true)] [] gt ?_
      obtain ⟨v0_5, hv11, h⟩ := Option.bind_eq_some_iff.1 h
      refine zG [] [] (hc_lineallaw05_Awake hv11) [(42, .bool true), (43, .bool v0_5)] [] ?_
      refine zB [(4, .bool v0_5)] [] ?_
      refine zr ?_
      obtain rfl := Option.some.inj h
      exact zR [] [] []
     ·refine zB [(4, .bool false)] [] ?_
      refine zr ?_
      obtain rfl := Option.some.inj h
      exact zR [] [] []
    ·refine zS 5 [(42, .bool false)] [] ?_
     refine zB [(4, .bool false)] [] ?_
     refine zr ?_
     obtain rfl := Option.some.inj h
     exact zR [] [] []
   ·refine zk ?_
    refine AW.seq ?_
    refine zo ?_
    refine zS 1 [(1, .sl (.int .i64) trace), (2, .bp 2 0), (5, .bp 5 0), (45, .agg [.int .i64 v0_4.1, .own 40000])] [(2, .box 24 [.int .i64 s.1, .sl (.pair (.int .i64) (.pair (.int .i64) (.int .i64))) s.2]), (5, .box 24 [.int .i64 v0_4.1, .own 40000]), (40000, .arr 66 (.pair (.int .i64) (.pair (.int .i64) (.int .i64))) v0_4.2.1)] ?_
    obtain ⟨v0_6, hv12, h⟩ := Option.bind_eq_some_iff.1 h
    refine zC [40000] [] (hc_linealref05_Valid (v0_4.1, v0_4.2.1) hv12) [(1, .sl (.int .i64) trace), (2, .bp 2 0), (5, .bp 5 0), (46, .bool v0_6)] [(2, .box 24 [.int .i64 s.1, .sl (.pair (.int .i64) (.pair (.int .i64) (.int .i64))) s.2]), (5, .box 24 [.int .i64 v0_4.1, .own 40000]), (40000, .arr 66 (.pair (.int .i64) (.pair (.int .i64) (.int .i64))) v0_4.2.1)] ?_
    refine zB [(1, .sl (.int .i64) trace), (2, .bp 2 0), (5, .bp 5 0), (47, .bool (!v0_6))] [(2, .box 24 [.int .i64 s.1, .sl (.pair (.int .i64) (.pair (.int .i64) (.int .i64))) s.2]), (5, .box 24 [.int .i64 v0_4.1, .own 40000]), (40000, .arr 66 (.pair (.int .i64) (.pair (.int .i64) (.int .i64))) v0_4.2.1)] ?_
    refine zQ h (fun hb13 h => ?_) (fun hb13 h => ?_)
    ·refine zo ?_
     refine zB [(4, .bool false)] [] ?_
     refine zr ?_
     obtain rfl := Option.some.inj h
     exact zR [] [] []
    ·refine zk ?_
     refine zo ?_
     refine zS 1 [(1, .sl (.int .i64) trace), (2, .bp 2 0), (5, .bp 5 0), (49, .agg [.int .i64 v0_4.1, .own 40000])] [(2, .box 24 [.int .i64 s.1, .sl (.pair (.int .i64) (.pair (.int .i64) (.int .i64))) s.2]), (5, .box 24 [.int .i64 v0_4.1, .own 40000]), (40000, .arr 66 (.pair (.int .i64) (.pair (.int .i64) (.int .i64))) v0_4.2.1)] ?_
     obtain ⟨v0_7, hv14, h⟩ := Option.bind_eq_some_iff.1 h
     refine zC [40000] [] (hc_refine_Plain (v0_4.1, v0_4.2.1) hv14) [(1, .sl (.int .i64) trace), (2, .bp 2 0), (5, .bp 5 0), (50, .tup [.bool v0_7.1, .int .i64 v0_7.2])] [(2, .box 24 [.int .i64 s.1, .sl (.pair (.int .i64) (.pair (.int .i64) (.int .i64))) s.2]), (5, .box 24 [.int .i64 v0_4.1, .own 40000]), (40000, .arr 66 (.pair (.int .i64) (.pair (.int .i64) (.int .i64))) v0_4.2.1)] ?_
     refine zB [(1, .sl (.int .i64) trace), (2, .bp 2 0), (5, .bp 5 0), (6, .int .i64 v0_7.2), (7, .bool v0_7.1)] [(2, .box 24 [.int .i64 s.1, .sl (.pair (.int .i64) (.pair (.int .i64) (.int .i64))) s.2]), (5, .box 24 [.int .i64 v0_4.1, .own 40000]), (40000, .arr 66 (.pair (.int .i64) (.pair (.int .i64) (.int .i64))) v0_4.2.1)] ?_
     refine zo ?_
     refine zS 2 [(1, .sl (.int .i64) trace), (2, .bp 2 0), (5, .bp 5 0), (6, .int .i64 v0_7.2), (7, .bool v0_7.1), (54, .agg [.int .i64 s.1, .sl (.pair (.int .i64) (.pair (.int .i64) (.int .i64))) s.2]), (55, .agg [.int .i64 v0_4.1, .own 40000])] [(2, .box 24 [.int .i64 s.1, .sl (.pair (.int .i64) (.pair (.int .i64) (.int .i64))) s.2]), (5, .box 24 [.int .i64 v0_4.1, .own 40000]), (40000, .arr 66 (.pair (.int .i64) (.pair (.int .i64) (.int .i64))) v0_4.2.1)] ?_
     obtain ⟨v0_8, hv15, h⟩ := Option.bind_eq_some_iff.1 h
     refine zC [40000] [] (hc_refine_Refines s (v0_4.1, v0_4.2.1) hv15) [(1, .sl (.int .i64) trace), (2, .bp 2 0), (5, .bp 5 0), (6, .int .i64 v0_7.2), (7, .bool v0_7.1), (56, .tup [.bool v0_8.1, .int .i64 v0_8.2])] [(2, .box 24 [.int .i64 s.1, .sl (.pair (.int .i64) (.pair (.int .i64) (.int .i64))) s.2]), (5, .box 24 [.int .i64 v0_4.1, .own 40000]), (40000, .arr 66 (.pair (.int .i64) (.pair (.int .i64) (.int .i64))) v0_4.2.1)] ?_
     refine zB [(1, .sl (.int .i64) trace), (2, .bp 2 0), (5, .bp 5 0), (6, .int .i64 v0_7.2), (7, .bool v0_7.1), (8, .bool v0_8.1), (9, .int .i64 v0_8.2)] [(2, .box 24 [.int .i64 s.1, .sl (.pair (.int .i64) (.pair (.int .i64) (.int .i64))) s.2]), (5, .box 24 [.int .i64 v0_4.1, .own 40000]), (40000, .arr 66 (.pair (.int .i64) (.pair (.int .i64) (.int .i64))) v0_4.2.1)] ?_
     refine zo ?_
     refine zS 1 [(1, .sl (.int .i64) trace), (2, .bp 2 0), (5, .bp 5 0), (6, .int .i64 v0_7.2), (7, .bool v0_7.1), (8, .bool v0_8.1), (9, .int .i64 v0_8.2), (60, .agg [.int .i64 v0_4.1, .own 40000])] [(2, .box 24 [.int .i64 s.1, .sl (.pair (.int .i64) (.pair (.int .i64) (.int .i64))) s.2]), (5, .box 24 [.int .i64 v0_4.1, .own 40000]), (40000, .arr 66 (.pair (.int .i64) (.pair (.int .i64) (.int .i64))) v0_4.2.1)] ?_
     obtain ⟨v0_9, hv16, h⟩ := Option.bind_eq_some_iff.1 h
     refine zC [40000] [] (hc_refine_Seen (v0_4.1, v0_4.2.1) hv16) [(1, .sl (.int .i64) trace), (2, .bp 2 0), (5, .bp 5 0), (6, .int .i64 v0_7.2), (7, .bool v0_7.1), (8, .bool v0_8.1), (9, .int .i64 v0_8.2), (61, .tup [.agg [.int .i64 v0_9.1, .own 71000], .int .i64 v0_9.2.2])] [(2, .box 24 [.int .i64 s.1, .sl (.pair (.int .i64) (.pair (.int .i64) (.int .i64))) s.2]), (5, .box 24 [.int .i64 v0_4.1, .own 40000]), (40000, .arr 66 (.pair (.int .i64) (.pair (.int .i64) (.int .i64))) v0_4.2.1), (71000, .arr 66 (.pair (.int .i64) (.pair (.int .i64) (.int .i64))) v0_9.2.1)] ?_
     refine zS 5 [(1, .sl (.int .i64) trace), (2, .bp 2 0), (5, .bp 5 0), (6, .int .i64 v0_7.2), (7, .bool v0_7.1), (8, .bool v0_8.1), (9, .int .i64 v0_8.2), (10, .bp 10 0), (63, .int .i64 v0_9.2.2)] [(2, .box 24 [.int .i64 s.1, .sl (.pair (.int .i64) (.pair (.int .i64) (.int .i64))) s.2]), (5, .box 24 [.int .i64 v0_4.1, .own 40000]), (10, .box 24 [.int .i64 v0_9.1, .own 71000]), (40000, .arr 66 (.pair (.int .i64) (.pair (.int .i64) (.int .i64))) v0_4.2.1), (71000, .arr 66 (.pair (.int .i64) (.pair (.int .i64) (.int .i64))) v0_9.2.1)] ?_
     refine zB [(1, .sl (.int .i64) trace), (2, .bp 2 0), (5, .bp 5 0), (6, .int .i64 v0_7.2), (7, .bool v0_7.1), (8, .bool v0_8.1), (9, .int .i64 v0_8.2), (10, .bp 10 0), (11, .int .i64 v0_9.2.2)] [(2, .box 24 [.int .i64 s.1, .sl (.pair (.int .i64) (.pair (.int .i64) (.int .i64))) s.2]), (5, .box 24 [.int .i64 v0_4.1, .own 40000]), (10, .box 24 [.int .i64 v0_9.1, .own 71000]), (40000, .arr 66 (.pair (.int .i64) (.pair (.int .i64) (.int .i64))) v0_4.2.1), (71000, .arr 66 (.pair (.int .i64) (.pair (.int .i64) (.int .i64))) v0_9.2.1)] ?_
     refine zo ?_
     refine zS 2 [(1, .sl (.int .i64) trace), (2, .bp 2 0), (5, .bp 5 0), (6, .int .i64 v0_7.2), (7, .bool v0_7.1), (8, .bool v0_8.1), (9, .int .i64 v0_8.2), (10, .bp 10 0), (11, .int .i64 v0_9.2.2), (65, .agg [.int .i64 s.1, .sl (.pair (.int .i64) (.pair (.int .i64) (.int .i64))) s.2]), (66, .agg [.int .i64 v0_4.1, .own 40000])] [(2, .box 24 [.int .i64 s.1, .sl (.pair (.int .i64) (.pair (.int .i64) (.int .i64))) s.2]), (5, .box 24 [.int .i64 v0_4.1, .own 40000]), (10, .box 24 [.int .i64 v0_9.1, .own 71000]), (40000, .arr 66 (.pair (.int .i64) (.pair (.int .i64) (.int .i64))) v0_4.2.1), (71000, .arr 66 (.pair (.int .i64) (.pair (.int .i64) (.int .i64))) v0_9.2.1)] ?_
     obtain ⟨v0_10, hv17, h⟩ := Option.bind_eq_some_iff.1 h
     refine zC [40000] [] (hc_refine_Shows s (v0_4.1, v0_4.2.1) hv17) [(1, .sl (.int .i64) trace), (2, .bp 2 0), (5, .bp 5 0), (6, .int .i64 v0_7.2), (7, .bool v0_7.1), (8, .bool v0_8.1), (9, .int .i64 v0_8.2), (10, .bp 10 0), (11, .int .i64 v0_9.2.2), (67, .tup [.own 77000, .int .i64 v0_10.2])] [(2, .box 24 [.int .i64 s.1, .sl (.pair (.int .i64) (.pair (.int .i64) (.int .i64))) s.2]), (5, .box 24 [.int .i64 v0_4.1, .own 40000]), (10, .box 24 [.int .i64 v0_9.1, .own 71000]), (40000, .arr 66 (.pair (.int .i64) (.pair (.int .i64) (.int .i64))) v0_4.2.1), (71000, .arr 66 (.pair (.int .i64) (.pair (.int .i64) (.int .i64))) v0_9.2.1), (77000, .arr 3 (.int .i64) v0_10.1)] ?_
     refine zB [(1, .sl (.int .i64) trace), (2, .bp 2 0), (5, .bp 5 0), (6, .int .i64 v0_7.2), (7, .bool v0_7.1), (8, .bool v0_8.1), (9, .int .i64 v0_8.2), (10, .bp 10 0), (11, .int .i64 v0_9.2.2), (13, .int .i64 v0_10.2)] [(2, .box 24 [.int .i64 s.1, .sl (.pair (.int .i64) (.pair (.int .i64) (.int .i64))) s.2]), (5, .box 24 [.int .i64 v0_4.1, .own 40000]), (10, .box 24 [.int .i64 v0_9.1, .own 71000]), (40000, .arr 66 (.pair (.int .i64) (.pair (.int .i64) (.int .i64))) v0_4.2.1), (71000, .arr 66 (.pair (.int .i64) (.pair (.int .i64) (.int .i64))) v0_9.2.1)] ?_
     refine zo ?_
     refine zS 2 [(1, .sl (.int .i64) trace), (2, .bp 2 0), (5, .bp 5 0), (6, .int .i64 v0_7.2), (7, .bool v0_7.1), (8, .bool v0_8.1), (9, .int .i64 v0_8.2), (10, .bp 10 0), (11, .int .i64 v0_9.2.2), (13, .int .i64 v0_10.2), (71, .agg [.int .i64 v0_4.1, .own 40000]), (72, .agg [.int .i64 s.1, .sl (.pair (.int .i64) (.pair (.int .i64) (.int .i64))) s.2])] [(2, .box 24 [.int .i64 s.1, .sl (.pair (.int .i64) (.pair (.int .i64) (.int .i64))) s.2]), (5, .box 24 [.int .i64 v0_4.1, .own 40000]), (10, .box 24 [.int .i64 v0_9.1, .own 71000]), (40000, .arr 66 (.pair (.int .i64) (.pair (.int .i64) (.int .i64))) v0_4.2.1), (71000, .arr 66 (.pair (.int .i64) (.pair (.int .i64) (.int .i64))) v0_9.2.1)] ?_
     obtain ⟨v0_11, hv18, h⟩ := Option.bind_eq_some_iff.1 h
     refine zC [40000] [] (hc_refine_Shows (v0_4.1, v0_4.2.1) s hv18) [(1, .sl (.int .i64) trace), (2, .bp 2 0), (5, .bp 5 0), (6, .int .i64 v0_7.2), (7, .bool v0_7.1), (8, .bool v0_8.1), (9, .int .i64 v0_8.2), (10, .bp 10 0), (11, .int .i64 v0_9.2.2), (13, .int .i64 v0_10.2), (73, .tup [.own 83000, .int .i64 v0_11.2])] [(2, .box 24 [.int .i64 s.1, .sl (.pair (.int .i64) (.pair (.int .i64) (.int .i64))) s.2]), (5, .box 24 [.int .i64 v0_4.1, .own 40000]), (10, .box 24 [.int .i64 v0_9.1, .own 71000]), (40000, .arr 66 (.pair (.int .i64) (.pair (.int .i64) (.int .i64))) v0_4.2.1), (71000, .arr 66 (.pair (.int .i64) (.pair (.int .i64) (.int .i64))) v0_9.2.1), (83000, .arr 3 (.int .i64) v0_11.1)] ?_
     refine zB [(1, .sl (.int .i64) trace), (2, .bp 2 0), (5, .bp 5 0), (6, .int .i64 v0_7.2), (7, .bool v0_7.1), (8, .bool v0_8.1), (9, .int .i64 v0_8.2), (10, .bp 10 0), (11, .int .i64 v0_9.2.2), (13, .int .i64 v0_10.2), (15, .int .i64 v0_11.2)] [(2, .box 24 [.int .i64 s.1, .sl (.pair (.int .i64) (.pair (.int .i64) (.int .i64))) s.2]), (5, .box 24 [.int .i64 v0_4.1, .own 40000]), (10, .box 24 [.int .i64 v0_9.1, .own 71000]), (40000, .arr 66 (.pair (.int .i64) (.pair (.int .i64) (.int .i64))) v0_4.2.1), (71000, .arr 66 (.pair (.int .i64) (.pair (.int .i64) (.int .i64))) v0_9.2.1)] ?_
     refine AW.seq ?_
     refine zo ?_
     refine zS 3 [(1, .sl (.int .i64) trace), (2, .bp 2 0), (5, .bp 5 0), (7, .bool v0_7.1), (8, .bool v0_8.1), (9, .int .i64 v0_8.2), (10, .bp 10 0), (11, .int .i64 v0_9.2.2), (13, .int .i64 v0_10.2), (15, .int .i64 v0_11.2), (78, .bool (!(decide (v0_7.2 = 0))))] [(2, .box 24 [.int .i64 s.1, .sl (.pair (.int .i64) (.pair (.int .i64) (.int .i64))) s.2]), (5, .box 24 [.int .i64 v0_4.1, .own 40000]), (10, .box 24 [.int .i64 v0_9.1, .own 71000]), (40000, .arr 66 (.pair (.int .i64) (.pair (.int .i64) (.int .i64))) v0_4.2.1), (71000, .arr 66 (.pair (.int .i64) (.pair (.int .i64) (.int .i64))) v0_9.2.1)] ?_
     rcases zI h with ⟨hb19, h⟩ | ⟨hb19, h⟩
     ·refine zS 5 [(1, .sl (.int .i64) trace), (2, .bp 2 0), (5, .bp 5 0), (7, .bool v0_7.1), (8, .bool v0_8.1), (10, .bp 10 0), (13, .int .i64 v0_10.2), (15, .int .i64 v0_11.2), (82, .bool true), (83, .cv (undef))] [(2, .box 24 [.int .i64 s.1, .sl (.pair (.int .i64) (.pair (.int .i64) (.int .i64))) s.2]), (5, .box 24 [.int .i64 v0_4.1, .own 40000]), (10, .box 24 [.int .i64 v0_9.1, .own 71000]), (40000, .arr 66 (.pair (.int .i64) (.pair (.int .i64) (.int .i64))) v0_4.2.1), (71000, .arr 66 (.pair (.int .i64) (.pair (.int .i64) (.int .i64))) v0_9.2.1)] ?_
      refine zS 5 [(1, .sl (.int .i64) trace), (2, .bp 2 0), (5, .bp 5 0), (7, .bool v0_7.1), (8, .bool v0_8.1), (10, .bp 10 0), (15, .int .i64 v0_11.2), (86, .bool true), (88, .cv (undef))] [(2, .box 24 [.int .i64 s.1, .sl (.pair (.int .i64) (.pair (.int .i64) (.int .i64))) s.2]), (5, .box 24 [.int .i64 v0_4.1, .own 40000]), (10, .box 24 [.int .i64 v0_9.1, .own 71000]), (40000, .arr 66 (.pair (.int .i64) (.pair (.int .i64) (.int .i64))) v0_4.2.1), (71000, .arr 66 (.pair (.int .i64) (.pair (.int .i64) (.int .i64))) v0_9.2.1)] ?_
      refine zS 5 [(1, .sl (.int .i64) trace), (2, .bp 2 0), (5, .bp 5 0), (7, .bool v0_7.1), (8, .bool v0_8.1), (10, .bp 10 0), (93, .bool true)] [(2, .box 24 [.int .i64 s.1, .sl (.pair (.int .i64) (.pair (.int .i64) (.int .i64))) s.2]), (5, .box 24 [.int .i64 v0_4.1, .own 40000]), (10, .box 24 [.int .i64 v0_9.1, .own 71000]), (40000, .arr 66 (.pair (.int .i64) (.pair (.int .i64) (.int .i64))) v0_4.2.1), (71000, .arr 66 (.pair (.int .i64) (.pair (.int .i64) (.int .i64))) v0_9.2.1)] ?_
      refine zS 5 [(1, .sl (.int .i64) trace), (2, .bp 2 0), (5, .bp 5 0), (8, .bool v0_8.1), (10, .bp 10 0), (98, .bool true)] [(2, .box 24 [.int .i64 s.1, .sl (.pair (.int .i64) (.pair (.int .i64) (.int .i64))) s.2]), (5, .box 24 [.int .i64 v0_4.1, .own 40000]), (10, .box 24 [.int .i64 v0_9.1, .own 71000]), (40000, .arr 66 (.pair (.int .i64) (.pair (.int .i64) (.int .i64))) v0_4.2.1), (71000, .arr 66 (.pair (.int .i64) (.pair (.int .i64) (.int .i64))) v0_9.2.1)] ?_
      refine zS 5 [(1, .sl (.int .i64) trace), (2, .bp 2 0), (5, .bp 5 0), (102, .bool true), (103, .cv (undef))] [(2, .box 24 [.int .i64 s.1, .sl (.pair (.int .i64) (.pair (.int .i64) (.int .i64))) s.2]), (5, .box 24 [.int .i64 v0_4.1, .own 40000]), (40000, .arr 66 (.pair (.int .i64) (.pair (.int .i64) (.int .i64))) v0_4.2.1)] ?_
      refine zB [(1, .sl (.int .i64) trace), (2, .bp 2 0), (5, .bp 5 0), (107, .bool true)] [(2, .box 24 [.int .i64 s.1, .sl (.pair (.int .i64) (.pair (.int .i64) (.int .i64))) s.2]), (5, .box 24 [.int .i64 v0_4.1, .own 40000]), (40000, .arr 66 (.pair (.int .i64) (.pair (.int .i64) (.int .i64))) v0_4.2.1)] ?_
      refine AW.cond (b := true) rfl (fun _ => ?_) (fun hb20 => by cases hb20)
      refine zo ?_
      refine zB [(4, .bool false)] [] ?_
      refine zr ?_
      obtain rfl := Option.some.inj h
      exact zR [] [] []
     ·refine zS 4 [(1, .sl (.int .i64) trace), (2, .bp 2 0), (5, .bp 5 0), (7, .bool v0_7.1), (8, .bool v0_8.1), (10, .bp 10 0), (11, .int .i64 v0_9.2.2), (13, .int .i64 v0_10.2), (15, .int .i64 v0_11.2), (82, .bool (!(decide (v0_8.2 = 0))))] [(2, .box 24 [.int .i64 s.1, .sl (.pair (.int .i64) (.pair (.int .i64) (.int .i64))) s.2]), (5, .box 24 [.int .i64 v0_4.1, .own 40000]), (10, .box 24 [.int .i64 v0_9.1, .own 71000]), (40000, .arr 66 (.pair (.int .i64) (.pair (.int .i64) (.int .i64))) v0_4.2.1), (71000, .arr 66 (.pair (.int .i64) (.pair (.int .i64) (.int .i64))) v0_9.2.1)] ?_
      rcases zI h with ⟨hb21, h⟩ | ⟨hb21, h⟩
      ·refine zS 5 [(1, .sl (.int .i64) trace), (2, .bp 2 0), (5, .bp 5 0), (7, .bool v0_7.1), (8, .bool v0_8.1), (10, .bp 10 0), (15, .int .i64 v0_11.2), (86, .bool true), (87, .cv (undef))] [(2, .box 24 [.int .i64 s.1, .sl (.pair (.int .i64) (.pair (.int .i64) (.int .i64))) s.2]), (5, .box 24 [.int .i64 v0_4.1, .own 40000]), (10, .box 24 [.int .i64 v0_9.1, .own 71000]), (40000, .arr 66 (.pair (.int .i64) (.pair (.int .i64) (.int .i64))) v0_4.2.1), (71000, .arr 66 (.pair (.int .i64) (.pair (.int .i64) (.int .i64))) v0_9.2.1)] ?_
       refine zS 5 [(1, .sl (.int .i64) trace), (2, .bp 2 0), (5, .bp 5 0), (7, .bool v0_7.1), (8, .bool v0_8.1), (10, .bp 10 0), (90, .bool true), (92, .cv (undef))] [(2, .box 24 [.int .i64 s.1, .sl (.pair (.int .i64) (.pair (.int .i64) (.int .i64))) s.2]), (5, .box 24 [.int .i64 v0_4.1, .own 40000]), (10, .box 24 [.int .i64 v0_9.1, .own 71000]), (40000, .arr 66 (.pair (.int .i64) (.pair (.int .i64) (.int .i64))) v0_4.2.1), (71000, .arr 66 (.pair (.int .i64) (.pair (.int .i64) (.int .i64))) v0_9.2.1)] ?_
       refine zS 5 [(1, .sl (.int .i64) trace), (2, .bp 2 0), (5, .bp 5 0), (8, .bool v0_8.1), (10, .bp 10 0), (97, .bool true)] [(2, .box 24 [.int .i64 s.1, .sl (.pair (.int .i64) (.pair (.int .i64) (.int .i64))) s.2]), (5, .box 24 [.int .i64 v0_4.1, .own 40000]), (10, .box 24 [.int .i64 v0_9.1, .own 71000]), (40000, .arr 66 (.pair (.int .i64) (.pair (.int .i64) (.int .i64))) v0_4.2.1), (71000, .arr 66 (.pair (.int .i64) (.pair (.int .i64) (.int .i64))) v0_9.2.1)] ?_
       refine zS 5 [(1, .sl (.int .i64) trace), (2, .bp 2 0), (5, .bp 5 0), (10, .bp 10 0), (102, .bool true)] [(2, .box 24 [.int .i64 s.1, .sl (.pair (.int .i64) (.pair (.int .i64) (.int .i64))) s.2]), (5, .box 24 [.int .i64 v0_4.1, .own 40000]), (10, .box 24 [.int .i64 v0_9.1, .own 71000]), (40000, .arr 66 (.pair (.int .i64) (.pair (.int .i64) (.int .i64))) v0_4.2.1), (71000, .arr 66 (.pair (.int .i64) (.pair (.int .i64) (.int .i64))) v0_9.2.1)] ?_
       refine zS 4 [(1, .sl (.int .i64) trace), (2, .bp 2 0), (5, .bp 5 0), (102, .bool true), (106, .cv (undef))] [(2, .box 24 [.int .i64 s.1, .sl (.pair (.int .i64) (.pair (.int .i64) (.int .i64))) s.2]), (5, .box 24 [.int .i64 v0_4.1, .own 40000]), (40000, .arr 66 (.pair (.int .i64) (.pair (.int .i64) (.int .i64))) v0_4.2.1)] ?_
       refine zB [(1, .sl (.int .i64) trace), (2, .bp 2 0), (5, .bp 5 0), (107, .bool true)] [(2, .box 24 [.int .i64 s.1, .sl (.pair (.int .i64) (.pair (.int .i64) (.int .i64))) s.2]), (5, .box 24 [.int .i64 v0_4.1, .own 40000]), (40000, .arr 66 (.pair (.int .i64) (.pair (.int .i64) (.int .i64))) v0_4.2.1)] ?_
       refine AW.cond (b := true) rfl (fun _ => ?_) (fun hb22 => by cases hb22)
       refine zo ?_
       refine zB [(4, .bool false)] [] ?_
       refine zr ?_
       obtain rfl := Option.some.inj h
       exact zR [] [] []
      ·refine zS 4 [(1, .sl (.int .i64) trace), (2, .bp 2 0), (5, .bp 5 0), (7, .bool v0_7.1), (8, .bool v0_8.1), (10, .bp 10 0), (13, .int .i64 v0_10.2), (15, .int .i64 v0_11.2), (86, .bool (!(decide (v0_9.2.2 = 0))))] [(2, .box 24 [.int .i64 s.1, .sl (.pair (.int .i64) (.pair (.int .i64) (.int .i64))) s.2]), (5, .box 24 [.int .i64 v0_4.1, .own 40000]), (10, .box 24 [.int .i64 v0_9.1, .own 71000]), (40000, .arr 66 (.pair (.int .i64) (.pair (.int .i64) (.int .i64))) v0_4.2.1), (71000, .arr 66 (.pair (.int .i64) (.pair (.int .i64) (.int .i64))) v0_9.2.1)] ?_
       rcases zI h with ⟨hb23, h⟩ | ⟨hb23, h⟩
       ·refine zS 5 [(1, .sl (.int .i64) trace), (2, .bp 2 0), (5, .bp 5 0), (7, .bool v0_7.1), (8, .bool v0_8.1), (10, .bp 10 0), (90, .bool true), (91, .cv (undef))] [(2, .box 24 [.int .i64 s.1, .sl (.pair (.int .i64) (.pair (.int .i64) (.int .i64))) s.2]), (5, .box 24 [.int .i64 v0_4.1, .own 40000]), (10, .box 24 [.int .i64 v0_9.1, .own 71000]), (40000, .arr 66 (.pair (.int .i64) (.pair (.int .i64) (.int .i64))) v0_4.2.1), (71000, .arr 66 (.pair (.int .i64) (.pair (.int .i64) (.int .i64))) v0_9.2.1)] ?_
        refine zS 5 [(1, .sl (.int .i64) trace), (2, .bp 2 0), (5, .bp 5 0), (8, .bool v0_8.1), (10, .bp 10 0), (94, .bool true), (96, .cv (undef))] [(2, .box 24 [.int .i64 s.1, .sl (.pair (.int .i64) (.pair (.int .i64) (.int .i64))) s.2]), (5, .box 24 [.int .i64 v0_4.1, .own 40000]), (10, .box 24 [.int .i64 v0_9.1, .own 71000]), (40000, .arr 66 (.pair (.int .i64) (.pair (.int .i64) (.int .i64))) v0_4.2.1), (71000, .arr 66 (.pair (.int .i64) (.pair (.int .i64) (.int .i64))) v0_9.2.1)] ?_
        refine zS 5 [(1, .sl (.int .i64) trace), (2, .bp 2 0), (5, .bp 5 0), (10, .bp 10 0), (101, .bool true)] [(2, .box 24 [.int .i64 s.1, .sl (.pair (.int .i64) (.pair (.int .i64) (.int .i64))) s.2]), (5, .box 24 [.int .i64 v0_4.1, .own 40000]), (10, .box 24 [.int .i64 v0_9.1, .own 71000]), (40000, .arr 66 (.pair (.int .i64) (.pair (.int .i64) (.int .i64))) v0_4.2.1), (71000, .arr 66 (.pair (.int .i64) (.pair (.int .i64) (.int .i64))) v0_9.2.1)] ?_
        refine zS 5 [(1, .sl (.int .i64) trace), (2, .bp 2 0), (5, .bp 5 0), (102, .bool true), (106, .cv (undef))] [(2, .box 24 [.int .i64 s.1, .sl (.pair (.int .i64) (.pair (.int .i64) (.int .i64))) s.2]), (5, .box 24 [.int .i64 v0_4.1, .own 40000]), (40000, .arr 66 (.pair (.int .i64) (.pair (.int .i64) (.int .i64))) v0_4.2.1)] ?_
        refine zB [(1, .sl (.int .i64) trace), (2, .bp 2 0), (5, .bp 5 0), (107, .bool true)] [(2, .box 24 [.int .i64 s.1, .sl (.pair (.int .i64) (.pair (.int .i64) (.int .i64))) s.2]), (5, .box 24 [.int .i64 v0_4.1, .own 40000]), (40000, .arr 66 (.pair (.int .i64) (.pair (.int .i64) (.int .i64))) v0_4.2.1)] ?_
        refine AW.cond (b := true) rfl (fun _ => ?_) (fun hb24 => by cases hb24)
        refine zo ?_
        refine zB [(4, .bool false)] [] ?_
        refine zr ?_
        obtain rfl := Option.some.inj h
        exact zR [] [] []
       ·refine zS 4 [(1, .sl (.int .i64) trace), (2, .bp 2 0), (5, .bp 5 0), (7, .bool v0_7.1), (8, .bool v0_8.1), (10, .bp 10 0), (15, .int .i64 v0_11.2), (90, .bool (!(decide (v0_10.2 = 5))))] [(2, .box 24 [.int .i64 s.1, .sl (.pair (.int .i64) (.pair (.int .i64) (.int .i64))) s.2]), (5, .box 24 [.int .i64 v0_4.1, .own 40000]), (10, .box 24 [.int .i64 v0_9.1, .own 71000]), (40000, .arr 66 (.pair (.int .i64) (.pair (.int .i64) (.int .i64))) v0_4.2.1), (71000, .arr 66 (.pair (.int .i64) (.pair (.int .i64) (.int .i64))) v0_9.2.1)] ?_
        rcases zI h with ⟨hb25, h⟩ | ⟨hb25, h⟩
        ·refine zS 5 [(1, .sl (.int .i64) trace), (2, .bp 2 0), (5, .bp 5 0), (8, .bool v0_8.1), (10, .bp 10 0), (94, .bool true), (95, .cv (undef))] [(2, .box 24 [.int .i64 s.1, .sl (.pair (.int .i64) (.pair (.int .i64) (.int .i64))) s.2]), (5, .box 24 [.int .i64 v0_4.1, .own 40000]), (10, .box 24 [.int .i64 v0_9.1, .own 71000]), (40000, .arr 66 (.pair (.int .i64) (.pair (.int .i64) (.int .i64))) v0_4.2.1), (71000, .arr 66 (.pair (.int .i64) (.pair (.int .i64) (.int .i64))) v0_9.2.1)] ?_
         refine zS 5 [(1, .sl (.int .i64) trace), (2, .bp 2 0), (5, .bp 5 0), (10, .bp 10 0), (98, .bool true), (100, .cv (undef))] [(2, .box 24 [.int .i64 s.1, .sl (.pair (.int .i64) (.pair (.int .i64) (.int .i64))) s.2]), (5, .box 24 [.int .i64 v0_4.1, .own 40000]), (10, .box 24 [.int .i64 v0_9.1, .own 71000]), (40000, .arr 66 (.pair (.int .i64) (.pair (.int .i64) (.int .i64))) v0_4.2.1), (71000, .arr 66 (.pair (.int .i64) (.pair (.int .i64) (.int .i64))) v0_9.2.1)] ?_
         refine zS 5 [(1, .sl (.int .i64) trace), (2, .bp 2 0), (5, .bp 5 0), (102, .bool true), (105, .cv (undef))] [(2, .box 24 [.int .i64 s.1, .sl (.pair (.int .i64) (.pair (.int .i64) (.int .i64))) s.2]), (5, .box 24 [.int .i64 v0_4.1, .own 40000]), (40000, .arr 66 (.pair (.int .i64) (.pair (.int .i64) (.int .i64))) v0_4.2.1)] ?_
         refine zB [(1, .sl (.int .i64) trace), (2, .bp 2 0), (5, .bp 5 0), (107, .bool true)] [(2, .box 24 [.int .i64 s.1, .sl (.pair (.int .i64) (.pair (.int .i64) (.int .i64))) s.2]), (5, .box 24 [.int .i64 v0_4.1, .own 40000]), (40000, .arr 66 (.pair (.int .i64) (.pair (.int .i64) (.int .i64))) v0_4.2.1)] ?_
         refine AW.cond (b := true) rfl (fun _ => ?_) (fun hb26 => by cases hb26)
         refine zo ?_
         refine zB [(4, .bool false)] [] ?_
         refine zr ?_
         obtain rfl := Option.some.inj h
         exact zR [] [] []
        ·refine zS 4 [(1, .sl (.int .i64) trace), (2, .bp 2 0), (5, .bp 5 0), (7, .bool v0_7.1), (8, .bool v0_8.1), (10, .bp 10 0), (94, .bool (!(decide (v0_11.2 = 5))))] [(2, .box 24 [.int .i64 s.1, .sl (.pair (.int .i64) (.pair (.int .i64) (.int .i64))) s.2]), (5, .box 24 [.int .i64 v0_4.1, .own 40000]), (10, .box 24 [.int .i64 v0_9.1, .own 71000]), (40000, .arr 66 (.pair (.int .i64) (.pair (.int .i64) (.int .i64))) v0_4.2.1), (71000, .arr 66 (.pair (.int .i64) (.pair (.int .i64) (.int .i64))) v0_9.2.1)] ?_
         rcases zI h with ⟨hb27, h⟩ | ⟨hb27, h⟩
         ·refine zS 5 [(1, .sl (.int .i64) trace), (2, .bp 2 0), (5, .bp 5 0), (10, .bp 10 0), (98, .bool true), (99, .cv (undef))] [(2, .box 24 [.int .i64 s.1, .sl (.pair (.int .i64) (.pair (.int .i64) (.int .i64))) s.2]), (5, .box 24 [.int .i64 v0_4.1, .own 40000]), (10, .box 24 [.int .i64 v0_9.1, .own 71000]), (40000, .arr 66 (.pair (.int .i64) (.pair (.int .i64) (.int .i64))) v0_4.2.1), (71000, .arr 66 (.pair (.int .i64) (.pair (.int .i64) (.int .i64))) v0_9.2.1)] ?_
          refine zS 5 [(1, .sl (.int .i64) trace), (2, .bp 2 0), (5, .bp 5 0), (102, .bool true), (103, .cv (undef)), (104, .cv (undef))] [(2, .box 24 [.int .i64 s.1, .sl (.pair (.int .i64) (.pair (.int .i64) (.int .i64))) s.2]), (5, .box 24 [.int .i64 v0_4.1, .own 40000]), (40000, .arr 66 (.pair (.int .i64) (.pair (.int .i64) (.int .i64))) v0_4.2.1)] ?_
          refine zB [(1, .sl (.int .i64) trace), (2, .bp 2 0), (5, .bp 5 0), (107, .bool true)] [(2, .box 24 [.int .i64 s.1, .sl (.pair (.int .i64) (.pair (.int .i64) (.int .i64))) s.2]), (5, .box 24 [.int .i64 v0_4.1, .own 40000]), (40000, .arr 66 (.pair (.int .i64) (.pair (.int .i64) (.int .i64))) v0_4.2.1)] ?_
          refine AW.cond (b := true) rfl (fun _ => ?_) (fun hb28 => by cases hb28)
          refine zo ?_
          refine zB [(4, .bool false)] [] ?_
          refine zr ?_
          obtain rfl := Option.some.inj h
          exact zR [] [] []
         ·refine zS 4 [(1, .sl (.int .i64) trace), (2, .bp 2 0), (5, .bp 5 0), (8, .bool v0_8.1), (10, .bp 10 0), (98, .bool (!v0_7.1))] [(2, .box 24 [.int .i64 s.1, .sl (.pair (.int .i64) (.pair (.int .i64) (.int .i64))) s.2]), (5, .box 24 [.int .i64 v0_4.1, .own 40000]), (10, .box 24 [.int .i64 v0_9.1, .own 71000]), (40000, .arr 66 (.pair (.int .i64) (.pair (.int .i64) (.int .i64))) v0_4.2.1), (71000, .arr 66 (.pair (.int .i64) (.pair (.int .i64) (.int .i64))) v0_9.2.1)] ?_
          rcases zI h with ⟨hb29, h⟩ | ⟨hb29, h⟩
          ·refine zS 5 [(1, .sl (.int .i64) trace), (2, .bp 2 0), (5, .bp 5 0), (102, .bool true), (103, .cv (undef))] [(2, .box 24 [.int .i64 s.1, .sl (.pair (.int .i64) (.pair (.int .i64) (.int .i64))) s.2]), (5, .box 24 [.int .i64 v0_4.1, .own 40000]), (40000, .arr 66 (.pair (.int .i64) (.pair (.int .i64) (.int .i64))) v0_4.2.1)] ?_
           refine zB [(1, .sl (.int .i64) trace), (2, .bp 2 0), (5, .bp 5 0), (107, .bool true)] [(2, .box 24 [.int .i64 s.1, .sl (.pair (.int .i64) (.pair (.int .i64) (.int .i64))) s.2]), (5, .box 24 [.int .i64 v0_4.1, .own 40000]), (40000, .arr 66 (.pair (.int .i64) (.pair (.int .i64) (.int .i64))) v0_4.2.1)] ?_
           refine AW.cond (b := true) rfl (fun _ => ?_) (fun hb30 => by cases hb30)
           refine zo ?_
           refine zB [(4, .bool false)] [] ?_
           refine zr ?_
           obtain rfl := Option.some.inj h
           exact zR [] [] []
          ·refine zS 4 [(1, .sl (.int .i64) trace), (2, .bp 2 0), (5, .bp 5 0), (10, .bp 10 0), (102, .bool (!v0_8.1))] [(2, .box 24 [.int .i64 s.1, .sl (.pair (.int .i64) (.pair (.int .i64) (.int .i64))) s.2]), (5, .box 24 [.int .i64 v0_4.1, .own 40000]), (10, .box 24 [.int .i64 v0_9.1, .own 71000]), (40000, .arr 66 (.pair (.int .i64) (.pair (.int .i64) (.int .i64))) v0_4.2.1), (71000, .arr 66 (.pair (.int .i64) (.pair (.int .i64) (.int .i64))) v0_9.2.1)] ?_
           rcases zI h with ⟨hb31, h⟩ | ⟨hb31, h⟩
           ·refine zS 4 [(1, .sl (.int .i64) trace), (2, .bp 2 0), (5, .bp 5 0), (102, .bool true), (106, .cv (undef))] [(2, .box 24 [.int .i64 s.1, .sl (.pair (.int .i64) (.pair (.int .i64) (.int .i64))) s.2]), (5, .box 24 [.int .i64 v0_4.1, .own 40000]), (40000, .arr 66 (.pair (.int .i64) (.pair (.int .i64) (.int .i64))) v0_4.2.1)] ?_
            refine zB [(1, .sl (.int .i64) trace), (2, .bp 2 0), (5, .bp 5 0), (107, .bool true)] [(2, .box 24 [.int .i64 s.1, .sl (.pair (.int .i64) (.pair (.int .i64) (.int .i64))) s.2]), (5, .box 24 [.int .i64 v0_4.1, .own 40000]), (40000, .arr 66 (.pair (.int .i64) (.pair (.int .i64) (.int .i64))) v0_4.2.1)] ?_
            refine AW.cond (b := true) rfl (fun _ => ?_) (fun hb32 => by cases hb32)
            refine zo ?_
            refine zB [(4, .bool false)] [] ?_
            refine zr ?_
            obtain rfl := Option.some.inj h
            exact zR [] [] []
           ·refine zS 2 [(1, .sl (.int .i64) trace), (2, .bp 2 0), (5, .bp 5 0), (102, .bool false), (103, .agg [.int .i64 v0_9.1, .own 71000]), (104, .agg [.int .i64 v0_4.1, .own 40000])] [(2, .box 24 [.int .i64 s.1, .sl (.pair (.int .i64) (.pair (.int .i64) (.int .i64))) s.2]), (5, .box 24 [.int .i64 v0_4.1, .own 40000]), (40000, .arr 66 (.pair (.int .i64) (.pair (.int .i64) (.int .i64))) v0_4.2.1), (71000, .arr 66 (.pair (.int .i64) (.pair (.int .i64) (.int .i64))) v0_9.2.1)] ?_
            obtain ⟨v0_12, hv33, h⟩ := Option.bind_eq_some_iff.1 h
            refine zG [40000, 71000] [] (hc_linealref05_Same (v0_9.1, v0_9.2.1) (v0_4.1, v0_4.2.1) hv33) [(1, .sl (.int .i64) trace), (2, .bp 2 0), (5, .bp 5 0), (102, .bool false), (105, .bool v0_12)] [(2, .box 24 [.int .i64 s.1, .sl (.pair (.int .i64) (.pair (.int .i64) (.int .i64))) s.2]), (5, .box 24 [.int .i64 v0_4.1, .own 40000]), (40000, .arr 66 (.pair (.int .i64) (.pair (.int .i64) (.int .i64))) v0_4.2.1)] ?_
            refine zB [(1, .sl (.int .i64) trace), (2, .bp 2 0), (5, .bp 5 0), (107, .bool (!v0_12))] [(2, .box 24 [.int .i64 s.1, .sl (.pair (.int .i64) (.pair (.int .i64) (.int .i64))) s.2]), (5, .box 24 [.int .i64 v0_4.1, .own 40000]), (40000, .arr 66 (.pair (.int .i64) (.pair (.int .i64) (.int .i64))) v0_4.2.1)] ?_
            refine zQ h (fun hb34 h => ?_) (fun hb34 h => ?_)
            ·refine zo ?_
             refine zB [(4, .bool false)] [] ?_
             refine zr ?_
             obtain rfl := Option.some.inj h
             exact zR [] [] []
            ·refine zk ?_
             refine zo ?_
             refine zS 2 [(1, .sl (.int .i64) trace), (5, .bp 5 0), (109, .agg [.int .i64 s.1, .sl (.pair (.int .i64) (.pair (.int .i64) (.int .i64))) s.2]), (110, .sl (.int .i64) trace)] [(5, .box 24 [.int .i64 v0_4.1, .own 40000]), (40000, .arr 66 (.pair (.int .i64) (.pair (.int .i64) (.int .i64))) v0_4.2.1)] ?_
             obtain ⟨v0_13, hv35, h⟩ := Option.bind_eq_some_iff.1 h
             refine zC [] [] (hc_refine_IsTrace s trace hv35) [(1, .sl (.int .i64) trace), (5, .bp 5 0), (111, .tup [.bool v0_13.1, .int .i64 v0_13.2])] [(5, .box 24 [.int .i64 v0_4.1, .own 40000]), (40000, .arr 66 (.pair (.int .i64) (.pair (.int .i64) (.int .i64))) v0_4.2.1)] ?_
             refine zB [(1, .sl (.int .i64) trace), (5, .bp 5 0), (6, .int .i64 v0_13.2), (16, .bool v0_13.1)] [(5, .box 24 [.int .i64 v0_4.1, .own 40000]), (40000, .arr 66 (.pair (.int .i64) (.pair (.int .i64) (.int .i64))) v0_4.2.1)] ?_
             refine zo ?_
             refine zS 2 [(6, .int .i64 v0_13.2), (16, .bool v0_13.1), (115, .agg [.int .i64 v0_4.1, .own 40000]), (116, .sl (.int .i64) trace)] [(40000, .arr 66 (.pair (.int .i64) (.pair (.int .i64) (.int .i64))) v0_4.2.1)] ?_
             obtain ⟨v0_14, hv36, h⟩ := Option.bind_eq_some_iff.1 h
             refine zC [40000] [] (hc_refine_IsTrace (v0_4.1, v0_4.2.1) trace hv36) [(6, .int .i64 v0_13.2), (16, .bool v0_13.1), (117, .tup [.bool v0_14.1, .int .i64 v0_14.2])] [] ?_
             refine zB [(6, .int .i64 v0_13.2), (9, .int .i64 v0_14.2), (16, .bool v0_13.1), (17, .bool v0_14.1)] [] ?_
             refine zo ?_
             refine zS 4 [(6, .int .i64 v0_13.2), (9, .int .i64 v0_14.2), (123, .bool ((v0_13.1 == v0_14.1) != false))] [] ?_
             rcases zI h with ⟨hb37, h⟩ | ⟨hb37, h⟩
             ·refine zS 5 [(128, .bool (decide (v0_13.2 = v0_14.2)))] [] ?_
              rcases zI h with ⟨hb38, h⟩ | ⟨hb38, h⟩
              ·refine zT [(128, .bool true)] [] gt ?_
               obtain ⟨v0_15, hv39, h⟩ := Option.bind_eq_some_iff.1 h
               refine zG [] [] (hc_lineallaw05_Awake hv39) [(128, .bool true), (129, .bool v0_15)] [] ?_
               refine zB [(4, .bool v0_15)] [] ?_
               refine AW.ret ?_
               obtain rfl := Option.some.inj h
               exact zR [] [] []
              ·refine zB [(4, .bool false)] [] ?_
               refine AW.ret ?_
               obtain rfl := Option.some.inj h
               exact zR [] [] []
             ·refine zS 5 [(128, .bool false)] [] ?_
              refine zB [(4, .bool false)] [] ?_
              refine AW.ret ?_
              obtain rfl := Option.some.inj h
              exact zR [] [] []

end Go.Proofs.Ytljonmpcehlpaaa
