/-
  Made by wip/tool/dc.py out of the print of the program: contracts.
-/
import Derived.Test.YtifleoceebaooaaRfp
import Derived.Test.YtifleoceebaooaaShr
import Derived.Test.YtifleoceebaooaaNnc4
import Derived.Test.YtifleoceebaooaaNnc6
import Derived.Test.YtifleoceebaooaaNnc7
namespace Go.Proofs.Ytifleoceebaooaa
open Go.RowKit

set_option linter.unusedSimpArgs false
set_option linter.unusedVariables false
set_option linter.constructorNameAsVariable false

set_option maxRecDepth 100000
set_option maxHeartbeats 2000000

theorem hc_lineallaw05_RefineChains (a : Int × (List (Int × Int × Int))) (b : Int × (List (Int × Int × Int))) (c : Int × (List (Int × Int × Int))) {r : Bool} (h : lineallaw05_RefineChains a b c = some r) : HC Try.prog 10 [] [.agg [.int .i64 a.1, .sl (.pair (.int .i64) (.pair (.int .i64) (.int .i64))) a.2], .agg [.int .i64 b.1, .sl (.pair (.int .i64) (.pair (.int .i64) (.int .i64))) b.2], .agg [.int .i64 c.1, .sl (.pair (.int .i64) (.pair (.int .i64) (.int .i64))) c.2]] [] (.bool r) := by
 unfold lineallaw05_RefineChains at h
 refine zH Try.func10 [.tmp 6] 110 ?_
 refine zo ?_
 refine zB [(3, .bp 3 0), (4, .bp 4 0), (5, .bp 5 0)] [(3, .box 24 [.int .i64 a.1, .sl (.pair (.int .i64) (.pair (.int .i64) (.int .i64))) a.2]), (4, .box 24 [.int .i64 b.1, .sl (.pair (.int .i64) (.pair (.int .i64) (.int .i64))) b.2]), (5, .box 24 [.int .i64 c.1, .sl (.pair (.int .i64) (.pair (.int .i64) (.int .i64))) c.2])] ?_
 refine AW.seq ?_
 refine zo ?_
 refine zS 4 [(3, .bp 3 0), (4, .bp 4 0), (5, .bp 5 0), (21, .own 21)] [(3, .box 24 [.int .i64 a.1, .sl (.pair (.int .i64) (.pair (.int .i64) (.int .i64))) a.2]), (4, .box 24 [.int .i64 b.1, .sl (.pair (.int .i64) (.pair (.int .i64) (.int .i64))) b.2]), (5, .box 24 [.int .i64 c.1, .sl (.pair (.int .i64) (.pair (.int .i64) (.int .i64))) c.2]), (21, .arr 24 (.pair (.int .i64) (.sl (.pair (.int .i64) (.pair (.int .i64) (.int .i64))))) [a, b, c])] ?_
 obtain ⟨v0, hv1, h⟩ := Option.bind_eq_some_iff.1 h
 refine zC [21] [] (hc_lineallaw05_valid [a, b, c] hv1) [(3, .bp 3 0), (4, .bp 4 0), (5, .bp 5 0), (22, .bool v0)] [(3, .box 24 [.int .i64 a.1, .sl (.pair (.int .i64) (.pair (.int .i64) (.int .i64))) a.2]), (4, .box 24 [.int .i64 b.1, .sl (.pair (.int .i64) (.pair (.int .i64) (.int .i64))) b.2]), (5, .box 24 [.int .i64 c.1, .sl (.pair (.int .i64) (.pair (.int .i64) (.int .i64))) c.2])] ?_
 refine zB [(3, .bp 3 0), (4, .bp 4 0), (5, .bp 5 0), (23, .bool (!v0))] [(3, .box 24 [.int .i64 a.1, .sl (.pair (.int .i64) (.pair (.int .i64) (.int .i64))) a.2]), (4, .box 24 [.int .i64 b.1, .sl (.pair (.int .i64) (.pair (.int .i64) (.int .i64))) b.2]), (5, .box 24 [.int .i64 c.1, .sl (.pair (.int .i64) (.pair (.int .i64) (.int .i64))) c.2])] ?_
 refine zQ h (fun hb2 h => ?_) (fun hb2 h => ?_)
 ·refine zo ?_
  obtain ⟨v0_2, hv3, h⟩ := Option.bind_eq_some_iff.1 h
  refine zC [] [] (hc_lineallaw05_Awake hv3) [(24, .bool v0_2)] [] ?_
  refine zB [(6, .bool v0_2)] [] ?_
  refine zr ?_
  obtain rfl := Option.some.inj h
  exact zR [] [] []
 ·refine zk ?_
  refine zo ?_
  refine zS 2 [(3, .bp 3 0), (4, .bp 4 0), (5, .bp 5 0), (26, .agg [.int .i64 a.1, .sl (.pair (.int .i64) (.pair (.int .i64) (.int .i64))) a.2]), (27, .agg [.int .i64 b.1, .sl (.pair (.int .i64) (.pair (.int .i64) (.int .i64))) b.2])] [(3, .box 24 [.int .i64 a.1, .sl (.pair (.int .i64) (.pair (.int .i64) (.int .i64))) a.2]), (4, .box 24 [.int .i64 b.1, .sl (.pair (.int .i64) (.pair (.int .i64) (.int .i64))) b.2]), (5, .box 24 [.int .i64 c.1, .sl (.pair (.int .i64) (.pair (.int .i64) (.int .i64))) c.2])] ?_
  obtain ⟨v0_3, hv4, h⟩ := Option.bind_eq_some_iff.1 h
  refine zC [] [] (hc_refine_Best a b hv4) [(3, .bp 3 0), (4, .bp 4 0), (5, .bp 5 0), (28, .tup [.own 38000, .int .i64 v0_3.2])] [(3, .box 24 [.int .i64 a.1, .sl (.pair (.int .i64) (.pair (.int .i64) (.int .i64))) a.2]), (4, .box 24 [.int .i64 b.1, .sl (.pair (.int .i64) (.pair (.int .i64) (.int .i64))) b.2]), (5, .box 24 [.int .i64 c.1, .sl (.pair (.int .i64) (.pair (.int .i64) (.int .i64))) c.2]), (38000, .arr 58 (.pair (.int .i64) (.int .i64)) v0_3.1)] ?_
  refine zB [(3, .bp 3 0), (4, .bp 4 0), (5, .bp 5 0), (7, .own 38000), (8, .int .i64 v0_3.2)] [(3, .box 24 [.int .i64 a.1, .sl (.pair (.int .i64) (.pair (.int .i64) (.int .i64))) a.2]), (4, .box 24 [.int .i64 b.1, .sl (.pair (.int .i64) (.pair (.int .i64) (.int .i64))) b.2]), (5, .box 24 [.int .i64 c.1, .sl (.pair (.int .i64) (.pair (.int .i64) (.int .i64))) c.2]), (38000, .arr 58 (.pair (.int .i64) (.int .i64)) v0_3.1)] ?_
  refine zo ?_
  refine zS 2 [(3, .bp 3 0), (4, .bp 4 0), (5, .bp 5 0), (7, .own 38000), (8, .int .i64 v0_3.2), (32, .agg [.int .i64 b.1, .sl (.pair (.int .i64) (.pair (.int .i64) (.int .i64))) b.2]), (33, .agg [.int .i64 c.1, .sl (.pair (.int .i64) (.pair (.int .i64) (.int .i64))) c.2])] [(3, .box 24 [.int .i64 a.1, .sl (.pair (.int .i64) (.pair (.int .i64) (.int .i64))) a.2]), (4, .box 24 [.int .i64 b.1, .sl (.pair (.int .i64) (.pair (.int .i64) (.int .i64))) b.2]), (5, .box 24 [.int .i64 c.1, .sl (.pair (.int .i64) (.pair (.int .i64) (.int .i64))) c.2]), (38000, .arr 58 (.pair (.int .i64) (.int .i64)) v0_3.1)] ?_
  obtain ⟨v0_4, hv5, h⟩ := Option.bind_eq_some_iff.1 h
  refine zC [] [] (hc_refine_Best b c hv5) [(3, .bp 3 0), (4, .bp 4 0), (5, .bp 5 0), (7, .own 38000), (8, .int .i64 v0_3.2), (34, .tup [.own 44000, .int .i64 v0_4.2])] [(3, .box 24 [.int .i64 a.1, .sl (.pair (.int .i64) (.pair (.int .i64) (.int .i64))) a.2]), (4, .box 24 [.int .i64 b.1, .sl (.pair (.int .i64) (.pair (.int .i64) (.int .i64))) b.2]), (5, .box 24 [.int .i64 c.1, .sl (.pair (.int .i64) (.pair (.int .i64) (.int .i64))) c.2]), (38000, .arr 58 (.pair (.int .i64) (.int .i64)) v0_3.1), (44000, .arr 58 (.pair (.int .i64) (.int .i64)) v0_4.1)] ?_
  refine zB [(3, .bp 3 0), (4, .bp 4 0), (5, .bp 5 0), (7, .own 38000), (8, .int .i64 v0_3.2), (9, .own 44000), (10, .int .i64 v0_4.2)] [(3, .box 24 [.int .i64 a.1, .sl (.pair (.int .i64) (.pair (.int .i64) (.int .i64))) a.2]), (4, .box 24 [.int .i64 b.1, .sl (.pair (.int .i64) (.pair (.int .i64) (.int .i64))) b.2]), (5, .box 24 [.int .i64 c.1, .sl (.pair (.int .i64) (.pair (.int .i64) (.int .i64))) c.2]), (38000, .arr 58 (.pair (.int .i64) (.int .i64)) v0_3.1), (44000, .arr 58 (.pair (.int .i64) (.int .i64)) v0_4.1)] ?_
  refine zo ?_
  refine zS 2 [(3, .bp 3 0), (4, .bp 4 0), (5, .bp 5 0), (8, .int .i64 v0_3.2), (10, .int .i64 v0_4.2), (38, .own 38000), (39, .own 44000)] [(3, .box 24 [.int .i64 a.1, .sl (.pair (.int .i64) (.pair (.int .i64) (.int .i64))) a.2]), (4, .box 24 [.int .i64 b.1, .sl (.pair (.int .i64) (.pair (.int .i64) (.int .i64))) b.2]), (5, .box 24 [.int .i64 c.1, .sl (.pair (.int .i64) (.pair (.int .i64) (.int .i64))) c.2]), (38000, .arr 58 (.pair (.int .i64) (.int .i64)) v0_3.1), (44000, .arr 58 (.pair (.int .i64) (.int .i64)) v0_4.1)] ?_
  obtain ⟨v0_5, hv6, h⟩ := Option.bind_eq_some_iff.1 h
  refine zC [38000, 44000] [] (hc_refine_Composed v0_3.1 v0_4.1 hv6) [(3, .bp 3 0), (4, .bp 4 0), (5, .bp 5 0), (8, .int .i64 v0_3.2), (10, .int .i64 v0_4.2), (40, .tup [.own 50000, .int .i64 v0_5.2])] [(3, .box 24 [.int .i64 a.1, .sl (.pair (.int .i64) (.pair (.int .i64) (.int .i64))) a.2]), (4, .box 24 [.int .i64 b.1, .sl (.pair (.int .i64) (.pair (.int .i64) (.int .i64))) b.2]), (5, .box 24 [.int .i64 c.1, .sl (.pair (.int .i64) (.pair (.int .i64) (.int .i64))) c.2]), (50000, .arr 58 (.pair (.int .i64) (.int .i64)) v0_5.1)] ?_
  refine zB [(3, .bp 3 0), (4, .bp 4 0), (5, .bp 5 0), (8, .int .i64 v0_3.2), (10, .int .i64 v0_4.2), (11, .own 50000), (12, .int .i64 v0_5.2)] [(3, .box 24 [.int .i64 a.1, .sl (.pair (.int .i64) (.pair (.int .i64) (.int .i64))) a.2]), (4, .box 24 [.int .i64 b.1, .sl (.pair (.int .i64) (.pair (.int .i64) (.int .i64))) b.2]), (5, .box 24 [.int .i64 c.1, .sl (.pair (.int .i64) (.pair (.int .i64) (.int .i64))) c.2]), (50000, .arr 58 (.pair (.int .i64) (.int .i64)) v0_5.1)] ?_
  refine zo ?_
  refine zS 3 [(3, .bp 3 0), (4, .bp 4 0), (5, .bp 5 0), (8, .int .i64 v0_3.2), (10, .int .i64 v0_4.2), (12, .int .i64 v0_5.2), (44, .agg [.int .i64 a.1, .sl (.pair (.int .i64) (.pair (.int .i64) (.int .i64))) a.2]), (45, .agg [.int .i64 c.1, .sl (.pair (.int .i64) (.pair (.int .i64) (.int .i64))) c.2]), (46, .own 50000)] [(3, .box 24 [.int .i64 a.1, .sl (.pair (.int .i64) (.pair (.int .i64) (.int .i64))) a.2]), (4, .box 24 [.int .i64 b.1, .sl (.pair (.int .i64) (.pair (.int .i64) (.int .i64))) b.2]), (5, .box 24 [.int .i64 c.1, .sl (.pair (.int .i64) (.pair (.int .i64) (.int .i64))) c.2]), (50000, .arr 58 (.pair (.int .i64) (.int .i64)) v0_5.1)] ?_
  obtain ⟨v0_6, hv7, h⟩ := Option.bind_eq_some_iff.1 h
  refine zC [50000] [] (hc_refine_IsProof a c v0_5.1 hv7) [(3, .bp 3 0), (4, .bp 4 0), (5, .bp 5 0), (8, .int .i64 v0_3.2), (10, .int .i64 v0_4.2), (12, .int .i64 v0_5.2), (47, .tup [.bool v0_6.1, .int .i64 v0_6.2])] [(3, .box 24 [.int .i64 a.1, .sl (.pair (.int .i64) (.pair (.int .i64) (.int .i64))) a.2]), (4, .box 24 [.int .i64 b.1, .sl (.pair (.int .i64) (.pair (.int .i64) (.int .i64))) b.2]), (5, .box 24 [.int .i64 c.1, .sl (.pair (.int .i64) (.pair (.int .i64) (.int .i64))) c.2])] ?_
  refine zB [(3, .bp 3 0), (4, .bp 4 0), (5, .bp 5 0), (8, .int .i64 v0_3.2), (10, .int .i64 v0_4.2), (12, .int .i64 v0_5.2), (13, .bool v0_6.1), (14, .int .i64 v0_6.2)] [(3, .box 24 [.int .i64 a.1, .sl (.pair (.int .i64) (.pair (.int .i64) (.int .i64))) a.2]), (4, .box 24 [.int .i64 b.1, .sl (.pair (.int .i64) (.pair (.int .i64) (.int .i64))) b.2]), (5, .box 24 [.int .i64 c.1, .sl (.pair (.int .i64) (.pair (.int .i64) (.int .i64))) c.2])] ?_
  refine AW.seq ?_
  refine zo ?_
  refine zS 3 [(3, .bp 3 0), (4, .bp 4 0), (5, .bp 5 0), (10, .int .i64 v0_4.2), (12, .int .i64 v0_5.2), (13, .bool v0_6.1), (14, .int .i64 v0_6.2), (52, .bool (!(decide (v0_3.2 = 0))))] [(3, .box 24 [.int .i64 a.1, .sl (.pair (.int .i64) (.pair (.int .i64) (.int .i64))) a.2]), (4, .box 24 [.int .i64 b.1, .sl (.pair (.int .i64) (.pair (.int .i64) (.int .i64))) b.2]), (5, .box 24 [.int .i64 c.1, .sl (.pair (.int .i64) (.pair (.int .i64) (.int .i64))) c.2])] ?_
  rcases zI h with ⟨hb8, h⟩ | ⟨hb8, h⟩
  ·refine zS 5 [(3, .bp 3 0), (4, .bp 4 0), (5, .bp 5 0), (13, .bool v0_6.1), (14, .int .i64 v0_6.2), (56, .bool true), (57, .cv (undef))] [(3, .box 24 [.int .i64 a.1, .sl (.pair (.int .i64) (.pair (.int .i64) (.int .i64))) a.2]), (4, .box 24 [.int .i64 b.1, .sl (.pair (.int .i64) (.pair (.int .i64) (.int .i64))) b.2]), (5, .box 24 [.int .i64 c.1, .sl (.pair (.int .i64) (.pair (.int .i64) (.int .i64))) c.2])] ?_
   refine zS 5 [(3, .bp 3 0), (4, .bp 4 0), (5, .bp 5 0), (13, .bool v0_6.1), (60, .bool true), (62, .cv (undef))] [(3, .box 24 [.int .i64 a.1, .sl (.pair (.int .i64) (.pair (.int .i64) (.int .i64))) a.2]), (4, .box 24 [.int .i64 b.1, .sl (.pair (.int .i64) (.pair (.int .i64) (.int .i64))) b.2]), (5, .box 24 [.int .i64 c.1, .sl (.pair (.int .i64) (.pair (.int .i64) (.int .i64))) c.2])] ?_
   refine zB [(3, .bp 3 0), (4, .bp 4 0), (5, .bp 5 0), (67, .bool true)] [(3, .box 24 [.int .i64 a.1, .sl (.pair (.int .i64) (.pair (.int .i64) (.int .i64))) a.2]), (4, .box 24 [.int .i64 b.1, .sl (.pair (.int .i64) (.pair (.int .i64) (.int .i64))) b.2]), (5, .box 24 [.int .i64 c.1, .sl (.pair (.int .i64) (.pair (.int .i64) (.int .i64))) c.2])] ?_
   refine AW.cond (b := true) rfl (fun _ => ?_) (fun hb9 => by cases hb9)
   refine zo ?_
   refine zB [(6, .bool false)] [] ?_
   refine zr ?_
   obtain rfl := Option.some.inj h
   exact zR [] [] []
  ·refine zS 4 [(3, .bp 3 0), (4, .bp 4 0), (5, .bp 5 0), (12, .int .i64 v0_5.2), (13, .bool v0_6.1), (14, .int .i64 v0_6.2), (56, .bool (!(decide (v0_4.2 = 0))))] [(3, .box 24 [.int .i64 a.1, .sl (.pair (.int .i64) (.pair (.int .i64) (.int .i64))) a.2]), (4, .box 24 [.int .i64 b.1, .sl (.pair (.int .i64) (.pair (.int .i64) (.int .i64))) b.2]), (5, .box 24 [.int .i64 c.1, .sl (.pair (.int .i64) (.pair (.int .i64) (.int .i64))) c.2])] ?_
   rcases zI h with ⟨hb10, h⟩ | ⟨hb10, h⟩
   ·refine zS 5 [(3, .bp 3 0), (4, .bp 4 0), (5, .bp 5 0), (13, .bool v0_6.1), (60, .bool true), (61, .cv (undef))] [(3, .box 24 [.int .i64 a.1, .sl (.pair (.int .i64) (.pair (.int .i64) (.int .i64))) a.2]), (4, .box 24 [.int .i64 b.1, .sl (.pair (.int .i64) (.pair (.int .i64) (.int .i64))) b.2]), (5, .box 24 [.int .i64 c.1, .sl (.pair (.int .i64) (.pair (.int .i64) (.int .i64))) c.2])] ?_
    refine zS 5 [(3, .bp 3 0), (4, .bp 4 0), (5, .bp 5 0), (64, .bool true), (66, .cv (undef))] [(3, .box 24 [.int .i64 a.1, .sl (.pair (.int .i64) (.pair (.int .i64) (.int .i64))) a.2]), (4, .box 24 [.int .i64 b.1, .sl (.pair (.int .i64) (.pair (.int .i64) (.int .i64))) b.2]), (5, .box 24 [.int .i64 c.1, .sl (.pair (.int .i64) (.pair (.int .i64) (.int .i64))) c.2])] ?_
    refine zB [(3, .bp 3 0), (4, .bp 4 0), (5, .bp 5 0), (67, .bool true)] [(3, .box 24 [.int .i64 a.1, .sl (.pair (.int .i64) (.pair (.int .i64) (.int .i64))) a.2]), (4, .box 24 [.int .i64 b.1, .sl (.pair (.int .i64) (.pair (.int .i64) (.int .i64))) b.2]), (5, .box 24 [.int .i64 c.1, .sl (.pair (.int .i64) (.pair (.int .i64) (.int .i64))) c.2])] ?_
    refine AW.cond (b := true) rfl (fun _ => ?_) (fun hb11 => by cases hb11)
    refine zo ?_
    refine zB [(6, .bool false)] [] ?_
    refine zr ?_
    obtain rfl := Option.some.inj h
    exact zR [] [] []
   ·refine zS 4 [(3, .bp 3 0), (4, .bp 4 0), (5, .bp 5 0), (13, .bool v0_6.1), (14, .int .i64 v0_6.2), (60, .bool (!(decide (v0_5.2 = 0))))] [(3, .box 24 [.int .i64 a.1, .sl (.pair (.int .i64) (.pair (.int .i64) (.int .i64))) a.2]), (4, .box 24 [.int .i64 b.1, .sl (.pair (.int .i64) (.pair (.int .i64) (.int .i64))) b.2]), (5, .box 24 [.int .i64 c.1, .sl (.pair (.int .i64) (.pair (.int .i64) (.int .i64))) c.2])] ?_
    rcases zI h with ⟨hb12, h⟩ | ⟨hb12, h⟩
    ·refine zS 5 [(3, .bp 3 0), (4, .bp 4 0), (5, .bp 5 0), (64, .bool true), (65, .cv (undef))] [(3, .box 24 [.int .i64 a.1, .sl (.pair (.int .i64) (.pair (.int .i64) (.int .i64))) a.2]), (4, .box 24 [.int .i64 b.1, .sl (.pair (.int .i64) (.pair (.int .i64) (.int .i64))) b.2]), (5, .box 24 [.int .i64 c.1, .sl (.pair (.int .i64) (.pair (.int .i64) (.int .i64))) c.2])] ?_
     refine zB [(3, .bp 3 0), (4, .bp 4 0), (5, .bp 5 0), (67, .bool true)] [(3, .box 24 [.int .i64 a.1, .sl (.pair (.int .i64) (.pair (.int .i64) (.int .i64))) a.2]), (4, .box 24 [.int .i64 b.1, .sl (.pair (.int .i64) (.pair (.int .i64) (.int .i64))) b.2]), (5, .box 24 [.int .i64 c.1, .sl (.pair (.int .i64) (.pair (.int .i64) (.int .i64))) c.2])] ?_
     refine AW.cond (b := true) rfl (fun _ => ?_) (fun hb13 => by cases hb13)
     refine zo ?_
     refine zB [(6, .bool false)] [] ?_
     refine zr ?_
     obtain rfl := Option.some.inj h
     exact zR [] [] []
    ·refine zS 4 [(3, .bp 3 0), (4, .bp 4 0), (5, .bp 5 0), (13, .bool v0_6.1), (64, .bool (!(decide (v0_6.2 = 0))))] [(3, .box 24 [.int .i64 a.1, .sl (.pair (.int .i64) (.pair (.int .i64) (.int .i64))) a.2]), (4, .box 24 [.int .i64 b.1, .sl (.pair (.int .i64) (.pair (.int .i64) (.int .i64))) b.2]), (5, .box 24 [.int .i64 c.1, .sl (.pair (.int .i64) (.pair (.int .i64) (.int .i64))) c.2])] ?_
     rcases zI h with ⟨hb14, h⟩ | ⟨hb14, h⟩
     ·refine zB [(3, .bp 3 0), (4, .bp 4 0), (5, .bp 5 0), (67, .bool true)] [(3, .box 24 [.int .i64 a.1, .sl (.pair (.int .i64) (.pair (.int .i64) (.int .i64))) a.2]), (4, .box 24 [.int .i64 b.1, .sl (.pair (.int .i64) (.pair (.int .i64) (.int .i64))) b.2]), (5, .box 24 [.int .i64 c.1, .sl (.pair (.int .i64) (.pair (.int .i64) (.int .i64))) c.2])] ?_
      refine AW.cond (b := true) rfl (fun _ => ?_) (fun hb15 => by cases hb15)
      refine zo ?_
      refine zB [(6, .bool false)] [] ?_
      refine zr ?_
      obtain rfl := Option.some.inj h
      exact zR [] [] []
     ·refine zB [(3, .bp 3 0), (4, .bp 4 0), (5, .bp 5 0), (67, .bool (!v0_6.1))] [(3, .box 24 [.int .i64 a.1, .sl (.pair (.int .i64) (.pair (.int .i64) (.int .i64))) a.2]), (4, .box 24 [.int .i64 b.1, .sl (.pair (.int .i64) (.pair (.int .i64) (.int .i64))) b.2]), (5, .box 24 [.int .i64 c.1, .sl (.pair (.int .i64) (.pair (.int .i64) (.int .i64))) c.2])] ?_
      refine zQ h (fun hb16 h => ?_) (fun hb16 h => ?_)
      ·refine zo ?_
       refine zB [(6, .bool false)] [] ?_
       refine zr ?_
       obtain rfl := Option.some.inj h
       exact zR [] [] []
      ·refine zk ?_
       refine zo ?_
       refine zS 2 [(3, .bp 3 0), (4, .bp 4 0), (5, .bp 5 0), (69, .agg [.int .i64 a.1, .sl (.pair (.int .i64) (.pair (.int .i64) (.int .i64))) a.2]), (70, .agg [.int .i64 b.1, .sl (.pair (.int .i64) (.pair (.int .i64) (.int .i64))) b.2])] [(3, .box 24 [.int .i64 a.1, .sl (.pair (.int .i64) (.pair (.int .i64) (.int .i64))) a.2]), (4, .box 24 [.int .i64 b.1, .sl (.pair (.int .i64) (.pair (.int .i64) (.int .i64))) b.2]), (5, .box 24 [.int .i64 c.1, .sl (.pair (.int .i64) (.pair (.int .i64) (.int .i64))) c.2])] ?_
       obtain ⟨v0_7, hv17, h⟩ := Option.bind_eq_some_iff.1 h
       refine zC [] [] (hc_refine_Refines a b hv17) [(3, .bp 3 0), (4, .bp 4 0), (5, .bp 5 0), (71, .tup [.bool v0_7.1, .int .i64 v0_7.2])] [(3, .box 24 [.int .i64 a.1, .sl (.pair (.int .i64) (.pair (.int .i64) (.int .i64))) a.2]), (4, .box 24 [.int .i64 b.1, .sl (.pair (.int .i64) (.pair (.int .i64) (.int .i64))) b.2]), (5, .box 24 [.int .i64 c.1, .sl (.pair (.int .i64) (.pair (.int .i64) (.int .i64))) c.2])] ?_
       refine zB [(3, .bp 3 0), (4, .bp 4 0), (5, .bp 5 0), (8, .int .i64 v0_7.2), (15, .bool v0_7.1)] [(3, .box 24 [.int .i64 a.1, .sl (.pair (.int .i64) (.pair (.int .i64) (.int .i64))) a.2]), (4, .box 24 [.int .i64 b.1, .sl (.pair (.int .i64) (.pair (.int .i64) (.int .i64))) b.2]), (5, .box 24 [.int .i64 c.1, .sl (.pair (.int .i64) (.pair (.int .i64) (.int .i64))) c.2])] ?_
       refine zo ?_
       refine zS 2 [(3, .bp 3 0), (5, .bp 5 0), (8, .int .i64 v0_7.2), (15, .bool v0_7.1), (75, .agg [.int .i64 b.1, .sl (.pair (.int .i64) (.pair (.int .i64) (.int .i64))) b.2]), (76, .agg [.int .i64 c.1, .sl (.pair (.int .i64) (.pair (.int .i64) (.int .i64))) c.2])] [(3, .box 24 [.int .i64 a.1, .sl (.pair (.int .i64) (.pair (.int .i64) (.int .i64))) a.2]), (5, .box 24 [.int .i64 c.1, .sl (.pair (.int .i64) (.pair (.int .i64) (.int .i64))) c.2])] ?_
       obtain ⟨v0_8, hv18, h⟩ := Option.bind_eq_some_iff.1 h
       refine zC [] [] (hc_refine_Refines b c hv18) [(3, .bp 3 0), (5, .bp 5 0), (8, .int .i64 v0_7.2), (15, .bool v0_7.1), (77, .tup [.bool v0_8.1, .int .i64 v0_8.2])] [(3, .box 24 [.int .i64 a.1, .sl (.pair (.int .i64) (.pair (.int .i64) (.int .i64))) a.2]), (5, .box 24 [.int .i64 c.1, .sl (.pair (.int .i64) (.pair (.int .i64) (.int .i64))) c.2])] ?_
       refine zB [(3, .bp 3 0), (5, .bp 5 0), (8, .int .i64 v0_7.2), (10, .int .i64 v0_8.2), (15, .bool v0_7.1), (16, .bool v0_8.1)] [(3, .box 24 [.int .i64 a.1, .sl (.pair (.int .i64) (.pair (.int .i64) (.int .i64))) a.2]), (5, .box 24 [.int .i64 c.1, .sl (.pair (.int .i64) (.pair (.int .i64) (.int .i64))) c.2])] ?_
       refine zo ?_
       refine zS 2 [(8, .int .i64 v0_7.2), (10, .int .i64 v0_8.2), (15, .bool v0_7.1), (16, .bool v0_8.1), (81, .agg [.int .i64 a.1, .sl (.pair (.int .i64) (.pair (.int .i64) (.int .i64))) a.2]), (82, .agg [.int .i64 c.1, .sl (.pair (.int .i64) (.pair (.int .i64) (.int .i64))) c.2])] [] ?_
       obtain ⟨v0_9, hv19, h⟩ := Option.bind_eq_some_iff.1 h
       refine zC [] [] (hc_refine_Refines a c hv19) [(8, .int .i64 v0_7.2), (10, .int .i64 v0_8.2), (15, .bool v0_7.1), (16, .bool v0_8.1), (83, .tup [.bool v0_9.1, .int .i64 v0_9.2])] [] ?_
       refine zB [(8, .int .i64 v0_7.2), (10, .int .i64 v0_8.2), (12, .int .i64 v0_9.2), (15, .bool v0_7.1), (16, .bool v0_8.1), (17, .bool v0_9.1)] [] ?_
       refine zo ?_
       refine zS 3 [(10, .int .i64 v0_8.2), (12, .int .i64 v0_9.2), (15, .bool v0_7.1), (16, .bool v0_8.1), (17, .bool v0_9.1), (88, .bool (decide (v0_7.2 = 0)))] [] ?_
       rcases zI h with ⟨hb20, h⟩ | ⟨hb20, h⟩
       ·refine zS 4 [(12, .int .i64 v0_9.2), (15, .bool v0_7.1), (16, .bool v0_8.1), (17, .bool v0_9.1), (92, .bool (decide (v0_8.2 = 0)))] [] ?_
        rcases zI h with ⟨hb21, h⟩ | ⟨hb21, h⟩
        ·refine zS 4 [(15, .bool v0_7.1), (16, .bool v0_8.1), (17, .bool v0_9.1), (96, .bool (decide (v0_9.2 = 0)))] [] ?_
         rcases zI h with ⟨hb22, h⟩ | ⟨hb22, h⟩
         ·refine zS 3 [(16, .bool v0_8.1), (17, .bool v0_9.1), (96, .bool true), (99, .bool (!v0_7.1))] [] ?_
          rcases zI h with ⟨hb23, h⟩ | ⟨hb23, h⟩
          ·refine zS 5 [(96, .bool true), (103, .bool true), (104, .cv (undef))] [] ?_
           refine zS 3 [(107, .bool true)] [] ?_
           obtain ⟨v0_10, hv24, h⟩ := Option.bind_eq_some_iff.1 h
           refine zG [] [] (hc_lineallaw05_Awake hv24) [(107, .bool true), (108, .bool v0_10)] [] ?_
           refine zB [(6, .bool v0_10)] [] ?_
           refine AW.ret ?_
           obtain rfl := Option.some.inj h
           exact zR [] [] []
          ·refine zS 4 [(17, .bool v0_9.1), (96, .bool true), (103, .bool (!v0_8.1))] [] ?_
           rcases zI h with ⟨hb25, h⟩ | ⟨hb25, h⟩
           ·refine zS 4 [(107, .bool true)] [] ?_
            obtain ⟨v0_11, hv26, h⟩ := Option.bind_eq_some_iff.1 h
            refine zG [] [] (hc_lineallaw05_Awake hv26) [(107, .bool true), (108, .bool v0_11)] [] ?_
            refine zB [(6, .bool v0_11)] [] ?_
            refine AW.ret ?_
            obtain rfl := Option.some.inj h
            exact zR [] [] []
           ·refine zS 4 [(107, .bool v0_9.1)] [] ?_
            rcases zI h with ⟨hb27, h⟩ | ⟨hb27, h⟩
            ·refine zT [(107, .bool true)] [] gt ?_
             obtain ⟨v0_12, hv28, h⟩ := Option.bind_eq_some_iff.1 h
             refine zG [] [] (hc_lineallaw05_Awake hv28) [(107, .bool true), (108, .bool v0_12)] [] ?_
             refine zB [(6, .bool v0_12)] [] ?_
             refine AW.ret ?_
             obtain rfl := Option.some.inj h
             exact zR [] [] []
            ·refine zB [(6, .bool false)] [] ?_
             refine AW.ret ?_
             obtain rfl := Option.some.inj h
             exact zR [] [] []
         ·refine zS 4 [(17, .bool v0_9.1), (96, .bool false), (99, .cv (undef)), (100, .cv (undef))] [] ?_
          refine zS 4 [(96, .bool false), (103, .cv (undef)), (104, .cv (undef))] [] ?_
          refine zS 5 [(109, .bool false)] [] ?_
          refine zB [(6, .bool false)] [] ?_
          refine AW.ret ?_
          obtain rfl := Option.some.inj h
          exact zR [] [] []
        ·refine zS 5 [(16, .bool v0_8.1), (17, .bool v0_9.1), (96, .bool false), (97, .cv (undef))] [] ?_
         refine zS 4 [(17, .bool v0_9.1), (96, .bool false), (99, .cv (undef)), (101, .cv (undef))] [] ?_
         refine zS 4 [(96, .bool false), (105, .cv (undef))] [] ?_
         refine zB [(6, .bool false)] [] ?_
         refine AW.ret ?_
         obtain rfl := Option.some.inj h
         exact zR [] [] []
       ·refine zS 5 [(15, .bool v0_7.1), (16, .bool v0_8.1), (17, .bool v0_9.1), (92, .bool false), (93, .cv (undef))] [] ?_
        refine zS 5 [(16, .bool v0_8.1), (17, .bool v0_9.1), (96, .bool false), (98, .cv (undef))] [] ?_
        refine zS 4 [(17, .bool v0_9.1), (96, .bool false), (102, .cv (undef))] [] ?_
        refine zS 5 [(107, .bool false)] [] ?_
        refine zB [(6, .bool false)] [] ?_
        refine AW.ret ?_
        obtain rfl := Option.some.inj h
        exact zR [] [] []

end Go.Proofs.Ytifleoceebaooaa
