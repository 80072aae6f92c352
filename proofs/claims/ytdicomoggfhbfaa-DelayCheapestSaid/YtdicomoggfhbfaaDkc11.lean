/-
  Made by wip/tool/dc.py out of the print of the program: contracts.
-/
import Derived.Test.YtdicomoggfhbfaaDlp
import Derived.Test.YtdicomoggfhbfaaShd
import Derived.Test.YtdicomoggfhbfaaDkc1
import Derived.Test.YtdicomoggfhbfaaDkc10
import Derived.Test.YtdicomoggfhbfaaDkc3
import Derived.Test.YtdicomoggfhbfaaDkc5
import Derived.Test.YtdicomoggfhbfaaDkc6
import Derived.Test.YtdicomoggfhbfaaDkc7
import Derived.Test.YtdicomoggfhbfaaDkc8
import Derived.Test.YtdicomoggfhbfaaDkc9
namespace Go.Proofs.Ytdicomoggfhbfaa
open Go.RowKit

set_option linter.unusedSimpArgs false
set_option linter.unusedVariables false
set_option linter.constructorNameAsVariable false

set_option maxRecDepth 100000
set_option maxHeartbeats 40000000

theorem hc_lineallaw09_DelayCheapest (x0 : List (List (Int × Bool))) (costs : List (List Int)) (fences : List (Int × Int)) (prices : List Int) (cost : Int) {r : Bool} (h : lineallaw09_DelayCheapest x0 costs fences prices cost = some r) : HC Try.prog 11 [] [.sl (.sl (.pair (.int .i64) .bool)) x0, .sl (.sl (.int .i64)) costs, .sl (.pair (.int .i64) (.int .i64)) fences, .sl (.int .i64) prices, .int .i64 cost] [] (.bool r) := by
 unfold lineallaw09_DelayCheapest at h
 refine zH Try.func11 [.tmp 10] 239 ?_
 refine zo ?_
 refine zB [(0, .sl (.sl (.pair (.int .i64) .bool)) x0), (1, .sl (.sl (.int .i64)) costs), (2, .sl (.pair (.int .i64) (.int .i64)) fences), (3, .sl (.int .i64) prices), (4, .int .i64 cost)] [] ?_
 refine AW.seq ?_
 refine zo ?_
 refine zS 1 [(0, .sl (.sl (.pair (.int .i64) .bool)) x0), (1, .sl (.sl (.int .i64)) costs), (2, .sl (.pair (.int .i64) (.int .i64)) fences), (3, .sl (.int .i64) prices), (4, .int .i64 cost), (25, .sl (.sl (.pair (.int .i64) .bool)) x0)] [] ?_
 obtain ⟨v0, hv1, h⟩ := Option.bind_eq_some_iff.1 h
 refine zC [] [] (hc_lineallaw09_Long x0 hv1) [(0, .sl (.sl (.pair (.int .i64) .bool)) x0), (1, .sl (.sl (.int .i64)) costs), (2, .sl (.pair (.int .i64) (.int .i64)) fences), (3, .sl (.int .i64) prices), (4, .int .i64 cost), (26, .bool v0)] [] ?_
 refine zS 1 [(0, .sl (.sl (.pair (.int .i64) .bool)) x0), (1, .sl (.sl (.int .i64)) costs), (2, .sl (.pair (.int .i64) (.int .i64)) fences), (3, .sl (.int .i64) prices), (4, .int .i64 cost), (27, .bool v0)] [] ?_
 rcases zI h with ⟨hb2, h⟩ | ⟨hb2, h⟩
 ·refine zS 5 [(0, .sl (.sl (.pair (.int .i64) .bool)) x0), (1, .sl (.sl (.int .i64)) costs), (2, .sl (.pair (.int .i64) (.int .i64)) fences), (3, .sl (.int .i64) prices), (4, .int .i64 cost), (32, .bool true)] [] ?_
  refine zS 4 [(0, .sl (.sl (.pair (.int .i64) .bool)) x0), (1, .sl (.sl (.int .i64)) costs), (2, .sl (.pair (.int .i64) (.int .i64)) fences), (3, .sl (.int .i64) prices), (4, .int .i64 cost), (32, .bool true), (36, .cv (undef))] [] ?_
  refine zS 5 [(0, .sl (.sl (.pair (.int .i64) .bool)) x0), (1, .sl (.sl (.int .i64)) costs), (2, .sl (.pair (.int .i64) (.int .i64)) fences), (3, .sl (.int .i64) prices), (4, .int .i64 cost), (38, .bool true), (41, .cv (undef))] [] ?_
  refine zS 5 [(0, .sl (.sl (.pair (.int .i64) .bool)) x0), (1, .sl (.sl (.int .i64)) costs), (2, .sl (.pair (.int .i64) (.int .i64)) fences), (3, .sl (.int .i64) prices), (4, .int .i64 cost), (43, .bool true), (46, .cv (undef))] [] ?_
  refine zB [(0, .sl (.sl (.pair (.int .i64) .bool)) x0), (1, .sl (.sl (.int .i64)) costs), (2, .sl (.pair (.int .i64) (.int .i64)) fences), (3, .sl (.int .i64) prices), (4, .int .i64 cost), (47, .bool true)] [] ?_
  refine AW.cond (b := true) rfl (fun _ => ?_) (fun hb3 => by cases hb3)
  refine zo ?_
  obtain ⟨v0_2, hv4, h⟩ := Option.bind_eq_some_iff.1 h
  refine zC [] [] (hc_lineallaw09_Awake hv4) [(48, .bool v0_2)] [] ?_
  refine zB [(10, .bool v0_2)] [] ?_
  refine zr ?_
  obtain rfl := Option.some.inj h
  exact zR [] [] []
 ·refine zS 1 [(0, .sl (.sl (.pair (.int .i64) .bool)) x0), (1, .sl (.sl (.int .i64)) costs), (2, .sl (.pair (.int .i64) (.int .i64)) fences), (3, .sl (.int .i64) prices), (4, .int .i64 cost), (27, .bool false), (28, .sl (.sl (.pair (.int .i64) .bool)) x0)] [] ?_
  obtain ⟨v0_3, hv5, h⟩ := Option.bind_eq_some_iff.1 h
  refine zG [] [] (hc_linealref09_Valid x0 hv5) [(0, .sl (.sl (.pair (.int .i64) .bool)) x0), (1, .sl (.sl (.int .i64)) costs), (2, .sl (.pair (.int .i64) (.int .i64)) fences), (3, .sl (.int .i64) prices), (4, .int .i64 cost), (27, .bool false), (29, .bool v0_3)] [] ?_
  refine zS 3 [(0, .sl (.sl (.pair (.int .i64) .bool)) x0), (1, .sl (.sl (.int .i64)) costs), (2, .sl (.pair (.int .i64) (.int .i64)) fences), (3, .sl (.int .i64) prices), (4, .int .i64 cost), (32, .bool (!v0_3))] [] ?_
  rcases zI h with ⟨hb6, h⟩ | ⟨hb6, h⟩
  ·refine zS 4 [(0, .sl (.sl (.pair (.int .i64) .bool)) x0), (1, .sl (.sl (.int .i64)) costs), (2, .sl (.pair (.int .i64) (.int .i64)) fences), (3, .sl (.int .i64) prices), (4, .int .i64 cost), (32, .bool true), (36, .cv (undef))] [] ?_
   refine zS 5 [(0, .sl (.sl (.pair (.int .i64) .bool)) x0), (1, .sl (.sl (.int .i64)) costs), (2, .sl (.pair (.int .i64) (.int .i64)) fences), (3, .sl (.int .i64) prices), (4, .int .i64 cost), (38, .bool true), (41, .cv (undef))] [] ?_
   refine zS 5 [(0, .sl (.sl (.pair (.int .i64) .bool)) x0), (1, .sl (.sl (.int .i64)) costs), (2, .sl (.pair (.int .i64) (.int .i64)) fences), (3, .sl (.int .i64) prices), (4, .int .i64 cost), (43, .bool true), (46, .cv (undef))] [] ?_
   refine zB [(0, .sl (.sl (.pair (.int .i64) .bool)) x0), (1, .sl (.sl (.int .i64)) costs), (2, .sl (.pair (.int .i64) (.int .i64)) fences), (3, .sl (.int .i64) prices), (4, .int .i64 cost), (47, .bool true)] [] ?_
   refine AW.cond (b := true) rfl (fun _ => ?_) (fun hb7 => by cases hb7)
   refine zo ?_
   obtain ⟨v0_4, hv8, h⟩ := Option.bind_eq_some_iff.1 h
   refine zC [] [] (hc_lineallaw09_Awake hv8) [(48, .bool v0_4)] [] ?_
   refine zB [(10, .bool v0_4)] [] ?_
   refine zr ?_
   obtain rfl := Option.some.inj h
   exact zR [] [] []
  ·refine zS 2 [(0, .sl (.sl (.pair (.int .i64) .bool)) x0), (1, .sl (.sl (.int .i64)) costs), (2, .sl (.pair (.int .i64) (.int .i64)) fences), (3, .sl (.int .i64) prices), (4, .int .i64 cost), (32, .bool false), (33, .sl (.sl (.pair (.int .i64) .bool)) x0), (34, .sl (.sl (.int .i64)) costs)] [] ?_
   obtain ⟨v0_5, hv9, h⟩ := Option.bind_eq_some_iff.1 h
   refine zG [] [] (hc_linealref09_AreCosts x0 costs hv9) [(0, .sl (.sl (.pair (.int .i64) .bool)) x0), (1, .sl (.sl (.int .i64)) costs), (2, .sl (.pair (.int .i64) (.int .i64)) fences), (3, .sl (.int .i64) prices), (4, .int .i64 cost), (32, .bool false), (35, .bool v0_5)] [] ?_
   refine zS 3 [(0, .sl (.sl (.pair (.int .i64) .bool)) x0), (1, .sl (.sl (.int .i64)) costs), (2, .sl (.pair (.int .i64) (.int .i64)) fences), (3, .sl (.int .i64) prices), (4, .int .i64 cost), (38, .bool (!v0_5))] [] ?_
   rcases zI h with ⟨hb10, h⟩ | ⟨hb10, h⟩
   ·refine zS 5 [(0, .sl (.sl (.pair (.int .i64) .bool)) x0), (1, .sl (.sl (.int .i64)) costs), (2, .sl (.pair (.int .i64) (.int .i64)) fences), (3, .sl (.int .i64) prices), (4, .int .i64 cost), (43, .bool true)] [] ?_
    refine zB [(0, .sl (.sl (.pair (.int .i64) .bool)) x0), (1, .sl (.sl (.int .i64)) costs), (2, .sl (.pair (.int .i64) (.int .i64)) fences), (3, .sl (.int .i64) prices), (4, .int .i64 cost), (47, .bool true)] [] ?_
    refine AW.cond (b := true) rfl (fun _ => ?_) (fun hb11 => by cases hb11)
    refine zo ?_
    obtain ⟨v0_6, hv12, h⟩ := Option.bind_eq_some_iff.1 h
    refine zC [] [] (hc_lineallaw09_Awake hv12) [(48, .bool v0_6)] [] ?_
    refine zB [(10, .bool v0_6)] [] ?_
    refine zr ?_
    obtain rfl := Option.some.inj h
    exact zR [] [] []
   ·refine zS 5 [(0, .sl (.sl (.pair (.int .i64) .bool)) x0), (1, .sl (.sl (.int .i64)) costs), (2, .sl (.pair (.int .i64) (.int .i64)) fences), (3, .sl (.int .i64) prices), (4, .int .i64 cost), (43, .bool (decide (40 < (fences.length : Int))))] [] ?_
    rcases zI h with ⟨hb13, h⟩ | ⟨hb13, h⟩
    ·refine zB [(0, .sl (.sl (.pair (.int .i64) .bool)) x0), (1, .sl (.sl (.int .i64)) costs), (2, .sl (.pair (.int .i64) (.int .i64)) fences), (3, .sl (.int .i64) prices), (4, .int .i64 cost), (47, .bool true)] [] ?_
     refine AW.cond (b := true) rfl (fun _ => ?_) (fun hb14 => by cases hb14)
     refine zo ?_
     obtain ⟨v0_7, hv15, h⟩ := Option.bind_eq_some_iff.1 h
     refine zC [] [] (hc_lineallaw09_Awake hv15) [(48, .bool v0_7)] [] ?_
     refine zB [(10, .bool v0_7)] [] ?_
     refine zr ?_
     obtain rfl := Option.some.inj h
     exact zR [] [] []
    ·refine zB [(0, .sl (.sl (.pair (.int .i64) .bool)) x0), (1, .sl (.sl (.int .i64)) costs), (2, .sl (.pair (.int .i64) (.int .i64)) fences), (3, .sl (.int .i64) prices), (4, .int .i64 cost), (47, .bool (decide (100 < (prices.length : Int))))] [] ?_
     refine zQ h (fun hb16 h => ?_) (fun hb16 h => ?_)
     ·refine zo ?_
      obtain ⟨v0_8, hv17, h⟩ := Option.bind_eq_some_iff.1 h
      refine zC [] [] (hc_lineallaw09_Awake hv17) [(48, .bool v0_8)] [] ?_
      refine zB [(10, .bool v0_8)] [] ?_
      refine zr ?_
      obtain rfl := Option.some.inj h
      exact zR [] [] []
     ·refine zk ?_
      refine zo ?_
      refine zS 2 [(0, .sl (.sl (.pair (.int .i64) .bool)) x0), (1, .sl (.sl (.int .i64)) costs), (2, .sl (.pair (.int .i64) (.int .i64)) fences), (3, .sl (.int .i64) prices), (4, .int .i64 cost), (50, .sl (.sl (.pair (.int .i64) .bool)) x0), (51, .sl (.sl (.int .i64)) costs)] [] ?_
      obtain ⟨v0_9, hv18, h⟩ := Option.bind_eq_some_iff.1 h
      refine zC [] [] (hc_delay_Cheapest x0 costs hv18) [(0, .sl (.sl (.pair (.int .i64) .bool)) x0), (1, .sl (.sl (.int .i64)) costs), (2, .sl (.pair (.int .i64) (.int .i64)) fences), (3, .sl (.int .i64) prices), (4, .int .i64 cost), (52, .tup [.sl (.pair (.int .i64) (.int .i64)) v0_9.1, .int .i64 v0_9.2])] [] ?_
      refine zB [(0, .sl (.sl (.pair (.int .i64) .bool)) x0), (1, .sl (.sl (.int .i64)) costs), (2, .sl (.pair (.int .i64) (.int .i64)) fences), (3, .sl (.int .i64) prices), (4, .int .i64 cost), (11, .sl (.pair (.int .i64) (.int .i64)) v0_9.1), (12, .int .i64 v0_9.2)] [] ?_
      refine zo ?_
      refine zS 2 [(0, .sl (.sl (.pair (.int .i64) .bool)) x0), (1, .sl (.sl (.int .i64)) costs), (2, .sl (.pair (.int .i64) (.int .i64)) fences), (3, .sl (.int .i64) prices), (4, .int .i64 cost), (11, .sl (.pair (.int .i64) (.int .i64)) v0_9.1), (12, .int .i64 v0_9.2), (56, .sl (.sl (.pair (.int .i64) .bool)) x0), (57, .sl (.sl (.int .i64)) costs)] [] ?_
      obtain ⟨v0_10, hv19, h⟩ := Option.bind_eq_some_iff.1 h
      refine zC [] [] (hc_delay_Least x0 costs hv19) [(0, .sl (.sl (.pair (.int .i64) .bool)) x0), (1, .sl (.sl (.int .i64)) costs), (2, .sl (.pair (.int .i64) (.int .i64)) fences), (3, .sl (.int .i64) prices), (4, .int .i64 cost), (11, .sl (.pair (.int .i64) (.int .i64)) v0_9.1), (12, .int .i64 v0_9.2), (58, .tup [.int .i64 v0_10.1, .int .i64 v0_10.2])] [] ?_
      refine zB [(0, .sl (.sl (.pair (.int .i64) .bool)) x0), (1, .sl (.sl (.int .i64)) costs), (2, .sl (.pair (.int .i64) (.int .i64)) fences), (3, .sl (.int .i64) prices), (4, .int .i64 cost), (11, .sl (.pair (.int .i64) (.int .i64)) v0_9.1), (12, .int .i64 v0_9.2), (13, .int .i64 v0_10.1), (14, .int .i64 v0_10.2)] [] ?_
      refine zo ?_
      refine zS 2 [(0, .sl (.sl (.pair (.int .i64) .bool)) x0), (1, .sl (.sl (.int .i64)) costs), (2, .sl (.pair (.int .i64) (.int .i64)) fences), (3, .sl (.int .i64) prices), (4, .int .i64 cost), (11, .sl (.pair (.int .i64) (.int .i64)) v0_9.1), (12, .int .i64 v0_9.2), (13, .int .i64 v0_10.1), (14, .int .i64 v0_10.2), (62, .sl (.sl (.pair (.int .i64) .bool)) x0), (63, .sl (.sl (.int .i64)) costs)] [] ?_
      obtain ⟨v0_11, hv20, h⟩ := Option.bind_eq_some_iff.1 h
      refine zC [] [] (hc_delay_Prices x0 costs hv20) [(0, .sl (.sl (.pair (.int .i64) .bool)) x0), (1, .sl (.sl (.int .i64)) costs), (2, .sl (.pair (.int .i64) (.int .i64)) fences), (3, .sl (.int .i64) prices), (4, .int .i64 cost), (11, .sl (.pair (.int .i64) (.int .i64)) v0_9.1), (12, .int .i64 v0_9.2), (13, .int .i64 v0_10.1), (14, .int .i64 v0_10.2), (64, .tup [.own 74000, .int .i64 v0_11.2])] [(74000, .arr 3 (.int .i64) v0_11.1)] ?_
      refine zB [(0, .sl (.sl (.pair (.int .i64) .bool)) x0), (1, .sl (.sl (.int .i64)) costs), (2, .sl (.pair (.int .i64) (.int .i64)) fences), (3, .sl (.int .i64) prices), (4, .int .i64 cost), (11, .sl (.pair (.int .i64) (.int .i64)) v0_9.1), (12, .int .i64 v0_9.2), (13, .int .i64 v0_10.1), (14, .int .i64 v0_10.2), (15, .own 74000), (16, .int .i64 v0_11.2)] [(74000, .arr 3 (.int .i64) v0_11.1)] ?_
      refine zo ?_
      refine zS 1 [(0, .sl (.sl (.pair (.int .i64) .bool)) x0), (1, .sl (.sl (.int .i64)) costs), (2, .sl (.pair (.int .i64) (.int .i64)) fences), (3, .sl (.int .i64) prices), (4, .int .i64 cost), (11, .sl (.pair (.int .i64) (.int .i64)) v0_9.1), (12, .int .i64 v0_9.2), (13, .int .i64 v0_10.1), (14, .int .i64 v0_10.2), (15, .own 74000), (16, .int .i64 v0_11.2), (68, .sl (.sl (.pair (.int .i64) .bool)) x0)] [(74000, .arr 3 (.int .i64) v0_11.1)] ?_
      obtain ⟨v0_12, hv21, h⟩ := Option.bind_eq_some_iff.1 h
      refine zC [] [] (hc_delay_Needed x0 hv21) [(0, .sl (.sl (.pair (.int .i64) .bool)) x0), (1, .sl (.sl (.int .i64)) costs), (2, .sl (.pair (.int .i64) (.int .i64)) fences), (3, .sl (.int .i64) prices), (4, .int .i64 cost), (11, .sl (.pair (.int .i64) (.int .i64)) v0_9.1), (12, .int .i64 v0_9.2), (13, .int .i64 v0_10.1), (14, .int .i64 v0_10.2), (15, .own 74000), (16, .int .i64 v0_11.2), (69, .tup [.own 79000, .int .i64 v0_12.2])] [(74000, .arr 3 (.int .i64) v0_11.1), (79000, .arr 35 (.pair (.int .i64) (.pair (.int .i64) (.int .i64))) v0_12.1)] ?_
      refine zB [(0, .sl (.sl (.pair (.int .i64) .bool)) x0), (1, .sl (.sl (.int .i64)) costs), (2, .sl (.pair (.int .i64) (.int .i64)) fences), (3, .sl (.int .i64) prices), (4, .int .i64 cost), (11, .sl (.pair (.int .i64) (.int .i64)) v0_9.1), (12, .int .i64 v0_9.2), (13, .int .i64 v0_10.1), (14, .int .i64 v0_10.2), (15, .own 74000), (16, .int .i64 v0_11.2), (17, .own 79000), (18, .int .i64 v0_12.2)] [(74000, .arr 3 (.int .i64) v0_11.1), (79000, .arr 35 (.pair (.int .i64) (.pair (.int .i64) (.int .i64))) v0_12.1)] ?_
      refine AW.seq ?_
      refine zo ?_
      refine zS 3 [(0, .sl (.sl (.pair (.int .i64) .bool)) x0), (1, .sl (.sl (.int .i64)) costs), (2, .sl (.pair (.int .i64) (.int .i64)) fences), (3, .sl (.int .i64) prices), (4, .int .i64 cost), (11, .sl (.pair (.int .i64) (.int .i64)) v0_9.1), (13, .int .i64 v0_10.1), (14, .int .i64 v0_10.2), (15, .own 74000), (16, .int .i64 v0_11.2), (17, .own 79000), (18, .int .i64 v0_12.2), (74, .bool (!(decide (v0_9.2 = 0))))] [(74000, .arr 3 (.int .i64) v0_11.1), (79000, .arr 35 (.pair (.int .i64) (.pair (.int .i64) (.int .i64))) v0_12.1)] ?_
      rcases zI h with ⟨hb22, h⟩ | ⟨hb22, h⟩
      ·refine zS 5 [(0, .sl (.sl (.pair (.int .i64) .bool)) x0), (1, .sl (.sl (.int .i64)) costs), (2, .sl (.pair (.int .i64) (.int .i64)) fences), (3, .sl (.int .i64) prices), (4, .int .i64 cost), (11, .sl (.pair (.int .i64) (.int .i64)) v0_9.1), (13, .int .i64 v0_10.1), (15, .own 74000), (17, .own 79000), (18, .int .i64 v0_12.2), (78, .bool true), (79, .cv (undef))] [(74000, .arr 3 (.int .i64) v0_11.1), (79000, .arr 35 (.pair (.int .i64) (.pair (.int .i64) (.int .i64))) v0_12.1)] ?_
       refine zS 5 [(0, .sl (.sl (.pair (.int .i64) .bool)) x0), (1, .sl (.sl (.int .i64)) costs), (2, .sl (.pair (.int .i64) (.int .i64)) fences), (3, .sl (.int .i64) prices), (4, .int .i64 cost), (11, .sl (.pair (.int .i64) (.int .i64)) v0_9.1), (13, .int .i64 v0_10.1), (15, .own 74000), (17, .own 79000), (82, .bool true), (84, .cv (undef))] [(74000, .arr 3 (.int .i64) v0_11.1), (79000, .arr 35 (.pair (.int .i64) (.pair (.int .i64) (.int .i64))) v0_12.1)] ?_
       refine zB [(0, .sl (.sl (.pair (.int .i64) .bool)) x0), (1, .sl (.sl (.int .i64)) costs), (2, .sl (.pair (.int .i64) (.int .i64)) fences), (3, .sl (.int .i64) prices), (4, .int .i64 cost), (11, .sl (.pair (.int .i64) (.int .i64)) v0_9.1), (13, .int .i64 v0_10.1), (15, .own 74000), (17, .own 79000), (85, .bool true)] [(74000, .arr 3 (.int .i64) v0_11.1), (79000, .arr 35 (.pair (.int .i64) (.pair (.int .i64) (.int .i64))) v0_12.1)] ?_
       refine AW.cond (b := true) rfl (fun _ => ?_) (fun hb23 => by cases hb23)
       refine zo ?_
       refine zB [(10, .bool false)] [] ?_
       refine zr ?_
       obtain rfl := Option.some.inj h
       exact zR [] [] []
      ·refine zS 4 [(0, .sl (.sl (.pair (.int .i64) .bool)) x0), (1, .sl (.sl (.int .i64)) costs), (2, .sl (.pair (.int .i64) (.int .i64)) fences), (3, .sl (.int .i64) prices), (4, .int .i64 cost), (11, .sl (.pair (.int .i64) (.int .i64)) v0_9.1), (13, .int .i64 v0_10.1), (15, .own 74000), (16, .int .i64 v0_11.2), (17, .own 79000), (18, .int .i64 v0_12.2), (78, .bool (!(decide (v0_10.2 = 0))))] [(74000, .arr 3 (.int .i64) v0_11.1), (79000, .arr 35 (.pair (.int .i64) (.pair (.int .i64) (.int .i64))) v0_12.1)] ?_
       rcases zI h with ⟨hb24, h⟩ | ⟨hb24, h⟩
       ·refine zS 5 [(0, .sl (.sl (.pair (.int .i64) .bool)) x0), (1, .sl (.sl (.int .i64)) costs), (2, .sl (.pair (.int .i64) (.int .i64)) fences), (3, .sl (.int .i64) prices), (4, .int .i64 cost), (11, .sl (.pair (.int .i64) (.int .i64)) v0_9.1), (13, .int .i64 v0_10.1), (15, .own 74000), (17, .own 79000), (82, .bool true), (83, .cv (undef))] [(74000, .arr 3 (.int .i64) v0_11.1), (79000, .arr 35 (.pair (.int .i64) (.pair (.int .i64) (.int .i64))) v0_12.1)] ?_
        refine zB [(0, .sl (.sl (.pair (.int .i64) .bool)) x0), (1, .sl (.sl (.int .i64)) costs), (2, .sl (.pair (.int .i64) (.int .i64)) fences), (3, .sl (.int .i64) prices), (4, .int .i64 cost), (11, .sl (.pair (.int .i64) (.int .i64)) v0_9.1), (13, .int .i64 v0_10.1), (15, .own 74000), (17, .own 79000), (85, .bool true)] [(74000, .arr 3 (.int .i64) v0_11.1), (79000, .arr 35 (.pair (.int .i64) (.pair (.int .i64) (.int .i64))) v0_12.1)] ?_
        refine AW.cond (b := true) rfl (fun _ => ?_) (fun hb25 => by cases hb25)
        refine zo ?_
        refine zB [(10, .bool false)] [] ?_
        refine zr ?_
        obtain rfl := Option.some.inj h
        exact zR [] [] []
       ·refine zS 4 [(0, .sl (.sl (.pair (.int .i64) .bool)) x0), (1, .sl (.sl (.int .i64)) costs), (2, .sl (.pair (.int .i64) (.int .i64)) fences), (3, .sl (.int .i64) prices), (4, .int .i64 cost), (11, .sl (.pair (.int .i64) (.int .i64)) v0_9.1), (13, .int .i64 v0_10.1), (15, .own 74000), (17, .own 79000), (18, .int .i64 v0_12.2), (82, .bool (!(decide (v0_11.2 = 0))))] [(74000, .arr 3 (.int .i64) v0_11.1), (79000, .arr 35 (.pair (.int .i64) (.pair (.int .i64) (.int .i64))) v0_12.1)] ?_
        rcases zI h with ⟨hb26, h⟩ | ⟨hb26, h⟩
        ·refine zB [(0, .sl (.sl (.pair (.int .i64) .bool)) x0), (1, .sl (.sl (.int .i64)) costs), (2, .sl (.pair (.int .i64) (.int .i64)) fences), (3, .sl (.int .i64) prices), (4, .int .i64 cost), (11, .sl (.pair (.int .i64) (.int .i64)) v0_9.1), (13, .int .i64 v0_10.1), (15, .own 74000), (17, .own 79000), (85, .bool true)] [(74000, .arr 3 (.int .i64) v0_11.1), (79000, .arr 35 (.pair (.int .i64) (.pair (.int .i64) (.int .i64))) v0_12.1)] ?_
         refine AW.cond (b := true) rfl (fun _ => ?_) (fun hb27 => by cases hb27)
         refine zo ?_
         refine zB [(10, .bool false)] [] ?_
         refine zr ?_
         obtain rfl := Option.some.inj h
         exact zR [] [] []
        ·refine zB [(0, .sl (.sl (.pair (.int .i64) .bool)) x0), (1, .sl (.sl (.int .i64)) costs), (2, .sl (.pair (.int .i64) (.int .i64)) fences), (3, .sl (.int .i64) prices), (4, .int .i64 cost), (11, .sl (.pair (.int .i64) (.int .i64)) v0_9.1), (13, .int .i64 v0_10.1), (15, .own 74000), (17, .own 79000), (85, .bool (!(decide (v0_12.2 = 0))))] [(74000, .arr 3 (.int .i64) v0_11.1), (79000, .arr 35 (.pair (.int .i64) (.pair (.int .i64) (.int .i64))) v0_12.1)] ?_
         refine zQ h (fun hb28 h => ?_) (fun hb28 h => ?_)
         ·refine zo ?_
          refine zB [(10, .bool false)] [] ?_
          refine zr ?_
          obtain rfl := Option.some.inj h
          exact zR [] [] []
         ·refine zk ?_
          refine zo ?_
          refine zS 2 [(0, .sl (.sl (.pair (.int .i64) .bool)) x0), (1, .sl (.sl (.int .i64)) costs), (2, .sl (.pair (.int .i64) (.int .i64)) fences), (3, .sl (.int .i64) prices), (4, .int .i64 cost), (11, .sl (.pair (.int .i64) (.int .i64)) v0_9.1), (13, .int .i64 v0_10.1), (15, .own 74000), (17, .own 79000), (87, .sl (.sl (.pair (.int .i64) .bool)) x0), (88, .sl (.pair (.int .i64) (.int .i64)) v0_9.1)] [(74000, .arr 3 (.int .i64) v0_11.1), (79000, .arr 35 (.pair (.int .i64) (.pair (.int .i64) (.int .i64))) v0_12.1)] ?_
          obtain ⟨v0_13, hv29, h⟩ := Option.bind_eq_some_iff.1 h
          refine zC [] [] (hc_delay_Enough x0 v0_9.1 hv29) [(0, .sl (.sl (.pair (.int .i64) .bool)) x0), (1, .sl (.sl (.int .i64)) costs), (2, .sl (.pair (.int .i64) (.int .i64)) fences), (3, .sl (.int .i64) prices), (4, .int .i64 cost), (11, .sl (.pair (.int .i64) (.int .i64)) v0_9.1), (13, .int .i64 v0_10.1), (15, .own 74000), (17, .own 79000), (89, .tup [.bool v0_13.1, .int .i64 v0_13.2])] [(74000, .arr 3 (.int .i64) v0_11.1), (79000, .arr 35 (.pair (.int .i64) (.pair (.int .i64) (.int .i64))) v0_12.1)] ?_
          refine zB [(0, .sl (.sl (.pair (.int .i64) .bool)) x0), (1, .sl (.sl (.int .i64)) costs), (2, .sl (.pair (.int .i64) (.int .i64)) fences), (3, .sl (.int .i64) prices), (4, .int .i64 cost), (11, .sl (.pair (.int .i64) (.int .i64)) v0_9.1), (12, .int .i64 v0_13.2), (13, .int .i64 v0_10.1), (15, .own 74000), (17, .own 79000), (19, .bool v0_13.1)] [(74000, .arr 3 (.int .i64) v0_11.1), (79000, .arr 35 (.pair (.int .i64) (.pair (.int .i64) (.int .i64))) v0_12.1)] ?_
          refine zo ?_
          refine zS 3 [(0, .sl (.sl (.pair (.int .i64) .bool)) x0), (1, .sl (.sl (.int .i64)) costs), (2, .sl (.pair (.int .i64) (.int .i64)) fences), (3, .sl (.int .i64) prices), (4, .int .i64 cost), (12, .int .i64 v0_13.2), (13, .int .i64 v0_10.1), (15, .own 74000), (17, .own 79000), (19, .bool v0_13.1), (93, .sl (.sl (.pair (.int .i64) .bool)) x0), (94, .sl (.sl (.int .i64)) costs), (95, .sl (.pair (.int .i64) (.int .i64)) v0_9.1)] [(74000, .arr 3 (.int .i64) v0_11.1), (79000, .arr 35 (.pair (.int .i64) (.pair (.int .i64) (.int .i64))) v0_12.1)] ?_
          obtain ⟨v0_14, hv30, h⟩ := Option.bind_eq_some_iff.1 h
          refine zC [] [] (hc_delay_Cost x0 costs v0_9.1 hv30) [(0, .sl (.sl (.pair (.int .i64) .bool)) x0), (1, .sl (.sl (.int .i64)) costs), (2, .sl (.pair (.int .i64) (.int .i64)) fences), (3, .sl (.int .i64) prices), (4, .int .i64 cost), (12, .int .i64 v0_13.2), (13, .int .i64 v0_10.1), (15, .own 74000), (17, .own 79000), (19, .bool v0_13.1), (96, .tup [.int .i64 v0_14.1, .int .i64 v0_14.2])] [(74000, .arr 3 (.int .i64) v0_11.1), (79000, .arr 35 (.pair (.int .i64) (.pair (.int .i64) (.int .i64))) v0_12.1)] ?_
          refine zB [(0, .sl (.sl (.pair (.int .i64) .bool)) x0), (1, .sl (.sl (.int .i64)) costs), (2, .sl (.pair (.int .i64) (.int .i64)) fences), (3, .sl (.int .i64) prices), (4, .int .i64 cost), (12, .int .i64 v0_13.2), (13, .int .i64 v0_10.1), (14, .int .i64 v0_14.2), (15, .own 74000), (17, .own 79000), (19, .bool v0_13.1), (20, .int .i64 v0_14.1)] [(74000, .arr 3 (.int .i64) v0_11.1), (79000, .arr 35 (.pair (.int .i64) (.pair (.int .i64) (.int .i64))) v0_12.1)] ?_
          refine zo ?_
          refine zS 4 [(0, .sl (.sl (.pair (.int .i64) .bool)) x0), (1, .sl (.sl (.int .i64)) costs), (2, .sl (.pair (.int .i64) (.int .i64)) fences), (3, .sl (.int .i64) prices), (4, .int .i64 cost), (12, .int .i64 v0_13.2), (13, .int .i64 v0_10.1), (14, .int .i64 v0_14.2), (15, .own 74000), (17, .own 79000), (19, .bool v0_13.1), (20, .int .i64 v0_14.1), (100, .sl (.sl (.pair (.int .i64) .bool)) x0), (101, .sl (.sl (.int .i64)) costs), (102, .own 74000), (103, .int .i64 v0_10.1)] [(74000, .arr 3 (.int .i64) v0_11.1), (79000, .arr 35 (.pair (.int .i64) (.pair (.int .i64) (.int .i64))) v0_12.1)] ?_
          obtain ⟨v0_15, hv31, h⟩ := Option.bind_eq_some_iff.1 h
          refine zC [74000] [] (hc_delay_Prove x0 costs v0_11.1 v0_10.1 hv31) [(0, .sl (.sl (.pair (.int .i64) .bool)) x0), (1, .sl (.sl (.int .i64)) costs), (2, .sl (.pair (.int .i64) (.int .i64)) fences), (3, .sl (.int .i64) prices), (4, .int .i64 cost), (12, .int .i64 v0_13.2), (13, .int .i64 v0_10.1), (14, .int .i64 v0_14.2), (15, .own 74000), (17, .own 79000), (19, .bool v0_13.1), (20, .int .i64 v0_14.1), (104, .tup [.bool v0_15.1, .int .i64 v0_15.2])] [(74000, .arr 3 (.int .i64) v0_11.1), (79000, .arr 35 (.pair (.int .i64) (.pair (.int .i64) (.int .i64))) v0_12.1)] ?_
          refine zB [(0, .sl (.sl (.pair (.int .i64) .bool)) x0), (1, .sl (.sl (.int .i64)) costs), (2, .sl (.pair (.int .i64) (.int .i64)) fences), (3, .sl (.int .i64) prices), (4, .int .i64 cost), (12, .int .i64 v0_13.2), (13, .int .i64 v0_10.1), (14, .int .i64 v0_14.2), (15, .own 74000), (16, .int .i64 v0_15.2), (17, .own 79000), (19, .bool v0_13.1), (20, .int .i64 v0_14.1), (21, .bool v0_15.1)] [(74000, .arr 3 (.int .i64) v0_11.1), (79000, .arr 35 (.pair (.int .i64) (.pair (.int .i64) (.int .i64))) v0_12.1)] ?_
          refine zo ?_
          obtain ⟨c32, h⟩ := ck_some.1 h
          refine zS 5 [(0, .sl (.sl (.pair (.int .i64) .bool)) x0), (1, .sl (.sl (.int .i64)) costs), (2, .sl (.pair (.int .i64) (.int .i64)) fences), (3, .sl (.int .i64) prices), (4, .int .i64 cost), (12, .int .i64 v0_13.2), (13, .int .i64 v0_10.1), (14, .int .i64 v0_14.2), (16, .int .i64 v0_15.2), (17, .own 79000), (19, .bool v0_13.1), (20, .int .i64 v0_14.1), (21, .bool v0_15.1), (108, .sl (.sl (.pair (.int .i64) .bool)) x0), (109, .sl (.sl (.int .i64)) costs), (110, .own 74000), (112, .int .i64 (v0_10.1 + 1))] [(74000, .arr 3 (.int .i64) v0_11.1), (79000, .arr 35 (.pair (.int .i64) (.pair (.int .i64) (.int .i64))) v0_12.1)] ?_
          obtain ⟨v0_16, hv33, h⟩ := Option.bind_eq_some_iff.1 h
          refine zC [74000] [] (hc_delay_Prove x0 costs v0_11.1 (v0_10.1 + 1) hv33) [(0, .sl (.sl (.pair (.int .i64) .bool)) x0), (1, .sl (.sl (.int .i64)) costs), (2, .sl (.pair (.int .i64) (.int .i64)) fences), (3, .sl (.int .i64) prices), (4, .int .i64 cost), (12, .int .i64 v0_13.2), (13, .int .i64 v0_10.1), (14, .int .i64 v0_14.2), (16, .int .i64 v0_15.2), (17, .own 79000), (19, .bool v0_13.1), (20, .int .i64 v0_14.1), (21, .bool v0_15.1), (113, .tup [.bool v0_16.1, .int .i64 v0_16.2])] [(79000, .arr 35 (.pair (.int .i64) (.pair (.int .i64) (.int .i64))) v0_12.1)] ?_
          refine zB [(0, .sl (.sl (.pair (.int .i64) .bool)) x0), (1, .sl (.sl (.int .i64)) costs), (2, .sl (.pair (.int .i64) (.int .i64)) fences), (3, .sl (.int .i64) prices), (4, .int .i64 cost), (12, .int .i64 v0_13.2), (13, .int .i64 v0_10.1), (14, .int .i64 v0_14.2), (16, .int .i64 v0_15.2), (17, .own 79000), (18, .int .i64 v0_16.2), (19, .bool v0_13.1), (20, .int .i64 v0_14.1), (21, .bool v0_15.1), (22, .bool v0_16.1)] [(79000, .arr 35 (.pair (.int .i64) (.pair (.int .i64) (.int .i64))) v0_12.1)] ?_
          refine AW.seq ?_
          refine zo ?_
          refine zS 3 [(0, .sl (.sl (.pair (.int .i64) .bool)) x0), (1, .sl (.sl (.int .i64)) costs), (2, .sl (.pair (.int .i64) (.int .i64)) fences), (3, .sl (.int .i64) prices), (4, .int .i64 cost), (13, .int .i64 v0_10.1), (14, .int .i64 v0_14.2), (16, .int .i64 v0_15.2), (17, .own 79000), (18, .int .i64 v0_16.2), (19, .bool v0_13.1), (20, .int .i64 v0_14.1), (21, .bool v0_15.1), (22, .bool v0_16.1), (118, .bool (!(decide (v0_13.2 = 0))))] [(79000, .arr 35 (.pair (.int .i64) (.pair (.int .i64) (.int .i64))) v0_12.1)] ?_
          rcases zI h with ⟨hb34, h⟩ | ⟨hb34, h⟩
          ·refine zS 5 [(0, .sl (.sl (.pair (.int .i64) .bool)) x0), (1, .sl (.sl (.int .i64)) costs), (2, .sl (.pair (.int .i64) (.int .i64)) fences), (3, .sl (.int .i64) prices), (4, .int .i64 cost), (13, .int .i64 v0_10.1), (17, .own 79000), (18, .int .i64 v0_16.2), (19, .bool v0_13.1), (20, .int .i64 v0_14.1), (21, .bool v0_15.1), (22, .bool v0_16.1), (122, .bool true), (123, .cv (undef))] [(79000, .arr 35 (.pair (.int .i64) (.pair (.int .i64) (.int .i64))) v0_12.1)] ?_
           refine zS 5 [(0, .sl (.sl (.pair (.int .i64) .bool)) x0), (1, .sl (.sl (.int .i64)) costs), (2, .sl (.pair (.int .i64) (.int .i64)) fences), (3, .sl (.int .i64) prices), (4, .int .i64 cost), (13, .int .i64 v0_10.1), (17, .own 79000), (19, .bool v0_13.1), (20, .int .i64 v0_14.1), (21, .bool v0_15.1), (22, .bool v0_16.1), (126, .bool true), (128, .cv (undef))] [(79000, .arr 35 (.pair (.int .i64) (.pair (.int .i64) (.int .i64))) v0_12.1)] ?_
           refine zS 5 [(0, .sl (.sl (.pair (.int .i64) .bool)) x0), (1, .sl (.sl (.int .i64)) costs), (2, .sl (.pair (.int .i64) (.int .i64)) fences), (3, .sl (.int .i64) prices), (4, .int .i64 cost), (13, .int .i64 v0_10.1), (17, .own 79000), (20, .int .i64 v0_14.1), (21, .bool v0_15.1), (22, .bool v0_16.1), (133, .bool true)] [(79000, .arr 35 (.pair (.int .i64) (.pair (.int .i64) (.int .i64))) v0_12.1)] ?_
           refine zS 5 [(0, .sl (.sl (.pair (.int .i64) .bool)) x0), (1, .sl (.sl (.int .i64)) costs), (2, .sl (.pair (.int .i64) (.int .i64)) fences), (3, .sl (.int .i64) prices), (4, .int .i64 cost), (13, .int .i64 v0_10.1), (17, .own 79000), (21, .bool v0_15.1), (22, .bool v0_16.1), (138, .bool true)] [(79000, .arr 35 (.pair (.int .i64) (.pair (.int .i64) (.int .i64))) v0_12.1)] ?_
           refine zS 5 [(0, .sl (.sl (.pair (.int .i64) .bool)) x0), (1, .sl (.sl (.int .i64)) costs), (2, .sl (.pair (.int .i64) (.int .i64)) fences), (3, .sl (.int .i64) prices), (4, .int .i64 cost), (13, .int .i64 v0_10.1), (17, .own 79000), (22, .bool v0_16.1), (143, .bool true)] [(79000, .arr 35 (.pair (.int .i64) (.pair (.int .i64) (.int .i64))) v0_12.1)] ?_
           refine zB [(0, .sl (.sl (.pair (.int .i64) .bool)) x0), (1, .sl (.sl (.int .i64)) costs), (2, .sl (.pair (.int .i64) (.int .i64)) fences), (3, .sl (.int .i64) prices), (4, .int .i64 cost), (13, .int .i64 v0_10.1), (17, .own 79000), (145, .bool true)] [(79000, .arr 35 (.pair (.int .i64) (.pair (.int .i64) (.int .i64))) v0_12.1)] ?_
           refine AW.cond (b := true) rfl (fun _ => ?_) (fun hb35 => by cases hb35)
           refine zo ?_
           refine zB [(10, .bool false)] [] ?_
           refine zr ?_
           obtain rfl := Option.some.inj h
           exact zR [] [] []
          ·refine zS 4 [(0, .sl (.sl (.pair (.int .i64) .bool)) x0), (1, .sl (.sl (.int .i64)) costs), (2, .sl (.pair (.int .i64) (.int .i64)) fences), (3, .sl (.int .i64) prices), (4, .int .i64 cost), (13, .int .i64 v0_10.1), (16, .int .i64 v0_15.2), (17, .own 79000), (18, .int .i64 v0_16.2), (19, .bool v0_13.1), (20, .int .i64 v0_14.1), (21, .bool v0_15.1), (22, .bool v0_16.1), (122, .bool (!(decide (v0_14.2 = 0))))] [(79000, .arr 35 (.pair (.int .i64) (.pair (.int .i64) (.int .i64))) v0_12.1)] ?_
           rcases zI h with ⟨hb36, h⟩ | ⟨hb36, h⟩
           ·refine zS 5 [(0, .sl (.sl (.pair (.int .i64) .bool)) x0), (1, .sl (.sl (.int .i64)) costs), (2, .sl (.pair (.int .i64) (.int .i64)) fences), (3, .sl (.int .i64) prices), (4, .int .i64 cost), (13, .int .i64 v0_10.1), (17, .own 79000), (19, .bool v0_13.1), (20, .int .i64 v0_14.1), (21, .bool v0_15.1), (22, .bool v0_16.1), (126, .bool true), (127, .cv (undef))] [(79000, .arr 35 (.pair (.int .i64) (.pair (.int .i64) (.int .i64))) v0_12.1)] ?_
            refine zS 5 [(0, .sl (.sl (.pair (.int .i64) .bool)) x0), (1, .sl (.sl (.int .i64)) costs), (2, .sl (.pair (.int .i64) (.int .i64)) fences), (3, .sl (.int .i64) prices), (4, .int .i64 cost), (13, .int .i64 v0_10.1), (17, .own 79000), (20, .int .i64 v0_14.1), (21, .bool v0_15.1), (22, .bool v0_16.1), (130, .bool true), (132, .cv (undef))] [(79000, .arr 35 (.pair (.int .i64) (.pair (.int .i64) (.int .i64))) v0_12.1)] ?_
            refine zS 5 [(0, .sl (.sl (.pair (.int .i64) .bool)) x0), (1, .sl (.sl (.int .i64)) costs), (2, .sl (.pair (.int .i64) (.int .i64)) fences), (3, .sl (.int .i64) prices), (4, .int .i64 cost), (13, .int .i64 v0_10.1), (17, .own 79000), (21, .bool v0_15.1), (22, .bool v0_16.1), (134, .bool true), (137, .cv (undef))] [(79000, .arr 35 (.pair (.int .i64) (.pair (.int .i64) (.int .i64))) v0_12.1)] ?_
            refine zS 5 [(0, .sl (.sl (.pair (.int .i64) .bool)) x0), (1, .sl (.sl (.int .i64)) costs), (2, .sl (.pair (.int .i64) (.int .i64)) fences), (3, .sl (.int .i64) prices), (4, .int .i64 cost), (13, .int .i64 v0_10.1), (17, .own 79000), (22, .bool v0_16.1), (142, .bool true)] [(79000, .arr 35 (.pair (.int .i64) (.pair (.int .i64) (.int .i64))) v0_12.1)] ?_
            refine zB [(0, .sl (.sl (.pair (.int .i64) .bool)) x0), (1, .sl (.sl (.int .i64)) costs), (2, .sl (.pair (.int .i64) (.int .i64)) fences), (3, .sl (.int .i64) prices), (4, .int .i64 cost), (13, .int .i64 v0_10.1), (17, .own 79000), (145, .bool true)] [(79000, .arr 35 (.pair (.int .i64) (.pair (.int .i64) (.int .i64))) v0_12.1)] ?_
            refine AW.cond (b := true) rfl (fun _ => ?_) (fun hb37 => by cases hb37)
            refine zo ?_
            refine zB [(10, .bool false)] [] ?_
            refine zr ?_
            obtain rfl := Option.some.inj h
            exact zR [] [] []
           ·refine zS 4 [(0, .sl (.sl (.pair (.int .i64) .bool)) x0), (1, .sl (.sl (.int .i64)) costs), (2, .sl (.pair (.int .i64) (.int .i64)) fences), (3, .sl (.int .i64) prices), (4, .int .i64 cost), (13, .int .i64 v0_10.1), (17, .own 79000), (18, .int .i64 v0_16.2), (19, .bool v0_13.1), (20, .int .i64 v0_14.1), (21, .bool v0_15.1), (22, .bool v0_16.1), (126, .bool (!(decide (v0_15.2 = 0))))] [(79000, .arr 35 (.pair (.int .i64) (.pair (.int .i64) (.int .i64))) v0_12.1)] ?_
            rcases zI h with ⟨hb38, h⟩ | ⟨hb38, h⟩
            ·refine zS 5 [(0, .sl (.sl (.pair (.int .i64) .bool)) x0), (1, .sl (.sl (.int .i64)) costs), (2, .sl (.pair (.int .i64) (.int .i64)) fences), (3, .sl (.int .i64) prices), (4, .int .i64 cost), (13, .int .i64 v0_10.1), (17, .own 79000), (20, .int .i64 v0_14.1), (21, .bool v0_15.1), (22, .bool v0_16.1), (130, .bool true), (131, .cv (undef))] [(79000, .arr 35 (.pair (.int .i64) (.pair (.int .i64) (.int .i64))) v0_12.1)] ?_
             refine zS 5 [(0, .sl (.sl (.pair (.int .i64) .bool)) x0), (1, .sl (.sl (.int .i64)) costs), (2, .sl (.pair (.int .i64) (.int .i64)) fences), (3, .sl (.int .i64) prices), (4, .int .i64 cost), (13, .int .i64 v0_10.1), (17, .own 79000), (21, .bool v0_15.1), (22, .bool v0_16.1), (134, .bool true), (135, .cv (undef)), (136, .cv (undef))] [(79000, .arr 35 (.pair (.int .i64) (.pair (.int .i64) (.int .i64))) v0_12.1)] ?_
             refine zS 5 [(0, .sl (.sl (.pair (.int .i64) .bool)) x0), (1, .sl (.sl (.int .i64)) costs), (2, .sl (.pair (.int .i64) (.int .i64)) fences), (3, .sl (.int .i64) prices), (4, .int .i64 cost), (13, .int .i64 v0_10.1), (17, .own 79000), (22, .bool v0_16.1), (139, .bool true), (141, .cv (undef))] [(79000, .arr 35 (.pair (.int .i64) (.pair (.int .i64) (.int .i64))) v0_12.1)] ?_
             refine zB [(0, .sl (.sl (.pair (.int .i64) .bool)) x0), (1, .sl (.sl (.int .i64)) costs), (2, .sl (.pair (.int .i64) (.int .i64)) fences), (3, .sl (.int .i64) prices), (4, .int .i64 cost), (13, .int .i64 v0_10.1), (17, .own 79000), (145, .bool true)] [(79000, .arr 35 (.pair (.int .i64) (.pair (.int .i64) (.int .i64))) v0_12.1)] ?_
             refine AW.cond (b := true) rfl (fun _ => ?_) (fun hb39 => by cases hb39)
             refine zo ?_
             refine zB [(10, .bool false)] [] ?_
             refine zr ?_
             obtain rfl := Option.some.inj h
             exact zR [] [] []
            ·refine zS 4 [(0, .sl (.sl (.pair (.int .i64) .bool)) x0), (1, .sl (.sl (.int .i64)) costs), (2, .sl (.pair (.int .i64) (.int .i64)) fences), (3, .sl (.int .i64) prices), (4, .int .i64 cost), (13, .int .i64 v0_10.1), (17, .own 79000), (19, .bool v0_13.1), (20, .int .i64 v0_14.1), (21, .bool v0_15.1), (22, .bool v0_16.1), (130, .bool (!(decide (v0_16.2 = 0))))] [(79000, .arr 35 (.pair (.int .i64) (.pair (.int .i64) (.int .i64))) v0_12.1)] ?_
             rcases zI h with ⟨hb40, h⟩ | ⟨hb40, h⟩
             ·refine zS 5 [(0, .sl (.sl (.pair (.int .i64) .bool)) x0), (1, .sl (.sl (.int .i64)) costs), (2, .sl (.pair (.int .i64) (.int .i64)) fences), (3, .sl (.int .i64) prices), (4, .int .i64 cost), (13, .int .i64 v0_10.1), (17, .own 79000), (21, .bool v0_15.1), (22, .bool v0_16.1), (134, .bool true), (135, .cv (undef))] [(79000, .arr 35 (.pair (.int .i64) (.pair (.int .i64) (.int .i64))) v0_12.1)] ?_
              refine zS 5 [(0, .sl (.sl (.pair (.int .i64) .bool)) x0), (1, .sl (.sl (.int .i64)) costs), (2, .sl (.pair (.int .i64) (.int .i64)) fences), (3, .sl (.int .i64) prices), (4, .int .i64 cost), (13, .int .i64 v0_10.1), (17, .own 79000), (22, .bool v0_16.1), (139, .bool true), (140, .cv (undef))] [(79000, .arr 35 (.pair (.int .i64) (.pair (.int .i64) (.int .i64))) v0_12.1)] ?_
              refine zB [(0, .sl (.sl (.pair (.int .i64) .bool)) x0), (1, .sl (.sl (.int .i64)) costs), (2, .sl (.pair (.int .i64) (.int .i64)) fences), (3, .sl (.int .i64) prices), (4, .int .i64 cost), (13, .int .i64 v0_10.1), (17, .own 79000), (145, .bool true)] [(79000, .arr 35 (.pair (.int .i64) (.pair (.int .i64) (.int .i64))) v0_12.1)] ?_
              refine AW.cond (b := true) rfl (fun _ => ?_) (fun hb41 => by cases hb41)
              refine zo ?_
              refine zB [(10, .bool false)] [] ?_
              refine zr ?_
              obtain rfl := Option.some.inj h
              exact zR [] [] []
             ·refine zS 4 [(0, .sl (.sl (.pair (.int .i64) .bool)) x0), (1, .sl (.sl (.int .i64)) costs), (2, .sl (.pair (.int .i64) (.int .i64)) fences), (3, .sl (.int .i64) prices), (4, .int .i64 cost), (13, .int .i64 v0_10.1), (17, .own 79000), (20, .int .i64 v0_14.1), (21, .bool v0_15.1), (22, .bool v0_16.1), (134, .bool (!v0_13.1))] [(79000, .arr 35 (.pair (.int .i64) (.pair (.int .i64) (.int .i64))) v0_12.1)] ?_
              rcases zI h with ⟨hb42, h⟩ | ⟨hb42, h⟩
              ·refine zS 5 [(0, .sl (.sl (.pair (.int .i64) .bool)) x0), (1, .sl (.sl (.int .i64)) costs), (2, .sl (.pair (.int .i64) (.int .i64)) fences), (3, .sl (.int .i64) prices), (4, .int .i64 cost), (13, .int .i64 v0_10.1), (17, .own 79000), (21, .bool v0_15.1), (22, .bool v0_16.1), (139, .bool true)] [(79000, .arr 35 (.pair (.int .i64) (.pair (.int .i64) (.int .i64))) v0_12.1)] ?_
               refine zS 5 [(0, .sl (.sl (.pair (.int .i64) .bool)) x0), (1, .sl (.sl (.int .i64)) costs), (2, .sl (.pair (.int .i64) (.int .i64)) fences), (3, .sl (.int .i64) prices), (4, .int .i64 cost), (13, .int .i64 v0_10.1), (17, .own 79000), (143, .bool true), (144, .cv (undef))] [(79000, .arr 35 (.pair (.int .i64) (.pair (.int .i64) (.int .i64))) v0_12.1)] ?_
               refine zB [(0, .sl (.sl (.pair (.int .i64) .bool)) x0), (1, .sl (.sl (.int .i64)) costs), (2, .sl (.pair (.int .i64) (.int .i64)) fences), (3, .sl (.int .i64) prices), (4, .int .i64 cost), (13, .int .i64 v0_10.1), (17, .own 79000), (145, .bool true)] [(79000, .arr 35 (.pair (.int .i64) (.pair (.int .i64) (.int .i64))) v0_12.1)] ?_
               refine AW.cond (b := true) rfl (fun _ => ?_) (fun hb43 => by cases hb43)
               refine zo ?_
               refine zB [(10, .bool false)] [] ?_
               refine zr ?_
               obtain rfl := Option.some.inj h
               exact zR [] [] []
              ·refine zS 5 [(0, .sl (.sl (.pair (.int .i64) .bool)) x0), (1, .sl (.sl (.int .i64)) costs), (2, .sl (.pair (.int .i64) (.int .i64)) fences), (3, .sl (.int .i64) prices), (4, .int .i64 cost), (13, .int .i64 v0_10.1), (17, .own 79000), (21, .bool v0_15.1), (22, .bool v0_16.1), (139, .bool (!(decide (v0_14.1 = v0_10.1))))] [(79000, .arr 35 (.pair (.int .i64) (.pair (.int .i64) (.int .i64))) v0_12.1)] ?_
               rcases zI h with ⟨hb44, h⟩ | ⟨hb44, h⟩
               ·refine zS 5 [(0, .sl (.sl (.pair (.int .i64) .bool)) x0), (1, .sl (.sl (.int .i64)) costs), (2, .sl (.pair (.int .i64) (.int .i64)) fences), (3, .sl (.int .i64) prices), (4, .int .i64 cost), (13, .int .i64 v0_10.1), (17, .own 79000), (143, .bool true), (144, .cv (undef))] [(79000, .arr 35 (.pair (.int .i64) (.pair (.int .i64) (.int .i64))) v0_12.1)] ?_
                refine zB [(0, .sl (.sl (.pair (.int .i64) .bool)) x0), (1, .sl (.sl (.int .i64)) costs), (2, .sl (.pair (.int .i64) (.int .i64)) fences), (3, .sl (.int .i64) prices), (4, .int .i64 cost), (13, .int .i64 v0_10.1), (17, .own 79000), (145, .bool true)] [(79000, .arr 35 (.pair (.int .i64) (.pair (.int .i64) (.int .i64))) v0_12.1)] ?_
                refine AW.cond (b := true) rfl (fun _ => ?_) (fun hb45 => by cases hb45)
                refine zo ?_
                refine zB [(10, .bool false)] [] ?_
                refine zr ?_
                obtain rfl := Option.some.inj h
                exact zR [] [] []
               ·refine zS 4 [(0, .sl (.sl (.pair (.int .i64) .bool)) x0), (1, .sl (.sl (.int .i64)) costs), (2, .sl (.pair (.int .i64) (.int .i64)) fences), (3, .sl (.int .i64) prices), (4, .int .i64 cost), (13, .int .i64 v0_10.1), (17, .own 79000), (22, .bool v0_16.1), (143, .bool (!v0_15.1))] [(79000, .arr 35 (.pair (.int .i64) (.pair (.int .i64) (.int .i64))) v0_12.1)] ?_
                rcases zI h with ⟨hb46, h⟩ | ⟨hb46, h⟩
                ·refine zB [(0, .sl (.sl (.pair (.int .i64) .bool)) x0), (1, .sl (.sl (.int .i64)) costs), (2, .sl (.pair (.int .i64) (.int .i64)) fences), (3, .sl (.int .i64) prices), (4, .int .i64 cost), (13, .int .i64 v0_10.1), (17, .own 79000), (145, .bool true)] [(79000, .arr 35 (.pair (.int .i64) (.pair (.int .i64) (.int .i64))) v0_12.1)] ?_
                 refine AW.cond (b := true) rfl (fun _ => ?_) (fun hb47 => by cases hb47)
                 refine zo ?_
                 refine zB [(10, .bool false)] [] ?_
                 refine zr ?_
                 obtain rfl := Option.some.inj h
                 exact zR [] [] []
                ·refine zB [(0, .sl (.sl (.pair (.int .i64) .bool)) x0), (1, .sl (.sl (.int .i64)) costs), (2, .sl (.pair (.int .i64) (.int .i64)) fences), (3, .sl (.int .i64) prices), (4, .int .i64 cost), (13, .int .i64 v0_10.1), (17, .own 79000), (145, .bool v0_16.1)] [(79000, .arr 35 (.pair (.int .i64) (.pair (.int .i64) (.int .i64))) v0_12.1)] ?_
                 refine zQ h (fun hb48 h => ?_) (fun hb48 h => ?_)
                 ·refine zo ?_
                  refine zB [(10, .bool false)] [] ?_
                  refine zr ?_
                  obtain rfl := Option.some.inj h
                  exact zR [] [] []
                 ·refine zk ?_
                  refine zo ?_
                  refine zS 2 [(0, .sl (.sl (.pair (.int .i64) .bool)) x0), (1, .sl (.sl (.int .i64)) costs), (2, .sl (.pair (.int .i64) (.int .i64)) fences), (3, .sl (.int .i64) prices), (4, .int .i64 cost), (13, .int .i64 v0_10.1), (17, .own 79000), (147, .sl (.sl (.pair (.int .i64) .bool)) x0), (148, .sl (.sl (.pair (.int .i64) .bool)) x0)] [(79000, .arr 35 (.pair (.int .i64) (.pair (.int .i64) (.int .i64))) v0_12.1)] ?_
                  obtain ⟨v0_17, hv49, h⟩ := Option.bind_eq_some_iff.1 h
                  refine zC [] [] (hc_linealref09_AllFences x0 hv49) [(0, .sl (.sl (.pair (.int .i64) .bool)) x0), (1, .sl (.sl (.int .i64)) costs), (2, .sl (.pair (.int .i64) (.int .i64)) fences), (3, .sl (.int .i64) prices), (4, .int .i64 cost), (13, .int .i64 v0_10.1), (17, .own 79000), (147, .sl (.sl (.pair (.int .i64) .bool)) x0), (149, .own 159000)] [(79000, .arr 35 (.pair (.int .i64) (.pair (.int .i64) (.int .i64))) v0_12.1), (159000, .arr 110 (.pair (.int .i64) (.int .i64)) v0_17)] ?_
                  obtain ⟨v0_18, hv50, h⟩ := Option.bind_eq_some_iff.1 h
                  refine zC [159000] [] (hc_delay_Enough x0 v0_17 hv50) [(0, .sl (.sl (.pair (.int .i64) .bool)) x0), (1, .sl (.sl (.int .i64)) costs), (2, .sl (.pair (.int .i64) (.int .i64)) fences), (3, .sl (.int .i64) prices), (4, .int .i64 cost), (13, .int .i64 v0_10.1), (17, .own 79000), (150, .tup [.bool v0_18.1, .int .i64 v0_18.2])] [(79000, .arr 35 (.pair (.int .i64) (.pair (.int .i64) (.int .i64))) v0_12.1)] ?_
                  refine zB [(0, .sl (.sl (.pair (.int .i64) .bool)) x0), (1, .sl (.sl (.int .i64)) costs), (2, .sl (.pair (.int .i64) (.int .i64)) fences), (3, .sl (.int .i64) prices), (4, .int .i64 cost), (12, .int .i64 v0_18.2), (13, .int .i64 v0_10.1), (17, .own 79000), (23, .bool v0_18.1)] [(79000, .arr 35 (.pair (.int .i64) (.pair (.int .i64) (.int .i64))) v0_12.1)] ?_
                  refine zo ?_
                  refine zS 1 [(0, .sl (.sl (.pair (.int .i64) .bool)) x0), (1, .sl (.sl (.int .i64)) costs), (2, .sl (.pair (.int .i64) (.int .i64)) fences), (3, .sl (.int .i64) prices), (4, .int .i64 cost), (12, .int .i64 v0_18.2), (13, .int .i64 v0_10.1), (17, .own 79000), (23, .bool v0_18.1), (154, .sl (.sl (.pair (.int .i64) .bool)) x0)] [(79000, .arr 35 (.pair (.int .i64) (.pair (.int .i64) (.int .i64))) v0_12.1)] ?_
                  obtain ⟨v0_19, hv51, h⟩ := Option.bind_eq_some_iff.1 h
                  refine zC [] [] (hc_delay_Enough x0 [] hv51) [(0, .sl (.sl (.pair (.int .i64) .bool)) x0), (1, .sl (.sl (.int .i64)) costs), (2, .sl (.pair (.int .i64) (.int .i64)) fences), (3, .sl (.int .i64) prices), (4, .int .i64 cost), (12, .int .i64 v0_18.2), (13, .int .i64 v0_10.1), (17, .own 79000), (23, .bool v0_18.1), (155, .tup [.bool v0_19.1, .int .i64 v0_19.2])] [(79000, .arr 35 (.pair (.int .i64) (.pair (.int .i64) (.int .i64))) v0_12.1)] ?_
                  refine zB [(0, .sl (.sl (.pair (.int .i64) .bool)) x0), (1, .sl (.sl (.int .i64)) costs), (2, .sl (.pair (.int .i64) (.int .i64)) fences), (3, .sl (.int .i64) prices), (4, .int .i64 cost), (12, .int .i64 v0_18.2), (13, .int .i64 v0_10.1), (14, .int .i64 v0_19.2), (17, .own 79000), (23, .bool v0_18.1), (24, .bool v0_19.1)] [(79000, .arr 35 (.pair (.int .i64) (.pair (.int .i64) (.int .i64))) v0_12.1)] ?_
                  refine AW.seq ?_
                  refine zo ?_
                  refine zS 3 [(0, .sl (.sl (.pair (.int .i64) .bool)) x0), (1, .sl (.sl (.int .i64)) costs), (2, .sl (.pair (.int .i64) (.int .i64)) fences), (3, .sl (.int .i64) prices), (4, .int .i64 cost), (13, .int .i64 v0_10.1), (14, .int .i64 v0_19.2), (17, .own 79000), (23, .bool v0_18.1), (24, .bool v0_19.1), (160, .bool (!(decide (v0_18.2 = 0))))] [(79000, .arr 35 (.pair (.int .i64) (.pair (.int .i64) (.int .i64))) v0_12.1)] ?_
                  rcases zI h with ⟨hb52, h⟩ | ⟨hb52, h⟩
                  ·refine zS 5 [(0, .sl (.sl (.pair (.int .i64) .bool)) x0), (1, .sl (.sl (.int .i64)) costs), (2, .sl (.pair (.int .i64) (.int .i64)) fences), (3, .sl (.int .i64) prices), (4, .int .i64 cost), (13, .int .i64 v0_10.1), (17, .own 79000), (24, .bool v0_19.1), (164, .bool true), (165, .cv (undef))] [(79000, .arr 35 (.pair (.int .i64) (.pair (.int .i64) (.int .i64))) v0_12.1)] ?_
                   refine zS 5 [(0, .sl (.sl (.pair (.int .i64) .bool)) x0), (1, .sl (.sl (.int .i64)) costs), (2, .sl (.pair (.int .i64) (.int .i64)) fences), (3, .sl (.int .i64) prices), (4, .int .i64 cost), (13, .int .i64 v0_10.1), (24, .bool v0_19.1), (168, .bool true), (169, .cv (undef)), (170, .cv (undef))] [] ?_
                   refine zS 5 [(0, .sl (.sl (.pair (.int .i64) .bool)) x0), (1, .sl (.sl (.int .i64)) costs), (2, .sl (.pair (.int .i64) (.int .i64)) fences), (3, .sl (.int .i64) prices), (4, .int .i64 cost), (13, .int .i64 v0_10.1), (24, .bool v0_19.1), (175, .bool true)] [] ?_
                   refine zS 4 [(0, .sl (.sl (.pair (.int .i64) .bool)) x0), (1, .sl (.sl (.int .i64)) costs), (2, .sl (.pair (.int .i64) (.int .i64)) fences), (3, .sl (.int .i64) prices), (4, .int .i64 cost), (13, .int .i64 v0_10.1), (175, .bool true), (179, .cv (undef))] [] ?_
                   refine zB [(0, .sl (.sl (.pair (.int .i64) .bool)) x0), (1, .sl (.sl (.int .i64)) costs), (2, .sl (.pair (.int .i64) (.int .i64)) fences), (3, .sl (.int .i64) prices), (4, .int .i64 cost), (13, .int .i64 v0_10.1), (180, .bool true)] [] ?_
                   refine AW.cond (b := true) rfl (fun _ => ?_) (fun hb53 => by cases hb53)
                   refine zo ?_
                   refine zB [(10, .bool false)] [] ?_
                   refine zr ?_
                   obtain rfl := Option.some.inj h
                   exact zR [] [] []
                  ·refine zS 4 [(0, .sl (.sl (.pair (.int .i64) .bool)) x0), (1, .sl (.sl (.int .i64)) costs), (2, .sl (.pair (.int .i64) (.int .i64)) fences), (3, .sl (.int .i64) prices), (4, .int .i64 cost), (13, .int .i64 v0_10.1), (17, .own 79000), (23, .bool v0_18.1), (24, .bool v0_19.1), (164, .bool (!(decide (v0_19.2 = 0))))] [(79000, .arr 35 (.pair (.int .i64) (.pair (.int .i64) (.int .i64))) v0_12.1)] ?_
                   rcases zI h with ⟨hb54, h⟩ | ⟨hb54, h⟩
                   ·refine zS 5 [(0, .sl (.sl (.pair (.int .i64) .bool)) x0), (1, .sl (.sl (.int .i64)) costs), (2, .sl (.pair (.int .i64) (.int .i64)) fences), (3, .sl (.int .i64) prices), (4, .int .i64 cost), (13, .int .i64 v0_10.1), (17, .own 79000), (24, .bool v0_19.1), (168, .bool true), (169, .cv (undef))] [(79000, .arr 35 (.pair (.int .i64) (.pair (.int .i64) (.int .i64))) v0_12.1)] ?_
                    refine zS 4 [(0, .sl (.sl (.pair (.int .i64) .bool)) x0), (1, .sl (.sl (.int .i64)) costs), (2, .sl (.pair (.int .i64) (.int .i64)) fences), (3, .sl (.int .i64) prices), (4, .int .i64 cost), (13, .int .i64 v0_10.1), (24, .bool v0_19.1), (168, .bool true), (173, .cv (undef))] [] ?_
                    refine zS 5 [(0, .sl (.sl (.pair (.int .i64) .bool)) x0), (1, .sl (.sl (.int .i64)) costs), (2, .sl (.pair (.int .i64) (.int .i64)) fences), (3, .sl (.int .i64) prices), (4, .int .i64 cost), (13, .int .i64 v0_10.1), (175, .bool true), (176, .cv (undef)), (178, .cv (undef))] [] ?_
                    refine zB [(0, .sl (.sl (.pair (.int .i64) .bool)) x0), (1, .sl (.sl (.int .i64)) costs), (2, .sl (.pair (.int .i64) (.int .i64)) fences), (3, .sl (.int .i64) prices), (4, .int .i64 cost), (13, .int .i64 v0_10.1), (180, .bool true)] [] ?_
                    refine AW.cond (b := true) rfl (fun _ => ?_) (fun hb55 => by cases hb55)
                    refine zo ?_
                    refine zB [(10, .bool false)] [] ?_
                    refine zr ?_
                    obtain rfl := Option.some.inj h
                    exact zR [] [] []
                   ·refine zS 4 [(0, .sl (.sl (.pair (.int .i64) .bool)) x0), (1, .sl (.sl (.int .i64)) costs), (2, .sl (.pair (.int .i64) (.int .i64)) fences), (3, .sl (.int .i64) prices), (4, .int .i64 cost), (13, .int .i64 v0_10.1), (17, .own 79000), (24, .bool v0_19.1), (168, .bool (!v0_18.1))] [(79000, .arr 35 (.pair (.int .i64) (.pair (.int .i64) (.int .i64))) v0_12.1)] ?_
                    rcases zI h with ⟨hb56, h⟩ | ⟨hb56, h⟩
                    ·refine zS 4 [(0, .sl (.sl (.pair (.int .i64) .bool)) x0), (1, .sl (.sl (.int .i64)) costs), (2, .sl (.pair (.int .i64) (.int .i64)) fences), (3, .sl (.int .i64) prices), (4, .int .i64 cost), (13, .int .i64 v0_10.1), (24, .bool v0_19.1), (168, .bool true), (169, .cv (undef)), (172, .cv (undef))] [] ?_
                     refine zS 5 [(0, .sl (.sl (.pair (.int .i64) .bool)) x0), (1, .sl (.sl (.int .i64)) costs), (2, .sl (.pair (.int .i64) (.int .i64)) fences), (3, .sl (.int .i64) prices), (4, .int .i64 cost), (13, .int .i64 v0_10.1), (175, .bool true), (176, .cv (undef)), (177, .cv (undef))] [] ?_
                     refine zB [(0, .sl (.sl (.pair (.int .i64) .bool)) x0), (1, .sl (.sl (.int .i64)) costs), (2, .sl (.pair (.int .i64) (.int .i64)) fences), (3, .sl (.int .i64) prices), (4, .int .i64 cost), (13, .int .i64 v0_10.1), (180, .bool true)] [] ?_
                     refine AW.cond (b := true) rfl (fun _ => ?_) (fun hb57 => by cases hb57)
                     refine zo ?_
                     refine zB [(10, .bool false)] [] ?_
                     refine zr ?_
                     obtain rfl := Option.some.inj h
                     exact zR [] [] []
                    ·refine zS 5 [(0, .sl (.sl (.pair (.int .i64) .bool)) x0), (1, .sl (.sl (.int .i64)) costs), (2, .sl (.pair (.int .i64) (.int .i64)) fences), (3, .sl (.int .i64) prices), (4, .int .i64 cost), (13, .int .i64 v0_10.1), (24, .bool v0_19.1), (168, .bool false), (173, .bool ((v0_19.1 == (decide ((v0_12.1.length : Int) = 0))) != true))] [] ?_
                     refine zS 2 [(0, .sl (.sl (.pair (.int .i64) .bool)) x0), (1, .sl (.sl (.int .i64)) costs), (2, .sl (.pair (.int .i64) (.int .i64)) fences), (3, .sl (.int .i64) prices), (4, .int .i64 cost), (13, .int .i64 v0_10.1), (24, .bool v0_19.1), (175, .bool ((v0_19.1 == (decide ((v0_12.1.length : Int) = 0))) != true))] [] ?_
                     rcases zI h with ⟨hb58, h⟩ | ⟨hb58, h⟩
                     ·refine zS 4 [(0, .sl (.sl (.pair (.int .i64) .bool)) x0), (1, .sl (.sl (.int .i64)) costs), (2, .sl (.pair (.int .i64) (.int .i64)) fences), (3, .sl (.int .i64) prices), (4, .int .i64 cost), (13, .int .i64 v0_10.1), (175, .bool true), (179, .cv (undef))] [] ?_
                      refine zB [(0, .sl (.sl (.pair (.int .i64) .bool)) x0), (1, .sl (.sl (.int .i64)) costs), (2, .sl (.pair (.int .i64) (.int .i64)) fences), (3, .sl (.int .i64) prices), (4, .int .i64 cost), (13, .int .i64 v0_10.1), (180, .bool true)] [] ?_
                      refine AW.cond (b := true) rfl (fun _ => ?_) (fun hb59 => by cases hb59)
                      refine zo ?_
                      refine zB [(10, .bool false)] [] ?_
                      refine zr ?_
                      obtain rfl := Option.some.inj h
                      exact zR [] [] []
                     ·refine zB [(0, .sl (.sl (.pair (.int .i64) .bool)) x0), (1, .sl (.sl (.int .i64)) costs), (2, .sl (.pair (.int .i64) (.int .i64)) fences), (3, .sl (.int .i64) prices), (4, .int .i64 cost), (13, .int .i64 v0_10.1), (180, .bool ((v0_19.1 == (decide (v0_10.1 = 0))) != true))] [] ?_
                      refine zQ h (fun hb60 h => ?_) (fun hb60 h => ?_)
                      ·refine zo ?_
                       refine zB [(10, .bool false)] [] ?_
                       refine zr ?_
                       obtain rfl := Option.some.inj h
                       exact zR [] [] []
                      ·refine zk ?_
                       refine zo ?_
                       refine zS 2 [(0, .sl (.sl (.pair (.int .i64) .bool)) x0), (1, .sl (.sl (.int .i64)) costs), (2, .sl (.pair (.int .i64) (.int .i64)) fences), (3, .sl (.int .i64) prices), (4, .int .i64 cost), (13, .int .i64 v0_10.1), (182, .sl (.sl (.pair (.int .i64) .bool)) x0), (183, .sl (.pair (.int .i64) (.int .i64)) fences)] [] ?_
                       obtain ⟨v0_20, hv61, h⟩ := Option.bind_eq_some_iff.1 h
                       refine zC [] [] (hc_delay_Enough x0 fences hv61) [(0, .sl (.sl (.pair (.int .i64) .bool)) x0), (1, .sl (.sl (.int .i64)) costs), (2, .sl (.pair (.int .i64) (.int .i64)) fences), (3, .sl (.int .i64) prices), (4, .int .i64 cost), (13, .int .i64 v0_10.1), (184, .tup [.bool v0_20.1, .int .i64 v0_20.2])] [] ?_
                       refine zB [(0, .sl (.sl (.pair (.int .i64) .bool)) x0), (1, .sl (.sl (.int .i64)) costs), (2, .sl (.pair (.int .i64) (.int .i64)) fences), (3, .sl (.int .i64) prices), (4, .int .i64 cost), (12, .int .i64 v0_20.2), (13, .int .i64 v0_10.1), (19, .bool v0_20.1)] [] ?_
                       refine zo ?_
                       refine zS 3 [(0, .sl (.sl (.pair (.int .i64) .bool)) x0), (1, .sl (.sl (.int .i64)) costs), (3, .sl (.int .i64) prices), (4, .int .i64 cost), (12, .int .i64 v0_20.2), (13, .int .i64 v0_10.1), (19, .bool v0_20.1), (188, .sl (.sl (.pair (.int .i64) .bool)) x0), (189, .sl (.sl (.int .i64)) costs), (190, .sl (.pair (.int .i64) (.int .i64)) fences)] [] ?_
                       obtain ⟨v0_21, hv62, h⟩ := Option.bind_eq_some_iff.1 h
                       refine zC [] [] (hc_delay_Cost x0 costs fences hv62) [(0, .sl (.sl (.pair (.int .i64) .bool)) x0), (1, .sl (.sl (.int .i64)) costs), (3, .sl (.int .i64) prices), (4, .int .i64 cost), (12, .int .i64 v0_20.2), (13, .int .i64 v0_10.1), (19, .bool v0_20.1), (191, .tup [.int .i64 v0_21.1, .int .i64 v0_21.2])] [] ?_
                       refine zB [(0, .sl (.sl (.pair (.int .i64) .bool)) x0), (1, .sl (.sl (.int .i64)) costs), (3, .sl (.int .i64) prices), (4, .int .i64 cost), (12, .int .i64 v0_20.2), (13, .int .i64 v0_10.1), (14, .int .i64 v0_21.2), (19, .bool v0_20.1), (20, .int .i64 v0_21.1)] [] ?_
                       refine AW.have1 (fun _ : Unit => lineallaw09_DelayCheapest_k1 x0 costs prices cost v0_10 = some r) (fun _ => ⟨fr [(0, .sl (.sl (.pair (.int .i64) .bool)) x0), (1, .sl (.sl (.int .i64)) costs), (3, .sl (.int .i64) prices), (4, .int .i64 cost), (13, .int .i64 v0_10.1)], hpGet [], gt⟩) (fun _ h => ?_) (fun hk_lineallaw09_DelayCheapest_k1 => ?_)
                       ·as_aux_lemma =>
                         unfold lineallaw09_DelayCheapest_k1 at h
                         refine zo ?_
                         refine zS 4 [(4, .int .i64 cost), (13, .int .i64 v0_10.1), (214, .sl (.sl (.pair (.int .i64) .bool)) x0), (215, .sl (.sl (.int .i64)) costs), (216, .sl (.int .i64) prices), (217, .int .i64 cost)] [] ?_
                         obtain ⟨v0_22, hv63, h⟩ := Option.bind_eq_some_iff.1 h
                         refine zC [] [] (hc_delay_Prove x0 costs prices cost hv63) [(4, .int .i64 cost), (13, .int .i64 v0_10.1), (218, .tup [.bool v0_22.1, .int .i64 v0_22.2])] [] ?_
                         refine zB [(4, .int .i64 cost), (12, .int .i64 v0_22.2), (13, .int .i64 v0_10.1), (21, .bool v0_22.1)] [] ?_
                         refine zo ?_
                         refine zS 3 [(4, .int .i64 cost), (12, .int .i64 v0_22.2), (13, .int .i64 v0_10.1), (21, .bool v0_22.1), (223, .bool (decide (v0_22.2 = 0)))] [] ?_
                         rcases zI h with ⟨hb64, h⟩ | ⟨hb64, h⟩
                         ·refine zS 5 [(4, .int .i64 cost), (13, .int .i64 v0_10.1), (227, .bool true), (228, .bool v0_22.1)] [] ?_
                          refine zS 2 [(4, .int .i64 cost), (13, .int .i64 v0_10.1), (227, .bool true), (230, .bool (!v0_22.1))] [] ?_
                          rcases zI h with ⟨hb65, h⟩ | ⟨hb65, h⟩
                          ·refine zS 5 [(235, .bool true)] [] ?_
                           refine zS 1 [(236, .bool true)] [] ?_
                           obtain ⟨v0_23, hv66, h⟩ := Option.bind_eq_some_iff.1 h
                           refine zG [] [] (hc_lineallaw09_Awake hv66) [(236, .bool true), (237, .bool v0_23)] [] ?_
                           refine zB [(10, .bool v0_23)] [] ?_
                           refine AW.ret ?_
                           obtain rfl := Option.some.inj h
                           exact zR [] [] []
                          ·refine zS 5 [(235, .bool (decide (cost ≤ v0_10.1)))] [] ?_
                           refine zS 1 [(236, .bool (decide (cost ≤ v0_10.1)))] [] ?_
                           rcases zI h with ⟨hb67, h⟩ | ⟨hb67, h⟩
                           ·refine zT [(236, .bool true)] [] gt ?_
                            obtain ⟨v0_24, hv68, h⟩ := Option.bind_eq_some_iff.1 h
                            refine zG [] [] (hc_lineallaw09_Awake hv68) [(236, .bool true), (237, .bool v0_24)] [] ?_
                            refine zB [(10, .bool v0_24)] [] ?_
                            refine AW.ret ?_
                            obtain rfl := Option.some.inj h
                            exact zR [] [] []
                           ·refine zB [(10, .bool false)] [] ?_
                            refine AW.ret ?_
                            obtain rfl := Option.some.inj h
                            exact zR [] [] []
                         ·refine zS 4 [(4, .int .i64 cost), (13, .int .i64 v0_10.1), (21, .bool v0_22.1), (227, .bool (decide (v0_22.2 = 2)))] [] ?_
                          rcases zI h with ⟨hb69, h⟩ | ⟨hb69, h⟩
                          ·refine zS 3 [(4, .int .i64 cost), (13, .int .i64 v0_10.1), (227, .bool true), (230, .bool (!v0_22.1))] [] ?_
                           rcases zI h with ⟨hb70, h⟩ | ⟨hb70, h⟩
                           ·refine zS 5 [(235, .bool true)] [] ?_
                            refine zS 1 [(236, .bool true)] [] ?_
                            obtain ⟨v0_25, hv71, h⟩ := Option.bind_eq_some_iff.1 h
                            refine zG [] [] (hc_lineallaw09_Awake hv71) [(236, .bool true), (237, .bool v0_25)] [] ?_
                            refine zB [(10, .bool v0_25)] [] ?_
                            refine AW.ret ?_
                            obtain rfl := Option.some.inj h
                            exact zR [] [] []
                           ·refine zS 5 [(235, .bool (decide (cost ≤ v0_10.1)))] [] ?_
                            refine zS 1 [(236, .bool (decide (cost ≤ v0_10.1)))] [] ?_
                            rcases zI h with ⟨hb72, h⟩ | ⟨hb72, h⟩
                            ·refine zT [(236, .bool true)] [] gt ?_
                             obtain ⟨v0_26, hv73, h⟩ := Option.bind_eq_some_iff.1 h
                             refine zG [] [] (hc_lineallaw09_Awake hv73) [(236, .bool true), (237, .bool v0_26)] [] ?_
                             refine zB [(10, .bool v0_26)] [] ?_
                             refine AW.ret ?_
                             obtain rfl := Option.some.inj h
                             exact zR [] [] []
                            ·refine zB [(10, .bool false)] [] ?_
                             refine AW.ret ?_
                             obtain rfl := Option.some.inj h
                             exact zR [] [] []
                          ·refine zS 4 [(13, .int .i64 v0_10.1), (227, .bool false), (230, .cv (undef)), (231, .cv (undef))] [] ?_
                           refine zS 5 [(236, .bool false)] [] ?_
                           refine zB [(10, .bool false)] [] ?_
                           refine AW.ret ?_
                           obtain rfl := Option.some.inj h
                           exact zR [] [] []
                       ·refine AW.seq ?_
                        refine zo ?_
                        refine zS 4 [(0, .sl (.sl (.pair (.int .i64) .bool)) x0), (1, .sl (.sl (.int .i64)) costs), (3, .sl (.int .i64) prices), (4, .int .i64 cost), (12, .int .i64 v0_20.2), (13, .int .i64 v0_10.1), (19, .bool v0_20.1), (20, .int .i64 v0_21.1), (197, .bool (!(decide (v0_20.2 = v0_21.2))))] [] ?_
                        rcases zI h with ⟨hb74, h⟩ | ⟨hb74, h⟩
                        ·refine zS 4 [(0, .sl (.sl (.pair (.int .i64) .bool)) x0), (1, .sl (.sl (.int .i64)) costs), (3, .sl (.int .i64) prices), (4, .int .i64 cost), (13, .int .i64 v0_10.1), (19, .bool v0_20.1), (20, .int .i64 v0_21.1), (197, .bool true), (200, .cv (undef)), (201, .cv (undef))] [] ?_
                         refine zS 5 [(0, .sl (.sl (.pair (.int .i64) .bool)) x0), (1, .sl (.sl (.int .i64)) costs), (3, .sl (.int .i64) prices), (4, .int .i64 cost), (13, .int .i64 v0_10.1), (20, .int .i64 v0_21.1), (205, .bool true), (206, .cv (undef))] [] ?_
                         refine zS 4 [(0, .sl (.sl (.pair (.int .i64) .bool)) x0), (1, .sl (.sl (.int .i64)) costs), (3, .sl (.int .i64) prices), (4, .int .i64 cost), (13, .int .i64 v0_10.1), (205, .bool true), (207, .cv (undef)), (210, .cv (undef))] [] ?_
                         refine zB [(0, .sl (.sl (.pair (.int .i64) .bool)) x0), (1, .sl (.sl (.int .i64)) costs), (3, .sl (.int .i64) prices), (4, .int .i64 cost), (13, .int .i64 v0_10.1), (212, .bool true)] [] ?_
                         refine AW.cond (b := true) rfl (fun _ => ?_) (fun hb75 => by cases hb75)
                         refine zo ?_
                         refine zB [(10, .bool false)] [] ?_
                         refine zr ?_
                         obtain rfl := Option.some.inj h
                         exact zR [] [] []
                        ·refine zS 3 [(0, .sl (.sl (.pair (.int .i64) .bool)) x0), (1, .sl (.sl (.int .i64)) costs), (3, .sl (.int .i64) prices), (4, .int .i64 cost), (12, .int .i64 v0_20.2), (13, .int .i64 v0_10.1), (19, .bool v0_20.1), (20, .int .i64 v0_21.1), (197, .bool false), (200, .bool (!(decide (v0_20.2 = 0))))] [] ?_
                         rcases zI h with ⟨hb76, h⟩ | ⟨hb76, h⟩
                         ·refine zS 5 [(0, .sl (.sl (.pair (.int .i64) .bool)) x0), (1, .sl (.sl (.int .i64)) costs), (3, .sl (.int .i64) prices), (4, .int .i64 cost), (13, .int .i64 v0_10.1), (19, .bool v0_20.1), (20, .int .i64 v0_21.1), (205, .bool (!(decide (v0_20.2 = 2))))] [] ?_
                          rcases zI h with ⟨hb77, h⟩ | ⟨hb77, h⟩
                          ·refine zS 4 [(0, .sl (.sl (.pair (.int .i64) .bool)) x0), (1, .sl (.sl (.int .i64)) costs), (3, .sl (.int .i64) prices), (4, .int .i64 cost), (13, .int .i64 v0_10.1), (205, .bool true), (207, .cv (undef)), (208, .cv (undef)), (209, .cv (undef))] [] ?_
                           refine zB [(0, .sl (.sl (.pair (.int .i64) .bool)) x0), (1, .sl (.sl (.int .i64)) costs), (3, .sl (.int .i64) prices), (4, .int .i64 cost), (13, .int .i64 v0_10.1), (212, .bool true)] [] ?_
                           refine AW.cond (b := true) rfl (fun _ => ?_) (fun hb78 => by cases hb78)
                           refine zo ?_
                           refine zB [(10, .bool false)] [] ?_
                           refine zr ?_
                           obtain rfl := Option.some.inj h
                           exact zR [] [] []
                          ·refine zS 2 [(0, .sl (.sl (.pair (.int .i64) .bool)) x0), (1, .sl (.sl (.int .i64)) costs), (3, .sl (.int .i64) prices), (4, .int .i64 cost), (13, .int .i64 v0_10.1), (20, .int .i64 v0_21.1), (205, .bool false), (207, .bool v0_20.1)] [] ?_
                           rcases zI h with ⟨hb79, h⟩ | ⟨hb79, h⟩
                           ·refine zB [(0, .sl (.sl (.pair (.int .i64) .bool)) x0), (1, .sl (.sl (.int .i64)) costs), (3, .sl (.int .i64) prices), (4, .int .i64 cost), (13, .int .i64 v0_10.1), (212, .bool (decide (v0_21.1 < v0_10.1)))] [] ?_
                            refine zQ h (fun hb80 h => ?_) (fun hb80 h => ?_)
                            ·refine zo ?_
                             refine zB [(10, .bool false)] [] ?_
                             refine zr ?_
                             obtain rfl := Option.some.inj h
                             exact zR [] [] []
                            ·refine zk ?_
                             exact AW.weaken (zL [] [] []) (hk_lineallaw09_DelayCheapest_k1 () h)
                           ·refine zB [(0, .sl (.sl (.pair (.int .i64) .bool)) x0), (1, .sl (.sl (.int .i64)) costs), (3, .sl (.int .i64) prices), (4, .int .i64 cost), (13, .int .i64 v0_10.1), (212, .bool false)] [] ?_
                            refine AW.cond (b := false) rfl (fun hb81 => by cases hb81) (fun _ => ?_)
                            refine zk ?_
                            exact AW.weaken (zL [] [] []) (hk_lineallaw09_DelayCheapest_k1 () h)
                         ·refine zS 5 [(0, .sl (.sl (.pair (.int .i64) .bool)) x0), (1, .sl (.sl (.int .i64)) costs), (3, .sl (.int .i64) prices), (4, .int .i64 cost), (13, .int .i64 v0_10.1), (19, .bool v0_20.1), (20, .int .i64 v0_21.1), (205, .bool false)] [] ?_
                          refine zS 2 [(0, .sl (.sl (.pair (.int .i64) .bool)) x0), (1, .sl (.sl (.int .i64)) costs), (3, .sl (.int .i64) prices), (4, .int .i64 cost), (13, .int .i64 v0_10.1), (20, .int .i64 v0_21.1), (205, .bool false), (207, .bool v0_20.1)] [] ?_
                          rcases zI h with ⟨hb82, h⟩ | ⟨hb82, h⟩
                          ·refine zB [(0, .sl (.sl (.pair (.int .i64) .bool)) x0), (1, .sl (.sl (.int .i64)) costs), (3, .sl (.int .i64) prices), (4, .int .i64 cost), (13, .int .i64 v0_10.1), (212, .bool (decide (v0_21.1 < v0_10.1)))] [] ?_
                           refine zQ h (fun hb83 h => ?_) (fun hb83 h => ?_)
                           ·refine zo ?_
                            refine zB [(10, .bool false)] [] ?_
                            refine zr ?_
                            obtain rfl := Option.some.inj h
                            exact zR [] [] []
                           ·refine zk ?_
                            exact AW.weaken (zL [] [] []) (hk_lineallaw09_DelayCheapest_k1 () h)
                          ·refine zB [(0, .sl (.sl (.pair (.int .i64) .bool)) x0), (1, .sl (.sl (.int .i64)) costs), (3, .sl (.int .i64) prices), (4, .int .i64 cost), (13, .int .i64 v0_10.1), (212, .bool false)] [] ?_
                           refine AW.cond (b := false) rfl (fun hb84 => by cases hb84) (fun _ => ?_)
                           refine zk ?_
                           exact AW.weaken (zL [] [] []) (hk_lineallaw09_DelayCheapest_k1 () h)

end Go.Proofs.Ytdicomoggfhbfaa
