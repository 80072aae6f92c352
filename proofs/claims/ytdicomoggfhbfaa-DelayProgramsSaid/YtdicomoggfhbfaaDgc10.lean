/-
  Made by wip/tool/dc.py out of the print of the program: contracts.
-/
import Derived.Test.YtdicomoggfhbfaaDlp
import Derived.Test.YtdicomoggfhbfaaShd
import Derived.Test.YtdicomoggfhbfaaDgc1
import Derived.Test.YtdicomoggfhbfaaDgc3
import Derived.Test.YtdicomoggfhbfaaDgc5
import Derived.Test.YtdicomoggfhbfaaDgc7
import Derived.Test.YtdicomoggfhbfaaDgc8
import Derived.Test.YtdicomoggfhbfaaDgc9
namespace Go.Proofs.Ytdicomoggfhbfaa
open Go.RowKit

set_option linter.unusedSimpArgs false
set_option linter.unusedVariables false
set_option linter.constructorNameAsVariable false

set_option maxRecDepth 100000
set_option maxHeartbeats 40000000

theorem hc_lineallaw09_DelayPrograms (x0 : List (List (Int × Bool))) (fences : List (Int × Int)) (threads : List Int) {r : Bool} (h : lineallaw09_DelayPrograms x0 fences threads = some r) : HC Try.prog 7 [] [.sl (.sl (.pair (.int .i64) .bool)) x0, .sl (.pair (.int .i64) (.int .i64)) fences, .sl (.int .i64) threads] [] (.bool r) := by
 unfold lineallaw09_DelayPrograms at h
 refine zH Try.func7 [.tmp 6] 89 ?_
 refine zo ?_
 refine zB [(0, .sl (.sl (.pair (.int .i64) .bool)) x0), (1, .sl (.pair (.int .i64) (.int .i64)) fences), (2, .sl (.int .i64) threads)] [] ?_
 refine AW.seq ?_
 refine zo ?_
 refine zS 1 [(0, .sl (.sl (.pair (.int .i64) .bool)) x0), (1, .sl (.pair (.int .i64) (.int .i64)) fences), (2, .sl (.int .i64) threads), (13, .sl (.sl (.pair (.int .i64) .bool)) x0)] [] ?_
 obtain ⟨v0, hv1, h⟩ := Option.bind_eq_some_iff.1 h
 refine zC [] [] (hc_lineallaw09_Long x0 hv1) [(0, .sl (.sl (.pair (.int .i64) .bool)) x0), (1, .sl (.pair (.int .i64) (.int .i64)) fences), (2, .sl (.int .i64) threads), (14, .bool v0)] [] ?_
 refine zS 1 [(0, .sl (.sl (.pair (.int .i64) .bool)) x0), (1, .sl (.pair (.int .i64) (.int .i64)) fences), (2, .sl (.int .i64) threads), (15, .bool v0)] [] ?_
 rcases zI h with ⟨hb2, h⟩ | ⟨hb2, h⟩
 ·refine zS 5 [(0, .sl (.sl (.pair (.int .i64) .bool)) x0), (1, .sl (.pair (.int .i64) (.int .i64)) fences), (2, .sl (.int .i64) threads), (20, .bool true)] [] ?_
  refine zB [(0, .sl (.sl (.pair (.int .i64) .bool)) x0), (1, .sl (.pair (.int .i64) (.int .i64)) fences), (2, .sl (.int .i64) threads), (24, .bool true)] [] ?_
  refine AW.cond (b := true) rfl (fun _ => ?_) (fun hb3 => by cases hb3)
  refine zo ?_
  obtain ⟨v0_2, hv4, h⟩ := Option.bind_eq_some_iff.1 h
  refine zC [] [] (hc_lineallaw09_Awake hv4) [(25, .bool v0_2)] [] ?_
  refine zB [(6, .bool v0_2)] [] ?_
  refine zr ?_
  obtain rfl := Option.some.inj h
  exact zR [] [] []
 ·refine zS 5 [(0, .sl (.sl (.pair (.int .i64) .bool)) x0), (1, .sl (.pair (.int .i64) (.int .i64)) fences), (2, .sl (.int .i64) threads), (20, .bool (decide (40 < (fences.length : Int))))] [] ?_
  rcases zI h with ⟨hb5, h⟩ | ⟨hb5, h⟩
  ·refine zB [(0, .sl (.sl (.pair (.int .i64) .bool)) x0), (1, .sl (.pair (.int .i64) (.int .i64)) fences), (2, .sl (.int .i64) threads), (24, .bool true)] [] ?_
   refine AW.cond (b := true) rfl (fun _ => ?_) (fun hb6 => by cases hb6)
   refine zo ?_
   obtain ⟨v0_3, hv7, h⟩ := Option.bind_eq_some_iff.1 h
   refine zC [] [] (hc_lineallaw09_Awake hv7) [(25, .bool v0_3)] [] ?_
   refine zB [(6, .bool v0_3)] [] ?_
   refine zr ?_
   obtain rfl := Option.some.inj h
   exact zR [] [] []
  ·refine zB [(0, .sl (.sl (.pair (.int .i64) .bool)) x0), (1, .sl (.pair (.int .i64) (.int .i64)) fences), (2, .sl (.int .i64) threads), (24, .bool (decide (40 < (threads.length : Int))))] [] ?_
   refine zQ h (fun hb8 h => ?_) (fun hb8 h => ?_)
   ·refine zo ?_
    obtain ⟨v0_4, hv9, h⟩ := Option.bind_eq_some_iff.1 h
    refine zC [] [] (hc_lineallaw09_Awake hv9) [(25, .bool v0_4)] [] ?_
    refine zB [(6, .bool v0_4)] [] ?_
    refine zr ?_
    obtain rfl := Option.some.inj h
    exact zR [] [] []
   ·refine zk ?_
    refine zo ?_
    refine zS 2 [(0, .sl (.sl (.pair (.int .i64) .bool)) x0), (1, .sl (.pair (.int .i64) (.int .i64)) fences), (2, .sl (.int .i64) threads), (27, .sl (.sl (.pair (.int .i64) .bool)) x0), (28, .sl (.pair (.int .i64) (.int .i64)) fences)] [] ?_
    obtain ⟨v0_5, hv10, h⟩ := Option.bind_eq_some_iff.1 h
    refine zC [] [] (hc_delay_Program x0 fences hv10) [(0, .sl (.sl (.pair (.int .i64) .bool)) x0), (1, .sl (.pair (.int .i64) (.int .i64)) fences), (2, .sl (.int .i64) threads), (29, .tup [.own 39000, .int .i64 v0_5.2])] [(39000, .arr 117 (.sl (.pair (.int .i64) (.pair (.int .i64) (.int .i64)))) v0_5.1)] ?_
    refine zB [(0, .sl (.sl (.pair (.int .i64) .bool)) x0), (1, .sl (.pair (.int .i64) (.int .i64)) fences), (2, .sl (.int .i64) threads), (7, .own 39000), (8, .int .i64 v0_5.2)] [(39000, .arr 117 (.sl (.pair (.int .i64) (.pair (.int .i64) (.int .i64)))) v0_5.1)] ?_
    refine zo ?_
    refine zS 2 [(0, .sl (.sl (.pair (.int .i64) .bool)) x0), (2, .sl (.int .i64) threads), (7, .own 39000), (8, .int .i64 v0_5.2), (33, .sl (.sl (.pair (.int .i64) .bool)) x0), (34, .sl (.pair (.int .i64) (.int .i64)) fences)] [(39000, .arr 117 (.sl (.pair (.int .i64) (.pair (.int .i64) (.int .i64)))) v0_5.1)] ?_
    obtain ⟨v0_6, hv11, h⟩ := Option.bind_eq_some_iff.1 h
    refine zC [] [] (hc_linealref09_Program x0 fences hv11) [(0, .sl (.sl (.pair (.int .i64) .bool)) x0), (2, .sl (.int .i64) threads), (7, .own 39000), (8, .int .i64 v0_5.2), (35, .tup [.own 45000, .int .i64 v0_6.2])] [(39000, .arr 117 (.sl (.pair (.int .i64) (.pair (.int .i64) (.int .i64)))) v0_5.1), (45000, .arr 117 (.sl (.pair (.int .i64) (.pair (.int .i64) (.int .i64)))) v0_6.1)] ?_
    refine zB [(0, .sl (.sl (.pair (.int .i64) .bool)) x0), (2, .sl (.int .i64) threads), (7, .own 39000), (8, .int .i64 v0_5.2), (9, .own 45000), (10, .int .i64 v0_6.2)] [(39000, .arr 117 (.sl (.pair (.int .i64) (.pair (.int .i64) (.int .i64)))) v0_5.1), (45000, .arr 117 (.sl (.pair (.int .i64) (.pair (.int .i64) (.int .i64)))) v0_6.1)] ?_
    refine AW.seq ?_
    refine zo ?_
    refine zS 2 [(0, .sl (.sl (.pair (.int .i64) .bool)) x0), (2, .sl (.int .i64) threads), (8, .int .i64 v0_5.2), (10, .int .i64 v0_6.2), (38, .own 39000), (39, .own 45000)] [(39000, .arr 117 (.sl (.pair (.int .i64) (.pair (.int .i64) (.int .i64)))) v0_5.1), (45000, .arr 117 (.sl (.pair (.int .i64) (.pair (.int .i64) (.int .i64)))) v0_6.1)] ?_
    obtain ⟨v0_7, hv12, h⟩ := Option.bind_eq_some_iff.1 h
    refine zC [39000, 45000] [] (hc_linealref09_SameActs v0_5.1 v0_6.1 hv12) [(0, .sl (.sl (.pair (.int .i64) .bool)) x0), (2, .sl (.int .i64) threads), (8, .int .i64 v0_5.2), (10, .int .i64 v0_6.2), (40, .bool v0_7)] [] ?_
    refine zS 2 [(0, .sl (.sl (.pair (.int .i64) .bool)) x0), (2, .sl (.int .i64) threads), (8, .int .i64 v0_5.2), (10, .int .i64 v0_6.2), (42, .bool (!v0_7))] [] ?_
    rcases zI h with ⟨hb13, h⟩ | ⟨hb13, h⟩
    ·refine zB [(0, .sl (.sl (.pair (.int .i64) .bool)) x0), (2, .sl (.int .i64) threads), (46, .bool true)] [] ?_
     refine AW.cond (b := true) rfl (fun _ => ?_) (fun hb14 => by cases hb14)
     refine zo ?_
     refine zB [(6, .bool false)] [] ?_
     refine zr ?_
     obtain rfl := Option.some.inj h
     exact zR [] [] []
    ·refine zB [(0, .sl (.sl (.pair (.int .i64) .bool)) x0), (2, .sl (.int .i64) threads), (46, .bool (!(decide (v0_5.2 = v0_6.2))))] [] ?_
     refine zQ h (fun hb15 h => ?_) (fun hb15 h => ?_)
     ·refine zo ?_
      refine zB [(6, .bool false)] [] ?_
      refine zr ?_
      obtain rfl := Option.some.inj h
      exact zR [] [] []
     ·refine zk ?_
      refine zo ?_
      refine zS 1 [(0, .sl (.sl (.pair (.int .i64) .bool)) x0), (2, .sl (.int .i64) threads), (48, .sl (.sl (.pair (.int .i64) .bool)) x0)] [] ?_
      obtain ⟨v0_8, hv16, h⟩ := Option.bind_eq_some_iff.1 h
      refine zC [] [] (hc_delay_Turned x0 hv16) [(0, .sl (.sl (.pair (.int .i64) .bool)) x0), (2, .sl (.int .i64) threads), (49, .tup [.own 59000, .int .i64 v0_8.2])] [(59000, .arr 68 (.sl (.pair (.int .i64) .bool)) v0_8.1)] ?_
      refine zB [(0, .sl (.sl (.pair (.int .i64) .bool)) x0), (2, .sl (.int .i64) threads), (8, .int .i64 v0_8.2), (11, .own 59000)] [(59000, .arr 68 (.sl (.pair (.int .i64) .bool)) v0_8.1)] ?_
      refine zo ?_
      refine zS 1 [(0, .sl (.sl (.pair (.int .i64) .bool)) x0), (2, .sl (.int .i64) threads), (8, .int .i64 v0_8.2), (11, .own 59000), (53, .sl (.sl (.pair (.int .i64) .bool)) x0)] [(59000, .arr 68 (.sl (.pair (.int .i64) .bool)) v0_8.1)] ?_
      obtain ⟨v0_9, hv17, h⟩ := Option.bind_eq_some_iff.1 h
      refine zC [] [] (hc_linealref09_Turned x0 hv17) [(0, .sl (.sl (.pair (.int .i64) .bool)) x0), (2, .sl (.int .i64) threads), (8, .int .i64 v0_8.2), (11, .own 59000), (54, .tup [.own 64000, .int .i64 v0_9.2])] [(59000, .arr 68 (.sl (.pair (.int .i64) .bool)) v0_8.1), (64000, .arr 68 (.sl (.pair (.int .i64) .bool)) v0_9.1)] ?_
      refine zB [(0, .sl (.sl (.pair (.int .i64) .bool)) x0), (2, .sl (.int .i64) threads), (8, .int .i64 v0_8.2), (10, .int .i64 v0_9.2), (11, .own 59000), (12, .own 64000)] [(59000, .arr 68 (.sl (.pair (.int .i64) .bool)) v0_8.1), (64000, .arr 68 (.sl (.pair (.int .i64) .bool)) v0_9.1)] ?_
      refine AW.seq ?_
      refine zo ?_
      refine zS 2 [(0, .sl (.sl (.pair (.int .i64) .bool)) x0), (2, .sl (.int .i64) threads), (8, .int .i64 v0_8.2), (10, .int .i64 v0_9.2), (57, .own 59000), (58, .own 64000)] [(59000, .arr 68 (.sl (.pair (.int .i64) .bool)) v0_8.1), (64000, .arr 68 (.sl (.pair (.int .i64) .bool)) v0_9.1)] ?_
      obtain ⟨v0_10, hv18, h⟩ := Option.bind_eq_some_iff.1 h
      refine zC [59000, 64000] [] (hc_linealref09_SameAccesses v0_8.1 v0_9.1 hv18) [(0, .sl (.sl (.pair (.int .i64) .bool)) x0), (2, .sl (.int .i64) threads), (8, .int .i64 v0_8.2), (10, .int .i64 v0_9.2), (59, .bool v0_10)] [] ?_
      refine zS 2 [(0, .sl (.sl (.pair (.int .i64) .bool)) x0), (2, .sl (.int .i64) threads), (8, .int .i64 v0_8.2), (10, .int .i64 v0_9.2), (61, .bool (!v0_10))] [] ?_
      rcases zI h with ⟨hb19, h⟩ | ⟨hb19, h⟩
      ·refine zB [(0, .sl (.sl (.pair (.int .i64) .bool)) x0), (2, .sl (.int .i64) threads), (65, .bool true)] [] ?_
       refine AW.cond (b := true) rfl (fun _ => ?_) (fun hb20 => by cases hb20)
       refine zo ?_
       refine zB [(6, .bool false)] [] ?_
       refine zr ?_
       obtain rfl := Option.some.inj h
       exact zR [] [] []
      ·refine zB [(0, .sl (.sl (.pair (.int .i64) .bool)) x0), (2, .sl (.int .i64) threads), (65, .bool (!(decide (v0_8.2 = v0_9.2))))] [] ?_
       refine zQ h (fun hb21 h => ?_) (fun hb21 h => ?_)
       ·refine zo ?_
        refine zB [(6, .bool false)] [] ?_
        refine zr ?_
        obtain rfl := Option.some.inj h
        exact zR [] [] []
       ·refine zk ?_
        refine zo ?_
        refine zS 2 [(0, .sl (.sl (.pair (.int .i64) .bool)) x0), (2, .sl (.int .i64) threads), (67, .sl (.sl (.pair (.int .i64) .bool)) x0), (68, .sl (.int .i64) threads)] [] ?_
        obtain ⟨v0_11, hv22, h⟩ := Option.bind_eq_some_iff.1 h
        refine zC [] [] (hc_delay_Renamed x0 threads hv22) [(0, .sl (.sl (.pair (.int .i64) .bool)) x0), (2, .sl (.int .i64) threads), (69, .tup [.own 79000, .int .i64 v0_11.2])] [(79000, .arr 68 (.sl (.pair (.int .i64) .bool)) v0_11.1)] ?_
        refine zB [(0, .sl (.sl (.pair (.int .i64) .bool)) x0), (2, .sl (.int .i64) threads), (8, .int .i64 v0_11.2), (11, .own 79000)] [(79000, .arr 68 (.sl (.pair (.int .i64) .bool)) v0_11.1)] ?_
        refine zo ?_
        refine zS 2 [(8, .int .i64 v0_11.2), (11, .own 79000), (73, .sl (.sl (.pair (.int .i64) .bool)) x0), (74, .sl (.int .i64) threads)] [(79000, .arr 68 (.sl (.pair (.int .i64) .bool)) v0_11.1)] ?_
        obtain ⟨v0_12, hv23, h⟩ := Option.bind_eq_some_iff.1 h
        refine zC [] [] (hc_linealref09_Renamed x0 threads hv23) [(8, .int .i64 v0_11.2), (11, .own 79000), (75, .tup [.own 85000, .int .i64 v0_12.2])] [(79000, .arr 68 (.sl (.pair (.int .i64) .bool)) v0_11.1), (85000, .arr 68 (.sl (.pair (.int .i64) .bool)) v0_12.1)] ?_
        refine zB [(8, .int .i64 v0_11.2), (10, .int .i64 v0_12.2), (11, .own 79000), (12, .own 85000)] [(79000, .arr 68 (.sl (.pair (.int .i64) .bool)) v0_11.1), (85000, .arr 68 (.sl (.pair (.int .i64) .bool)) v0_12.1)] ?_
        refine zo ?_
        refine zS 2 [(8, .int .i64 v0_11.2), (10, .int .i64 v0_12.2), (78, .own 79000), (79, .own 85000)] [(79000, .arr 68 (.sl (.pair (.int .i64) .bool)) v0_11.1), (85000, .arr 68 (.sl (.pair (.int .i64) .bool)) v0_12.1)] ?_
        obtain ⟨v0_13, hv24, h⟩ := Option.bind_eq_some_iff.1 h
        refine zC [79000, 85000] [] (hc_linealref09_SameAccesses v0_11.1 v0_12.1 hv24) [(8, .int .i64 v0_11.2), (10, .int .i64 v0_12.2), (80, .bool v0_13)] [] ?_
        refine zS 1 [(8, .int .i64 v0_11.2), (10, .int .i64 v0_12.2), (81, .bool v0_13)] [] ?_
        rcases zI h with ⟨hb25, h⟩ | ⟨hb25, h⟩
        ·refine zS 5 [(86, .bool (decide (v0_11.2 = v0_12.2)))] [] ?_
         rcases zI h with ⟨hb26, h⟩ | ⟨hb26, h⟩
         ·refine zT [(86, .bool true)] [] gt ?_
          obtain ⟨v0_14, hv27, h⟩ := Option.bind_eq_some_iff.1 h
          refine zG [] [] (hc_lineallaw09_Awake hv27) [(86, .bool true), (87, .bool v0_14)] [] ?_
          refine zB [(6, .bool v0_14)] [] ?_
          refine AW.ret ?_
          obtain rfl := Option.some.inj h
          exact zR [] [] []
         ·refine zB [(6, .bool false)] [] ?_
          refine AW.ret ?_
          obtain rfl := Option.some.inj h
          exact zR [] [] []
        ·refine zS 5 [(86, .bool false)] [] ?_
         refine zB [(6, .bool false)] [] ?_
         refine AW.ret ?_
         obtain rfl := Option.some.inj h
         exact zR [] [] []

end Go.Proofs.Ytdicomoggfhbfaa
