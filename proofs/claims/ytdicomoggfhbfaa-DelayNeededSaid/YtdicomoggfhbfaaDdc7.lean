/-
  Made by wip/tool/dc.py out of the print of the program: contracts.
-/
import Derived.Test.YtdicomoggfhbfaaDlp
import Derived.Test.YtdicomoggfhbfaaShd
import Derived.Test.YtdicomoggfhbfaaAvd
import Derived.Test.YtdicomoggfhbfaaDdc1
import Derived.Test.YtdicomoggfhbfaaDdc3
import Derived.Test.YtdicomoggfhbfaaDdc4
import Derived.Test.YtdicomoggfhbfaaDdc5
import Derived.Test.YtdicomoggfhbfaaDdc6
namespace Go.Proofs.Ytdicomoggfhbfaa
open Go.RowKit

set_option linter.unusedSimpArgs false
set_option linter.unusedVariables false
set_option linter.constructorNameAsVariable false

set_option maxRecDepth 100000
set_option maxHeartbeats 40000000

theorem hc_lineallaw09_DelayNeeded (x0 : List (List (Int × Bool))) (circle : List (Int × Int × Int)) {r : Bool} (h : lineallaw09_DelayNeeded x0 circle = some r) : HC Try.prog 8 [] [.sl (.sl (.pair (.int .i64) .bool)) x0, .sl (.pair (.int .i64) (.pair (.int .i64) (.int .i64))) circle] [] (.bool r) := by
 unfold lineallaw09_DelayNeeded at h
 refine zH Try.func8 [.tmp 4] 150 ?_
 refine zo ?_
 refine zB [(0, .sl (.sl (.pair (.int .i64) .bool)) x0), (1, .sl (.pair (.int .i64) (.pair (.int .i64) (.int .i64))) circle)] [] ?_
 refine AW.seq ?_
 refine zo ?_
 refine zS 1 [(0, .sl (.sl (.pair (.int .i64) .bool)) x0), (1, .sl (.pair (.int .i64) (.pair (.int .i64) (.int .i64))) circle), (18, .sl (.sl (.pair (.int .i64) .bool)) x0)] [] ?_
 obtain ⟨v0, hv1, h⟩ := Option.bind_eq_some_iff.1 h
 refine zC [] [] (hc_lineallaw09_Long x0 hv1) [(0, .sl (.sl (.pair (.int .i64) .bool)) x0), (1, .sl (.pair (.int .i64) (.pair (.int .i64) (.int .i64))) circle), (19, .bool v0)] [] ?_
 refine zS 1 [(0, .sl (.sl (.pair (.int .i64) .bool)) x0), (1, .sl (.pair (.int .i64) (.pair (.int .i64) (.int .i64))) circle), (20, .bool v0)] [] ?_
 rcases zI h with ⟨hb2, h⟩ | ⟨hb2, h⟩
 ·refine zS 5 [(0, .sl (.sl (.pair (.int .i64) .bool)) x0), (1, .sl (.pair (.int .i64) (.pair (.int .i64) (.int .i64))) circle), (25, .bool true)] [] ?_
  refine zB [(0, .sl (.sl (.pair (.int .i64) .bool)) x0), (1, .sl (.pair (.int .i64) (.pair (.int .i64) (.int .i64))) circle), (29, .bool true)] [] ?_
  refine AW.cond (b := true) rfl (fun _ => ?_) (fun hb3 => by cases hb3)
  refine zo ?_
  obtain ⟨v0_2, hv4, h⟩ := Option.bind_eq_some_iff.1 h
  refine zC [] [] (hc_lineallaw09_Awake hv4) [(30, .bool v0_2)] [] ?_
  refine zB [(4, .bool v0_2)] [] ?_
  refine zr ?_
  obtain rfl := Option.some.inj h
  exact zR [] [] []
 ·refine zS 1 [(0, .sl (.sl (.pair (.int .i64) .bool)) x0), (1, .sl (.pair (.int .i64) (.pair (.int .i64) (.int .i64))) circle), (20, .bool false), (21, .sl (.sl (.pair (.int .i64) .bool)) x0)] [] ?_
  obtain ⟨v0_3, hv5, h⟩ := Option.bind_eq_some_iff.1 h
  refine zG [] [] (hc_linealref09_Valid x0 hv5) [(0, .sl (.sl (.pair (.int .i64) .bool)) x0), (1, .sl (.pair (.int .i64) (.pair (.int .i64) (.int .i64))) circle), (20, .bool false), (22, .bool v0_3)] [] ?_
  refine zS 3 [(0, .sl (.sl (.pair (.int .i64) .bool)) x0), (1, .sl (.pair (.int .i64) (.pair (.int .i64) (.int .i64))) circle), (25, .bool (!v0_3))] [] ?_
  rcases zI h with ⟨hb6, h⟩ | ⟨hb6, h⟩
  ·refine zB [(0, .sl (.sl (.pair (.int .i64) .bool)) x0), (1, .sl (.pair (.int .i64) (.pair (.int .i64) (.int .i64))) circle), (29, .bool true)] [] ?_
   refine AW.cond (b := true) rfl (fun _ => ?_) (fun hb7 => by cases hb7)
   refine zo ?_
   obtain ⟨v0_4, hv8, h⟩ := Option.bind_eq_some_iff.1 h
   refine zC [] [] (hc_lineallaw09_Awake hv8) [(30, .bool v0_4)] [] ?_
   refine zB [(4, .bool v0_4)] [] ?_
   refine zr ?_
   obtain rfl := Option.some.inj h
   exact zR [] [] []
  ·refine zB [(0, .sl (.sl (.pair (.int .i64) .bool)) x0), (1, .sl (.pair (.int .i64) (.pair (.int .i64) (.int .i64))) circle), (29, .bool (decide (20 < (circle.length : Int))))] [] ?_
   refine zQ h (fun hb9 h => ?_) (fun hb9 h => ?_)
   ·refine zo ?_
    obtain ⟨v0_5, hv10, h⟩ := Option.bind_eq_some_iff.1 h
    refine zC [] [] (hc_lineallaw09_Awake hv10) [(30, .bool v0_5)] [] ?_
    refine zB [(4, .bool v0_5)] [] ?_
    refine zr ?_
    obtain rfl := Option.some.inj h
    exact zR [] [] []
   ·refine zk ?_
    refine zo ?_
    refine zS 1 [(0, .sl (.sl (.pair (.int .i64) .bool)) x0), (1, .sl (.pair (.int .i64) (.pair (.int .i64) (.int .i64))) circle), (32, .sl (.sl (.pair (.int .i64) .bool)) x0)] [] ?_
    obtain ⟨v0_6, hv11, h⟩ := Option.bind_eq_some_iff.1 h
    refine zC [] [] (hc_delay_Needed x0 hv11) [(0, .sl (.sl (.pair (.int .i64) .bool)) x0), (1, .sl (.pair (.int .i64) (.pair (.int .i64) (.int .i64))) circle), (33, .tup [.own 43000, .int .i64 v0_6.2])] [(43000, .arr 35 (.pair (.int .i64) (.pair (.int .i64) (.int .i64))) v0_6.1)] ?_
    refine zB [(0, .sl (.sl (.pair (.int .i64) .bool)) x0), (1, .sl (.pair (.int .i64) (.pair (.int .i64) (.int .i64))) circle), (5, .own 43000), (6, .int .i64 v0_6.2)] [(43000, .arr 35 (.pair (.int .i64) (.pair (.int .i64) (.int .i64))) v0_6.1)] ?_
    refine zo ?_
    refine zS 1 [(0, .sl (.sl (.pair (.int .i64) .bool)) x0), (1, .sl (.pair (.int .i64) (.pair (.int .i64) (.int .i64))) circle), (5, .own 43000), (6, .int .i64 v0_6.2), (37, .sl (.sl (.pair (.int .i64) .bool)) x0)] [(43000, .arr 35 (.pair (.int .i64) (.pair (.int .i64) (.int .i64))) v0_6.1)] ?_
    obtain ⟨v0_7, hv12, h⟩ := Option.bind_eq_some_iff.1 h
    refine zC [] [] (hc_delay_Pairs x0 hv12) [(0, .sl (.sl (.pair (.int .i64) .bool)) x0), (1, .sl (.pair (.int .i64) (.pair (.int .i64) (.int .i64))) circle), (5, .own 43000), (6, .int .i64 v0_6.2), (38, .tup [.own 48000, .int .i64 v0_7.2])] [(43000, .arr 35 (.pair (.int .i64) (.pair (.int .i64) (.int .i64))) v0_6.1), (48000, .arr 35 (.pair (.int .i64) (.pair (.int .i64) (.int .i64))) v0_7.1)] ?_
    refine zB [(0, .sl (.sl (.pair (.int .i64) .bool)) x0), (1, .sl (.pair (.int .i64) (.pair (.int .i64) (.int .i64))) circle), (5, .own 43000), (6, .int .i64 v0_6.2), (7, .own 48000), (8, .int .i64 v0_7.2)] [(43000, .arr 35 (.pair (.int .i64) (.pair (.int .i64) (.int .i64))) v0_6.1), (48000, .arr 35 (.pair (.int .i64) (.pair (.int .i64) (.int .i64))) v0_7.1)] ?_
    refine zo ?_
    refine zS 1 [(0, .sl (.sl (.pair (.int .i64) .bool)) x0), (1, .sl (.pair (.int .i64) (.pair (.int .i64) (.int .i64))) circle), (5, .own 43000), (6, .int .i64 v0_6.2), (7, .own 48000), (8, .int .i64 v0_7.2), (42, .sl (.sl (.pair (.int .i64) .bool)) x0)] [(43000, .arr 35 (.pair (.int .i64) (.pair (.int .i64) (.int .i64))) v0_6.1), (48000, .arr 35 (.pair (.int .i64) (.pair (.int .i64) (.int .i64))) v0_7.1)] ?_
    obtain ⟨v0_8, hv13, h⟩ := Option.bind_eq_some_iff.1 h
    refine zC [] [] (hc_delay_Circles x0 hv13) [(0, .sl (.sl (.pair (.int .i64) .bool)) x0), (1, .sl (.pair (.int .i64) (.pair (.int .i64) (.int .i64))) circle), (5, .own 43000), (6, .int .i64 v0_6.2), (7, .own 48000), (8, .int .i64 v0_7.2), (43, .tup [.int .i64 v0_8.1, .int .i64 v0_8.2])] [(43000, .arr 35 (.pair (.int .i64) (.pair (.int .i64) (.int .i64))) v0_6.1), (48000, .arr 35 (.pair (.int .i64) (.pair (.int .i64) (.int .i64))) v0_7.1)] ?_
    refine zB [(0, .sl (.sl (.pair (.int .i64) .bool)) x0), (1, .sl (.pair (.int .i64) (.pair (.int .i64) (.int .i64))) circle), (5, .own 43000), (6, .int .i64 v0_6.2), (7, .own 48000), (8, .int .i64 v0_7.2), (9, .int .i64 v0_8.1), (10, .int .i64 v0_8.2)] [(43000, .arr 35 (.pair (.int .i64) (.pair (.int .i64) (.int .i64))) v0_6.1), (48000, .arr 35 (.pair (.int .i64) (.pair (.int .i64) (.int .i64))) v0_7.1)] ?_
    refine AW.seq ?_
    refine zo ?_
    refine zS 3 [(0, .sl (.sl (.pair (.int .i64) .bool)) x0), (1, .sl (.pair (.int .i64) (.pair (.int .i64) (.int .i64))) circle), (5, .own 43000), (7, .own 48000), (8, .int .i64 v0_7.2), (9, .int .i64 v0_8.1), (10, .int .i64 v0_8.2), (48, .bool (!(decide (v0_6.2 = 0))))] [(43000, .arr 35 (.pair (.int .i64) (.pair (.int .i64) (.int .i64))) v0_6.1), (48000, .arr 35 (.pair (.int .i64) (.pair (.int .i64) (.int .i64))) v0_7.1)] ?_
    rcases zI h with ⟨hb14, h⟩ | ⟨hb14, h⟩
    ·refine zS 5 [(0, .sl (.sl (.pair (.int .i64) .bool)) x0), (1, .sl (.pair (.int .i64) (.pair (.int .i64) (.int .i64))) circle), (5, .own 43000), (7, .own 48000), (9, .int .i64 v0_8.1), (52, .bool true), (53, .cv (undef))] [(43000, .arr 35 (.pair (.int .i64) (.pair (.int .i64) (.int .i64))) v0_6.1), (48000, .arr 35 (.pair (.int .i64) (.pair (.int .i64) (.int .i64))) v0_7.1)] ?_
     refine zS 5 [(0, .sl (.sl (.pair (.int .i64) .bool)) x0), (1, .sl (.pair (.int .i64) (.pair (.int .i64) (.int .i64))) circle), (5, .own 43000), (7, .own 48000), (9, .int .i64 v0_8.1), (56, .bool true), (58, .cv (undef))] [(43000, .arr 35 (.pair (.int .i64) (.pair (.int .i64) (.int .i64))) v0_6.1), (48000, .arr 35 (.pair (.int .i64) (.pair (.int .i64) (.int .i64))) v0_7.1)] ?_
     refine zS 4 [(0, .sl (.sl (.pair (.int .i64) .bool)) x0), (1, .sl (.pair (.int .i64) (.pair (.int .i64) (.int .i64))) circle), (5, .own 43000), (7, .own 48000), (9, .int .i64 v0_8.1), (56, .bool true), (62, .cv (undef))] [(43000, .arr 35 (.pair (.int .i64) (.pair (.int .i64) (.int .i64))) v0_6.1), (48000, .arr 35 (.pair (.int .i64) (.pair (.int .i64) (.int .i64))) v0_7.1)] ?_
     refine zB [(0, .sl (.sl (.pair (.int .i64) .bool)) x0), (1, .sl (.pair (.int .i64) (.pair (.int .i64) (.int .i64))) circle), (5, .own 43000), (7, .own 48000), (9, .int .i64 v0_8.1), (63, .bool true)] [(43000, .arr 35 (.pair (.int .i64) (.pair (.int .i64) (.int .i64))) v0_6.1), (48000, .arr 35 (.pair (.int .i64) (.pair (.int .i64) (.int .i64))) v0_7.1)] ?_
     refine AW.cond (b := true) rfl (fun _ => ?_) (fun hb15 => by cases hb15)
     refine zo ?_
     refine zB [(4, .bool false)] [] ?_
     refine zr ?_
     obtain rfl := Option.some.inj h
     exact zR [] [] []
    ·refine zS 4 [(0, .sl (.sl (.pair (.int .i64) .bool)) x0), (1, .sl (.pair (.int .i64) (.pair (.int .i64) (.int .i64))) circle), (5, .own 43000), (7, .own 48000), (9, .int .i64 v0_8.1), (10, .int .i64 v0_8.2), (52, .bool (!(decide (v0_7.2 = 0))))] [(43000, .arr 35 (.pair (.int .i64) (.pair (.int .i64) (.int .i64))) v0_6.1), (48000, .arr 35 (.pair (.int .i64) (.pair (.int .i64) (.int .i64))) v0_7.1)] ?_
     rcases zI h with ⟨hb16, h⟩ | ⟨hb16, h⟩
     ·refine zS 5 [(0, .sl (.sl (.pair (.int .i64) .bool)) x0), (1, .sl (.pair (.int .i64) (.pair (.int .i64) (.int .i64))) circle), (5, .own 43000), (7, .own 48000), (9, .int .i64 v0_8.1), (56, .bool true), (57, .cv (undef))] [(43000, .arr 35 (.pair (.int .i64) (.pair (.int .i64) (.int .i64))) v0_6.1), (48000, .arr 35 (.pair (.int .i64) (.pair (.int .i64) (.int .i64))) v0_7.1)] ?_
      refine zS 4 [(0, .sl (.sl (.pair (.int .i64) .bool)) x0), (1, .sl (.pair (.int .i64) (.pair (.int .i64) (.int .i64))) circle), (5, .own 43000), (7, .own 48000), (9, .int .i64 v0_8.1), (56, .bool true), (58, .cv (undef)), (61, .cv (undef))] [(43000, .arr 35 (.pair (.int .i64) (.pair (.int .i64) (.int .i64))) v0_6.1), (48000, .arr 35 (.pair (.int .i64) (.pair (.int .i64) (.int .i64))) v0_7.1)] ?_
      refine zB [(0, .sl (.sl (.pair (.int .i64) .bool)) x0), (1, .sl (.pair (.int .i64) (.pair (.int .i64) (.int .i64))) circle), (5, .own 43000), (7, .own 48000), (9, .int .i64 v0_8.1), (63, .bool true)] [(43000, .arr 35 (.pair (.int .i64) (.pair (.int .i64) (.int .i64))) v0_6.1), (48000, .arr 35 (.pair (.int .i64) (.pair (.int .i64) (.int .i64))) v0_7.1)] ?_
      refine AW.cond (b := true) rfl (fun _ => ?_) (fun hb17 => by cases hb17)
      refine zo ?_
      refine zB [(4, .bool false)] [] ?_
      refine zr ?_
      obtain rfl := Option.some.inj h
      exact zR [] [] []
     ·refine zS 4 [(0, .sl (.sl (.pair (.int .i64) .bool)) x0), (1, .sl (.pair (.int .i64) (.pair (.int .i64) (.int .i64))) circle), (5, .own 43000), (7, .own 48000), (9, .int .i64 v0_8.1), (56, .bool (!(decide (v0_8.2 = 0))))] [(43000, .arr 35 (.pair (.int .i64) (.pair (.int .i64) (.int .i64))) v0_6.1), (48000, .arr 35 (.pair (.int .i64) (.pair (.int .i64) (.int .i64))) v0_7.1)] ?_
      rcases zI h with ⟨hb18, h⟩ | ⟨hb18, h⟩
      ·refine zS 4 [(0, .sl (.sl (.pair (.int .i64) .bool)) x0), (1, .sl (.pair (.int .i64) (.pair (.int .i64) (.int .i64))) circle), (5, .own 43000), (7, .own 48000), (9, .int .i64 v0_8.1), (56, .bool true), (58, .cv (undef)), (60, .cv (undef))] [(43000, .arr 35 (.pair (.int .i64) (.pair (.int .i64) (.int .i64))) v0_6.1), (48000, .arr 35 (.pair (.int .i64) (.pair (.int .i64) (.int .i64))) v0_7.1)] ?_
       refine zB [(0, .sl (.sl (.pair (.int .i64) .bool)) x0), (1, .sl (.pair (.int .i64) (.pair (.int .i64) (.int .i64))) circle), (5, .own 43000), (7, .own 48000), (9, .int .i64 v0_8.1), (63, .bool true)] [(43000, .arr 35 (.pair (.int .i64) (.pair (.int .i64) (.int .i64))) v0_6.1), (48000, .arr 35 (.pair (.int .i64) (.pair (.int .i64) (.int .i64))) v0_7.1)] ?_
       refine AW.cond (b := true) rfl (fun _ => ?_) (fun hb19 => by cases hb19)
       refine zo ?_
       refine zB [(4, .bool false)] [] ?_
       refine zr ?_
       obtain rfl := Option.some.inj h
       exact zR [] [] []
      ·refine zS 5 [(0, .sl (.sl (.pair (.int .i64) .bool)) x0), (1, .sl (.pair (.int .i64) (.pair (.int .i64) (.int .i64))) circle), (5, .own 43000), (7, .own 48000), (9, .int .i64 v0_8.1), (56, .bool false), (58, .bool (decide (v0_8.1 = 0))), (61, .bool (decide ((v0_6.1.length : Int) = 0)))] [(43000, .arr 35 (.pair (.int .i64) (.pair (.int .i64) (.int .i64))) v0_6.1), (48000, .arr 35 (.pair (.int .i64) (.pair (.int .i64) (.int .i64))) v0_7.1)] ?_
       refine zB [(0, .sl (.sl (.pair (.int .i64) .bool)) x0), (1, .sl (.pair (.int .i64) (.pair (.int .i64) (.int .i64))) circle), (5, .own 43000), (7, .own 48000), (9, .int .i64 v0_8.1), (63, .bool (((decide (v0_8.1 = 0)) == (decide ((v0_6.1.length : Int) = 0))) != true))] [(43000, .arr 35 (.pair (.int .i64) (.pair (.int .i64) (.int .i64))) v0_6.1), (48000, .arr 35 (.pair (.int .i64) (.pair (.int .i64) (.int .i64))) v0_7.1)] ?_
       refine zQ h (fun hb20 h => ?_) (fun hb20 h => ?_)
       ·refine zo ?_
        refine zB [(4, .bool false)] [] ?_
        refine zr ?_
        obtain rfl := Option.some.inj h
        exact zR [] [] []
       ·refine zk ?_
        refine AW.have1 (fun _ : Unit => lineallaw09_DelayNeeded_k1 x0 circle v0_6 v0_8 = some r) (fun _ => ⟨fr [(0, .sl (.sl (.pair (.int .i64) .bool)) x0), (1, .sl (.pair (.int .i64) (.pair (.int .i64) (.int .i64))) circle), (5, .own 43000), (9, .int .i64 v0_8.1)], hpGet [(43000, .arr 35 (.pair (.int .i64) (.pair (.int .i64) (.int .i64))) v0_6.1)], gt⟩) (fun _ h => ?_) (fun hk_lineallaw09_DelayNeeded_k1 => ?_)
        ·as_aux_lemma =>
          unfold lineallaw09_DelayNeeded_k1 at h
          refine zo ?_
          refine zS 2 [(1, .sl (.pair (.int .i64) (.pair (.int .i64) (.int .i64))) circle), (5, .own 43000), (9, .int .i64 v0_8.1), (127, .sl (.sl (.pair (.int .i64) .bool)) x0), (128, .sl (.pair (.int .i64) (.pair (.int .i64) (.int .i64))) circle)] [(43000, .arr 35 (.pair (.int .i64) (.pair (.int .i64) (.int .i64))) v0_6.1)] ?_
          obtain ⟨v0_16, hv21, h⟩ := Option.bind_eq_some_iff.1 h
          refine zC [] [] (hc_delay_IsCircle x0 circle hv21) [(1, .sl (.pair (.int .i64) (.pair (.int .i64) (.int .i64))) circle), (5, .own 43000), (9, .int .i64 v0_8.1), (129, .tup [.bool v0_16.1, .int .i64 v0_16.2])] [(43000, .arr 35 (.pair (.int .i64) (.pair (.int .i64) (.int .i64))) v0_6.1)] ?_
          refine zB [(1, .sl (.pair (.int .i64) (.pair (.int .i64) (.int .i64))) circle), (5, .own 43000), (6, .int .i64 v0_16.2), (9, .int .i64 v0_8.1), (17, .bool v0_16.1)] [(43000, .arr 35 (.pair (.int .i64) (.pair (.int .i64) (.int .i64))) v0_6.1)] ?_
          refine zo ?_
          refine zS 3 [(1, .sl (.pair (.int .i64) (.pair (.int .i64) (.int .i64))) circle), (5, .own 43000), (9, .int .i64 v0_8.1), (17, .bool v0_16.1), (134, .bool (decide (v0_16.2 = 0)))] [(43000, .arr 35 (.pair (.int .i64) (.pair (.int .i64) (.int .i64))) v0_6.1)] ?_
          rcases zI h with ⟨hb22, h⟩ | ⟨hb22, h⟩
          ·refine zS 3 [(1, .sl (.pair (.int .i64) (.pair (.int .i64) (.int .i64))) circle), (5, .own 43000), (9, .int .i64 v0_8.1), (134, .bool true), (137, .bool (!v0_16.1))] [(43000, .arr 35 (.pair (.int .i64) (.pair (.int .i64) (.int .i64))) v0_6.1)] ?_
           rcases zI h with ⟨hb23, h⟩ | ⟨hb23, h⟩
           ·refine zS 4 [(1, .sl (.pair (.int .i64) (.pair (.int .i64) (.int .i64))) circle), (134, .bool true), (137, .bool true), (140, .cv (undef)), (141, .cv (undef))] [] ?_
            refine zS 5 [(146, .bool true)] [] ?_
            refine zS 1 [(147, .bool true)] [] ?_
            obtain ⟨v0_17, hv24, h⟩ := Option.bind_eq_some_iff.1 h
            refine zG [] [] (hc_lineallaw09_Awake hv24) [(147, .bool true), (148, .bool v0_17)] [] ?_
            refine zB [(4, .bool v0_17)] [] ?_
            refine AW.ret ?_
            obtain rfl := Option.some.inj h
            exact zR [] [] []
           ·refine zS 3 [(1, .sl (.pair (.int .i64) (.pair (.int .i64) (.int .i64))) circle), (5, .own 43000), (134, .bool true), (137, .bool false), (140, .bool (decide (0 < v0_8.1)))] [(43000, .arr 35 (.pair (.int .i64) (.pair (.int .i64) (.int .i64))) v0_6.1)] ?_
            rcases zI h with ⟨hb25, h⟩ | ⟨hb25, h⟩
            ·refine zS 2 [(134, .bool true), (137, .bool false), (140, .bool true), (141, .own 43000), (142, .sl (.pair (.int .i64) (.pair (.int .i64) (.int .i64))) circle)] [(43000, .arr 35 (.pair (.int .i64) (.pair (.int .i64) (.int .i64))) v0_6.1)] ?_
             obtain ⟨v0_18, hv26, h⟩ := Option.bind_eq_some_iff.1 h
             refine zG [43000] [] (hc_lineallaw09_all v0_6.1 circle hv26) [(134, .bool true), (137, .bool false), (140, .bool true), (143, .bool v0_18)] [] ?_
             refine zS 4 [(147, .bool v0_18)] [] ?_
             rcases zI h with ⟨hb27, h⟩ | ⟨hb27, h⟩
             ·refine zT [(147, .bool true)] [] gt ?_
              obtain ⟨v0_19, hv28, h⟩ := Option.bind_eq_some_iff.1 h
              refine zG [] [] (hc_lineallaw09_Awake hv28) [(147, .bool true), (148, .bool v0_19)] [] ?_
              refine zB [(4, .bool v0_19)] [] ?_
              refine AW.ret ?_
              obtain rfl := Option.some.inj h
              exact zR [] [] []
             ·refine zB [(4, .bool false)] [] ?_
              refine AW.ret ?_
              obtain rfl := Option.some.inj h
              exact zR [] [] []
            ·refine zS 5 [(134, .bool true), (145, .bool false)] [] ?_
             refine zB [(4, .bool false)] [] ?_
             refine AW.ret ?_
             obtain rfl := Option.some.inj h
             exact zR [] [] []
          ·refine zS 4 [(1, .sl (.pair (.int .i64) (.pair (.int .i64) (.int .i64))) circle), (5, .own 43000), (134, .bool false), (137, .cv (undef)), (138, .cv (undef))] [(43000, .arr 35 (.pair (.int .i64) (.pair (.int .i64) (.int .i64))) v0_6.1)] ?_
           refine zS 4 [(134, .bool false), (137, .cv (undef)), (140, .cv (undef)), (141, .cv (undef)), (142, .cv (undef))] [] ?_
           refine zS 5 [(147, .bool false)] [] ?_
           refine zB [(4, .bool false)] [] ?_
           refine AW.ret ?_
           obtain rfl := Option.some.inj h
           exact zR [] [] []
        ·refine AW.seq ?_
         refine zo ?_
         refine zB [(0, .sl (.sl (.pair (.int .i64) .bool)) x0), (1, .sl (.pair (.int .i64) (.pair (.int .i64) (.int .i64))) circle), (5, .own 43000), (7, .own 48000), (9, .int .i64 v0_8.1), (64, .own 43000), (65, .int .i64 (v0_6.1.length : Int)), (66, .int .i64 0)] [(43000, .arr 35 (.pair (.int .i64) (.pair (.int .i64) (.int .i64))) v0_6.1), (48000, .arr 35 (.pair (.int .i64) (.pair (.int .i64) (.int .i64))) v0_7.1)] ?_
         refine AW.block ?_
         obtain ⟨rv33, hw29, ho30⟩ := Option.bind_eq_some_iff.1 h
         refine AW.loopO (lineallaw09_DelayNeeded_b1 x0 v0_6 v0_7) (fun st1 => ⟨fr [(0, .sl (.sl (.pair (.int .i64) .bool)) x0), (1, .sl (.pair (.int .i64) (.pair (.int .i64) (.int .i64))) circle), (5, .own 43000), (7, .own 48000), (9, .int .i64 v0_8.1), (64, .own 43000), (65, .int .i64 (v0_6.1.length : Int)), (66, .int .i64 st1)], hpGet [(43000, .arr 35 (.pair (.int .i64) (.pair (.int .i64) (.int .i64))) v0_6.1), (48000, .arr 35 (.pair (.int .i64) (.pair (.int .i64) (.int .i64))) v0_7.1)], gt⟩) 0 hw29 (zL [] [] []) ?_
         as_aux_lemma =>
          intro st1 x32 h hd31
          unfold lineallaw09_DelayNeeded_b1 at h
          refine zo ?_
          refine zB [(0, .sl (.sl (.pair (.int .i64) .bool)) x0), (1, .sl (.pair (.int .i64) (.pair (.int .i64) (.int .i64))) circle), (5, .own 43000), (7, .own 48000), (9, .int .i64 v0_8.1), (64, .own 43000), (65, .int .i64 (v0_6.1.length : Int)), (66, .int .i64 st1), (67, .bool (decide (st1 < (v0_6.1.length : Int))))] [(43000, .arr 35 (.pair (.int .i64) (.pair (.int .i64) (.int .i64))) v0_6.1), (48000, .arr 35 (.pair (.int .i64) (.pair (.int .i64) (.int .i64))) v0_7.1)] ?_
          refine AW.seq ?_
          refine zQ h (fun hb34 h => ?_) (fun hb34 h => ?_)
          ·refine zk ?_
           refine AW.seq ?_
           refine AW.block ?_
           refine zo ?_
           obtain ⟨c35, h⟩ := ck_some.1 h
           obtain ⟨c36, h⟩ := ck_some.1 h
           refine zS 5 [(0, .sl (.sl (.pair (.int .i64) .bool)) x0), (1, .sl (.pair (.int .i64) (.pair (.int .i64) (.int .i64))) circle), (5, .own 43000), (7, .own 48000), (9, .int .i64 v0_8.1), (11, .int .i64 st1), (12, .bp 12 0), (64, .own 43000), (65, .int .i64 (v0_6.1.length : Int)), (66, .int .i64 st1), (70, .agg [.int .i64 (v0_6.1.getD st1.toNat (0, 0, 0)).1, .int .i64 (v0_6.1.getD st1.toNat (0, 0, 0)).2.1, .int .i64 (v0_6.1.getD st1.toNat (0, 0, 0)).2.2])] [(12, .box 35 [.int .i64 0, .int .i64 0, .int .i64 0]), (43000, .arr 35 (.pair (.int .i64) (.pair (.int .i64) (.int .i64))) v0_6.1), (48000, .arr 35 (.pair (.int .i64) (.pair (.int .i64) (.int .i64))) v0_7.1)] ?_
           refine zB [(0, .sl (.sl (.pair (.int .i64) .bool)) x0), (1, .sl (.pair (.int .i64) (.pair (.int .i64) (.int .i64))) circle), (5, .own 43000), (7, .own 48000), (9, .int .i64 v0_8.1), (11, .int .i64 st1), (12, .bp 12 0), (64, .own 43000), (65, .int .i64 (v0_6.1.length : Int)), (66, .int .i64 st1)] [(12, .box 35 [.int .i64 (v0_6.1.getD st1.toNat (0, 0, 0)).1, .int .i64 (v0_6.1.getD st1.toNat (0, 0, 0)).2.1, .int .i64 (v0_6.1.getD st1.toNat (0, 0, 0)).2.2]), (43000, .arr 35 (.pair (.int .i64) (.pair (.int .i64) (.int .i64))) v0_6.1), (48000, .arr 35 (.pair (.int .i64) (.pair (.int .i64) (.int .i64))) v0_7.1)] ?_
           refine zo ?_
           refine zS 2 [(0, .sl (.sl (.pair (.int .i64) .bool)) x0), (1, .sl (.pair (.int .i64) (.pair (.int .i64) (.int .i64))) circle), (5, .own 43000), (7, .own 48000), (9, .int .i64 v0_8.1), (11, .int .i64 st1), (12, .bp 12 0), (64, .own 43000), (65, .int .i64 (v0_6.1.length : Int)), (66, .int .i64 st1), (72, .sl (.sl (.pair (.int .i64) .bool)) x0), (73, .agg [.int .i64 (v0_6.1.getD st1.toNat (0, 0, 0)).1, .int .i64 (v0_6.1.getD st1.toNat (0, 0, 0)).2.1, .int .i64 (v0_6.1.getD st1.toNat (0, 0, 0)).2.2])] [(12, .box 35 [.int .i64 (v0_6.1.getD st1.toNat (0, 0, 0)).1, .int .i64 (v0_6.1.getD st1.toNat (0, 0, 0)).2.1, .int .i64 (v0_6.1.getD st1.toNat (0, 0, 0)).2.2]), (43000, .arr 35 (.pair (.int .i64) (.pair (.int .i64) (.int .i64))) v0_6.1), (48000, .arr 35 (.pair (.int .i64) (.pair (.int .i64) (.int .i64))) v0_7.1)] ?_
           obtain ⟨v0_9, hv37, h⟩ := Option.bind_eq_some_iff.1 h
           refine zC [] [] (hc_delay_Circle x0 (v0_6.1.getD st1.toNat (0, 0, 0)) hv37) [(0, .sl (.sl (.pair (.int .i64) .bool)) x0), (1, .sl (.pair (.int .i64) (.pair (.int .i64) (.int .i64))) circle), (5, .own 43000), (7, .own 48000), (9, .int .i64 v0_8.1), (11, .int .i64 st1), (12, .bp 12 0), (64, .own 43000), (65, .int .i64 (v0_6.1.length : Int)), (66, .int .i64 st1), (74, .tup [.sl (.pair (.int .i64) (.pair (.int .i64) (.int .i64))) v0_9.1, .int .i64 v0_9.2])] [(12, .box 35 [.int .i64 (v0_6.1.getD st1.toNat (0, 0, 0)).1, .int .i64 (v0_6.1.getD st1.toNat (0, 0, 0)).2.1, .int .i64 (v0_6.1.getD st1.toNat (0, 0, 0)).2.2]), (43000, .arr 35 (.pair (.int .i64) (.pair (.int .i64) (.int .i64))) v0_6.1), (48000, .arr 35 (.pair (.int .i64) (.pair (.int .i64) (.int .i64))) v0_7.1)] ?_
           refine zB [(0, .sl (.sl (.pair (.int .i64) .bool)) x0), (1, .sl (.pair (.int .i64) (.pair (.int .i64) (.int .i64))) circle), (5, .own 43000), (7, .own 48000), (9, .int .i64 v0_8.1), (11, .int .i64 st1), (12, .bp 12 0), (13, .sl (.pair (.int .i64) (.pair (.int .i64) (.int .i64))) v0_9.1), (14, .int .i64 v0_9.2), (64, .own 43000), (65, .int .i64 (v0_6.1.length : Int)), (66, .int .i64 st1)] [(12, .box 35 [.int .i64 (v0_6.1.getD st1.toNat (0, 0, 0)).1, .int .i64 (v0_6.1.getD st1.toNat (0, 0, 0)).2.1, .int .i64 (v0_6.1.getD st1.toNat (0, 0, 0)).2.2]), (43000, .arr 35 (.pair (.int .i64) (.pair (.int .i64) (.int .i64))) v0_6.1), (48000, .arr 35 (.pair (.int .i64) (.pair (.int .i64) (.int .i64))) v0_7.1)] ?_
           refine zo ?_
           refine zS 2 [(0, .sl (.sl (.pair (.int .i64) .bool)) x0), (1, .sl (.pair (.int .i64) (.pair (.int .i64) (.int .i64))) circle), (5, .own 43000), (7, .own 48000), (9, .int .i64 v0_8.1), (11, .int .i64 st1), (12, .bp 12 0), (13, .sl (.pair (.int .i64) (.pair (.int .i64) (.int .i64))) v0_9.1), (14, .int .i64 v0_9.2), (64, .own 43000), (65, .int .i64 (v0_6.1.length : Int)), (66, .int .i64 st1), (78, .sl (.sl (.pair (.int .i64) .bool)) x0), (79, .sl (.pair (.int .i64) (.pair (.int .i64) (.int .i64))) v0_9.1)] [(12, .box 35 [.int .i64 (v0_6.1.getD st1.toNat (0, 0, 0)).1, .int .i64 (v0_6.1.getD st1.toNat (0, 0, 0)).2.1, .int .i64 (v0_6.1.getD st1.toNat (0, 0, 0)).2.2]), (43000, .arr 35 (.pair (.int .i64) (.pair (.int .i64) (.int .i64))) v0_6.1), (48000, .arr 35 (.pair (.int .i64) (.pair (.int .i64) (.int .i64))) v0_7.1)] ?_
           obtain ⟨v0_10, hv38, h⟩ := Option.bind_eq_some_iff.1 h
           refine zC [] [] (hc_delay_IsCircle x0 v0_9.1 hv38) [(0, .sl (.sl (.pair (.int .i64) .bool)) x0), (1, .sl (.pair (.int .i64) (.pair (.int .i64) (.int .i64))) circle), (5, .own 43000), (7, .own 48000), (9, .int .i64 v0_8.1), (11, .int .i64 st1), (12, .bp 12 0), (13, .sl (.pair (.int .i64) (.pair (.int .i64) (.int .i64))) v0_9.1), (14, .int .i64 v0_9.2), (64, .own 43000), (65, .int .i64 (v0_6.1.length : Int)), (66, .int .i64 st1), (80, .tup [.bool v0_10.1, .int .i64 v0_10.2])] [(12, .box 35 [.int .i64 (v0_6.1.getD st1.toNat (0, 0, 0)).1, .int .i64 (v0_6.1.getD st1.toNat (0, 0, 0)).2.1, .int .i64 (v0_6.1.getD st1.toNat (0, 0, 0)).2.2]), (43000, .arr 35 (.pair (.int .i64) (.pair (.int .i64) (.int .i64))) v0_6.1), (48000, .arr 35 (.pair (.int .i64) (.pair (.int .i64) (.int .i64))) v0_7.1)] ?_
           refine zB [(0, .sl (.sl (.pair (.int .i64) .bool)) x0), (1, .sl (.pair (.int .i64) (.pair (.int .i64) (.int .i64))) circle), (5, .own 43000), (7, .own 48000), (9, .int .i64 v0_8.1), (11, .int .i64 st1), (12, .bp 12 0), (13, .sl (.pair (.int .i64) (.pair (.int .i64) (.int .i64))) v0_9.1), (14, .int .i64 v0_9.2), (15, .bool v0_10.1), (16, .int .i64 v0_10.2), (64, .own 43000), (65, .int .i64 (v0_6.1.length : Int)), (66, .int .i64 st1)] [(12, .box 35 [.int .i64 (v0_6.1.getD st1.toNat (0, 0, 0)).1, .int .i64 (v0_6.1.getD st1.toNat (0, 0, 0)).2.1, .int .i64 (v0_6.1.getD st1.toNat (0, 0, 0)).2.2]), (43000, .arr 35 (.pair (.int .i64) (.pair (.int .i64) (.int .i64))) v0_6.1), (48000, .arr 35 (.pair (.int .i64) (.pair (.int .i64) (.int .i64))) v0_7.1)] ?_
           refine AW.seq ?_
           refine AW.draw tab_ok mixed_ok [] [] (by decide) (lex_fast (by kernel_rfl)) ?_
           as_aux_lemma =>
            refine adops_cut 3 (fun K' hK39 => ?_)
            try dsimp only [List.drop_succ_cons, List.drop_zero, List.take_succ_cons, List.take_zero]
            simp only [go_sem, hb2, hb6, hb9, hb14, hb16, hb18, hb20, hb34]
            repeat with_reducible refine zN ?_
            refine hK39 _ ?_
            as_aux_lemma =>
             rcases zI h with ⟨hb40, h⟩ | ⟨hb40, h⟩
             ·simp only [hb40]
              as_aux_lemma =>
               refine adops_cut 6 (fun K' hK41 => ?_)
               try dsimp only [List.drop_succ_cons, List.drop_zero, List.take_succ_cons, List.take_zero]
               simp only [go_sem, hb2, hb6, hb9, hb14, hb16, hb18, hb20, hb34, hb40]
               repeat with_reducible refine zN ?_
               refine hK41 _ ?_
               as_aux_lemma =>
                refine adops_cut 6 (fun K' hK42 => ?_)
                try dsimp only [List.drop_succ_cons, List.drop_zero, List.take_succ_cons, List.take_zero]
                simp only [go_sem, hb2, hb6, hb9, hb14, hb16, hb18, hb20, hb34, hb40]
                repeat with_reducible refine zN ?_
                refine hK42 _ ?_
                as_aux_lemma =>
                 refine adops_cut 6 (fun K' hK43 => ?_)
                 try dsimp only [List.drop_succ_cons, List.drop_zero, List.take_succ_cons, List.take_zero]
                 simp only [go_sem, hb2, hb6, hb9, hb14, hb16, hb18, hb20, hb34, hb40]
                 repeat with_reducible refine zN ?_
                 refine hK43 _ ?_
                 as_aux_lemma =>
                  refine adops_cut 6 (fun K' hK44 => ?_)
                  try dsimp only [List.drop_succ_cons, List.drop_zero, List.take_succ_cons, List.take_zero]
                  simp only [go_sem, hb2, hb6, hb9, hb14, hb16, hb18, hb20, hb34, hb40]
                  repeat with_reducible refine zN ?_
                  refine hK44 _ ?_
                  as_aux_lemma =>
                   refine adops_cut 4 (fun K' hK45 => ?_)
                   try dsimp only [List.drop_succ_cons, List.drop_zero, List.take_succ_cons, List.take_zero]
                   simp only [go_sem, hb2, hb6, hb9, hb14, hb16, hb18, hb20, hb34, hb40]
                   repeat with_reducible refine zN ?_
                   refine hK45 _ ?_
                   as_aux_lemma =>
                    refine adops_cut 4 (fun K' hK46 => ?_)
                    try dsimp only [List.drop_succ_cons, List.drop_zero, List.take_succ_cons, List.take_zero]
                    simp only [go_sem, hb2, hb6, hb9, hb14, hb16, hb18, hb20, hb34, hb40]
                    repeat with_reducible refine zN ?_
                    refine hK46 _ ?_
                    as_aux_lemma =>
                     refine adops_cut 6 (fun K' hK47 => ?_)
                     try dsimp only [List.drop_succ_cons, List.drop_zero, List.take_succ_cons, List.take_zero]
                     simp only [go_sem, hb2, hb6, hb9, hb14, hb16, hb18, hb20, hb34, hb40]
                     repeat with_reducible refine zN ?_
                     refine hK47 _ ?_
                     as_aux_lemma =>
                      refine adops_cut 1 (fun K' hK48 => ?_)
                      try dsimp only [List.drop_succ_cons, List.drop_zero, List.take_succ_cons, List.take_zero]
                      simp only [go_sem, hb2, hb6, hb9, hb14, hb16, hb18, hb20, hb34, hb40]
                      repeat with_reducible refine zN ?_
                      refine hK48 _ ?_
                      refine adops_nil ?_
                      refine athen_n ?_
                      refine zV [(0, .sl (.sl (.pair (.int .i64) .bool)) x0), (1, .sl (.pair (.int .i64) (.pair (.int .i64) (.int .i64))) circle), (5, .own 43000), (7, .own 48000), (9, .int .i64 v0_8.1), (64, .own 43000), (65, .int .i64 (v0_6.1.length : Int)), (66, .int .i64 st1), (124, .bool true)] [(43000, .arr 35 (.pair (.int .i64) (.pair (.int .i64) (.int .i64))) v0_6.1), (48000, .arr 35 (.pair (.int .i64) (.pair (.int .i64) (.int .i64))) v0_7.1)] gt ?_
                      as_aux_lemma =>
                       refine AW.cond (b := true) rfl (fun _ => ?_) (fun hb49 => by cases hb49)
                       refine zo ?_
                       refine zB [(4, .bool false)] [] ?_
                       refine AW.ret ?_
                       refine ablock_r ?_
                       refine athen_r ?_
                       obtain rfl := Option.some.inj h
                       try rw [← hd31 _ rfl] at ho30
                       have h := ho30
                       try simp only at h
                       refine athen_r ?_
                       refine ablock_r ?_
                       refine athen_r ?_
                       obtain rfl := Option.some.inj h
                       exact zR [] [] []
             ·simp only [hb40]
              as_aux_lemma =>
               refine adops_cut 4 (fun K' hK50 => ?_)
               try dsimp only [List.drop_succ_cons, List.drop_zero, List.take_succ_cons, List.take_zero]
               simp only [go_sem, hb2, hb6, hb9, hb14, hb16, hb18, hb20, hb34, hb40]
               repeat with_reducible refine zN ?_
               refine hK50 _ ?_
               as_aux_lemma =>
                rcases zI h with ⟨hb51, h⟩ | ⟨hb51, h⟩
                ·simp only [hb51]
                 as_aux_lemma =>
                  refine adops_cut 6 (fun K' hK52 => ?_)
                  try dsimp only [List.drop_succ_cons, List.drop_zero, List.take_succ_cons, List.take_zero]
                  simp only [go_sem, hb2, hb6, hb9, hb14, hb16, hb18, hb20, hb34, hb40, hb51]
                  repeat with_reducible refine zN ?_
                  refine hK52 _ ?_
                  as_aux_lemma =>
                   refine adops_cut 6 (fun K' hK53 => ?_)
                   try dsimp only [List.drop_succ_cons, List.drop_zero, List.take_succ_cons, List.take_zero]
                   simp only [go_sem, hb2, hb6, hb9, hb14, hb16, hb18, hb20, hb34, hb40, hb51]
                   repeat with_reducible refine zN ?_
                   refine hK53 _ ?_
                   as_aux_lemma =>
                    refine adops_cut 6 (fun K' hK54 => ?_)
                    try dsimp only [List.drop_succ_cons, List.drop_zero, List.take_succ_cons, List.take_zero]
                    simp only [go_sem, hb2, hb6, hb9, hb14, hb16, hb18, hb20, hb34, hb40, hb51]
                    repeat with_reducible refine zN ?_
                    refine hK54 _ ?_
                    as_aux_lemma =>
                     refine adops_cut 4 (fun K' hK55 => ?_)
                     try dsimp only [List.drop_succ_cons, List.drop_zero, List.take_succ_cons, List.take_zero]
                     simp only [go_sem, hb2, hb6, hb9, hb14, hb16, hb18, hb20, hb34, hb40, hb51]
                     repeat with_reducible refine zN ?_
                     refine hK55 _ ?_
                     as_aux_lemma =>
                      refine adops_cut 4 (fun K' hK56 => ?_)
                      try dsimp only [List.drop_succ_cons, List.drop_zero, List.take_succ_cons, List.take_zero]
                      simp only [go_sem, hb2, hb6, hb9, hb14, hb16, hb18, hb20, hb34, hb40, hb51]
                      repeat with_reducible refine zN ?_
                      refine hK56 _ ?_
                      as_aux_lemma =>
                       refine adops_cut 6 (fun K' hK57 => ?_)
                       try dsimp only [List.drop_succ_cons, List.drop_zero, List.take_succ_cons, List.take_zero]
                       simp only [go_sem, hb2, hb6, hb9, hb14, hb16, hb18, hb20, hb34, hb40, hb51]
                       repeat with_reducible refine zN ?_
                       refine hK57 _ ?_
                       as_aux_lemma =>
                        refine adops_cut 3 (fun K' hK58 => ?_)
                        try dsimp only [List.drop_succ_cons, List.drop_zero, List.take_succ_cons, List.take_zero]
                        simp only [go_sem, hb2, hb6, hb9, hb14, hb16, hb18, hb20, hb34, hb40, hb51]
                        repeat with_reducible refine zN ?_
                        refine hK58 _ ?_
                        refine adops_nil ?_
                        refine athen_n ?_
                        refine zV [(0, .sl (.sl (.pair (.int .i64) .bool)) x0), (1, .sl (.pair (.int .i64) (.pair (.int .i64) (.int .i64))) circle), (5, .own 43000), (7, .own 48000), (9, .int .i64 v0_8.1), (64, .own 43000), (65, .int .i64 (v0_6.1.length : Int)), (66, .int .i64 st1), (124, .bool true)] [(43000, .arr 35 (.pair (.int .i64) (.pair (.int .i64) (.int .i64))) v0_6.1), (48000, .arr 35 (.pair (.int .i64) (.pair (.int .i64) (.int .i64))) v0_7.1)] gt ?_
                        as_aux_lemma =>
                         refine AW.cond (b := true) rfl (fun _ => ?_) (fun hb59 => by cases hb59)
                         refine zo ?_
                         refine zB [(4, .bool false)] [] ?_
                         refine AW.ret ?_
                         refine ablock_r ?_
                         refine athen_r ?_
                         obtain rfl := Option.some.inj h
                         try rw [← hd31 _ rfl] at ho30
                         have h := ho30
                         try simp only at h
                         refine athen_r ?_
                         refine ablock_r ?_
                         refine athen_r ?_
                         obtain rfl := Option.some.inj h
                         exact zR [] [] []
                ·simp only [hb51]
                 as_aux_lemma =>
                  refine adops_cut 4 (fun K' hK60 => ?_)
                  try dsimp only [List.drop_succ_cons, List.drop_zero, List.take_succ_cons, List.take_zero]
                  simp only [go_sem, hb2, hb6, hb9, hb14, hb16, hb18, hb20, hb34, hb40, hb51]
                  repeat with_reducible refine zN ?_
                  refine hK60 _ ?_
                  as_aux_lemma =>
                   rcases zI h with ⟨hb61, h⟩ | ⟨hb61, h⟩
                   ·simp only [hb61]
                    as_aux_lemma =>
                     refine adops_cut 4 (fun K' hK62 => ?_)
                     try dsimp only [List.drop_succ_cons, List.drop_zero, List.take_succ_cons, List.take_zero]
                     simp only [go_sem, hb2, hb6, hb9, hb14, hb16, hb18, hb20, hb34, hb40, hb51, hb61]
                     repeat with_reducible refine zN ?_
                     refine hK62 _ ?_
                     as_aux_lemma =>
                      refine adops_cut 6 (fun K' hK63 => ?_)
                      try dsimp only [List.drop_succ_cons, List.drop_zero, List.take_succ_cons, List.take_zero]
                      simp only [go_sem, hb2, hb6, hb9, hb14, hb16, hb18, hb20, hb34, hb40, hb51, hb61]
                      repeat with_reducible refine zN ?_
                      refine hK63 _ ?_
                      as_aux_lemma =>
                       refine adops_cut 6 (fun K' hK64 => ?_)
                       try dsimp only [List.drop_succ_cons, List.drop_zero, List.take_succ_cons, List.take_zero]
                       simp only [go_sem, hb2, hb6, hb9, hb14, hb16, hb18, hb20, hb34, hb40, hb51, hb61]
                       repeat with_reducible refine zN ?_
                       refine hK64 _ ?_
                       as_aux_lemma =>
                        refine adops_cut 4 (fun K' hK65 => ?_)
                        try dsimp only [List.drop_succ_cons, List.drop_zero, List.take_succ_cons, List.take_zero]
                        simp only [go_sem, hb2, hb6, hb9, hb14, hb16, hb18, hb20, hb34, hb40, hb51, hb61]
                        repeat with_reducible refine zN ?_
                        refine hK65 _ ?_
                        as_aux_lemma =>
                         refine adops_cut 4 (fun K' hK66 => ?_)
                         try dsimp only [List.drop_succ_cons, List.drop_zero, List.take_succ_cons, List.take_zero]
                         simp only [go_sem, hb2, hb6, hb9, hb14, hb16, hb18, hb20, hb34, hb40, hb51, hb61]
                         repeat with_reducible refine zN ?_
                         refine hK66 _ ?_
                         as_aux_lemma =>
                          refine adops_cut 6 (fun K' hK67 => ?_)
                          try dsimp only [List.drop_succ_cons, List.drop_zero, List.take_succ_cons, List.take_zero]
                          simp only [go_sem, hb2, hb6, hb9, hb14, hb16, hb18, hb20, hb34, hb40, hb51, hb61]
                          repeat with_reducible refine zN ?_
                          refine hK67 _ ?_
                          as_aux_lemma =>
                           refine adops_cut 1 (fun K' hK68 => ?_)
                           try dsimp only [List.drop_succ_cons, List.drop_zero, List.take_succ_cons, List.take_zero]
                           simp only [go_sem, hb2, hb6, hb9, hb14, hb16, hb18, hb20, hb34, hb40, hb51, hb61]
                           repeat with_reducible refine zN ?_
                           refine hK68 _ ?_
                           refine adops_nil ?_
                           refine athen_n ?_
                           refine zV [(0, .sl (.sl (.pair (.int .i64) .bool)) x0), (1, .sl (.pair (.int .i64) (.pair (.int .i64) (.int .i64))) circle), (5, .own 43000), (7, .own 48000), (9, .int .i64 v0_8.1), (64, .own 43000), (65, .int .i64 (v0_6.1.length : Int)), (66, .int .i64 st1), (124, .bool true)] [(43000, .arr 35 (.pair (.int .i64) (.pair (.int .i64) (.int .i64))) v0_6.1), (48000, .arr 35 (.pair (.int .i64) (.pair (.int .i64) (.int .i64))) v0_7.1)] gt ?_
                           as_aux_lemma =>
                            refine AW.cond (b := true) rfl (fun _ => ?_) (fun hb69 => by cases hb69)
                            refine zo ?_
                            refine zB [(4, .bool false)] [] ?_
                            refine AW.ret ?_
                            refine ablock_r ?_
                            refine athen_r ?_
                            obtain rfl := Option.some.inj h
                            try rw [← hd31 _ rfl] at ho30
                            have h := ho30
                            try simp only at h
                            refine athen_r ?_
                            refine ablock_r ?_
                            refine athen_r ?_
                            obtain rfl := Option.some.inj h
                            exact zR [] [] []
                   ·simp only [hb61]
                    as_aux_lemma =>
                     refine adops_cut 2 (fun K' hK70 => ?_)
                     try dsimp only [List.drop_succ_cons, List.drop_zero, List.take_succ_cons, List.take_zero]
                     simp only [go_sem, hb2, hb6, hb9, hb14, hb16, hb18, hb20, hb34, hb40, hb51, hb61]
                     repeat with_reducible refine zN ?_
                     refine hK70 _ ?_
                     as_aux_lemma =>
                      obtain ⟨v0_11, hv71, h⟩ := Option.bind_eq_some_iff.1 h
                      refine adops.call (by first | trivial | rfl) rfl rfl rfl (fun _ h => ⟨fun _ => h, fun hn => absurd rfl hn⟩) [] [] (hc_lineallaw09_in v0_9.1 (v0_6.1.getD st1.toNat (0, 0, 0)) hv71) rfl (by (simp only [go_sem, hb2, hb6, hb9, hb14, hb16, hb18, hb20, hb34, hb40, hb51, hb61]) <;> (with_reducible and_intros) <;> first | assumption | rfl | omega | (unfold maxLen; omega)) (by (simp only [go_sem, hb2, hb6, hb9, hb14, hb16, hb18, hb20, hb34, hb40, hb51, hb61]) <;> (with_reducible and_intros) <;> first | assumption | rfl | omega | (unfold maxLen; omega)) rfl ?_
                      refine adops_cut 3 (fun K' hK72 => ?_)
                      try dsimp only [List.drop_succ_cons, List.drop_zero, List.take_succ_cons, List.take_zero]
                      simp only [go_sem, hb2, hb6, hb9, hb14, hb16, hb18, hb20, hb34, hb40, hb51, hb61]
                      repeat with_reducible refine zN ?_
                      refine hK72 _ ?_
                      as_aux_lemma =>
                       rcases zI h with ⟨hb73, h⟩ | ⟨hb73, h⟩
                       ·simp only [hb73]
                        as_aux_lemma =>
                         refine adops_cut 4 (fun K' hK74 => ?_)
                         try dsimp only [List.drop_succ_cons, List.drop_zero, List.take_succ_cons, List.take_zero]
                         simp only [go_sem, hb2, hb6, hb9, hb14, hb16, hb18, hb20, hb34, hb40, hb51, hb61, hb73]
                         repeat with_reducible refine zN ?_
                         refine hK74 _ ?_
                         as_aux_lemma =>
                          refine adops_cut 6 (fun K' hK75 => ?_)
                          try dsimp only [List.drop_succ_cons, List.drop_zero, List.take_succ_cons, List.take_zero]
                          simp only [go_sem, hb2, hb6, hb9, hb14, hb16, hb18, hb20, hb34, hb40, hb51, hb61, hb73]
                          repeat with_reducible refine zN ?_
                          refine hK75 _ ?_
                          as_aux_lemma =>
                           refine adops_cut 4 (fun K' hK76 => ?_)
                           try dsimp only [List.drop_succ_cons, List.drop_zero, List.take_succ_cons, List.take_zero]
                           simp only [go_sem, hb2, hb6, hb9, hb14, hb16, hb18, hb20, hb34, hb40, hb51, hb61, hb73]
                           repeat with_reducible refine zN ?_
                           refine hK76 _ ?_
                           as_aux_lemma =>
                            refine adops_cut 4 (fun K' hK77 => ?_)
                            try dsimp only [List.drop_succ_cons, List.drop_zero, List.take_succ_cons, List.take_zero]
                            simp only [go_sem, hb2, hb6, hb9, hb14, hb16, hb18, hb20, hb34, hb40, hb51, hb61, hb73]
                            repeat with_reducible refine zN ?_
                            refine hK77 _ ?_
                            as_aux_lemma =>
                             refine adops_cut 6 (fun K' hK78 => ?_)
                             try dsimp only [List.drop_succ_cons, List.drop_zero, List.take_succ_cons, List.take_zero]
                             simp only [go_sem, hb2, hb6, hb9, hb14, hb16, hb18, hb20, hb34, hb40, hb51, hb61, hb73]
                             repeat with_reducible refine zN ?_
                             refine hK78 _ ?_
                             as_aux_lemma =>
                              refine adops_cut 1 (fun K' hK79 => ?_)
                              try dsimp only [List.drop_succ_cons, List.drop_zero, List.take_succ_cons, List.take_zero]
                              simp only [go_sem, hb2, hb6, hb9, hb14, hb16, hb18, hb20, hb34, hb40, hb51, hb61, hb73]
                              repeat with_reducible refine zN ?_
                              refine hK79 _ ?_
                              refine adops_nil ?_
                              refine athen_n ?_
                              refine zV [(0, .sl (.sl (.pair (.int .i64) .bool)) x0), (1, .sl (.pair (.int .i64) (.pair (.int .i64) (.int .i64))) circle), (5, .own 43000), (7, .own 48000), (9, .int .i64 v0_8.1), (64, .own 43000), (65, .int .i64 (v0_6.1.length : Int)), (66, .int .i64 st1), (124, .bool true)] [(43000, .arr 35 (.pair (.int .i64) (.pair (.int .i64) (.int .i64))) v0_6.1), (48000, .arr 35 (.pair (.int .i64) (.pair (.int .i64) (.int .i64))) v0_7.1)] gt ?_
                              as_aux_lemma =>
                               refine AW.cond (b := true) rfl (fun _ => ?_) (fun hb80 => by cases hb80)
                               refine zo ?_
                               refine zB [(4, .bool false)] [] ?_
                               refine AW.ret ?_
                               refine ablock_r ?_
                               refine athen_r ?_
                               obtain rfl := Option.some.inj h
                               try rw [← hd31 _ rfl] at ho30
                               have h := ho30
                               try simp only at h
                               refine athen_r ?_
                               refine ablock_r ?_
                               refine athen_r ?_
                               obtain rfl := Option.some.inj h
                               exact zR [] [] []
                       ·simp only [hb73]
                        as_aux_lemma =>
                         refine adops_cut 2 (fun K' hK81 => ?_)
                         try dsimp only [List.drop_succ_cons, List.drop_zero, List.take_succ_cons, List.take_zero]
                         simp only [go_sem, hb2, hb6, hb9, hb14, hb16, hb18, hb20, hb34, hb40, hb51, hb61, hb73]
                         repeat with_reducible refine zN ?_
                         refine hK81 _ ?_
                         as_aux_lemma =>
                          obtain ⟨v0_12, hv82, h⟩ := Option.bind_eq_some_iff.1 h
                          refine adops.call (by first | trivial | rfl) rfl rfl rfl (fun _ h => ⟨fun _ => h, fun hn => absurd rfl hn⟩) [48000] [] (hc_lineallaw09_in v0_7.1 (v0_6.1.getD st1.toNat (0, 0, 0)) hv82) rfl (by (simp only [go_sem, hb2, hb6, hb9, hb14, hb16, hb18, hb20, hb34, hb40, hb51, hb61, hb73]) <;> (with_reducible and_intros) <;> first | assumption | rfl | omega | (unfold maxLen; omega)) (by (simp only [go_sem, hb2, hb6, hb9, hb14, hb16, hb18, hb20, hb34, hb40, hb51, hb61, hb73]) <;> (with_reducible and_intros) <;> first | assumption | rfl | omega | (unfold maxLen; omega)) rfl ?_
                          refine adops_cut 3 (fun K' hK83 => ?_)
                          try dsimp only [List.drop_succ_cons, List.drop_zero, List.take_succ_cons, List.take_zero]
                          simp only [go_sem, hb2, hb6, hb9, hb14, hb16, hb18, hb20, hb34, hb40, hb51, hb61, hb73]
                          repeat with_reducible refine zN ?_
                          refine hK83 _ ?_
                          as_aux_lemma =>
                           rcases zI h with ⟨hb84, h⟩ | ⟨hb84, h⟩
                           ·simp only [hb84]
                            as_aux_lemma =>
                             refine adops_cut 4 (fun K' hK85 => ?_)
                             try dsimp only [List.drop_succ_cons, List.drop_zero, List.take_succ_cons, List.take_zero]
                             simp only [go_sem, hb2, hb6, hb9, hb14, hb16, hb18, hb20, hb34, hb40, hb51, hb61, hb73, hb84]
                             repeat with_reducible refine zN ?_
                             refine hK85 _ ?_
                             as_aux_lemma =>
                              refine adops_cut 4 (fun K' hK86 => ?_)
                              try dsimp only [List.drop_succ_cons, List.drop_zero, List.take_succ_cons, List.take_zero]
                              simp only [go_sem, hb2, hb6, hb9, hb14, hb16, hb18, hb20, hb34, hb40, hb51, hb61, hb73, hb84]
                              repeat with_reducible refine zN ?_
                              refine hK86 _ ?_
                              as_aux_lemma =>
                               refine adops_cut 4 (fun K' hK87 => ?_)
                               try dsimp only [List.drop_succ_cons, List.drop_zero, List.take_succ_cons, List.take_zero]
                               simp only [go_sem, hb2, hb6, hb9, hb14, hb16, hb18, hb20, hb34, hb40, hb51, hb61, hb73, hb84]
                               repeat with_reducible refine zN ?_
                               refine hK87 _ ?_
                               as_aux_lemma =>
                                refine adops_cut 6 (fun K' hK88 => ?_)
                                try dsimp only [List.drop_succ_cons, List.drop_zero, List.take_succ_cons, List.take_zero]
                                simp only [go_sem, hb2, hb6, hb9, hb14, hb16, hb18, hb20, hb34, hb40, hb51, hb61, hb73, hb84]
                                repeat with_reducible refine zN ?_
                                refine hK88 _ ?_
                                as_aux_lemma =>
                                 refine adops_cut 1 (fun K' hK89 => ?_)
                                 try dsimp only [List.drop_succ_cons, List.drop_zero, List.take_succ_cons, List.take_zero]
                                 simp only [go_sem, hb2, hb6, hb9, hb14, hb16, hb18, hb20, hb34, hb40, hb51, hb61, hb73, hb84]
                                 repeat with_reducible refine zN ?_
                                 refine hK89 _ ?_
                                 refine adops_nil ?_
                                 refine athen_n ?_
                                 refine zV [(0, .sl (.sl (.pair (.int .i64) .bool)) x0), (1, .sl (.pair (.int .i64) (.pair (.int .i64) (.int .i64))) circle), (5, .own 43000), (7, .own 48000), (9, .int .i64 v0_8.1), (64, .own 43000), (65, .int .i64 (v0_6.1.length : Int)), (66, .int .i64 st1), (124, .bool true)] [(43000, .arr 35 (.pair (.int .i64) (.pair (.int .i64) (.int .i64))) v0_6.1), (48000, .arr 35 (.pair (.int .i64) (.pair (.int .i64) (.int .i64))) v0_7.1)] gt ?_
                                 as_aux_lemma =>
                                  refine AW.cond (b := true) rfl (fun _ => ?_) (fun hb90 => by cases hb90)
                                  refine zo ?_
                                  refine zB [(4, .bool false)] [] ?_
                                  refine AW.ret ?_
                                  refine ablock_r ?_
                                  refine athen_r ?_
                                  obtain rfl := Option.some.inj h
                                  try rw [← hd31 _ rfl] at ho30
                                  have h := ho30
                                  try simp only at h
                                  refine athen_r ?_
                                  refine ablock_r ?_
                                  refine athen_r ?_
                                  obtain rfl := Option.some.inj h
                                  exact zR [] [] []
                           ·simp only [hb84]
                            as_aux_lemma =>
                             refine adops_cut 3 (fun K' hK91 => ?_)
                             try dsimp only [List.drop_succ_cons, List.drop_zero, List.take_succ_cons, List.take_zero]
                             simp only [go_sem, hb2, hb6, hb9, hb14, hb16, hb18, hb20, hb34, hb40, hb51, hb61, hb73, hb84]
                             repeat with_reducible refine zN ?_
                             refine hK91 _ ?_
                             as_aux_lemma =>
                              rcases zI h with ⟨hb92, h⟩ | ⟨hb92, h⟩
                              ·simp only [hb92]
                               as_aux_lemma =>
                                obtain ⟨c94, h⟩ := ck_some.1 h
                                obtain ⟨c95, h⟩ := ck_some.1 h
                                obtain ⟨c96, h⟩ := ck_some.1 h
                                refine adops_cut 6 (fun K' hK93 => ?_)
                                try dsimp only [List.drop_succ_cons, List.drop_zero, List.take_succ_cons, List.take_zero]
                                simp only [go_sem, hb2, hb6, hb9, hb14, hb16, hb18, hb20, hb34, hb40, hb51, hb61, hb73, hb84, hb92]
                                repeat with_reducible refine zN ?_
                                refine hK93 _ ?_
                                as_aux_lemma =>
                                 obtain ⟨v0_13, hv97, h⟩ := Option.bind_eq_some_iff.1 h
                                 refine adops.call (by first | trivial | rfl) rfl rfl rfl (fun _ h => ⟨fun _ => h, fun hn => absurd rfl hn⟩) [] [] (hc_lineallaw09_earlier (v0_6.1.getD (st1 - 1).toNat (0, 0, 0)) (v0_6.1.getD st1.toNat (0, 0, 0)) hv97) rfl (by (simp only [go_sem, hb2, hb6, hb9, hb14, hb16, hb18, hb20, hb34, hb40, hb51, hb61, hb73, hb84, hb92]) <;> (with_reducible and_intros) <;> first | assumption | rfl | omega | (unfold maxLen; omega)) (by (simp only [go_sem, hb2, hb6, hb9, hb14, hb16, hb18, hb20, hb34, hb40, hb51, hb61, hb73, hb84, hb92]) <;> (with_reducible and_intros) <;> first | assumption | rfl | omega | (unfold maxLen; omega)) rfl ?_
                                 refine adops_cut 4 (fun K' hK98 => ?_)
                                 try dsimp only [List.drop_succ_cons, List.drop_zero, List.take_succ_cons, List.take_zero]
                                 simp only [go_sem, hb2, hb6, hb9, hb14, hb16, hb18, hb20, hb34, hb40, hb51, hb61, hb73, hb84, hb92]
                                 repeat with_reducible refine zN ?_
                                 refine hK98 _ ?_
                                 as_aux_lemma =>
                                  rcases zI h with ⟨hb99, h⟩ | ⟨hb99, h⟩
                                  ·simp only [hb99]
                                   as_aux_lemma =>
                                    refine adops_cut 4 (fun K' hK100 => ?_)
                                    try dsimp only [List.drop_succ_cons, List.drop_zero, List.take_succ_cons, List.take_zero]
                                    simp only [go_sem, hb2, hb6, hb9, hb14, hb16, hb18, hb20, hb34, hb40, hb51, hb61, hb73, hb84, hb92, hb99]
                                    repeat with_reducible refine zN ?_
                                    refine hK100 _ ?_
                                    as_aux_lemma =>
                                     refine adops_cut 1 (fun K' hK101 => ?_)
                                     try dsimp only [List.drop_succ_cons, List.drop_zero, List.take_succ_cons, List.take_zero]
                                     simp only [go_sem, hb2, hb6, hb9, hb14, hb16, hb18, hb20, hb34, hb40, hb51, hb61, hb73, hb84, hb92, hb99]
                                     repeat with_reducible refine zN ?_
                                     refine hK101 _ ?_
                                     refine adops_nil ?_
                                     refine athen_n ?_
                                     refine zV [(0, .sl (.sl (.pair (.int .i64) .bool)) x0), (1, .sl (.pair (.int .i64) (.pair (.int .i64) (.int .i64))) circle), (5, .own 43000), (7, .own 48000), (9, .int .i64 v0_8.1), (64, .own 43000), (65, .int .i64 (v0_6.1.length : Int)), (66, .int .i64 st1), (124, .bool true)] [(43000, .arr 35 (.pair (.int .i64) (.pair (.int .i64) (.int .i64))) v0_6.1), (48000, .arr 35 (.pair (.int .i64) (.pair (.int .i64) (.int .i64))) v0_7.1)] gt ?_
                                     as_aux_lemma =>
                                      refine AW.cond (b := true) rfl (fun _ => ?_) (fun hb102 => by cases hb102)
                                      refine zo ?_
                                      refine zB [(4, .bool false)] [] ?_
                                      refine AW.ret ?_
                                      refine ablock_r ?_
                                      refine athen_r ?_
                                      obtain rfl := Option.some.inj h
                                      try rw [← hd31 _ rfl] at ho30
                                      have h := ho30
                                      try simp only at h
                                      refine athen_r ?_
                                      refine ablock_r ?_
                                      refine athen_r ?_
                                      obtain rfl := Option.some.inj h
                                      exact zR [] [] []
                                  ·simp only [hb99]
                                   as_aux_lemma =>
                                    refine adops_cut 2 (fun K' hK103 => ?_)
                                    try dsimp only [List.drop_succ_cons, List.drop_zero, List.take_succ_cons, List.take_zero]
                                    simp only [go_sem, hb2, hb6, hb9, hb14, hb16, hb18, hb20, hb34, hb40, hb51, hb61, hb73, hb84, hb92, hb99]
                                    repeat with_reducible refine zN ?_
                                    refine hK103 _ ?_
                                    as_aux_lemma =>
                                     obtain ⟨v0_14, hv104, h⟩ := Option.bind_eq_some_iff.1 h
                                     refine adops.call (by first | trivial | rfl) rfl rfl rfl (fun _ h => ⟨fun _ => h, fun hn => absurd rfl hn⟩) [43000] [] (hc_lineallaw09_all v0_6.1 v0_9.1 hv104) rfl (by (simp only [go_sem, hb2, hb6, hb9, hb14, hb16, hb18, hb20, hb34, hb40, hb51, hb61, hb73, hb84, hb92, hb99]) <;> (with_reducible and_intros) <;> first | assumption | rfl | omega | (unfold maxLen; omega)) (by (simp only [go_sem, hb2, hb6, hb9, hb14, hb16, hb18, hb20, hb34, hb40, hb51, hb61, hb73, hb84, hb92, hb99]) <;> (with_reducible and_intros) <;> first | assumption | rfl | omega | (unfold maxLen; omega)) rfl ?_
                                     refine adops_cut 2 (fun K' hK105 => ?_)
                                     try dsimp only [List.drop_succ_cons, List.drop_zero, List.take_succ_cons, List.take_zero]
                                     simp only [go_sem, hb2, hb6, hb9, hb14, hb16, hb18, hb20, hb34, hb40, hb51, hb61, hb73, hb84, hb92, hb99]
                                     repeat with_reducible refine zN ?_
                                     refine hK105 _ ?_
                                     refine adops_nil ?_
                                     refine athen_n ?_
                                     refine zV [(0, .sl (.sl (.pair (.int .i64) .bool)) x0), (1, .sl (.pair (.int .i64) (.pair (.int .i64) (.int .i64))) circle), (5, .own 43000), (7, .own 48000), (9, .int .i64 v0_8.1), (64, .own 43000), (65, .int .i64 (v0_6.1.length : Int)), (66, .int .i64 st1), (124, .bool (!v0_14))] [(43000, .arr 35 (.pair (.int .i64) (.pair (.int .i64) (.int .i64))) v0_6.1), (48000, .arr 35 (.pair (.int .i64) (.pair (.int .i64) (.int .i64))) v0_7.1)] gt ?_
                                     as_aux_lemma =>
                                      refine zQ h (fun hb106 h => ?_) (fun hb106 h => ?_)
                                      ·refine zo ?_
                                       refine zB [(4, .bool false)] [] ?_
                                       refine AW.ret ?_
                                       refine ablock_r ?_
                                       refine athen_r ?_
                                       obtain rfl := Option.some.inj h
                                       try rw [← hd31 _ rfl] at ho30
                                       have h := ho30
                                       try simp only at h
                                       refine athen_r ?_
                                       refine ablock_r ?_
                                       refine athen_r ?_
                                       obtain rfl := Option.some.inj h
                                       exact zR [] [] []
                                      ·refine zm ?_
                                       refine athen_n ?_
                                       refine AW.ops ?_
                                       obtain ⟨c107, h⟩ := ck_some.1 h
                                       refine zA [(0, .sl (.sl (.pair (.int .i64) .bool)) x0), (1, .sl (.pair (.int .i64) (.pair (.int .i64) (.int .i64))) circle), (5, .own 43000), (7, .own 48000), (9, .int .i64 v0_8.1), (64, .own 43000), (65, .int .i64 (v0_6.1.length : Int)), (66, .int .i64 (st1 + 1))] [(43000, .arr 35 (.pair (.int .i64) (.pair (.int .i64) (.int .i64))) v0_6.1), (48000, .arr 35 (.pair (.int .i64) (.pair (.int .i64) (.int .i64))) v0_7.1)] ?_
                                       obtain rfl := Option.some.inj h
                                       exact ⟨_, rfl, zL [] [] []⟩
                              ·simp only [hb92]
                               as_aux_lemma =>
                                refine adops_cut 4 (fun K' hK108 => ?_)
                                try dsimp only [List.drop_succ_cons, List.drop_zero, List.take_succ_cons, List.take_zero]
                                simp only [go_sem, hb2, hb6, hb9, hb14, hb16, hb18, hb20, hb34, hb40, hb51, hb61, hb73, hb84, hb92]
                                repeat with_reducible refine zN ?_
                                refine hK108 _ ?_
                                as_aux_lemma =>
                                 refine adops_cut 4 (fun K' hK109 => ?_)
                                 try dsimp only [List.drop_succ_cons, List.drop_zero, List.take_succ_cons, List.take_zero]
                                 simp only [go_sem, hb2, hb6, hb9, hb14, hb16, hb18, hb20, hb34, hb40, hb51, hb61, hb73, hb84, hb92]
                                 repeat with_reducible refine zN ?_
                                 refine hK109 _ ?_
                                 as_aux_lemma =>
                                  refine adops_cut 5 (fun K' hK110 => ?_)
                                  try dsimp only [List.drop_succ_cons, List.drop_zero, List.take_succ_cons, List.take_zero]
                                  simp only [go_sem, hb2, hb6, hb9, hb14, hb16, hb18, hb20, hb34, hb40, hb51, hb61, hb73, hb84, hb92]
                                  repeat with_reducible refine zN ?_
                                  refine hK110 _ ?_
                                  as_aux_lemma =>
                                   obtain ⟨v0_15, hv111, h⟩ := Option.bind_eq_some_iff.1 h
                                   refine adops.call (by first | trivial | rfl) rfl rfl rfl (fun _ h => ⟨fun _ => h, fun hn => absurd rfl hn⟩) [43000] [] (hc_lineallaw09_all v0_6.1 v0_9.1 hv111) rfl (by (simp only [go_sem, hb2, hb6, hb9, hb14, hb16, hb18, hb20, hb34, hb40, hb51, hb61, hb73, hb84, hb92]) <;> (with_reducible and_intros) <;> first | assumption | rfl | omega | (unfold maxLen; omega)) (by (simp only [go_sem, hb2, hb6, hb9, hb14, hb16, hb18, hb20, hb34, hb40, hb51, hb61, hb73, hb84, hb92]) <;> (with_reducible and_intros) <;> first | assumption | rfl | omega | (unfold maxLen; omega)) rfl ?_
                                   refine adops_cut 2 (fun K' hK112 => ?_)
                                   try dsimp only [List.drop_succ_cons, List.drop_zero, List.take_succ_cons, List.take_zero]
                                   simp only [go_sem, hb2, hb6, hb9, hb14, hb16, hb18, hb20, hb34, hb40, hb51, hb61, hb73, hb84, hb92]
                                   repeat with_reducible refine zN ?_
                                   refine hK112 _ ?_
                                   refine adops_nil ?_
                                   refine athen_n ?_
                                   refine zV [(0, .sl (.sl (.pair (.int .i64) .bool)) x0), (1, .sl (.pair (.int .i64) (.pair (.int .i64) (.int .i64))) circle), (5, .own 43000), (7, .own 48000), (9, .int .i64 v0_8.1), (64, .own 43000), (65, .int .i64 (v0_6.1.length : Int)), (66, .int .i64 st1), (124, .bool (!v0_15))] [(43000, .arr 35 (.pair (.int .i64) (.pair (.int .i64) (.int .i64))) v0_6.1), (48000, .arr 35 (.pair (.int .i64) (.pair (.int .i64) (.int .i64))) v0_7.1)] gt ?_
                                   as_aux_lemma =>
                                    refine zQ h (fun hb113 h => ?_) (fun hb113 h => ?_)
                                    ·refine zo ?_
                                     refine zB [(4, .bool false)] [] ?_
                                     refine AW.ret ?_
                                     refine ablock_r ?_
                                     refine athen_r ?_
                                     obtain rfl := Option.some.inj h
                                     try rw [← hd31 _ rfl] at ho30
                                     have h := ho30
                                     try simp only at h
                                     refine athen_r ?_
                                     refine ablock_r ?_
                                     refine athen_r ?_
                                     obtain rfl := Option.some.inj h
                                     exact zR [] [] []
                                    ·refine zm ?_
                                     refine athen_n ?_
                                     refine AW.ops ?_
                                     obtain ⟨c114, h⟩ := ck_some.1 h
                                     refine zA [(0, .sl (.sl (.pair (.int .i64) .bool)) x0), (1, .sl (.pair (.int .i64) (.pair (.int .i64) (.int .i64))) circle), (5, .own 43000), (7, .own 48000), (9, .int .i64 v0_8.1), (64, .own 43000), (65, .int .i64 (v0_6.1.length : Int)), (66, .int .i64 (st1 + 1))] [(43000, .arr 35 (.pair (.int .i64) (.pair (.int .i64) (.int .i64))) v0_6.1), (48000, .arr 35 (.pair (.int .i64) (.pair (.int .i64) (.int .i64))) v0_7.1)] ?_
                                     obtain rfl := Option.some.inj h
                                     exact ⟨_, rfl, zL [] [] []⟩
          ·refine AW.exit ?_
           refine athen_e ?_
           obtain rfl := Option.some.inj h
           try rw [← hd31 _ rfl] at ho30
           have h := ho30
           try simp only at h
           refine athen_e ?_
           refine ablock_s ?_
           refine athen_n ?_
           exact AW.weaken (zL [] [] []) (hk_lineallaw09_DelayNeeded_k1 () h)

end Go.Proofs.Ytdicomoggfhbfaa
