/-
  Made by wip/tool/dc.py out of the print of the program: contracts.
-/
import Derived.Test.YtdicomoggfhbfaaDlp
import Derived.Test.YtdicomoggfhbfaaShd
import Derived.Test.YtdicomoggfhbfaaDic1
import Derived.Test.YtdicomoggfhbfaaDic3
import Derived.Test.YtdicomoggfhbfaaDic4
import Derived.Test.YtdicomoggfhbfaaDic5
import Derived.Test.YtdicomoggfhbfaaDic7
import Derived.Test.YtdicomoggfhbfaaDic8
namespace Go.Proofs.Ytdicomoggfhbfaa
open Go.RowKit

set_option linter.unusedSimpArgs false
set_option linter.unusedVariables false
set_option linter.constructorNameAsVariable false

set_option maxRecDepth 100000
set_option maxHeartbeats 40000000

theorem hc_lineallaw09_DelayRenamed (x0 : List (List (Int × Bool))) (costs : List (List Int)) (threads : List Int) {r : Bool} (h : lineallaw09_DelayRenamed x0 costs threads = some r) : HC Try.prog 12 [] [.sl (.sl (.pair (.int .i64) .bool)) x0, .sl (.sl (.int .i64)) costs, .sl (.int .i64) threads] [] (.bool r) := by
 unfold lineallaw09_DelayRenamed at h
 refine zH Try.func12 [.tmp 6] 114 ?_
 refine zo ?_
 refine zB [(0, .sl (.sl (.pair (.int .i64) .bool)) x0), (1, .sl (.sl (.int .i64)) costs), (2, .sl (.int .i64) threads)] [] ?_
 refine AW.seq ?_
 refine zo ?_
 refine zS 1 [(0, .sl (.sl (.pair (.int .i64) .bool)) x0), (1, .sl (.sl (.int .i64)) costs), (2, .sl (.int .i64) threads), (20, .sl (.sl (.pair (.int .i64) .bool)) x0)] [] ?_
 obtain ⟨v0, hv1, h⟩ := Option.bind_eq_some_iff.1 h
 refine zC [] [] (hc_lineallaw09_Long x0 hv1) [(0, .sl (.sl (.pair (.int .i64) .bool)) x0), (1, .sl (.sl (.int .i64)) costs), (2, .sl (.int .i64) threads), (21, .bool v0)] [] ?_
 refine zS 1 [(0, .sl (.sl (.pair (.int .i64) .bool)) x0), (1, .sl (.sl (.int .i64)) costs), (2, .sl (.int .i64) threads), (22, .bool v0)] [] ?_
 rcases zI h with ⟨hb2, h⟩ | ⟨hb2, h⟩
 ·refine zS 5 [(0, .sl (.sl (.pair (.int .i64) .bool)) x0), (1, .sl (.sl (.int .i64)) costs), (2, .sl (.int .i64) threads), (27, .bool true)] [] ?_
  refine zS 4 [(0, .sl (.sl (.pair (.int .i64) .bool)) x0), (1, .sl (.sl (.int .i64)) costs), (2, .sl (.int .i64) threads), (27, .bool true), (31, .cv (undef))] [] ?_
  refine zS 5 [(0, .sl (.sl (.pair (.int .i64) .bool)) x0), (1, .sl (.sl (.int .i64)) costs), (2, .sl (.int .i64) threads), (33, .bool true), (35, .cv (undef)), (36, .cv (undef))] [] ?_
  refine zB [(0, .sl (.sl (.pair (.int .i64) .bool)) x0), (1, .sl (.sl (.int .i64)) costs), (2, .sl (.int .i64) threads), (39, .bool true)] [] ?_
  refine AW.cond (b := true) rfl (fun _ => ?_) (fun hb3 => by cases hb3)
  refine zo ?_
  obtain ⟨v0_2, hv4, h⟩ := Option.bind_eq_some_iff.1 h
  refine zC [] [] (hc_lineallaw09_Awake hv4) [(40, .bool v0_2)] [] ?_
  refine zB [(6, .bool v0_2)] [] ?_
  refine zr ?_
  obtain rfl := Option.some.inj h
  exact zR [] [] []
 ·refine zS 1 [(0, .sl (.sl (.pair (.int .i64) .bool)) x0), (1, .sl (.sl (.int .i64)) costs), (2, .sl (.int .i64) threads), (22, .bool false), (23, .sl (.sl (.pair (.int .i64) .bool)) x0)] [] ?_
  obtain ⟨v0_3, hv5, h⟩ := Option.bind_eq_some_iff.1 h
  refine zG [] [] (hc_linealref09_Valid x0 hv5) [(0, .sl (.sl (.pair (.int .i64) .bool)) x0), (1, .sl (.sl (.int .i64)) costs), (2, .sl (.int .i64) threads), (22, .bool false), (24, .bool v0_3)] [] ?_
  refine zS 3 [(0, .sl (.sl (.pair (.int .i64) .bool)) x0), (1, .sl (.sl (.int .i64)) costs), (2, .sl (.int .i64) threads), (27, .bool (!v0_3))] [] ?_
  rcases zI h with ⟨hb6, h⟩ | ⟨hb6, h⟩
  ·refine zS 4 [(0, .sl (.sl (.pair (.int .i64) .bool)) x0), (1, .sl (.sl (.int .i64)) costs), (2, .sl (.int .i64) threads), (27, .bool true), (31, .cv (undef))] [] ?_
   refine zS 5 [(0, .sl (.sl (.pair (.int .i64) .bool)) x0), (1, .sl (.sl (.int .i64)) costs), (2, .sl (.int .i64) threads), (33, .bool true), (35, .cv (undef)), (36, .cv (undef))] [] ?_
   refine zB [(0, .sl (.sl (.pair (.int .i64) .bool)) x0), (1, .sl (.sl (.int .i64)) costs), (2, .sl (.int .i64) threads), (39, .bool true)] [] ?_
   refine AW.cond (b := true) rfl (fun _ => ?_) (fun hb7 => by cases hb7)
   refine zo ?_
   obtain ⟨v0_4, hv8, h⟩ := Option.bind_eq_some_iff.1 h
   refine zC [] [] (hc_lineallaw09_Awake hv8) [(40, .bool v0_4)] [] ?_
   refine zB [(6, .bool v0_4)] [] ?_
   refine zr ?_
   obtain rfl := Option.some.inj h
   exact zR [] [] []
  ·refine zS 2 [(0, .sl (.sl (.pair (.int .i64) .bool)) x0), (1, .sl (.sl (.int .i64)) costs), (2, .sl (.int .i64) threads), (27, .bool false), (28, .sl (.sl (.pair (.int .i64) .bool)) x0), (29, .sl (.sl (.int .i64)) costs)] [] ?_
   obtain ⟨v0_5, hv9, h⟩ := Option.bind_eq_some_iff.1 h
   refine zG [] [] (hc_linealref09_AreCosts x0 costs hv9) [(0, .sl (.sl (.pair (.int .i64) .bool)) x0), (1, .sl (.sl (.int .i64)) costs), (2, .sl (.int .i64) threads), (27, .bool false), (30, .bool v0_5)] [] ?_
   refine zS 3 [(0, .sl (.sl (.pair (.int .i64) .bool)) x0), (1, .sl (.sl (.int .i64)) costs), (2, .sl (.int .i64) threads), (33, .bool (!v0_5))] [] ?_
   rcases zI h with ⟨hb10, h⟩ | ⟨hb10, h⟩
   ·refine zS 4 [(0, .sl (.sl (.pair (.int .i64) .bool)) x0), (1, .sl (.sl (.int .i64)) costs), (2, .sl (.int .i64) threads), (33, .bool true), (37, .cv (undef))] [] ?_
    refine zB [(0, .sl (.sl (.pair (.int .i64) .bool)) x0), (1, .sl (.sl (.int .i64)) costs), (2, .sl (.int .i64) threads), (39, .bool true)] [] ?_
    refine AW.cond (b := true) rfl (fun _ => ?_) (fun hb11 => by cases hb11)
    refine zo ?_
    obtain ⟨v0_6, hv12, h⟩ := Option.bind_eq_some_iff.1 h
    refine zC [] [] (hc_lineallaw09_Awake hv12) [(40, .bool v0_6)] [] ?_
    refine zB [(6, .bool v0_6)] [] ?_
    refine zr ?_
    obtain rfl := Option.some.inj h
    exact zR [] [] []
   ·refine zS 3 [(0, .sl (.sl (.pair (.int .i64) .bool)) x0), (1, .sl (.sl (.int .i64)) costs), (2, .sl (.int .i64) threads), (33, .bool false), (35, .int .i64 (x0.length : Int)), (36, .sl (.int .i64) threads)] [] ?_
    obtain ⟨v0_7, hv13, h⟩ := Option.bind_eq_some_iff.1 h
    refine zG [] [] (hc_linealref09_AreThreads (x0.length : Int) threads hv13) [(0, .sl (.sl (.pair (.int .i64) .bool)) x0), (1, .sl (.sl (.int .i64)) costs), (2, .sl (.int .i64) threads), (33, .bool false), (37, .bool v0_7)] [] ?_
    refine zB [(0, .sl (.sl (.pair (.int .i64) .bool)) x0), (1, .sl (.sl (.int .i64)) costs), (2, .sl (.int .i64) threads), (39, .bool (!v0_7))] [] ?_
    refine zQ h (fun hb14 h => ?_) (fun hb14 h => ?_)
    ·refine zo ?_
     obtain ⟨v0_8, hv15, h⟩ := Option.bind_eq_some_iff.1 h
     refine zC [] [] (hc_lineallaw09_Awake hv15) [(40, .bool v0_8)] [] ?_
     refine zB [(6, .bool v0_8)] [] ?_
     refine zr ?_
     obtain rfl := Option.some.inj h
     exact zR [] [] []
    ·refine zk ?_
     refine zo ?_
     refine zS 2 [(0, .sl (.sl (.pair (.int .i64) .bool)) x0), (1, .sl (.sl (.int .i64)) costs), (2, .sl (.int .i64) threads), (42, .sl (.sl (.pair (.int .i64) .bool)) x0), (43, .sl (.int .i64) threads)] [] ?_
     obtain ⟨v0_9, hv16, h⟩ := Option.bind_eq_some_iff.1 h
     refine zC [] [] (hc_delay_Renamed x0 threads hv16) [(0, .sl (.sl (.pair (.int .i64) .bool)) x0), (1, .sl (.sl (.int .i64)) costs), (2, .sl (.int .i64) threads), (44, .tup [.own 54000, .int .i64 v0_9.2])] [(54000, .arr 68 (.sl (.pair (.int .i64) .bool)) v0_9.1)] ?_
     refine zB [(0, .sl (.sl (.pair (.int .i64) .bool)) x0), (1, .sl (.sl (.int .i64)) costs), (2, .sl (.int .i64) threads), (7, .own 54000), (8, .int .i64 v0_9.2)] [(54000, .arr 68 (.sl (.pair (.int .i64) .bool)) v0_9.1)] ?_
     refine zo ?_
     refine zB [(0, .sl (.sl (.pair (.int .i64) .bool)) x0), (1, .sl (.sl (.int .i64)) costs), (2, .sl (.int .i64) threads), (7, .own 54000), (8, .int .i64 v0_9.2), (9, .cv (.slice none 0 0))] [(54000, .arr 68 (.sl (.pair (.int .i64) .bool)) v0_9.1)] ?_
     refine AW.have1 (fun b1 : (List (List Int)) => lineallaw09_DelayRenamed_k1 x0 costs v0_9 b1 = some r) (fun b1 => ⟨fr [(0, .sl (.sl (.pair (.int .i64) .bool)) x0), (1, .sl (.sl (.int .i64)) costs), (7, .own 54000), (8, .int .i64 v0_9.2), (9, .own 59)], hpGet [(59, .arr 48 (.sl (.int .i64)) b1), (54000, .arr 68 (.sl (.pair (.int .i64) .bool)) v0_9.1)], gt⟩) (fun b1 h => ?_) (fun hk_lineallaw09_DelayRenamed_k1 => ?_)
     ·as_aux_lemma =>
       unfold lineallaw09_DelayRenamed_k1 at h
       refine zo ?_
       refine zS 1 [(0, .sl (.sl (.pair (.int .i64) .bool)) x0), (1, .sl (.sl (.int .i64)) costs), (7, .own 54000), (8, .int .i64 v0_9.2), (9, .own 59), (62, .sl (.sl (.pair (.int .i64) .bool)) x0)] [(59, .arr 48 (.sl (.int .i64)) b1), (54000, .arr 68 (.sl (.pair (.int .i64) .bool)) v0_9.1)] ?_
       obtain ⟨v0_10, hv17, h⟩ := Option.bind_eq_some_iff.1 h
       refine zC [] [] (hc_delay_Circles x0 hv17) [(0, .sl (.sl (.pair (.int .i64) .bool)) x0), (1, .sl (.sl (.int .i64)) costs), (7, .own 54000), (8, .int .i64 v0_9.2), (9, .own 59), (63, .tup [.int .i64 v0_10.1, .int .i64 v0_10.2])] [(59, .arr 48 (.sl (.int .i64)) b1), (54000, .arr 68 (.sl (.pair (.int .i64) .bool)) v0_9.1)] ?_
       refine zB [(0, .sl (.sl (.pair (.int .i64) .bool)) x0), (1, .sl (.sl (.int .i64)) costs), (7, .own 54000), (8, .int .i64 v0_9.2), (9, .own 59), (12, .int .i64 v0_10.1), (13, .int .i64 v0_10.2)] [(59, .arr 48 (.sl (.int .i64)) b1), (54000, .arr 68 (.sl (.pair (.int .i64) .bool)) v0_9.1)] ?_
       refine zo ?_
       refine zS 1 [(0, .sl (.sl (.pair (.int .i64) .bool)) x0), (1, .sl (.sl (.int .i64)) costs), (7, .own 54000), (8, .int .i64 v0_9.2), (9, .own 59), (12, .int .i64 v0_10.1), (13, .int .i64 v0_10.2), (67, .own 54000)] [(59, .arr 48 (.sl (.int .i64)) b1), (54000, .arr 68 (.sl (.pair (.int .i64) .bool)) v0_9.1)] ?_
       obtain ⟨v0_11, hv18, h⟩ := Option.bind_eq_some_iff.1 h
       refine zC [54000] [] (hc_delay_Circles v0_9.1 hv18) [(0, .sl (.sl (.pair (.int .i64) .bool)) x0), (1, .sl (.sl (.int .i64)) costs), (7, .own 54000), (8, .int .i64 v0_9.2), (9, .own 59), (12, .int .i64 v0_10.1), (13, .int .i64 v0_10.2), (68, .tup [.int .i64 v0_11.1, .int .i64 v0_11.2])] [(59, .arr 48 (.sl (.int .i64)) b1), (54000, .arr 68 (.sl (.pair (.int .i64) .bool)) v0_9.1)] ?_
       refine zB [(0, .sl (.sl (.pair (.int .i64) .bool)) x0), (1, .sl (.sl (.int .i64)) costs), (7, .own 54000), (8, .int .i64 v0_9.2), (9, .own 59), (12, .int .i64 v0_10.1), (13, .int .i64 v0_10.2), (14, .int .i64 v0_11.1), (15, .int .i64 v0_11.2)] [(59, .arr 48 (.sl (.int .i64)) b1), (54000, .arr 68 (.sl (.pair (.int .i64) .bool)) v0_9.1)] ?_
       refine zo ?_
       refine zS 2 [(7, .own 54000), (8, .int .i64 v0_9.2), (9, .own 59), (12, .int .i64 v0_10.1), (13, .int .i64 v0_10.2), (14, .int .i64 v0_11.1), (15, .int .i64 v0_11.2), (72, .sl (.sl (.pair (.int .i64) .bool)) x0), (73, .sl (.sl (.int .i64)) costs)] [(59, .arr 48 (.sl (.int .i64)) b1), (54000, .arr 68 (.sl (.pair (.int .i64) .bool)) v0_9.1)] ?_
       obtain ⟨v0_12, hv19, h⟩ := Option.bind_eq_some_iff.1 h
       refine zC [] [] (hc_delay_Least x0 costs hv19) [(7, .own 54000), (8, .int .i64 v0_9.2), (9, .own 59), (12, .int .i64 v0_10.1), (13, .int .i64 v0_10.2), (14, .int .i64 v0_11.1), (15, .int .i64 v0_11.2), (74, .tup [.int .i64 v0_12.1, .int .i64 v0_12.2])] [(59, .arr 48 (.sl (.int .i64)) b1), (54000, .arr 68 (.sl (.pair (.int .i64) .bool)) v0_9.1)] ?_
       refine zB [(7, .own 54000), (8, .int .i64 v0_9.2), (9, .own 59), (12, .int .i64 v0_10.1), (13, .int .i64 v0_10.2), (14, .int .i64 v0_11.1), (15, .int .i64 v0_11.2), (16, .int .i64 v0_12.1), (17, .int .i64 v0_12.2)] [(59, .arr 48 (.sl (.int .i64)) b1), (54000, .arr 68 (.sl (.pair (.int .i64) .bool)) v0_9.1)] ?_
       refine zo ?_
       refine zS 2 [(8, .int .i64 v0_9.2), (12, .int .i64 v0_10.1), (13, .int .i64 v0_10.2), (14, .int .i64 v0_11.1), (15, .int .i64 v0_11.2), (16, .int .i64 v0_12.1), (17, .int .i64 v0_12.2), (78, .own 54000), (79, .own 59)] [(59, .arr 48 (.sl (.int .i64)) b1), (54000, .arr 68 (.sl (.pair (.int .i64) .bool)) v0_9.1)] ?_
       obtain ⟨v0_13, hv20, h⟩ := Option.bind_eq_some_iff.1 h
       refine zC [59, 54000] [] (hc_delay_Least v0_9.1 b1 hv20) [(8, .int .i64 v0_9.2), (12, .int .i64 v0_10.1), (13, .int .i64 v0_10.2), (14, .int .i64 v0_11.1), (15, .int .i64 v0_11.2), (16, .int .i64 v0_12.1), (17, .int .i64 v0_12.2), (80, .tup [.int .i64 v0_13.1, .int .i64 v0_13.2])] [] ?_
       refine zB [(8, .int .i64 v0_9.2), (12, .int .i64 v0_10.1), (13, .int .i64 v0_10.2), (14, .int .i64 v0_11.1), (15, .int .i64 v0_11.2), (16, .int .i64 v0_12.1), (17, .int .i64 v0_12.2), (18, .int .i64 v0_13.1), (19, .int .i64 v0_13.2)] [] ?_
       refine zo ?_
       refine zS 3 [(12, .int .i64 v0_10.1), (13, .int .i64 v0_10.2), (14, .int .i64 v0_11.1), (15, .int .i64 v0_11.2), (16, .int .i64 v0_12.1), (17, .int .i64 v0_12.2), (18, .int .i64 v0_13.1), (19, .int .i64 v0_13.2), (85, .bool (decide (v0_9.2 = 0)))] [] ?_
       rcases zI h with ⟨hb21, h⟩ | ⟨hb21, h⟩
       ·refine zS 4 [(12, .int .i64 v0_10.1), (14, .int .i64 v0_11.1), (15, .int .i64 v0_11.2), (16, .int .i64 v0_12.1), (17, .int .i64 v0_12.2), (18, .int .i64 v0_13.1), (19, .int .i64 v0_13.2), (89, .bool (decide (v0_10.2 = 0)))] [] ?_
        rcases zI h with ⟨hb22, h⟩ | ⟨hb22, h⟩
        ·refine zS 4 [(12, .int .i64 v0_10.1), (14, .int .i64 v0_11.1), (16, .int .i64 v0_12.1), (17, .int .i64 v0_12.2), (18, .int .i64 v0_13.1), (19, .int .i64 v0_13.2), (93, .bool (decide (v0_11.2 = 0)))] [] ?_
         rcases zI h with ⟨hb23, h⟩ | ⟨hb23, h⟩
         ·refine zS 4 [(12, .int .i64 v0_10.1), (14, .int .i64 v0_11.1), (16, .int .i64 v0_12.1), (18, .int .i64 v0_13.1), (19, .int .i64 v0_13.2), (97, .bool (decide (v0_12.2 = 0)))] [] ?_
          rcases zI h with ⟨hb24, h⟩ | ⟨hb24, h⟩
          ·refine zS 4 [(12, .int .i64 v0_10.1), (14, .int .i64 v0_11.1), (16, .int .i64 v0_12.1), (18, .int .i64 v0_13.1), (101, .bool (decide (v0_13.2 = 0)))] [] ?_
           rcases zI h with ⟨hb25, h⟩ | ⟨hb25, h⟩
           ·refine zS 5 [(16, .int .i64 v0_12.1), (18, .int .i64 v0_13.1), (106, .bool (decide (v0_10.1 = v0_11.1)))] [] ?_
            rcases zI h with ⟨hb26, h⟩ | ⟨hb26, h⟩
            ·refine zS 5 [(111, .bool (decide (v0_12.1 = v0_13.1)))] [] ?_
             rcases zI h with ⟨hb27, h⟩ | ⟨hb27, h⟩
             ·refine zT [(111, .bool true)] [] gt ?_
              obtain ⟨v0_14, hv28, h⟩ := Option.bind_eq_some_iff.1 h
              refine zG [] [] (hc_lineallaw09_Awake hv28) [(111, .bool true), (112, .bool v0_14)] [] ?_
              refine zB [(6, .bool v0_14)] [] ?_
              refine AW.ret ?_
              obtain rfl := Option.some.inj h
              exact zR [] [] []
             ·refine zB [(6, .bool false)] [] ?_
              refine AW.ret ?_
              obtain rfl := Option.some.inj h
              exact zR [] [] []
            ·refine zS 5 [(111, .bool false)] [] ?_
             refine zB [(6, .bool false)] [] ?_
             refine AW.ret ?_
             obtain rfl := Option.some.inj h
             exact zR [] [] []
           ·refine zS 5 [(16, .int .i64 v0_12.1), (18, .int .i64 v0_13.1), (106, .bool false)] [] ?_
            refine zS 5 [(111, .bool false)] [] ?_
            refine zB [(6, .bool false)] [] ?_
            refine AW.ret ?_
            obtain rfl := Option.some.inj h
            exact zR [] [] []
          ·refine zS 5 [(14, .int .i64 v0_11.1), (16, .int .i64 v0_12.1), (18, .int .i64 v0_13.1), (101, .bool false), (102, .cv (undef))] [] ?_
           refine zS 5 [(18, .int .i64 v0_13.1), (106, .bool false), (107, .cv (undef))] [] ?_
           refine zS 5 [(111, .bool false), (112, .cv (undef))] [] ?_
           refine zB [(6, .bool false)] [] ?_
           refine AW.ret ?_
           obtain rfl := Option.some.inj h
           exact zR [] [] []
         ·refine zS 5 [(12, .int .i64 v0_10.1), (14, .int .i64 v0_11.1), (16, .int .i64 v0_12.1), (18, .int .i64 v0_13.1), (97, .bool false), (98, .cv (undef))] [] ?_
          refine zS 5 [(16, .int .i64 v0_12.1), (18, .int .i64 v0_13.1), (101, .bool false), (102, .cv (undef)), (103, .cv (undef))] [] ?_
          refine zS 5 [(106, .bool false), (107, .cv (undef)), (108, .cv (undef))] [] ?_
          refine zS 5 [(113, .bool false)] [] ?_
          refine zB [(6, .bool false)] [] ?_
          refine AW.ret ?_
          obtain rfl := Option.some.inj h
          exact zR [] [] []
        ·refine zS 5 [(12, .int .i64 v0_10.1), (14, .int .i64 v0_11.1), (16, .int .i64 v0_12.1), (18, .int .i64 v0_13.1), (19, .int .i64 v0_13.2), (93, .bool false), (94, .cv (undef))] [] ?_
         refine zS 5 [(12, .int .i64 v0_10.1), (14, .int .i64 v0_11.1), (16, .int .i64 v0_12.1), (18, .int .i64 v0_13.1), (97, .bool false), (99, .cv (undef))] [] ?_
         refine zS 5 [(16, .int .i64 v0_12.1), (18, .int .i64 v0_13.1), (101, .bool false), (104, .cv (undef))] [] ?_
         refine zS 5 [(106, .bool false), (109, .cv (undef))] [] ?_
         refine zB [(6, .bool false)] [] ?_
         refine AW.ret ?_
         obtain rfl := Option.some.inj h
         exact zR [] [] []
       ·refine zS 5 [(12, .int .i64 v0_10.1), (14, .int .i64 v0_11.1), (16, .int .i64 v0_12.1), (17, .int .i64 v0_12.2), (18, .int .i64 v0_13.1), (19, .int .i64 v0_13.2), (89, .bool false), (90, .cv (undef))] [] ?_
        refine zS 5 [(12, .int .i64 v0_10.1), (14, .int .i64 v0_11.1), (16, .int .i64 v0_12.1), (18, .int .i64 v0_13.1), (19, .int .i64 v0_13.2), (93, .bool false), (95, .cv (undef))] [] ?_
        refine zS 5 [(12, .int .i64 v0_10.1), (14, .int .i64 v0_11.1), (16, .int .i64 v0_12.1), (18, .int .i64 v0_13.1), (100, .bool false)] [] ?_
        refine zS 5 [(16, .int .i64 v0_12.1), (18, .int .i64 v0_13.1), (105, .bool false)] [] ?_
        refine zS 5 [(110, .bool false)] [] ?_
        refine zB [(6, .bool false)] [] ?_
        refine AW.ret ?_
        obtain rfl := Option.some.inj h
        exact zR [] [] []
     ·refine AW.seq ?_
      refine zo ?_
      refine zB [(0, .sl (.sl (.pair (.int .i64) .bool)) x0), (1, .sl (.sl (.int .i64)) costs), (7, .own 54000), (8, .int .i64 v0_9.2), (9, .cv (.slice none 0 0)), (47, .sl (.int .i64) threads), (48, .int .i64 (threads.length : Int)), (49, .int .i64 0)] [(54000, .arr 68 (.sl (.pair (.int .i64) .bool)) v0_9.1)] ?_
      refine AW.block ?_
      obtain ⟨rv33, hw29, ho30⟩ := Option.bind_eq_some_iff.1 h
      refine AW.loopO (lineallaw09_DelayRenamed_b1 costs threads) (fun st1 => ⟨fr [(0, .sl (.sl (.pair (.int .i64) .bool)) x0), (1, .sl (.sl (.int .i64)) costs), (7, .own 54000), (8, .int .i64 v0_9.2), (9, .own 59), (47, .sl (.int .i64) threads), (48, .int .i64 (threads.length : Int)), (49, .int .i64 st1.2)], hpGet [(59, .arr 48 (.sl (.int .i64)) st1.1), (54000, .arr 68 (.sl (.pair (.int .i64) .bool)) v0_9.1)], gt⟩) ([], 0) hw29 (zL [] [59] []) ?_
      as_aux_lemma =>
       intro st1 x32 h hd31
       unfold lineallaw09_DelayRenamed_b1 at h
       refine zo ?_
       refine zB [(0, .sl (.sl (.pair (.int .i64) .bool)) x0), (1, .sl (.sl (.int .i64)) costs), (7, .own 54000), (8, .int .i64 v0_9.2), (9, .own 59), (47, .sl (.int .i64) threads), (48, .int .i64 (threads.length : Int)), (49, .int .i64 st1.2), (50, .bool (decide (st1.2 < (threads.length : Int))))] [(59, .arr 48 (.sl (.int .i64)) st1.1), (54000, .arr 68 (.sl (.pair (.int .i64) .bool)) v0_9.1)] ?_
       refine AW.seq ?_
       refine zQ h (fun hb34 h => ?_) (fun hb34 h => ?_)
       ·refine zk ?_
        refine AW.seq ?_
        refine AW.block ?_
        refine zo ?_
        obtain ⟨c35, h⟩ := ck_some.1 h
        obtain ⟨c36, h⟩ := ck_some.1 h
        refine zB [(0, .sl (.sl (.pair (.int .i64) .bool)) x0), (1, .sl (.sl (.int .i64)) costs), (7, .own 54000), (8, .int .i64 v0_9.2), (9, .own 59), (11, .int .i64 (threads.getD st1.2.toNat 0)), (47, .sl (.int .i64) threads), (48, .int .i64 (threads.length : Int)), (49, .int .i64 st1.2)] [(59, .arr 48 (.sl (.int .i64)) st1.1), (54000, .arr 68 (.sl (.pair (.int .i64) .bool)) v0_9.1)] ?_
        refine AW.ops ?_
        obtain ⟨c37, h⟩ := ck_some.1 h
        obtain ⟨c38, h⟩ := ck_some.1 h
        refine zS 5 [(0, .sl (.sl (.pair (.int .i64) .bool)) x0), (1, .sl (.sl (.int .i64)) costs), (7, .own 54000), (8, .int .i64 v0_9.2), (47, .sl (.int .i64) threads), (48, .int .i64 (threads.length : Int)), (49, .int .i64 st1.2), (53, .own 59), (57, .sl (.int .i64) (costs.getD (threads.getD st1.2.toNat 0).toNat []))] [(59, .arr 48 (.sl (.int .i64)) st1.1), (54000, .arr 68 (.sl (.pair (.int .i64) .bool)) v0_9.1)] ?_
        obtain ⟨c39, h⟩ := ck_some.1 h
        refine zA [(0, .sl (.sl (.pair (.int .i64) .bool)) x0), (1, .sl (.sl (.int .i64)) costs), (7, .own 54000), (8, .int .i64 v0_9.2), (9, .own 59), (47, .sl (.int .i64) threads), (48, .int .i64 (threads.length : Int)), (49, .int .i64 st1.2)] [(59, .arr 48 (.sl (.int .i64)) (st1.1 ++ [(costs.getD (threads.getD st1.2.toNat 0).toNat [])])), (54000, .arr 68 (.sl (.pair (.int .i64) .bool)) v0_9.1)] ?_
        refine ablock_n ?_
        refine athen_n ?_
        refine AW.ops ?_
        obtain ⟨c40, h⟩ := ck_some.1 h
        refine zA [(0, .sl (.sl (.pair (.int .i64) .bool)) x0), (1, .sl (.sl (.int .i64)) costs), (7, .own 54000), (8, .int .i64 v0_9.2), (9, .own 59), (47, .sl (.int .i64) threads), (48, .int .i64 (threads.length : Int)), (49, .int .i64 (st1.2 + 1))] [(59, .arr 48 (.sl (.int .i64)) (st1.1 ++ [(costs.getD (threads.getD st1.2.toNat 0).toNat [])])), (54000, .arr 68 (.sl (.pair (.int .i64) .bool)) v0_9.1)] ?_
        obtain rfl := Option.some.inj h
        exact ⟨_, rfl, zL [] [] []⟩
       ·refine AW.exit ?_
        refine athen_e ?_
        obtain rfl := Option.some.inj h
        rw [← hd31 _ rfl] at ho30
        have h := ho30
        refine athen_e ?_
        refine ablock_s ?_
        refine athen_n ?_
        exact AW.weaken (zL [] [] []) (hk_lineallaw09_DelayRenamed_k1 _ h)

end Go.Proofs.Ytdicomoggfhbfaa
