/-
  Made by wip/tool/dc.py out of the print of the program: contracts.
-/
import Derived.Test.YteclokkdgmacpaaGrp
import Derived.Test.YteclokkdgmacpaaSh7
import Derived.Test.YteclokkdgmacpaaAvd
import Derived.Test.YteclokkdgmacpaaGic6
import Derived.Test.YteclokkdgmacpaaGic7
import Derived.Test.YteclokkdgmacpaaGic8
namespace Go.Proofs.Yteclokkdgmacpaa
open Go.RowKit

set_option linter.unusedSimpArgs false
set_option linter.unusedVariables false
set_option linter.constructorNameAsVariable false

set_option maxRecDepth 100000
set_option maxHeartbeats 2000000

theorem hc_lineallaw07_ProgressLess (g : Int × (List (Int × Int × Int × Bool))) (claim : Int) (thread : Int) (move : Int) {r : Bool} (h : lineallaw07_ProgressLess g claim thread move = some r) : HC Try.prog 11 [] [.agg [.int .i64 g.1, .sl (.pair (.int .i64) (.pair (.int .i64) (.pair (.int .i64) .bool))) g.2], .int .u8 claim, .int .u8 thread, .int .u8 move] [] (.bool r) := by
 unfold lineallaw07_ProgressLess at h
 refine zH Try.func11 [.tmp 8] 130 ?_
 refine zo ?_
 refine zB [(1, .int .u8 claim), (2, .int .u8 thread), (3, .int .u8 move), (4, .bp 4 0)] [(4, .box 24 [.int .i64 g.1, .sl (.pair (.int .i64) (.pair (.int .i64) (.pair (.int .i64) .bool))) g.2])] ?_
 refine AW.seq ?_
 refine zo ?_
 refine zS 1 [(1, .int .u8 claim), (2, .int .u8 thread), (3, .int .u8 move), (4, .bp 4 0), (19, .agg [.int .i64 g.1, .sl (.pair (.int .i64) (.pair (.int .i64) (.pair (.int .i64) .bool))) g.2])] [(4, .box 24 [.int .i64 g.1, .sl (.pair (.int .i64) (.pair (.int .i64) (.pair (.int .i64) .bool))) g.2])] ?_
 obtain ⟨v0, hv1, h⟩ := Option.bind_eq_some_iff.1 h
 refine zC [] [] (hc_lineallaw07_Long g hv1) [(1, .int .u8 claim), (2, .int .u8 thread), (3, .int .u8 move), (4, .bp 4 0), (20, .bool (decide (100 < (g.2.length : Int))))] [(4, .box 24 [.int .i64 g.1, .sl (.pair (.int .i64) (.pair (.int .i64) (.pair (.int .i64) .bool))) g.2])] ?_
 refine zS 1 [(1, .int .u8 claim), (2, .int .u8 thread), (3, .int .u8 move), (4, .bp 4 0), (21, .bool (decide (100 < (g.2.length : Int))))] [(4, .box 24 [.int .i64 g.1, .sl (.pair (.int .i64) (.pair (.int .i64) (.pair (.int .i64) .bool))) g.2])] ?_
 rcases zI h with ⟨hb2, h⟩ | ⟨hb2, h⟩
 ·refine zB [(1, .int .u8 claim), (2, .int .u8 thread), (3, .int .u8 move), (4, .bp 4 0), (25, .bool true)] [(4, .box 24 [.int .i64 g.1, .sl (.pair (.int .i64) (.pair (.int .i64) (.pair (.int .i64) .bool))) g.2])] ?_
  refine AW.cond (b := true) rfl (fun _ => ?_) (fun hb3 => by cases hb3)
  refine zo ?_
  obtain ⟨v0_2, hv4, h⟩ := Option.bind_eq_some_iff.1 h
  refine zC [] [] (hc_lineallaw07_Awake hv4) [(26, .bool v0_2)] [] ?_
  refine zB [(8, .bool v0_2)] [] ?_
  refine zr ?_
  obtain rfl := Option.some.inj h
  exact zR [] [] []
 ·refine zS 1 [(1, .int .u8 claim), (2, .int .u8 thread), (3, .int .u8 move), (4, .bp 4 0), (21, .bool false), (22, .agg [.int .i64 g.1, .sl (.pair (.int .i64) (.pair (.int .i64) (.pair (.int .i64) .bool))) g.2])] [(4, .box 24 [.int .i64 g.1, .sl (.pair (.int .i64) (.pair (.int .i64) (.pair (.int .i64) .bool))) g.2])] ?_
  obtain ⟨v0_3, hv5, h⟩ := Option.bind_eq_some_iff.1 h
  refine zG [] [] (hc_linealref07_Valid g hv5) [(1, .int .u8 claim), (2, .int .u8 thread), (3, .int .u8 move), (4, .bp 4 0), (21, .bool false), (23, .bool v0_3)] [(4, .box 24 [.int .i64 g.1, .sl (.pair (.int .i64) (.pair (.int .i64) (.pair (.int .i64) .bool))) g.2])] ?_
  refine zB [(1, .int .u8 claim), (2, .int .u8 thread), (3, .int .u8 move), (4, .bp 4 0), (25, .bool (!v0_3))] [(4, .box 24 [.int .i64 g.1, .sl (.pair (.int .i64) (.pair (.int .i64) (.pair (.int .i64) .bool))) g.2])] ?_
  refine zQ h (fun hb6 h => ?_) (fun hb6 h => ?_)
  ·refine zo ?_
   obtain ⟨v0_4, hv7, h⟩ := Option.bind_eq_some_iff.1 h
   refine zC [] [] (hc_lineallaw07_Awake hv7) [(26, .bool v0_4)] [] ?_
   refine zB [(8, .bool v0_4)] [] ?_
   refine zr ?_
   obtain rfl := Option.some.inj h
   exact zR [] [] []
  ·refine zk ?_
   refine zo ?_
   refine zS 2 [(2, .int .u8 thread), (3, .int .u8 move), (4, .bp 4 0), (28, .int .u8 claim), (29, .int .u8 thread)] [(4, .box 24 [.int .i64 g.1, .sl (.pair (.int .i64) (.pair (.int .i64) (.pair (.int .i64) .bool))) g.2])] ?_
   obtain ⟨v0_5, hv8, h⟩ := Option.bind_eq_some_iff.1 h
   refine zC [] [] (hc_lineallaw07_asked claim thread hv8) [(2, .int .u8 thread), (3, .int .u8 move), (4, .bp 4 0), (30, .tup [.int .i64 v0_5.1, .int .i64 v0_5.2])] [(4, .box 24 [.int .i64 g.1, .sl (.pair (.int .i64) (.pair (.int .i64) (.pair (.int .i64) .bool))) g.2])] ?_
   refine zB [(2, .int .u8 thread), (3, .int .u8 move), (4, .bp 4 0), (9, .int .i64 v0_5.1), (10, .int .i64 v0_5.2)] [(4, .box 24 [.int .i64 g.1, .sl (.pair (.int .i64) (.pair (.int .i64) (.pair (.int .i64) .bool))) g.2])] ?_
   refine zo ?_
   refine zS 3 [(2, .int .u8 thread), (3, .int .u8 move), (4, .bp 4 0), (9, .int .i64 v0_5.1), (10, .int .i64 v0_5.2), (34, .agg [.int .i64 g.1, .sl (.pair (.int .i64) (.pair (.int .i64) (.pair (.int .i64) .bool))) g.2]), (35, .int .i64 v0_5.1), (36, .int .i64 v0_5.2)] [(4, .box 24 [.int .i64 g.1, .sl (.pair (.int .i64) (.pair (.int .i64) (.pair (.int .i64) .bool))) g.2])] ?_
   obtain ⟨v0_6, hv9, h⟩ := Option.bind_eq_some_iff.1 h
   refine zC [] [] (hc_progress_Holds g v0_5.1 v0_5.2 hv9) [(2, .int .u8 thread), (3, .int .u8 move), (4, .bp 4 0), (9, .int .i64 v0_5.1), (10, .int .i64 v0_5.2), (37, .tup [.bool v0_6.1, .int .i64 v0_6.2])] [(4, .box 24 [.int .i64 g.1, .sl (.pair (.int .i64) (.pair (.int .i64) (.pair (.int .i64) .bool))) g.2])] ?_
   refine zB [(2, .int .u8 thread), (3, .int .u8 move), (4, .bp 4 0), (9, .int .i64 v0_5.1), (10, .int .i64 v0_5.2), (11, .bool v0_6.1), (12, .int .i64 v0_6.2)] [(4, .box 24 [.int .i64 g.1, .sl (.pair (.int .i64) (.pair (.int .i64) (.pair (.int .i64) .bool))) g.2])] ?_
   refine zo ?_
   obtain ⟨c10, h⟩ := ck_some.1 h
   obtain ⟨c11, h⟩ := ck_some.1 h
   refine zS 4 [(2, .int .u8 thread), (3, .int .u8 move), (4, .bp 4 0), (9, .int .i64 v0_5.1), (10, .int .i64 v0_5.2), (11, .bool v0_6.1), (12, .int .i64 v0_6.2), (41, .agg [.int .i64 g.1, .sl (.pair (.int .i64) (.pair (.int .i64) (.pair (.int .i64) .bool))) g.2]), (44, .int .i64 (thread % 3))] [(4, .box 24 [.int .i64 g.1, .sl (.pair (.int .i64) (.pair (.int .i64) (.pair (.int .i64) .bool))) g.2])] ?_
   obtain ⟨v0_7, hv12, h⟩ := Option.bind_eq_some_iff.1 h
   refine zC [] [] (hc_progress_Only g (thread % 3) hv12) [(2, .int .u8 thread), (3, .int .u8 move), (4, .bp 4 0), (9, .int .i64 v0_5.1), (10, .int .i64 v0_5.2), (11, .bool v0_6.1), (12, .int .i64 v0_6.2), (45, .tup [.agg [.int .i64 v0_7.1, .own 55000], .int .i64 v0_7.2.2])] [(4, .box 24 [.int .i64 g.1, .sl (.pair (.int .i64) (.pair (.int .i64) (.pair (.int .i64) .bool))) g.2]), (55000, .arr 61 (.pair (.int .i64) (.pair (.int .i64) (.pair (.int .i64) .bool))) v0_7.2.1)] ?_
   refine zS 5 [(2, .int .u8 thread), (3, .int .u8 move), (4, .bp 4 0), (9, .int .i64 v0_5.1), (10, .int .i64 v0_5.2), (11, .bool v0_6.1), (12, .int .i64 v0_6.2), (13, .bp 13 0), (47, .int .i64 v0_7.2.2)] [(4, .box 24 [.int .i64 g.1, .sl (.pair (.int .i64) (.pair (.int .i64) (.pair (.int .i64) .bool))) g.2]), (13, .box 24 [.int .i64 v0_7.1, .own 55000]), (55000, .arr 61 (.pair (.int .i64) (.pair (.int .i64) (.pair (.int .i64) .bool))) v0_7.2.1)] ?_
   refine zB [(2, .int .u8 thread), (3, .int .u8 move), (4, .bp 4 0), (9, .int .i64 v0_5.1), (10, .int .i64 v0_5.2), (11, .bool v0_6.1), (12, .int .i64 v0_6.2), (13, .bp 13 0), (14, .int .i64 v0_7.2.2)] [(4, .box 24 [.int .i64 g.1, .sl (.pair (.int .i64) (.pair (.int .i64) (.pair (.int .i64) .bool))) g.2]), (13, .box 24 [.int .i64 v0_7.1, .own 55000]), (55000, .arr 61 (.pair (.int .i64) (.pair (.int .i64) (.pair (.int .i64) .bool))) v0_7.2.1)] ?_
   refine AW.seq ?_
   refine zo ?_
   refine zS 3 [(2, .int .u8 thread), (3, .int .u8 move), (4, .bp 4 0), (9, .int .i64 v0_5.1), (10, .int .i64 v0_5.2), (11, .bool v0_6.1), (13, .bp 13 0), (14, .int .i64 v0_7.2.2), (50, .bool (!(decide (v0_6.2 = 0))))] [(4, .box 24 [.int .i64 g.1, .sl (.pair (.int .i64) (.pair (.int .i64) (.pair (.int .i64) .bool))) g.2]), (13, .box 24 [.int .i64 v0_7.1, .own 55000]), (55000, .arr 61 (.pair (.int .i64) (.pair (.int .i64) (.pair (.int .i64) .bool))) v0_7.2.1)] ?_
   rcases zI h with ⟨hb13, h⟩ | ⟨hb13, h⟩
   ·refine zB [(2, .int .u8 thread), (3, .int .u8 move), (4, .bp 4 0), (9, .int .i64 v0_5.1), (10, .int .i64 v0_5.2), (11, .bool v0_6.1), (13, .bp 13 0), (53, .bool true)] [(4, .box 24 [.int .i64 g.1, .sl (.pair (.int .i64) (.pair (.int .i64) (.pair (.int .i64) .bool))) g.2]), (13, .box 24 [.int .i64 v0_7.1, .own 55000]), (55000, .arr 61 (.pair (.int .i64) (.pair (.int .i64) (.pair (.int .i64) .bool))) v0_7.2.1)] ?_
    refine AW.cond (b := true) rfl (fun _ => ?_) (fun hb14 => by cases hb14)
    refine zo ?_
    refine zB [(8, .bool false)] [] ?_
    refine zr ?_
    obtain rfl := Option.some.inj h
    exact zR [] [] []
   ·refine zB [(2, .int .u8 thread), (3, .int .u8 move), (4, .bp 4 0), (9, .int .i64 v0_5.1), (10, .int .i64 v0_5.2), (11, .bool v0_6.1), (13, .bp 13 0), (53, .bool (!(decide (v0_7.2.2 = 0))))] [(4, .box 24 [.int .i64 g.1, .sl (.pair (.int .i64) (.pair (.int .i64) (.pair (.int .i64) .bool))) g.2]), (13, .box 24 [.int .i64 v0_7.1, .own 55000]), (55000, .arr 61 (.pair (.int .i64) (.pair (.int .i64) (.pair (.int .i64) .bool))) v0_7.2.1)] ?_
    refine zQ h (fun hb15 h => ?_) (fun hb15 h => ?_)
    ·refine zo ?_
     refine zB [(8, .bool false)] [] ?_
     refine zr ?_
     obtain rfl := Option.some.inj h
     exact zR [] [] []
    ·refine zk ?_
     refine zo ?_
     refine zS 1 [(2, .int .u8 thread), (3, .int .u8 move), (4, .bp 4 0), (9, .int .i64 v0_5.1), (10, .int .i64 v0_5.2), (11, .bool v0_6.1), (13, .bp 13 0), (55, .agg [.int .i64 v0_7.1, .own 55000])] [(4, .box 24 [.int .i64 g.1, .sl (.pair (.int .i64) (.pair (.int .i64) (.pair (.int .i64) .bool))) g.2]), (13, .box 24 [.int .i64 v0_7.1, .own 55000]), (55000, .arr 61 (.pair (.int .i64) (.pair (.int .i64) (.pair (.int .i64) .bool))) v0_7.2.1)] ?_
     obtain ⟨v0_8, hv16, h⟩ := Option.bind_eq_some_iff.1 h
     refine zC [55000] [] (hc_progress_Holds (v0_7.1, v0_7.2.1) 0 0 hv16) [(2, .int .u8 thread), (3, .int .u8 move), (4, .bp 4 0), (9, .int .i64 v0_5.1), (10, .int .i64 v0_5.2), (11, .bool v0_6.1), (13, .bp 13 0), (56, .tup [.bool v0_8.1, .int .i64 v0_8.2])] [(4, .box 24 [.int .i64 g.1, .sl (.pair (.int .i64) (.pair (.int .i64) (.pair (.int .i64) .bool))) g.2]), (13, .box 24 [.int .i64 v0_7.1, .own 55000]), (55000, .arr 61 (.pair (.int .i64) (.pair (.int .i64) (.pair (.int .i64) .bool))) v0_7.2.1)] ?_
     refine zB [(2, .int .u8 thread), (3, .int .u8 move), (4, .bp 4 0), (9, .int .i64 v0_5.1), (10, .int .i64 v0_5.2), (11, .bool v0_6.1), (12, .int .i64 v0_8.2), (13, .bp 13 0), (15, .bool v0_8.1)] [(4, .box 24 [.int .i64 g.1, .sl (.pair (.int .i64) (.pair (.int .i64) (.pair (.int .i64) .bool))) g.2]), (13, .box 24 [.int .i64 v0_7.1, .own 55000]), (55000, .arr 61 (.pair (.int .i64) (.pair (.int .i64) (.pair (.int .i64) .bool))) v0_7.2.1)] ?_
     refine zo ?_
     obtain ⟨c17, h⟩ := ck_some.1 h
     obtain ⟨c18, h⟩ := ck_some.1 h
     refine zS 4 [(3, .int .u8 move), (4, .bp 4 0), (9, .int .i64 v0_5.1), (10, .int .i64 v0_5.2), (11, .bool v0_6.1), (12, .int .i64 v0_8.2), (15, .bool v0_8.1), (60, .agg [.int .i64 v0_7.1, .own 55000]), (63, .int .i64 (thread % 3))] [(4, .box 24 [.int .i64 g.1, .sl (.pair (.int .i64) (.pair (.int .i64) (.pair (.int .i64) .bool))) g.2]), (55000, .arr 61 (.pair (.int .i64) (.pair (.int .i64) (.pair (.int .i64) .bool))) v0_7.2.1)] ?_
     obtain ⟨v0_9, hv19, h⟩ := Option.bind_eq_some_iff.1 h
     refine zC [55000] [] (hc_progress_Holds (v0_7.1, v0_7.2.1) 2 (thread % 3) hv19) [(3, .int .u8 move), (4, .bp 4 0), (9, .int .i64 v0_5.1), (10, .int .i64 v0_5.2), (11, .bool v0_6.1), (12, .int .i64 v0_8.2), (15, .bool v0_8.1), (64, .tup [.bool v0_9.1, .int .i64 v0_9.2])] [(4, .box 24 [.int .i64 g.1, .sl (.pair (.int .i64) (.pair (.int .i64) (.pair (.int .i64) .bool))) g.2])] ?_
     refine zB [(3, .int .u8 move), (4, .bp 4 0), (9, .int .i64 v0_5.1), (10, .int .i64 v0_5.2), (11, .bool v0_6.1), (12, .int .i64 v0_8.2), (14, .int .i64 v0_9.2), (15, .bool v0_8.1), (16, .bool v0_9.1)] [(4, .box 24 [.int .i64 g.1, .sl (.pair (.int .i64) (.pair (.int .i64) (.pair (.int .i64) .bool))) g.2])] ?_
     refine AW.seq ?_
     refine zo ?_
     refine zS 3 [(3, .int .u8 move), (4, .bp 4 0), (9, .int .i64 v0_5.1), (10, .int .i64 v0_5.2), (11, .bool v0_6.1), (14, .int .i64 v0_9.2), (15, .bool v0_8.1), (16, .bool v0_9.1), (69, .bool (!(decide (v0_8.2 = 0))))] [(4, .box 24 [.int .i64 g.1, .sl (.pair (.int .i64) (.pair (.int .i64) (.pair (.int .i64) .bool))) g.2])] ?_
     rcases zI h with ⟨hb20, h⟩ | ⟨hb20, h⟩
     ·refine zS 5 [(3, .int .u8 move), (4, .bp 4 0), (9, .int .i64 v0_5.1), (10, .int .i64 v0_5.2), (11, .bool v0_6.1), (16, .bool v0_9.1), (73, .bool true), (74, .cv (undef))] [(4, .box 24 [.int .i64 g.1, .sl (.pair (.int .i64) (.pair (.int .i64) (.pair (.int .i64) .bool))) g.2])] ?_
      refine zB [(3, .int .u8 move), (4, .bp 4 0), (9, .int .i64 v0_5.1), (10, .int .i64 v0_5.2), (11, .bool v0_6.1), (77, .bool true)] [(4, .box 24 [.int .i64 g.1, .sl (.pair (.int .i64) (.pair (.int .i64) (.pair (.int .i64) .bool))) g.2])] ?_
      refine AW.cond (b := true) rfl (fun _ => ?_) (fun hb21 => by cases hb21)
      refine zo ?_
      refine zB [(8, .bool false)] [] ?_
      refine zr ?_
      obtain rfl := Option.some.inj h
      exact zR [] [] []
     ·refine zS 4 [(3, .int .u8 move), (4, .bp 4 0), (9, .int .i64 v0_5.1), (10, .int .i64 v0_5.2), (11, .bool v0_6.1), (15, .bool v0_8.1), (16, .bool v0_9.1), (73, .bool (!(decide (v0_9.2 = 0))))] [(4, .box 24 [.int .i64 g.1, .sl (.pair (.int .i64) (.pair (.int .i64) (.pair (.int .i64) .bool))) g.2])] ?_
      rcases zI h with ⟨hb22, h⟩ | ⟨hb22, h⟩
      ·refine zB [(3, .int .u8 move), (4, .bp 4 0), (9, .int .i64 v0_5.1), (10, .int .i64 v0_5.2), (11, .bool v0_6.1), (77, .bool true)] [(4, .box 24 [.int .i64 g.1, .sl (.pair (.int .i64) (.pair (.int .i64) (.pair (.int .i64) .bool))) g.2])] ?_
       refine AW.cond (b := true) rfl (fun _ => ?_) (fun hb23 => by cases hb23)
       refine zo ?_
       refine zB [(8, .bool false)] [] ?_
       refine zr ?_
       obtain rfl := Option.some.inj h
       exact zR [] [] []
      ·refine zB [(3, .int .u8 move), (4, .bp 4 0), (9, .int .i64 v0_5.1), (10, .int .i64 v0_5.2), (11, .bool v0_6.1), (77, .bool ((v0_8.1 == v0_9.1) != true))] [(4, .box 24 [.int .i64 g.1, .sl (.pair (.int .i64) (.pair (.int .i64) (.pair (.int .i64) .bool))) g.2])] ?_
       refine zQ h (fun hb24 h => ?_) (fun hb24 h => ?_)
       ·refine zo ?_
        refine zB [(8, .bool false)] [] ?_
        refine zr ?_
        obtain rfl := Option.some.inj h
        exact zR [] [] []
       ·refine zk ?_
        refine AW.seq ?_
        refine zo ?_
        refine zB [(3, .int .u8 move), (4, .bp 4 0), (9, .int .i64 v0_5.1), (10, .int .i64 v0_5.2), (11, .bool v0_6.1), (81, .bool (decide ((g.2.length : Int) = 0)))] [(4, .box 24 [.int .i64 g.1, .sl (.pair (.int .i64) (.pair (.int .i64) (.pair (.int .i64) .bool))) g.2])] ?_
        refine zQ h (fun hb25 h => ?_) (fun hb25 h => ?_)
        ·refine zo ?_
         refine zS 2 [(83, .bool v0_6.1)] [] ?_
         rcases zI h with ⟨hb26, h⟩ | ⟨hb26, h⟩
         ·refine zT [(83, .bool true)] [] gt ?_
          obtain ⟨v0_10, hv27, h⟩ := Option.bind_eq_some_iff.1 h
          refine zG [] [] (hc_lineallaw07_Awake hv27) [(83, .bool true), (84, .bool v0_10)] [] ?_
          refine zB [(8, .bool v0_10)] [] ?_
          refine zr ?_
          obtain rfl := Option.some.inj h
          exact zR [] [] []
         ·refine zB [(8, .bool false)] [] ?_
          refine zr ?_
          obtain rfl := Option.some.inj h
          exact zR [] [] []
        ·refine zk ?_
         refine AW.seq ?_
         refine AW.draw tab_ok mixed_ok [(7, [104000]), (11, [17]), (12, [17])] [(0, [4]), (1, []), (2, []), (3, [4]), (4, [4]), (5, []), (6, []), (7, [104000]), (8, [104000]), (9, [104000]), (10, [104000]), (11, [17]), (100012, [])] (by decide) (lex_fast (by kernel_rfl)) ?_
         as_aux_lemma =>
          obtain ⟨c29, h⟩ := ck_some.1 h
          refine adops_cut 6 (fun K' hK28 => ?_)
          try dsimp only [List.drop_succ_cons, List.drop_zero, List.take_succ_cons, List.take_zero]
          simp only [go_sem, hb2, hb6, hb13, hb15, hb20, hb22, hb24, hb25]
          repeat with_reducible refine zN ?_
          refine hK28 _ ?_
          as_aux_lemma =>
           obtain ⟨c31, h⟩ := ck_some.1 h
           obtain ⟨c32, h⟩ := ck_some.1 h
           refine adops_cut 1 (fun K' hK30 => ?_)
           try dsimp only [List.drop_succ_cons, List.drop_zero, List.take_succ_cons, List.take_zero]
           simp only [go_sem, hb2, hb6, hb13, hb15, hb20, hb22, hb24, hb25]
           repeat with_reducible refine zN ?_
           refine hK30 _ ?_
           as_aux_lemma =>
            obtain ⟨v0_11, hv33, h⟩ := Option.bind_eq_some_iff.1 h
            refine adops.call (by first | trivial | rfl) rfl rfl rfl (fun _ h => h) [] [] (hc_progress_Without g (move % (g.2.length : Int)) hv33) rfl (by (simp only [go_sem, hb2, hb6, hb13, hb15, hb20, hb22, hb24, hb25]) <;> (with_reducible and_intros) <;> first | assumption | rfl | omega | (unfold maxLen; omega)) (by (simp only [go_sem, hb2, hb6, hb13, hb15, hb20, hb22, hb24, hb25]) <;> (with_reducible and_intros) <;> first | assumption | rfl | omega | (unfold maxLen; omega)) rfl ?_
            refine adops_cut 6 (fun K' hK34 => ?_)
            try dsimp only [List.drop_succ_cons, List.drop_zero, List.take_succ_cons, List.take_zero]
            simp only [go_sem, hb2, hb6, hb13, hb15, hb20, hb22, hb24, hb25]
            repeat with_reducible refine zN ?_
            refine hK34 _ ?_
            refine adops_nil ?_
            refine athen_n ?_
            refine zV [(4, .bp 4 0), (9, .int .i64 v0_5.1), (10, .int .i64 v0_5.2), (11, .bool v0_6.1), (12, .int .i64 v0_11.2.2), (17, .bp 17 0)] [(4, .box 24 [.int .i64 g.1, .sl (.pair (.int .i64) (.pair (.int .i64) (.pair (.int .i64) .bool))) g.2]), (17, .box 24 [.int .i64 v0_11.1, .own 104000]), (104000, .arr 61 (.pair (.int .i64) (.pair (.int .i64) (.pair (.int .i64) .bool))) v0_11.2.1)] gt ?_
            as_aux_lemma =>
             refine zo ?_
             refine zS 3 [(4, .bp 4 0), (11, .bool v0_6.1), (12, .int .i64 v0_11.2.2), (17, .bp 17 0), (98, .agg [.int .i64 v0_11.1, .own 104000]), (99, .int .i64 v0_5.1), (100, .int .i64 v0_5.2)] [(4, .box 24 [.int .i64 g.1, .sl (.pair (.int .i64) (.pair (.int .i64) (.pair (.int .i64) .bool))) g.2]), (17, .box 24 [.int .i64 v0_11.1, .own 104000]), (104000, .arr 61 (.pair (.int .i64) (.pair (.int .i64) (.pair (.int .i64) .bool))) v0_11.2.1)] ?_
             obtain ⟨v0_12, hv35, h⟩ := Option.bind_eq_some_iff.1 h
             refine zC [104000] [] (hc_progress_Holds (v0_11.1, v0_11.2.1) v0_5.1 v0_5.2 hv35) [(4, .bp 4 0), (11, .bool v0_6.1), (12, .int .i64 v0_11.2.2), (17, .bp 17 0), (101, .tup [.bool v0_12.1, .int .i64 v0_12.2])] [(4, .box 24 [.int .i64 g.1, .sl (.pair (.int .i64) (.pair (.int .i64) (.pair (.int .i64) .bool))) g.2]), (17, .box 24 [.int .i64 v0_11.1, .own 104000]), (104000, .arr 61 (.pair (.int .i64) (.pair (.int .i64) (.pair (.int .i64) .bool))) v0_11.2.1)] ?_
             refine zB [(4, .bp 4 0), (11, .bool v0_6.1), (12, .int .i64 v0_11.2.2), (14, .int .i64 v0_12.2), (17, .bp 17 0), (18, .bool v0_12.1)] [(4, .box 24 [.int .i64 g.1, .sl (.pair (.int .i64) (.pair (.int .i64) (.pair (.int .i64) .bool))) g.2]), (17, .box 24 [.int .i64 v0_11.1, .own 104000]), (104000, .arr 61 (.pair (.int .i64) (.pair (.int .i64) (.pair (.int .i64) .bool))) v0_11.2.1)] ?_
             refine zo ?_
             refine zS 3 [(4, .bp 4 0), (11, .bool v0_6.1), (14, .int .i64 v0_12.2), (17, .bp 17 0), (18, .bool v0_12.1), (106, .bool (decide (v0_11.2.2 = 0)))] [(4, .box 24 [.int .i64 g.1, .sl (.pair (.int .i64) (.pair (.int .i64) (.pair (.int .i64) .bool))) g.2]), (17, .box 24 [.int .i64 v0_11.1, .own 104000]), (104000, .arr 61 (.pair (.int .i64) (.pair (.int .i64) (.pair (.int .i64) .bool))) v0_11.2.1)] ?_
             rcases zI h with ⟨hb36, h⟩ | ⟨hb36, h⟩
             ·refine zS 4 [(4, .bp 4 0), (11, .bool v0_6.1), (17, .bp 17 0), (18, .bool v0_12.1), (110, .bool (decide (v0_12.2 = 0)))] [(4, .box 24 [.int .i64 g.1, .sl (.pair (.int .i64) (.pair (.int .i64) (.pair (.int .i64) .bool))) g.2]), (17, .box 24 [.int .i64 v0_11.1, .own 104000]), (104000, .arr 61 (.pair (.int .i64) (.pair (.int .i64) (.pair (.int .i64) .bool))) v0_11.2.1)] ?_
              rcases zI h with ⟨hb37, h⟩ | ⟨hb37, h⟩
              ·refine zS 5 [(11, .bool v0_6.1), (18, .bool v0_12.1), (110, .bool true), (113, .int .i64 (v0_11.2.1.length : Int)), (115, .sl (.pair (.int .i64) (.pair (.int .i64) (.pair (.int .i64) .bool))) g.2)] [] ?_
               obtain ⟨c38, h⟩ := ck_some.1 h
               refine zS 5 [(11, .bool v0_6.1), (18, .bool v0_12.1), (120, .bool (decide ((v0_11.2.1.length : Int) = ((g.2.length : Int) - 1))))] [] ?_
               rcases zI h with ⟨hb39, h⟩ | ⟨hb39, h⟩
               ·refine zS 3 [(18, .bool v0_12.1), (120, .bool true), (123, .bool (!v0_6.1))] [] ?_
                rcases zI h with ⟨hb40, h⟩ | ⟨hb40, h⟩
                ·refine zS 4 [(127, .bool true)] [] ?_
                 obtain ⟨v0_13, hv41, h⟩ := Option.bind_eq_some_iff.1 h
                 refine zG [] [] (hc_lineallaw07_Awake hv41) [(127, .bool true), (128, .bool v0_13)] [] ?_
                 refine zB [(8, .bool v0_13)] [] ?_
                 refine AW.ret ?_
                 obtain rfl := Option.some.inj h
                 exact zR [] [] []
                ·refine zS 4 [(127, .bool v0_12.1)] [] ?_
                 rcases zI h with ⟨hb42, h⟩ | ⟨hb42, h⟩
                 ·refine zT [(127, .bool true)] [] gt ?_
                  obtain ⟨v0_14, hv43, h⟩ := Option.bind_eq_some_iff.1 h
                  refine zG [] [] (hc_lineallaw07_Awake hv43) [(127, .bool true), (128, .bool v0_14)] [] ?_
                  refine zB [(8, .bool v0_14)] [] ?_
                  refine AW.ret ?_
                  obtain rfl := Option.some.inj h
                  exact zR [] [] []
                 ·refine zB [(8, .bool false)] [] ?_
                  refine AW.ret ?_
                  obtain rfl := Option.some.inj h
                  exact zR [] [] []
               ·refine zS 4 [(120, .bool false), (123, .cv (undef)), (124, .cv (undef))] [] ?_
                refine zS 5 [(129, .bool false)] [] ?_
                refine zB [(8, .bool false)] [] ?_
                refine AW.ret ?_
                obtain rfl := Option.some.inj h
                exact zR [] [] []
              ·refine zS 4 [(11, .bool v0_6.1), (18, .bool v0_12.1), (110, .bool false), (113, .cv (undef)), (114, .cv (undef))] [] ?_
               refine zS 4 [(11, .bool v0_6.1), (18, .bool v0_12.1), (110, .bool false), (118, .cv (undef))] [] ?_
               refine zS 5 [(18, .bool v0_12.1), (120, .bool false), (123, .cv (undef))] [] ?_
               refine zS 5 [(127, .bool false), (128, .cv (undef))] [] ?_
               refine zB [(8, .bool false)] [] ?_
               refine AW.ret ?_
               obtain rfl := Option.some.inj h
               exact zR [] [] []
             ·refine zS 5 [(4, .bp 4 0), (11, .bool v0_6.1), (18, .bool v0_12.1), (110, .bool false), (111, .cv (undef))] [(4, .box 24 [.int .i64 g.1, .sl (.pair (.int .i64) (.pair (.int .i64) (.pair (.int .i64) .bool))) g.2])] ?_
              refine zS 4 [(11, .bool v0_6.1), (18, .bool v0_12.1), (110, .bool false), (113, .cv (undef)), (115, .cv (undef))] [] ?_
              refine zS 5 [(11, .bool v0_6.1), (18, .bool v0_12.1), (120, .bool false)] [] ?_
              refine zS 4 [(120, .bool false), (123, .cv (undef)), (124, .cv (undef))] [] ?_
              refine zS 5 [(129, .bool false)] [] ?_
              refine zB [(8, .bool false)] [] ?_
              refine AW.ret ?_
              obtain rfl := Option.some.inj h
              exact zR [] [] []

end Go.Proofs.Yteclokkdgmacpaa
