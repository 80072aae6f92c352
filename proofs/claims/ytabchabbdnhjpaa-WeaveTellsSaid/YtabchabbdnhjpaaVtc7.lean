/-
  Made by wip/tool/dc.py out of the print of the program: contracts.
-/
import Derived.Test.YtabchabbdnhjpaaVp
import Derived.Test.YtabchabbdnhjpaaSh6
import Derived.Test.YtabchabbdnhjpaaVtc2
import Derived.Test.YtabchabbdnhjpaaVtc3
import Derived.Test.YtabchabbdnhjpaaVtc4
import Derived.Test.YtabchabbdnhjpaaVtc5
import Derived.Test.YtabchabbdnhjpaaVtc6
namespace Go.Proofs.Ytabchabbdnhjpaa
open Go.RowKit

set_option linter.unusedSimpArgs false
set_option linter.unusedVariables false
set_option linter.constructorNameAsVariable false

set_option maxRecDepth 100000
set_option maxHeartbeats 2000000

theorem hc_lineallaw03_WeaveTells (l : Int × (List (Int × Int))) (w : List Int) (v0 : List Int) {r : Bool} (h : lineallaw03_WeaveTells l w v0 = some r) : HC Try.prog 4 [] [.agg [.int .i64 l.1, .sl (.pair (.int .i64) (.int .i64)) l.2], .sl (.int .i64) w, .sl (.int .i64) v0] [] (.bool r) := by
 unfold lineallaw03_WeaveTells at h
 refine zH Try.func4 [.tmp 6] 157 ?_
 refine zo ?_
 refine zB [(1, .sl (.int .i64) w), (2, .sl (.int .i64) v0), (3, .bp 3 0)] [(3, .box 24 [.int .i64 l.1, .sl (.pair (.int .i64) (.int .i64)) l.2])] ?_
 refine AW.seq ?_
 refine zo ?_
 refine zS 4 [(1, .sl (.int .i64) w), (2, .sl (.int .i64) v0), (3, .bp 3 0), (26, .agg [.int .i64 l.1, .sl (.pair (.int .i64) (.int .i64)) l.2]), (29, .own 29)] [(3, .box 24 [.int .i64 l.1, .sl (.pair (.int .i64) (.int .i64)) l.2]), (29, .arr 25 (.sl (.int .i64)) [w, v0])] ?_
 obtain ⟨v0_2, hv1, h⟩ := Option.bind_eq_some_iff.1 h
 refine zC [29] [] (hc_lineallaw03_valid l [w, v0] hv1) [(1, .sl (.int .i64) w), (2, .sl (.int .i64) v0), (3, .bp 3 0), (30, .bool v0_2)] [(3, .box 24 [.int .i64 l.1, .sl (.pair (.int .i64) (.int .i64)) l.2])] ?_
 refine zB [(1, .sl (.int .i64) w), (2, .sl (.int .i64) v0), (3, .bp 3 0), (31, .bool (!v0_2))] [(3, .box 24 [.int .i64 l.1, .sl (.pair (.int .i64) (.int .i64)) l.2])] ?_
 refine zQ h (fun hb2 h => ?_) (fun hb2 h => ?_)
 ·refine zo ?_
  obtain ⟨v0_3, hv3, h⟩ := Option.bind_eq_some_iff.1 h
  refine zC [] [] (hc_lineallaw03_Awake hv3) [(32, .bool v0_3)] [] ?_
  refine zB [(6, .bool v0_3)] [] ?_
  refine zr ?_
  obtain rfl := Option.some.inj h
  exact zR [] [] []
 ·refine zk ?_
  refine zo ?_
  refine zS 3 [(1, .sl (.int .i64) w), (2, .sl (.int .i64) v0), (3, .bp 3 0), (34, .agg [.int .i64 l.1, .sl (.pair (.int .i64) (.int .i64)) l.2]), (35, .sl (.int .i64) w), (36, .sl (.int .i64) v0)] [(3, .box 24 [.int .i64 l.1, .sl (.pair (.int .i64) (.int .i64)) l.2])] ?_
  obtain ⟨v0_4, hv4, h⟩ := Option.bind_eq_some_iff.1 h
  refine zC [] [] (hc_weave_Equal l w v0 hv4) [(1, .sl (.int .i64) w), (2, .sl (.int .i64) v0), (3, .bp 3 0), (37, .tup [.bool v0_4.1, .int .i64 v0_4.2])] [(3, .box 24 [.int .i64 l.1, .sl (.pair (.int .i64) (.int .i64)) l.2])] ?_
  refine zB [(1, .sl (.int .i64) w), (2, .sl (.int .i64) v0), (3, .bp 3 0), (7, .bool v0_4.1), (8, .int .i64 v0_4.2)] [(3, .box 24 [.int .i64 l.1, .sl (.pair (.int .i64) (.int .i64)) l.2])] ?_
  refine zo ?_
  refine zS 2 [(1, .sl (.int .i64) w), (2, .sl (.int .i64) v0), (3, .bp 3 0), (7, .bool v0_4.1), (8, .int .i64 v0_4.2), (41, .agg [.int .i64 l.1, .sl (.pair (.int .i64) (.int .i64)) l.2]), (42, .sl (.int .i64) w)] [(3, .box 24 [.int .i64 l.1, .sl (.pair (.int .i64) (.int .i64)) l.2])] ?_
  obtain ⟨v0_5, hv5, h⟩ := Option.bind_eq_some_iff.1 h
  refine zC [] [] (hc_weave_Layers l w hv5) [(1, .sl (.int .i64) w), (2, .sl (.int .i64) v0), (3, .bp 3 0), (7, .bool v0_4.1), (8, .int .i64 v0_4.2), (43, .tup [.sl (.sl (.int .i64)) v0_5.1, .int .i64 v0_5.2])] [(3, .box 24 [.int .i64 l.1, .sl (.pair (.int .i64) (.int .i64)) l.2])] ?_
  refine zB [(1, .sl (.int .i64) w), (2, .sl (.int .i64) v0), (3, .bp 3 0), (7, .bool v0_4.1), (8, .int .i64 v0_4.2), (9, .sl (.sl (.int .i64)) v0_5.1), (10, .int .i64 v0_5.2)] [(3, .box 24 [.int .i64 l.1, .sl (.pair (.int .i64) (.int .i64)) l.2])] ?_
  refine zo ?_
  refine zS 2 [(1, .sl (.int .i64) w), (2, .sl (.int .i64) v0), (3, .bp 3 0), (7, .bool v0_4.1), (8, .int .i64 v0_4.2), (9, .sl (.sl (.int .i64)) v0_5.1), (10, .int .i64 v0_5.2), (47, .agg [.int .i64 l.1, .sl (.pair (.int .i64) (.int .i64)) l.2]), (48, .sl (.int .i64) v0)] [(3, .box 24 [.int .i64 l.1, .sl (.pair (.int .i64) (.int .i64)) l.2])] ?_
  obtain ⟨v0_6, hv6, h⟩ := Option.bind_eq_some_iff.1 h
  refine zC [] [] (hc_weave_Layers l v0 hv6) [(1, .sl (.int .i64) w), (2, .sl (.int .i64) v0), (3, .bp 3 0), (7, .bool v0_4.1), (8, .int .i64 v0_4.2), (9, .sl (.sl (.int .i64)) v0_5.1), (10, .int .i64 v0_5.2), (49, .tup [.sl (.sl (.int .i64)) v0_6.1, .int .i64 v0_6.2])] [(3, .box 24 [.int .i64 l.1, .sl (.pair (.int .i64) (.int .i64)) l.2])] ?_
  refine zB [(1, .sl (.int .i64) w), (2, .sl (.int .i64) v0), (3, .bp 3 0), (7, .bool v0_4.1), (8, .int .i64 v0_4.2), (9, .sl (.sl (.int .i64)) v0_5.1), (10, .int .i64 v0_5.2), (11, .sl (.sl (.int .i64)) v0_6.1), (12, .int .i64 v0_6.2)] [(3, .box 24 [.int .i64 l.1, .sl (.pair (.int .i64) (.int .i64)) l.2])] ?_
  refine zo ?_
  refine zS 2 [(1, .sl (.int .i64) w), (2, .sl (.int .i64) v0), (3, .bp 3 0), (7, .bool v0_4.1), (8, .int .i64 v0_4.2), (9, .sl (.sl (.int .i64)) v0_5.1), (10, .int .i64 v0_5.2), (11, .sl (.sl (.int .i64)) v0_6.1), (12, .int .i64 v0_6.2), (53, .agg [.int .i64 l.1, .sl (.pair (.int .i64) (.int .i64)) l.2]), (54, .sl (.int .i64) w)] [(3, .box 24 [.int .i64 l.1, .sl (.pair (.int .i64) (.int .i64)) l.2])] ?_
  obtain ⟨v0_7, hv7, h⟩ := Option.bind_eq_some_iff.1 h
  refine zC [] [] (hc_weave_First l w hv7) [(1, .sl (.int .i64) w), (2, .sl (.int .i64) v0), (3, .bp 3 0), (7, .bool v0_4.1), (8, .int .i64 v0_4.2), (9, .sl (.sl (.int .i64)) v0_5.1), (10, .int .i64 v0_5.2), (11, .sl (.sl (.int .i64)) v0_6.1), (12, .int .i64 v0_6.2), (55, .tup [.sl (.int .i64) v0_7.1, .int .i64 v0_7.2])] [(3, .box 24 [.int .i64 l.1, .sl (.pair (.int .i64) (.int .i64)) l.2])] ?_
  refine zB [(1, .sl (.int .i64) w), (2, .sl (.int .i64) v0), (3, .bp 3 0), (7, .bool v0_4.1), (8, .int .i64 v0_4.2), (9, .sl (.sl (.int .i64)) v0_5.1), (10, .int .i64 v0_5.2), (11, .sl (.sl (.int .i64)) v0_6.1), (12, .int .i64 v0_6.2), (13, .sl (.int .i64) v0_7.1), (14, .int .i64 v0_7.2)] [(3, .box 24 [.int .i64 l.1, .sl (.pair (.int .i64) (.int .i64)) l.2])] ?_
  refine zo ?_
  refine zS 2 [(1, .sl (.int .i64) w), (2, .sl (.int .i64) v0), (3, .bp 3 0), (7, .bool v0_4.1), (8, .int .i64 v0_4.2), (9, .sl (.sl (.int .i64)) v0_5.1), (10, .int .i64 v0_5.2), (11, .sl (.sl (.int .i64)) v0_6.1), (12, .int .i64 v0_6.2), (13, .sl (.int .i64) v0_7.1), (14, .int .i64 v0_7.2), (59, .agg [.int .i64 l.1, .sl (.pair (.int .i64) (.int .i64)) l.2]), (60, .sl (.int .i64) v0)] [(3, .box 24 [.int .i64 l.1, .sl (.pair (.int .i64) (.int .i64)) l.2])] ?_
  obtain ⟨v0_8, hv8, h⟩ := Option.bind_eq_some_iff.1 h
  refine zC [] [] (hc_weave_First l v0 hv8) [(1, .sl (.int .i64) w), (2, .sl (.int .i64) v0), (3, .bp 3 0), (7, .bool v0_4.1), (8, .int .i64 v0_4.2), (9, .sl (.sl (.int .i64)) v0_5.1), (10, .int .i64 v0_5.2), (11, .sl (.sl (.int .i64)) v0_6.1), (12, .int .i64 v0_6.2), (13, .sl (.int .i64) v0_7.1), (14, .int .i64 v0_7.2), (61, .tup [.sl (.int .i64) v0_8.1, .int .i64 v0_8.2])] [(3, .box 24 [.int .i64 l.1, .sl (.pair (.int .i64) (.int .i64)) l.2])] ?_
  refine zB [(1, .sl (.int .i64) w), (2, .sl (.int .i64) v0), (3, .bp 3 0), (7, .bool v0_4.1), (8, .int .i64 v0_4.2), (9, .sl (.sl (.int .i64)) v0_5.1), (10, .int .i64 v0_5.2), (11, .sl (.sl (.int .i64)) v0_6.1), (12, .int .i64 v0_6.2), (13, .sl (.int .i64) v0_7.1), (14, .int .i64 v0_7.2), (15, .sl (.int .i64) v0_8.1), (16, .int .i64 v0_8.2)] [(3, .box 24 [.int .i64 l.1, .sl (.pair (.int .i64) (.int .i64)) l.2])] ?_
  refine AW.seq ?_
  refine zo ?_
  refine zS 3 [(1, .sl (.int .i64) w), (2, .sl (.int .i64) v0), (3, .bp 3 0), (7, .bool v0_4.1), (9, .sl (.sl (.int .i64)) v0_5.1), (10, .int .i64 v0_5.2), (11, .sl (.sl (.int .i64)) v0_6.1), (12, .int .i64 v0_6.2), (13, .sl (.int .i64) v0_7.1), (14, .int .i64 v0_7.2), (15, .sl (.int .i64) v0_8.1), (16, .int .i64 v0_8.2), (66, .bool (!(decide (v0_4.2 = 0))))] [(3, .box 24 [.int .i64 l.1, .sl (.pair (.int .i64) (.int .i64)) l.2])] ?_
  rcases zI h with ⟨hb9, h⟩ | ⟨hb9, h⟩
  ·refine zS 5 [(1, .sl (.int .i64) w), (2, .sl (.int .i64) v0), (3, .bp 3 0), (7, .bool v0_4.1), (9, .sl (.sl (.int .i64)) v0_5.1), (11, .sl (.sl (.int .i64)) v0_6.1), (13, .sl (.int .i64) v0_7.1), (14, .int .i64 v0_7.2), (15, .sl (.int .i64) v0_8.1), (16, .int .i64 v0_8.2), (70, .bool true), (71, .cv (undef))] [(3, .box 24 [.int .i64 l.1, .sl (.pair (.int .i64) (.int .i64)) l.2])] ?_
   refine zS 5 [(1, .sl (.int .i64) w), (2, .sl (.int .i64) v0), (3, .bp 3 0), (7, .bool v0_4.1), (9, .sl (.sl (.int .i64)) v0_5.1), (11, .sl (.sl (.int .i64)) v0_6.1), (13, .sl (.int .i64) v0_7.1), (15, .sl (.int .i64) v0_8.1), (16, .int .i64 v0_8.2), (74, .bool true), (76, .cv (undef))] [(3, .box 24 [.int .i64 l.1, .sl (.pair (.int .i64) (.int .i64)) l.2])] ?_
   refine zS 5 [(1, .sl (.int .i64) w), (2, .sl (.int .i64) v0), (3, .bp 3 0), (7, .bool v0_4.1), (9, .sl (.sl (.int .i64)) v0_5.1), (11, .sl (.sl (.int .i64)) v0_6.1), (13, .sl (.int .i64) v0_7.1), (15, .sl (.int .i64) v0_8.1), (81, .bool true)] [(3, .box 24 [.int .i64 l.1, .sl (.pair (.int .i64) (.int .i64)) l.2])] ?_
   refine zS 5 [(1, .sl (.int .i64) w), (2, .sl (.int .i64) v0), (3, .bp 3 0), (7, .bool v0_4.1), (13, .sl (.int .i64) v0_7.1), (15, .sl (.int .i64) v0_8.1), (82, .bool true), (83, .cv (undef)), (86, .cv (undef))] [(3, .box 24 [.int .i64 l.1, .sl (.pair (.int .i64) (.int .i64)) l.2])] ?_
   refine zS 5 [(1, .sl (.int .i64) w), (2, .sl (.int .i64) v0), (3, .bp 3 0), (7, .bool v0_4.1), (15, .sl (.int .i64) v0_8.1), (89, .bool true), (90, .cv (undef)), (91, .cv (undef))] [(3, .box 24 [.int .i64 l.1, .sl (.pair (.int .i64) (.int .i64)) l.2])] ?_
   refine zB [(1, .sl (.int .i64) w), (2, .sl (.int .i64) v0), (3, .bp 3 0), (7, .bool v0_4.1), (95, .bool true)] [(3, .box 24 [.int .i64 l.1, .sl (.pair (.int .i64) (.int .i64)) l.2])] ?_
   refine AW.cond (b := true) rfl (fun _ => ?_) (fun hb10 => by cases hb10)
   refine zo ?_
   refine zB [(6, .bool false)] [] ?_
   refine zr ?_
   obtain rfl := Option.some.inj h
   exact zR [] [] []
  ·refine zS 4 [(1, .sl (.int .i64) w), (2, .sl (.int .i64) v0), (3, .bp 3 0), (7, .bool v0_4.1), (9, .sl (.sl (.int .i64)) v0_5.1), (11, .sl (.sl (.int .i64)) v0_6.1), (12, .int .i64 v0_6.2), (13, .sl (.int .i64) v0_7.1), (14, .int .i64 v0_7.2), (15, .sl (.int .i64) v0_8.1), (16, .int .i64 v0_8.2), (70, .bool (!(decide (v0_5.2 = 0))))] [(3, .box 24 [.int .i64 l.1, .sl (.pair (.int .i64) (.int .i64)) l.2])] ?_
   rcases zI h with ⟨hb11, h⟩ | ⟨hb11, h⟩
   ·refine zS 5 [(1, .sl (.int .i64) w), (2, .sl (.int .i64) v0), (3, .bp 3 0), (7, .bool v0_4.1), (9, .sl (.sl (.int .i64)) v0_5.1), (11, .sl (.sl (.int .i64)) v0_6.1), (13, .sl (.int .i64) v0_7.1), (15, .sl (.int .i64) v0_8.1), (16, .int .i64 v0_8.2), (74, .bool true), (75, .cv (undef))] [(3, .box 24 [.int .i64 l.1, .sl (.pair (.int .i64) (.int .i64)) l.2])] ?_
    refine zS 5 [(1, .sl (.int .i64) w), (2, .sl (.int .i64) v0), (3, .bp 3 0), (7, .bool v0_4.1), (9, .sl (.sl (.int .i64)) v0_5.1), (11, .sl (.sl (.int .i64)) v0_6.1), (13, .sl (.int .i64) v0_7.1), (15, .sl (.int .i64) v0_8.1), (78, .bool true), (80, .cv (undef))] [(3, .box 24 [.int .i64 l.1, .sl (.pair (.int .i64) (.int .i64)) l.2])] ?_
    refine zS 5 [(1, .sl (.int .i64) w), (2, .sl (.int .i64) v0), (3, .bp 3 0), (7, .bool v0_4.1), (13, .sl (.int .i64) v0_7.1), (15, .sl (.int .i64) v0_8.1), (82, .bool true), (83, .cv (undef)), (84, .cv (undef)), (85, .cv (undef))] [(3, .box 24 [.int .i64 l.1, .sl (.pair (.int .i64) (.int .i64)) l.2])] ?_
    refine zS 5 [(1, .sl (.int .i64) w), (2, .sl (.int .i64) v0), (3, .bp 3 0), (7, .bool v0_4.1), (13, .sl (.int .i64) v0_7.1), (15, .sl (.int .i64) v0_8.1), (89, .bool true), (90, .cv (undef))] [(3, .box 24 [.int .i64 l.1, .sl (.pair (.int .i64) (.int .i64)) l.2])] ?_
    refine zS 4 [(1, .sl (.int .i64) w), (2, .sl (.int .i64) v0), (3, .bp 3 0), (7, .bool v0_4.1), (89, .bool true), (94, .cv (undef))] [(3, .box 24 [.int .i64 l.1, .sl (.pair (.int .i64) (.int .i64)) l.2])] ?_
    refine zB [(1, .sl (.int .i64) w), (2, .sl (.int .i64) v0), (3, .bp 3 0), (7, .bool v0_4.1), (95, .bool true)] [(3, .box 24 [.int .i64 l.1, .sl (.pair (.int .i64) (.int .i64)) l.2])] ?_
    refine AW.cond (b := true) rfl (fun _ => ?_) (fun hb12 => by cases hb12)
    refine zo ?_
    refine zB [(6, .bool false)] [] ?_
    refine zr ?_
    obtain rfl := Option.some.inj h
    exact zR [] [] []
   ·refine zS 4 [(1, .sl (.int .i64) w), (2, .sl (.int .i64) v0), (3, .bp 3 0), (7, .bool v0_4.1), (9, .sl (.sl (.int .i64)) v0_5.1), (11, .sl (.sl (.int .i64)) v0_6.1), (13, .sl (.int .i64) v0_7.1), (14, .int .i64 v0_7.2), (15, .sl (.int .i64) v0_8.1), (16, .int .i64 v0_8.2), (74, .bool (!(decide (v0_6.2 = 0))))] [(3, .box 24 [.int .i64 l.1, .sl (.pair (.int .i64) (.int .i64)) l.2])] ?_
    rcases zI h with ⟨hb13, h⟩ | ⟨hb13, h⟩
    ·refine zS 5 [(1, .sl (.int .i64) w), (2, .sl (.int .i64) v0), (3, .bp 3 0), (7, .bool v0_4.1), (9, .sl (.sl (.int .i64)) v0_5.1), (11, .sl (.sl (.int .i64)) v0_6.1), (13, .sl (.int .i64) v0_7.1), (15, .sl (.int .i64) v0_8.1), (78, .bool true), (79, .cv (undef))] [(3, .box 24 [.int .i64 l.1, .sl (.pair (.int .i64) (.int .i64)) l.2])] ?_
     refine zS 5 [(1, .sl (.int .i64) w), (2, .sl (.int .i64) v0), (3, .bp 3 0), (7, .bool v0_4.1), (11, .sl (.sl (.int .i64)) v0_6.1), (13, .sl (.int .i64) v0_7.1), (15, .sl (.int .i64) v0_8.1), (82, .bool true), (83, .cv (undef)), (84, .cv (undef))] [(3, .box 24 [.int .i64 l.1, .sl (.pair (.int .i64) (.int .i64)) l.2])] ?_
     refine zS 5 [(1, .sl (.int .i64) w), (2, .sl (.int .i64) v0), (3, .bp 3 0), (7, .bool v0_4.1), (13, .sl (.int .i64) v0_7.1), (15, .sl (.int .i64) v0_8.1), (89, .bool true)] [(3, .box 24 [.int .i64 l.1, .sl (.pair (.int .i64) (.int .i64)) l.2])] ?_
     refine zS 4 [(1, .sl (.int .i64) w), (2, .sl (.int .i64) v0), (3, .bp 3 0), (7, .bool v0_4.1), (89, .bool true), (90, .cv (undef)), (93, .cv (undef))] [(3, .box 24 [.int .i64 l.1, .sl (.pair (.int .i64) (.int .i64)) l.2])] ?_
     refine zB [(1, .sl (.int .i64) w), (2, .sl (.int .i64) v0), (3, .bp 3 0), (7, .bool v0_4.1), (95, .bool true)] [(3, .box 24 [.int .i64 l.1, .sl (.pair (.int .i64) (.int .i64)) l.2])] ?_
     refine AW.cond (b := true) rfl (fun _ => ?_) (fun hb14 => by cases hb14)
     refine zo ?_
     refine zB [(6, .bool false)] [] ?_
     refine zr ?_
     obtain rfl := Option.some.inj h
     exact zR [] [] []
    ·refine zS 4 [(1, .sl (.int .i64) w), (2, .sl (.int .i64) v0), (3, .bp 3 0), (7, .bool v0_4.1), (9, .sl (.sl (.int .i64)) v0_5.1), (11, .sl (.sl (.int .i64)) v0_6.1), (13, .sl (.int .i64) v0_7.1), (15, .sl (.int .i64) v0_8.1), (16, .int .i64 v0_8.2), (78, .bool (!(decide (v0_7.2 = 0))))] [(3, .box 24 [.int .i64 l.1, .sl (.pair (.int .i64) (.int .i64)) l.2])] ?_
     rcases zI h with ⟨hb15, h⟩ | ⟨hb15, h⟩
     ·refine zS 5 [(1, .sl (.int .i64) w), (2, .sl (.int .i64) v0), (3, .bp 3 0), (7, .bool v0_4.1), (9, .sl (.sl (.int .i64)) v0_5.1), (11, .sl (.sl (.int .i64)) v0_6.1), (13, .sl (.int .i64) v0_7.1), (15, .sl (.int .i64) v0_8.1), (82, .bool true), (83, .cv (undef))] [(3, .box 24 [.int .i64 l.1, .sl (.pair (.int .i64) (.int .i64)) l.2])] ?_
      refine zS 4 [(1, .sl (.int .i64) w), (2, .sl (.int .i64) v0), (3, .bp 3 0), (7, .bool v0_4.1), (13, .sl (.int .i64) v0_7.1), (15, .sl (.int .i64) v0_8.1), (82, .bool true), (87, .cv (undef))] [(3, .box 24 [.int .i64 l.1, .sl (.pair (.int .i64) (.int .i64)) l.2])] ?_
      refine zS 5 [(1, .sl (.int .i64) w), (2, .sl (.int .i64) v0), (3, .bp 3 0), (7, .bool v0_4.1), (89, .bool true), (90, .cv (undef)), (91, .cv (undef)), (92, .cv (undef))] [(3, .box 24 [.int .i64 l.1, .sl (.pair (.int .i64) (.int .i64)) l.2])] ?_
      refine zB [(1, .sl (.int .i64) w), (2, .sl (.int .i64) v0), (3, .bp 3 0), (7, .bool v0_4.1), (95, .bool true)] [(3, .box 24 [.int .i64 l.1, .sl (.pair (.int .i64) (.int .i64)) l.2])] ?_
      refine AW.cond (b := true) rfl (fun _ => ?_) (fun hb16 => by cases hb16)
      refine zo ?_
      refine zB [(6, .bool false)] [] ?_
      refine zr ?_
      obtain rfl := Option.some.inj h
      exact zR [] [] []
     ·refine zS 4 [(1, .sl (.int .i64) w), (2, .sl (.int .i64) v0), (3, .bp 3 0), (7, .bool v0_4.1), (9, .sl (.sl (.int .i64)) v0_5.1), (11, .sl (.sl (.int .i64)) v0_6.1), (13, .sl (.int .i64) v0_7.1), (15, .sl (.int .i64) v0_8.1), (82, .bool (!(decide (v0_8.2 = 0))))] [(3, .box 24 [.int .i64 l.1, .sl (.pair (.int .i64) (.int .i64)) l.2])] ?_
      rcases zI h with ⟨hb17, h⟩ | ⟨hb17, h⟩
      ·refine zS 4 [(1, .sl (.int .i64) w), (2, .sl (.int .i64) v0), (3, .bp 3 0), (7, .bool v0_4.1), (13, .sl (.int .i64) v0_7.1), (15, .sl (.int .i64) v0_8.1), (82, .bool true), (83, .cv (undef)), (86, .cv (undef))] [(3, .box 24 [.int .i64 l.1, .sl (.pair (.int .i64) (.int .i64)) l.2])] ?_
       refine zS 5 [(1, .sl (.int .i64) w), (2, .sl (.int .i64) v0), (3, .bp 3 0), (7, .bool v0_4.1), (15, .sl (.int .i64) v0_8.1), (89, .bool true), (90, .cv (undef)), (91, .cv (undef))] [(3, .box 24 [.int .i64 l.1, .sl (.pair (.int .i64) (.int .i64)) l.2])] ?_
       refine zB [(1, .sl (.int .i64) w), (2, .sl (.int .i64) v0), (3, .bp 3 0), (7, .bool v0_4.1), (95, .bool true)] [(3, .box 24 [.int .i64 l.1, .sl (.pair (.int .i64) (.int .i64)) l.2])] ?_
       refine AW.cond (b := true) rfl (fun _ => ?_) (fun hb18 => by cases hb18)
       refine zo ?_
       refine zB [(6, .bool false)] [] ?_
       refine zr ?_
       obtain rfl := Option.some.inj h
       exact zR [] [] []
      ·refine zS 3 [(1, .sl (.int .i64) w), (2, .sl (.int .i64) v0), (3, .bp 3 0), (7, .bool v0_4.1), (13, .sl (.int .i64) v0_7.1), (15, .sl (.int .i64) v0_8.1), (82, .bool false), (83, .bool v0_4.1), (84, .sl (.sl (.int .i64)) v0_5.1), (85, .sl (.sl (.int .i64)) v0_6.1)] [(3, .box 24 [.int .i64 l.1, .sl (.pair (.int .i64) (.int .i64)) l.2])] ?_
       obtain ⟨v0_9, hv19, h⟩ := Option.bind_eq_some_iff.1 h
       refine zG [] [] (hc_linealref03_SameLists v0_5.1 v0_6.1 hv19) [(1, .sl (.int .i64) w), (2, .sl (.int .i64) v0), (3, .bp 3 0), (7, .bool v0_4.1), (13, .sl (.int .i64) v0_7.1), (15, .sl (.int .i64) v0_8.1), (82, .bool false), (83, .bool v0_4.1), (86, .bool v0_9)] [(3, .box 24 [.int .i64 l.1, .sl (.pair (.int .i64) (.int .i64)) l.2])] ?_
       refine zS 3 [(1, .sl (.int .i64) w), (2, .sl (.int .i64) v0), (3, .bp 3 0), (7, .bool v0_4.1), (13, .sl (.int .i64) v0_7.1), (15, .sl (.int .i64) v0_8.1), (89, .bool ((v0_4.1 == v0_9) != true))] [(3, .box 24 [.int .i64 l.1, .sl (.pair (.int .i64) (.int .i64)) l.2])] ?_
       rcases zI h with ⟨hb20, h⟩ | ⟨hb20, h⟩
       ·refine zS 4 [(1, .sl (.int .i64) w), (2, .sl (.int .i64) v0), (3, .bp 3 0), (7, .bool v0_4.1), (89, .bool true), (90, .cv (undef)), (93, .cv (undef))] [(3, .box 24 [.int .i64 l.1, .sl (.pair (.int .i64) (.int .i64)) l.2])] ?_
        refine zB [(1, .sl (.int .i64) w), (2, .sl (.int .i64) v0), (3, .bp 3 0), (7, .bool v0_4.1), (95, .bool true)] [(3, .box 24 [.int .i64 l.1, .sl (.pair (.int .i64) (.int .i64)) l.2])] ?_
        refine AW.cond (b := true) rfl (fun _ => ?_) (fun hb21 => by cases hb21)
        refine zo ?_
        refine zB [(6, .bool false)] [] ?_
        refine zr ?_
        obtain rfl := Option.some.inj h
        exact zR [] [] []
       ·refine zS 3 [(1, .sl (.int .i64) w), (2, .sl (.int .i64) v0), (3, .bp 3 0), (7, .bool v0_4.1), (89, .bool false), (90, .bool v0_4.1), (91, .sl (.int .i64) v0_7.1), (92, .sl (.int .i64) v0_8.1)] [(3, .box 24 [.int .i64 l.1, .sl (.pair (.int .i64) (.int .i64)) l.2])] ?_
        obtain ⟨v0_10, hv22, h⟩ := Option.bind_eq_some_iff.1 h
        refine zG [] [] (hc_linealref03_SameInts v0_7.1 v0_8.1 hv22) [(1, .sl (.int .i64) w), (2, .sl (.int .i64) v0), (3, .bp 3 0), (7, .bool v0_4.1), (89, .bool false), (90, .bool v0_4.1), (93, .bool v0_10)] [(3, .box 24 [.int .i64 l.1, .sl (.pair (.int .i64) (.int .i64)) l.2])] ?_
        refine zB [(1, .sl (.int .i64) w), (2, .sl (.int .i64) v0), (3, .bp 3 0), (7, .bool v0_4.1), (95, .bool ((v0_4.1 == v0_10) != true))] [(3, .box 24 [.int .i64 l.1, .sl (.pair (.int .i64) (.int .i64)) l.2])] ?_
        refine zQ h (fun hb23 h => ?_) (fun hb23 h => ?_)
        ·refine zo ?_
         refine zB [(6, .bool false)] [] ?_
         refine zr ?_
         obtain rfl := Option.some.inj h
         exact zR [] [] []
        ·refine zk ?_
         refine zo ?_
         refine zB [(1, .sl (.int .i64) w), (2, .sl (.int .i64) v0), (3, .bp 3 0), (7, .bool v0_4.1), (17, .bool true)] [(3, .box 24 [.int .i64 l.1, .sl (.pair (.int .i64) (.int .i64)) l.2])] ?_
         refine AW.have1 (fun b2_2 : Bool => lineallaw03_WeaveTells_k1 v0_4 b2_2 = some r) (fun b2_2 => ⟨fr [(7, .bool v0_4.1), (17, .bool b2_2)], hpGet [], gt⟩) (fun b2_2 h => ?_) (fun hk_lineallaw03_WeaveTells_k1 => ?_)
         ·as_aux_lemma =>
           unfold lineallaw03_WeaveTells_k1 at h
           refine zo ?_
           refine zS 4 [(154, .bool ((v0_4.1 == b2_2) != false))] [] ?_
           rcases zI h with ⟨hb24, h⟩ | ⟨hb24, h⟩
           ·refine zT [(154, .bool true)] [] gt ?_
            obtain ⟨v0_15, hv25, h⟩ := Option.bind_eq_some_iff.1 h
            refine zG [] [] (hc_lineallaw03_Awake hv25) [(154, .bool true), (155, .bool v0_15)] [] ?_
            refine zB [(6, .bool v0_15)] [] ?_
            refine AW.ret ?_
            obtain rfl := Option.some.inj h
            exact zR [] [] []
           ·refine zB [(6, .bool false)] [] ?_
            refine AW.ret ?_
            obtain rfl := Option.some.inj h
            exact zR [] [] []
         ·refine AW.seq ?_
          refine zo ?_
          refine zB [(1, .sl (.int .i64) w), (2, .sl (.int .i64) v0), (3, .bp 3 0), (7, .bool v0_4.1), (17, .bool true), (97, .int .i64 l.1), (98, .int .i64 0)] [(3, .box 24 [.int .i64 l.1, .sl (.pair (.int .i64) (.int .i64)) l.2])] ?_
          refine AW.block ?_
          obtain ⟨rv30, hw26, ho27⟩ := Option.bind_eq_some_iff.1 h
          refine AW.loopO (lineallaw03_WeaveTells_b1 l w v0) (fun st1 => ⟨fr [(1, .sl (.int .i64) w), (2, .sl (.int .i64) v0), (3, .bp 3 0), (7, .bool v0_4.1), (17, .bool st1.1), (97, .int .i64 l.1), (98, .int .i64 st1.2)], hpGet [(3, .box 24 [.int .i64 l.1, .sl (.pair (.int .i64) (.int .i64)) l.2])], gt⟩) (true, 0) hw26 (zL [] [] []) ?_
          as_aux_lemma =>
           intro st1 x29 h hd28
           unfold lineallaw03_WeaveTells_b1 at h
           refine zo ?_
           refine zB [(1, .sl (.int .i64) w), (2, .sl (.int .i64) v0), (3, .bp 3 0), (7, .bool v0_4.1), (17, .bool st1.1), (97, .int .i64 l.1), (98, .int .i64 st1.2), (99, .bool (decide (st1.2 < l.1)))] [(3, .box 24 [.int .i64 l.1, .sl (.pair (.int .i64) (.int .i64)) l.2])] ?_
           refine AW.seq ?_
           refine zQ h (fun hb31 h => ?_) (fun hb31 h => ?_)
           ·refine zk ?_
            refine AW.have1 (fun b2 : Bool => lineallaw03_WeaveTells_k2 st1 b2 = some x29) (fun b2 => ⟨fr [(1, .sl (.int .i64) w), (2, .sl (.int .i64) v0), (3, .bp 3 0), (7, .bool v0_4.1), (17, .bool b2), (97, .int .i64 l.1), (98, .int .i64 st1.2)], hpGet [(3, .box 24 [.int .i64 l.1, .sl (.pair (.int .i64) (.int .i64)) l.2])], gt⟩) (fun b2 h => ?_) (fun hk_lineallaw03_WeaveTells_k2 => ?_)
            ·as_aux_lemma =>
              unfold lineallaw03_WeaveTells_k2 at h
              refine AW.ops ?_
              obtain ⟨c32, h⟩ := ck_some.1 h
              refine zA [(1, .sl (.int .i64) w), (2, .sl (.int .i64) v0), (3, .bp 3 0), (7, .bool v0_4.1), (17, .bool b2), (97, .int .i64 l.1), (98, .int .i64 (st1.2 + 1))] [(3, .box 24 [.int .i64 l.1, .sl (.pair (.int .i64) (.int .i64)) l.2])] ?_
              obtain rfl := Option.some.inj h
              exact ⟨_, rfl, zL [] [] []⟩
            ·refine AW.seq ?_
             refine AW.block ?_
             refine zo ?_
             refine zB [(1, .sl (.int .i64) w), (2, .sl (.int .i64) v0), (3, .bp 3 0), (7, .bool v0_4.1), (17, .bool st1.1), (18, .int .i64 st1.2), (97, .int .i64 l.1), (98, .int .i64 st1.2)] [(3, .box 24 [.int .i64 l.1, .sl (.pair (.int .i64) (.int .i64)) l.2])] ?_
             refine zo ?_
             obtain ⟨c33, h⟩ := ck_some.1 h
             refine zB [(1, .sl (.int .i64) w), (2, .sl (.int .i64) v0), (3, .bp 3 0), (7, .bool v0_4.1), (17, .bool st1.1), (18, .int .i64 st1.2), (97, .int .i64 l.1), (98, .int .i64 st1.2), (102, .int .i64 (st1.2 + 1)), (103, .int .i64 0)] [(3, .box 24 [.int .i64 l.1, .sl (.pair (.int .i64) (.int .i64)) l.2])] ?_
             refine AW.block ?_
             obtain ⟨rv38, hw34, ho35⟩ := Option.bind_eq_some_iff.1 h
             refine AW.loopO (lineallaw03_WeaveTells_b2 l w v0 st1) (fun st2 => ⟨fr [(1, .sl (.int .i64) w), (2, .sl (.int .i64) v0), (3, .bp 3 0), (7, .bool v0_4.1), (17, .bool st2.1), (18, .int .i64 st1.2), (97, .int .i64 l.1), (98, .int .i64 st1.2), (102, .int .i64 (st1.2 + 1)), (103, .int .i64 st2.2)], hpGet [(3, .box 24 [.int .i64 l.1, .sl (.pair (.int .i64) (.int .i64)) l.2])], gt⟩) (st1.1, 0) hw34 (zL [] [] []) ?_
             as_aux_lemma =>
              intro st2 x37 h hd36
              unfold lineallaw03_WeaveTells_b2 at h
              refine zo ?_
              refine zB [(1, .sl (.int .i64) w), (2, .sl (.int .i64) v0), (3, .bp 3 0), (7, .bool v0_4.1), (17, .bool st2.1), (18, .int .i64 st1.2), (97, .int .i64 l.1), (98, .int .i64 st1.2), (102, .int .i64 (st1.2 + 1)), (103, .int .i64 st2.2), (104, .bool (decide (st2.2 < (st1.2 + 1))))] [(3, .box 24 [.int .i64 l.1, .sl (.pair (.int .i64) (.int .i64)) l.2])] ?_
              refine AW.seq ?_
              refine zQ h (fun hb39 h => ?_) (fun hb39 h => ?_)
              ·refine zk ?_
               refine AW.seq ?_
               refine AW.block ?_
               refine zo ?_
               refine zB [(1, .sl (.int .i64) w), (2, .sl (.int .i64) v0), (3, .bp 3 0), (7, .bool v0_4.1), (17, .bool st2.1), (18, .int .i64 st1.2), (19, .int .i64 st2.2), (97, .int .i64 l.1), (98, .int .i64 st1.2), (102, .int .i64 (st1.2 + 1)), (103, .int .i64 st2.2)] [(3, .box 24 [.int .i64 l.1, .sl (.pair (.int .i64) (.int .i64)) l.2])] ?_
               refine zo ?_
               refine zS 3 [(1, .sl (.int .i64) w), (2, .sl (.int .i64) v0), (3, .bp 3 0), (7, .bool v0_4.1), (17, .bool st2.1), (18, .int .i64 st1.2), (19, .int .i64 st2.2), (97, .int .i64 l.1), (98, .int .i64 st1.2), (102, .int .i64 (st1.2 + 1)), (103, .int .i64 st2.2), (107, .agg [.int .i64 l.1, .sl (.pair (.int .i64) (.int .i64)) l.2]), (108, .int .i64 st1.2), (109, .int .i64 st2.2)] [(3, .box 24 [.int .i64 l.1, .sl (.pair (.int .i64) (.int .i64)) l.2])] ?_
               obtain ⟨v0_11, hv40, h⟩ := Option.bind_eq_some_iff.1 h
               refine zC [] [] (hc_weave_Depend l st1.2 st2.2 hv40) [(1, .sl (.int .i64) w), (2, .sl (.int .i64) v0), (3, .bp 3 0), (7, .bool v0_4.1), (17, .bool st2.1), (18, .int .i64 st1.2), (19, .int .i64 st2.2), (97, .int .i64 l.1), (98, .int .i64 st1.2), (102, .int .i64 (st1.2 + 1)), (103, .int .i64 st2.2), (110, .tup [.bool v0_11.1, .int .i64 v0_11.2])] [(3, .box 24 [.int .i64 l.1, .sl (.pair (.int .i64) (.int .i64)) l.2])] ?_
               refine zB [(1, .sl (.int .i64) w), (2, .sl (.int .i64) v0), (3, .bp 3 0), (7, .bool v0_4.1), (17, .bool st2.1), (18, .int .i64 st1.2), (19, .int .i64 st2.2), (20, .bool v0_11.1), (21, .int .i64 v0_11.2), (97, .int .i64 l.1), (98, .int .i64 st1.2), (102, .int .i64 (st1.2 + 1)), (103, .int .i64 st2.2)] [(3, .box 24 [.int .i64 l.1, .sl (.pair (.int .i64) (.int .i64)) l.2])] ?_
               refine zo ?_
               refine zS 4 [(1, .sl (.int .i64) w), (2, .sl (.int .i64) v0), (3, .bp 3 0), (7, .bool v0_4.1), (17, .bool st2.1), (18, .int .i64 st1.2), (19, .int .i64 st2.2), (20, .bool v0_11.1), (21, .int .i64 v0_11.2), (97, .int .i64 l.1), (98, .int .i64 st1.2), (102, .int .i64 (st1.2 + 1)), (103, .int .i64 st2.2), (114, .agg [.int .i64 l.1, .sl (.pair (.int .i64) (.int .i64)) l.2]), (115, .sl (.int .i64) w), (116, .int .i64 st1.2), (117, .int .i64 st2.2)] [(3, .box 24 [.int .i64 l.1, .sl (.pair (.int .i64) (.int .i64)) l.2])] ?_
               obtain ⟨v0_12, hv41, h⟩ := Option.bind_eq_some_iff.1 h
               refine zC [] [] (hc_weave_Projection l w st1.2 st2.2 hv41) [(1, .sl (.int .i64) w), (2, .sl (.int .i64) v0), (3, .bp 3 0), (7, .bool v0_4.1), (17, .bool st2.1), (18, .int .i64 st1.2), (19, .int .i64 st2.2), (20, .bool v0_11.1), (21, .int .i64 v0_11.2), (97, .int .i64 l.1), (98, .int .i64 st1.2), (102, .int .i64 (st1.2 + 1)), (103, .int .i64 st2.2), (118, .tup [.own 128000, .int .i64 v0_12.2])] [(3, .box 24 [.int .i64 l.1, .sl (.pair (.int .i64) (.int .i64)) l.2]), (128000, .arr 3 (.int .i64) v0_12.1)] ?_
               refine zB [(1, .sl (.int .i64) w), (2, .sl (.int .i64) v0), (3, .bp 3 0), (7, .bool v0_4.1), (17, .bool st2.1), (18, .int .i64 st1.2), (19, .int .i64 st2.2), (20, .bool v0_11.1), (21, .int .i64 v0_11.2), (22, .own 128000), (23, .int .i64 v0_12.2), (97, .int .i64 l.1), (98, .int .i64 st1.2), (102, .int .i64 (st1.2 + 1)), (103, .int .i64 st2.2)] [(3, .box 24 [.int .i64 l.1, .sl (.pair (.int .i64) (.int .i64)) l.2]), (128000, .arr 3 (.int .i64) v0_12.1)] ?_
               refine zo ?_
               refine zS 4 [(1, .sl (.int .i64) w), (2, .sl (.int .i64) v0), (3, .bp 3 0), (7, .bool v0_4.1), (17, .bool st2.1), (18, .int .i64 st1.2), (20, .bool v0_11.1), (21, .int .i64 v0_11.2), (22, .own 128000), (23, .int .i64 v0_12.2), (97, .int .i64 l.1), (98, .int .i64 st1.2), (102, .int .i64 (st1.2 + 1)), (103, .int .i64 st2.2), (122, .agg [.int .i64 l.1, .sl (.pair (.int .i64) (.int .i64)) l.2]), (123, .sl (.int .i64) v0), (124, .int .i64 st1.2), (125, .int .i64 st2.2)] [(3, .box 24 [.int .i64 l.1, .sl (.pair (.int .i64) (.int .i64)) l.2]), (128000, .arr 3 (.int .i64) v0_12.1)] ?_
               obtain ⟨v0_13, hv42, h⟩ := Option.bind_eq_some_iff.1 h
               refine zC [] [] (hc_weave_Projection l v0 st1.2 st2.2 hv42) [(1, .sl (.int .i64) w), (2, .sl (.int .i64) v0), (3, .bp 3 0), (7, .bool v0_4.1), (17, .bool st2.1), (18, .int .i64 st1.2), (20, .bool v0_11.1), (21, .int .i64 v0_11.2), (22, .own 128000), (23, .int .i64 v0_12.2), (97, .int .i64 l.1), (98, .int .i64 st1.2), (102, .int .i64 (st1.2 + 1)), (103, .int .i64 st2.2), (126, .tup [.own 136000, .int .i64 v0_13.2])] [(3, .box 24 [.int .i64 l.1, .sl (.pair (.int .i64) (.int .i64)) l.2]), (128000, .arr 3 (.int .i64) v0_12.1), (136000, .arr 3 (.int .i64) v0_13.1)] ?_
               refine zB [(1, .sl (.int .i64) w), (2, .sl (.int .i64) v0), (3, .bp 3 0), (7, .bool v0_4.1), (17, .bool st2.1), (18, .int .i64 st1.2), (20, .bool v0_11.1), (21, .int .i64 v0_11.2), (22, .own 128000), (23, .int .i64 v0_12.2), (24, .own 136000), (25, .int .i64 v0_13.2), (97, .int .i64 l.1), (98, .int .i64 st1.2), (102, .int .i64 (st1.2 + 1)), (103, .int .i64 st2.2)] [(3, .box 24 [.int .i64 l.1, .sl (.pair (.int .i64) (.int .i64)) l.2]), (128000, .arr 3 (.int .i64) v0_12.1), (136000, .arr 3 (.int .i64) v0_13.1)] ?_
               refine AW.seq ?_
               refine zo ?_
               refine zS 3 [(1, .sl (.int .i64) w), (2, .sl (.int .i64) v0), (3, .bp 3 0), (7, .bool v0_4.1), (17, .bool st2.1), (18, .int .i64 st1.2), (20, .bool v0_11.1), (22, .own 128000), (23, .int .i64 v0_12.2), (24, .own 136000), (25, .int .i64 v0_13.2), (97, .int .i64 l.1), (98, .int .i64 st1.2), (102, .int .i64 (st1.2 + 1)), (103, .int .i64 st2.2), (131, .bool (!(decide (v0_11.2 = 0))))] [(3, .box 24 [.int .i64 l.1, .sl (.pair (.int .i64) (.int .i64)) l.2]), (128000, .arr 3 (.int .i64) v0_12.1), (136000, .arr 3 (.int .i64) v0_13.1)] ?_
               rcases zI h with ⟨hb43, h⟩ | ⟨hb43, h⟩
               ·refine zS 5 [(1, .sl (.int .i64) w), (2, .sl (.int .i64) v0), (3, .bp 3 0), (7, .bool v0_4.1), (17, .bool st2.1), (18, .int .i64 st1.2), (20, .bool v0_11.1), (22, .own 128000), (24, .own 136000), (97, .int .i64 l.1), (98, .int .i64 st1.2), (102, .int .i64 (st1.2 + 1)), (103, .int .i64 st2.2), (135, .bool true), (136, .cv (undef))] [(3, .box 24 [.int .i64 l.1, .sl (.pair (.int .i64) (.int .i64)) l.2]), (128000, .arr 3 (.int .i64) v0_12.1), (136000, .arr 3 (.int .i64) v0_13.1)] ?_
                refine zB [(1, .sl (.int .i64) w), (2, .sl (.int .i64) v0), (3, .bp 3 0), (7, .bool v0_4.1), (17, .bool st2.1), (18, .int .i64 st1.2), (20, .bool v0_11.1), (22, .own 128000), (24, .own 136000), (97, .int .i64 l.1), (98, .int .i64 st1.2), (102, .int .i64 (st1.2 + 1)), (103, .int .i64 st2.2), (138, .bool true)] [(3, .box 24 [.int .i64 l.1, .sl (.pair (.int .i64) (.int .i64)) l.2]), (128000, .arr 3 (.int .i64) v0_12.1), (136000, .arr 3 (.int .i64) v0_13.1)] ?_
                refine AW.cond (b := true) rfl (fun _ => ?_) (fun hb44 => by cases hb44)
                refine zo ?_
                refine zB [(6, .bool false)] [] ?_
                refine zr ?_
                refine ablock_r ?_
                refine athen_r ?_
                obtain rfl := Option.some.inj h
                rw [← hd36 _ rfl] at ho35
                have h := ho35
                try simp only at h
                refine athen_r ?_
                refine ablock_r ?_
                refine ablock_r ?_
                refine athen_r ?_
                obtain rfl := Option.some.inj h
                rw [← hd28 _ rfl] at ho27
                have h := ho27
                try simp only at h
                refine athen_r ?_
                refine ablock_r ?_
                refine athen_r ?_
                obtain rfl := Option.some.inj h
                exact zR [] [] []
               ·refine zS 4 [(1, .sl (.int .i64) w), (2, .sl (.int .i64) v0), (3, .bp 3 0), (7, .bool v0_4.1), (17, .bool st2.1), (18, .int .i64 st1.2), (20, .bool v0_11.1), (22, .own 128000), (24, .own 136000), (25, .int .i64 v0_13.2), (97, .int .i64 l.1), (98, .int .i64 st1.2), (102, .int .i64 (st1.2 + 1)), (103, .int .i64 st2.2), (135, .bool (!(decide (v0_12.2 = 0))))] [(3, .box 24 [.int .i64 l.1, .sl (.pair (.int .i64) (.int .i64)) l.2]), (128000, .arr 3 (.int .i64) v0_12.1), (136000, .arr 3 (.int .i64) v0_13.1)] ?_
                rcases zI h with ⟨hb45, h⟩ | ⟨hb45, h⟩
                ·refine zB [(1, .sl (.int .i64) w), (2, .sl (.int .i64) v0), (3, .bp 3 0), (7, .bool v0_4.1), (17, .bool st2.1), (18, .int .i64 st1.2), (20, .bool v0_11.1), (22, .own 128000), (24, .own 136000), (97, .int .i64 l.1), (98, .int .i64 st1.2), (102, .int .i64 (st1.2 + 1)), (103, .int .i64 st2.2), (138, .bool true)] [(3, .box 24 [.int .i64 l.1, .sl (.pair (.int .i64) (.int .i64)) l.2]), (128000, .arr 3 (.int .i64) v0_12.1), (136000, .arr 3 (.int .i64) v0_13.1)] ?_
                 refine AW.cond (b := true) rfl (fun _ => ?_) (fun hb46 => by cases hb46)
                 refine zo ?_
                 refine zB [(6, .bool false)] [] ?_
                 refine zr ?_
                 refine ablock_r ?_
                 refine athen_r ?_
                 obtain rfl := Option.some.inj h
                 rw [← hd36 _ rfl] at ho35
                 have h := ho35
                 try simp only at h
                 refine athen_r ?_
                 refine ablock_r ?_
                 refine ablock_r ?_
                 refine athen_r ?_
                 obtain rfl := Option.some.inj h
                 rw [← hd28 _ rfl] at ho27
                 have h := ho27
                 try simp only at h
                 refine athen_r ?_
                 refine ablock_r ?_
                 refine athen_r ?_
                 obtain rfl := Option.some.inj h
                 exact zR [] [] []
                ·refine zB [(1, .sl (.int .i64) w), (2, .sl (.int .i64) v0), (3, .bp 3 0), (7, .bool v0_4.1), (17, .bool st2.1), (18, .int .i64 st1.2), (20, .bool v0_11.1), (22, .own 128000), (24, .own 136000), (97, .int .i64 l.1), (98, .int .i64 st1.2), (102, .int .i64 (st1.2 + 1)), (103, .int .i64 st2.2), (138, .bool (!(decide (v0_13.2 = 0))))] [(3, .box 24 [.int .i64 l.1, .sl (.pair (.int .i64) (.int .i64)) l.2]), (128000, .arr 3 (.int .i64) v0_12.1), (136000, .arr 3 (.int .i64) v0_13.1)] ?_
                 refine zQ h (fun hb47 h => ?_) (fun hb47 h => ?_)
                 ·refine zo ?_
                  refine zB [(6, .bool false)] [] ?_
                  refine zr ?_
                  refine ablock_r ?_
                  refine athen_r ?_
                  obtain rfl := Option.some.inj h
                  rw [← hd36 _ rfl] at ho35
                  have h := ho35
                  try simp only at h
                  refine athen_r ?_
                  refine ablock_r ?_
                  refine ablock_r ?_
                  refine athen_r ?_
                  obtain rfl := Option.some.inj h
                  rw [← hd28 _ rfl] at ho27
                  have h := ho27
                  try simp only at h
                  refine athen_r ?_
                  refine ablock_r ?_
                  refine athen_r ?_
                  obtain rfl := Option.some.inj h
                  exact zR [] [] []
                 ·refine zk ?_
                  refine AW.ops ?_
                  refine zS 2 [(1, .sl (.int .i64) w), (2, .sl (.int .i64) v0), (3, .bp 3 0), (7, .bool v0_4.1), (18, .int .i64 st1.2), (20, .bool v0_11.1), (22, .own 128000), (24, .own 136000), (97, .int .i64 l.1), (98, .int .i64 st1.2), (102, .int .i64 (st1.2 + 1)), (103, .int .i64 st2.2), (140, .bool st2.1)] [(3, .box 24 [.int .i64 l.1, .sl (.pair (.int .i64) (.int .i64)) l.2]), (128000, .arr 3 (.int .i64) v0_12.1), (136000, .arr 3 (.int .i64) v0_13.1)] ?_
                  rcases zI h with ⟨hb48, h⟩ | ⟨hb48, h⟩
                  ·refine zS 3 [(1, .sl (.int .i64) w), (2, .sl (.int .i64) v0), (3, .bp 3 0), (7, .bool v0_4.1), (18, .int .i64 st1.2), (22, .own 128000), (24, .own 136000), (97, .int .i64 l.1), (98, .int .i64 st1.2), (102, .int .i64 (st1.2 + 1)), (103, .int .i64 st2.2), (140, .bool true), (143, .bool (!v0_11.1))] [(3, .box 24 [.int .i64 l.1, .sl (.pair (.int .i64) (.int .i64)) l.2]), (128000, .arr 3 (.int .i64) v0_12.1), (136000, .arr 3 (.int .i64) v0_13.1)] ?_
                   rcases zI h with ⟨hb49, h⟩ | ⟨hb49, h⟩
                   ·refine zS 5 [(1, .sl (.int .i64) w), (2, .sl (.int .i64) v0), (3, .bp 3 0), (7, .bool v0_4.1), (18, .int .i64 st1.2), (97, .int .i64 l.1), (98, .int .i64 st1.2), (102, .int .i64 (st1.2 + 1)), (103, .int .i64 st2.2), (148, .bool true)] [(3, .box 24 [.int .i64 l.1, .sl (.pair (.int .i64) (.int .i64)) l.2])] ?_
                    refine zA [(1, .sl (.int .i64) w), (2, .sl (.int .i64) v0), (3, .bp 3 0), (7, .bool v0_4.1), (17, .bool true), (18, .int .i64 st1.2), (97, .int .i64 l.1), (98, .int .i64 st1.2), (102, .int .i64 (st1.2 + 1)), (103, .int .i64 st2.2)] [(3, .box 24 [.int .i64 l.1, .sl (.pair (.int .i64) (.int .i64)) l.2])] ?_
                    refine ablock_n ?_
                    refine athen_n ?_
                    refine AW.ops ?_
                    obtain ⟨c50, h⟩ := ck_some.1 h
                    refine zA [(1, .sl (.int .i64) w), (2, .sl (.int .i64) v0), (3, .bp 3 0), (7, .bool v0_4.1), (17, .bool true), (18, .int .i64 st1.2), (97, .int .i64 l.1), (98, .int .i64 st1.2), (102, .int .i64 (st1.2 + 1)), (103, .int .i64 (st2.2 + 1))] [(3, .box 24 [.int .i64 l.1, .sl (.pair (.int .i64) (.int .i64)) l.2])] ?_
                    obtain rfl := Option.some.inj h
                    exact ⟨_, rfl, zL [] [] []⟩
                   ·refine zS 2 [(1, .sl (.int .i64) w), (2, .sl (.int .i64) v0), (3, .bp 3 0), (7, .bool v0_4.1), (18, .int .i64 st1.2), (97, .int .i64 l.1), (98, .int .i64 st1.2), (102, .int .i64 (st1.2 + 1)), (103, .int .i64 st2.2), (140, .bool true), (143, .bool false), (144, .own 128000), (145, .own 136000)] [(3, .box 24 [.int .i64 l.1, .sl (.pair (.int .i64) (.int .i64)) l.2]), (128000, .arr 3 (.int .i64) v0_12.1), (136000, .arr 3 (.int .i64) v0_13.1)] ?_
                    obtain ⟨v0_14, hv51, h⟩ := Option.bind_eq_some_iff.1 h
                    refine zG [128000, 136000] [] (hc_linealref03_SameInts v0_12.1 v0_13.1 hv51) [(1, .sl (.int .i64) w), (2, .sl (.int .i64) v0), (3, .bp 3 0), (7, .bool v0_4.1), (18, .int .i64 st1.2), (97, .int .i64 l.1), (98, .int .i64 st1.2), (102, .int .i64 (st1.2 + 1)), (103, .int .i64 st2.2), (140, .bool true), (143, .bool false), (146, .bool v0_14)] [(3, .box 24 [.int .i64 l.1, .sl (.pair (.int .i64) (.int .i64)) l.2])] ?_
                    refine zA [(1, .sl (.int .i64) w), (2, .sl (.int .i64) v0), (3, .bp 3 0), (7, .bool v0_4.1), (17, .bool v0_14), (18, .int .i64 st1.2), (97, .int .i64 l.1), (98, .int .i64 st1.2), (102, .int .i64 (st1.2 + 1)), (103, .int .i64 st2.2)] [(3, .box 24 [.int .i64 l.1, .sl (.pair (.int .i64) (.int .i64)) l.2])] ?_
                    refine ablock_n ?_
                    refine athen_n ?_
                    refine AW.ops ?_
                    obtain ⟨c52, h⟩ := ck_some.1 h
                    refine zA [(1, .sl (.int .i64) w), (2, .sl (.int .i64) v0), (3, .bp 3 0), (7, .bool v0_4.1), (17, .bool v0_14), (18, .int .i64 st1.2), (97, .int .i64 l.1), (98, .int .i64 st1.2), (102, .int .i64 (st1.2 + 1)), (103, .int .i64 (st2.2 + 1))] [(3, .box 24 [.int .i64 l.1, .sl (.pair (.int .i64) (.int .i64)) l.2])] ?_
                    obtain rfl := Option.some.inj h
                    exact ⟨_, rfl, zL [] [] []⟩
                  ·refine zS 4 [(1, .sl (.int .i64) w), (2, .sl (.int .i64) v0), (3, .bp 3 0), (7, .bool v0_4.1), (18, .int .i64 st1.2), (24, .own 136000), (97, .int .i64 l.1), (98, .int .i64 st1.2), (102, .int .i64 (st1.2 + 1)), (103, .int .i64 st2.2), (140, .bool false), (143, .cv (undef)), (144, .cv (undef))] [(3, .box 24 [.int .i64 l.1, .sl (.pair (.int .i64) (.int .i64)) l.2]), (136000, .arr 3 (.int .i64) v0_13.1)] ?_
                   refine zA [(1, .sl (.int .i64) w), (2, .sl (.int .i64) v0), (3, .bp 3 0), (7, .bool v0_4.1), (17, .bool false), (18, .int .i64 st1.2), (97, .int .i64 l.1), (98, .int .i64 st1.2), (102, .int .i64 (st1.2 + 1)), (103, .int .i64 st2.2)] [(3, .box 24 [.int .i64 l.1, .sl (.pair (.int .i64) (.int .i64)) l.2])] ?_
                   refine ablock_n ?_
                   refine athen_n ?_
                   refine AW.ops ?_
                   obtain ⟨c53, h⟩ := ck_some.1 h
                   refine zA [(1, .sl (.int .i64) w), (2, .sl (.int .i64) v0), (3, .bp 3 0), (7, .bool v0_4.1), (17, .bool false), (18, .int .i64 st1.2), (97, .int .i64 l.1), (98, .int .i64 st1.2), (102, .int .i64 (st1.2 + 1)), (103, .int .i64 (st2.2 + 1))] [(3, .box 24 [.int .i64 l.1, .sl (.pair (.int .i64) (.int .i64)) l.2])] ?_
                   obtain rfl := Option.some.inj h
                   exact ⟨_, rfl, zL [] [] []⟩
              ·refine AW.exit ?_
               refine athen_e ?_
               obtain rfl := Option.some.inj h
               rw [← hd36 _ rfl] at ho35
               have h := ho35
               try simp only at h
               refine athen_e ?_
               refine ablock_s ?_
               refine ablock_n ?_
               refine athen_n ?_
               exact AW.weaken (zL [] [] []) (hk_lineallaw03_WeaveTells_k2 _ h)
           ·refine AW.exit ?_
            refine athen_e ?_
            obtain rfl := Option.some.inj h
            rw [← hd28 _ rfl] at ho27
            have h := ho27
            try simp only at h
            refine athen_e ?_
            refine ablock_s ?_
            refine athen_n ?_
            exact AW.weaken (zL [] [] []) (hk_lineallaw03_WeaveTells_k1 _ h)

end Go.Proofs.Ytabchabbdnhjpaa
