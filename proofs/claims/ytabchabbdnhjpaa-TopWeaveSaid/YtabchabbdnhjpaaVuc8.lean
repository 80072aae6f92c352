/-
  Made by wip/tool/dc.py out of the print of the program: contracts.
-/
import Derived.Test.YtabchabbdnhjpaaVp
import Derived.Test.YtabchabbdnhjpaaSh6
import Derived.Test.YtabchabbdnhjpaaVuc2
import Derived.Test.YtabchabbdnhjpaaVuc3
import Derived.Test.YtabchabbdnhjpaaVuc4
import Derived.Test.YtabchabbdnhjpaaVuc5
import Derived.Test.YtabchabbdnhjpaaVuc6
import Derived.Test.YtabchabbdnhjpaaVuc7
namespace Go.Proofs.Ytabchabbdnhjpaa
open Go.RowKit

set_option linter.unusedSimpArgs false
set_option linter.unusedVariables false
set_option linter.constructorNameAsVariable false

set_option maxRecDepth 100000
set_option maxHeartbeats 2000000

theorem hc_linealtop_TopWeave (l : Int × (List (Int × Int))) (w : List Int) (v0 : List Int) (most : Int) {r : Bool} (h : linealtop_TopWeave l w v0 most = some r) : HC Try.prog 6 [] [.agg [.int .i64 l.1, .sl (.pair (.int .i64) (.int .i64)) l.2], .sl (.int .i64) w, .sl (.int .i64) v0, .int .u8 most] [] (.bool r) := by
 unfold linealtop_TopWeave at h
 refine zH Try.func6 [.tmp 8] 315 ?_
 refine zo ?_
 refine zB [(1, .sl (.int .i64) w), (2, .sl (.int .i64) v0), (3, .int .u8 most), (4, .bp 4 0)] [(4, .box 24 [.int .i64 l.1, .sl (.pair (.int .i64) (.int .i64)) l.2])] ?_
 refine AW.seq ?_
 refine zo ?_
 refine zS 4 [(1, .sl (.int .i64) w), (2, .sl (.int .i64) v0), (3, .int .u8 most), (4, .bp 4 0), (38, .agg [.int .i64 l.1, .sl (.pair (.int .i64) (.int .i64)) l.2]), (41, .own 41)] [(4, .box 24 [.int .i64 l.1, .sl (.pair (.int .i64) (.int .i64)) l.2]), (41, .arr 25 (.sl (.int .i64)) [w, v0])] ?_
 obtain ⟨v0_2, hv1, h⟩ := Option.bind_eq_some_iff.1 h
 refine zC [41] [] (hc_lineallaw03_Long l [w, v0] hv1) [(1, .sl (.int .i64) w), (2, .sl (.int .i64) v0), (3, .int .u8 most), (4, .bp 4 0), (42, .bool v0_2)] [(4, .box 24 [.int .i64 l.1, .sl (.pair (.int .i64) (.int .i64)) l.2])] ?_
 refine zS 1 [(1, .sl (.int .i64) w), (2, .sl (.int .i64) v0), (3, .int .u8 most), (4, .bp 4 0), (43, .bool v0_2)] [(4, .box 24 [.int .i64 l.1, .sl (.pair (.int .i64) (.int .i64)) l.2])] ?_
 rcases zI h with ⟨hb2, h⟩ | ⟨hb2, h⟩
 ·refine zS 5 [(1, .sl (.int .i64) w), (2, .sl (.int .i64) v0), (3, .int .u8 most), (4, .bp 4 0), (48, .bool true)] [(4, .box 24 [.int .i64 l.1, .sl (.pair (.int .i64) (.int .i64)) l.2])] ?_
  refine zS 4 [(1, .sl (.int .i64) w), (2, .sl (.int .i64) v0), (3, .int .u8 most), (4, .bp 4 0), (48, .bool true), (52, .cv (undef))] [(4, .box 24 [.int .i64 l.1, .sl (.pair (.int .i64) (.int .i64)) l.2])] ?_
  refine zS 5 [(1, .sl (.int .i64) w), (2, .sl (.int .i64) v0), (3, .int .u8 most), (4, .bp 4 0), (54, .bool true), (57, .cv (undef))] [(4, .box 24 [.int .i64 l.1, .sl (.pair (.int .i64) (.int .i64)) l.2])] ?_
  refine zB [(1, .sl (.int .i64) w), (2, .sl (.int .i64) v0), (3, .int .u8 most), (4, .bp 4 0), (59, .bool true)] [(4, .box 24 [.int .i64 l.1, .sl (.pair (.int .i64) (.int .i64)) l.2])] ?_
  refine AW.cond (b := true) rfl (fun _ => ?_) (fun hb3 => by cases hb3)
  refine zo ?_
  obtain ⟨v0_3, hv4, h⟩ := Option.bind_eq_some_iff.1 h
  refine zC [] [] (hc_lineallaw03_Awake hv4) [(60, .bool v0_3)] [] ?_
  refine zB [(8, .bool v0_3)] [] ?_
  refine zr ?_
  obtain rfl := Option.some.inj h
  exact zR [] [] []
 ·refine zS 1 [(1, .sl (.int .i64) w), (2, .sl (.int .i64) v0), (3, .int .u8 most), (4, .bp 4 0), (43, .bool false), (44, .agg [.int .i64 l.1, .sl (.pair (.int .i64) (.int .i64)) l.2])] [(4, .box 24 [.int .i64 l.1, .sl (.pair (.int .i64) (.int .i64)) l.2])] ?_
  obtain ⟨v0_4, hv5, h⟩ := Option.bind_eq_some_iff.1 h
  refine zG [] [] (hc_linealref03_Valid l hv5) [(1, .sl (.int .i64) w), (2, .sl (.int .i64) v0), (3, .int .u8 most), (4, .bp 4 0), (43, .bool false), (45, .bool v0_4)] [(4, .box 24 [.int .i64 l.1, .sl (.pair (.int .i64) (.int .i64)) l.2])] ?_
  refine zS 3 [(1, .sl (.int .i64) w), (2, .sl (.int .i64) v0), (3, .int .u8 most), (4, .bp 4 0), (48, .bool (!v0_4))] [(4, .box 24 [.int .i64 l.1, .sl (.pair (.int .i64) (.int .i64)) l.2])] ?_
  rcases zI h with ⟨hb6, h⟩ | ⟨hb6, h⟩
  ·refine zS 4 [(1, .sl (.int .i64) w), (2, .sl (.int .i64) v0), (3, .int .u8 most), (4, .bp 4 0), (48, .bool true), (52, .cv (undef))] [(4, .box 24 [.int .i64 l.1, .sl (.pair (.int .i64) (.int .i64)) l.2])] ?_
   refine zS 5 [(1, .sl (.int .i64) w), (2, .sl (.int .i64) v0), (3, .int .u8 most), (4, .bp 4 0), (54, .bool true), (57, .cv (undef))] [(4, .box 24 [.int .i64 l.1, .sl (.pair (.int .i64) (.int .i64)) l.2])] ?_
   refine zB [(1, .sl (.int .i64) w), (2, .sl (.int .i64) v0), (3, .int .u8 most), (4, .bp 4 0), (59, .bool true)] [(4, .box 24 [.int .i64 l.1, .sl (.pair (.int .i64) (.int .i64)) l.2])] ?_
   refine AW.cond (b := true) rfl (fun _ => ?_) (fun hb7 => by cases hb7)
   refine zo ?_
   obtain ⟨v0_5, hv8, h⟩ := Option.bind_eq_some_iff.1 h
   refine zC [] [] (hc_lineallaw03_Awake hv8) [(60, .bool v0_5)] [] ?_
   refine zB [(8, .bool v0_5)] [] ?_
   refine zr ?_
   obtain rfl := Option.some.inj h
   exact zR [] [] []
  ·refine zS 2 [(1, .sl (.int .i64) w), (2, .sl (.int .i64) v0), (3, .int .u8 most), (4, .bp 4 0), (48, .bool false), (49, .agg [.int .i64 l.1, .sl (.pair (.int .i64) (.int .i64)) l.2]), (50, .sl (.int .i64) w)] [(4, .box 24 [.int .i64 l.1, .sl (.pair (.int .i64) (.int .i64)) l.2])] ?_
   obtain ⟨v0_6, hv9, h⟩ := Option.bind_eq_some_iff.1 h
   refine zG [] [] (hc_linealref03_IsWord l w hv9) [(1, .sl (.int .i64) w), (2, .sl (.int .i64) v0), (3, .int .u8 most), (4, .bp 4 0), (48, .bool false), (51, .bool v0_6)] [(4, .box 24 [.int .i64 l.1, .sl (.pair (.int .i64) (.int .i64)) l.2])] ?_
   refine zS 3 [(1, .sl (.int .i64) w), (2, .sl (.int .i64) v0), (3, .int .u8 most), (4, .bp 4 0), (54, .bool (!v0_6))] [(4, .box 24 [.int .i64 l.1, .sl (.pair (.int .i64) (.int .i64)) l.2])] ?_
   rcases zI h with ⟨hb10, h⟩ | ⟨hb10, h⟩
   ·refine zS 4 [(1, .sl (.int .i64) w), (2, .sl (.int .i64) v0), (3, .int .u8 most), (4, .bp 4 0), (54, .bool true), (58, .cv (undef))] [(4, .box 24 [.int .i64 l.1, .sl (.pair (.int .i64) (.int .i64)) l.2])] ?_
    refine zB [(1, .sl (.int .i64) w), (2, .sl (.int .i64) v0), (3, .int .u8 most), (4, .bp 4 0), (59, .bool true)] [(4, .box 24 [.int .i64 l.1, .sl (.pair (.int .i64) (.int .i64)) l.2])] ?_
    refine AW.cond (b := true) rfl (fun _ => ?_) (fun hb11 => by cases hb11)
    refine zo ?_
    obtain ⟨v0_7, hv12, h⟩ := Option.bind_eq_some_iff.1 h
    refine zC [] [] (hc_lineallaw03_Awake hv12) [(60, .bool v0_7)] [] ?_
    refine zB [(8, .bool v0_7)] [] ?_
    refine zr ?_
    obtain rfl := Option.some.inj h
    exact zR [] [] []
   ·refine zS 2 [(1, .sl (.int .i64) w), (2, .sl (.int .i64) v0), (3, .int .u8 most), (4, .bp 4 0), (54, .bool false), (55, .agg [.int .i64 l.1, .sl (.pair (.int .i64) (.int .i64)) l.2]), (56, .sl (.int .i64) v0)] [(4, .box 24 [.int .i64 l.1, .sl (.pair (.int .i64) (.int .i64)) l.2])] ?_
    obtain ⟨v0_8, hv13, h⟩ := Option.bind_eq_some_iff.1 h
    refine zG [] [] (hc_linealref03_IsWord l v0 hv13) [(1, .sl (.int .i64) w), (2, .sl (.int .i64) v0), (3, .int .u8 most), (4, .bp 4 0), (54, .bool false), (57, .bool v0_8)] [(4, .box 24 [.int .i64 l.1, .sl (.pair (.int .i64) (.int .i64)) l.2])] ?_
    refine zB [(1, .sl (.int .i64) w), (2, .sl (.int .i64) v0), (3, .int .u8 most), (4, .bp 4 0), (59, .bool (!v0_8))] [(4, .box 24 [.int .i64 l.1, .sl (.pair (.int .i64) (.int .i64)) l.2])] ?_
    refine zQ h (fun hb14 h => ?_) (fun hb14 h => ?_)
    ·refine zo ?_
     obtain ⟨v0_9, hv15, h⟩ := Option.bind_eq_some_iff.1 h
     refine zC [] [] (hc_lineallaw03_Awake hv15) [(60, .bool v0_9)] [] ?_
     refine zB [(8, .bool v0_9)] [] ?_
     refine zr ?_
     obtain rfl := Option.some.inj h
     exact zR [] [] []
    ·refine zk ?_
     refine zo ?_
     refine zS 2 [(1, .sl (.int .i64) w), (2, .sl (.int .i64) v0), (3, .int .u8 most), (4, .bp 4 0), (62, .agg [.int .i64 l.1, .sl (.pair (.int .i64) (.int .i64)) l.2]), (63, .sl (.int .i64) w)] [(4, .box 24 [.int .i64 l.1, .sl (.pair (.int .i64) (.int .i64)) l.2])] ?_
     obtain ⟨v0_10, hv16, h⟩ := Option.bind_eq_some_iff.1 h
     refine zC [] [] (hc_weave_First l w hv16) [(1, .sl (.int .i64) w), (2, .sl (.int .i64) v0), (3, .int .u8 most), (4, .bp 4 0), (64, .tup [.sl (.int .i64) v0_10.1, .int .i64 v0_10.2])] [(4, .box 24 [.int .i64 l.1, .sl (.pair (.int .i64) (.int .i64)) l.2])] ?_
     refine zB [(1, .sl (.int .i64) w), (2, .sl (.int .i64) v0), (3, .int .u8 most), (4, .bp 4 0), (9, .sl (.int .i64) v0_10.1), (10, .int .i64 v0_10.2)] [(4, .box 24 [.int .i64 l.1, .sl (.pair (.int .i64) (.int .i64)) l.2])] ?_
     refine zo ?_
     refine zS 2 [(1, .sl (.int .i64) w), (2, .sl (.int .i64) v0), (3, .int .u8 most), (4, .bp 4 0), (9, .sl (.int .i64) v0_10.1), (10, .int .i64 v0_10.2), (68, .agg [.int .i64 l.1, .sl (.pair (.int .i64) (.int .i64)) l.2]), (69, .sl (.int .i64) v0)] [(4, .box 24 [.int .i64 l.1, .sl (.pair (.int .i64) (.int .i64)) l.2])] ?_
     obtain ⟨v0_11, hv17, h⟩ := Option.bind_eq_some_iff.1 h
     refine zC [] [] (hc_weave_First l v0 hv17) [(1, .sl (.int .i64) w), (2, .sl (.int .i64) v0), (3, .int .u8 most), (4, .bp 4 0), (9, .sl (.int .i64) v0_10.1), (10, .int .i64 v0_10.2), (70, .tup [.sl (.int .i64) v0_11.1, .int .i64 v0_11.2])] [(4, .box 24 [.int .i64 l.1, .sl (.pair (.int .i64) (.int .i64)) l.2])] ?_
     refine zB [(1, .sl (.int .i64) w), (2, .sl (.int .i64) v0), (3, .int .u8 most), (4, .bp 4 0), (9, .sl (.int .i64) v0_10.1), (10, .int .i64 v0_10.2), (11, .sl (.int .i64) v0_11.1), (12, .int .i64 v0_11.2)] [(4, .box 24 [.int .i64 l.1, .sl (.pair (.int .i64) (.int .i64)) l.2])] ?_
     refine zo ?_
     refine zS 3 [(1, .sl (.int .i64) w), (2, .sl (.int .i64) v0), (3, .int .u8 most), (4, .bp 4 0), (9, .sl (.int .i64) v0_10.1), (10, .int .i64 v0_10.2), (11, .sl (.int .i64) v0_11.1), (12, .int .i64 v0_11.2), (74, .agg [.int .i64 l.1, .sl (.pair (.int .i64) (.int .i64)) l.2]), (75, .sl (.int .i64) w), (76, .sl (.int .i64) v0)] [(4, .box 24 [.int .i64 l.1, .sl (.pair (.int .i64) (.int .i64)) l.2])] ?_
     obtain ⟨v0_12, hv18, h⟩ := Option.bind_eq_some_iff.1 h
     refine zC [] [] (hc_weave_Equal l w v0 hv18) [(1, .sl (.int .i64) w), (2, .sl (.int .i64) v0), (3, .int .u8 most), (4, .bp 4 0), (9, .sl (.int .i64) v0_10.1), (10, .int .i64 v0_10.2), (11, .sl (.int .i64) v0_11.1), (12, .int .i64 v0_11.2), (77, .tup [.bool v0_12.1, .int .i64 v0_12.2])] [(4, .box 24 [.int .i64 l.1, .sl (.pair (.int .i64) (.int .i64)) l.2])] ?_
     refine zB [(1, .sl (.int .i64) w), (2, .sl (.int .i64) v0), (3, .int .u8 most), (4, .bp 4 0), (9, .sl (.int .i64) v0_10.1), (10, .int .i64 v0_10.2), (11, .sl (.int .i64) v0_11.1), (12, .int .i64 v0_11.2), (13, .bool v0_12.1), (14, .int .i64 v0_12.2)] [(4, .box 24 [.int .i64 l.1, .sl (.pair (.int .i64) (.int .i64)) l.2])] ?_
     refine zo ?_
     refine zS 3 [(1, .sl (.int .i64) w), (2, .sl (.int .i64) v0), (3, .int .u8 most), (4, .bp 4 0), (9, .sl (.int .i64) v0_10.1), (10, .int .i64 v0_10.2), (11, .sl (.int .i64) v0_11.1), (12, .int .i64 v0_11.2), (13, .bool v0_12.1), (14, .int .i64 v0_12.2), (81, .agg [.int .i64 l.1, .sl (.pair (.int .i64) (.int .i64)) l.2]), (82, .sl (.int .i64) w), (83, .sl (.int .i64) v0)] [(4, .box 24 [.int .i64 l.1, .sl (.pair (.int .i64) (.int .i64)) l.2])] ?_
     obtain ⟨v0_13, hv19, h⟩ := Option.bind_eq_some_iff.1 h
     refine zC [] [] (hc_weave_Path l w v0 hv19) [(1, .sl (.int .i64) w), (2, .sl (.int .i64) v0), (3, .int .u8 most), (4, .bp 4 0), (9, .sl (.int .i64) v0_10.1), (10, .int .i64 v0_10.2), (11, .sl (.int .i64) v0_11.1), (12, .int .i64 v0_11.2), (13, .bool v0_12.1), (14, .int .i64 v0_12.2), (84, .tup [.own 94000, .int .i64 v0_13.2])] [(4, .box 24 [.int .i64 l.1, .sl (.pair (.int .i64) (.int .i64)) l.2]), (94000, .arr 3 (.int .i64) v0_13.1)] ?_
     refine zB [(1, .sl (.int .i64) w), (2, .sl (.int .i64) v0), (3, .int .u8 most), (4, .bp 4 0), (9, .sl (.int .i64) v0_10.1), (10, .int .i64 v0_10.2), (11, .sl (.int .i64) v0_11.1), (12, .int .i64 v0_11.2), (13, .bool v0_12.1), (14, .int .i64 v0_12.2), (16, .int .i64 v0_13.2)] [(4, .box 24 [.int .i64 l.1, .sl (.pair (.int .i64) (.int .i64)) l.2])] ?_
     refine AW.seq ?_
     refine zo ?_
     refine zS 3 [(1, .sl (.int .i64) w), (2, .sl (.int .i64) v0), (3, .int .u8 most), (4, .bp 4 0), (9, .sl (.int .i64) v0_10.1), (11, .sl (.int .i64) v0_11.1), (12, .int .i64 v0_11.2), (13, .bool v0_12.1), (14, .int .i64 v0_12.2), (16, .int .i64 v0_13.2), (89, .bool (!(decide (v0_10.2 = 0))))] [(4, .box 24 [.int .i64 l.1, .sl (.pair (.int .i64) (.int .i64)) l.2])] ?_
     rcases zI h with ⟨hb20, h⟩ | ⟨hb20, h⟩
     ·refine zS 5 [(1, .sl (.int .i64) w), (2, .sl (.int .i64) v0), (3, .int .u8 most), (4, .bp 4 0), (9, .sl (.int .i64) v0_10.1), (11, .sl (.int .i64) v0_11.1), (13, .bool v0_12.1), (16, .int .i64 v0_13.2), (93, .bool true), (94, .cv (undef))] [(4, .box 24 [.int .i64 l.1, .sl (.pair (.int .i64) (.int .i64)) l.2])] ?_
      refine zS 5 [(1, .sl (.int .i64) w), (2, .sl (.int .i64) v0), (3, .int .u8 most), (4, .bp 4 0), (9, .sl (.int .i64) v0_10.1), (11, .sl (.int .i64) v0_11.1), (13, .bool v0_12.1), (16, .int .i64 v0_13.2), (97, .bool true), (98, .cv (undef)), (99, .cv (undef))] [(4, .box 24 [.int .i64 l.1, .sl (.pair (.int .i64) (.int .i64)) l.2])] ?_
      refine zS 5 [(1, .sl (.int .i64) w), (2, .sl (.int .i64) v0), (3, .int .u8 most), (4, .bp 4 0), (9, .sl (.int .i64) v0_10.1), (11, .sl (.int .i64) v0_11.1), (13, .bool v0_12.1), (16, .int .i64 v0_13.2), (104, .bool true)] [(4, .box 24 [.int .i64 l.1, .sl (.pair (.int .i64) (.int .i64)) l.2])] ?_
      refine zS 4 [(1, .sl (.int .i64) w), (2, .sl (.int .i64) v0), (3, .int .u8 most), (4, .bp 4 0), (9, .sl (.int .i64) v0_10.1), (11, .sl (.int .i64) v0_11.1), (104, .bool true), (108, .cv (undef))] [(4, .box 24 [.int .i64 l.1, .sl (.pair (.int .i64) (.int .i64)) l.2])] ?_
      refine zB [(1, .sl (.int .i64) w), (2, .sl (.int .i64) v0), (3, .int .u8 most), (4, .bp 4 0), (9, .sl (.int .i64) v0_10.1), (11, .sl (.int .i64) v0_11.1), (109, .bool true)] [(4, .box 24 [.int .i64 l.1, .sl (.pair (.int .i64) (.int .i64)) l.2])] ?_
      refine AW.cond (b := true) rfl (fun _ => ?_) (fun hb21 => by cases hb21)
      refine zo ?_
      refine zB [(8, .bool false)] [] ?_
      refine zr ?_
      obtain rfl := Option.some.inj h
      exact zR [] [] []
     ·refine zS 4 [(1, .sl (.int .i64) w), (2, .sl (.int .i64) v0), (3, .int .u8 most), (4, .bp 4 0), (9, .sl (.int .i64) v0_10.1), (11, .sl (.int .i64) v0_11.1), (13, .bool v0_12.1), (14, .int .i64 v0_12.2), (16, .int .i64 v0_13.2), (93, .bool (!(decide (v0_11.2 = 0))))] [(4, .box 24 [.int .i64 l.1, .sl (.pair (.int .i64) (.int .i64)) l.2])] ?_
      rcases zI h with ⟨hb22, h⟩ | ⟨hb22, h⟩
      ·refine zS 5 [(1, .sl (.int .i64) w), (2, .sl (.int .i64) v0), (3, .int .u8 most), (4, .bp 4 0), (9, .sl (.int .i64) v0_10.1), (11, .sl (.int .i64) v0_11.1), (13, .bool v0_12.1), (16, .int .i64 v0_13.2), (97, .bool true), (98, .cv (undef))] [(4, .box 24 [.int .i64 l.1, .sl (.pair (.int .i64) (.int .i64)) l.2])] ?_
       refine zS 4 [(1, .sl (.int .i64) w), (2, .sl (.int .i64) v0), (3, .int .u8 most), (4, .bp 4 0), (9, .sl (.int .i64) v0_10.1), (11, .sl (.int .i64) v0_11.1), (13, .bool v0_12.1), (16, .int .i64 v0_13.2), (97, .bool true), (102, .cv (undef))] [(4, .box 24 [.int .i64 l.1, .sl (.pair (.int .i64) (.int .i64)) l.2])] ?_
       refine zS 5 [(1, .sl (.int .i64) w), (2, .sl (.int .i64) v0), (3, .int .u8 most), (4, .bp 4 0), (9, .sl (.int .i64) v0_10.1), (11, .sl (.int .i64) v0_11.1), (104, .bool true), (105, .cv (undef)), (107, .cv (undef))] [(4, .box 24 [.int .i64 l.1, .sl (.pair (.int .i64) (.int .i64)) l.2])] ?_
       refine zB [(1, .sl (.int .i64) w), (2, .sl (.int .i64) v0), (3, .int .u8 most), (4, .bp 4 0), (9, .sl (.int .i64) v0_10.1), (11, .sl (.int .i64) v0_11.1), (109, .bool true)] [(4, .box 24 [.int .i64 l.1, .sl (.pair (.int .i64) (.int .i64)) l.2])] ?_
       refine AW.cond (b := true) rfl (fun _ => ?_) (fun hb23 => by cases hb23)
       refine zo ?_
       refine zB [(8, .bool false)] [] ?_
       refine zr ?_
       obtain rfl := Option.some.inj h
       exact zR [] [] []
      ·refine zS 4 [(1, .sl (.int .i64) w), (2, .sl (.int .i64) v0), (3, .int .u8 most), (4, .bp 4 0), (9, .sl (.int .i64) v0_10.1), (11, .sl (.int .i64) v0_11.1), (13, .bool v0_12.1), (16, .int .i64 v0_13.2), (97, .bool (!(decide (v0_12.2 = 0))))] [(4, .box 24 [.int .i64 l.1, .sl (.pair (.int .i64) (.int .i64)) l.2])] ?_
       rcases zI h with ⟨hb24, h⟩ | ⟨hb24, h⟩
       ·refine zS 4 [(1, .sl (.int .i64) w), (2, .sl (.int .i64) v0), (3, .int .u8 most), (4, .bp 4 0), (9, .sl (.int .i64) v0_10.1), (11, .sl (.int .i64) v0_11.1), (13, .bool v0_12.1), (16, .int .i64 v0_13.2), (97, .bool true), (98, .cv (undef)), (101, .cv (undef))] [(4, .box 24 [.int .i64 l.1, .sl (.pair (.int .i64) (.int .i64)) l.2])] ?_
        refine zS 5 [(1, .sl (.int .i64) w), (2, .sl (.int .i64) v0), (3, .int .u8 most), (4, .bp 4 0), (9, .sl (.int .i64) v0_10.1), (11, .sl (.int .i64) v0_11.1), (104, .bool true), (105, .cv (undef)), (106, .cv (undef))] [(4, .box 24 [.int .i64 l.1, .sl (.pair (.int .i64) (.int .i64)) l.2])] ?_
        refine zB [(1, .sl (.int .i64) w), (2, .sl (.int .i64) v0), (3, .int .u8 most), (4, .bp 4 0), (9, .sl (.int .i64) v0_10.1), (11, .sl (.int .i64) v0_11.1), (109, .bool true)] [(4, .box 24 [.int .i64 l.1, .sl (.pair (.int .i64) (.int .i64)) l.2])] ?_
        refine AW.cond (b := true) rfl (fun _ => ?_) (fun hb25 => by cases hb25)
        refine zo ?_
        refine zB [(8, .bool false)] [] ?_
        refine zr ?_
        obtain rfl := Option.some.inj h
        exact zR [] [] []
       ·refine zS 3 [(1, .sl (.int .i64) w), (2, .sl (.int .i64) v0), (3, .int .u8 most), (4, .bp 4 0), (9, .sl (.int .i64) v0_10.1), (11, .sl (.int .i64) v0_11.1), (13, .bool v0_12.1), (16, .int .i64 v0_13.2), (97, .bool false), (98, .bool v0_12.1), (99, .sl (.int .i64) v0_10.1), (100, .sl (.int .i64) v0_11.1)] [(4, .box 24 [.int .i64 l.1, .sl (.pair (.int .i64) (.int .i64)) l.2])] ?_
        obtain ⟨v0_14, hv26, h⟩ := Option.bind_eq_some_iff.1 h
        refine zG [] [] (hc_linealref03_SameInts v0_10.1 v0_11.1 hv26) [(1, .sl (.int .i64) w), (2, .sl (.int .i64) v0), (3, .int .u8 most), (4, .bp 4 0), (9, .sl (.int .i64) v0_10.1), (11, .sl (.int .i64) v0_11.1), (13, .bool v0_12.1), (16, .int .i64 v0_13.2), (97, .bool false), (98, .bool v0_12.1), (101, .bool v0_14)] [(4, .box 24 [.int .i64 l.1, .sl (.pair (.int .i64) (.int .i64)) l.2])] ?_
        refine zS 3 [(1, .sl (.int .i64) w), (2, .sl (.int .i64) v0), (3, .int .u8 most), (4, .bp 4 0), (9, .sl (.int .i64) v0_10.1), (11, .sl (.int .i64) v0_11.1), (13, .bool v0_12.1), (16, .int .i64 v0_13.2), (104, .bool ((v0_12.1 == v0_14) != true))] [(4, .box 24 [.int .i64 l.1, .sl (.pair (.int .i64) (.int .i64)) l.2])] ?_
        rcases zI h with ⟨hb27, h⟩ | ⟨hb27, h⟩
        ·refine zS 4 [(1, .sl (.int .i64) w), (2, .sl (.int .i64) v0), (3, .int .u8 most), (4, .bp 4 0), (9, .sl (.int .i64) v0_10.1), (11, .sl (.int .i64) v0_11.1), (104, .bool true), (108, .cv (undef))] [(4, .box 24 [.int .i64 l.1, .sl (.pair (.int .i64) (.int .i64)) l.2])] ?_
         refine zB [(1, .sl (.int .i64) w), (2, .sl (.int .i64) v0), (3, .int .u8 most), (4, .bp 4 0), (9, .sl (.int .i64) v0_10.1), (11, .sl (.int .i64) v0_11.1), (109, .bool true)] [(4, .box 24 [.int .i64 l.1, .sl (.pair (.int .i64) (.int .i64)) l.2])] ?_
         refine AW.cond (b := true) rfl (fun _ => ?_) (fun hb28 => by cases hb28)
         refine zo ?_
         refine zB [(8, .bool false)] [] ?_
         refine zr ?_
         obtain rfl := Option.some.inj h
         exact zR [] [] []
        ·refine zB [(1, .sl (.int .i64) w), (2, .sl (.int .i64) v0), (3, .int .u8 most), (4, .bp 4 0), (9, .sl (.int .i64) v0_10.1), (11, .sl (.int .i64) v0_11.1), (109, .bool ((v0_12.1 == (decide (v0_13.2 = 0))) != true))] [(4, .box 24 [.int .i64 l.1, .sl (.pair (.int .i64) (.int .i64)) l.2])] ?_
         refine zQ h (fun hb29 h => ?_) (fun hb29 h => ?_)
         ·refine zo ?_
          refine zB [(8, .bool false)] [] ?_
          refine zr ?_
          obtain rfl := Option.some.inj h
          exact zR [] [] []
         ·refine zk ?_
          refine zo ?_
          obtain ⟨c30, h⟩ := ck_some.1 h
          refine zS 4 [(1, .sl (.int .i64) w), (2, .sl (.int .i64) v0), (3, .int .u8 most), (4, .bp 4 0), (9, .sl (.int .i64) v0_10.1), (11, .sl (.int .i64) v0_11.1), (111, .agg [.int .i64 l.1, .sl (.pair (.int .i64) (.int .i64)) l.2]), (112, .sl (.int .i64) w), (114, .int .i64 most)] [(4, .box 24 [.int .i64 l.1, .sl (.pair (.int .i64) (.int .i64)) l.2])] ?_
          obtain ⟨v0_15, hv31, h⟩ := Option.bind_eq_some_iff.1 h
          refine zC [] [] (hc_weave_Class l w most hv31) [(1, .sl (.int .i64) w), (2, .sl (.int .i64) v0), (3, .int .u8 most), (4, .bp 4 0), (9, .sl (.int .i64) v0_10.1), (11, .sl (.int .i64) v0_11.1), (115, .tup [.own 125000, .int .i64 v0_15.2])] [(4, .box 24 [.int .i64 l.1, .sl (.pair (.int .i64) (.int .i64)) l.2]), (125000, .arr 25 (.sl (.int .i64)) v0_15.1)] ?_
          refine zB [(1, .sl (.int .i64) w), (2, .sl (.int .i64) v0), (3, .int .u8 most), (4, .bp 4 0), (9, .sl (.int .i64) v0_10.1), (10, .int .i64 v0_15.2), (11, .sl (.int .i64) v0_11.1), (17, .own 125000)] [(4, .box 24 [.int .i64 l.1, .sl (.pair (.int .i64) (.int .i64)) l.2]), (125000, .arr 25 (.sl (.int .i64)) v0_15.1)] ?_
          refine AW.seq ?_
          refine zo ?_
          refine zS 3 [(1, .sl (.int .i64) w), (2, .sl (.int .i64) v0), (3, .int .u8 most), (4, .bp 4 0), (9, .sl (.int .i64) v0_10.1), (11, .sl (.int .i64) v0_11.1), (17, .own 125000), (120, .bool (!(decide (v0_15.2 = 0))))] [(4, .box 24 [.int .i64 l.1, .sl (.pair (.int .i64) (.int .i64)) l.2]), (125000, .arr 25 (.sl (.int .i64)) v0_15.1)] ?_
          rcases zI h with ⟨hb32, h⟩ | ⟨hb32, h⟩
          ·refine zS 4 [(1, .sl (.int .i64) w), (2, .sl (.int .i64) v0), (4, .bp 4 0), (9, .sl (.int .i64) v0_10.1), (11, .sl (.int .i64) v0_11.1), (17, .own 125000), (120, .bool true), (122, .cv (undef)), (124, .cv (undef))] [(4, .box 24 [.int .i64 l.1, .sl (.pair (.int .i64) (.int .i64)) l.2]), (125000, .arr 25 (.sl (.int .i64)) v0_15.1)] ?_
           refine zB [(1, .sl (.int .i64) w), (2, .sl (.int .i64) v0), (4, .bp 4 0), (9, .sl (.int .i64) v0_10.1), (11, .sl (.int .i64) v0_11.1), (17, .own 125000), (126, .bool true)] [(4, .box 24 [.int .i64 l.1, .sl (.pair (.int .i64) (.int .i64)) l.2]), (125000, .arr 25 (.sl (.int .i64)) v0_15.1)] ?_
           refine AW.cond (b := true) rfl (fun _ => ?_) (fun hb33 => by cases hb33)
           refine zo ?_
           refine zB [(8, .bool false)] [] ?_
           refine zr ?_
           obtain rfl := Option.some.inj h
           exact zR [] [] []
          ·obtain ⟨c34, h⟩ := ck_some.1 h
           refine zS 5 [(1, .sl (.int .i64) w), (2, .sl (.int .i64) v0), (4, .bp 4 0), (9, .sl (.int .i64) v0_10.1), (11, .sl (.int .i64) v0_11.1), (17, .own 125000), (120, .bool false), (125, .bool (decide (most < (v0_15.1.length : Int))))] [(4, .box 24 [.int .i64 l.1, .sl (.pair (.int .i64) (.int .i64)) l.2]), (125000, .arr 25 (.sl (.int .i64)) v0_15.1)] ?_
           refine zB [(1, .sl (.int .i64) w), (2, .sl (.int .i64) v0), (4, .bp 4 0), (9, .sl (.int .i64) v0_10.1), (11, .sl (.int .i64) v0_11.1), (17, .own 125000), (126, .bool (decide (most < (v0_15.1.length : Int))))] [(4, .box 24 [.int .i64 l.1, .sl (.pair (.int .i64) (.int .i64)) l.2]), (125000, .arr 25 (.sl (.int .i64)) v0_15.1)] ?_
           refine zQ h (fun hb35 h => ?_) (fun hb35 h => ?_)
           ·refine zo ?_
            refine zB [(8, .bool false)] [] ?_
            refine zr ?_
            obtain rfl := Option.some.inj h
            exact zR [] [] []
           ·refine zk ?_
            refine AW.have1 (fun _ : Unit => linealtop_TopWeave_k1 l w v0 v0_10 v0_11 = some r) (fun _ => ⟨fr [(1, .sl (.int .i64) w), (2, .sl (.int .i64) v0), (4, .bp 4 0), (9, .sl (.int .i64) v0_10.1), (11, .sl (.int .i64) v0_11.1)], hpGet [(4, .box 24 [.int .i64 l.1, .sl (.pair (.int .i64) (.int .i64)) l.2])], gt⟩) (fun _ h => ?_) (fun hk_linealtop_TopWeave_k1 => ?_)
            ·as_aux_lemma =>
              unfold linealtop_TopWeave_k1 at h
              refine zo ?_
              refine zS 3 [(1, .sl (.int .i64) w), (2, .sl (.int .i64) v0), (4, .bp 4 0), (9, .sl (.int .i64) v0_10.1), (11, .sl (.int .i64) v0_11.1), (202, .agg [.int .i64 l.1, .sl (.pair (.int .i64) (.int .i64)) l.2]), (203, .sl (.int .i64) w), (204, .sl (.int .i64) v0)] [(4, .box 24 [.int .i64 l.1, .sl (.pair (.int .i64) (.int .i64)) l.2])] ?_
              obtain ⟨v0_23, hv36, h⟩ := Option.bind_eq_some_iff.1 h
              refine zC [] [] (hc_weave_Common l w v0 hv36) [(1, .sl (.int .i64) w), (2, .sl (.int .i64) v0), (4, .bp 4 0), (9, .sl (.int .i64) v0_10.1), (11, .sl (.int .i64) v0_11.1), (205, .tup [.sl (.int .i64) v0_23.1, .int .i64 v0_23.2])] [(4, .box 24 [.int .i64 l.1, .sl (.pair (.int .i64) (.int .i64)) l.2])] ?_
              refine zB [(1, .sl (.int .i64) w), (2, .sl (.int .i64) v0), (4, .bp 4 0), (9, .sl (.int .i64) v0_10.1), (10, .int .i64 v0_23.2), (11, .sl (.int .i64) v0_11.1), (30, .sl (.int .i64) v0_23.1)] [(4, .box 24 [.int .i64 l.1, .sl (.pair (.int .i64) (.int .i64)) l.2])] ?_
              refine zo ?_
              refine zS 3 [(1, .sl (.int .i64) w), (2, .sl (.int .i64) v0), (4, .bp 4 0), (9, .sl (.int .i64) v0_10.1), (10, .int .i64 v0_23.2), (11, .sl (.int .i64) v0_11.1), (30, .sl (.int .i64) v0_23.1), (209, .agg [.int .i64 l.1, .sl (.pair (.int .i64) (.int .i64)) l.2]), (210, .sl (.int .i64) v0_23.1), (211, .sl (.int .i64) w)] [(4, .box 24 [.int .i64 l.1, .sl (.pair (.int .i64) (.int .i64)) l.2])] ?_
              obtain ⟨v0_24, hv37, h⟩ := Option.bind_eq_some_iff.1 h
              refine zC [] [] (hc_weave_Rest l v0_23.1 w hv37) [(1, .sl (.int .i64) w), (2, .sl (.int .i64) v0), (4, .bp 4 0), (9, .sl (.int .i64) v0_10.1), (10, .int .i64 v0_23.2), (11, .sl (.int .i64) v0_11.1), (30, .sl (.int .i64) v0_23.1), (212, .tup [.sl (.int .i64) v0_24.1, .int .i64 v0_24.2])] [(4, .box 24 [.int .i64 l.1, .sl (.pair (.int .i64) (.int .i64)) l.2])] ?_
              refine zB [(1, .sl (.int .i64) w), (2, .sl (.int .i64) v0), (4, .bp 4 0), (9, .sl (.int .i64) v0_10.1), (10, .int .i64 v0_23.2), (11, .sl (.int .i64) v0_11.1), (12, .int .i64 v0_24.2), (30, .sl (.int .i64) v0_23.1), (31, .sl (.int .i64) v0_24.1)] [(4, .box 24 [.int .i64 l.1, .sl (.pair (.int .i64) (.int .i64)) l.2])] ?_
              refine zo ?_
              refine zS 3 [(1, .sl (.int .i64) w), (2, .sl (.int .i64) v0), (4, .bp 4 0), (9, .sl (.int .i64) v0_10.1), (10, .int .i64 v0_23.2), (11, .sl (.int .i64) v0_11.1), (12, .int .i64 v0_24.2), (30, .sl (.int .i64) v0_23.1), (31, .sl (.int .i64) v0_24.1), (216, .agg [.int .i64 l.1, .sl (.pair (.int .i64) (.int .i64)) l.2]), (217, .sl (.int .i64) v0_23.1), (218, .sl (.int .i64) v0)] [(4, .box 24 [.int .i64 l.1, .sl (.pair (.int .i64) (.int .i64)) l.2])] ?_
              obtain ⟨v0_25, hv38, h⟩ := Option.bind_eq_some_iff.1 h
              refine zC [] [] (hc_weave_Rest l v0_23.1 v0 hv38) [(1, .sl (.int .i64) w), (2, .sl (.int .i64) v0), (4, .bp 4 0), (9, .sl (.int .i64) v0_10.1), (10, .int .i64 v0_23.2), (11, .sl (.int .i64) v0_11.1), (12, .int .i64 v0_24.2), (30, .sl (.int .i64) v0_23.1), (31, .sl (.int .i64) v0_24.1), (219, .tup [.sl (.int .i64) v0_25.1, .int .i64 v0_25.2])] [(4, .box 24 [.int .i64 l.1, .sl (.pair (.int .i64) (.int .i64)) l.2])] ?_
              refine zB [(1, .sl (.int .i64) w), (2, .sl (.int .i64) v0), (4, .bp 4 0), (9, .sl (.int .i64) v0_10.1), (10, .int .i64 v0_23.2), (11, .sl (.int .i64) v0_11.1), (12, .int .i64 v0_24.2), (14, .int .i64 v0_25.2), (30, .sl (.int .i64) v0_23.1), (31, .sl (.int .i64) v0_24.1), (32, .sl (.int .i64) v0_25.1)] [(4, .box 24 [.int .i64 l.1, .sl (.pair (.int .i64) (.int .i64)) l.2])] ?_
              refine AW.seq ?_
              refine zo ?_
              refine zS 3 [(1, .sl (.int .i64) w), (2, .sl (.int .i64) v0), (4, .bp 4 0), (9, .sl (.int .i64) v0_10.1), (11, .sl (.int .i64) v0_11.1), (12, .int .i64 v0_24.2), (14, .int .i64 v0_25.2), (30, .sl (.int .i64) v0_23.1), (31, .sl (.int .i64) v0_24.1), (32, .sl (.int .i64) v0_25.1), (224, .bool (!(decide (v0_23.2 = 0))))] [(4, .box 24 [.int .i64 l.1, .sl (.pair (.int .i64) (.int .i64)) l.2])] ?_
              rcases zI h with ⟨hb39, h⟩ | ⟨hb39, h⟩
              ·refine zS 5 [(1, .sl (.int .i64) w), (2, .sl (.int .i64) v0), (4, .bp 4 0), (9, .sl (.int .i64) v0_10.1), (11, .sl (.int .i64) v0_11.1), (30, .sl (.int .i64) v0_23.1), (31, .sl (.int .i64) v0_24.1), (32, .sl (.int .i64) v0_25.1), (228, .bool true), (229, .cv (undef))] [(4, .box 24 [.int .i64 l.1, .sl (.pair (.int .i64) (.int .i64)) l.2])] ?_
               refine zB [(1, .sl (.int .i64) w), (2, .sl (.int .i64) v0), (4, .bp 4 0), (9, .sl (.int .i64) v0_10.1), (11, .sl (.int .i64) v0_11.1), (30, .sl (.int .i64) v0_23.1), (31, .sl (.int .i64) v0_24.1), (32, .sl (.int .i64) v0_25.1), (231, .bool true)] [(4, .box 24 [.int .i64 l.1, .sl (.pair (.int .i64) (.int .i64)) l.2])] ?_
               refine AW.cond (b := true) rfl (fun _ => ?_) (fun hb40 => by cases hb40)
               refine zo ?_
               refine zB [(8, .bool false)] [] ?_
               refine zr ?_
               obtain rfl := Option.some.inj h
               exact zR [] [] []
              ·refine zS 4 [(1, .sl (.int .i64) w), (2, .sl (.int .i64) v0), (4, .bp 4 0), (9, .sl (.int .i64) v0_10.1), (11, .sl (.int .i64) v0_11.1), (14, .int .i64 v0_25.2), (30, .sl (.int .i64) v0_23.1), (31, .sl (.int .i64) v0_24.1), (32, .sl (.int .i64) v0_25.1), (228, .bool (!(decide (v0_24.2 = 0))))] [(4, .box 24 [.int .i64 l.1, .sl (.pair (.int .i64) (.int .i64)) l.2])] ?_
               rcases zI h with ⟨hb41, h⟩ | ⟨hb41, h⟩
               ·refine zB [(1, .sl (.int .i64) w), (2, .sl (.int .i64) v0), (4, .bp 4 0), (9, .sl (.int .i64) v0_10.1), (11, .sl (.int .i64) v0_11.1), (30, .sl (.int .i64) v0_23.1), (31, .sl (.int .i64) v0_24.1), (32, .sl (.int .i64) v0_25.1), (231, .bool true)] [(4, .box 24 [.int .i64 l.1, .sl (.pair (.int .i64) (.int .i64)) l.2])] ?_
                refine AW.cond (b := true) rfl (fun _ => ?_) (fun hb42 => by cases hb42)
                refine zo ?_
                refine zB [(8, .bool false)] [] ?_
                refine zr ?_
                obtain rfl := Option.some.inj h
                exact zR [] [] []
               ·refine zB [(1, .sl (.int .i64) w), (2, .sl (.int .i64) v0), (4, .bp 4 0), (9, .sl (.int .i64) v0_10.1), (11, .sl (.int .i64) v0_11.1), (30, .sl (.int .i64) v0_23.1), (31, .sl (.int .i64) v0_24.1), (32, .sl (.int .i64) v0_25.1), (231, .bool (!(decide (v0_25.2 = 0))))] [(4, .box 24 [.int .i64 l.1, .sl (.pair (.int .i64) (.int .i64)) l.2])] ?_
                refine zQ h (fun hb43 h => ?_) (fun hb43 h => ?_)
                ·refine zo ?_
                 refine zB [(8, .bool false)] [] ?_
                 refine zr ?_
                 obtain rfl := Option.some.inj h
                 exact zR [] [] []
                ·refine zk ?_
                 refine zo ?_
                 refine zS 3 [(1, .sl (.int .i64) w), (2, .sl (.int .i64) v0), (4, .bp 4 0), (9, .sl (.int .i64) v0_10.1), (11, .sl (.int .i64) v0_11.1), (30, .sl (.int .i64) v0_23.1), (31, .sl (.int .i64) v0_24.1), (32, .sl (.int .i64) v0_25.1), (233, .agg [.int .i64 l.1, .sl (.pair (.int .i64) (.int .i64)) l.2]), (234, .sl (.int .i64) v0_23.1), (235, .sl (.int .i64) v0_24.1)] [(4, .box 24 [.int .i64 l.1, .sl (.pair (.int .i64) (.int .i64)) l.2])] ?_
                 obtain ⟨v0_26, hv44, h⟩ := Option.bind_eq_some_iff.1 h
                 refine zC [] [] (hc_weave_Joined l v0_23.1 v0_24.1 hv44) [(1, .sl (.int .i64) w), (2, .sl (.int .i64) v0), (4, .bp 4 0), (9, .sl (.int .i64) v0_10.1), (11, .sl (.int .i64) v0_11.1), (30, .sl (.int .i64) v0_23.1), (31, .sl (.int .i64) v0_24.1), (32, .sl (.int .i64) v0_25.1), (236, .tup [.sl (.int .i64) v0_26.1, .int .i64 v0_26.2])] [(4, .box 24 [.int .i64 l.1, .sl (.pair (.int .i64) (.int .i64)) l.2])] ?_
                 refine zB [(1, .sl (.int .i64) w), (2, .sl (.int .i64) v0), (4, .bp 4 0), (9, .sl (.int .i64) v0_10.1), (10, .int .i64 v0_26.2), (11, .sl (.int .i64) v0_11.1), (30, .sl (.int .i64) v0_23.1), (31, .sl (.int .i64) v0_24.1), (32, .sl (.int .i64) v0_25.1), (33, .sl (.int .i64) v0_26.1)] [(4, .box 24 [.int .i64 l.1, .sl (.pair (.int .i64) (.int .i64)) l.2])] ?_
                 refine zo ?_
                 refine zS 3 [(1, .sl (.int .i64) w), (2, .sl (.int .i64) v0), (4, .bp 4 0), (9, .sl (.int .i64) v0_10.1), (10, .int .i64 v0_26.2), (11, .sl (.int .i64) v0_11.1), (31, .sl (.int .i64) v0_24.1), (32, .sl (.int .i64) v0_25.1), (33, .sl (.int .i64) v0_26.1), (240, .agg [.int .i64 l.1, .sl (.pair (.int .i64) (.int .i64)) l.2]), (241, .sl (.int .i64) v0_23.1), (242, .sl (.int .i64) v0_25.1)] [(4, .box 24 [.int .i64 l.1, .sl (.pair (.int .i64) (.int .i64)) l.2])] ?_
                 obtain ⟨v0_27, hv45, h⟩ := Option.bind_eq_some_iff.1 h
                 refine zC [] [] (hc_weave_Joined l v0_23.1 v0_25.1 hv45) [(1, .sl (.int .i64) w), (2, .sl (.int .i64) v0), (4, .bp 4 0), (9, .sl (.int .i64) v0_10.1), (10, .int .i64 v0_26.2), (11, .sl (.int .i64) v0_11.1), (31, .sl (.int .i64) v0_24.1), (32, .sl (.int .i64) v0_25.1), (33, .sl (.int .i64) v0_26.1), (243, .tup [.sl (.int .i64) v0_27.1, .int .i64 v0_27.2])] [(4, .box 24 [.int .i64 l.1, .sl (.pair (.int .i64) (.int .i64)) l.2])] ?_
                 refine zB [(1, .sl (.int .i64) w), (2, .sl (.int .i64) v0), (4, .bp 4 0), (9, .sl (.int .i64) v0_10.1), (10, .int .i64 v0_26.2), (11, .sl (.int .i64) v0_11.1), (12, .int .i64 v0_27.2), (31, .sl (.int .i64) v0_24.1), (32, .sl (.int .i64) v0_25.1), (33, .sl (.int .i64) v0_26.1), (34, .sl (.int .i64) v0_27.1)] [(4, .box 24 [.int .i64 l.1, .sl (.pair (.int .i64) (.int .i64)) l.2])] ?_
                 refine zo ?_
                 refine zS 3 [(1, .sl (.int .i64) w), (2, .sl (.int .i64) v0), (4, .bp 4 0), (9, .sl (.int .i64) v0_10.1), (10, .int .i64 v0_26.2), (11, .sl (.int .i64) v0_11.1), (12, .int .i64 v0_27.2), (32, .sl (.int .i64) v0_25.1), (33, .sl (.int .i64) v0_26.1), (34, .sl (.int .i64) v0_27.1), (247, .agg [.int .i64 l.1, .sl (.pair (.int .i64) (.int .i64)) l.2]), (248, .sl (.int .i64) v0_24.1), (249, .sl (.int .i64) v0_25.1)] [(4, .box 24 [.int .i64 l.1, .sl (.pair (.int .i64) (.int .i64)) l.2])] ?_
                 obtain ⟨v0_28, hv46, h⟩ := Option.bind_eq_some_iff.1 h
                 refine zC [] [] (hc_weave_Common l v0_24.1 v0_25.1 hv46) [(1, .sl (.int .i64) w), (2, .sl (.int .i64) v0), (4, .bp 4 0), (9, .sl (.int .i64) v0_10.1), (10, .int .i64 v0_26.2), (11, .sl (.int .i64) v0_11.1), (12, .int .i64 v0_27.2), (32, .sl (.int .i64) v0_25.1), (33, .sl (.int .i64) v0_26.1), (34, .sl (.int .i64) v0_27.1), (250, .tup [.sl (.int .i64) v0_28.1, .int .i64 v0_28.2])] [(4, .box 24 [.int .i64 l.1, .sl (.pair (.int .i64) (.int .i64)) l.2])] ?_
                 refine zB [(1, .sl (.int .i64) w), (2, .sl (.int .i64) v0), (4, .bp 4 0), (9, .sl (.int .i64) v0_10.1), (10, .int .i64 v0_26.2), (11, .sl (.int .i64) v0_11.1), (12, .int .i64 v0_27.2), (14, .int .i64 v0_28.2), (32, .sl (.int .i64) v0_25.1), (33, .sl (.int .i64) v0_26.1), (34, .sl (.int .i64) v0_27.1), (35, .sl (.int .i64) v0_28.1)] [(4, .box 24 [.int .i64 l.1, .sl (.pair (.int .i64) (.int .i64)) l.2])] ?_
                 refine AW.seq ?_
                 refine zo ?_
                 refine zS 3 [(1, .sl (.int .i64) w), (2, .sl (.int .i64) v0), (4, .bp 4 0), (9, .sl (.int .i64) v0_10.1), (11, .sl (.int .i64) v0_11.1), (12, .int .i64 v0_27.2), (14, .int .i64 v0_28.2), (32, .sl (.int .i64) v0_25.1), (33, .sl (.int .i64) v0_26.1), (34, .sl (.int .i64) v0_27.1), (35, .sl (.int .i64) v0_28.1), (255, .bool (!(decide (v0_26.2 = 0))))] [(4, .box 24 [.int .i64 l.1, .sl (.pair (.int .i64) (.int .i64)) l.2])] ?_
                 rcases zI h with ⟨hb47, h⟩ | ⟨hb47, h⟩
                 ·refine zS 5 [(1, .sl (.int .i64) w), (2, .sl (.int .i64) v0), (4, .bp 4 0), (9, .sl (.int .i64) v0_10.1), (11, .sl (.int .i64) v0_11.1), (32, .sl (.int .i64) v0_25.1), (33, .sl (.int .i64) v0_26.1), (34, .sl (.int .i64) v0_27.1), (35, .sl (.int .i64) v0_28.1), (259, .bool true), (260, .cv (undef))] [(4, .box 24 [.int .i64 l.1, .sl (.pair (.int .i64) (.int .i64)) l.2])] ?_
                  refine zS 5 [(1, .sl (.int .i64) w), (2, .sl (.int .i64) v0), (4, .bp 4 0), (11, .sl (.int .i64) v0_11.1), (32, .sl (.int .i64) v0_25.1), (33, .sl (.int .i64) v0_26.1), (34, .sl (.int .i64) v0_27.1), (35, .sl (.int .i64) v0_28.1), (263, .bool true), (264, .cv (undef)), (265, .cv (undef))] [(4, .box 24 [.int .i64 l.1, .sl (.pair (.int .i64) (.int .i64)) l.2])] ?_
                  refine zS 5 [(1, .sl (.int .i64) w), (2, .sl (.int .i64) v0), (4, .bp 4 0), (11, .sl (.int .i64) v0_11.1), (32, .sl (.int .i64) v0_25.1), (33, .sl (.int .i64) v0_26.1), (35, .sl (.int .i64) v0_28.1), (269, .bool true), (270, .cv (undef))] [(4, .box 24 [.int .i64 l.1, .sl (.pair (.int .i64) (.int .i64)) l.2])] ?_
                  refine zS 5 [(1, .sl (.int .i64) w), (2, .sl (.int .i64) v0), (4, .bp 4 0), (32, .sl (.int .i64) v0_25.1), (33, .sl (.int .i64) v0_26.1), (35, .sl (.int .i64) v0_28.1), (275, .bool true)] [(4, .box 24 [.int .i64 l.1, .sl (.pair (.int .i64) (.int .i64)) l.2])] ?_
                  refine zB [(1, .sl (.int .i64) w), (2, .sl (.int .i64) v0), (4, .bp 4 0), (32, .sl (.int .i64) v0_25.1), (33, .sl (.int .i64) v0_26.1), (279, .bool true)] [(4, .box 24 [.int .i64 l.1, .sl (.pair (.int .i64) (.int .i64)) l.2])] ?_
                  refine AW.cond (b := true) rfl (fun _ => ?_) (fun hb48 => by cases hb48)
                  refine zo ?_
                  refine zB [(8, .bool false)] [] ?_
                  refine zr ?_
                  obtain rfl := Option.some.inj h
                  exact zR [] [] []
                 ·refine zS 4 [(1, .sl (.int .i64) w), (2, .sl (.int .i64) v0), (4, .bp 4 0), (9, .sl (.int .i64) v0_10.1), (11, .sl (.int .i64) v0_11.1), (14, .int .i64 v0_28.2), (32, .sl (.int .i64) v0_25.1), (33, .sl (.int .i64) v0_26.1), (34, .sl (.int .i64) v0_27.1), (35, .sl (.int .i64) v0_28.1), (259, .bool (!(decide (v0_27.2 = 0))))] [(4, .box 24 [.int .i64 l.1, .sl (.pair (.int .i64) (.int .i64)) l.2])] ?_
                  rcases zI h with ⟨hb49, h⟩ | ⟨hb49, h⟩
                  ·refine zS 5 [(1, .sl (.int .i64) w), (2, .sl (.int .i64) v0), (4, .bp 4 0), (9, .sl (.int .i64) v0_10.1), (11, .sl (.int .i64) v0_11.1), (32, .sl (.int .i64) v0_25.1), (33, .sl (.int .i64) v0_26.1), (34, .sl (.int .i64) v0_27.1), (35, .sl (.int .i64) v0_28.1), (263, .bool true), (264, .cv (undef))] [(4, .box 24 [.int .i64 l.1, .sl (.pair (.int .i64) (.int .i64)) l.2])] ?_
                   refine zS 5 [(1, .sl (.int .i64) w), (2, .sl (.int .i64) v0), (4, .bp 4 0), (11, .sl (.int .i64) v0_11.1), (32, .sl (.int .i64) v0_25.1), (33, .sl (.int .i64) v0_26.1), (34, .sl (.int .i64) v0_27.1), (35, .sl (.int .i64) v0_28.1), (269, .bool true)] [(4, .box 24 [.int .i64 l.1, .sl (.pair (.int .i64) (.int .i64)) l.2])] ?_
                   refine zS 4 [(1, .sl (.int .i64) w), (2, .sl (.int .i64) v0), (4, .bp 4 0), (32, .sl (.int .i64) v0_25.1), (33, .sl (.int .i64) v0_26.1), (35, .sl (.int .i64) v0_28.1), (269, .bool true), (273, .cv (undef))] [(4, .box 24 [.int .i64 l.1, .sl (.pair (.int .i64) (.int .i64)) l.2])] ?_
                   refine zS 5 [(1, .sl (.int .i64) w), (2, .sl (.int .i64) v0), (4, .bp 4 0), (32, .sl (.int .i64) v0_25.1), (33, .sl (.int .i64) v0_26.1), (275, .bool true), (278, .cv (undef))] [(4, .box 24 [.int .i64 l.1, .sl (.pair (.int .i64) (.int .i64)) l.2])] ?_
                   refine zB [(1, .sl (.int .i64) w), (2, .sl (.int .i64) v0), (4, .bp 4 0), (32, .sl (.int .i64) v0_25.1), (33, .sl (.int .i64) v0_26.1), (279, .bool true)] [(4, .box 24 [.int .i64 l.1, .sl (.pair (.int .i64) (.int .i64)) l.2])] ?_
                   refine AW.cond (b := true) rfl (fun _ => ?_) (fun hb50 => by cases hb50)
                   refine zo ?_
                   refine zB [(8, .bool false)] [] ?_
                   refine zr ?_
                   obtain rfl := Option.some.inj h
                   exact zR [] [] []
                  ·refine zS 4 [(1, .sl (.int .i64) w), (2, .sl (.int .i64) v0), (4, .bp 4 0), (9, .sl (.int .i64) v0_10.1), (11, .sl (.int .i64) v0_11.1), (32, .sl (.int .i64) v0_25.1), (33, .sl (.int .i64) v0_26.1), (34, .sl (.int .i64) v0_27.1), (35, .sl (.int .i64) v0_28.1), (263, .bool (!(decide (v0_28.2 = 0))))] [(4, .box 24 [.int .i64 l.1, .sl (.pair (.int .i64) (.int .i64)) l.2])] ?_
                   rcases zI h with ⟨hb51, h⟩ | ⟨hb51, h⟩
                   ·refine zS 4 [(1, .sl (.int .i64) w), (2, .sl (.int .i64) v0), (4, .bp 4 0), (11, .sl (.int .i64) v0_11.1), (32, .sl (.int .i64) v0_25.1), (33, .sl (.int .i64) v0_26.1), (34, .sl (.int .i64) v0_27.1), (35, .sl (.int .i64) v0_28.1), (263, .bool true), (267, .cv (undef))] [(4, .box 24 [.int .i64 l.1, .sl (.pair (.int .i64) (.int .i64)) l.2])] ?_
                    refine zS 5 [(1, .sl (.int .i64) w), (2, .sl (.int .i64) v0), (4, .bp 4 0), (32, .sl (.int .i64) v0_25.1), (33, .sl (.int .i64) v0_26.1), (35, .sl (.int .i64) v0_28.1), (269, .bool true), (272, .cv (undef))] [(4, .box 24 [.int .i64 l.1, .sl (.pair (.int .i64) (.int .i64)) l.2])] ?_
                    refine zS 5 [(1, .sl (.int .i64) w), (2, .sl (.int .i64) v0), (4, .bp 4 0), (32, .sl (.int .i64) v0_25.1), (33, .sl (.int .i64) v0_26.1), (275, .bool true), (277, .cv (undef))] [(4, .box 24 [.int .i64 l.1, .sl (.pair (.int .i64) (.int .i64)) l.2])] ?_
                    refine zB [(1, .sl (.int .i64) w), (2, .sl (.int .i64) v0), (4, .bp 4 0), (32, .sl (.int .i64) v0_25.1), (33, .sl (.int .i64) v0_26.1), (279, .bool true)] [(4, .box 24 [.int .i64 l.1, .sl (.pair (.int .i64) (.int .i64)) l.2])] ?_
                    refine AW.cond (b := true) rfl (fun _ => ?_) (fun hb52 => by cases hb52)
                    refine zo ?_
                    refine zB [(8, .bool false)] [] ?_
                    refine zr ?_
                    obtain rfl := Option.some.inj h
                    exact zR [] [] []
                   ·refine zS 2 [(1, .sl (.int .i64) w), (2, .sl (.int .i64) v0), (4, .bp 4 0), (11, .sl (.int .i64) v0_11.1), (32, .sl (.int .i64) v0_25.1), (33, .sl (.int .i64) v0_26.1), (34, .sl (.int .i64) v0_27.1), (35, .sl (.int .i64) v0_28.1), (263, .bool false), (264, .sl (.int .i64) v0_26.1), (265, .sl (.int .i64) v0_10.1)] [(4, .box 24 [.int .i64 l.1, .sl (.pair (.int .i64) (.int .i64)) l.2])] ?_
                    obtain ⟨v0_29, hv53, h⟩ := Option.bind_eq_some_iff.1 h
                    refine zG [] [] (hc_linealref03_SameInts v0_26.1 v0_10.1 hv53) [(1, .sl (.int .i64) w), (2, .sl (.int .i64) v0), (4, .bp 4 0), (11, .sl (.int .i64) v0_11.1), (32, .sl (.int .i64) v0_25.1), (33, .sl (.int .i64) v0_26.1), (34, .sl (.int .i64) v0_27.1), (35, .sl (.int .i64) v0_28.1), (263, .bool false), (266, .bool v0_29)] [(4, .box 24 [.int .i64 l.1, .sl (.pair (.int .i64) (.int .i64)) l.2])] ?_
                    refine zS 3 [(1, .sl (.int .i64) w), (2, .sl (.int .i64) v0), (4, .bp 4 0), (11, .sl (.int .i64) v0_11.1), (32, .sl (.int .i64) v0_25.1), (33, .sl (.int .i64) v0_26.1), (34, .sl (.int .i64) v0_27.1), (35, .sl (.int .i64) v0_28.1), (269, .bool (!v0_29))] [(4, .box 24 [.int .i64 l.1, .sl (.pair (.int .i64) (.int .i64)) l.2])] ?_
                    rcases zI h with ⟨hb54, h⟩ | ⟨hb54, h⟩
                    ·refine zS 4 [(1, .sl (.int .i64) w), (2, .sl (.int .i64) v0), (4, .bp 4 0), (32, .sl (.int .i64) v0_25.1), (33, .sl (.int .i64) v0_26.1), (35, .sl (.int .i64) v0_28.1), (269, .bool true), (273, .cv (undef))] [(4, .box 24 [.int .i64 l.1, .sl (.pair (.int .i64) (.int .i64)) l.2])] ?_
                     refine zS 5 [(1, .sl (.int .i64) w), (2, .sl (.int .i64) v0), (4, .bp 4 0), (32, .sl (.int .i64) v0_25.1), (33, .sl (.int .i64) v0_26.1), (275, .bool true), (278, .cv (undef))] [(4, .box 24 [.int .i64 l.1, .sl (.pair (.int .i64) (.int .i64)) l.2])] ?_
                     refine zB [(1, .sl (.int .i64) w), (2, .sl (.int .i64) v0), (4, .bp 4 0), (32, .sl (.int .i64) v0_25.1), (33, .sl (.int .i64) v0_26.1), (279, .bool true)] [(4, .box 24 [.int .i64 l.1, .sl (.pair (.int .i64) (.int .i64)) l.2])] ?_
                     refine AW.cond (b := true) rfl (fun _ => ?_) (fun hb55 => by cases hb55)
                     refine zo ?_
                     refine zB [(8, .bool false)] [] ?_
                     refine zr ?_
                     obtain rfl := Option.some.inj h
                     exact zR [] [] []
                    ·refine zS 2 [(1, .sl (.int .i64) w), (2, .sl (.int .i64) v0), (4, .bp 4 0), (32, .sl (.int .i64) v0_25.1), (33, .sl (.int .i64) v0_26.1), (35, .sl (.int .i64) v0_28.1), (269, .bool false), (270, .sl (.int .i64) v0_27.1), (271, .sl (.int .i64) v0_11.1)] [(4, .box 24 [.int .i64 l.1, .sl (.pair (.int .i64) (.int .i64)) l.2])] ?_
                     obtain ⟨v0_30, hv56, h⟩ := Option.bind_eq_some_iff.1 h
                     refine zG [] [] (hc_linealref03_SameInts v0_27.1 v0_11.1 hv56) [(1, .sl (.int .i64) w), (2, .sl (.int .i64) v0), (4, .bp 4 0), (32, .sl (.int .i64) v0_25.1), (33, .sl (.int .i64) v0_26.1), (35, .sl (.int .i64) v0_28.1), (269, .bool false), (272, .bool v0_30)] [(4, .box 24 [.int .i64 l.1, .sl (.pair (.int .i64) (.int .i64)) l.2])] ?_
                     refine zS 3 [(1, .sl (.int .i64) w), (2, .sl (.int .i64) v0), (4, .bp 4 0), (32, .sl (.int .i64) v0_25.1), (33, .sl (.int .i64) v0_26.1), (35, .sl (.int .i64) v0_28.1), (275, .bool (!v0_30))] [(4, .box 24 [.int .i64 l.1, .sl (.pair (.int .i64) (.int .i64)) l.2])] ?_
                     rcases zI h with ⟨hb57, h⟩ | ⟨hb57, h⟩
                     ·refine zB [(1, .sl (.int .i64) w), (2, .sl (.int .i64) v0), (4, .bp 4 0), (32, .sl (.int .i64) v0_25.1), (33, .sl (.int .i64) v0_26.1), (279, .bool true)] [(4, .box 24 [.int .i64 l.1, .sl (.pair (.int .i64) (.int .i64)) l.2])] ?_
                      refine AW.cond (b := true) rfl (fun _ => ?_) (fun hb58 => by cases hb58)
                      refine zo ?_
                      refine zB [(8, .bool false)] [] ?_
                      refine zr ?_
                      obtain rfl := Option.some.inj h
                      exact zR [] [] []
                     ·refine zB [(1, .sl (.int .i64) w), (2, .sl (.int .i64) v0), (4, .bp 4 0), (32, .sl (.int .i64) v0_25.1), (33, .sl (.int .i64) v0_26.1), (279, .bool (!(decide ((v0_28.1.length : Int) = 0))))] [(4, .box 24 [.int .i64 l.1, .sl (.pair (.int .i64) (.int .i64)) l.2])] ?_
                      refine zQ h (fun hb59 h => ?_) (fun hb59 h => ?_)
                      ·refine zo ?_
                       refine zB [(8, .bool false)] [] ?_
                       refine zr ?_
                       obtain rfl := Option.some.inj h
                       exact zR [] [] []
                      ·refine zk ?_
                       refine zo ?_
                       refine zS 3 [(4, .bp 4 0), (32, .sl (.int .i64) v0_25.1), (33, .sl (.int .i64) v0_26.1), (281, .agg [.int .i64 l.1, .sl (.pair (.int .i64) (.int .i64)) l.2]), (282, .sl (.int .i64) w), (283, .sl (.int .i64) v0)] [(4, .box 24 [.int .i64 l.1, .sl (.pair (.int .i64) (.int .i64)) l.2])] ?_
                       obtain ⟨v0_31, hv60, h⟩ := Option.bind_eq_some_iff.1 h
                       refine zC [] [] (hc_weave_Both l w v0 hv60) [(4, .bp 4 0), (32, .sl (.int .i64) v0_25.1), (33, .sl (.int .i64) v0_26.1), (284, .tup [.sl (.int .i64) v0_31.1, .int .i64 v0_31.2])] [(4, .box 24 [.int .i64 l.1, .sl (.pair (.int .i64) (.int .i64)) l.2])] ?_
                       refine zB [(4, .bp 4 0), (10, .int .i64 v0_31.2), (32, .sl (.int .i64) v0_25.1), (33, .sl (.int .i64) v0_26.1), (36, .sl (.int .i64) v0_31.1)] [(4, .box 24 [.int .i64 l.1, .sl (.pair (.int .i64) (.int .i64)) l.2])] ?_
                       refine AW.seq ?_
                       refine zo ?_
                       refine zB [(4, .bp 4 0), (10, .int .i64 v0_31.2), (32, .sl (.int .i64) v0_25.1), (33, .sl (.int .i64) v0_26.1), (36, .sl (.int .i64) v0_31.1), (288, .bool (!(decide (v0_31.2 = 0))))] [(4, .box 24 [.int .i64 l.1, .sl (.pair (.int .i64) (.int .i64)) l.2])] ?_
                       refine zQ h (fun hb61 h => ?_) (fun hb61 h => ?_)
                       ·refine zo ?_
                        refine zS 3 [(10, .int .i64 v0_31.2), (291, .bool (decide (v0_31.2 = 5)))] [] ?_
                        rcases zI h with ⟨hb62, h⟩ | ⟨hb62, h⟩
                        ·refine zS 4 [(295, .bool true)] [] ?_
                         obtain ⟨v0_32, hv63, h⟩ := Option.bind_eq_some_iff.1 h
                         refine zG [] [] (hc_lineallaw03_Awake hv63) [(295, .bool true), (296, .bool v0_32)] [] ?_
                         refine zB [(8, .bool v0_32)] [] ?_
                         refine zr ?_
                         obtain rfl := Option.some.inj h
                         exact zR [] [] []
                        ·refine zS 4 [(295, .bool (decide (v0_31.2 = 4)))] [] ?_
                         rcases zI h with ⟨hb64, h⟩ | ⟨hb64, h⟩
                         ·refine zT [(295, .bool true)] [] gt ?_
                          obtain ⟨v0_33, hv65, h⟩ := Option.bind_eq_some_iff.1 h
                          refine zG [] [] (hc_lineallaw03_Awake hv65) [(295, .bool true), (296, .bool v0_33)] [] ?_
                          refine zB [(8, .bool v0_33)] [] ?_
                          refine zr ?_
                          obtain rfl := Option.some.inj h
                          exact zR [] [] []
                         ·refine zB [(8, .bool false)] [] ?_
                          refine zr ?_
                          obtain rfl := Option.some.inj h
                          exact zR [] [] []
                       ·refine zk ?_
                        refine zo ?_
                        refine zS 3 [(36, .sl (.int .i64) v0_31.1), (299, .agg [.int .i64 l.1, .sl (.pair (.int .i64) (.int .i64)) l.2]), (300, .sl (.int .i64) v0_26.1), (301, .sl (.int .i64) v0_25.1)] [] ?_
                        obtain ⟨v0_34, hv66, h⟩ := Option.bind_eq_some_iff.1 h
                        refine zC [] [] (hc_weave_Joined l v0_26.1 v0_25.1 hv66) [(36, .sl (.int .i64) v0_31.1), (302, .tup [.sl (.int .i64) v0_34.1, .int .i64 v0_34.2])] [] ?_
                        refine zB [(10, .int .i64 v0_34.2), (36, .sl (.int .i64) v0_31.1), (37, .sl (.int .i64) v0_34.1)] [] ?_
                        refine zo ?_
                        refine zS 3 [(36, .sl (.int .i64) v0_31.1), (37, .sl (.int .i64) v0_34.1), (307, .bool (decide (v0_34.2 = 0)))] [] ?_
                        rcases zI h with ⟨hb67, h⟩ | ⟨hb67, h⟩
                        ·refine zS 2 [(307, .bool true), (308, .sl (.int .i64) v0_34.1), (309, .sl (.int .i64) v0_31.1)] [] ?_
                         obtain ⟨v0_35, hv68, h⟩ := Option.bind_eq_some_iff.1 h
                         refine zG [] [] (hc_linealref03_SameInts v0_34.1 v0_31.1 hv68) [(307, .bool true), (310, .bool v0_35)] [] ?_
                         refine zS 2 [(312, .bool v0_35)] [] ?_
                         rcases zI h with ⟨hb69, h⟩ | ⟨hb69, h⟩
                         ·refine zT [(312, .bool true)] [] gt ?_
                          obtain ⟨v0_36, hv70, h⟩ := Option.bind_eq_some_iff.1 h
                          refine zG [] [] (hc_lineallaw03_Awake hv70) [(312, .bool true), (313, .bool v0_36)] [] ?_
                          refine zB [(8, .bool v0_36)] [] ?_
                          refine AW.ret ?_
                          obtain rfl := Option.some.inj h
                          exact zR [] [] []
                         ·refine zB [(8, .bool false)] [] ?_
                          refine AW.ret ?_
                          obtain rfl := Option.some.inj h
                          exact zR [] [] []
                        ·refine zS 5 [(312, .bool false)] [] ?_
                         refine zB [(8, .bool false)] [] ?_
                         refine AW.ret ?_
                         obtain rfl := Option.some.inj h
                         exact zR [] [] []
            ·refine AW.seq ?_
             refine zo ?_
             refine zB [(1, .sl (.int .i64) w), (2, .sl (.int .i64) v0), (4, .bp 4 0), (9, .sl (.int .i64) v0_10.1), (11, .sl (.int .i64) v0_11.1), (127, .own 125000), (128, .int .i64 (v0_15.1.length : Int)), (129, .int .i64 0)] [(4, .box 24 [.int .i64 l.1, .sl (.pair (.int .i64) (.int .i64)) l.2]), (125000, .arr 25 (.sl (.int .i64)) v0_15.1)] ?_
             refine AW.block ?_
             obtain ⟨rv75, hw71, ho72⟩ := Option.bind_eq_some_iff.1 h
             refine AW.loopO (linealtop_TopWeave_b1 l w v0_10 v0_15) (fun st1 => ⟨fr [(1, .sl (.int .i64) w), (2, .sl (.int .i64) v0), (4, .bp 4 0), (9, .sl (.int .i64) v0_10.1), (11, .sl (.int .i64) v0_11.1), (127, .own 125000), (128, .int .i64 (v0_15.1.length : Int)), (129, .int .i64 st1)], hpGet [(4, .box 24 [.int .i64 l.1, .sl (.pair (.int .i64) (.int .i64)) l.2]), (125000, .arr 25 (.sl (.int .i64)) v0_15.1)], gt⟩) 0 hw71 (zL [] [] []) ?_
             as_aux_lemma =>
              intro st1 x74 h hd73
              unfold linealtop_TopWeave_b1 at h
              refine zo ?_
              refine zB [(1, .sl (.int .i64) w), (2, .sl (.int .i64) v0), (4, .bp 4 0), (9, .sl (.int .i64) v0_10.1), (11, .sl (.int .i64) v0_11.1), (127, .own 125000), (128, .int .i64 (v0_15.1.length : Int)), (129, .int .i64 st1), (130, .bool (decide (st1 < (v0_15.1.length : Int))))] [(4, .box 24 [.int .i64 l.1, .sl (.pair (.int .i64) (.int .i64)) l.2]), (125000, .arr 25 (.sl (.int .i64)) v0_15.1)] ?_
              refine AW.seq ?_
              refine zQ h (fun hb76 h => ?_) (fun hb76 h => ?_)
              ·refine zk ?_
               refine AW.seq ?_
               refine AW.block ?_
               refine zo ?_
               obtain ⟨c77, h⟩ := ck_some.1 h
               obtain ⟨c78, h⟩ := ck_some.1 h
               refine zB [(1, .sl (.int .i64) w), (2, .sl (.int .i64) v0), (4, .bp 4 0), (9, .sl (.int .i64) v0_10.1), (11, .sl (.int .i64) v0_11.1), (19, .sl (.int .i64) (v0_15.1.getD st1.toNat [])), (127, .own 125000), (128, .int .i64 (v0_15.1.length : Int)), (129, .int .i64 st1)] [(4, .box 24 [.int .i64 l.1, .sl (.pair (.int .i64) (.int .i64)) l.2]), (125000, .arr 25 (.sl (.int .i64)) v0_15.1)] ?_
               refine zo ?_
               refine zS 2 [(1, .sl (.int .i64) w), (2, .sl (.int .i64) v0), (4, .bp 4 0), (9, .sl (.int .i64) v0_10.1), (11, .sl (.int .i64) v0_11.1), (19, .sl (.int .i64) (v0_15.1.getD st1.toNat [])), (127, .own 125000), (128, .int .i64 (v0_15.1.length : Int)), (129, .int .i64 st1), (134, .agg [.int .i64 l.1, .sl (.pair (.int .i64) (.int .i64)) l.2]), (135, .sl (.int .i64) (v0_15.1.getD st1.toNat []))] [(4, .box 24 [.int .i64 l.1, .sl (.pair (.int .i64) (.int .i64)) l.2]), (125000, .arr 25 (.sl (.int .i64)) v0_15.1)] ?_
               obtain ⟨v0_16, hv79, h⟩ := Option.bind_eq_some_iff.1 h
               refine zC [] [] (hc_weave_First l (v0_15.1.getD st1.toNat []) hv79) [(1, .sl (.int .i64) w), (2, .sl (.int .i64) v0), (4, .bp 4 0), (9, .sl (.int .i64) v0_10.1), (11, .sl (.int .i64) v0_11.1), (19, .sl (.int .i64) (v0_15.1.getD st1.toNat [])), (127, .own 125000), (128, .int .i64 (v0_15.1.length : Int)), (129, .int .i64 st1), (136, .tup [.sl (.int .i64) v0_16.1, .int .i64 v0_16.2])] [(4, .box 24 [.int .i64 l.1, .sl (.pair (.int .i64) (.int .i64)) l.2]), (125000, .arr 25 (.sl (.int .i64)) v0_15.1)] ?_
               refine zB [(1, .sl (.int .i64) w), (2, .sl (.int .i64) v0), (4, .bp 4 0), (9, .sl (.int .i64) v0_10.1), (11, .sl (.int .i64) v0_11.1), (19, .sl (.int .i64) (v0_15.1.getD st1.toNat [])), (20, .sl (.int .i64) v0_16.1), (21, .int .i64 v0_16.2), (127, .own 125000), (128, .int .i64 (v0_15.1.length : Int)), (129, .int .i64 st1)] [(4, .box 24 [.int .i64 l.1, .sl (.pair (.int .i64) (.int .i64)) l.2]), (125000, .arr 25 (.sl (.int .i64)) v0_15.1)] ?_
               refine zo ?_
               refine zS 2 [(1, .sl (.int .i64) w), (2, .sl (.int .i64) v0), (4, .bp 4 0), (9, .sl (.int .i64) v0_10.1), (11, .sl (.int .i64) v0_11.1), (19, .sl (.int .i64) (v0_15.1.getD st1.toNat [])), (20, .sl (.int .i64) v0_16.1), (21, .int .i64 v0_16.2), (127, .own 125000), (128, .int .i64 (v0_15.1.length : Int)), (129, .int .i64 st1), (140, .agg [.int .i64 l.1, .sl (.pair (.int .i64) (.int .i64)) l.2]), (141, .sl (.int .i64) (v0_15.1.getD st1.toNat []))] [(4, .box 24 [.int .i64 l.1, .sl (.pair (.int .i64) (.int .i64)) l.2]), (125000, .arr 25 (.sl (.int .i64)) v0_15.1)] ?_
               obtain ⟨v0_17, hv80, h⟩ := Option.bind_eq_some_iff.1 h
               refine zC [] [] (hc_weave_Layers l (v0_15.1.getD st1.toNat []) hv80) [(1, .sl (.int .i64) w), (2, .sl (.int .i64) v0), (4, .bp 4 0), (9, .sl (.int .i64) v0_10.1), (11, .sl (.int .i64) v0_11.1), (19, .sl (.int .i64) (v0_15.1.getD st1.toNat [])), (20, .sl (.int .i64) v0_16.1), (21, .int .i64 v0_16.2), (127, .own 125000), (128, .int .i64 (v0_15.1.length : Int)), (129, .int .i64 st1), (142, .tup [.sl (.sl (.int .i64)) v0_17.1, .int .i64 v0_17.2])] [(4, .box 24 [.int .i64 l.1, .sl (.pair (.int .i64) (.int .i64)) l.2]), (125000, .arr 25 (.sl (.int .i64)) v0_15.1)] ?_
               refine zB [(1, .sl (.int .i64) w), (2, .sl (.int .i64) v0), (4, .bp 4 0), (9, .sl (.int .i64) v0_10.1), (11, .sl (.int .i64) v0_11.1), (19, .sl (.int .i64) (v0_15.1.getD st1.toNat [])), (20, .sl (.int .i64) v0_16.1), (21, .int .i64 v0_16.2), (22, .sl (.sl (.int .i64)) v0_17.1), (23, .int .i64 v0_17.2), (127, .own 125000), (128, .int .i64 (v0_15.1.length : Int)), (129, .int .i64 st1)] [(4, .box 24 [.int .i64 l.1, .sl (.pair (.int .i64) (.int .i64)) l.2]), (125000, .arr 25 (.sl (.int .i64)) v0_15.1)] ?_
               refine zo ?_
               refine zS 2 [(1, .sl (.int .i64) w), (2, .sl (.int .i64) v0), (4, .bp 4 0), (9, .sl (.int .i64) v0_10.1), (11, .sl (.int .i64) v0_11.1), (19, .sl (.int .i64) (v0_15.1.getD st1.toNat [])), (20, .sl (.int .i64) v0_16.1), (21, .int .i64 v0_16.2), (22, .sl (.sl (.int .i64)) v0_17.1), (23, .int .i64 v0_17.2), (127, .own 125000), (128, .int .i64 (v0_15.1.length : Int)), (129, .int .i64 st1), (146, .agg [.int .i64 l.1, .sl (.pair (.int .i64) (.int .i64)) l.2]), (147, .sl (.int .i64) w)] [(4, .box 24 [.int .i64 l.1, .sl (.pair (.int .i64) (.int .i64)) l.2]), (125000, .arr 25 (.sl (.int .i64)) v0_15.1)] ?_
               obtain ⟨v0_18, hv81, h⟩ := Option.bind_eq_some_iff.1 h
               refine zC [] [] (hc_weave_Layers l w hv81) [(1, .sl (.int .i64) w), (2, .sl (.int .i64) v0), (4, .bp 4 0), (9, .sl (.int .i64) v0_10.1), (11, .sl (.int .i64) v0_11.1), (19, .sl (.int .i64) (v0_15.1.getD st1.toNat [])), (20, .sl (.int .i64) v0_16.1), (21, .int .i64 v0_16.2), (22, .sl (.sl (.int .i64)) v0_17.1), (23, .int .i64 v0_17.2), (127, .own 125000), (128, .int .i64 (v0_15.1.length : Int)), (129, .int .i64 st1), (148, .tup [.sl (.sl (.int .i64)) v0_18.1, .int .i64 v0_18.2])] [(4, .box 24 [.int .i64 l.1, .sl (.pair (.int .i64) (.int .i64)) l.2]), (125000, .arr 25 (.sl (.int .i64)) v0_15.1)] ?_
               refine zB [(1, .sl (.int .i64) w), (2, .sl (.int .i64) v0), (4, .bp 4 0), (9, .sl (.int .i64) v0_10.1), (11, .sl (.int .i64) v0_11.1), (19, .sl (.int .i64) (v0_15.1.getD st1.toNat [])), (20, .sl (.int .i64) v0_16.1), (21, .int .i64 v0_16.2), (22, .sl (.sl (.int .i64)) v0_17.1), (23, .int .i64 v0_17.2), (24, .sl (.sl (.int .i64)) v0_18.1), (25, .int .i64 v0_18.2), (127, .own 125000), (128, .int .i64 (v0_15.1.length : Int)), (129, .int .i64 st1)] [(4, .box 24 [.int .i64 l.1, .sl (.pair (.int .i64) (.int .i64)) l.2]), (125000, .arr 25 (.sl (.int .i64)) v0_15.1)] ?_
               refine zo ?_
               refine zS 3 [(1, .sl (.int .i64) w), (2, .sl (.int .i64) v0), (4, .bp 4 0), (9, .sl (.int .i64) v0_10.1), (11, .sl (.int .i64) v0_11.1), (19, .sl (.int .i64) (v0_15.1.getD st1.toNat [])), (20, .sl (.int .i64) v0_16.1), (21, .int .i64 v0_16.2), (22, .sl (.sl (.int .i64)) v0_17.1), (23, .int .i64 v0_17.2), (24, .sl (.sl (.int .i64)) v0_18.1), (25, .int .i64 v0_18.2), (127, .own 125000), (128, .int .i64 (v0_15.1.length : Int)), (129, .int .i64 st1), (152, .agg [.int .i64 l.1, .sl (.pair (.int .i64) (.int .i64)) l.2]), (153, .sl (.int .i64) w), (154, .sl (.int .i64) (v0_15.1.getD st1.toNat []))] [(4, .box 24 [.int .i64 l.1, .sl (.pair (.int .i64) (.int .i64)) l.2]), (125000, .arr 25 (.sl (.int .i64)) v0_15.1)] ?_
               obtain ⟨v0_19, hv82, h⟩ := Option.bind_eq_some_iff.1 h
               refine zC [] [] (hc_weave_Path l w (v0_15.1.getD st1.toNat []) hv82) [(1, .sl (.int .i64) w), (2, .sl (.int .i64) v0), (4, .bp 4 0), (9, .sl (.int .i64) v0_10.1), (11, .sl (.int .i64) v0_11.1), (19, .sl (.int .i64) (v0_15.1.getD st1.toNat [])), (20, .sl (.int .i64) v0_16.1), (21, .int .i64 v0_16.2), (22, .sl (.sl (.int .i64)) v0_17.1), (23, .int .i64 v0_17.2), (24, .sl (.sl (.int .i64)) v0_18.1), (25, .int .i64 v0_18.2), (127, .own 125000), (128, .int .i64 (v0_15.1.length : Int)), (129, .int .i64 st1), (155, .tup [.own 165000, .int .i64 v0_19.2])] [(4, .box 24 [.int .i64 l.1, .sl (.pair (.int .i64) (.int .i64)) l.2]), (125000, .arr 25 (.sl (.int .i64)) v0_15.1), (165000, .arr 3 (.int .i64) v0_19.1)] ?_
               refine zB [(1, .sl (.int .i64) w), (2, .sl (.int .i64) v0), (4, .bp 4 0), (9, .sl (.int .i64) v0_10.1), (11, .sl (.int .i64) v0_11.1), (19, .sl (.int .i64) (v0_15.1.getD st1.toNat [])), (20, .sl (.int .i64) v0_16.1), (21, .int .i64 v0_16.2), (22, .sl (.sl (.int .i64)) v0_17.1), (23, .int .i64 v0_17.2), (24, .sl (.sl (.int .i64)) v0_18.1), (25, .int .i64 v0_18.2), (26, .own 165000), (27, .int .i64 v0_19.2), (127, .own 125000), (128, .int .i64 (v0_15.1.length : Int)), (129, .int .i64 st1)] [(4, .box 24 [.int .i64 l.1, .sl (.pair (.int .i64) (.int .i64)) l.2]), (125000, .arr 25 (.sl (.int .i64)) v0_15.1), (165000, .arr 3 (.int .i64) v0_19.1)] ?_
               refine zo ?_
               refine zS 4 [(1, .sl (.int .i64) w), (2, .sl (.int .i64) v0), (4, .bp 4 0), (9, .sl (.int .i64) v0_10.1), (11, .sl (.int .i64) v0_11.1), (20, .sl (.int .i64) v0_16.1), (21, .int .i64 v0_16.2), (22, .sl (.sl (.int .i64)) v0_17.1), (23, .int .i64 v0_17.2), (24, .sl (.sl (.int .i64)) v0_18.1), (25, .int .i64 v0_18.2), (27, .int .i64 v0_19.2), (127, .own 125000), (128, .int .i64 (v0_15.1.length : Int)), (129, .int .i64 st1), (159, .agg [.int .i64 l.1, .sl (.pair (.int .i64) (.int .i64)) l.2]), (160, .sl (.int .i64) w), (161, .sl (.int .i64) (v0_15.1.getD st1.toNat [])), (162, .own 165000)] [(4, .box 24 [.int .i64 l.1, .sl (.pair (.int .i64) (.int .i64)) l.2]), (125000, .arr 25 (.sl (.int .i64)) v0_15.1), (165000, .arr 3 (.int .i64) v0_19.1)] ?_
               obtain ⟨v0_20, hv83, h⟩ := Option.bind_eq_some_iff.1 h
               refine zC [165000] [] (hc_weave_IsPath l w (v0_15.1.getD st1.toNat []) v0_19.1 hv83) [(1, .sl (.int .i64) w), (2, .sl (.int .i64) v0), (4, .bp 4 0), (9, .sl (.int .i64) v0_10.1), (11, .sl (.int .i64) v0_11.1), (20, .sl (.int .i64) v0_16.1), (21, .int .i64 v0_16.2), (22, .sl (.sl (.int .i64)) v0_17.1), (23, .int .i64 v0_17.2), (24, .sl (.sl (.int .i64)) v0_18.1), (25, .int .i64 v0_18.2), (27, .int .i64 v0_19.2), (127, .own 125000), (128, .int .i64 (v0_15.1.length : Int)), (129, .int .i64 st1), (163, .tup [.bool v0_20.1, .int .i64 v0_20.2])] [(4, .box 24 [.int .i64 l.1, .sl (.pair (.int .i64) (.int .i64)) l.2]), (125000, .arr 25 (.sl (.int .i64)) v0_15.1)] ?_
               refine zB [(1, .sl (.int .i64) w), (2, .sl (.int .i64) v0), (4, .bp 4 0), (9, .sl (.int .i64) v0_10.1), (11, .sl (.int .i64) v0_11.1), (20, .sl (.int .i64) v0_16.1), (21, .int .i64 v0_16.2), (22, .sl (.sl (.int .i64)) v0_17.1), (23, .int .i64 v0_17.2), (24, .sl (.sl (.int .i64)) v0_18.1), (25, .int .i64 v0_18.2), (27, .int .i64 v0_19.2), (28, .bool v0_20.1), (29, .int .i64 v0_20.2), (127, .own 125000), (128, .int .i64 (v0_15.1.length : Int)), (129, .int .i64 st1)] [(4, .box 24 [.int .i64 l.1, .sl (.pair (.int .i64) (.int .i64)) l.2]), (125000, .arr 25 (.sl (.int .i64)) v0_15.1)] ?_
               refine zo ?_
               refine zS 3 [(1, .sl (.int .i64) w), (2, .sl (.int .i64) v0), (4, .bp 4 0), (9, .sl (.int .i64) v0_10.1), (11, .sl (.int .i64) v0_11.1), (20, .sl (.int .i64) v0_16.1), (22, .sl (.sl (.int .i64)) v0_17.1), (23, .int .i64 v0_17.2), (24, .sl (.sl (.int .i64)) v0_18.1), (25, .int .i64 v0_18.2), (27, .int .i64 v0_19.2), (28, .bool v0_20.1), (29, .int .i64 v0_20.2), (127, .own 125000), (128, .int .i64 (v0_15.1.length : Int)), (129, .int .i64 st1), (168, .bool (!(decide (v0_16.2 = 0))))] [(4, .box 24 [.int .i64 l.1, .sl (.pair (.int .i64) (.int .i64)) l.2]), (125000, .arr 25 (.sl (.int .i64)) v0_15.1)] ?_
               rcases zI h with ⟨hb84, h⟩ | ⟨hb84, h⟩
               ·refine zS 5 [(1, .sl (.int .i64) w), (2, .sl (.int .i64) v0), (4, .bp 4 0), (9, .sl (.int .i64) v0_10.1), (11, .sl (.int .i64) v0_11.1), (20, .sl (.int .i64) v0_16.1), (22, .sl (.sl (.int .i64)) v0_17.1), (24, .sl (.sl (.int .i64)) v0_18.1), (27, .int .i64 v0_19.2), (28, .bool v0_20.1), (29, .int .i64 v0_20.2), (127, .own 125000), (128, .int .i64 (v0_15.1.length : Int)), (129, .int .i64 st1), (172, .bool true), (173, .cv (undef))] [(4, .box 24 [.int .i64 l.1, .sl (.pair (.int .i64) (.int .i64)) l.2]), (125000, .arr 25 (.sl (.int .i64)) v0_15.1)] ?_
                refine zS 5 [(1, .sl (.int .i64) w), (2, .sl (.int .i64) v0), (4, .bp 4 0), (9, .sl (.int .i64) v0_10.1), (11, .sl (.int .i64) v0_11.1), (20, .sl (.int .i64) v0_16.1), (22, .sl (.sl (.int .i64)) v0_17.1), (24, .sl (.sl (.int .i64)) v0_18.1), (28, .bool v0_20.1), (29, .int .i64 v0_20.2), (127, .own 125000), (128, .int .i64 (v0_15.1.length : Int)), (129, .int .i64 st1), (176, .bool true), (178, .cv (undef))] [(4, .box 24 [.int .i64 l.1, .sl (.pair (.int .i64) (.int .i64)) l.2]), (125000, .arr 25 (.sl (.int .i64)) v0_15.1)] ?_
                refine zS 5 [(1, .sl (.int .i64) w), (2, .sl (.int .i64) v0), (4, .bp 4 0), (9, .sl (.int .i64) v0_10.1), (11, .sl (.int .i64) v0_11.1), (20, .sl (.int .i64) v0_16.1), (22, .sl (.sl (.int .i64)) v0_17.1), (24, .sl (.sl (.int .i64)) v0_18.1), (28, .bool v0_20.1), (127, .own 125000), (128, .int .i64 (v0_15.1.length : Int)), (129, .int .i64 st1), (183, .bool true)] [(4, .box 24 [.int .i64 l.1, .sl (.pair (.int .i64) (.int .i64)) l.2]), (125000, .arr 25 (.sl (.int .i64)) v0_15.1)] ?_
                refine zS 5 [(1, .sl (.int .i64) w), (2, .sl (.int .i64) v0), (4, .bp 4 0), (9, .sl (.int .i64) v0_10.1), (11, .sl (.int .i64) v0_11.1), (22, .sl (.sl (.int .i64)) v0_17.1), (24, .sl (.sl (.int .i64)) v0_18.1), (28, .bool v0_20.1), (127, .own 125000), (128, .int .i64 (v0_15.1.length : Int)), (129, .int .i64 st1), (184, .bool true), (188, .cv (undef))] [(4, .box 24 [.int .i64 l.1, .sl (.pair (.int .i64) (.int .i64)) l.2]), (125000, .arr 25 (.sl (.int .i64)) v0_15.1)] ?_
                refine zS 5 [(1, .sl (.int .i64) w), (2, .sl (.int .i64) v0), (4, .bp 4 0), (9, .sl (.int .i64) v0_10.1), (11, .sl (.int .i64) v0_11.1), (28, .bool v0_20.1), (127, .own 125000), (128, .int .i64 (v0_15.1.length : Int)), (129, .int .i64 st1), (190, .bool true), (193, .cv (undef))] [(4, .box 24 [.int .i64 l.1, .sl (.pair (.int .i64) (.int .i64)) l.2]), (125000, .arr 25 (.sl (.int .i64)) v0_15.1)] ?_
                refine zS 5 [(1, .sl (.int .i64) w), (2, .sl (.int .i64) v0), (4, .bp 4 0), (9, .sl (.int .i64) v0_10.1), (11, .sl (.int .i64) v0_11.1), (127, .own 125000), (128, .int .i64 (v0_15.1.length : Int)), (129, .int .i64 st1), (196, .bool true), (198, .cv (undef))] [(4, .box 24 [.int .i64 l.1, .sl (.pair (.int .i64) (.int .i64)) l.2]), (125000, .arr 25 (.sl (.int .i64)) v0_15.1)] ?_
                refine zB [(1, .sl (.int .i64) w), (2, .sl (.int .i64) v0), (4, .bp 4 0), (9, .sl (.int .i64) v0_10.1), (11, .sl (.int .i64) v0_11.1), (127, .own 125000), (128, .int .i64 (v0_15.1.length : Int)), (129, .int .i64 st1), (199, .bool true)] [(4, .box 24 [.int .i64 l.1, .sl (.pair (.int .i64) (.int .i64)) l.2]), (125000, .arr 25 (.sl (.int .i64)) v0_15.1)] ?_
                refine AW.cond (b := true) rfl (fun _ => ?_) (fun hb85 => by cases hb85)
                refine zo ?_
                refine zB [(8, .bool false)] [] ?_
                refine AW.ret ?_
                refine ablock_r ?_
                refine athen_r ?_
                obtain rfl := Option.some.inj h
                rw [← hd73 _ rfl] at ho72
                have h := ho72
                try simp only at h
                refine athen_r ?_
                refine ablock_r ?_
                refine athen_r ?_
                obtain rfl := Option.some.inj h
                exact zR [] [] []
               ·refine zS 4 [(1, .sl (.int .i64) w), (2, .sl (.int .i64) v0), (4, .bp 4 0), (9, .sl (.int .i64) v0_10.1), (11, .sl (.int .i64) v0_11.1), (20, .sl (.int .i64) v0_16.1), (22, .sl (.sl (.int .i64)) v0_17.1), (24, .sl (.sl (.int .i64)) v0_18.1), (25, .int .i64 v0_18.2), (27, .int .i64 v0_19.2), (28, .bool v0_20.1), (29, .int .i64 v0_20.2), (127, .own 125000), (128, .int .i64 (v0_15.1.length : Int)), (129, .int .i64 st1), (172, .bool (!(decide (v0_17.2 = 0))))] [(4, .box 24 [.int .i64 l.1, .sl (.pair (.int .i64) (.int .i64)) l.2]), (125000, .arr 25 (.sl (.int .i64)) v0_15.1)] ?_
                rcases zI h with ⟨hb86, h⟩ | ⟨hb86, h⟩
                ·refine zS 5 [(1, .sl (.int .i64) w), (2, .sl (.int .i64) v0), (4, .bp 4 0), (9, .sl (.int .i64) v0_10.1), (11, .sl (.int .i64) v0_11.1), (20, .sl (.int .i64) v0_16.1), (22, .sl (.sl (.int .i64)) v0_17.1), (24, .sl (.sl (.int .i64)) v0_18.1), (28, .bool v0_20.1), (29, .int .i64 v0_20.2), (127, .own 125000), (128, .int .i64 (v0_15.1.length : Int)), (129, .int .i64 st1), (176, .bool true), (177, .cv (undef))] [(4, .box 24 [.int .i64 l.1, .sl (.pair (.int .i64) (.int .i64)) l.2]), (125000, .arr 25 (.sl (.int .i64)) v0_15.1)] ?_
                 refine zS 5 [(1, .sl (.int .i64) w), (2, .sl (.int .i64) v0), (4, .bp 4 0), (9, .sl (.int .i64) v0_10.1), (11, .sl (.int .i64) v0_11.1), (20, .sl (.int .i64) v0_16.1), (22, .sl (.sl (.int .i64)) v0_17.1), (24, .sl (.sl (.int .i64)) v0_18.1), (28, .bool v0_20.1), (127, .own 125000), (128, .int .i64 (v0_15.1.length : Int)), (129, .int .i64 st1), (180, .bool true), (182, .cv (undef))] [(4, .box 24 [.int .i64 l.1, .sl (.pair (.int .i64) (.int .i64)) l.2]), (125000, .arr 25 (.sl (.int .i64)) v0_15.1)] ?_
                 refine zS 5 [(1, .sl (.int .i64) w), (2, .sl (.int .i64) v0), (4, .bp 4 0), (9, .sl (.int .i64) v0_10.1), (11, .sl (.int .i64) v0_11.1), (22, .sl (.sl (.int .i64)) v0_17.1), (24, .sl (.sl (.int .i64)) v0_18.1), (28, .bool v0_20.1), (127, .own 125000), (128, .int .i64 (v0_15.1.length : Int)), (129, .int .i64 st1), (184, .bool true), (187, .cv (undef))] [(4, .box 24 [.int .i64 l.1, .sl (.pair (.int .i64) (.int .i64)) l.2]), (125000, .arr 25 (.sl (.int .i64)) v0_15.1)] ?_
                 refine zS 5 [(1, .sl (.int .i64) w), (2, .sl (.int .i64) v0), (4, .bp 4 0), (9, .sl (.int .i64) v0_10.1), (11, .sl (.int .i64) v0_11.1), (28, .bool v0_20.1), (127, .own 125000), (128, .int .i64 (v0_15.1.length : Int)), (129, .int .i64 st1), (190, .bool true), (191, .cv (undef)), (192, .cv (undef))] [(4, .box 24 [.int .i64 l.1, .sl (.pair (.int .i64) (.int .i64)) l.2]), (125000, .arr 25 (.sl (.int .i64)) v0_15.1)] ?_
                 refine zS 5 [(1, .sl (.int .i64) w), (2, .sl (.int .i64) v0), (4, .bp 4 0), (9, .sl (.int .i64) v0_10.1), (11, .sl (.int .i64) v0_11.1), (127, .own 125000), (128, .int .i64 (v0_15.1.length : Int)), (129, .int .i64 st1), (196, .bool true), (197, .cv (undef))] [(4, .box 24 [.int .i64 l.1, .sl (.pair (.int .i64) (.int .i64)) l.2]), (125000, .arr 25 (.sl (.int .i64)) v0_15.1)] ?_
                 refine zB [(1, .sl (.int .i64) w), (2, .sl (.int .i64) v0), (4, .bp 4 0), (9, .sl (.int .i64) v0_10.1), (11, .sl (.int .i64) v0_11.1), (127, .own 125000), (128, .int .i64 (v0_15.1.length : Int)), (129, .int .i64 st1), (199, .bool true)] [(4, .box 24 [.int .i64 l.1, .sl (.pair (.int .i64) (.int .i64)) l.2]), (125000, .arr 25 (.sl (.int .i64)) v0_15.1)] ?_
                 refine AW.cond (b := true) rfl (fun _ => ?_) (fun hb87 => by cases hb87)
                 refine zo ?_
                 refine zB [(8, .bool false)] [] ?_
                 refine AW.ret ?_
                 refine ablock_r ?_
                 refine athen_r ?_
                 obtain rfl := Option.some.inj h
                 rw [← hd73 _ rfl] at ho72
                 have h := ho72
                 try simp only at h
                 refine athen_r ?_
                 refine ablock_r ?_
                 refine athen_r ?_
                 obtain rfl := Option.some.inj h
                 exact zR [] [] []
                ·refine zS 4 [(1, .sl (.int .i64) w), (2, .sl (.int .i64) v0), (4, .bp 4 0), (9, .sl (.int .i64) v0_10.1), (11, .sl (.int .i64) v0_11.1), (20, .sl (.int .i64) v0_16.1), (22, .sl (.sl (.int .i64)) v0_17.1), (24, .sl (.sl (.int .i64)) v0_18.1), (27, .int .i64 v0_19.2), (28, .bool v0_20.1), (29, .int .i64 v0_20.2), (127, .own 125000), (128, .int .i64 (v0_15.1.length : Int)), (129, .int .i64 st1), (176, .bool (!(decide (v0_18.2 = 0))))] [(4, .box 24 [.int .i64 l.1, .sl (.pair (.int .i64) (.int .i64)) l.2]), (125000, .arr 25 (.sl (.int .i64)) v0_15.1)] ?_
                 rcases zI h with ⟨hb88, h⟩ | ⟨hb88, h⟩
                 ·refine zS 5 [(1, .sl (.int .i64) w), (2, .sl (.int .i64) v0), (4, .bp 4 0), (9, .sl (.int .i64) v0_10.1), (11, .sl (.int .i64) v0_11.1), (20, .sl (.int .i64) v0_16.1), (22, .sl (.sl (.int .i64)) v0_17.1), (24, .sl (.sl (.int .i64)) v0_18.1), (28, .bool v0_20.1), (127, .own 125000), (128, .int .i64 (v0_15.1.length : Int)), (129, .int .i64 st1), (180, .bool true), (181, .cv (undef))] [(4, .box 24 [.int .i64 l.1, .sl (.pair (.int .i64) (.int .i64)) l.2]), (125000, .arr 25 (.sl (.int .i64)) v0_15.1)] ?_
                  refine zS 5 [(1, .sl (.int .i64) w), (2, .sl (.int .i64) v0), (4, .bp 4 0), (9, .sl (.int .i64) v0_10.1), (11, .sl (.int .i64) v0_11.1), (22, .sl (.sl (.int .i64)) v0_17.1), (24, .sl (.sl (.int .i64)) v0_18.1), (28, .bool v0_20.1), (127, .own 125000), (128, .int .i64 (v0_15.1.length : Int)), (129, .int .i64 st1), (184, .bool true), (185, .cv (undef)), (186, .cv (undef))] [(4, .box 24 [.int .i64 l.1, .sl (.pair (.int .i64) (.int .i64)) l.2]), (125000, .arr 25 (.sl (.int .i64)) v0_15.1)] ?_
                  refine zS 5 [(1, .sl (.int .i64) w), (2, .sl (.int .i64) v0), (4, .bp 4 0), (9, .sl (.int .i64) v0_10.1), (11, .sl (.int .i64) v0_11.1), (24, .sl (.sl (.int .i64)) v0_18.1), (28, .bool v0_20.1), (127, .own 125000), (128, .int .i64 (v0_15.1.length : Int)), (129, .int .i64 st1), (190, .bool true), (191, .cv (undef))] [(4, .box 24 [.int .i64 l.1, .sl (.pair (.int .i64) (.int .i64)) l.2]), (125000, .arr 25 (.sl (.int .i64)) v0_15.1)] ?_
                  refine zS 5 [(1, .sl (.int .i64) w), (2, .sl (.int .i64) v0), (4, .bp 4 0), (9, .sl (.int .i64) v0_10.1), (11, .sl (.int .i64) v0_11.1), (28, .bool v0_20.1), (127, .own 125000), (128, .int .i64 (v0_15.1.length : Int)), (129, .int .i64 st1), (196, .bool true)] [(4, .box 24 [.int .i64 l.1, .sl (.pair (.int .i64) (.int .i64)) l.2]), (125000, .arr 25 (.sl (.int .i64)) v0_15.1)] ?_
                  refine zB [(1, .sl (.int .i64) w), (2, .sl (.int .i64) v0), (4, .bp 4 0), (9, .sl (.int .i64) v0_10.1), (11, .sl (.int .i64) v0_11.1), (127, .own 125000), (128, .int .i64 (v0_15.1.length : Int)), (129, .int .i64 st1), (199, .bool true)] [(4, .box 24 [.int .i64 l.1, .sl (.pair (.int .i64) (.int .i64)) l.2]), (125000, .arr 25 (.sl (.int .i64)) v0_15.1)] ?_
                  refine AW.cond (b := true) rfl (fun _ => ?_) (fun hb89 => by cases hb89)
                  refine zo ?_
                  refine zB [(8, .bool false)] [] ?_
                  refine AW.ret ?_
                  refine ablock_r ?_
                  refine athen_r ?_
                  obtain rfl := Option.some.inj h
                  rw [← hd73 _ rfl] at ho72
                  have h := ho72
                  try simp only at h
                  refine athen_r ?_
                  refine ablock_r ?_
                  refine athen_r ?_
                  obtain rfl := Option.some.inj h
                  exact zR [] [] []
                 ·refine zS 4 [(1, .sl (.int .i64) w), (2, .sl (.int .i64) v0), (4, .bp 4 0), (9, .sl (.int .i64) v0_10.1), (11, .sl (.int .i64) v0_11.1), (20, .sl (.int .i64) v0_16.1), (22, .sl (.sl (.int .i64)) v0_17.1), (24, .sl (.sl (.int .i64)) v0_18.1), (28, .bool v0_20.1), (29, .int .i64 v0_20.2), (127, .own 125000), (128, .int .i64 (v0_15.1.length : Int)), (129, .int .i64 st1), (180, .bool (!(decide (v0_19.2 = 0))))] [(4, .box 24 [.int .i64 l.1, .sl (.pair (.int .i64) (.int .i64)) l.2]), (125000, .arr 25 (.sl (.int .i64)) v0_15.1)] ?_
                  rcases zI h with ⟨hb90, h⟩ | ⟨hb90, h⟩
                  ·refine zS 5 [(1, .sl (.int .i64) w), (2, .sl (.int .i64) v0), (4, .bp 4 0), (9, .sl (.int .i64) v0_10.1), (11, .sl (.int .i64) v0_11.1), (22, .sl (.sl (.int .i64)) v0_17.1), (24, .sl (.sl (.int .i64)) v0_18.1), (28, .bool v0_20.1), (127, .own 125000), (128, .int .i64 (v0_15.1.length : Int)), (129, .int .i64 st1), (184, .bool true), (185, .cv (undef))] [(4, .box 24 [.int .i64 l.1, .sl (.pair (.int .i64) (.int .i64)) l.2]), (125000, .arr 25 (.sl (.int .i64)) v0_15.1)] ?_
                   refine zS 5 [(1, .sl (.int .i64) w), (2, .sl (.int .i64) v0), (4, .bp 4 0), (9, .sl (.int .i64) v0_10.1), (11, .sl (.int .i64) v0_11.1), (22, .sl (.sl (.int .i64)) v0_17.1), (24, .sl (.sl (.int .i64)) v0_18.1), (28, .bool v0_20.1), (127, .own 125000), (128, .int .i64 (v0_15.1.length : Int)), (129, .int .i64 st1), (190, .bool true)] [(4, .box 24 [.int .i64 l.1, .sl (.pair (.int .i64) (.int .i64)) l.2]), (125000, .arr 25 (.sl (.int .i64)) v0_15.1)] ?_
                   refine zS 4 [(1, .sl (.int .i64) w), (2, .sl (.int .i64) v0), (4, .bp 4 0), (9, .sl (.int .i64) v0_10.1), (11, .sl (.int .i64) v0_11.1), (28, .bool v0_20.1), (127, .own 125000), (128, .int .i64 (v0_15.1.length : Int)), (129, .int .i64 st1), (190, .bool true), (194, .cv (undef))] [(4, .box 24 [.int .i64 l.1, .sl (.pair (.int .i64) (.int .i64)) l.2]), (125000, .arr 25 (.sl (.int .i64)) v0_15.1)] ?_
                   refine zB [(1, .sl (.int .i64) w), (2, .sl (.int .i64) v0), (4, .bp 4 0), (9, .sl (.int .i64) v0_10.1), (11, .sl (.int .i64) v0_11.1), (127, .own 125000), (128, .int .i64 (v0_15.1.length : Int)), (129, .int .i64 st1), (199, .bool true)] [(4, .box 24 [.int .i64 l.1, .sl (.pair (.int .i64) (.int .i64)) l.2]), (125000, .arr 25 (.sl (.int .i64)) v0_15.1)] ?_
                   refine AW.cond (b := true) rfl (fun _ => ?_) (fun hb91 => by cases hb91)
                   refine zo ?_
                   refine zB [(8, .bool false)] [] ?_
                   refine AW.ret ?_
                   refine ablock_r ?_
                   refine athen_r ?_
                   obtain rfl := Option.some.inj h
                   rw [← hd73 _ rfl] at ho72
                   have h := ho72
                   try simp only at h
                   refine athen_r ?_
                   refine ablock_r ?_
                   refine athen_r ?_
                   obtain rfl := Option.some.inj h
                   exact zR [] [] []
                  ·refine zS 4 [(1, .sl (.int .i64) w), (2, .sl (.int .i64) v0), (4, .bp 4 0), (9, .sl (.int .i64) v0_10.1), (11, .sl (.int .i64) v0_11.1), (20, .sl (.int .i64) v0_16.1), (22, .sl (.sl (.int .i64)) v0_17.1), (24, .sl (.sl (.int .i64)) v0_18.1), (28, .bool v0_20.1), (127, .own 125000), (128, .int .i64 (v0_15.1.length : Int)), (129, .int .i64 st1), (184, .bool (!(decide (v0_20.2 = 0))))] [(4, .box 24 [.int .i64 l.1, .sl (.pair (.int .i64) (.int .i64)) l.2]), (125000, .arr 25 (.sl (.int .i64)) v0_15.1)] ?_
                   rcases zI h with ⟨hb92, h⟩ | ⟨hb92, h⟩
                   ·refine zS 4 [(1, .sl (.int .i64) w), (2, .sl (.int .i64) v0), (4, .bp 4 0), (9, .sl (.int .i64) v0_10.1), (11, .sl (.int .i64) v0_11.1), (22, .sl (.sl (.int .i64)) v0_17.1), (24, .sl (.sl (.int .i64)) v0_18.1), (28, .bool v0_20.1), (127, .own 125000), (128, .int .i64 (v0_15.1.length : Int)), (129, .int .i64 st1), (184, .bool true), (188, .cv (undef))] [(4, .box 24 [.int .i64 l.1, .sl (.pair (.int .i64) (.int .i64)) l.2]), (125000, .arr 25 (.sl (.int .i64)) v0_15.1)] ?_
                    refine zS 5 [(1, .sl (.int .i64) w), (2, .sl (.int .i64) v0), (4, .bp 4 0), (9, .sl (.int .i64) v0_10.1), (11, .sl (.int .i64) v0_11.1), (28, .bool v0_20.1), (127, .own 125000), (128, .int .i64 (v0_15.1.length : Int)), (129, .int .i64 st1), (190, .bool true), (193, .cv (undef))] [(4, .box 24 [.int .i64 l.1, .sl (.pair (.int .i64) (.int .i64)) l.2]), (125000, .arr 25 (.sl (.int .i64)) v0_15.1)] ?_
                    refine zS 5 [(1, .sl (.int .i64) w), (2, .sl (.int .i64) v0), (4, .bp 4 0), (9, .sl (.int .i64) v0_10.1), (11, .sl (.int .i64) v0_11.1), (127, .own 125000), (128, .int .i64 (v0_15.1.length : Int)), (129, .int .i64 st1), (196, .bool true), (198, .cv (undef))] [(4, .box 24 [.int .i64 l.1, .sl (.pair (.int .i64) (.int .i64)) l.2]), (125000, .arr 25 (.sl (.int .i64)) v0_15.1)] ?_
                    refine zB [(1, .sl (.int .i64) w), (2, .sl (.int .i64) v0), (4, .bp 4 0), (9, .sl (.int .i64) v0_10.1), (11, .sl (.int .i64) v0_11.1), (127, .own 125000), (128, .int .i64 (v0_15.1.length : Int)), (129, .int .i64 st1), (199, .bool true)] [(4, .box 24 [.int .i64 l.1, .sl (.pair (.int .i64) (.int .i64)) l.2]), (125000, .arr 25 (.sl (.int .i64)) v0_15.1)] ?_
                    refine AW.cond (b := true) rfl (fun _ => ?_) (fun hb93 => by cases hb93)
                    refine zo ?_
                    refine zB [(8, .bool false)] [] ?_
                    refine AW.ret ?_
                    refine ablock_r ?_
                    refine athen_r ?_
                    obtain rfl := Option.some.inj h
                    rw [← hd73 _ rfl] at ho72
                    have h := ho72
                    try simp only at h
                    refine athen_r ?_
                    refine ablock_r ?_
                    refine athen_r ?_
                    obtain rfl := Option.some.inj h
                    exact zR [] [] []
                   ·refine zS 2 [(1, .sl (.int .i64) w), (2, .sl (.int .i64) v0), (4, .bp 4 0), (9, .sl (.int .i64) v0_10.1), (11, .sl (.int .i64) v0_11.1), (22, .sl (.sl (.int .i64)) v0_17.1), (24, .sl (.sl (.int .i64)) v0_18.1), (28, .bool v0_20.1), (127, .own 125000), (128, .int .i64 (v0_15.1.length : Int)), (129, .int .i64 st1), (184, .bool false), (185, .sl (.int .i64) v0_16.1), (186, .sl (.int .i64) v0_10.1)] [(4, .box 24 [.int .i64 l.1, .sl (.pair (.int .i64) (.int .i64)) l.2]), (125000, .arr 25 (.sl (.int .i64)) v0_15.1)] ?_
                    obtain ⟨v0_21, hv94, h⟩ := Option.bind_eq_some_iff.1 h
                    refine zG [] [] (hc_linealref03_SameInts v0_16.1 v0_10.1 hv94) [(1, .sl (.int .i64) w), (2, .sl (.int .i64) v0), (4, .bp 4 0), (9, .sl (.int .i64) v0_10.1), (11, .sl (.int .i64) v0_11.1), (22, .sl (.sl (.int .i64)) v0_17.1), (24, .sl (.sl (.int .i64)) v0_18.1), (28, .bool v0_20.1), (127, .own 125000), (128, .int .i64 (v0_15.1.length : Int)), (129, .int .i64 st1), (184, .bool false), (187, .bool v0_21)] [(4, .box 24 [.int .i64 l.1, .sl (.pair (.int .i64) (.int .i64)) l.2]), (125000, .arr 25 (.sl (.int .i64)) v0_15.1)] ?_
                    refine zS 3 [(1, .sl (.int .i64) w), (2, .sl (.int .i64) v0), (4, .bp 4 0), (9, .sl (.int .i64) v0_10.1), (11, .sl (.int .i64) v0_11.1), (22, .sl (.sl (.int .i64)) v0_17.1), (24, .sl (.sl (.int .i64)) v0_18.1), (28, .bool v0_20.1), (127, .own 125000), (128, .int .i64 (v0_15.1.length : Int)), (129, .int .i64 st1), (190, .bool (!v0_21))] [(4, .box 24 [.int .i64 l.1, .sl (.pair (.int .i64) (.int .i64)) l.2]), (125000, .arr 25 (.sl (.int .i64)) v0_15.1)] ?_
                    rcases zI h with ⟨hb95, h⟩ | ⟨hb95, h⟩
                    ·refine zS 4 [(1, .sl (.int .i64) w), (2, .sl (.int .i64) v0), (4, .bp 4 0), (9, .sl (.int .i64) v0_10.1), (11, .sl (.int .i64) v0_11.1), (28, .bool v0_20.1), (127, .own 125000), (128, .int .i64 (v0_15.1.length : Int)), (129, .int .i64 st1), (190, .bool true), (194, .cv (undef))] [(4, .box 24 [.int .i64 l.1, .sl (.pair (.int .i64) (.int .i64)) l.2]), (125000, .arr 25 (.sl (.int .i64)) v0_15.1)] ?_
                     refine zB [(1, .sl (.int .i64) w), (2, .sl (.int .i64) v0), (4, .bp 4 0), (9, .sl (.int .i64) v0_10.1), (11, .sl (.int .i64) v0_11.1), (127, .own 125000), (128, .int .i64 (v0_15.1.length : Int)), (129, .int .i64 st1), (199, .bool true)] [(4, .box 24 [.int .i64 l.1, .sl (.pair (.int .i64) (.int .i64)) l.2]), (125000, .arr 25 (.sl (.int .i64)) v0_15.1)] ?_
                     refine AW.cond (b := true) rfl (fun _ => ?_) (fun hb96 => by cases hb96)
                     refine zo ?_
                     refine zB [(8, .bool false)] [] ?_
                     refine AW.ret ?_
                     refine ablock_r ?_
                     refine athen_r ?_
                     obtain rfl := Option.some.inj h
                     rw [← hd73 _ rfl] at ho72
                     have h := ho72
                     try simp only at h
                     refine athen_r ?_
                     refine ablock_r ?_
                     refine athen_r ?_
                     obtain rfl := Option.some.inj h
                     exact zR [] [] []
                    ·refine zS 2 [(1, .sl (.int .i64) w), (2, .sl (.int .i64) v0), (4, .bp 4 0), (9, .sl (.int .i64) v0_10.1), (11, .sl (.int .i64) v0_11.1), (28, .bool v0_20.1), (127, .own 125000), (128, .int .i64 (v0_15.1.length : Int)), (129, .int .i64 st1), (190, .bool false), (191, .sl (.sl (.int .i64)) v0_17.1), (192, .sl (.sl (.int .i64)) v0_18.1)] [(4, .box 24 [.int .i64 l.1, .sl (.pair (.int .i64) (.int .i64)) l.2]), (125000, .arr 25 (.sl (.int .i64)) v0_15.1)] ?_
                     obtain ⟨v0_22, hv97, h⟩ := Option.bind_eq_some_iff.1 h
                     refine zG [] [] (hc_linealref03_SameLists v0_17.1 v0_18.1 hv97) [(1, .sl (.int .i64) w), (2, .sl (.int .i64) v0), (4, .bp 4 0), (9, .sl (.int .i64) v0_10.1), (11, .sl (.int .i64) v0_11.1), (28, .bool v0_20.1), (127, .own 125000), (128, .int .i64 (v0_15.1.length : Int)), (129, .int .i64 st1), (190, .bool false), (193, .bool v0_22)] [(4, .box 24 [.int .i64 l.1, .sl (.pair (.int .i64) (.int .i64)) l.2]), (125000, .arr 25 (.sl (.int .i64)) v0_15.1)] ?_
                     refine zS 3 [(1, .sl (.int .i64) w), (2, .sl (.int .i64) v0), (4, .bp 4 0), (9, .sl (.int .i64) v0_10.1), (11, .sl (.int .i64) v0_11.1), (28, .bool v0_20.1), (127, .own 125000), (128, .int .i64 (v0_15.1.length : Int)), (129, .int .i64 st1), (196, .bool (!v0_22))] [(4, .box 24 [.int .i64 l.1, .sl (.pair (.int .i64) (.int .i64)) l.2]), (125000, .arr 25 (.sl (.int .i64)) v0_15.1)] ?_
                     rcases zI h with ⟨hb98, h⟩ | ⟨hb98, h⟩
                     ·refine zB [(1, .sl (.int .i64) w), (2, .sl (.int .i64) v0), (4, .bp 4 0), (9, .sl (.int .i64) v0_10.1), (11, .sl (.int .i64) v0_11.1), (127, .own 125000), (128, .int .i64 (v0_15.1.length : Int)), (129, .int .i64 st1), (199, .bool true)] [(4, .box 24 [.int .i64 l.1, .sl (.pair (.int .i64) (.int .i64)) l.2]), (125000, .arr 25 (.sl (.int .i64)) v0_15.1)] ?_
                      refine AW.cond (b := true) rfl (fun _ => ?_) (fun hb99 => by cases hb99)
                      refine zo ?_
                      refine zB [(8, .bool false)] [] ?_
                      refine AW.ret ?_
                      refine ablock_r ?_
                      refine athen_r ?_
                      obtain rfl := Option.some.inj h
                      rw [← hd73 _ rfl] at ho72
                      have h := ho72
                      try simp only at h
                      refine athen_r ?_
                      refine ablock_r ?_
                      refine athen_r ?_
                      obtain rfl := Option.some.inj h
                      exact zR [] [] []
                     ·refine zB [(1, .sl (.int .i64) w), (2, .sl (.int .i64) v0), (4, .bp 4 0), (9, .sl (.int .i64) v0_10.1), (11, .sl (.int .i64) v0_11.1), (127, .own 125000), (128, .int .i64 (v0_15.1.length : Int)), (129, .int .i64 st1), (199, .bool (!v0_20.1))] [(4, .box 24 [.int .i64 l.1, .sl (.pair (.int .i64) (.int .i64)) l.2]), (125000, .arr 25 (.sl (.int .i64)) v0_15.1)] ?_
                      refine zQ h (fun hb100 h => ?_) (fun hb100 h => ?_)
                      ·refine zo ?_
                       refine zB [(8, .bool false)] [] ?_
                       refine AW.ret ?_
                       refine ablock_r ?_
                       refine athen_r ?_
                       obtain rfl := Option.some.inj h
                       rw [← hd73 _ rfl] at ho72
                       have h := ho72
                       try simp only at h
                       refine athen_r ?_
                       refine ablock_r ?_
                       refine athen_r ?_
                       obtain rfl := Option.some.inj h
                       exact zR [] [] []
                      ·refine zm ?_
                       refine athen_n ?_
                       refine AW.ops ?_
                       obtain ⟨c101, h⟩ := ck_some.1 h
                       refine zA [(1, .sl (.int .i64) w), (2, .sl (.int .i64) v0), (4, .bp 4 0), (9, .sl (.int .i64) v0_10.1), (11, .sl (.int .i64) v0_11.1), (127, .own 125000), (128, .int .i64 (v0_15.1.length : Int)), (129, .int .i64 (st1 + 1))] [(4, .box 24 [.int .i64 l.1, .sl (.pair (.int .i64) (.int .i64)) l.2]), (125000, .arr 25 (.sl (.int .i64)) v0_15.1)] ?_
                       obtain rfl := Option.some.inj h
                       exact ⟨_, rfl, zL [] [] []⟩
              ·refine AW.exit ?_
               refine athen_e ?_
               obtain rfl := Option.some.inj h
               rw [← hd73 _ rfl] at ho72
               have h := ho72
               try simp only at h
               refine athen_e ?_
               refine ablock_s ?_
               refine athen_n ?_
               exact AW.weaken (zL [] [] []) (hk_linealtop_TopWeave_k1 () h)

end Go.Proofs.Ytabchabbdnhjpaa
