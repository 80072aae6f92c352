/-
  Made by wip/tool/dc.py out of the print of the program: contracts.
-/
import Derived.Test.YtcgflignbhmoaaaQp
import Derived.Test.YtcgflignbhmoaaaShs
import Derived.Test.YtcgflignbhmoaaaMgc1
import Derived.Test.YtcgflignbhmoaaaMgc11
import Derived.Test.YtcgflignbhmoaaaMgc13
import Derived.Test.YtcgflignbhmoaaaMgc4
import Derived.Test.YtcgflignbhmoaaaMgc8
import Derived.Test.YtcgflignbhmoaaaMgc9
namespace Go.Proofs.Ytcgflignbhmoaaa
open Go.RowKit

set_option linter.unusedSimpArgs false
set_option linter.unusedVariables false
set_option linter.constructorNameAsVariable false

set_option maxRecDepth 100000
set_option maxHeartbeats 2000000

theorem hc_lineallaw01_SpecCalls (s : Int × Int × (List (List Int)) × (List (List Int))) (state : Int) (a : Int) (b : Int) {r : Bool} (h : lineallaw01_SpecCalls s state a b = some r) : HC Try.prog 7 [] [.agg [.int .i64 s.1, .int .i64 s.2.1, .sl (.sl (.int .i64)) s.2.2.1, .sl (.sl (.int .i64)) s.2.2.2], .int .i64 state, .int .i64 a, .int .i64 b] [] (.bool r) := by
 unfold lineallaw01_SpecCalls at h
 refine zH Try.func7 [.tmp 8] 129 ?_
 refine zo ?_
 refine zB [(1, .int .i64 state), (2, .int .i64 a), (3, .int .i64 b), (4, .bp 4 0)] [(4, .box 24 [.int .i64 s.1, .int .i64 s.2.1, .sl (.sl (.int .i64)) s.2.2.1, .sl (.sl (.int .i64)) s.2.2.2])] ?_
 refine AW.seq ?_
 refine zo ?_
 refine zS 1 [(1, .int .i64 state), (2, .int .i64 a), (3, .int .i64 b), (4, .bp 4 0), (21, .agg [.int .i64 s.1, .int .i64 s.2.1, .sl (.sl (.int .i64)) s.2.2.1, .sl (.sl (.int .i64)) s.2.2.2])] [(4, .box 24 [.int .i64 s.1, .int .i64 s.2.1, .sl (.sl (.int .i64)) s.2.2.1, .sl (.sl (.int .i64)) s.2.2.2])] ?_
 obtain ⟨v0, hv1, h⟩ := Option.bind_eq_some_iff.1 h
 refine zC [] [] (hc_lineallaw01_Long s hv1) [(1, .int .i64 state), (2, .int .i64 a), (3, .int .i64 b), (4, .bp 4 0), (22, .bool v0)] [(4, .box 24 [.int .i64 s.1, .int .i64 s.2.1, .sl (.sl (.int .i64)) s.2.2.1, .sl (.sl (.int .i64)) s.2.2.2])] ?_
 refine zB [(1, .int .i64 state), (2, .int .i64 a), (3, .int .i64 b), (4, .bp 4 0), (22, .bool v0)] [(4, .box 24 [.int .i64 s.1, .int .i64 s.2.1, .sl (.sl (.int .i64)) s.2.2.1, .sl (.sl (.int .i64)) s.2.2.2])] ?_
 refine zQ h (fun hb2 h => ?_) (fun hb2 h => ?_)
 ·refine zo ?_
  obtain ⟨v0_2, hv3, h⟩ := Option.bind_eq_some_iff.1 h
  refine zC [] [] (hc_lineallaw01_Awake hv3) [(23, .bool v0_2)] [] ?_
  refine zB [(8, .bool v0_2)] [] ?_
  refine zr ?_
  obtain rfl := Option.some.inj h
  exact zR [] [] []
 ·refine zk ?_
  refine zo ?_
  refine zS 4 [(1, .int .i64 state), (2, .int .i64 a), (3, .int .i64 b), (4, .bp 4 0), (25, .agg [.int .i64 s.1, .int .i64 s.2.1, .sl (.sl (.int .i64)) s.2.2.1, .sl (.sl (.int .i64)) s.2.2.2]), (26, .int .i64 state), (27, .int .i64 a), (28, .int .i64 b)] [(4, .box 24 [.int .i64 s.1, .int .i64 s.2.1, .sl (.sl (.int .i64)) s.2.2.1, .sl (.sl (.int .i64)) s.2.2.2])] ?_
  obtain ⟨v0_3, hv4, h⟩ := Option.bind_eq_some_iff.1 h
  refine zC [] [] (hc_spec_Commute s state a b hv4) [(1, .int .i64 state), (2, .int .i64 a), (3, .int .i64 b), (4, .bp 4 0), (29, .tup [.bool v0_3.1, .int .i64 v0_3.2])] [(4, .box 24 [.int .i64 s.1, .int .i64 s.2.1, .sl (.sl (.int .i64)) s.2.2.1, .sl (.sl (.int .i64)) s.2.2.2])] ?_
  refine zB [(1, .int .i64 state), (2, .int .i64 a), (3, .int .i64 b), (4, .bp 4 0), (9, .bool v0_3.1), (10, .int .i64 v0_3.2)] [(4, .box 24 [.int .i64 s.1, .int .i64 s.2.1, .sl (.sl (.int .i64)) s.2.2.1, .sl (.sl (.int .i64)) s.2.2.2])] ?_
  refine zo ?_
  refine zS 4 [(1, .int .i64 state), (2, .int .i64 a), (3, .int .i64 b), (4, .bp 4 0), (9, .bool v0_3.1), (10, .int .i64 v0_3.2), (33, .agg [.int .i64 s.1, .int .i64 s.2.1, .sl (.sl (.int .i64)) s.2.2.1, .sl (.sl (.int .i64)) s.2.2.2]), (34, .int .i64 state), (35, .int .i64 a), (36, .int .i64 b)] [(4, .box 24 [.int .i64 s.1, .int .i64 s.2.1, .sl (.sl (.int .i64)) s.2.2.1, .sl (.sl (.int .i64)) s.2.2.2])] ?_
  obtain ⟨v0_4, hv5, h⟩ := Option.bind_eq_some_iff.1 h
  refine zC [] [] (hc_linealref01_Commute s state a b hv5) [(1, .int .i64 state), (2, .int .i64 a), (3, .int .i64 b), (4, .bp 4 0), (9, .bool v0_3.1), (10, .int .i64 v0_3.2), (37, .tup [.bool v0_4.1, .int .i64 v0_4.2])] [(4, .box 24 [.int .i64 s.1, .int .i64 s.2.1, .sl (.sl (.int .i64)) s.2.2.1, .sl (.sl (.int .i64)) s.2.2.2])] ?_
  refine zB [(1, .int .i64 state), (2, .int .i64 a), (3, .int .i64 b), (4, .bp 4 0), (9, .bool v0_3.1), (10, .int .i64 v0_3.2), (11, .bool v0_4.1), (12, .int .i64 v0_4.2)] [(4, .box 24 [.int .i64 s.1, .int .i64 s.2.1, .sl (.sl (.int .i64)) s.2.2.1, .sl (.sl (.int .i64)) s.2.2.2])] ?_
  refine AW.seq ?_
  refine zo ?_
  refine zS 4 [(1, .int .i64 state), (2, .int .i64 a), (3, .int .i64 b), (4, .bp 4 0), (10, .int .i64 v0_3.2), (12, .int .i64 v0_4.2), (43, .bool ((v0_3.1 == v0_4.1) != true))] [(4, .box 24 [.int .i64 s.1, .int .i64 s.2.1, .sl (.sl (.int .i64)) s.2.2.1, .sl (.sl (.int .i64)) s.2.2.2])] ?_
  rcases zI h with ⟨hb6, h⟩ | ⟨hb6, h⟩
  ·refine zB [(1, .int .i64 state), (2, .int .i64 a), (3, .int .i64 b), (4, .bp 4 0), (47, .bool true)] [(4, .box 24 [.int .i64 s.1, .int .i64 s.2.1, .sl (.sl (.int .i64)) s.2.2.1, .sl (.sl (.int .i64)) s.2.2.2])] ?_
   refine AW.cond (b := true) rfl (fun _ => ?_) (fun hb7 => by cases hb7)
   refine zo ?_
   refine zB [(8, .bool false)] [] ?_
   refine zr ?_
   obtain rfl := Option.some.inj h
   exact zR [] [] []
  ·refine zB [(1, .int .i64 state), (2, .int .i64 a), (3, .int .i64 b), (4, .bp 4 0), (47, .bool (!(decide (v0_3.2 = v0_4.2))))] [(4, .box 24 [.int .i64 s.1, .int .i64 s.2.1, .sl (.sl (.int .i64)) s.2.2.1, .sl (.sl (.int .i64)) s.2.2.2])] ?_
   refine zQ h (fun hb8 h => ?_) (fun hb8 h => ?_)
   ·refine zo ?_
    refine zB [(8, .bool false)] [] ?_
    refine zr ?_
    obtain rfl := Option.some.inj h
    exact zR [] [] []
   ·refine zk ?_
    refine zo ?_
    refine zS 4 [(1, .int .i64 state), (2, .int .i64 a), (3, .int .i64 b), (4, .bp 4 0), (49, .agg [.int .i64 s.1, .int .i64 s.2.1, .sl (.sl (.int .i64)) s.2.2.1, .sl (.sl (.int .i64)) s.2.2.2]), (50, .int .i64 state), (51, .int .i64 a), (52, .int .i64 b)] [(4, .box 24 [.int .i64 s.1, .int .i64 s.2.1, .sl (.sl (.int .i64)) s.2.2.1, .sl (.sl (.int .i64)) s.2.2.2])] ?_
    obtain ⟨v0_5, hv9, h⟩ := Option.bind_eq_some_iff.1 h
    refine zC [] [] (hc_spec_Overwrites s state a b hv9) [(1, .int .i64 state), (2, .int .i64 a), (3, .int .i64 b), (4, .bp 4 0), (53, .tup [.bool v0_5.1, .int .i64 v0_5.2])] [(4, .box 24 [.int .i64 s.1, .int .i64 s.2.1, .sl (.sl (.int .i64)) s.2.2.1, .sl (.sl (.int .i64)) s.2.2.2])] ?_
    refine zB [(1, .int .i64 state), (2, .int .i64 a), (3, .int .i64 b), (4, .bp 4 0), (9, .bool v0_5.1), (10, .int .i64 v0_5.2)] [(4, .box 24 [.int .i64 s.1, .int .i64 s.2.1, .sl (.sl (.int .i64)) s.2.2.1, .sl (.sl (.int .i64)) s.2.2.2])] ?_
    refine zo ?_
    refine zS 4 [(2, .int .i64 a), (4, .bp 4 0), (9, .bool v0_5.1), (10, .int .i64 v0_5.2), (57, .agg [.int .i64 s.1, .int .i64 s.2.1, .sl (.sl (.int .i64)) s.2.2.1, .sl (.sl (.int .i64)) s.2.2.2]), (58, .int .i64 state), (59, .int .i64 a), (60, .int .i64 b)] [(4, .box 24 [.int .i64 s.1, .int .i64 s.2.1, .sl (.sl (.int .i64)) s.2.2.1, .sl (.sl (.int .i64)) s.2.2.2])] ?_
    obtain ⟨v0_6, hv10, h⟩ := Option.bind_eq_some_iff.1 h
    refine zC [] [] (hc_linealref01_Overwrites s state a b hv10) [(2, .int .i64 a), (4, .bp 4 0), (9, .bool v0_5.1), (10, .int .i64 v0_5.2), (61, .tup [.bool v0_6.1, .int .i64 v0_6.2])] [(4, .box 24 [.int .i64 s.1, .int .i64 s.2.1, .sl (.sl (.int .i64)) s.2.2.1, .sl (.sl (.int .i64)) s.2.2.2])] ?_
    refine zB [(2, .int .i64 a), (4, .bp 4 0), (9, .bool v0_5.1), (10, .int .i64 v0_5.2), (11, .bool v0_6.1), (12, .int .i64 v0_6.2)] [(4, .box 24 [.int .i64 s.1, .int .i64 s.2.1, .sl (.sl (.int .i64)) s.2.2.1, .sl (.sl (.int .i64)) s.2.2.2])] ?_
    refine AW.seq ?_
    refine zo ?_
    refine zS 4 [(2, .int .i64 a), (4, .bp 4 0), (10, .int .i64 v0_5.2), (12, .int .i64 v0_6.2), (67, .bool ((v0_5.1 == v0_6.1) != true))] [(4, .box 24 [.int .i64 s.1, .int .i64 s.2.1, .sl (.sl (.int .i64)) s.2.2.1, .sl (.sl (.int .i64)) s.2.2.2])] ?_
    rcases zI h with ⟨hb11, h⟩ | ⟨hb11, h⟩
    ·refine zB [(2, .int .i64 a), (4, .bp 4 0), (71, .bool true)] [(4, .box 24 [.int .i64 s.1, .int .i64 s.2.1, .sl (.sl (.int .i64)) s.2.2.1, .sl (.sl (.int .i64)) s.2.2.2])] ?_
     refine AW.cond (b := true) rfl (fun _ => ?_) (fun hb12 => by cases hb12)
     refine zo ?_
     refine zB [(8, .bool false)] [] ?_
     refine zr ?_
     obtain rfl := Option.some.inj h
     exact zR [] [] []
    ·refine zB [(2, .int .i64 a), (4, .bp 4 0), (71, .bool (!(decide (v0_5.2 = v0_6.2))))] [(4, .box 24 [.int .i64 s.1, .int .i64 s.2.1, .sl (.sl (.int .i64)) s.2.2.1, .sl (.sl (.int .i64)) s.2.2.2])] ?_
     refine zQ h (fun hb13 h => ?_) (fun hb13 h => ?_)
     ·refine zo ?_
      refine zB [(8, .bool false)] [] ?_
      refine zr ?_
      obtain rfl := Option.some.inj h
      exact zR [] [] []
     ·refine zk ?_
      refine zo ?_
      refine zS 2 [(2, .int .i64 a), (4, .bp 4 0), (73, .agg [.int .i64 s.1, .int .i64 s.2.1, .sl (.sl (.int .i64)) s.2.2.1, .sl (.sl (.int .i64)) s.2.2.2]), (74, .int .i64 a)] [(4, .box 24 [.int .i64 s.1, .int .i64 s.2.1, .sl (.sl (.int .i64)) s.2.2.1, .sl (.sl (.int .i64)) s.2.2.2])] ?_
      obtain ⟨v0_7, hv14, h⟩ := Option.bind_eq_some_iff.1 h
      refine zC [] [] (hc_spec_Reads s a hv14) [(2, .int .i64 a), (4, .bp 4 0), (75, .tup [.bool v0_7.1, .int .i64 v0_7.2])] [(4, .box 24 [.int .i64 s.1, .int .i64 s.2.1, .sl (.sl (.int .i64)) s.2.2.1, .sl (.sl (.int .i64)) s.2.2.2])] ?_
      refine zB [(2, .int .i64 a), (4, .bp 4 0), (9, .bool v0_7.1), (10, .int .i64 v0_7.2)] [(4, .box 24 [.int .i64 s.1, .int .i64 s.2.1, .sl (.sl (.int .i64)) s.2.2.1, .sl (.sl (.int .i64)) s.2.2.2])] ?_
      refine zo ?_
      refine zS 2 [(4, .bp 4 0), (9, .bool v0_7.1), (10, .int .i64 v0_7.2), (79, .agg [.int .i64 s.1, .int .i64 s.2.1, .sl (.sl (.int .i64)) s.2.2.1, .sl (.sl (.int .i64)) s.2.2.2]), (80, .int .i64 a)] [(4, .box 24 [.int .i64 s.1, .int .i64 s.2.1, .sl (.sl (.int .i64)) s.2.2.1, .sl (.sl (.int .i64)) s.2.2.2])] ?_
      obtain ⟨v0_8, hv15, h⟩ := Option.bind_eq_some_iff.1 h
      refine zC [] [] (hc_linealref01_Reads s a hv15) [(4, .bp 4 0), (9, .bool v0_7.1), (10, .int .i64 v0_7.2), (81, .tup [.bool v0_8.1, .int .i64 v0_8.2])] [(4, .box 24 [.int .i64 s.1, .int .i64 s.2.1, .sl (.sl (.int .i64)) s.2.2.1, .sl (.sl (.int .i64)) s.2.2.2])] ?_
      refine zB [(4, .bp 4 0), (9, .bool v0_7.1), (10, .int .i64 v0_7.2), (11, .bool v0_8.1), (12, .int .i64 v0_8.2)] [(4, .box 24 [.int .i64 s.1, .int .i64 s.2.1, .sl (.sl (.int .i64)) s.2.2.1, .sl (.sl (.int .i64)) s.2.2.2])] ?_
      refine zo ?_
      refine zS 1 [(4, .bp 4 0), (9, .bool v0_7.1), (10, .int .i64 v0_7.2), (11, .bool v0_8.1), (12, .int .i64 v0_8.2), (85, .agg [.int .i64 s.1, .int .i64 s.2.1, .sl (.sl (.int .i64)) s.2.2.1, .sl (.sl (.int .i64)) s.2.2.2])] [(4, .box 24 [.int .i64 s.1, .int .i64 s.2.1, .sl (.sl (.int .i64)) s.2.2.1, .sl (.sl (.int .i64)) s.2.2.2])] ?_
      obtain ⟨v0_9, hv16, h⟩ := Option.bind_eq_some_iff.1 h
      refine zC [] [] (hc_spec_Meddles s hv16) [(4, .bp 4 0), (9, .bool v0_7.1), (10, .int .i64 v0_7.2), (11, .bool v0_8.1), (12, .int .i64 v0_8.2), (86, .tup [.int .i64 v0_9.1, .int .i64 v0_9.2.1, .int .i64 v0_9.2.2.1, .int .i64 v0_9.2.2.2])] [(4, .box 24 [.int .i64 s.1, .int .i64 s.2.1, .sl (.sl (.int .i64)) s.2.2.1, .sl (.sl (.int .i64)) s.2.2.2])] ?_
      refine zS 5 [(4, .bp 4 0), (9, .bool v0_7.1), (10, .int .i64 v0_7.2), (11, .bool v0_8.1), (12, .int .i64 v0_8.2), (87, .int .i64 v0_9.1), (88, .int .i64 v0_9.2.1), (89, .int .i64 v0_9.2.2.1), (90, .int .i64 v0_9.2.2.2)] [(4, .box 24 [.int .i64 s.1, .int .i64 s.2.1, .sl (.sl (.int .i64)) s.2.2.1, .sl (.sl (.int .i64)) s.2.2.2])] ?_
      refine zB [(4, .bp 4 0), (9, .bool v0_7.1), (10, .int .i64 v0_7.2), (11, .bool v0_8.1), (12, .int .i64 v0_8.2), (13, .int .i64 v0_9.1), (14, .int .i64 v0_9.2.1), (15, .int .i64 v0_9.2.2.1), (16, .int .i64 v0_9.2.2.2)] [(4, .box 24 [.int .i64 s.1, .int .i64 s.2.1, .sl (.sl (.int .i64)) s.2.2.1, .sl (.sl (.int .i64)) s.2.2.2])] ?_
      refine zo ?_
      refine zS 1 [(9, .bool v0_7.1), (10, .int .i64 v0_7.2), (11, .bool v0_8.1), (12, .int .i64 v0_8.2), (13, .int .i64 v0_9.1), (14, .int .i64 v0_9.2.1), (15, .int .i64 v0_9.2.2.1), (16, .int .i64 v0_9.2.2.2), (92, .agg [.int .i64 s.1, .int .i64 s.2.1, .sl (.sl (.int .i64)) s.2.2.1, .sl (.sl (.int .i64)) s.2.2.2])] [] ?_
      obtain ⟨v0_10, hv17, h⟩ := Option.bind_eq_some_iff.1 h
      refine zC [] [] (hc_linealref01_Meddles s hv17) [(9, .bool v0_7.1), (10, .int .i64 v0_7.2), (11, .bool v0_8.1), (12, .int .i64 v0_8.2), (13, .int .i64 v0_9.1), (14, .int .i64 v0_9.2.1), (15, .int .i64 v0_9.2.2.1), (16, .int .i64 v0_9.2.2.2), (93, .tup [.int .i64 v0_10.1, .int .i64 v0_10.2.1, .int .i64 v0_10.2.2.1, .int .i64 v0_10.2.2.2])] [] ?_
      refine zS 5 [(9, .bool v0_7.1), (10, .int .i64 v0_7.2), (11, .bool v0_8.1), (12, .int .i64 v0_8.2), (13, .int .i64 v0_9.1), (14, .int .i64 v0_9.2.1), (15, .int .i64 v0_9.2.2.1), (16, .int .i64 v0_9.2.2.2), (94, .int .i64 v0_10.1), (95, .int .i64 v0_10.2.1), (96, .int .i64 v0_10.2.2.1), (97, .int .i64 v0_10.2.2.2)] [] ?_
      refine zB [(9, .bool v0_7.1), (10, .int .i64 v0_7.2), (11, .bool v0_8.1), (12, .int .i64 v0_8.2), (13, .int .i64 v0_9.1), (14, .int .i64 v0_9.2.1), (15, .int .i64 v0_9.2.2.1), (16, .int .i64 v0_9.2.2.2), (17, .int .i64 v0_10.1), (18, .int .i64 v0_10.2.1), (19, .int .i64 v0_10.2.2.1), (20, .int .i64 v0_10.2.2.2)] [] ?_
      refine zo ?_
      refine zS 4 [(10, .int .i64 v0_7.2), (12, .int .i64 v0_8.2), (13, .int .i64 v0_9.1), (14, .int .i64 v0_9.2.1), (15, .int .i64 v0_9.2.2.1), (16, .int .i64 v0_9.2.2.2), (17, .int .i64 v0_10.1), (18, .int .i64 v0_10.2.1), (19, .int .i64 v0_10.2.2.1), (20, .int .i64 v0_10.2.2.2), (101, .bool ((v0_7.1 == v0_8.1) != false))] [] ?_
      rcases zI h with ⟨hb18, h⟩ | ⟨hb18, h⟩
      ·refine zS 5 [(13, .int .i64 v0_9.1), (14, .int .i64 v0_9.2.1), (15, .int .i64 v0_9.2.2.1), (16, .int .i64 v0_9.2.2.2), (17, .int .i64 v0_10.1), (18, .int .i64 v0_10.2.1), (19, .int .i64 v0_10.2.2.1), (20, .int .i64 v0_10.2.2.2), (106, .bool (decide (v0_7.2 = v0_8.2)))] [] ?_
       rcases zI h with ⟨hb19, h⟩ | ⟨hb19, h⟩
       ·refine zS 5 [(14, .int .i64 v0_9.2.1), (15, .int .i64 v0_9.2.2.1), (16, .int .i64 v0_9.2.2.2), (18, .int .i64 v0_10.2.1), (19, .int .i64 v0_10.2.2.1), (20, .int .i64 v0_10.2.2.2), (111, .bool (decide (v0_9.1 = v0_10.1)))] [] ?_
        rcases zI h with ⟨hb20, h⟩ | ⟨hb20, h⟩
        ·refine zS 5 [(15, .int .i64 v0_9.2.2.1), (16, .int .i64 v0_9.2.2.2), (19, .int .i64 v0_10.2.2.1), (20, .int .i64 v0_10.2.2.2), (116, .bool (decide (v0_9.2.1 = v0_10.2.1)))] [] ?_
         rcases zI h with ⟨hb21, h⟩ | ⟨hb21, h⟩
         ·refine zS 5 [(16, .int .i64 v0_9.2.2.2), (20, .int .i64 v0_10.2.2.2), (121, .bool (decide (v0_9.2.2.1 = v0_10.2.2.1)))] [] ?_
          rcases zI h with ⟨hb22, h⟩ | ⟨hb22, h⟩
          ·refine zS 5 [(126, .bool (decide (v0_9.2.2.2 = v0_10.2.2.2)))] [] ?_
           rcases zI h with ⟨hb23, h⟩ | ⟨hb23, h⟩
           ·refine zT [(126, .bool true)] [] gt ?_
            obtain ⟨v0_11, hv24, h⟩ := Option.bind_eq_some_iff.1 h
            refine zG [] [] (hc_lineallaw01_Awake hv24) [(126, .bool true), (127, .bool v0_11)] [] ?_
            refine zB [(8, .bool v0_11)] [] ?_
            refine AW.ret ?_
            obtain rfl := Option.some.inj h
            exact zR [] [] []
           ·refine zB [(8, .bool false)] [] ?_
            refine AW.ret ?_
            obtain rfl := Option.some.inj h
            exact zR [] [] []
          ·refine zS 5 [(126, .bool false)] [] ?_
           refine zB [(8, .bool false)] [] ?_
           refine AW.ret ?_
           obtain rfl := Option.some.inj h
           exact zR [] [] []
         ·refine zS 5 [(16, .int .i64 v0_9.2.2.2), (20, .int .i64 v0_10.2.2.2), (121, .bool false)] [] ?_
          refine zS 5 [(126, .bool false)] [] ?_
          refine zB [(8, .bool false)] [] ?_
          refine AW.ret ?_
          obtain rfl := Option.some.inj h
          exact zR [] [] []
        ·refine zS 5 [(15, .int .i64 v0_9.2.2.1), (16, .int .i64 v0_9.2.2.2), (19, .int .i64 v0_10.2.2.1), (20, .int .i64 v0_10.2.2.2), (116, .bool false)] [] ?_
         refine zS 5 [(16, .int .i64 v0_9.2.2.2), (20, .int .i64 v0_10.2.2.2), (121, .bool false)] [] ?_
         refine zS 5 [(126, .bool false)] [] ?_
         refine zB [(8, .bool false)] [] ?_
         refine AW.ret ?_
         obtain rfl := Option.some.inj h
         exact zR [] [] []
       ·refine zS 5 [(14, .int .i64 v0_9.2.1), (15, .int .i64 v0_9.2.2.1), (16, .int .i64 v0_9.2.2.2), (18, .int .i64 v0_10.2.1), (19, .int .i64 v0_10.2.2.1), (20, .int .i64 v0_10.2.2.2), (111, .bool false)] [] ?_
        refine zS 5 [(15, .int .i64 v0_9.2.2.1), (16, .int .i64 v0_9.2.2.2), (19, .int .i64 v0_10.2.2.1), (20, .int .i64 v0_10.2.2.2), (116, .bool false)] [] ?_
        refine zS 5 [(16, .int .i64 v0_9.2.2.2), (20, .int .i64 v0_10.2.2.2), (121, .bool false)] [] ?_
        refine zS 5 [(126, .bool false)] [] ?_
        refine zB [(8, .bool false)] [] ?_
        refine AW.ret ?_
        obtain rfl := Option.some.inj h
        exact zR [] [] []
      ·refine zS 5 [(13, .int .i64 v0_9.1), (14, .int .i64 v0_9.2.1), (15, .int .i64 v0_9.2.2.1), (16, .int .i64 v0_9.2.2.2), (17, .int .i64 v0_10.1), (18, .int .i64 v0_10.2.1), (19, .int .i64 v0_10.2.2.1), (20, .int .i64 v0_10.2.2.2), (106, .bool false)] [] ?_
       refine zS 5 [(14, .int .i64 v0_9.2.1), (15, .int .i64 v0_9.2.2.1), (16, .int .i64 v0_9.2.2.2), (18, .int .i64 v0_10.2.1), (19, .int .i64 v0_10.2.2.1), (20, .int .i64 v0_10.2.2.2), (111, .bool false)] [] ?_
       refine zS 5 [(15, .int .i64 v0_9.2.2.1), (16, .int .i64 v0_9.2.2.2), (19, .int .i64 v0_10.2.2.1), (20, .int .i64 v0_10.2.2.2), (116, .bool false)] [] ?_
       refine zS 5 [(16, .int .i64 v0_9.2.2.2), (20, .int .i64 v0_10.2.2.2), (121, .bool false)] [] ?_
       refine zS 5 [(126, .bool false)] [] ?_
       refine zB [(8, .bool false)] [] ?_
       refine AW.ret ?_
       obtain rfl := Option.some.inj h
       exact zR [] [] []

end Go.Proofs.Ytcgflignbhmoaaa
