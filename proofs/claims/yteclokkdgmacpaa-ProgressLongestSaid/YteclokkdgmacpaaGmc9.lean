/-
  Made by wip/tool/dc.py out of the print of the program: contracts.
-/
import Derived.Test.YteclokkdgmacpaaGrp
import Derived.Test.YteclokkdgmacpaaSh7
import Derived.Test.YteclokkdgmacpaaAvd
import Derived.Test.YteclokkdgmacpaaGmc6
import Derived.Test.YteclokkdgmacpaaGmc7
import Derived.Test.YteclokkdgmacpaaGmc8
namespace Go.Proofs.Yteclokkdgmacpaa
open Go.RowKit

set_option linter.unusedSimpArgs false
set_option linter.unusedVariables false
set_option linter.constructorNameAsVariable false

set_option maxRecDepth 100000
set_option maxHeartbeats 40000000

theorem hc_lineallaw07_ProgressLongest (g : Int × (List (Int × Int × Int × Bool))) (thread : Int) (path : List Int) {r : Bool} (h : lineallaw07_ProgressLongest g thread path = some r) : HC Try.prog 10 [] [.agg [.int .i64 g.1, .sl (.pair (.int .i64) (.pair (.int .i64) (.pair (.int .i64) .bool))) g.2], .int .u8 thread, .sl (.int .i64) path] [] (.bool r) := by
 unfold lineallaw07_ProgressLongest at h
 refine zH Try.func10 [.tmp 6] 201 ?_
 refine zo ?_
 refine zB [(1, .int .u8 thread), (2, .sl (.int .i64) path), (3, .bp 3 0)] [(3, .box 24 [.int .i64 g.1, .sl (.pair (.int .i64) (.pair (.int .i64) (.pair (.int .i64) .bool))) g.2])] ?_
 refine AW.seq ?_
 refine zo ?_
 refine zS 1 [(1, .int .u8 thread), (2, .sl (.int .i64) path), (3, .bp 3 0), (26, .agg [.int .i64 g.1, .sl (.pair (.int .i64) (.pair (.int .i64) (.pair (.int .i64) .bool))) g.2])] [(3, .box 24 [.int .i64 g.1, .sl (.pair (.int .i64) (.pair (.int .i64) (.pair (.int .i64) .bool))) g.2])] ?_
 obtain ⟨v0, hv1, h⟩ := Option.bind_eq_some_iff.1 h
 refine zC [] [] (hc_lineallaw07_Long g hv1) [(1, .int .u8 thread), (2, .sl (.int .i64) path), (3, .bp 3 0), (27, .bool (decide (100 < (g.2.length : Int))))] [(3, .box 24 [.int .i64 g.1, .sl (.pair (.int .i64) (.pair (.int .i64) (.pair (.int .i64) .bool))) g.2])] ?_
 refine zS 1 [(1, .int .u8 thread), (2, .sl (.int .i64) path), (3, .bp 3 0), (28, .bool (decide (100 < (g.2.length : Int))))] [(3, .box 24 [.int .i64 g.1, .sl (.pair (.int .i64) (.pair (.int .i64) (.pair (.int .i64) .bool))) g.2])] ?_
 rcases zI h with ⟨hb2, h⟩ | ⟨hb2, h⟩
 ·refine zS 5 [(1, .int .u8 thread), (2, .sl (.int .i64) path), (3, .bp 3 0), (33, .bool true)] [(3, .box 24 [.int .i64 g.1, .sl (.pair (.int .i64) (.pair (.int .i64) (.pair (.int .i64) .bool))) g.2])] ?_
  refine zB [(1, .int .u8 thread), (2, .sl (.int .i64) path), (3, .bp 3 0), (36, .bool true)] [(3, .box 24 [.int .i64 g.1, .sl (.pair (.int .i64) (.pair (.int .i64) (.pair (.int .i64) .bool))) g.2])] ?_
  refine AW.cond (b := true) rfl (fun _ => ?_) (fun hb3 => by cases hb3)
  refine zo ?_
  obtain ⟨v0_2, hv4, h⟩ := Option.bind_eq_some_iff.1 h
  refine zC [] [] (hc_lineallaw07_Awake hv4) [(37, .bool v0_2)] [] ?_
  refine zB [(6, .bool v0_2)] [] ?_
  refine zr ?_
  obtain rfl := Option.some.inj h
  exact zR [] [] []
 ·refine zS 1 [(1, .int .u8 thread), (2, .sl (.int .i64) path), (3, .bp 3 0), (28, .bool false), (29, .agg [.int .i64 g.1, .sl (.pair (.int .i64) (.pair (.int .i64) (.pair (.int .i64) .bool))) g.2])] [(3, .box 24 [.int .i64 g.1, .sl (.pair (.int .i64) (.pair (.int .i64) (.pair (.int .i64) .bool))) g.2])] ?_
  obtain ⟨v0_3, hv5, h⟩ := Option.bind_eq_some_iff.1 h
  refine zG [] [] (hc_linealref07_Valid g hv5) [(1, .int .u8 thread), (2, .sl (.int .i64) path), (3, .bp 3 0), (28, .bool false), (30, .bool v0_3)] [(3, .box 24 [.int .i64 g.1, .sl (.pair (.int .i64) (.pair (.int .i64) (.pair (.int .i64) .bool))) g.2])] ?_
  refine zS 3 [(1, .int .u8 thread), (2, .sl (.int .i64) path), (3, .bp 3 0), (33, .bool (!v0_3))] [(3, .box 24 [.int .i64 g.1, .sl (.pair (.int .i64) (.pair (.int .i64) (.pair (.int .i64) .bool))) g.2])] ?_
  rcases zI h with ⟨hb6, h⟩ | ⟨hb6, h⟩
  ·refine zB [(1, .int .u8 thread), (2, .sl (.int .i64) path), (3, .bp 3 0), (36, .bool true)] [(3, .box 24 [.int .i64 g.1, .sl (.pair (.int .i64) (.pair (.int .i64) (.pair (.int .i64) .bool))) g.2])] ?_
   refine AW.cond (b := true) rfl (fun _ => ?_) (fun hb7 => by cases hb7)
   refine zo ?_
   obtain ⟨v0_4, hv8, h⟩ := Option.bind_eq_some_iff.1 h
   refine zC [] [] (hc_lineallaw07_Awake hv8) [(37, .bool v0_4)] [] ?_
   refine zB [(6, .bool v0_4)] [] ?_
   refine zr ?_
   obtain rfl := Option.some.inj h
   exact zR [] [] []
  ·refine zS 1 [(1, .int .u8 thread), (2, .sl (.int .i64) path), (3, .bp 3 0), (33, .bool false), (34, .sl (.int .i64) path)] [(3, .box 24 [.int .i64 g.1, .sl (.pair (.int .i64) (.pair (.int .i64) (.pair (.int .i64) .bool))) g.2])] ?_
   obtain ⟨v0_5, hv9, h⟩ := Option.bind_eq_some_iff.1 h
   refine zG [] [] (hc_lineallaw07_many path hv9) [(1, .int .u8 thread), (2, .sl (.int .i64) path), (3, .bp 3 0), (33, .bool false), (35, .bool (decide (1100 < (path.length : Int))))] [(3, .box 24 [.int .i64 g.1, .sl (.pair (.int .i64) (.pair (.int .i64) (.pair (.int .i64) .bool))) g.2])] ?_
   refine zB [(1, .int .u8 thread), (2, .sl (.int .i64) path), (3, .bp 3 0), (36, .bool (decide (1100 < (path.length : Int))))] [(3, .box 24 [.int .i64 g.1, .sl (.pair (.int .i64) (.pair (.int .i64) (.pair (.int .i64) .bool))) g.2])] ?_
   refine zQ h (fun hb10 h => ?_) (fun hb10 h => ?_)
   ·refine zo ?_
    obtain ⟨v0_6, hv11, h⟩ := Option.bind_eq_some_iff.1 h
    refine zC [] [] (hc_lineallaw07_Awake hv11) [(37, .bool v0_6)] [] ?_
    refine zB [(6, .bool v0_6)] [] ?_
    refine zr ?_
    obtain rfl := Option.some.inj h
    exact zR [] [] []
   ·refine zk ?_
    refine zo ?_
    obtain ⟨c12, h⟩ := ck_some.1 h
    obtain ⟨c13, h⟩ := ck_some.1 h
    refine zB [(2, .sl (.int .i64) path), (3, .bp 3 0), (7, .int .i64 (thread % 3))] [(3, .box 24 [.int .i64 g.1, .sl (.pair (.int .i64) (.pair (.int .i64) (.pair (.int .i64) .bool))) g.2])] ?_
    refine zo ?_
    refine zS 1 [(2, .sl (.int .i64) path), (3, .bp 3 0), (7, .int .i64 (thread % 3)), (42, .agg [.int .i64 g.1, .sl (.pair (.int .i64) (.pair (.int .i64) (.pair (.int .i64) .bool))) g.2])] [(3, .box 24 [.int .i64 g.1, .sl (.pair (.int .i64) (.pair (.int .i64) (.pair (.int .i64) .bool))) g.2])] ?_
    obtain ⟨v0_7, hv14, h⟩ := Option.bind_eq_some_iff.1 h
    refine zC [] [] (hc_progress_Longest g hv14) [(2, .sl (.int .i64) path), (3, .bp 3 0), (7, .int .i64 (thread % 3)), (43, .tup [.int .i64 v0_7.1, .int .i64 v0_7.2])] [(3, .box 24 [.int .i64 g.1, .sl (.pair (.int .i64) (.pair (.int .i64) (.pair (.int .i64) .bool))) g.2])] ?_
    refine zB [(2, .sl (.int .i64) path), (3, .bp 3 0), (7, .int .i64 (thread % 3)), (8, .int .i64 v0_7.1), (9, .int .i64 v0_7.2)] [(3, .box 24 [.int .i64 g.1, .sl (.pair (.int .i64) (.pair (.int .i64) (.pair (.int .i64) .bool))) g.2])] ?_
    refine zo ?_
    refine zS 1 [(2, .sl (.int .i64) path), (3, .bp 3 0), (7, .int .i64 (thread % 3)), (8, .int .i64 v0_7.1), (9, .int .i64 v0_7.2), (47, .agg [.int .i64 g.1, .sl (.pair (.int .i64) (.pair (.int .i64) (.pair (.int .i64) .bool))) g.2])] [(3, .box 24 [.int .i64 g.1, .sl (.pair (.int .i64) (.pair (.int .i64) (.pair (.int .i64) .bool))) g.2])] ?_
    obtain ⟨v0_8, hv15, h⟩ := Option.bind_eq_some_iff.1 h
    refine zC [] [] (hc_progress_Ranks g 0 0 hv15) [(2, .sl (.int .i64) path), (3, .bp 3 0), (7, .int .i64 (thread % 3)), (8, .int .i64 v0_7.1), (9, .int .i64 v0_7.2), (48, .tup [.own 58000, .int .i64 v0_8.2])] [(3, .box 24 [.int .i64 g.1, .sl (.pair (.int .i64) (.pair (.int .i64) (.pair (.int .i64) .bool))) g.2]), (58000, .arr 3 (.int .i64) v0_8.1)] ?_
    refine zB [(2, .sl (.int .i64) path), (3, .bp 3 0), (7, .int .i64 (thread % 3)), (8, .int .i64 v0_7.1), (9, .int .i64 v0_7.2), (10, .own 58000), (11, .int .i64 v0_8.2)] [(3, .box 24 [.int .i64 g.1, .sl (.pair (.int .i64) (.pair (.int .i64) (.pair (.int .i64) .bool))) g.2]), (58000, .arr 3 (.int .i64) v0_8.1)] ?_
    refine zo ?_
    refine zS 2 [(2, .sl (.int .i64) path), (3, .bp 3 0), (7, .int .i64 (thread % 3)), (8, .int .i64 v0_7.1), (9, .int .i64 v0_7.2), (10, .own 58000), (11, .int .i64 v0_8.2), (52, .agg [.int .i64 g.1, .sl (.pair (.int .i64) (.pair (.int .i64) (.pair (.int .i64) .bool))) g.2]), (53, .int .i64 (thread % 3))] [(3, .box 24 [.int .i64 g.1, .sl (.pair (.int .i64) (.pair (.int .i64) (.pair (.int .i64) .bool))) g.2]), (58000, .arr 3 (.int .i64) v0_8.1)] ?_
    obtain ⟨v0_9, hv16, h⟩ := Option.bind_eq_some_iff.1 h
    refine zC [] [] (hc_progress_Bound g (thread % 3) hv16) [(2, .sl (.int .i64) path), (3, .bp 3 0), (7, .int .i64 (thread % 3)), (8, .int .i64 v0_7.1), (9, .int .i64 v0_7.2), (10, .own 58000), (11, .int .i64 v0_8.2), (54, .tup [.int .i64 v0_9.1, .int .i64 v0_9.2])] [(3, .box 24 [.int .i64 g.1, .sl (.pair (.int .i64) (.pair (.int .i64) (.pair (.int .i64) .bool))) g.2]), (58000, .arr 3 (.int .i64) v0_8.1)] ?_
    refine zB [(2, .sl (.int .i64) path), (3, .bp 3 0), (7, .int .i64 (thread % 3)), (8, .int .i64 v0_7.1), (9, .int .i64 v0_7.2), (10, .own 58000), (11, .int .i64 v0_8.2), (12, .int .i64 v0_9.1), (13, .int .i64 v0_9.2)] [(3, .box 24 [.int .i64 g.1, .sl (.pair (.int .i64) (.pair (.int .i64) (.pair (.int .i64) .bool))) g.2]), (58000, .arr 3 (.int .i64) v0_8.1)] ?_
    refine zo ?_
    refine zS 2 [(2, .sl (.int .i64) path), (3, .bp 3 0), (7, .int .i64 (thread % 3)), (8, .int .i64 v0_7.1), (9, .int .i64 v0_7.2), (10, .own 58000), (11, .int .i64 v0_8.2), (12, .int .i64 v0_9.1), (13, .int .i64 v0_9.2), (58, .agg [.int .i64 g.1, .sl (.pair (.int .i64) (.pair (.int .i64) (.pair (.int .i64) .bool))) g.2]), (59, .int .i64 (thread % 3))] [(3, .box 24 [.int .i64 g.1, .sl (.pair (.int .i64) (.pair (.int .i64) (.pair (.int .i64) .bool))) g.2]), (58000, .arr 3 (.int .i64) v0_8.1)] ?_
    obtain ⟨v0_10, hv17, h⟩ := Option.bind_eq_some_iff.1 h
    refine zC [] [] (hc_progress_Ranks g 1 (thread % 3) hv17) [(2, .sl (.int .i64) path), (3, .bp 3 0), (7, .int .i64 (thread % 3)), (8, .int .i64 v0_7.1), (9, .int .i64 v0_7.2), (10, .own 58000), (11, .int .i64 v0_8.2), (12, .int .i64 v0_9.1), (13, .int .i64 v0_9.2), (60, .tup [.own 70000, .int .i64 v0_10.2])] [(3, .box 24 [.int .i64 g.1, .sl (.pair (.int .i64) (.pair (.int .i64) (.pair (.int .i64) .bool))) g.2]), (58000, .arr 3 (.int .i64) v0_8.1), (70000, .arr 3 (.int .i64) v0_10.1)] ?_
    refine zB [(2, .sl (.int .i64) path), (3, .bp 3 0), (7, .int .i64 (thread % 3)), (8, .int .i64 v0_7.1), (9, .int .i64 v0_7.2), (10, .own 58000), (11, .int .i64 v0_8.2), (12, .int .i64 v0_9.1), (13, .int .i64 v0_9.2), (14, .own 70000), (15, .int .i64 v0_10.2)] [(3, .box 24 [.int .i64 g.1, .sl (.pair (.int .i64) (.pair (.int .i64) (.pair (.int .i64) .bool))) g.2]), (58000, .arr 3 (.int .i64) v0_8.1), (70000, .arr 3 (.int .i64) v0_10.1)] ?_
    refine zo ?_
    refine zS 1 [(2, .sl (.int .i64) path), (3, .bp 3 0), (7, .int .i64 (thread % 3)), (8, .int .i64 v0_7.1), (9, .int .i64 v0_7.2), (10, .own 58000), (11, .int .i64 v0_8.2), (12, .int .i64 v0_9.1), (13, .int .i64 v0_9.2), (14, .own 70000), (15, .int .i64 v0_10.2), (64, .agg [.int .i64 g.1, .sl (.pair (.int .i64) (.pair (.int .i64) (.pair (.int .i64) .bool))) g.2])] [(3, .box 24 [.int .i64 g.1, .sl (.pair (.int .i64) (.pair (.int .i64) (.pair (.int .i64) .bool))) g.2]), (58000, .arr 3 (.int .i64) v0_8.1), (70000, .arr 3 (.int .i64) v0_10.1)] ?_
    obtain ⟨v0_11, hv18, h⟩ := Option.bind_eq_some_iff.1 h
    refine zC [] [] (hc_progress_Reached g hv18) [(2, .sl (.int .i64) path), (3, .bp 3 0), (7, .int .i64 (thread % 3)), (8, .int .i64 v0_7.1), (9, .int .i64 v0_7.2), (10, .own 58000), (11, .int .i64 v0_8.2), (12, .int .i64 v0_9.1), (13, .int .i64 v0_9.2), (14, .own 70000), (15, .int .i64 v0_10.2), (65, .tup [.own 75000, .int .i64 v0_11.2])] [(3, .box 24 [.int .i64 g.1, .sl (.pair (.int .i64) (.pair (.int .i64) (.pair (.int .i64) .bool))) g.2]), (58000, .arr 3 (.int .i64) v0_8.1), (70000, .arr 3 (.int .i64) v0_10.1), (75000, .arr 3 (.int .i64) v0_11.1)] ?_
    refine zB [(2, .sl (.int .i64) path), (3, .bp 3 0), (7, .int .i64 (thread % 3)), (8, .int .i64 v0_7.1), (9, .int .i64 v0_7.2), (10, .own 58000), (11, .int .i64 v0_8.2), (12, .int .i64 v0_9.1), (13, .int .i64 v0_9.2), (14, .own 70000), (15, .int .i64 v0_10.2), (16, .own 75000), (17, .int .i64 v0_11.2)] [(3, .box 24 [.int .i64 g.1, .sl (.pair (.int .i64) (.pair (.int .i64) (.pair (.int .i64) .bool))) g.2]), (58000, .arr 3 (.int .i64) v0_8.1), (70000, .arr 3 (.int .i64) v0_10.1), (75000, .arr 3 (.int .i64) v0_11.1)] ?_
    refine zo ?_
    refine zS 2 [(2, .sl (.int .i64) path), (3, .bp 3 0), (7, .int .i64 (thread % 3)), (8, .int .i64 v0_7.1), (9, .int .i64 v0_7.2), (10, .own 58000), (11, .int .i64 v0_8.2), (12, .int .i64 v0_9.1), (13, .int .i64 v0_9.2), (14, .own 70000), (15, .int .i64 v0_10.2), (16, .own 75000), (17, .int .i64 v0_11.2), (69, .agg [.int .i64 g.1, .sl (.pair (.int .i64) (.pair (.int .i64) (.pair (.int .i64) .bool))) g.2]), (70, .sl (.int .i64) path)] [(3, .box 24 [.int .i64 g.1, .sl (.pair (.int .i64) (.pair (.int .i64) (.pair (.int .i64) .bool))) g.2]), (58000, .arr 3 (.int .i64) v0_8.1), (70000, .arr 3 (.int .i64) v0_10.1), (75000, .arr 3 (.int .i64) v0_11.1)] ?_
    obtain ⟨v0_12, hv19, h⟩ := Option.bind_eq_some_iff.1 h
    refine zC [] [] (hc_linealref07_IsPath g path hv19) [(2, .sl (.int .i64) path), (3, .bp 3 0), (7, .int .i64 (thread % 3)), (8, .int .i64 v0_7.1), (9, .int .i64 v0_7.2), (10, .own 58000), (11, .int .i64 v0_8.2), (12, .int .i64 v0_9.1), (13, .int .i64 v0_9.2), (14, .own 70000), (15, .int .i64 v0_10.2), (16, .own 75000), (17, .int .i64 v0_11.2), (71, .tup [.bool v0_12.1, .int .i64 v0_12.2])] [(3, .box 24 [.int .i64 g.1, .sl (.pair (.int .i64) (.pair (.int .i64) (.pair (.int .i64) .bool))) g.2]), (58000, .arr 3 (.int .i64) v0_8.1), (70000, .arr 3 (.int .i64) v0_10.1), (75000, .arr 3 (.int .i64) v0_11.1)] ?_
    refine zB [(2, .sl (.int .i64) path), (3, .bp 3 0), (7, .int .i64 (thread % 3)), (8, .int .i64 v0_7.1), (9, .int .i64 v0_7.2), (10, .own 58000), (11, .int .i64 v0_8.2), (12, .int .i64 v0_9.1), (13, .int .i64 v0_9.2), (14, .own 70000), (15, .int .i64 v0_10.2), (16, .own 75000), (17, .int .i64 v0_11.2), (18, .bool v0_12.1), (19, .int .i64 v0_12.2)] [(3, .box 24 [.int .i64 g.1, .sl (.pair (.int .i64) (.pair (.int .i64) (.pair (.int .i64) .bool))) g.2]), (58000, .arr 3 (.int .i64) v0_8.1), (70000, .arr 3 (.int .i64) v0_10.1), (75000, .arr 3 (.int .i64) v0_11.1)] ?_
    refine AW.have1 (fun _ : Unit => lineallaw07_ProgressLongest_k1 g thread path v0_7 v0_9 v0_11 v0_12 = some r) (fun _ => ⟨fr [(2, .sl (.int .i64) path), (3, .bp 3 0), (7, .int .i64 (thread % 3)), (8, .int .i64 v0_7.1), (9, .int .i64 v0_7.2), (12, .int .i64 v0_9.1), (13, .int .i64 v0_9.2), (16, .own 75000), (18, .bool v0_12.1)], hpGet [(3, .box 24 [.int .i64 g.1, .sl (.pair (.int .i64) (.pair (.int .i64) (.pair (.int .i64) .bool))) g.2]), (75000, .arr 3 (.int .i64) v0_11.1)], gt⟩) (fun _ h => ?_) (fun hk_lineallaw07_ProgressLongest_k1 => ?_)
    ·as_aux_lemma =>
      unfold lineallaw07_ProgressLongest_k1 at h
      refine AW.seq ?_
      refine AW.seq ?_
      refine AW.draw tab_ok mixed_ok [] [] (by decide) (lex_fast (by kernel_rfl)) ?_
      as_aux_lemma =>
       refine adops_cut 3 (fun K' hK20 => ?_)
       try dsimp only [List.drop_succ_cons, List.drop_zero, List.take_succ_cons, List.take_zero]
       simp only [go_sem, hb2, hb6, hb10]
       repeat with_reducible refine zN ?_
       refine hK20 _ ?_
       as_aux_lemma =>
        rcases zI h with ⟨hb21, h⟩ | ⟨hb21, h⟩
        ·simp only [hb21]
         as_aux_lemma =>
          refine adops_cut 6 (fun K' hK22 => ?_)
          try dsimp only [List.drop_succ_cons, List.drop_zero, List.take_succ_cons, List.take_zero]
          simp only [go_sem, hb2, hb6, hb10, hb21]
          repeat with_reducible refine zN ?_
          refine hK22 _ ?_
          as_aux_lemma =>
           refine adops_cut 4 (fun K' hK23 => ?_)
           try dsimp only [List.drop_succ_cons, List.drop_zero, List.take_succ_cons, List.take_zero]
           simp only [go_sem, hb2, hb6, hb10, hb21]
           repeat with_reducible refine zN ?_
           refine hK23 _ ?_
           as_aux_lemma =>
            refine adops_cut 4 (fun K' hK24 => ?_)
            try dsimp only [List.drop_succ_cons, List.drop_zero, List.take_succ_cons, List.take_zero]
            simp only [go_sem, hb2, hb6, hb10, hb21]
            repeat with_reducible refine zN ?_
            refine hK24 _ ?_
            as_aux_lemma =>
             refine adops_cut 3 (fun K' hK25 => ?_)
             try dsimp only [List.drop_succ_cons, List.drop_zero, List.take_succ_cons, List.take_zero]
             simp only [go_sem, hb2, hb6, hb10, hb21]
             repeat with_reducible refine zN ?_
             refine hK25 _ ?_
             refine adops_nil ?_
             refine athen_n ?_
             refine zV [(2, .sl (.int .i64) path), (3, .bp 3 0), (7, .int .i64 (thread % 3)), (8, .int .i64 v0_7.1), (9, .int .i64 v0_7.2), (12, .int .i64 v0_9.1), (13, .int .i64 v0_9.2), (141, .bool true)] [(3, .box 24 [.int .i64 g.1, .sl (.pair (.int .i64) (.pair (.int .i64) (.pair (.int .i64) .bool))) g.2])] gt ?_
             as_aux_lemma =>
              refine AW.cond (b := true) rfl (fun _ => ?_) (fun hb26 => by cases hb26)
              refine zo ?_
              obtain ⟨v0_21, hv27, h⟩ := Option.bind_eq_some_iff.1 h
              refine zC [] [] (hc_lineallaw07_Awake hv27) [(142, .bool v0_21)] [] ?_
              refine zB [(6, .bool v0_21)] [] ?_
              refine zr ?_
              obtain rfl := Option.some.inj h
              exact zR [] [] []
        ·simp only [hb21]
         as_aux_lemma =>
          refine adops_cut 5 (fun K' hK28 => ?_)
          try dsimp only [List.drop_succ_cons, List.drop_zero, List.take_succ_cons, List.take_zero]
          simp only [go_sem, hb2, hb6, hb10, hb21]
          repeat with_reducible refine zN ?_
          refine hK28 _ ?_
          as_aux_lemma =>
           rcases zI h with ⟨hb29, h⟩ | ⟨hb29, h⟩
           ·simp only [hb29]
            as_aux_lemma =>
             refine adops_cut 4 (fun K' hK30 => ?_)
             try dsimp only [List.drop_succ_cons, List.drop_zero, List.take_succ_cons, List.take_zero]
             simp only [go_sem, hb2, hb6, hb10, hb21, hb29]
             repeat with_reducible refine zN ?_
             refine hK30 _ ?_
             as_aux_lemma =>
              refine adops_cut 4 (fun K' hK31 => ?_)
              try dsimp only [List.drop_succ_cons, List.drop_zero, List.take_succ_cons, List.take_zero]
              simp only [go_sem, hb2, hb6, hb10, hb21, hb29]
              repeat with_reducible refine zN ?_
              refine hK31 _ ?_
              as_aux_lemma =>
               refine adops_cut 4 (fun K' hK32 => ?_)
               try dsimp only [List.drop_succ_cons, List.drop_zero, List.take_succ_cons, List.take_zero]
               simp only [go_sem, hb2, hb6, hb10, hb21, hb29]
               repeat with_reducible refine zN ?_
               refine hK32 _ ?_
               refine adops_nil ?_
               refine athen_n ?_
               refine zV [(2, .sl (.int .i64) path), (3, .bp 3 0), (7, .int .i64 (thread % 3)), (8, .int .i64 v0_7.1), (9, .int .i64 v0_7.2), (12, .int .i64 v0_9.1), (13, .int .i64 v0_9.2), (141, .bool true)] [(3, .box 24 [.int .i64 g.1, .sl (.pair (.int .i64) (.pair (.int .i64) (.pair (.int .i64) .bool))) g.2])] gt ?_
               as_aux_lemma =>
                refine AW.cond (b := true) rfl (fun _ => ?_) (fun hb33 => by cases hb33)
                refine zo ?_
                obtain ⟨v0_22, hv34, h⟩ := Option.bind_eq_some_iff.1 h
                refine zC [] [] (hc_lineallaw07_Awake hv34) [(142, .bool v0_22)] [] ?_
                refine zB [(6, .bool v0_22)] [] ?_
                refine zr ?_
                obtain rfl := Option.some.inj h
                exact zR [] [] []
           ·simp only [hb29]
            as_aux_lemma =>
             obtain ⟨c36, h⟩ := ck_some.1 h
             refine adops_cut 6 (fun K' hK35 => ?_)
             try dsimp only [List.drop_succ_cons, List.drop_zero, List.take_succ_cons, List.take_zero]
             simp only [go_sem, hb2, hb6, hb10, hb21, hb29]
             repeat with_reducible refine zN ?_
             refine hK35 _ ?_
             as_aux_lemma =>
              obtain ⟨c38, h⟩ := ck_some.1 h
              obtain ⟨c39, h⟩ := ck_some.1 h
              refine adops_cut 3 (fun K' hK37 => ?_)
              try dsimp only [List.drop_succ_cons, List.drop_zero, List.take_succ_cons, List.take_zero]
              simp only [go_sem, hb2, hb6, hb10, hb21, hb29]
              repeat with_reducible refine zN ?_
              refine hK37 _ ?_
              as_aux_lemma =>
               obtain ⟨v0_23, hv40, h⟩ := Option.bind_eq_some_iff.1 h
               refine adops.call (by first | trivial | rfl) rfl rfl rfl (fun _ h => ⟨fun _ => h, fun hn => absurd rfl hn⟩) [75000] [] (hc_lineallaw07_in v0_11.1 (g.2.getD (path.getD 0 0).toNat (0, 0, 0, false)).1 hv40) rfl (by (simp only [go_sem, hb2, hb6, hb10, hb21, hb29]) <;> (with_reducible and_intros) <;> first | assumption | rfl | omega | (unfold maxLen; omega)) (by (simp only [go_sem, hb2, hb6, hb10, hb21, hb29]) <;> (with_reducible and_intros) <;> first | assumption | rfl | omega | (unfold maxLen; omega)) rfl ?_
               refine adops_cut 2 (fun K' hK41 => ?_)
               try dsimp only [List.drop_succ_cons, List.drop_zero, List.take_succ_cons, List.take_zero]
               simp only [go_sem, hb2, hb6, hb10, hb21, hb29]
               repeat with_reducible refine zN ?_
               refine hK41 _ ?_
               refine adops_nil ?_
               refine athen_n ?_
               refine zV [(2, .sl (.int .i64) path), (3, .bp 3 0), (7, .int .i64 (thread % 3)), (8, .int .i64 v0_7.1), (9, .int .i64 v0_7.2), (12, .int .i64 v0_9.1), (13, .int .i64 v0_9.2), (141, .bool (!v0_23))] [(3, .box 24 [.int .i64 g.1, .sl (.pair (.int .i64) (.pair (.int .i64) (.pair (.int .i64) .bool))) g.2])] gt ?_
               as_aux_lemma =>
                refine zQ h (fun hb42 h => ?_) (fun hb42 h => ?_)
                ·refine zo ?_
                 obtain ⟨v0_24, hv43, h⟩ := Option.bind_eq_some_iff.1 h
                 refine zC [] [] (hc_lineallaw07_Awake hv43) [(142, .bool v0_24)] [] ?_
                 refine zB [(6, .bool v0_24)] [] ?_
                 refine zr ?_
                 obtain rfl := Option.some.inj h
                 exact zR [] [] []
                ·refine zk ?_
                 refine zo ?_
                 refine zB [(2, .sl (.int .i64) path), (3, .bp 3 0), (7, .int .i64 (thread % 3)), (8, .int .i64 v0_7.1), (9, .int .i64 v0_7.2), (12, .int .i64 v0_9.1), (13, .int .i64 v0_9.2), (20, .bool true), (21, .bool true), (22, .int .i64 0)] [(3, .box 24 [.int .i64 g.1, .sl (.pair (.int .i64) (.pair (.int .i64) (.pair (.int .i64) .bool))) g.2])] ?_
                 refine AW.have1 (fun b2 : Bool × Bool × Int => lineallaw07_ProgressLongest_k2 path v0_7 v0_9 b2 = some r) (fun b2 => ⟨fr [(2, .sl (.int .i64) path), (8, .int .i64 v0_7.1), (9, .int .i64 v0_7.2), (12, .int .i64 v0_9.1), (13, .int .i64 v0_9.2), (20, .bool b2.1), (21, .bool b2.2.1), (22, .int .i64 b2.2.2)], hpGet [], gt⟩) (fun b2 h => ?_) (fun hk_lineallaw07_ProgressLongest_k2 => ?_)
                 ·as_aux_lemma =>
                   unfold lineallaw07_ProgressLongest_k2 at h
                   refine zo ?_
                   refine zS 3 [(2, .sl (.int .i64) path), (8, .int .i64 v0_7.1), (9, .int .i64 v0_7.2), (12, .int .i64 v0_9.1), (13, .int .i64 v0_9.2), (21, .bool b2.2.1), (22, .int .i64 b2.2.2), (175, .bool (!b2.1))] [] ?_
                   rcases zI h with ⟨hb44, h⟩ | ⟨hb44, h⟩
                   ·refine zS 5 [(8, .int .i64 v0_7.1), (12, .int .i64 v0_9.1), (13, .int .i64 v0_9.2), (21, .bool b2.2.1), (22, .int .i64 b2.2.2), (179, .bool true), (180, .cv (undef))] [] ?_
                    refine zS 5 [(12, .int .i64 v0_9.1), (13, .int .i64 v0_9.2), (21, .bool b2.2.1), (22, .int .i64 b2.2.2), (185, .bool true)] [] ?_
                    refine zS 3 [(12, .int .i64 v0_9.1), (13, .int .i64 v0_9.2), (22, .int .i64 b2.2.2), (185, .bool true), (188, .bool (!b2.2.1))] [] ?_
                    rcases zI h with ⟨hb45, h⟩ | ⟨hb45, h⟩
                    ·refine zS 5 [(12, .int .i64 v0_9.1), (185, .bool true), (192, .bool true), (193, .cv (undef))] [] ?_
                     refine zS 5 [(198, .bool true)] [] ?_
                     obtain ⟨v0_25, hv46, h⟩ := Option.bind_eq_some_iff.1 h
                     refine zG [] [] (hc_lineallaw07_Awake hv46) [(198, .bool true), (199, .bool v0_25)] [] ?_
                     refine zB [(6, .bool v0_25)] [] ?_
                     refine AW.ret ?_
                     obtain rfl := Option.some.inj h
                     exact zR [] [] []
                    ·refine zS 4 [(12, .int .i64 v0_9.1), (22, .int .i64 b2.2.2), (185, .bool true), (192, .bool (!(decide (v0_9.2 = 0))))] [] ?_
                     rcases zI h with ⟨hb47, h⟩ | ⟨hb47, h⟩
                     ·refine zS 5 [(197, .bool true)] [] ?_
                      refine zS 1 [(198, .bool true)] [] ?_
                      obtain ⟨v0_26, hv48, h⟩ := Option.bind_eq_some_iff.1 h
                      refine zG [] [] (hc_lineallaw07_Awake hv48) [(198, .bool true), (199, .bool v0_26)] [] ?_
                      refine zB [(6, .bool v0_26)] [] ?_
                      refine AW.ret ?_
                      obtain rfl := Option.some.inj h
                      exact zR [] [] []
                     ·refine zS 5 [(197, .bool (decide (b2.2.2 ≤ v0_9.1)))] [] ?_
                      refine zS 1 [(198, .bool (decide (b2.2.2 ≤ v0_9.1)))] [] ?_
                      rcases zI h with ⟨hb49, h⟩ | ⟨hb49, h⟩
                      ·refine zT [(198, .bool true)] [] gt ?_
                       obtain ⟨v0_27, hv50, h⟩ := Option.bind_eq_some_iff.1 h
                       refine zG [] [] (hc_lineallaw07_Awake hv50) [(198, .bool true), (199, .bool v0_27)] [] ?_
                       refine zB [(6, .bool v0_27)] [] ?_
                       refine AW.ret ?_
                       obtain rfl := Option.some.inj h
                       exact zR [] [] []
                      ·refine zB [(6, .bool false)] [] ?_
                       refine AW.ret ?_
                       obtain rfl := Option.some.inj h
                       exact zR [] [] []
                   ·refine zS 4 [(2, .sl (.int .i64) path), (8, .int .i64 v0_7.1), (12, .int .i64 v0_9.1), (13, .int .i64 v0_9.2), (21, .bool b2.2.1), (22, .int .i64 b2.2.2), (179, .bool (!(decide (v0_7.2 = 0))))] [] ?_
                    rcases zI h with ⟨hb51, h⟩ | ⟨hb51, h⟩
                    ·refine zS 4 [(12, .int .i64 v0_9.1), (13, .int .i64 v0_9.2), (21, .bool b2.2.1), (22, .int .i64 b2.2.2), (179, .bool true), (183, .cv (undef))] [] ?_
                     refine zS 5 [(12, .int .i64 v0_9.1), (13, .int .i64 v0_9.2), (22, .int .i64 b2.2.2), (185, .bool true), (188, .bool (!b2.2.1))] [] ?_
                     rcases zI h with ⟨hb52, h⟩ | ⟨hb52, h⟩
                     ·refine zS 5 [(12, .int .i64 v0_9.1), (185, .bool true), (192, .bool true), (193, .cv (undef))] [] ?_
                      refine zS 5 [(198, .bool true)] [] ?_
                      obtain ⟨v0_28, hv53, h⟩ := Option.bind_eq_some_iff.1 h
                      refine zG [] [] (hc_lineallaw07_Awake hv53) [(198, .bool true), (199, .bool v0_28)] [] ?_
                      refine zB [(6, .bool v0_28)] [] ?_
                      refine AW.ret ?_
                      obtain rfl := Option.some.inj h
                      exact zR [] [] []
                     ·refine zS 4 [(12, .int .i64 v0_9.1), (22, .int .i64 b2.2.2), (185, .bool true), (192, .bool (!(decide (v0_9.2 = 0))))] [] ?_
                      rcases zI h with ⟨hb54, h⟩ | ⟨hb54, h⟩
                      ·refine zS 5 [(197, .bool true)] [] ?_
                       refine zS 1 [(198, .bool true)] [] ?_
                       obtain ⟨v0_29, hv55, h⟩ := Option.bind_eq_some_iff.1 h
                       refine zG [] [] (hc_lineallaw07_Awake hv55) [(198, .bool true), (199, .bool v0_29)] [] ?_
                       refine zB [(6, .bool v0_29)] [] ?_
                       refine AW.ret ?_
                       obtain rfl := Option.some.inj h
                       exact zR [] [] []
                      ·refine zS 5 [(197, .bool (decide (b2.2.2 ≤ v0_9.1)))] [] ?_
                       refine zS 1 [(198, .bool (decide (b2.2.2 ≤ v0_9.1)))] [] ?_
                       rcases zI h with ⟨hb56, h⟩ | ⟨hb56, h⟩
                       ·refine zT [(198, .bool true)] [] gt ?_
                        obtain ⟨v0_30, hv57, h⟩ := Option.bind_eq_some_iff.1 h
                        refine zG [] [] (hc_lineallaw07_Awake hv57) [(198, .bool true), (199, .bool v0_30)] [] ?_
                        refine zB [(6, .bool v0_30)] [] ?_
                        refine AW.ret ?_
                        obtain rfl := Option.some.inj h
                        exact zR [] [] []
                       ·refine zB [(6, .bool false)] [] ?_
                        refine AW.ret ?_
                        obtain rfl := Option.some.inj h
                        exact zR [] [] []
                    ·refine zS 5 [(12, .int .i64 v0_9.1), (13, .int .i64 v0_9.2), (21, .bool b2.2.1), (22, .int .i64 b2.2.2), (184, .bool (decide ((path.length : Int) ≤ v0_7.1)))] [] ?_
                     refine zS 1 [(12, .int .i64 v0_9.1), (13, .int .i64 v0_9.2), (21, .bool b2.2.1), (22, .int .i64 b2.2.2), (185, .bool (decide ((path.length : Int) ≤ v0_7.1)))] [] ?_
                     rcases zI h with ⟨hb58, h⟩ | ⟨hb58, h⟩
                     ·refine zS 3 [(12, .int .i64 v0_9.1), (13, .int .i64 v0_9.2), (22, .int .i64 b2.2.2), (185, .bool true), (188, .bool (!b2.2.1))] [] ?_
                      rcases zI h with ⟨hb59, h⟩ | ⟨hb59, h⟩
                      ·refine zS 5 [(12, .int .i64 v0_9.1), (185, .bool true), (192, .bool true), (193, .cv (undef))] [] ?_
                       refine zS 5 [(198, .bool true)] [] ?_
                       obtain ⟨v0_31, hv60, h⟩ := Option.bind_eq_some_iff.1 h
                       refine zG [] [] (hc_lineallaw07_Awake hv60) [(198, .bool true), (199, .bool v0_31)] [] ?_
                       refine zB [(6, .bool v0_31)] [] ?_
                       refine AW.ret ?_
                       obtain rfl := Option.some.inj h
                       exact zR [] [] []
                      ·refine zS 4 [(12, .int .i64 v0_9.1), (22, .int .i64 b2.2.2), (185, .bool true), (192, .bool (!(decide (v0_9.2 = 0))))] [] ?_
                       rcases zI h with ⟨hb61, h⟩ | ⟨hb61, h⟩
                       ·refine zS 5 [(197, .bool true)] [] ?_
                        refine zS 1 [(198, .bool true)] [] ?_
                        obtain ⟨v0_32, hv62, h⟩ := Option.bind_eq_some_iff.1 h
                        refine zG [] [] (hc_lineallaw07_Awake hv62) [(198, .bool true), (199, .bool v0_32)] [] ?_
                        refine zB [(6, .bool v0_32)] [] ?_
                        refine AW.ret ?_
                        obtain rfl := Option.some.inj h
                        exact zR [] [] []
                       ·refine zS 5 [(197, .bool (decide (b2.2.2 ≤ v0_9.1)))] [] ?_
                        refine zS 1 [(198, .bool (decide (b2.2.2 ≤ v0_9.1)))] [] ?_
                        rcases zI h with ⟨hb63, h⟩ | ⟨hb63, h⟩
                        ·refine zT [(198, .bool true)] [] gt ?_
                         obtain ⟨v0_33, hv64, h⟩ := Option.bind_eq_some_iff.1 h
                         refine zG [] [] (hc_lineallaw07_Awake hv64) [(198, .bool true), (199, .bool v0_33)] [] ?_
                         refine zB [(6, .bool v0_33)] [] ?_
                         refine AW.ret ?_
                         obtain rfl := Option.some.inj h
                         exact zR [] [] []
                        ·refine zB [(6, .bool false)] [] ?_
                         refine AW.ret ?_
                         obtain rfl := Option.some.inj h
                         exact zR [] [] []
                     ·refine zS 4 [(12, .int .i64 v0_9.1), (22, .int .i64 b2.2.2), (185, .bool false), (188, .cv (undef)), (189, .cv (undef))] [] ?_
                      refine zS 4 [(12, .int .i64 v0_9.1), (185, .bool false), (192, .cv (undef)), (193, .cv (undef))] [] ?_
                      refine zS 5 [(198, .bool false)] [] ?_
                      refine zB [(6, .bool false)] [] ?_
                      refine AW.ret ?_
                      obtain rfl := Option.some.inj h
                      exact zR [] [] []
                 ·refine AW.seq ?_
                  refine zo ?_
                  refine zB [(2, .sl (.int .i64) path), (3, .bp 3 0), (7, .int .i64 (thread % 3)), (8, .int .i64 v0_7.1), (9, .int .i64 v0_7.2), (12, .int .i64 v0_9.1), (13, .int .i64 v0_9.2), (20, .bool true), (21, .bool true), (22, .int .i64 0), (143, .sl (.int .i64) path), (144, .int .i64 (path.length : Int)), (145, .int .i64 0)] [(3, .box 24 [.int .i64 g.1, .sl (.pair (.int .i64) (.pair (.int .i64) (.pair (.int .i64) .bool))) g.2])] ?_
                  refine AW.block ?_
                  obtain ⟨rv69, hw65, ho66⟩ := Option.bind_eq_some_iff.1 h
                  refine AW.loopO (lineallaw07_ProgressLongest_b1 g thread path) (fun st1 => ⟨fr [(2, .sl (.int .i64) path), (3, .bp 3 0), (7, .int .i64 (thread % 3)), (8, .int .i64 v0_7.1), (9, .int .i64 v0_7.2), (12, .int .i64 v0_9.1), (13, .int .i64 v0_9.2), (20, .bool st1.1), (21, .bool st1.2.1), (22, .int .i64 st1.2.2.1), (143, .sl (.int .i64) path), (144, .int .i64 (path.length : Int)), (145, .int .i64 st1.2.2.2)], hpGet [(3, .box 24 [.int .i64 g.1, .sl (.pair (.int .i64) (.pair (.int .i64) (.pair (.int .i64) .bool))) g.2])], gt⟩) (true, true, 0, 0) hw65 (zL [] [] []) ?_
                  as_aux_lemma =>
                   intro st1 x68 h hd67
                   unfold lineallaw07_ProgressLongest_b1 at h
                   refine zo ?_
                   refine zB [(2, .sl (.int .i64) path), (3, .bp 3 0), (7, .int .i64 (thread % 3)), (8, .int .i64 v0_7.1), (9, .int .i64 v0_7.2), (12, .int .i64 v0_9.1), (13, .int .i64 v0_9.2), (20, .bool st1.1), (21, .bool st1.2.1), (22, .int .i64 st1.2.2.1), (143, .sl (.int .i64) path), (144, .int .i64 (path.length : Int)), (145, .int .i64 st1.2.2.2), (146, .bool (decide (st1.2.2.2 < (path.length : Int))))] [(3, .box 24 [.int .i64 g.1, .sl (.pair (.int .i64) (.pair (.int .i64) (.pair (.int .i64) .bool))) g.2])] ?_
                   refine AW.seq ?_
                   refine zQ h (fun hb70 h => ?_) (fun hb70 h => ?_)
                   ·refine zk ?_
                    refine AW.seq ?_
                    refine AW.block ?_
                    refine zo ?_
                    obtain ⟨c71, h⟩ := ck_some.1 h
                    obtain ⟨c72, h⟩ := ck_some.1 h
                    refine zB [(2, .sl (.int .i64) path), (3, .bp 3 0), (7, .int .i64 (thread % 3)), (8, .int .i64 v0_7.1), (9, .int .i64 v0_7.2), (12, .int .i64 v0_9.1), (13, .int .i64 v0_9.2), (20, .bool st1.1), (21, .bool st1.2.1), (22, .int .i64 st1.2.2.1), (24, .int .i64 (path.getD st1.2.2.2.toNat 0)), (143, .sl (.int .i64) path), (144, .int .i64 (path.length : Int)), (145, .int .i64 st1.2.2.2)] [(3, .box 24 [.int .i64 g.1, .sl (.pair (.int .i64) (.pair (.int .i64) (.pair (.int .i64) .bool))) g.2])] ?_
                    refine zo ?_
                    obtain ⟨c73, h⟩ := ck_some.1 h
                    obtain ⟨c74, h⟩ := ck_some.1 h
                    refine zS 5 [(2, .sl (.int .i64) path), (3, .bp 3 0), (7, .int .i64 (thread % 3)), (8, .int .i64 v0_7.1), (9, .int .i64 v0_7.2), (12, .int .i64 v0_9.1), (13, .int .i64 v0_9.2), (20, .bool st1.1), (21, .bool st1.2.1), (22, .int .i64 st1.2.2.1), (143, .sl (.int .i64) path), (144, .int .i64 (path.length : Int)), (145, .int .i64 st1.2.2.2), (153, .agg [.int .i64 (g.2.getD (path.getD st1.2.2.2.toNat 0).toNat (0, 0, 0, false)).1, .int .i64 (g.2.getD (path.getD st1.2.2.2.toNat 0).toNat (0, 0, 0, false)).2.1, .int .i64 (g.2.getD (path.getD st1.2.2.2.toNat 0).toNat (0, 0, 0, false)).2.2.1, .bool (g.2.getD (path.getD st1.2.2.2.toNat 0).toNat (0, 0, 0, false)).2.2.2])] [(3, .box 24 [.int .i64 g.1, .sl (.pair (.int .i64) (.pair (.int .i64) (.pair (.int .i64) .bool))) g.2])] ?_
                    refine zB [(2, .sl (.int .i64) path), (3, .bp 3 0), (7, .int .i64 (thread % 3)), (8, .int .i64 v0_7.1), (9, .int .i64 v0_7.2), (12, .int .i64 v0_9.1), (13, .int .i64 v0_9.2), (20, .bool st1.1), (21, .bool st1.2.1), (22, .int .i64 st1.2.2.1), (25, .bp 25 0), (143, .sl (.int .i64) path), (144, .int .i64 (path.length : Int)), (145, .int .i64 st1.2.2.2)] [(3, .box 24 [.int .i64 g.1, .sl (.pair (.int .i64) (.pair (.int .i64) (.pair (.int .i64) .bool))) g.2]), (25, .box 61 [.int .i64 (g.2.getD (path.getD st1.2.2.2.toNat 0).toNat (0, 0, 0, false)).1, .int .i64 (g.2.getD (path.getD st1.2.2.2.toNat 0).toNat (0, 0, 0, false)).2.1, .int .i64 (g.2.getD (path.getD st1.2.2.2.toNat 0).toNat (0, 0, 0, false)).2.2.1, .bool (g.2.getD (path.getD st1.2.2.2.toNat 0).toNat (0, 0, 0, false)).2.2.2])] ?_
                    refine zo ?_
                    refine zS 2 [(2, .sl (.int .i64) path), (3, .bp 3 0), (7, .int .i64 (thread % 3)), (8, .int .i64 v0_7.1), (9, .int .i64 v0_7.2), (12, .int .i64 v0_9.1), (13, .int .i64 v0_9.2), (21, .bool st1.2.1), (22, .int .i64 st1.2.2.1), (25, .bp 25 0), (143, .sl (.int .i64) path), (144, .int .i64 (path.length : Int)), (145, .int .i64 st1.2.2.2), (155, .bool st1.1)] [(3, .box 24 [.int .i64 g.1, .sl (.pair (.int .i64) (.pair (.int .i64) (.pair (.int .i64) .bool))) g.2]), (25, .box 61 [.int .i64 (g.2.getD (path.getD st1.2.2.2.toNat 0).toNat (0, 0, 0, false)).1, .int .i64 (g.2.getD (path.getD st1.2.2.2.toNat 0).toNat (0, 0, 0, false)).2.1, .int .i64 (g.2.getD (path.getD st1.2.2.2.toNat 0).toNat (0, 0, 0, false)).2.2.1, .bool (g.2.getD (path.getD st1.2.2.2.toNat 0).toNat (0, 0, 0, false)).2.2.2])] ?_
                    rcases zI h with ⟨hb75, h⟩ | ⟨hb75, h⟩
                    ·refine zB [(2, .sl (.int .i64) path), (3, .bp 3 0), (7, .int .i64 (thread % 3)), (8, .int .i64 v0_7.1), (9, .int .i64 v0_7.2), (12, .int .i64 v0_9.1), (13, .int .i64 v0_9.2), (20, .bool (!(g.2.getD (path.getD st1.2.2.2.toNat 0).toNat (0, 0, 0, false)).2.2.2)), (21, .bool st1.2.1), (22, .int .i64 st1.2.2.1), (25, .bp 25 0), (143, .sl (.int .i64) path), (144, .int .i64 (path.length : Int)), (145, .int .i64 st1.2.2.2)] [(3, .box 24 [.int .i64 g.1, .sl (.pair (.int .i64) (.pair (.int .i64) (.pair (.int .i64) .bool))) g.2]), (25, .box 61 [.int .i64 (g.2.getD (path.getD st1.2.2.2.toNat 0).toNat (0, 0, 0, false)).1, .int .i64 (g.2.getD (path.getD st1.2.2.2.toNat 0).toNat (0, 0, 0, false)).2.1, .int .i64 (g.2.getD (path.getD st1.2.2.2.toNat 0).toNat (0, 0, 0, false)).2.2.1, .bool (g.2.getD (path.getD st1.2.2.2.toNat 0).toNat (0, 0, 0, false)).2.2.2])] ?_
                     refine zo ?_
                     refine zB [(2, .sl (.int .i64) path), (3, .bp 3 0), (7, .int .i64 (thread % 3)), (8, .int .i64 v0_7.1), (9, .int .i64 v0_7.2), (12, .int .i64 v0_9.1), (13, .int .i64 v0_9.2), (20, .bool (!(g.2.getD (path.getD st1.2.2.2.toNat 0).toNat (0, 0, 0, false)).2.2.2)), (21, .bool st1.2.1), (22, .int .i64 st1.2.2.1), (25, .bp 25 0), (143, .sl (.int .i64) path), (144, .int .i64 (path.length : Int)), (145, .int .i64 st1.2.2.2), (163, .bool (decide ((g.2.getD (path.getD st1.2.2.2.toNat 0).toNat (0, 0, 0, false)).2.1 = (thread % 3))))] [(3, .box 24 [.int .i64 g.1, .sl (.pair (.int .i64) (.pair (.int .i64) (.pair (.int .i64) .bool))) g.2]), (25, .box 61 [.int .i64 (g.2.getD (path.getD st1.2.2.2.toNat 0).toNat (0, 0, 0, false)).1, .int .i64 (g.2.getD (path.getD st1.2.2.2.toNat 0).toNat (0, 0, 0, false)).2.1, .int .i64 (g.2.getD (path.getD st1.2.2.2.toNat 0).toNat (0, 0, 0, false)).2.2.1, .bool (g.2.getD (path.getD st1.2.2.2.toNat 0).toNat (0, 0, 0, false)).2.2.2])] ?_
                     refine zQ h (fun hb76 h => ?_) (fun hb76 h => ?_)
                     ·refine zo ?_
                      refine zS 2 [(2, .sl (.int .i64) path), (3, .bp 3 0), (7, .int .i64 (thread % 3)), (8, .int .i64 v0_7.1), (9, .int .i64 v0_7.2), (12, .int .i64 v0_9.1), (13, .int .i64 v0_9.2), (20, .bool (!(g.2.getD (path.getD st1.2.2.2.toNat 0).toNat (0, 0, 0, false)).2.2.2)), (22, .int .i64 st1.2.2.1), (25, .bp 25 0), (143, .sl (.int .i64) path), (144, .int .i64 (path.length : Int)), (145, .int .i64 st1.2.2.2), (165, .bool st1.2.1)] [(3, .box 24 [.int .i64 g.1, .sl (.pair (.int .i64) (.pair (.int .i64) (.pair (.int .i64) .bool))) g.2]), (25, .box 61 [.int .i64 (g.2.getD (path.getD st1.2.2.2.toNat 0).toNat (0, 0, 0, false)).1, .int .i64 (g.2.getD (path.getD st1.2.2.2.toNat 0).toNat (0, 0, 0, false)).2.1, .int .i64 (g.2.getD (path.getD st1.2.2.2.toNat 0).toNat (0, 0, 0, false)).2.2.1, .bool (g.2.getD (path.getD st1.2.2.2.toNat 0).toNat (0, 0, 0, false)).2.2.2])] ?_
                      rcases zI h with ⟨hb77, h⟩ | ⟨hb77, h⟩
                      ·refine zB [(2, .sl (.int .i64) path), (3, .bp 3 0), (7, .int .i64 (thread % 3)), (8, .int .i64 v0_7.1), (9, .int .i64 v0_7.2), (12, .int .i64 v0_9.1), (13, .int .i64 v0_9.2), (20, .bool (!(g.2.getD (path.getD st1.2.2.2.toNat 0).toNat (0, 0, 0, false)).2.2.2)), (21, .bool (!(g.2.getD (path.getD st1.2.2.2.toNat 0).toNat (0, 0, 0, false)).2.2.2)), (22, .int .i64 st1.2.2.1), (143, .sl (.int .i64) path), (144, .int .i64 (path.length : Int)), (145, .int .i64 st1.2.2.2)] [(3, .box 24 [.int .i64 g.1, .sl (.pair (.int .i64) (.pair (.int .i64) (.pair (.int .i64) .bool))) g.2])] ?_
                       refine AW.ops ?_
                       obtain ⟨c78, h⟩ := ck_some.1 h
                       refine zA [(2, .sl (.int .i64) path), (3, .bp 3 0), (7, .int .i64 (thread % 3)), (8, .int .i64 v0_7.1), (9, .int .i64 v0_7.2), (12, .int .i64 v0_9.1), (13, .int .i64 v0_9.2), (20, .bool (!(g.2.getD (path.getD st1.2.2.2.toNat 0).toNat (0, 0, 0, false)).2.2.2)), (21, .bool (!(g.2.getD (path.getD st1.2.2.2.toNat 0).toNat (0, 0, 0, false)).2.2.2)), (22, .int .i64 (st1.2.2.1 + 1)), (143, .sl (.int .i64) path), (144, .int .i64 (path.length : Int)), (145, .int .i64 st1.2.2.2)] [(3, .box 24 [.int .i64 g.1, .sl (.pair (.int .i64) (.pair (.int .i64) (.pair (.int .i64) .bool))) g.2])] ?_
                       refine ablock_n ?_
                       refine athen_n ?_
                       refine AW.ops ?_
                       obtain ⟨c79, h⟩ := ck_some.1 h
                       refine zA [(2, .sl (.int .i64) path), (3, .bp 3 0), (7, .int .i64 (thread % 3)), (8, .int .i64 v0_7.1), (9, .int .i64 v0_7.2), (12, .int .i64 v0_9.1), (13, .int .i64 v0_9.2), (20, .bool (!(g.2.getD (path.getD st1.2.2.2.toNat 0).toNat (0, 0, 0, false)).2.2.2)), (21, .bool (!(g.2.getD (path.getD st1.2.2.2.toNat 0).toNat (0, 0, 0, false)).2.2.2)), (22, .int .i64 (st1.2.2.1 + 1)), (143, .sl (.int .i64) path), (144, .int .i64 (path.length : Int)), (145, .int .i64 (st1.2.2.2 + 1))] [(3, .box 24 [.int .i64 g.1, .sl (.pair (.int .i64) (.pair (.int .i64) (.pair (.int .i64) .bool))) g.2])] ?_
                       obtain rfl := Option.some.inj h
                       exact ⟨_, rfl, zL [] [] []⟩
                      ·refine zB [(2, .sl (.int .i64) path), (3, .bp 3 0), (7, .int .i64 (thread % 3)), (8, .int .i64 v0_7.1), (9, .int .i64 v0_7.2), (12, .int .i64 v0_9.1), (13, .int .i64 v0_9.2), (20, .bool (!(g.2.getD (path.getD st1.2.2.2.toNat 0).toNat (0, 0, 0, false)).2.2.2)), (21, .bool false), (22, .int .i64 st1.2.2.1), (143, .sl (.int .i64) path), (144, .int .i64 (path.length : Int)), (145, .int .i64 st1.2.2.2)] [(3, .box 24 [.int .i64 g.1, .sl (.pair (.int .i64) (.pair (.int .i64) (.pair (.int .i64) .bool))) g.2])] ?_
                       refine AW.ops ?_
                       obtain ⟨c80, h⟩ := ck_some.1 h
                       refine zA [(2, .sl (.int .i64) path), (3, .bp 3 0), (7, .int .i64 (thread % 3)), (8, .int .i64 v0_7.1), (9, .int .i64 v0_7.2), (12, .int .i64 v0_9.1), (13, .int .i64 v0_9.2), (20, .bool (!(g.2.getD (path.getD st1.2.2.2.toNat 0).toNat (0, 0, 0, false)).2.2.2)), (21, .bool false), (22, .int .i64 (st1.2.2.1 + 1)), (143, .sl (.int .i64) path), (144, .int .i64 (path.length : Int)), (145, .int .i64 st1.2.2.2)] [(3, .box 24 [.int .i64 g.1, .sl (.pair (.int .i64) (.pair (.int .i64) (.pair (.int .i64) .bool))) g.2])] ?_
                       refine ablock_n ?_
                       refine athen_n ?_
                       refine AW.ops ?_
                       obtain ⟨c81, h⟩ := ck_some.1 h
                       refine zA [(2, .sl (.int .i64) path), (3, .bp 3 0), (7, .int .i64 (thread % 3)), (8, .int .i64 v0_7.1), (9, .int .i64 v0_7.2), (12, .int .i64 v0_9.1), (13, .int .i64 v0_9.2), (20, .bool (!(g.2.getD (path.getD st1.2.2.2.toNat 0).toNat (0, 0, 0, false)).2.2.2)), (21, .bool false), (22, .int .i64 (st1.2.2.1 + 1)), (143, .sl (.int .i64) path), (144, .int .i64 (path.length : Int)), (145, .int .i64 (st1.2.2.2 + 1))] [(3, .box 24 [.int .i64 g.1, .sl (.pair (.int .i64) (.pair (.int .i64) (.pair (.int .i64) .bool))) g.2])] ?_
                       obtain rfl := Option.some.inj h
                       exact ⟨_, rfl, zL [] [] []⟩
                     ·refine zm ?_
                      refine athen_n ?_
                      refine AW.ops ?_
                      obtain ⟨c82, h⟩ := ck_some.1 h
                      refine zA [(2, .sl (.int .i64) path), (3, .bp 3 0), (7, .int .i64 (thread % 3)), (8, .int .i64 v0_7.1), (9, .int .i64 v0_7.2), (12, .int .i64 v0_9.1), (13, .int .i64 v0_9.2), (20, .bool (!(g.2.getD (path.getD st1.2.2.2.toNat 0).toNat (0, 0, 0, false)).2.2.2)), (21, .bool st1.2.1), (22, .int .i64 st1.2.2.1), (143, .sl (.int .i64) path), (144, .int .i64 (path.length : Int)), (145, .int .i64 (st1.2.2.2 + 1))] [(3, .box 24 [.int .i64 g.1, .sl (.pair (.int .i64) (.pair (.int .i64) (.pair (.int .i64) .bool))) g.2])] ?_
                      obtain rfl := Option.some.inj h
                      exact ⟨_, rfl, zL [] [] []⟩
                    ·refine zB [(2, .sl (.int .i64) path), (3, .bp 3 0), (7, .int .i64 (thread % 3)), (8, .int .i64 v0_7.1), (9, .int .i64 v0_7.2), (12, .int .i64 v0_9.1), (13, .int .i64 v0_9.2), (20, .bool false), (21, .bool st1.2.1), (22, .int .i64 st1.2.2.1), (25, .bp 25 0), (143, .sl (.int .i64) path), (144, .int .i64 (path.length : Int)), (145, .int .i64 st1.2.2.2)] [(3, .box 24 [.int .i64 g.1, .sl (.pair (.int .i64) (.pair (.int .i64) (.pair (.int .i64) .bool))) g.2]), (25, .box 61 [.int .i64 (g.2.getD (path.getD st1.2.2.2.toNat 0).toNat (0, 0, 0, false)).1, .int .i64 (g.2.getD (path.getD st1.2.2.2.toNat 0).toNat (0, 0, 0, false)).2.1, .int .i64 (g.2.getD (path.getD st1.2.2.2.toNat 0).toNat (0, 0, 0, false)).2.2.1, .bool (g.2.getD (path.getD st1.2.2.2.toNat 0).toNat (0, 0, 0, false)).2.2.2])] ?_
                     refine zo ?_
                     refine zB [(2, .sl (.int .i64) path), (3, .bp 3 0), (7, .int .i64 (thread % 3)), (8, .int .i64 v0_7.1), (9, .int .i64 v0_7.2), (12, .int .i64 v0_9.1), (13, .int .i64 v0_9.2), (20, .bool false), (21, .bool st1.2.1), (22, .int .i64 st1.2.2.1), (25, .bp 25 0), (143, .sl (.int .i64) path), (144, .int .i64 (path.length : Int)), (145, .int .i64 st1.2.2.2), (163, .bool (decide ((g.2.getD (path.getD st1.2.2.2.toNat 0).toNat (0, 0, 0, false)).2.1 = (thread % 3))))] [(3, .box 24 [.int .i64 g.1, .sl (.pair (.int .i64) (.pair (.int .i64) (.pair (.int .i64) .bool))) g.2]), (25, .box 61 [.int .i64 (g.2.getD (path.getD st1.2.2.2.toNat 0).toNat (0, 0, 0, false)).1, .int .i64 (g.2.getD (path.getD st1.2.2.2.toNat 0).toNat (0, 0, 0, false)).2.1, .int .i64 (g.2.getD (path.getD st1.2.2.2.toNat 0).toNat (0, 0, 0, false)).2.2.1, .bool (g.2.getD (path.getD st1.2.2.2.toNat 0).toNat (0, 0, 0, false)).2.2.2])] ?_
                     refine zQ h (fun hb83 h => ?_) (fun hb83 h => ?_)
                     ·refine zo ?_
                      refine zS 2 [(2, .sl (.int .i64) path), (3, .bp 3 0), (7, .int .i64 (thread % 3)), (8, .int .i64 v0_7.1), (9, .int .i64 v0_7.2), (12, .int .i64 v0_9.1), (13, .int .i64 v0_9.2), (20, .bool false), (22, .int .i64 st1.2.2.1), (25, .bp 25 0), (143, .sl (.int .i64) path), (144, .int .i64 (path.length : Int)), (145, .int .i64 st1.2.2.2), (165, .bool st1.2.1)] [(3, .box 24 [.int .i64 g.1, .sl (.pair (.int .i64) (.pair (.int .i64) (.pair (.int .i64) .bool))) g.2]), (25, .box 61 [.int .i64 (g.2.getD (path.getD st1.2.2.2.toNat 0).toNat (0, 0, 0, false)).1, .int .i64 (g.2.getD (path.getD st1.2.2.2.toNat 0).toNat (0, 0, 0, false)).2.1, .int .i64 (g.2.getD (path.getD st1.2.2.2.toNat 0).toNat (0, 0, 0, false)).2.2.1, .bool (g.2.getD (path.getD st1.2.2.2.toNat 0).toNat (0, 0, 0, false)).2.2.2])] ?_
                      rcases zI h with ⟨hb84, h⟩ | ⟨hb84, h⟩
                      ·refine zB [(2, .sl (.int .i64) path), (3, .bp 3 0), (7, .int .i64 (thread % 3)), (8, .int .i64 v0_7.1), (9, .int .i64 v0_7.2), (12, .int .i64 v0_9.1), (13, .int .i64 v0_9.2), (20, .bool false), (21, .bool (!(g.2.getD (path.getD st1.2.2.2.toNat 0).toNat (0, 0, 0, false)).2.2.2)), (22, .int .i64 st1.2.2.1), (143, .sl (.int .i64) path), (144, .int .i64 (path.length : Int)), (145, .int .i64 st1.2.2.2)] [(3, .box 24 [.int .i64 g.1, .sl (.pair (.int .i64) (.pair (.int .i64) (.pair (.int .i64) .bool))) g.2])] ?_
                       refine AW.ops ?_
                       obtain ⟨c85, h⟩ := ck_some.1 h
                       refine zA [(2, .sl (.int .i64) path), (3, .bp 3 0), (7, .int .i64 (thread % 3)), (8, .int .i64 v0_7.1), (9, .int .i64 v0_7.2), (12, .int .i64 v0_9.1), (13, .int .i64 v0_9.2), (20, .bool false), (21, .bool (!(g.2.getD (path.getD st1.2.2.2.toNat 0).toNat (0, 0, 0, false)).2.2.2)), (22, .int .i64 (st1.2.2.1 + 1)), (143, .sl (.int .i64) path), (144, .int .i64 (path.length : Int)), (145, .int .i64 st1.2.2.2)] [(3, .box 24 [.int .i64 g.1, .sl (.pair (.int .i64) (.pair (.int .i64) (.pair (.int .i64) .bool))) g.2])] ?_
                       refine ablock_n ?_
                       refine athen_n ?_
                       refine AW.ops ?_
                       obtain ⟨c86, h⟩ := ck_some.1 h
                       refine zA [(2, .sl (.int .i64) path), (3, .bp 3 0), (7, .int .i64 (thread % 3)), (8, .int .i64 v0_7.1), (9, .int .i64 v0_7.2), (12, .int .i64 v0_9.1), (13, .int .i64 v0_9.2), (20, .bool false), (21, .bool (!(g.2.getD (path.getD st1.2.2.2.toNat 0).toNat (0, 0, 0, false)).2.2.2)), (22, .int .i64 (st1.2.2.1 + 1)), (143, .sl (.int .i64) path), (144, .int .i64 (path.length : Int)), (145, .int .i64 (st1.2.2.2 + 1))] [(3, .box 24 [.int .i64 g.1, .sl (.pair (.int .i64) (.pair (.int .i64) (.pair (.int .i64) .bool))) g.2])] ?_
                       obtain rfl := Option.some.inj h
                       exact ⟨_, rfl, zL [] [] []⟩
                      ·refine zB [(2, .sl (.int .i64) path), (3, .bp 3 0), (7, .int .i64 (thread % 3)), (8, .int .i64 v0_7.1), (9, .int .i64 v0_7.2), (12, .int .i64 v0_9.1), (13, .int .i64 v0_9.2), (20, .bool false), (21, .bool false), (22, .int .i64 st1.2.2.1), (143, .sl (.int .i64) path), (144, .int .i64 (path.length : Int)), (145, .int .i64 st1.2.2.2)] [(3, .box 24 [.int .i64 g.1, .sl (.pair (.int .i64) (.pair (.int .i64) (.pair (.int .i64) .bool))) g.2])] ?_
                       refine AW.ops ?_
                       obtain ⟨c87, h⟩ := ck_some.1 h
                       refine zA [(2, .sl (.int .i64) path), (3, .bp 3 0), (7, .int .i64 (thread % 3)), (8, .int .i64 v0_7.1), (9, .int .i64 v0_7.2), (12, .int .i64 v0_9.1), (13, .int .i64 v0_9.2), (20, .bool false), (21, .bool false), (22, .int .i64 (st1.2.2.1 + 1)), (143, .sl (.int .i64) path), (144, .int .i64 (path.length : Int)), (145, .int .i64 st1.2.2.2)] [(3, .box 24 [.int .i64 g.1, .sl (.pair (.int .i64) (.pair (.int .i64) (.pair (.int .i64) .bool))) g.2])] ?_
                       refine ablock_n ?_
                       refine athen_n ?_
                       refine AW.ops ?_
                       obtain ⟨c88, h⟩ := ck_some.1 h
                       refine zA [(2, .sl (.int .i64) path), (3, .bp 3 0), (7, .int .i64 (thread % 3)), (8, .int .i64 v0_7.1), (9, .int .i64 v0_7.2), (12, .int .i64 v0_9.1), (13, .int .i64 v0_9.2), (20, .bool false), (21, .bool false), (22, .int .i64 (st1.2.2.1 + 1)), (143, .sl (.int .i64) path), (144, .int .i64 (path.length : Int)), (145, .int .i64 (st1.2.2.2 + 1))] [(3, .box 24 [.int .i64 g.1, .sl (.pair (.int .i64) (.pair (.int .i64) (.pair (.int .i64) .bool))) g.2])] ?_
                       obtain rfl := Option.some.inj h
                       exact ⟨_, rfl, zL [] [] []⟩
                     ·refine zm ?_
                      refine athen_n ?_
                      refine AW.ops ?_
                      obtain ⟨c89, h⟩ := ck_some.1 h
                      refine zA [(2, .sl (.int .i64) path), (3, .bp 3 0), (7, .int .i64 (thread % 3)), (8, .int .i64 v0_7.1), (9, .int .i64 v0_7.2), (12, .int .i64 v0_9.1), (13, .int .i64 v0_9.2), (20, .bool false), (21, .bool st1.2.1), (22, .int .i64 st1.2.2.1), (143, .sl (.int .i64) path), (144, .int .i64 (path.length : Int)), (145, .int .i64 (st1.2.2.2 + 1))] [(3, .box 24 [.int .i64 g.1, .sl (.pair (.int .i64) (.pair (.int .i64) (.pair (.int .i64) .bool))) g.2])] ?_
                      obtain rfl := Option.some.inj h
                      exact ⟨_, rfl, zL [] [] []⟩
                   ·refine AW.exit ?_
                    refine athen_e ?_
                    obtain rfl := Option.some.inj h
                    rw [← hd67 _ rfl] at ho66
                    have h := ho66
                    refine athen_e ?_
                    refine ablock_s ?_
                    refine athen_n ?_
                    exact AW.weaken (zL [] [] []) (hk_lineallaw07_ProgressLongest_k2 _ h)
    ·refine AW.seq ?_
     refine zo ?_
     refine zS 4 [(2, .sl (.int .i64) path), (3, .bp 3 0), (7, .int .i64 (thread % 3)), (8, .int .i64 v0_7.1), (9, .int .i64 v0_7.2), (10, .own 58000), (12, .int .i64 v0_9.1), (13, .int .i64 v0_9.2), (14, .own 70000), (15, .int .i64 v0_10.2), (16, .own 75000), (17, .int .i64 v0_11.2), (18, .bool v0_12.1), (19, .int .i64 v0_12.2), (77, .bool (!(decide (v0_7.2 = v0_8.2))))] [(3, .box 24 [.int .i64 g.1, .sl (.pair (.int .i64) (.pair (.int .i64) (.pair (.int .i64) .bool))) g.2]), (58000, .arr 3 (.int .i64) v0_8.1), (70000, .arr 3 (.int .i64) v0_10.1), (75000, .arr 3 (.int .i64) v0_11.1)] ?_
     rcases zI h with ⟨hb90, h⟩ | ⟨hb90, h⟩
     ·refine zS 5 [(2, .sl (.int .i64) path), (3, .bp 3 0), (7, .int .i64 (thread % 3)), (8, .int .i64 v0_7.1), (9, .int .i64 v0_7.2), (10, .own 58000), (12, .int .i64 v0_9.1), (13, .int .i64 v0_9.2), (14, .own 70000), (16, .own 75000), (17, .int .i64 v0_11.2), (18, .bool v0_12.1), (19, .int .i64 v0_12.2), (82, .bool true)] [(3, .box 24 [.int .i64 g.1, .sl (.pair (.int .i64) (.pair (.int .i64) (.pair (.int .i64) .bool))) g.2]), (58000, .arr 3 (.int .i64) v0_8.1), (70000, .arr 3 (.int .i64) v0_10.1), (75000, .arr 3 (.int .i64) v0_11.1)] ?_
      refine zS 4 [(2, .sl (.int .i64) path), (3, .bp 3 0), (7, .int .i64 (thread % 3)), (8, .int .i64 v0_7.1), (9, .int .i64 v0_7.2), (10, .own 58000), (12, .int .i64 v0_9.1), (13, .int .i64 v0_9.2), (14, .own 70000), (16, .own 75000), (17, .int .i64 v0_11.2), (18, .bool v0_12.1), (19, .int .i64 v0_12.2), (82, .bool true), (85, .cv (undef)), (86, .cv (undef))] [(3, .box 24 [.int .i64 g.1, .sl (.pair (.int .i64) (.pair (.int .i64) (.pair (.int .i64) .bool))) g.2]), (58000, .arr 3 (.int .i64) v0_8.1), (70000, .arr 3 (.int .i64) v0_10.1), (75000, .arr 3 (.int .i64) v0_11.1)] ?_
      refine zS 5 [(2, .sl (.int .i64) path), (3, .bp 3 0), (7, .int .i64 (thread % 3)), (8, .int .i64 v0_7.1), (9, .int .i64 v0_7.2), (10, .own 58000), (12, .int .i64 v0_9.1), (13, .int .i64 v0_9.2), (14, .own 70000), (16, .own 75000), (17, .int .i64 v0_11.2), (18, .bool v0_12.1), (19, .int .i64 v0_12.2), (90, .bool true), (91, .cv (undef))] [(3, .box 24 [.int .i64 g.1, .sl (.pair (.int .i64) (.pair (.int .i64) (.pair (.int .i64) .bool))) g.2]), (58000, .arr 3 (.int .i64) v0_8.1), (70000, .arr 3 (.int .i64) v0_10.1), (75000, .arr 3 (.int .i64) v0_11.1)] ?_
      refine zS 4 [(2, .sl (.int .i64) path), (3, .bp 3 0), (7, .int .i64 (thread % 3)), (8, .int .i64 v0_7.1), (9, .int .i64 v0_7.2), (10, .own 58000), (12, .int .i64 v0_9.1), (13, .int .i64 v0_9.2), (14, .own 70000), (16, .own 75000), (17, .int .i64 v0_11.2), (18, .bool v0_12.1), (19, .int .i64 v0_12.2), (90, .bool true), (93, .cv (undef)), (95, .cv (undef))] [(3, .box 24 [.int .i64 g.1, .sl (.pair (.int .i64) (.pair (.int .i64) (.pair (.int .i64) .bool))) g.2]), (58000, .arr 3 (.int .i64) v0_8.1), (70000, .arr 3 (.int .i64) v0_10.1), (75000, .arr 3 (.int .i64) v0_11.1)] ?_
      refine zS 5 [(2, .sl (.int .i64) path), (3, .bp 3 0), (7, .int .i64 (thread % 3)), (8, .int .i64 v0_7.1), (9, .int .i64 v0_7.2), (10, .own 58000), (12, .int .i64 v0_9.1), (13, .int .i64 v0_9.2), (14, .own 70000), (16, .own 75000), (18, .bool v0_12.1), (19, .int .i64 v0_12.2), (98, .bool true), (100, .cv (undef))] [(3, .box 24 [.int .i64 g.1, .sl (.pair (.int .i64) (.pair (.int .i64) (.pair (.int .i64) .bool))) g.2]), (58000, .arr 3 (.int .i64) v0_8.1), (70000, .arr 3 (.int .i64) v0_10.1), (75000, .arr 3 (.int .i64) v0_11.1)] ?_
      refine zS 5 [(2, .sl (.int .i64) path), (3, .bp 3 0), (7, .int .i64 (thread % 3)), (8, .int .i64 v0_7.1), (9, .int .i64 v0_7.2), (10, .own 58000), (12, .int .i64 v0_9.1), (13, .int .i64 v0_9.2), (14, .own 70000), (16, .own 75000), (18, .bool v0_12.1), (105, .bool true)] [(3, .box 24 [.int .i64 g.1, .sl (.pair (.int .i64) (.pair (.int .i64) (.pair (.int .i64) .bool))) g.2]), (58000, .arr 3 (.int .i64) v0_8.1), (70000, .arr 3 (.int .i64) v0_10.1), (75000, .arr 3 (.int .i64) v0_11.1)] ?_
      refine zS 5 [(2, .sl (.int .i64) path), (3, .bp 3 0), (7, .int .i64 (thread % 3)), (8, .int .i64 v0_7.1), (9, .int .i64 v0_7.2), (12, .int .i64 v0_9.1), (13, .int .i64 v0_9.2), (14, .own 70000), (16, .own 75000), (18, .bool v0_12.1), (106, .bool true), (107, .cv (undef)), (108, .cv (undef)), (109, .cv (undef)), (110, .cv (undef))] [(3, .box 24 [.int .i64 g.1, .sl (.pair (.int .i64) (.pair (.int .i64) (.pair (.int .i64) .bool))) g.2]), (70000, .arr 3 (.int .i64) v0_10.1), (75000, .arr 3 (.int .i64) v0_11.1)] ?_
      refine zS 5 [(2, .sl (.int .i64) path), (3, .bp 3 0), (7, .int .i64 (thread % 3)), (8, .int .i64 v0_7.1), (9, .int .i64 v0_7.2), (12, .int .i64 v0_9.1), (13, .int .i64 v0_9.2), (16, .own 75000), (18, .bool v0_12.1), (114, .bool true), (115, .cv (undef))] [(3, .box 24 [.int .i64 g.1, .sl (.pair (.int .i64) (.pair (.int .i64) (.pair (.int .i64) .bool))) g.2]), (75000, .arr 3 (.int .i64) v0_11.1)] ?_
      refine zS 4 [(2, .sl (.int .i64) path), (3, .bp 3 0), (7, .int .i64 (thread % 3)), (8, .int .i64 v0_7.1), (9, .int .i64 v0_7.2), (12, .int .i64 v0_9.1), (13, .int .i64 v0_9.2), (16, .own 75000), (18, .bool v0_12.1), (114, .bool true), (119, .cv (undef))] [(3, .box 24 [.int .i64 g.1, .sl (.pair (.int .i64) (.pair (.int .i64) (.pair (.int .i64) .bool))) g.2]), (75000, .arr 3 (.int .i64) v0_11.1)] ?_
      refine zB [(2, .sl (.int .i64) path), (3, .bp 3 0), (7, .int .i64 (thread % 3)), (8, .int .i64 v0_7.1), (9, .int .i64 v0_7.2), (12, .int .i64 v0_9.1), (13, .int .i64 v0_9.2), (16, .own 75000), (18, .bool v0_12.1), (121, .bool true)] [(3, .box 24 [.int .i64 g.1, .sl (.pair (.int .i64) (.pair (.int .i64) (.pair (.int .i64) .bool))) g.2]), (75000, .arr 3 (.int .i64) v0_11.1)] ?_
      refine AW.cond (b := true) rfl (fun _ => ?_) (fun hb91 => by cases hb91)
      refine zo ?_
      refine zB [(6, .bool false)] [] ?_
      refine zr ?_
      obtain rfl := Option.some.inj h
      exact zR [] [] []
     ·refine zS 5 [(2, .sl (.int .i64) path), (3, .bp 3 0), (7, .int .i64 (thread % 3)), (8, .int .i64 v0_7.1), (9, .int .i64 v0_7.2), (10, .own 58000), (12, .int .i64 v0_9.1), (13, .int .i64 v0_9.2), (14, .own 70000), (16, .own 75000), (17, .int .i64 v0_11.2), (18, .bool v0_12.1), (19, .int .i64 v0_12.2), (82, .bool (!(decide (v0_9.2 = v0_10.2))))] [(3, .box 24 [.int .i64 g.1, .sl (.pair (.int .i64) (.pair (.int .i64) (.pair (.int .i64) .bool))) g.2]), (58000, .arr 3 (.int .i64) v0_8.1), (70000, .arr 3 (.int .i64) v0_10.1), (75000, .arr 3 (.int .i64) v0_11.1)] ?_
      rcases zI h with ⟨hb92, h⟩ | ⟨hb92, h⟩
      ·refine zS 4 [(2, .sl (.int .i64) path), (3, .bp 3 0), (7, .int .i64 (thread % 3)), (8, .int .i64 v0_7.1), (9, .int .i64 v0_7.2), (10, .own 58000), (12, .int .i64 v0_9.1), (13, .int .i64 v0_9.2), (14, .own 70000), (16, .own 75000), (17, .int .i64 v0_11.2), (18, .bool v0_12.1), (19, .int .i64 v0_12.2), (82, .bool true), (85, .cv (undef)), (86, .cv (undef))] [(3, .box 24 [.int .i64 g.1, .sl (.pair (.int .i64) (.pair (.int .i64) (.pair (.int .i64) .bool))) g.2]), (58000, .arr 3 (.int .i64) v0_8.1), (70000, .arr 3 (.int .i64) v0_10.1), (75000, .arr 3 (.int .i64) v0_11.1)] ?_
       refine zS 5 [(2, .sl (.int .i64) path), (3, .bp 3 0), (7, .int .i64 (thread % 3)), (8, .int .i64 v0_7.1), (9, .int .i64 v0_7.2), (10, .own 58000), (12, .int .i64 v0_9.1), (13, .int .i64 v0_9.2), (14, .own 70000), (16, .own 75000), (17, .int .i64 v0_11.2), (18, .bool v0_12.1), (19, .int .i64 v0_12.2), (90, .bool true), (91, .cv (undef))] [(3, .box 24 [.int .i64 g.1, .sl (.pair (.int .i64) (.pair (.int .i64) (.pair (.int .i64) .bool))) g.2]), (58000, .arr 3 (.int .i64) v0_8.1), (70000, .arr 3 (.int .i64) v0_10.1), (75000, .arr 3 (.int .i64) v0_11.1)] ?_
       refine zS 4 [(2, .sl (.int .i64) path), (3, .bp 3 0), (7, .int .i64 (thread % 3)), (8, .int .i64 v0_7.1), (9, .int .i64 v0_7.2), (10, .own 58000), (12, .int .i64 v0_9.1), (13, .int .i64 v0_9.2), (14, .own 70000), (16, .own 75000), (17, .int .i64 v0_11.2), (18, .bool v0_12.1), (19, .int .i64 v0_12.2), (90, .bool true), (93, .cv (undef)), (95, .cv (undef))] [(3, .box 24 [.int .i64 g.1, .sl (.pair (.int .i64) (.pair (.int .i64) (.pair (.int .i64) .bool))) g.2]), (58000, .arr 3 (.int .i64) v0_8.1), (70000, .arr 3 (.int .i64) v0_10.1), (75000, .arr 3 (.int .i64) v0_11.1)] ?_
       refine zS 5 [(2, .sl (.int .i64) path), (3, .bp 3 0), (7, .int .i64 (thread % 3)), (8, .int .i64 v0_7.1), (9, .int .i64 v0_7.2), (10, .own 58000), (12, .int .i64 v0_9.1), (13, .int .i64 v0_9.2), (14, .own 70000), (16, .own 75000), (18, .bool v0_12.1), (19, .int .i64 v0_12.2), (98, .bool true), (100, .cv (undef))] [(3, .box 24 [.int .i64 g.1, .sl (.pair (.int .i64) (.pair (.int .i64) (.pair (.int .i64) .bool))) g.2]), (58000, .arr 3 (.int .i64) v0_8.1), (70000, .arr 3 (.int .i64) v0_10.1), (75000, .arr 3 (.int .i64) v0_11.1)] ?_
       refine zS 5 [(2, .sl (.int .i64) path), (3, .bp 3 0), (7, .int .i64 (thread % 3)), (8, .int .i64 v0_7.1), (9, .int .i64 v0_7.2), (10, .own 58000), (12, .int .i64 v0_9.1), (13, .int .i64 v0_9.2), (14, .own 70000), (16, .own 75000), (18, .bool v0_12.1), (105, .bool true)] [(3, .box 24 [.int .i64 g.1, .sl (.pair (.int .i64) (.pair (.int .i64) (.pair (.int .i64) .bool))) g.2]), (58000, .arr 3 (.int .i64) v0_8.1), (70000, .arr 3 (.int .i64) v0_10.1), (75000, .arr 3 (.int .i64) v0_11.1)] ?_
       refine zS 5 [(2, .sl (.int .i64) path), (3, .bp 3 0), (7, .int .i64 (thread % 3)), (8, .int .i64 v0_7.1), (9, .int .i64 v0_7.2), (12, .int .i64 v0_9.1), (13, .int .i64 v0_9.2), (14, .own 70000), (16, .own 75000), (18, .bool v0_12.1), (106, .bool true), (107, .cv (undef)), (108, .cv (undef)), (109, .cv (undef)), (110, .cv (undef))] [(3, .box 24 [.int .i64 g.1, .sl (.pair (.int .i64) (.pair (.int .i64) (.pair (.int .i64) .bool))) g.2]), (70000, .arr 3 (.int .i64) v0_10.1), (75000, .arr 3 (.int .i64) v0_11.1)] ?_
       refine zS 5 [(2, .sl (.int .i64) path), (3, .bp 3 0), (7, .int .i64 (thread % 3)), (8, .int .i64 v0_7.1), (9, .int .i64 v0_7.2), (12, .int .i64 v0_9.1), (13, .int .i64 v0_9.2), (16, .own 75000), (18, .bool v0_12.1), (114, .bool true), (115, .cv (undef))] [(3, .box 24 [.int .i64 g.1, .sl (.pair (.int .i64) (.pair (.int .i64) (.pair (.int .i64) .bool))) g.2]), (75000, .arr 3 (.int .i64) v0_11.1)] ?_
       refine zS 4 [(2, .sl (.int .i64) path), (3, .bp 3 0), (7, .int .i64 (thread % 3)), (8, .int .i64 v0_7.1), (9, .int .i64 v0_7.2), (12, .int .i64 v0_9.1), (13, .int .i64 v0_9.2), (16, .own 75000), (18, .bool v0_12.1), (114, .bool true), (119, .cv (undef))] [(3, .box 24 [.int .i64 g.1, .sl (.pair (.int .i64) (.pair (.int .i64) (.pair (.int .i64) .bool))) g.2]), (75000, .arr 3 (.int .i64) v0_11.1)] ?_
       refine zB [(2, .sl (.int .i64) path), (3, .bp 3 0), (7, .int .i64 (thread % 3)), (8, .int .i64 v0_7.1), (9, .int .i64 v0_7.2), (12, .int .i64 v0_9.1), (13, .int .i64 v0_9.2), (16, .own 75000), (18, .bool v0_12.1), (121, .bool true)] [(3, .box 24 [.int .i64 g.1, .sl (.pair (.int .i64) (.pair (.int .i64) (.pair (.int .i64) .bool))) g.2]), (75000, .arr 3 (.int .i64) v0_11.1)] ?_
       refine AW.cond (b := true) rfl (fun _ => ?_) (fun hb93 => by cases hb93)
       refine zo ?_
       refine zB [(6, .bool false)] [] ?_
       refine zr ?_
       obtain rfl := Option.some.inj h
       exact zR [] [] []
      ·refine zS 3 [(2, .sl (.int .i64) path), (3, .bp 3 0), (7, .int .i64 (thread % 3)), (8, .int .i64 v0_7.1), (9, .int .i64 v0_7.2), (10, .own 58000), (12, .int .i64 v0_9.1), (13, .int .i64 v0_9.2), (14, .own 70000), (16, .own 75000), (17, .int .i64 v0_11.2), (18, .bool v0_12.1), (19, .int .i64 v0_12.2), (82, .bool false), (85, .bool (!(decide (v0_7.2 = 0))))] [(3, .box 24 [.int .i64 g.1, .sl (.pair (.int .i64) (.pair (.int .i64) (.pair (.int .i64) .bool))) g.2]), (58000, .arr 3 (.int .i64) v0_8.1), (70000, .arr 3 (.int .i64) v0_10.1), (75000, .arr 3 (.int .i64) v0_11.1)] ?_
       rcases zI h with ⟨hb94, h⟩ | ⟨hb94, h⟩
       ·refine zS 5 [(2, .sl (.int .i64) path), (3, .bp 3 0), (7, .int .i64 (thread % 3)), (8, .int .i64 v0_7.1), (9, .int .i64 v0_7.2), (10, .own 58000), (12, .int .i64 v0_9.1), (13, .int .i64 v0_9.2), (14, .own 70000), (16, .own 75000), (17, .int .i64 v0_11.2), (18, .bool v0_12.1), (19, .int .i64 v0_12.2), (90, .bool (!(decide (v0_7.2 = 5))))] [(3, .box 24 [.int .i64 g.1, .sl (.pair (.int .i64) (.pair (.int .i64) (.pair (.int .i64) .bool))) g.2]), (58000, .arr 3 (.int .i64) v0_8.1), (70000, .arr 3 (.int .i64) v0_10.1), (75000, .arr 3 (.int .i64) v0_11.1)] ?_
        rcases zI h with ⟨hb95, h⟩ | ⟨hb95, h⟩
        ·refine zS 4 [(2, .sl (.int .i64) path), (3, .bp 3 0), (7, .int .i64 (thread % 3)), (8, .int .i64 v0_7.1), (9, .int .i64 v0_7.2), (10, .own 58000), (12, .int .i64 v0_9.1), (13, .int .i64 v0_9.2), (14, .own 70000), (16, .own 75000), (17, .int .i64 v0_11.2), (18, .bool v0_12.1), (19, .int .i64 v0_12.2), (90, .bool true), (93, .cv (undef)), (94, .cv (undef))] [(3, .box 24 [.int .i64 g.1, .sl (.pair (.int .i64) (.pair (.int .i64) (.pair (.int .i64) .bool))) g.2]), (58000, .arr 3 (.int .i64) v0_8.1), (70000, .arr 3 (.int .i64) v0_10.1), (75000, .arr 3 (.int .i64) v0_11.1)] ?_
         refine zS 5 [(2, .sl (.int .i64) path), (3, .bp 3 0), (7, .int .i64 (thread % 3)), (8, .int .i64 v0_7.1), (9, .int .i64 v0_7.2), (10, .own 58000), (12, .int .i64 v0_9.1), (13, .int .i64 v0_9.2), (14, .own 70000), (16, .own 75000), (18, .bool v0_12.1), (19, .int .i64 v0_12.2), (98, .bool true), (99, .cv (undef))] [(3, .box 24 [.int .i64 g.1, .sl (.pair (.int .i64) (.pair (.int .i64) (.pair (.int .i64) .bool))) g.2]), (58000, .arr 3 (.int .i64) v0_8.1), (70000, .arr 3 (.int .i64) v0_10.1), (75000, .arr 3 (.int .i64) v0_11.1)] ?_
         refine zS 5 [(2, .sl (.int .i64) path), (3, .bp 3 0), (7, .int .i64 (thread % 3)), (8, .int .i64 v0_7.1), (9, .int .i64 v0_7.2), (10, .own 58000), (12, .int .i64 v0_9.1), (13, .int .i64 v0_9.2), (14, .own 70000), (16, .own 75000), (18, .bool v0_12.1), (102, .bool true), (104, .cv (undef))] [(3, .box 24 [.int .i64 g.1, .sl (.pair (.int .i64) (.pair (.int .i64) (.pair (.int .i64) .bool))) g.2]), (58000, .arr 3 (.int .i64) v0_8.1), (70000, .arr 3 (.int .i64) v0_10.1), (75000, .arr 3 (.int .i64) v0_11.1)] ?_
         refine zS 5 [(2, .sl (.int .i64) path), (3, .bp 3 0), (7, .int .i64 (thread % 3)), (8, .int .i64 v0_7.1), (9, .int .i64 v0_7.2), (12, .int .i64 v0_9.1), (13, .int .i64 v0_9.2), (14, .own 70000), (16, .own 75000), (18, .bool v0_12.1), (106, .bool true), (107, .cv (undef)), (108, .cv (undef)), (109, .cv (undef))] [(3, .box 24 [.int .i64 g.1, .sl (.pair (.int .i64) (.pair (.int .i64) (.pair (.int .i64) .bool))) g.2]), (70000, .arr 3 (.int .i64) v0_10.1), (75000, .arr 3 (.int .i64) v0_11.1)] ?_
         refine zS 5 [(2, .sl (.int .i64) path), (3, .bp 3 0), (7, .int .i64 (thread % 3)), (8, .int .i64 v0_7.1), (9, .int .i64 v0_7.2), (12, .int .i64 v0_9.1), (13, .int .i64 v0_9.2), (14, .own 70000), (16, .own 75000), (18, .bool v0_12.1), (114, .bool true)] [(3, .box 24 [.int .i64 g.1, .sl (.pair (.int .i64) (.pair (.int .i64) (.pair (.int .i64) .bool))) g.2]), (70000, .arr 3 (.int .i64) v0_10.1), (75000, .arr 3 (.int .i64) v0_11.1)] ?_
         refine zS 4 [(2, .sl (.int .i64) path), (3, .bp 3 0), (7, .int .i64 (thread % 3)), (8, .int .i64 v0_7.1), (9, .int .i64 v0_7.2), (12, .int .i64 v0_9.1), (13, .int .i64 v0_9.2), (16, .own 75000), (18, .bool v0_12.1), (114, .bool true), (115, .cv (undef)), (116, .cv (undef)), (117, .cv (undef)), (118, .cv (undef))] [(3, .box 24 [.int .i64 g.1, .sl (.pair (.int .i64) (.pair (.int .i64) (.pair (.int .i64) .bool))) g.2]), (75000, .arr 3 (.int .i64) v0_11.1)] ?_
         refine zB [(2, .sl (.int .i64) path), (3, .bp 3 0), (7, .int .i64 (thread % 3)), (8, .int .i64 v0_7.1), (9, .int .i64 v0_7.2), (12, .int .i64 v0_9.1), (13, .int .i64 v0_9.2), (16, .own 75000), (18, .bool v0_12.1), (121, .bool true)] [(3, .box 24 [.int .i64 g.1, .sl (.pair (.int .i64) (.pair (.int .i64) (.pair (.int .i64) .bool))) g.2]), (75000, .arr 3 (.int .i64) v0_11.1)] ?_
         refine AW.cond (b := true) rfl (fun _ => ?_) (fun hb96 => by cases hb96)
         refine zo ?_
         refine zB [(6, .bool false)] [] ?_
         refine zr ?_
         obtain rfl := Option.some.inj h
         exact zR [] [] []
        ·refine zS 3 [(2, .sl (.int .i64) path), (3, .bp 3 0), (7, .int .i64 (thread % 3)), (8, .int .i64 v0_7.1), (9, .int .i64 v0_7.2), (10, .own 58000), (12, .int .i64 v0_9.1), (13, .int .i64 v0_9.2), (14, .own 70000), (16, .own 75000), (17, .int .i64 v0_11.2), (18, .bool v0_12.1), (19, .int .i64 v0_12.2), (90, .bool false), (93, .bool (!(decide (v0_9.2 = 0))))] [(3, .box 24 [.int .i64 g.1, .sl (.pair (.int .i64) (.pair (.int .i64) (.pair (.int .i64) .bool))) g.2]), (58000, .arr 3 (.int .i64) v0_8.1), (70000, .arr 3 (.int .i64) v0_10.1), (75000, .arr 3 (.int .i64) v0_11.1)] ?_
         rcases zI h with ⟨hb97, h⟩ | ⟨hb97, h⟩
         ·refine zS 5 [(2, .sl (.int .i64) path), (3, .bp 3 0), (7, .int .i64 (thread % 3)), (8, .int .i64 v0_7.1), (9, .int .i64 v0_7.2), (10, .own 58000), (12, .int .i64 v0_9.1), (13, .int .i64 v0_9.2), (14, .own 70000), (16, .own 75000), (17, .int .i64 v0_11.2), (18, .bool v0_12.1), (19, .int .i64 v0_12.2), (98, .bool (!(decide (v0_9.2 = 5))))] [(3, .box 24 [.int .i64 g.1, .sl (.pair (.int .i64) (.pair (.int .i64) (.pair (.int .i64) .bool))) g.2]), (58000, .arr 3 (.int .i64) v0_8.1), (70000, .arr 3 (.int .i64) v0_10.1), (75000, .arr 3 (.int .i64) v0_11.1)] ?_
          rcases zI h with ⟨hb98, h⟩ | ⟨hb98, h⟩
          ·refine zS 5 [(2, .sl (.int .i64) path), (3, .bp 3 0), (7, .int .i64 (thread % 3)), (8, .int .i64 v0_7.1), (9, .int .i64 v0_7.2), (10, .own 58000), (12, .int .i64 v0_9.1), (13, .int .i64 v0_9.2), (14, .own 70000), (16, .own 75000), (18, .bool v0_12.1), (102, .bool true), (103, .cv (undef))] [(3, .box 24 [.int .i64 g.1, .sl (.pair (.int .i64) (.pair (.int .i64) (.pair (.int .i64) .bool))) g.2]), (58000, .arr 3 (.int .i64) v0_8.1), (70000, .arr 3 (.int .i64) v0_10.1), (75000, .arr 3 (.int .i64) v0_11.1)] ?_
           refine zS 5 [(2, .sl (.int .i64) path), (3, .bp 3 0), (7, .int .i64 (thread % 3)), (8, .int .i64 v0_7.1), (9, .int .i64 v0_7.2), (12, .int .i64 v0_9.1), (13, .int .i64 v0_9.2), (14, .own 70000), (16, .own 75000), (18, .bool v0_12.1), (106, .bool true), (107, .cv (undef)), (108, .cv (undef))] [(3, .box 24 [.int .i64 g.1, .sl (.pair (.int .i64) (.pair (.int .i64) (.pair (.int .i64) .bool))) g.2]), (70000, .arr 3 (.int .i64) v0_10.1), (75000, .arr 3 (.int .i64) v0_11.1)] ?_
           refine zS 4 [(2, .sl (.int .i64) path), (3, .bp 3 0), (7, .int .i64 (thread % 3)), (8, .int .i64 v0_7.1), (9, .int .i64 v0_7.2), (12, .int .i64 v0_9.1), (13, .int .i64 v0_9.2), (14, .own 70000), (16, .own 75000), (18, .bool v0_12.1), (106, .bool true), (112, .cv (undef))] [(3, .box 24 [.int .i64 g.1, .sl (.pair (.int .i64) (.pair (.int .i64) (.pair (.int .i64) .bool))) g.2]), (70000, .arr 3 (.int .i64) v0_10.1), (75000, .arr 3 (.int .i64) v0_11.1)] ?_
           refine zS 5 [(2, .sl (.int .i64) path), (3, .bp 3 0), (7, .int .i64 (thread % 3)), (8, .int .i64 v0_7.1), (9, .int .i64 v0_7.2), (12, .int .i64 v0_9.1), (13, .int .i64 v0_9.2), (16, .own 75000), (18, .bool v0_12.1), (114, .bool true), (115, .cv (undef)), (116, .cv (undef)), (117, .cv (undef))] [(3, .box 24 [.int .i64 g.1, .sl (.pair (.int .i64) (.pair (.int .i64) (.pair (.int .i64) .bool))) g.2]), (75000, .arr 3 (.int .i64) v0_11.1)] ?_
           refine zB [(2, .sl (.int .i64) path), (3, .bp 3 0), (7, .int .i64 (thread % 3)), (8, .int .i64 v0_7.1), (9, .int .i64 v0_7.2), (12, .int .i64 v0_9.1), (13, .int .i64 v0_9.2), (16, .own 75000), (18, .bool v0_12.1), (121, .bool true)] [(3, .box 24 [.int .i64 g.1, .sl (.pair (.int .i64) (.pair (.int .i64) (.pair (.int .i64) .bool))) g.2]), (75000, .arr 3 (.int .i64) v0_11.1)] ?_
           refine AW.cond (b := true) rfl (fun _ => ?_) (fun hb99 => by cases hb99)
           refine zo ?_
           refine zB [(6, .bool false)] [] ?_
           refine zr ?_
           obtain rfl := Option.some.inj h
           exact zR [] [] []
          ·refine zS 4 [(2, .sl (.int .i64) path), (3, .bp 3 0), (7, .int .i64 (thread % 3)), (8, .int .i64 v0_7.1), (9, .int .i64 v0_7.2), (10, .own 58000), (12, .int .i64 v0_9.1), (13, .int .i64 v0_9.2), (14, .own 70000), (16, .own 75000), (18, .bool v0_12.1), (19, .int .i64 v0_12.2), (102, .bool (!(decide (v0_11.2 = 0))))] [(3, .box 24 [.int .i64 g.1, .sl (.pair (.int .i64) (.pair (.int .i64) (.pair (.int .i64) .bool))) g.2]), (58000, .arr 3 (.int .i64) v0_8.1), (70000, .arr 3 (.int .i64) v0_10.1), (75000, .arr 3 (.int .i64) v0_11.1)] ?_
           rcases zI h with ⟨hb100, h⟩ | ⟨hb100, h⟩
           ·refine zS 5 [(2, .sl (.int .i64) path), (3, .bp 3 0), (7, .int .i64 (thread % 3)), (8, .int .i64 v0_7.1), (9, .int .i64 v0_7.2), (12, .int .i64 v0_9.1), (13, .int .i64 v0_9.2), (14, .own 70000), (16, .own 75000), (18, .bool v0_12.1), (106, .bool true), (107, .cv (undef))] [(3, .box 24 [.int .i64 g.1, .sl (.pair (.int .i64) (.pair (.int .i64) (.pair (.int .i64) .bool))) g.2]), (70000, .arr 3 (.int .i64) v0_10.1), (75000, .arr 3 (.int .i64) v0_11.1)] ?_
            refine zS 4 [(2, .sl (.int .i64) path), (3, .bp 3 0), (7, .int .i64 (thread % 3)), (8, .int .i64 v0_7.1), (9, .int .i64 v0_7.2), (12, .int .i64 v0_9.1), (13, .int .i64 v0_9.2), (14, .own 70000), (16, .own 75000), (18, .bool v0_12.1), (106, .bool true), (111, .cv (undef))] [(3, .box 24 [.int .i64 g.1, .sl (.pair (.int .i64) (.pair (.int .i64) (.pair (.int .i64) .bool))) g.2]), (70000, .arr 3 (.int .i64) v0_10.1), (75000, .arr 3 (.int .i64) v0_11.1)] ?_
            refine zS 5 [(2, .sl (.int .i64) path), (3, .bp 3 0), (7, .int .i64 (thread % 3)), (8, .int .i64 v0_7.1), (9, .int .i64 v0_7.2), (12, .int .i64 v0_9.1), (13, .int .i64 v0_9.2), (16, .own 75000), (18, .bool v0_12.1), (114, .bool true), (115, .cv (undef)), (116, .cv (undef))] [(3, .box 24 [.int .i64 g.1, .sl (.pair (.int .i64) (.pair (.int .i64) (.pair (.int .i64) .bool))) g.2]), (75000, .arr 3 (.int .i64) v0_11.1)] ?_
            refine zS 4 [(2, .sl (.int .i64) path), (3, .bp 3 0), (7, .int .i64 (thread % 3)), (8, .int .i64 v0_7.1), (9, .int .i64 v0_7.2), (12, .int .i64 v0_9.1), (13, .int .i64 v0_9.2), (16, .own 75000), (18, .bool v0_12.1), (114, .bool true), (120, .cv (undef))] [(3, .box 24 [.int .i64 g.1, .sl (.pair (.int .i64) (.pair (.int .i64) (.pair (.int .i64) .bool))) g.2]), (75000, .arr 3 (.int .i64) v0_11.1)] ?_
            refine zB [(2, .sl (.int .i64) path), (3, .bp 3 0), (7, .int .i64 (thread % 3)), (8, .int .i64 v0_7.1), (9, .int .i64 v0_7.2), (12, .int .i64 v0_9.1), (13, .int .i64 v0_9.2), (16, .own 75000), (18, .bool v0_12.1), (121, .bool true)] [(3, .box 24 [.int .i64 g.1, .sl (.pair (.int .i64) (.pair (.int .i64) (.pair (.int .i64) .bool))) g.2]), (75000, .arr 3 (.int .i64) v0_11.1)] ?_
            refine AW.cond (b := true) rfl (fun _ => ?_) (fun hb101 => by cases hb101)
            refine zo ?_
            refine zB [(6, .bool false)] [] ?_
            refine zr ?_
            obtain rfl := Option.some.inj h
            exact zR [] [] []
           ·refine zS 4 [(2, .sl (.int .i64) path), (3, .bp 3 0), (7, .int .i64 (thread % 3)), (8, .int .i64 v0_7.1), (9, .int .i64 v0_7.2), (10, .own 58000), (12, .int .i64 v0_9.1), (13, .int .i64 v0_9.2), (14, .own 70000), (16, .own 75000), (18, .bool v0_12.1), (106, .bool (!(decide (v0_12.2 = 0))))] [(3, .box 24 [.int .i64 g.1, .sl (.pair (.int .i64) (.pair (.int .i64) (.pair (.int .i64) .bool))) g.2]), (58000, .arr 3 (.int .i64) v0_8.1), (70000, .arr 3 (.int .i64) v0_10.1), (75000, .arr 3 (.int .i64) v0_11.1)] ?_
            rcases zI h with ⟨hb102, h⟩ | ⟨hb102, h⟩
            ·refine zS 4 [(2, .sl (.int .i64) path), (3, .bp 3 0), (7, .int .i64 (thread % 3)), (8, .int .i64 v0_7.1), (9, .int .i64 v0_7.2), (12, .int .i64 v0_9.1), (13, .int .i64 v0_9.2), (14, .own 70000), (16, .own 75000), (18, .bool v0_12.1), (106, .bool true), (107, .cv (undef)), (108, .cv (undef)), (109, .cv (undef)), (110, .cv (undef))] [(3, .box 24 [.int .i64 g.1, .sl (.pair (.int .i64) (.pair (.int .i64) (.pair (.int .i64) .bool))) g.2]), (70000, .arr 3 (.int .i64) v0_10.1), (75000, .arr 3 (.int .i64) v0_11.1)] ?_
             refine zS 5 [(2, .sl (.int .i64) path), (3, .bp 3 0), (7, .int .i64 (thread % 3)), (8, .int .i64 v0_7.1), (9, .int .i64 v0_7.2), (12, .int .i64 v0_9.1), (13, .int .i64 v0_9.2), (16, .own 75000), (18, .bool v0_12.1), (114, .bool true), (115, .cv (undef))] [(3, .box 24 [.int .i64 g.1, .sl (.pair (.int .i64) (.pair (.int .i64) (.pair (.int .i64) .bool))) g.2]), (75000, .arr 3 (.int .i64) v0_11.1)] ?_
             refine zS 4 [(2, .sl (.int .i64) path), (3, .bp 3 0), (7, .int .i64 (thread % 3)), (8, .int .i64 v0_7.1), (9, .int .i64 v0_7.2), (12, .int .i64 v0_9.1), (13, .int .i64 v0_9.2), (16, .own 75000), (18, .bool v0_12.1), (114, .bool true), (119, .cv (undef))] [(3, .box 24 [.int .i64 g.1, .sl (.pair (.int .i64) (.pair (.int .i64) (.pair (.int .i64) .bool))) g.2]), (75000, .arr 3 (.int .i64) v0_11.1)] ?_
             refine zB [(2, .sl (.int .i64) path), (3, .bp 3 0), (7, .int .i64 (thread % 3)), (8, .int .i64 v0_7.1), (9, .int .i64 v0_7.2), (12, .int .i64 v0_9.1), (13, .int .i64 v0_9.2), (16, .own 75000), (18, .bool v0_12.1), (121, .bool true)] [(3, .box 24 [.int .i64 g.1, .sl (.pair (.int .i64) (.pair (.int .i64) (.pair (.int .i64) .bool))) g.2]), (75000, .arr 3 (.int .i64) v0_11.1)] ?_
             refine AW.cond (b := true) rfl (fun _ => ?_) (fun hb103 => by cases hb103)
             refine zo ?_
             refine zB [(6, .bool false)] [] ?_
             refine zr ?_
             obtain rfl := Option.some.inj h
             exact zR [] [] []
            ·refine zS 4 [(2, .sl (.int .i64) path), (3, .bp 3 0), (7, .int .i64 (thread % 3)), (8, .int .i64 v0_7.1), (9, .int .i64 v0_7.2), (12, .int .i64 v0_9.1), (13, .int .i64 v0_9.2), (14, .own 70000), (16, .own 75000), (18, .bool v0_12.1), (106, .bool false), (107, .own 58000), (108, .own 75000), (109, .int .i64 v0_7.1), (110, .int .i64 v0_7.2)] [(3, .box 24 [.int .i64 g.1, .sl (.pair (.int .i64) (.pair (.int .i64) (.pair (.int .i64) .bool))) g.2]), (58000, .arr 3 (.int .i64) v0_8.1), (70000, .arr 3 (.int .i64) v0_10.1), (75000, .arr 3 (.int .i64) v0_11.1)] ?_
             obtain ⟨v0_13, hv104, h⟩ := Option.bind_eq_some_iff.1 h
             refine zG [58000, 75000] [] (hc_lineallaw07_top v0_8.1 v0_11.1 v0_7.1 v0_7.2 hv104) [(2, .sl (.int .i64) path), (3, .bp 3 0), (7, .int .i64 (thread % 3)), (8, .int .i64 v0_7.1), (9, .int .i64 v0_7.2), (12, .int .i64 v0_9.1), (13, .int .i64 v0_9.2), (14, .own 70000), (16, .own 75000), (18, .bool v0_12.1), (106, .bool false), (111, .bool v0_13)] [(3, .box 24 [.int .i64 g.1, .sl (.pair (.int .i64) (.pair (.int .i64) (.pair (.int .i64) .bool))) g.2]), (70000, .arr 3 (.int .i64) v0_10.1), (75000, .arr 3 (.int .i64) v0_11.1)] ?_
             refine zS 3 [(2, .sl (.int .i64) path), (3, .bp 3 0), (7, .int .i64 (thread % 3)), (8, .int .i64 v0_7.1), (9, .int .i64 v0_7.2), (12, .int .i64 v0_9.1), (13, .int .i64 v0_9.2), (14, .own 70000), (16, .own 75000), (18, .bool v0_12.1), (114, .bool (!v0_13))] [(3, .box 24 [.int .i64 g.1, .sl (.pair (.int .i64) (.pair (.int .i64) (.pair (.int .i64) .bool))) g.2]), (70000, .arr 3 (.int .i64) v0_10.1), (75000, .arr 3 (.int .i64) v0_11.1)] ?_
             rcases zI h with ⟨hb105, h⟩ | ⟨hb105, h⟩
             ·refine zS 4 [(2, .sl (.int .i64) path), (3, .bp 3 0), (7, .int .i64 (thread % 3)), (8, .int .i64 v0_7.1), (9, .int .i64 v0_7.2), (12, .int .i64 v0_9.1), (13, .int .i64 v0_9.2), (16, .own 75000), (18, .bool v0_12.1), (114, .bool true), (115, .cv (undef)), (116, .cv (undef)), (117, .cv (undef)), (118, .cv (undef))] [(3, .box 24 [.int .i64 g.1, .sl (.pair (.int .i64) (.pair (.int .i64) (.pair (.int .i64) .bool))) g.2]), (75000, .arr 3 (.int .i64) v0_11.1)] ?_
              refine zB [(2, .sl (.int .i64) path), (3, .bp 3 0), (7, .int .i64 (thread % 3)), (8, .int .i64 v0_7.1), (9, .int .i64 v0_7.2), (12, .int .i64 v0_9.1), (13, .int .i64 v0_9.2), (16, .own 75000), (18, .bool v0_12.1), (121, .bool true)] [(3, .box 24 [.int .i64 g.1, .sl (.pair (.int .i64) (.pair (.int .i64) (.pair (.int .i64) .bool))) g.2]), (75000, .arr 3 (.int .i64) v0_11.1)] ?_
              refine AW.cond (b := true) rfl (fun _ => ?_) (fun hb106 => by cases hb106)
              refine zo ?_
              refine zB [(6, .bool false)] [] ?_
              refine zr ?_
              obtain rfl := Option.some.inj h
              exact zR [] [] []
             ·refine zS 4 [(2, .sl (.int .i64) path), (3, .bp 3 0), (7, .int .i64 (thread % 3)), (8, .int .i64 v0_7.1), (9, .int .i64 v0_7.2), (12, .int .i64 v0_9.1), (13, .int .i64 v0_9.2), (16, .own 75000), (18, .bool v0_12.1), (114, .bool false), (115, .own 70000), (116, .own 75000), (117, .int .i64 v0_9.1), (118, .int .i64 v0_9.2)] [(3, .box 24 [.int .i64 g.1, .sl (.pair (.int .i64) (.pair (.int .i64) (.pair (.int .i64) .bool))) g.2]), (70000, .arr 3 (.int .i64) v0_10.1), (75000, .arr 3 (.int .i64) v0_11.1)] ?_
              obtain ⟨v0_14, hv107, h⟩ := Option.bind_eq_some_iff.1 h
              refine zG [70000, 75000] [] (hc_lineallaw07_top v0_10.1 v0_11.1 v0_9.1 v0_9.2 hv107) [(2, .sl (.int .i64) path), (3, .bp 3 0), (7, .int .i64 (thread % 3)), (8, .int .i64 v0_7.1), (9, .int .i64 v0_7.2), (12, .int .i64 v0_9.1), (13, .int .i64 v0_9.2), (16, .own 75000), (18, .bool v0_12.1), (114, .bool false), (119, .bool v0_14)] [(3, .box 24 [.int .i64 g.1, .sl (.pair (.int .i64) (.pair (.int .i64) (.pair (.int .i64) .bool))) g.2]), (75000, .arr 3 (.int .i64) v0_11.1)] ?_
              refine zB [(2, .sl (.int .i64) path), (3, .bp 3 0), (7, .int .i64 (thread % 3)), (8, .int .i64 v0_7.1), (9, .int .i64 v0_7.2), (12, .int .i64 v0_9.1), (13, .int .i64 v0_9.2), (16, .own 75000), (18, .bool v0_12.1), (121, .bool (!v0_14))] [(3, .box 24 [.int .i64 g.1, .sl (.pair (.int .i64) (.pair (.int .i64) (.pair (.int .i64) .bool))) g.2]), (75000, .arr 3 (.int .i64) v0_11.1)] ?_
              refine zQ h (fun hb108 h => ?_) (fun hb108 h => ?_)
              ·refine zo ?_
               refine zB [(6, .bool false)] [] ?_
               refine zr ?_
               obtain rfl := Option.some.inj h
               exact zR [] [] []
              ·refine zk ?_
               exact AW.weaken (zL [] [] []) (hk_lineallaw07_ProgressLongest_k1 () h)
         ·refine zS 5 [(2, .sl (.int .i64) path), (3, .bp 3 0), (7, .int .i64 (thread % 3)), (8, .int .i64 v0_7.1), (9, .int .i64 v0_7.2), (10, .own 58000), (12, .int .i64 v0_9.1), (13, .int .i64 v0_9.2), (14, .own 70000), (16, .own 75000), (17, .int .i64 v0_11.2), (18, .bool v0_12.1), (19, .int .i64 v0_12.2), (98, .bool false)] [(3, .box 24 [.int .i64 g.1, .sl (.pair (.int .i64) (.pair (.int .i64) (.pair (.int .i64) .bool))) g.2]), (58000, .arr 3 (.int .i64) v0_8.1), (70000, .arr 3 (.int .i64) v0_10.1), (75000, .arr 3 (.int .i64) v0_11.1)] ?_
          refine zS 4 [(2, .sl (.int .i64) path), (3, .bp 3 0), (7, .int .i64 (thread % 3)), (8, .int .i64 v0_7.1), (9, .int .i64 v0_7.2), (10, .own 58000), (12, .int .i64 v0_9.1), (13, .int .i64 v0_9.2), (14, .own 70000), (16, .own 75000), (18, .bool v0_12.1), (19, .int .i64 v0_12.2), (102, .bool (!(decide (v0_11.2 = 0))))] [(3, .box 24 [.int .i64 g.1, .sl (.pair (.int .i64) (.pair (.int .i64) (.pair (.int .i64) .bool))) g.2]), (58000, .arr 3 (.int .i64) v0_8.1), (70000, .arr 3 (.int .i64) v0_10.1), (75000, .arr 3 (.int .i64) v0_11.1)] ?_
          rcases zI h with ⟨hb109, h⟩ | ⟨hb109, h⟩
          ·refine zS 5 [(2, .sl (.int .i64) path), (3, .bp 3 0), (7, .int .i64 (thread % 3)), (8, .int .i64 v0_7.1), (9, .int .i64 v0_7.2), (12, .int .i64 v0_9.1), (13, .int .i64 v0_9.2), (14, .own 70000), (16, .own 75000), (18, .bool v0_12.1), (106, .bool true), (107, .cv (undef))] [(3, .box 24 [.int .i64 g.1, .sl (.pair (.int .i64) (.pair (.int .i64) (.pair (.int .i64) .bool))) g.2]), (70000, .arr 3 (.int .i64) v0_10.1), (75000, .arr 3 (.int .i64) v0_11.1)] ?_
           refine zS 4 [(2, .sl (.int .i64) path), (3, .bp 3 0), (7, .int .i64 (thread % 3)), (8, .int .i64 v0_7.1), (9, .int .i64 v0_7.2), (12, .int .i64 v0_9.1), (13, .int .i64 v0_9.2), (14, .own 70000), (16, .own 75000), (18, .bool v0_12.1), (106, .bool true), (111, .cv (undef))] [(3, .box 24 [.int .i64 g.1, .sl (.pair (.int .i64) (.pair (.int .i64) (.pair (.int .i64) .bool))) g.2]), (70000, .arr 3 (.int .i64) v0_10.1), (75000, .arr 3 (.int .i64) v0_11.1)] ?_
           refine zS 5 [(2, .sl (.int .i64) path), (3, .bp 3 0), (7, .int .i64 (thread % 3)), (8, .int .i64 v0_7.1), (9, .int .i64 v0_7.2), (12, .int .i64 v0_9.1), (13, .int .i64 v0_9.2), (16, .own 75000), (18, .bool v0_12.1), (114, .bool true), (115, .cv (undef)), (116, .cv (undef))] [(3, .box 24 [.int .i64 g.1, .sl (.pair (.int .i64) (.pair (.int .i64) (.pair (.int .i64) .bool))) g.2]), (75000, .arr 3 (.int .i64) v0_11.1)] ?_
           refine zS 4 [(2, .sl (.int .i64) path), (3, .bp 3 0), (7, .int .i64 (thread % 3)), (8, .int .i64 v0_7.1), (9, .int .i64 v0_7.2), (12, .int .i64 v0_9.1), (13, .int .i64 v0_9.2), (16, .own 75000), (18, .bool v0_12.1), (114, .bool true), (120, .cv (undef))] [(3, .box 24 [.int .i64 g.1, .sl (.pair (.int .i64) (.pair (.int .i64) (.pair (.int .i64) .bool))) g.2]), (75000, .arr 3 (.int .i64) v0_11.1)] ?_
           refine zB [(2, .sl (.int .i64) path), (3, .bp 3 0), (7, .int .i64 (thread % 3)), (8, .int .i64 v0_7.1), (9, .int .i64 v0_7.2), (12, .int .i64 v0_9.1), (13, .int .i64 v0_9.2), (16, .own 75000), (18, .bool v0_12.1), (121, .bool true)] [(3, .box 24 [.int .i64 g.1, .sl (.pair (.int .i64) (.pair (.int .i64) (.pair (.int .i64) .bool))) g.2]), (75000, .arr 3 (.int .i64) v0_11.1)] ?_
           refine AW.cond (b := true) rfl (fun _ => ?_) (fun hb110 => by cases hb110)
           refine zo ?_
           refine zB [(6, .bool false)] [] ?_
           refine zr ?_
           obtain rfl := Option.some.inj h
           exact zR [] [] []
          ·refine zS 4 [(2, .sl (.int .i64) path), (3, .bp 3 0), (7, .int .i64 (thread % 3)), (8, .int .i64 v0_7.1), (9, .int .i64 v0_7.2), (10, .own 58000), (12, .int .i64 v0_9.1), (13, .int .i64 v0_9.2), (14, .own 70000), (16, .own 75000), (18, .bool v0_12.1), (106, .bool (!(decide (v0_12.2 = 0))))] [(3, .box 24 [.int .i64 g.1, .sl (.pair (.int .i64) (.pair (.int .i64) (.pair (.int .i64) .bool))) g.2]), (58000, .arr 3 (.int .i64) v0_8.1), (70000, .arr 3 (.int .i64) v0_10.1), (75000, .arr 3 (.int .i64) v0_11.1)] ?_
           rcases zI h with ⟨hb111, h⟩ | ⟨hb111, h⟩
           ·refine zS 4 [(2, .sl (.int .i64) path), (3, .bp 3 0), (7, .int .i64 (thread % 3)), (8, .int .i64 v0_7.1), (9, .int .i64 v0_7.2), (12, .int .i64 v0_9.1), (13, .int .i64 v0_9.2), (14, .own 70000), (16, .own 75000), (18, .bool v0_12.1), (106, .bool true), (107, .cv (undef)), (108, .cv (undef)), (109, .cv (undef)), (110, .cv (undef))] [(3, .box 24 [.int .i64 g.1, .sl (.pair (.int .i64) (.pair (.int .i64) (.pair (.int .i64) .bool))) g.2]), (70000, .arr 3 (.int .i64) v0_10.1), (75000, .arr 3 (.int .i64) v0_11.1)] ?_
            refine zS 5 [(2, .sl (.int .i64) path), (3, .bp 3 0), (7, .int .i64 (thread % 3)), (8, .int .i64 v0_7.1), (9, .int .i64 v0_7.2), (12, .int .i64 v0_9.1), (13, .int .i64 v0_9.2), (16, .own 75000), (18, .bool v0_12.1), (114, .bool true), (115, .cv (undef))] [(3, .box 24 [.int .i64 g.1, .sl (.pair (.int .i64) (.pair (.int .i64) (.pair (.int .i64) .bool))) g.2]), (75000, .arr 3 (.int .i64) v0_11.1)] ?_
            refine zS 4 [(2, .sl (.int .i64) path), (3, .bp 3 0), (7, .int .i64 (thread % 3)), (8, .int .i64 v0_7.1), (9, .int .i64 v0_7.2), (12, .int .i64 v0_9.1), (13, .int .i64 v0_9.2), (16, .own 75000), (18, .bool v0_12.1), (114, .bool true), (119, .cv (undef))] [(3, .box 24 [.int .i64 g.1, .sl (.pair (.int .i64) (.pair (.int .i64) (.pair (.int .i64) .bool))) g.2]), (75000, .arr 3 (.int .i64) v0_11.1)] ?_
            refine zB [(2, .sl (.int .i64) path), (3, .bp 3 0), (7, .int .i64 (thread % 3)), (8, .int .i64 v0_7.1), (9, .int .i64 v0_7.2), (12, .int .i64 v0_9.1), (13, .int .i64 v0_9.2), (16, .own 75000), (18, .bool v0_12.1), (121, .bool true)] [(3, .box 24 [.int .i64 g.1, .sl (.pair (.int .i64) (.pair (.int .i64) (.pair (.int .i64) .bool))) g.2]), (75000, .arr 3 (.int .i64) v0_11.1)] ?_
            refine AW.cond (b := true) rfl (fun _ => ?_) (fun hb112 => by cases hb112)
            refine zo ?_
            refine zB [(6, .bool false)] [] ?_
            refine zr ?_
            obtain rfl := Option.some.inj h
            exact zR [] [] []
           ·refine zS 4 [(2, .sl (.int .i64) path), (3, .bp 3 0), (7, .int .i64 (thread % 3)), (8, .int .i64 v0_7.1), (9, .int .i64 v0_7.2), (12, .int .i64 v0_9.1), (13, .int .i64 v0_9.2), (14, .own 70000), (16, .own 75000), (18, .bool v0_12.1), (106, .bool false), (107, .own 58000), (108, .own 75000), (109, .int .i64 v0_7.1), (110, .int .i64 v0_7.2)] [(3, .box 24 [.int .i64 g.1, .sl (.pair (.int .i64) (.pair (.int .i64) (.pair (.int .i64) .bool))) g.2]), (58000, .arr 3 (.int .i64) v0_8.1), (70000, .arr 3 (.int .i64) v0_10.1), (75000, .arr 3 (.int .i64) v0_11.1)] ?_
            obtain ⟨v0_15, hv113, h⟩ := Option.bind_eq_some_iff.1 h
            refine zG [58000, 75000] [] (hc_lineallaw07_top v0_8.1 v0_11.1 v0_7.1 v0_7.2 hv113) [(2, .sl (.int .i64) path), (3, .bp 3 0), (7, .int .i64 (thread % 3)), (8, .int .i64 v0_7.1), (9, .int .i64 v0_7.2), (12, .int .i64 v0_9.1), (13, .int .i64 v0_9.2), (14, .own 70000), (16, .own 75000), (18, .bool v0_12.1), (106, .bool false), (111, .bool v0_15)] [(3, .box 24 [.int .i64 g.1, .sl (.pair (.int .i64) (.pair (.int .i64) (.pair (.int .i64) .bool))) g.2]), (70000, .arr 3 (.int .i64) v0_10.1), (75000, .arr 3 (.int .i64) v0_11.1)] ?_
            refine zS 3 [(2, .sl (.int .i64) path), (3, .bp 3 0), (7, .int .i64 (thread % 3)), (8, .int .i64 v0_7.1), (9, .int .i64 v0_7.2), (12, .int .i64 v0_9.1), (13, .int .i64 v0_9.2), (14, .own 70000), (16, .own 75000), (18, .bool v0_12.1), (114, .bool (!v0_15))] [(3, .box 24 [.int .i64 g.1, .sl (.pair (.int .i64) (.pair (.int .i64) (.pair (.int .i64) .bool))) g.2]), (70000, .arr 3 (.int .i64) v0_10.1), (75000, .arr 3 (.int .i64) v0_11.1)] ?_
            rcases zI h with ⟨hb114, h⟩ | ⟨hb114, h⟩
            ·refine zS 4 [(2, .sl (.int .i64) path), (3, .bp 3 0), (7, .int .i64 (thread % 3)), (8, .int .i64 v0_7.1), (9, .int .i64 v0_7.2), (12, .int .i64 v0_9.1), (13, .int .i64 v0_9.2), (16, .own 75000), (18, .bool v0_12.1), (114, .bool true), (115, .cv (undef)), (116, .cv (undef)), (117, .cv (undef)), (118, .cv (undef))] [(3, .box 24 [.int .i64 g.1, .sl (.pair (.int .i64) (.pair (.int .i64) (.pair (.int .i64) .bool))) g.2]), (75000, .arr 3 (.int .i64) v0_11.1)] ?_
             refine zB [(2, .sl (.int .i64) path), (3, .bp 3 0), (7, .int .i64 (thread % 3)), (8, .int .i64 v0_7.1), (9, .int .i64 v0_7.2), (12, .int .i64 v0_9.1), (13, .int .i64 v0_9.2), (16, .own 75000), (18, .bool v0_12.1), (121, .bool true)] [(3, .box 24 [.int .i64 g.1, .sl (.pair (.int .i64) (.pair (.int .i64) (.pair (.int .i64) .bool))) g.2]), (75000, .arr 3 (.int .i64) v0_11.1)] ?_
             refine AW.cond (b := true) rfl (fun _ => ?_) (fun hb115 => by cases hb115)
             refine zo ?_
             refine zB [(6, .bool false)] [] ?_
             refine zr ?_
             obtain rfl := Option.some.inj h
             exact zR [] [] []
            ·refine zS 4 [(2, .sl (.int .i64) path), (3, .bp 3 0), (7, .int .i64 (thread % 3)), (8, .int .i64 v0_7.1), (9, .int .i64 v0_7.2), (12, .int .i64 v0_9.1), (13, .int .i64 v0_9.2), (16, .own 75000), (18, .bool v0_12.1), (114, .bool false), (115, .own 70000), (116, .own 75000), (117, .int .i64 v0_9.1), (118, .int .i64 v0_9.2)] [(3, .box 24 [.int .i64 g.1, .sl (.pair (.int .i64) (.pair (.int .i64) (.pair (.int .i64) .bool))) g.2]), (70000, .arr 3 (.int .i64) v0_10.1), (75000, .arr 3 (.int .i64) v0_11.1)] ?_
             obtain ⟨v0_16, hv116, h⟩ := Option.bind_eq_some_iff.1 h
             refine zG [70000, 75000] [] (hc_lineallaw07_top v0_10.1 v0_11.1 v0_9.1 v0_9.2 hv116) [(2, .sl (.int .i64) path), (3, .bp 3 0), (7, .int .i64 (thread % 3)), (8, .int .i64 v0_7.1), (9, .int .i64 v0_7.2), (12, .int .i64 v0_9.1), (13, .int .i64 v0_9.2), (16, .own 75000), (18, .bool v0_12.1), (114, .bool false), (119, .bool v0_16)] [(3, .box 24 [.int .i64 g.1, .sl (.pair (.int .i64) (.pair (.int .i64) (.pair (.int .i64) .bool))) g.2]), (75000, .arr 3 (.int .i64) v0_11.1)] ?_
             refine zB [(2, .sl (.int .i64) path), (3, .bp 3 0), (7, .int .i64 (thread % 3)), (8, .int .i64 v0_7.1), (9, .int .i64 v0_7.2), (12, .int .i64 v0_9.1), (13, .int .i64 v0_9.2), (16, .own 75000), (18, .bool v0_12.1), (121, .bool (!v0_16))] [(3, .box 24 [.int .i64 g.1, .sl (.pair (.int .i64) (.pair (.int .i64) (.pair (.int .i64) .bool))) g.2]), (75000, .arr 3 (.int .i64) v0_11.1)] ?_
             refine zQ h (fun hb117 h => ?_) (fun hb117 h => ?_)
             ·refine zo ?_
              refine zB [(6, .bool false)] [] ?_
              refine zr ?_
              obtain rfl := Option.some.inj h
              exact zR [] [] []
             ·refine zk ?_
              exact AW.weaken (zL [] [] []) (hk_lineallaw07_ProgressLongest_k1 () h)
       ·refine zS 5 [(2, .sl (.int .i64) path), (3, .bp 3 0), (7, .int .i64 (thread % 3)), (8, .int .i64 v0_7.1), (9, .int .i64 v0_7.2), (10, .own 58000), (12, .int .i64 v0_9.1), (13, .int .i64 v0_9.2), (14, .own 70000), (16, .own 75000), (17, .int .i64 v0_11.2), (18, .bool v0_12.1), (19, .int .i64 v0_12.2), (90, .bool false)] [(3, .box 24 [.int .i64 g.1, .sl (.pair (.int .i64) (.pair (.int .i64) (.pair (.int .i64) .bool))) g.2]), (58000, .arr 3 (.int .i64) v0_8.1), (70000, .arr 3 (.int .i64) v0_10.1), (75000, .arr 3 (.int .i64) v0_11.1)] ?_
        refine zS 3 [(2, .sl (.int .i64) path), (3, .bp 3 0), (7, .int .i64 (thread % 3)), (8, .int .i64 v0_7.1), (9, .int .i64 v0_7.2), (10, .own 58000), (12, .int .i64 v0_9.1), (13, .int .i64 v0_9.2), (14, .own 70000), (16, .own 75000), (17, .int .i64 v0_11.2), (18, .bool v0_12.1), (19, .int .i64 v0_12.2), (90, .bool false), (93, .bool (!(decide (v0_9.2 = 0))))] [(3, .box 24 [.int .i64 g.1, .sl (.pair (.int .i64) (.pair (.int .i64) (.pair (.int .i64) .bool))) g.2]), (58000, .arr 3 (.int .i64) v0_8.1), (70000, .arr 3 (.int .i64) v0_10.1), (75000, .arr 3 (.int .i64) v0_11.1)] ?_
        rcases zI h with ⟨hb118, h⟩ | ⟨hb118, h⟩
        ·refine zS 5 [(2, .sl (.int .i64) path), (3, .bp 3 0), (7, .int .i64 (thread % 3)), (8, .int .i64 v0_7.1), (9, .int .i64 v0_7.2), (10, .own 58000), (12, .int .i64 v0_9.1), (13, .int .i64 v0_9.2), (14, .own 70000), (16, .own 75000), (17, .int .i64 v0_11.2), (18, .bool v0_12.1), (19, .int .i64 v0_12.2), (98, .bool (!(decide (v0_9.2 = 5))))] [(3, .box 24 [.int .i64 g.1, .sl (.pair (.int .i64) (.pair (.int .i64) (.pair (.int .i64) .bool))) g.2]), (58000, .arr 3 (.int .i64) v0_8.1), (70000, .arr 3 (.int .i64) v0_10.1), (75000, .arr 3 (.int .i64) v0_11.1)] ?_
         rcases zI h with ⟨hb119, h⟩ | ⟨hb119, h⟩
         ·refine zS 5 [(2, .sl (.int .i64) path), (3, .bp 3 0), (7, .int .i64 (thread % 3)), (8, .int .i64 v0_7.1), (9, .int .i64 v0_7.2), (10, .own 58000), (12, .int .i64 v0_9.1), (13, .int .i64 v0_9.2), (14, .own 70000), (16, .own 75000), (18, .bool v0_12.1), (102, .bool true), (103, .cv (undef))] [(3, .box 24 [.int .i64 g.1, .sl (.pair (.int .i64) (.pair (.int .i64) (.pair (.int .i64) .bool))) g.2]), (58000, .arr 3 (.int .i64) v0_8.1), (70000, .arr 3 (.int .i64) v0_10.1), (75000, .arr 3 (.int .i64) v0_11.1)] ?_
          refine zS 5 [(2, .sl (.int .i64) path), (3, .bp 3 0), (7, .int .i64 (thread % 3)), (8, .int .i64 v0_7.1), (9, .int .i64 v0_7.2), (12, .int .i64 v0_9.1), (13, .int .i64 v0_9.2), (14, .own 70000), (16, .own 75000), (18, .bool v0_12.1), (106, .bool true), (107, .cv (undef)), (108, .cv (undef))] [(3, .box 24 [.int .i64 g.1, .sl (.pair (.int .i64) (.pair (.int .i64) (.pair (.int .i64) .bool))) g.2]), (70000, .arr 3 (.int .i64) v0_10.1), (75000, .arr 3 (.int .i64) v0_11.1)] ?_
          refine zS 4 [(2, .sl (.int .i64) path), (3, .bp 3 0), (7, .int .i64 (thread % 3)), (8, .int .i64 v0_7.1), (9, .int .i64 v0_7.2), (12, .int .i64 v0_9.1), (13, .int .i64 v0_9.2), (14, .own 70000), (16, .own 75000), (18, .bool v0_12.1), (106, .bool true), (112, .cv (undef))] [(3, .box 24 [.int .i64 g.1, .sl (.pair (.int .i64) (.pair (.int .i64) (.pair (.int .i64) .bool))) g.2]), (70000, .arr 3 (.int .i64) v0_10.1), (75000, .arr 3 (.int .i64) v0_11.1)] ?_
          refine zS 5 [(2, .sl (.int .i64) path), (3, .bp 3 0), (7, .int .i64 (thread % 3)), (8, .int .i64 v0_7.1), (9, .int .i64 v0_7.2), (12, .int .i64 v0_9.1), (13, .int .i64 v0_9.2), (16, .own 75000), (18, .bool v0_12.1), (114, .bool true), (115, .cv (undef)), (116, .cv (undef)), (117, .cv (undef))] [(3, .box 24 [.int .i64 g.1, .sl (.pair (.int .i64) (.pair (.int .i64) (.pair (.int .i64) .bool))) g.2]), (75000, .arr 3 (.int .i64) v0_11.1)] ?_
          refine zB [(2, .sl (.int .i64) path), (3, .bp 3 0), (7, .int .i64 (thread % 3)), (8, .int .i64 v0_7.1), (9, .int .i64 v0_7.2), (12, .int .i64 v0_9.1), (13, .int .i64 v0_9.2), (16, .own 75000), (18, .bool v0_12.1), (121, .bool true)] [(3, .box 24 [.int .i64 g.1, .sl (.pair (.int .i64) (.pair (.int .i64) (.pair (.int .i64) .bool))) g.2]), (75000, .arr 3 (.int .i64) v0_11.1)] ?_
          refine AW.cond (b := true) rfl (fun _ => ?_) (fun hb120 => by cases hb120)
          refine zo ?_
          refine zB [(6, .bool false)] [] ?_
          refine zr ?_
          obtain rfl := Option.some.inj h
          exact zR [] [] []
         ·refine zS 4 [(2, .sl (.int .i64) path), (3, .bp 3 0), (7, .int .i64 (thread % 3)), (8, .int .i64 v0_7.1), (9, .int .i64 v0_7.2), (10, .own 58000), (12, .int .i64 v0_9.1), (13, .int .i64 v0_9.2), (14, .own 70000), (16, .own 75000), (18, .bool v0_12.1), (19, .int .i64 v0_12.2), (102, .bool (!(decide (v0_11.2 = 0))))] [(3, .box 24 [.int .i64 g.1, .sl (.pair (.int .i64) (.pair (.int .i64) (.pair (.int .i64) .bool))) g.2]), (58000, .arr 3 (.int .i64) v0_8.1), (70000, .arr 3 (.int .i64) v0_10.1), (75000, .arr 3 (.int .i64) v0_11.1)] ?_
          rcases zI h with ⟨hb121, h⟩ | ⟨hb121, h⟩
          ·refine zS 5 [(2, .sl (.int .i64) path), (3, .bp 3 0), (7, .int .i64 (thread % 3)), (8, .int .i64 v0_7.1), (9, .int .i64 v0_7.2), (12, .int .i64 v0_9.1), (13, .int .i64 v0_9.2), (14, .own 70000), (16, .own 75000), (18, .bool v0_12.1), (106, .bool true), (107, .cv (undef))] [(3, .box 24 [.int .i64 g.1, .sl (.pair (.int .i64) (.pair (.int .i64) (.pair (.int .i64) .bool))) g.2]), (70000, .arr 3 (.int .i64) v0_10.1), (75000, .arr 3 (.int .i64) v0_11.1)] ?_
           refine zS 4 [(2, .sl (.int .i64) path), (3, .bp 3 0), (7, .int .i64 (thread % 3)), (8, .int .i64 v0_7.1), (9, .int .i64 v0_7.2), (12, .int .i64 v0_9.1), (13, .int .i64 v0_9.2), (14, .own 70000), (16, .own 75000), (18, .bool v0_12.1), (106, .bool true), (111, .cv (undef))] [(3, .box 24 [.int .i64 g.1, .sl (.pair (.int .i64) (.pair (.int .i64) (.pair (.int .i64) .bool))) g.2]), (70000, .arr 3 (.int .i64) v0_10.1), (75000, .arr 3 (.int .i64) v0_11.1)] ?_
           refine zS 5 [(2, .sl (.int .i64) path), (3, .bp 3 0), (7, .int .i64 (thread % 3)), (8, .int .i64 v0_7.1), (9, .int .i64 v0_7.2), (12, .int .i64 v0_9.1), (13, .int .i64 v0_9.2), (16, .own 75000), (18, .bool v0_12.1), (114, .bool true), (115, .cv (undef)), (116, .cv (undef))] [(3, .box 24 [.int .i64 g.1, .sl (.pair (.int .i64) (.pair (.int .i64) (.pair (.int .i64) .bool))) g.2]), (75000, .arr 3 (.int .i64) v0_11.1)] ?_
           refine zS 4 [(2, .sl (.int .i64) path), (3, .bp 3 0), (7, .int .i64 (thread % 3)), (8, .int .i64 v0_7.1), (9, .int .i64 v0_7.2), (12, .int .i64 v0_9.1), (13, .int .i64 v0_9.2), (16, .own 75000), (18, .bool v0_12.1), (114, .bool true), (120, .cv (undef))] [(3, .box 24 [.int .i64 g.1, .sl (.pair (.int .i64) (.pair (.int .i64) (.pair (.int .i64) .bool))) g.2]), (75000, .arr 3 (.int .i64) v0_11.1)] ?_
           refine zB [(2, .sl (.int .i64) path), (3, .bp 3 0), (7, .int .i64 (thread % 3)), (8, .int .i64 v0_7.1), (9, .int .i64 v0_7.2), (12, .int .i64 v0_9.1), (13, .int .i64 v0_9.2), (16, .own 75000), (18, .bool v0_12.1), (121, .bool true)] [(3, .box 24 [.int .i64 g.1, .sl (.pair (.int .i64) (.pair (.int .i64) (.pair (.int .i64) .bool))) g.2]), (75000, .arr 3 (.int .i64) v0_11.1)] ?_
           refine AW.cond (b := true) rfl (fun _ => ?_) (fun hb122 => by cases hb122)
           refine zo ?_
           refine zB [(6, .bool false)] [] ?_
           refine zr ?_
           obtain rfl := Option.some.inj h
           exact zR [] [] []
          ·refine zS 4 [(2, .sl (.int .i64) path), (3, .bp 3 0), (7, .int .i64 (thread % 3)), (8, .int .i64 v0_7.1), (9, .int .i64 v0_7.2), (10, .own 58000), (12, .int .i64 v0_9.1), (13, .int .i64 v0_9.2), (14, .own 70000), (16, .own 75000), (18, .bool v0_12.1), (106, .bool (!(decide (v0_12.2 = 0))))] [(3, .box 24 [.int .i64 g.1, .sl (.pair (.int .i64) (.pair (.int .i64) (.pair (.int .i64) .bool))) g.2]), (58000, .arr 3 (.int .i64) v0_8.1), (70000, .arr 3 (.int .i64) v0_10.1), (75000, .arr 3 (.int .i64) v0_11.1)] ?_
           rcases zI h with ⟨hb123, h⟩ | ⟨hb123, h⟩
           ·refine zS 4 [(2, .sl (.int .i64) path), (3, .bp 3 0), (7, .int .i64 (thread % 3)), (8, .int .i64 v0_7.1), (9, .int .i64 v0_7.2), (12, .int .i64 v0_9.1), (13, .int .i64 v0_9.2), (14, .own 70000), (16, .own 75000), (18, .bool v0_12.1), (106, .bool true), (107, .cv (undef)), (108, .cv (undef)), (109, .cv (undef)), (110, .cv (undef))] [(3, .box 24 [.int .i64 g.1, .sl (.pair (.int .i64) (.pair (.int .i64) (.pair (.int .i64) .bool))) g.2]), (70000, .arr 3 (.int .i64) v0_10.1), (75000, .arr 3 (.int .i64) v0_11.1)] ?_
            refine zS 5 [(2, .sl (.int .i64) path), (3, .bp 3 0), (7, .int .i64 (thread % 3)), (8, .int .i64 v0_7.1), (9, .int .i64 v0_7.2), (12, .int .i64 v0_9.1), (13, .int .i64 v0_9.2), (16, .own 75000), (18, .bool v0_12.1), (114, .bool true), (115, .cv (undef))] [(3, .box 24 [.int .i64 g.1, .sl (.pair (.int .i64) (.pair (.int .i64) (.pair (.int .i64) .bool))) g.2]), (75000, .arr 3 (.int .i64) v0_11.1)] ?_
            refine zS 4 [(2, .sl (.int .i64) path), (3, .bp 3 0), (7, .int .i64 (thread % 3)), (8, .int .i64 v0_7.1), (9, .int .i64 v0_7.2), (12, .int .i64 v0_9.1), (13, .int .i64 v0_9.2), (16, .own 75000), (18, .bool v0_12.1), (114, .bool true), (119, .cv (undef))] [(3, .box 24 [.int .i64 g.1, .sl (.pair (.int .i64) (.pair (.int .i64) (.pair (.int .i64) .bool))) g.2]), (75000, .arr 3 (.int .i64) v0_11.1)] ?_
            refine zB [(2, .sl (.int .i64) path), (3, .bp 3 0), (7, .int .i64 (thread % 3)), (8, .int .i64 v0_7.1), (9, .int .i64 v0_7.2), (12, .int .i64 v0_9.1), (13, .int .i64 v0_9.2), (16, .own 75000), (18, .bool v0_12.1), (121, .bool true)] [(3, .box 24 [.int .i64 g.1, .sl (.pair (.int .i64) (.pair (.int .i64) (.pair (.int .i64) .bool))) g.2]), (75000, .arr 3 (.int .i64) v0_11.1)] ?_
            refine AW.cond (b := true) rfl (fun _ => ?_) (fun hb124 => by cases hb124)
            refine zo ?_
            refine zB [(6, .bool false)] [] ?_
            refine zr ?_
            obtain rfl := Option.some.inj h
            exact zR [] [] []
           ·refine zS 4 [(2, .sl (.int .i64) path), (3, .bp 3 0), (7, .int .i64 (thread % 3)), (8, .int .i64 v0_7.1), (9, .int .i64 v0_7.2), (12, .int .i64 v0_9.1), (13, .int .i64 v0_9.2), (14, .own 70000), (16, .own 75000), (18, .bool v0_12.1), (106, .bool false), (107, .own 58000), (108, .own 75000), (109, .int .i64 v0_7.1), (110, .int .i64 v0_7.2)] [(3, .box 24 [.int .i64 g.1, .sl (.pair (.int .i64) (.pair (.int .i64) (.pair (.int .i64) .bool))) g.2]), (58000, .arr 3 (.int .i64) v0_8.1), (70000, .arr 3 (.int .i64) v0_10.1), (75000, .arr 3 (.int .i64) v0_11.1)] ?_
            obtain ⟨v0_17, hv125, h⟩ := Option.bind_eq_some_iff.1 h
            refine zG [58000, 75000] [] (hc_lineallaw07_top v0_8.1 v0_11.1 v0_7.1 v0_7.2 hv125) [(2, .sl (.int .i64) path), (3, .bp 3 0), (7, .int .i64 (thread % 3)), (8, .int .i64 v0_7.1), (9, .int .i64 v0_7.2), (12, .int .i64 v0_9.1), (13, .int .i64 v0_9.2), (14, .own 70000), (16, .own 75000), (18, .bool v0_12.1), (106, .bool false), (111, .bool v0_17)] [(3, .box 24 [.int .i64 g.1, .sl (.pair (.int .i64) (.pair (.int .i64) (.pair (.int .i64) .bool))) g.2]), (70000, .arr 3 (.int .i64) v0_10.1), (75000, .arr 3 (.int .i64) v0_11.1)] ?_
            refine zS 3 [(2, .sl (.int .i64) path), (3, .bp 3 0), (7, .int .i64 (thread % 3)), (8, .int .i64 v0_7.1), (9, .int .i64 v0_7.2), (12, .int .i64 v0_9.1), (13, .int .i64 v0_9.2), (14, .own 70000), (16, .own 75000), (18, .bool v0_12.1), (114, .bool (!v0_17))] [(3, .box 24 [.int .i64 g.1, .sl (.pair (.int .i64) (.pair (.int .i64) (.pair (.int .i64) .bool))) g.2]), (70000, .arr 3 (.int .i64) v0_10.1), (75000, .arr 3 (.int .i64) v0_11.1)] ?_
            rcases zI h with ⟨hb126, h⟩ | ⟨hb126, h⟩
            ·refine zS 4 [(2, .sl (.int .i64) path), (3, .bp 3 0), (7, .int .i64 (thread % 3)), (8, .int .i64 v0_7.1), (9, .int .i64 v0_7.2), (12, .int .i64 v0_9.1), (13, .int .i64 v0_9.2), (16, .own 75000), (18, .bool v0_12.1), (114, .bool true), (115, .cv (undef)), (116, .cv (undef)), (117, .cv (undef)), (118, .cv (undef))] [(3, .box 24 [.int .i64 g.1, .sl (.pair (.int .i64) (.pair (.int .i64) (.pair (.int .i64) .bool))) g.2]), (75000, .arr 3 (.int .i64) v0_11.1)] ?_
             refine zB [(2, .sl (.int .i64) path), (3, .bp 3 0), (7, .int .i64 (thread % 3)), (8, .int .i64 v0_7.1), (9, .int .i64 v0_7.2), (12, .int .i64 v0_9.1), (13, .int .i64 v0_9.2), (16, .own 75000), (18, .bool v0_12.1), (121, .bool true)] [(3, .box 24 [.int .i64 g.1, .sl (.pair (.int .i64) (.pair (.int .i64) (.pair (.int .i64) .bool))) g.2]), (75000, .arr 3 (.int .i64) v0_11.1)] ?_
             refine AW.cond (b := true) rfl (fun _ => ?_) (fun hb127 => by cases hb127)
             refine zo ?_
             refine zB [(6, .bool false)] [] ?_
             refine zr ?_
             obtain rfl := Option.some.inj h
             exact zR [] [] []
            ·refine zS 4 [(2, .sl (.int .i64) path), (3, .bp 3 0), (7, .int .i64 (thread % 3)), (8, .int .i64 v0_7.1), (9, .int .i64 v0_7.2), (12, .int .i64 v0_9.1), (13, .int .i64 v0_9.2), (16, .own 75000), (18, .bool v0_12.1), (114, .bool false), (115, .own 70000), (116, .own 75000), (117, .int .i64 v0_9.1), (118, .int .i64 v0_9.2)] [(3, .box 24 [.int .i64 g.1, .sl (.pair (.int .i64) (.pair (.int .i64) (.pair (.int .i64) .bool))) g.2]), (70000, .arr 3 (.int .i64) v0_10.1), (75000, .arr 3 (.int .i64) v0_11.1)] ?_
             obtain ⟨v0_18, hv128, h⟩ := Option.bind_eq_some_iff.1 h
             refine zG [70000, 75000] [] (hc_lineallaw07_top v0_10.1 v0_11.1 v0_9.1 v0_9.2 hv128) [(2, .sl (.int .i64) path), (3, .bp 3 0), (7, .int .i64 (thread % 3)), (8, .int .i64 v0_7.1), (9, .int .i64 v0_7.2), (12, .int .i64 v0_9.1), (13, .int .i64 v0_9.2), (16, .own 75000), (18, .bool v0_12.1), (114, .bool false), (119, .bool v0_18)] [(3, .box 24 [.int .i64 g.1, .sl (.pair (.int .i64) (.pair (.int .i64) (.pair (.int .i64) .bool))) g.2]), (75000, .arr 3 (.int .i64) v0_11.1)] ?_
             refine zB [(2, .sl (.int .i64) path), (3, .bp 3 0), (7, .int .i64 (thread % 3)), (8, .int .i64 v0_7.1), (9, .int .i64 v0_7.2), (12, .int .i64 v0_9.1), (13, .int .i64 v0_9.2), (16, .own 75000), (18, .bool v0_12.1), (121, .bool (!v0_18))] [(3, .box 24 [.int .i64 g.1, .sl (.pair (.int .i64) (.pair (.int .i64) (.pair (.int .i64) .bool))) g.2]), (75000, .arr 3 (.int .i64) v0_11.1)] ?_
             refine zQ h (fun hb129 h => ?_) (fun hb129 h => ?_)
             ·refine zo ?_
              refine zB [(6, .bool false)] [] ?_
              refine zr ?_
              obtain rfl := Option.some.inj h
              exact zR [] [] []
             ·refine zk ?_
              exact AW.weaken (zL [] [] []) (hk_lineallaw07_ProgressLongest_k1 () h)
        ·refine zS 5 [(2, .sl (.int .i64) path), (3, .bp 3 0), (7, .int .i64 (thread % 3)), (8, .int .i64 v0_7.1), (9, .int .i64 v0_7.2), (10, .own 58000), (12, .int .i64 v0_9.1), (13, .int .i64 v0_9.2), (14, .own 70000), (16, .own 75000), (17, .int .i64 v0_11.2), (18, .bool v0_12.1), (19, .int .i64 v0_12.2), (98, .bool false)] [(3, .box 24 [.int .i64 g.1, .sl (.pair (.int .i64) (.pair (.int .i64) (.pair (.int .i64) .bool))) g.2]), (58000, .arr 3 (.int .i64) v0_8.1), (70000, .arr 3 (.int .i64) v0_10.1), (75000, .arr 3 (.int .i64) v0_11.1)] ?_
         refine zS 4 [(2, .sl (.int .i64) path), (3, .bp 3 0), (7, .int .i64 (thread % 3)), (8, .int .i64 v0_7.1), (9, .int .i64 v0_7.2), (10, .own 58000), (12, .int .i64 v0_9.1), (13, .int .i64 v0_9.2), (14, .own 70000), (16, .own 75000), (18, .bool v0_12.1), (19, .int .i64 v0_12.2), (102, .bool (!(decide (v0_11.2 = 0))))] [(3, .box 24 [.int .i64 g.1, .sl (.pair (.int .i64) (.pair (.int .i64) (.pair (.int .i64) .bool))) g.2]), (58000, .arr 3 (.int .i64) v0_8.1), (70000, .arr 3 (.int .i64) v0_10.1), (75000, .arr 3 (.int .i64) v0_11.1)] ?_
         rcases zI h with ⟨hb130, h⟩ | ⟨hb130, h⟩
         ·refine zS 5 [(2, .sl (.int .i64) path), (3, .bp 3 0), (7, .int .i64 (thread % 3)), (8, .int .i64 v0_7.1), (9, .int .i64 v0_7.2), (12, .int .i64 v0_9.1), (13, .int .i64 v0_9.2), (14, .own 70000), (16, .own 75000), (18, .bool v0_12.1), (106, .bool true), (107, .cv (undef))] [(3, .box 24 [.int .i64 g.1, .sl (.pair (.int .i64) (.pair (.int .i64) (.pair (.int .i64) .bool))) g.2]), (70000, .arr 3 (.int .i64) v0_10.1), (75000, .arr 3 (.int .i64) v0_11.1)] ?_
          refine zS 4 [(2, .sl (.int .i64) path), (3, .bp 3 0), (7, .int .i64 (thread % 3)), (8, .int .i64 v0_7.1), (9, .int .i64 v0_7.2), (12, .int .i64 v0_9.1), (13, .int .i64 v0_9.2), (14, .own 70000), (16, .own 75000), (18, .bool v0_12.1), (106, .bool true), (111, .cv (undef))] [(3, .box 24 [.int .i64 g.1, .sl (.pair (.int .i64) (.pair (.int .i64) (.pair (.int .i64) .bool))) g.2]), (70000, .arr 3 (.int .i64) v0_10.1), (75000, .arr 3 (.int .i64) v0_11.1)] ?_
          refine zS 5 [(2, .sl (.int .i64) path), (3, .bp 3 0), (7, .int .i64 (thread % 3)), (8, .int .i64 v0_7.1), (9, .int .i64 v0_7.2), (12, .int .i64 v0_9.1), (13, .int .i64 v0_9.2), (16, .own 75000), (18, .bool v0_12.1), (114, .bool true), (115, .cv (undef)), (116, .cv (undef))] [(3, .box 24 [.int .i64 g.1, .sl (.pair (.int .i64) (.pair (.int .i64) (.pair (.int .i64) .bool))) g.2]), (75000, .arr 3 (.int .i64) v0_11.1)] ?_
          refine zS 4 [(2, .sl (.int .i64) path), (3, .bp 3 0), (7, .int .i64 (thread % 3)), (8, .int .i64 v0_7.1), (9, .int .i64 v0_7.2), (12, .int .i64 v0_9.1), (13, .int .i64 v0_9.2), (16, .own 75000), (18, .bool v0_12.1), (114, .bool true), (120, .cv (undef))] [(3, .box 24 [.int .i64 g.1, .sl (.pair (.int .i64) (.pair (.int .i64) (.pair (.int .i64) .bool))) g.2]), (75000, .arr 3 (.int .i64) v0_11.1)] ?_
          refine zB [(2, .sl (.int .i64) path), (3, .bp 3 0), (7, .int .i64 (thread % 3)), (8, .int .i64 v0_7.1), (9, .int .i64 v0_7.2), (12, .int .i64 v0_9.1), (13, .int .i64 v0_9.2), (16, .own 75000), (18, .bool v0_12.1), (121, .bool true)] [(3, .box 24 [.int .i64 g.1, .sl (.pair (.int .i64) (.pair (.int .i64) (.pair (.int .i64) .bool))) g.2]), (75000, .arr 3 (.int .i64) v0_11.1)] ?_
          refine AW.cond (b := true) rfl (fun _ => ?_) (fun hb131 => by cases hb131)
          refine zo ?_
          refine zB [(6, .bool false)] [] ?_
          refine zr ?_
          obtain rfl := Option.some.inj h
          exact zR [] [] []
         ·refine zS 4 [(2, .sl (.int .i64) path), (3, .bp 3 0), (7, .int .i64 (thread % 3)), (8, .int .i64 v0_7.1), (9, .int .i64 v0_7.2), (10, .own 58000), (12, .int .i64 v0_9.1), (13, .int .i64 v0_9.2), (14, .own 70000), (16, .own 75000), (18, .bool v0_12.1), (106, .bool (!(decide (v0_12.2 = 0))))] [(3, .box 24 [.int .i64 g.1, .sl (.pair (.int .i64) (.pair (.int .i64) (.pair (.int .i64) .bool))) g.2]), (58000, .arr 3 (.int .i64) v0_8.1), (70000, .arr 3 (.int .i64) v0_10.1), (75000, .arr 3 (.int .i64) v0_11.1)] ?_
          rcases zI h with ⟨hb132, h⟩ | ⟨hb132, h⟩
          ·refine zS 4 [(2, .sl (.int .i64) path), (3, .bp 3 0), (7, .int .i64 (thread % 3)), (8, .int .i64 v0_7.1), (9, .int .i64 v0_7.2), (12, .int .i64 v0_9.1), (13, .int .i64 v0_9.2), (14, .own 70000), (16, .own 75000), (18, .bool v0_12.1), (106, .bool true), (107, .cv (undef)), (108, .cv (undef)), (109, .cv (undef)), (110, .cv (undef))] [(3, .box 24 [.int .i64 g.1, .sl (.pair (.int .i64) (.pair (.int .i64) (.pair (.int .i64) .bool))) g.2]), (70000, .arr 3 (.int .i64) v0_10.1), (75000, .arr 3 (.int .i64) v0_11.1)] ?_
           refine zS 5 [(2, .sl (.int .i64) path), (3, .bp 3 0), (7, .int .i64 (thread % 3)), (8, .int .i64 v0_7.1), (9, .int .i64 v0_7.2), (12, .int .i64 v0_9.1), (13, .int .i64 v0_9.2), (16, .own 75000), (18, .bool v0_12.1), (114, .bool true), (115, .cv (undef))] [(3, .box 24 [.int .i64 g.1, .sl (.pair (.int .i64) (.pair (.int .i64) (.pair (.int .i64) .bool))) g.2]), (75000, .arr 3 (.int .i64) v0_11.1)] ?_
           refine zS 4 [(2, .sl (.int .i64) path), (3, .bp 3 0), (7, .int .i64 (thread % 3)), (8, .int .i64 v0_7.1), (9, .int .i64 v0_7.2), (12, .int .i64 v0_9.1), (13, .int .i64 v0_9.2), (16, .own 75000), (18, .bool v0_12.1), (114, .bool true), (119, .cv (undef))] [(3, .box 24 [.int .i64 g.1, .sl (.pair (.int .i64) (.pair (.int .i64) (.pair (.int .i64) .bool))) g.2]), (75000, .arr 3 (.int .i64) v0_11.1)] ?_
           refine zB [(2, .sl (.int .i64) path), (3, .bp 3 0), (7, .int .i64 (thread % 3)), (8, .int .i64 v0_7.1), (9, .int .i64 v0_7.2), (12, .int .i64 v0_9.1), (13, .int .i64 v0_9.2), (16, .own 75000), (18, .bool v0_12.1), (121, .bool true)] [(3, .box 24 [.int .i64 g.1, .sl (.pair (.int .i64) (.pair (.int .i64) (.pair (.int .i64) .bool))) g.2]), (75000, .arr 3 (.int .i64) v0_11.1)] ?_
           refine AW.cond (b := true) rfl (fun _ => ?_) (fun hb133 => by cases hb133)
           refine zo ?_
           refine zB [(6, .bool false)] [] ?_
           refine zr ?_
           obtain rfl := Option.some.inj h
           exact zR [] [] []
          ·refine zS 4 [(2, .sl (.int .i64) path), (3, .bp 3 0), (7, .int .i64 (thread % 3)), (8, .int .i64 v0_7.1), (9, .int .i64 v0_7.2), (12, .int .i64 v0_9.1), (13, .int .i64 v0_9.2), (14, .own 70000), (16, .own 75000), (18, .bool v0_12.1), (106, .bool false), (107, .own 58000), (108, .own 75000), (109, .int .i64 v0_7.1), (110, .int .i64 v0_7.2)] [(3, .box 24 [.int .i64 g.1, .sl (.pair (.int .i64) (.pair (.int .i64) (.pair (.int .i64) .bool))) g.2]), (58000, .arr 3 (.int .i64) v0_8.1), (70000, .arr 3 (.int .i64) v0_10.1), (75000, .arr 3 (.int .i64) v0_11.1)] ?_
           obtain ⟨v0_19, hv134, h⟩ := Option.bind_eq_some_iff.1 h
           refine zG [58000, 75000] [] (hc_lineallaw07_top v0_8.1 v0_11.1 v0_7.1 v0_7.2 hv134) [(2, .sl (.int .i64) path), (3, .bp 3 0), (7, .int .i64 (thread % 3)), (8, .int .i64 v0_7.1), (9, .int .i64 v0_7.2), (12, .int .i64 v0_9.1), (13, .int .i64 v0_9.2), (14, .own 70000), (16, .own 75000), (18, .bool v0_12.1), (106, .bool false), (111, .bool v0_19)] [(3, .box 24 [.int .i64 g.1, .sl (.pair (.int .i64) (.pair (.int .i64) (.pair (.int .i64) .bool))) g.2]), (70000, .arr 3 (.int .i64) v0_10.1), (75000, .arr 3 (.int .i64) v0_11.1)] ?_
           refine zS 3 [(2, .sl (.int .i64) path), (3, .bp 3 0), (7, .int .i64 (thread % 3)), (8, .int .i64 v0_7.1), (9, .int .i64 v0_7.2), (12, .int .i64 v0_9.1), (13, .int .i64 v0_9.2), (14, .own 70000), (16, .own 75000), (18, .bool v0_12.1), (114, .bool (!v0_19))] [(3, .box 24 [.int .i64 g.1, .sl (.pair (.int .i64) (.pair (.int .i64) (.pair (.int .i64) .bool))) g.2]), (70000, .arr 3 (.int .i64) v0_10.1), (75000, .arr 3 (.int .i64) v0_11.1)] ?_
           rcases zI h with ⟨hb135, h⟩ | ⟨hb135, h⟩
           ·refine zS 4 [(2, .sl (.int .i64) path), (3, .bp 3 0), (7, .int .i64 (thread % 3)), (8, .int .i64 v0_7.1), (9, .int .i64 v0_7.2), (12, .int .i64 v0_9.1), (13, .int .i64 v0_9.2), (16, .own 75000), (18, .bool v0_12.1), (114, .bool true), (115, .cv (undef)), (116, .cv (undef)), (117, .cv (undef)), (118, .cv (undef))] [(3, .box 24 [.int .i64 g.1, .sl (.pair (.int .i64) (.pair (.int .i64) (.pair (.int .i64) .bool))) g.2]), (75000, .arr 3 (.int .i64) v0_11.1)] ?_
            refine zB [(2, .sl (.int .i64) path), (3, .bp 3 0), (7, .int .i64 (thread % 3)), (8, .int .i64 v0_7.1), (9, .int .i64 v0_7.2), (12, .int .i64 v0_9.1), (13, .int .i64 v0_9.2), (16, .own 75000), (18, .bool v0_12.1), (121, .bool true)] [(3, .box 24 [.int .i64 g.1, .sl (.pair (.int .i64) (.pair (.int .i64) (.pair (.int .i64) .bool))) g.2]), (75000, .arr 3 (.int .i64) v0_11.1)] ?_
            refine AW.cond (b := true) rfl (fun _ => ?_) (fun hb136 => by cases hb136)
            refine zo ?_
            refine zB [(6, .bool false)] [] ?_
            refine zr ?_
            obtain rfl := Option.some.inj h
            exact zR [] [] []
           ·refine zS 4 [(2, .sl (.int .i64) path), (3, .bp 3 0), (7, .int .i64 (thread % 3)), (8, .int .i64 v0_7.1), (9, .int .i64 v0_7.2), (12, .int .i64 v0_9.1), (13, .int .i64 v0_9.2), (16, .own 75000), (18, .bool v0_12.1), (114, .bool false), (115, .own 70000), (116, .own 75000), (117, .int .i64 v0_9.1), (118, .int .i64 v0_9.2)] [(3, .box 24 [.int .i64 g.1, .sl (.pair (.int .i64) (.pair (.int .i64) (.pair (.int .i64) .bool))) g.2]), (70000, .arr 3 (.int .i64) v0_10.1), (75000, .arr 3 (.int .i64) v0_11.1)] ?_
            obtain ⟨v0_20, hv137, h⟩ := Option.bind_eq_some_iff.1 h
            refine zG [70000, 75000] [] (hc_lineallaw07_top v0_10.1 v0_11.1 v0_9.1 v0_9.2 hv137) [(2, .sl (.int .i64) path), (3, .bp 3 0), (7, .int .i64 (thread % 3)), (8, .int .i64 v0_7.1), (9, .int .i64 v0_7.2), (12, .int .i64 v0_9.1), (13, .int .i64 v0_9.2), (16, .own 75000), (18, .bool v0_12.1), (114, .bool false), (119, .bool v0_20)] [(3, .box 24 [.int .i64 g.1, .sl (.pair (.int .i64) (.pair (.int .i64) (.pair (.int .i64) .bool))) g.2]), (75000, .arr 3 (.int .i64) v0_11.1)] ?_
            refine zB [(2, .sl (.int .i64) path), (3, .bp 3 0), (7, .int .i64 (thread % 3)), (8, .int .i64 v0_7.1), (9, .int .i64 v0_7.2), (12, .int .i64 v0_9.1), (13, .int .i64 v0_9.2), (16, .own 75000), (18, .bool v0_12.1), (121, .bool (!v0_20))] [(3, .box 24 [.int .i64 g.1, .sl (.pair (.int .i64) (.pair (.int .i64) (.pair (.int .i64) .bool))) g.2]), (75000, .arr 3 (.int .i64) v0_11.1)] ?_
            refine zQ h (fun hb138 h => ?_) (fun hb138 h => ?_)
            ·refine zo ?_
             refine zB [(6, .bool false)] [] ?_
             refine zr ?_
             obtain rfl := Option.some.inj h
             exact zR [] [] []
            ·refine zk ?_
             exact AW.weaken (zL [] [] []) (hk_lineallaw07_ProgressLongest_k1 () h)

end Go.Proofs.Yteclokkdgmacpaa
