/-
  Made by wip/tool/dc.py out of the print of the program: contracts.
-/
import Derived.Test.YteclokkdgmacpaaGrp
import Derived.Test.YteclokkdgmacpaaSh7
import Derived.Test.YteclokkdgmacpaaAvd
import Derived.Test.YteclokkdgmacpaaGac1
import Derived.Test.YteclokkdgmacpaaGac10
import Derived.Test.YteclokkdgmacpaaGac6
import Derived.Test.YteclokkdgmacpaaGac7
import Derived.Test.YteclokkdgmacpaaGac8
import Derived.Test.YteclokkdgmacpaaGac9
namespace Go.Proofs.Yteclokkdgmacpaa
open Go.RowKit

set_option linter.unusedSimpArgs false
set_option linter.unusedVariables false
set_option linter.constructorNameAsVariable false

set_option maxRecDepth 100000
set_option maxHeartbeats 2000000

theorem hc_lineallaw07_ProgressPaths (g : Int × (List (Int × Int × Int × Bool))) (path : List Int) (place : Int) {r : Bool} (h : lineallaw07_ProgressPaths g path place = some r) : HC Try.prog 3 [] [.agg [.int .i64 g.1, .sl (.pair (.int .i64) (.pair (.int .i64) (.pair (.int .i64) .bool))) g.2], .sl (.int .i64) path, .int .i64 place] [] (.bool r) := by
 unfold lineallaw07_ProgressPaths at h
 refine zH Try.func3 [.tmp 6] 113 ?_
 refine zo ?_
 refine zB [(1, .sl (.int .i64) path), (2, .int .i64 place), (3, .bp 3 0)] [(3, .box 24 [.int .i64 g.1, .sl (.pair (.int .i64) (.pair (.int .i64) (.pair (.int .i64) .bool))) g.2])] ?_
 refine AW.seq ?_
 refine zo ?_
 refine zS 1 [(1, .sl (.int .i64) path), (2, .int .i64 place), (3, .bp 3 0), (17, .agg [.int .i64 g.1, .sl (.pair (.int .i64) (.pair (.int .i64) (.pair (.int .i64) .bool))) g.2])] [(3, .box 24 [.int .i64 g.1, .sl (.pair (.int .i64) (.pair (.int .i64) (.pair (.int .i64) .bool))) g.2])] ?_
 obtain ⟨v0, hv1, h⟩ := Option.bind_eq_some_iff.1 h
 refine zC [] [] (hc_lineallaw07_Long g hv1) [(1, .sl (.int .i64) path), (2, .int .i64 place), (3, .bp 3 0), (18, .bool (decide (100 < (g.2.length : Int))))] [(3, .box 24 [.int .i64 g.1, .sl (.pair (.int .i64) (.pair (.int .i64) (.pair (.int .i64) .bool))) g.2])] ?_
 refine zS 1 [(1, .sl (.int .i64) path), (2, .int .i64 place), (3, .bp 3 0), (19, .bool (decide (100 < (g.2.length : Int))))] [(3, .box 24 [.int .i64 g.1, .sl (.pair (.int .i64) (.pair (.int .i64) (.pair (.int .i64) .bool))) g.2])] ?_
 rcases zI h with ⟨hb2, h⟩ | ⟨hb2, h⟩
 ·refine zB [(1, .sl (.int .i64) path), (2, .int .i64 place), (3, .bp 3 0), (22, .bool true)] [(3, .box 24 [.int .i64 g.1, .sl (.pair (.int .i64) (.pair (.int .i64) (.pair (.int .i64) .bool))) g.2])] ?_
  refine AW.cond (b := true) rfl (fun _ => ?_) (fun hb3 => by cases hb3)
  refine zo ?_
  obtain ⟨v0_2, hv4, h⟩ := Option.bind_eq_some_iff.1 h
  refine zC [] [] (hc_lineallaw07_Awake hv4) [(23, .bool v0_2)] [] ?_
  refine zB [(6, .bool v0_2)] [] ?_
  refine zr ?_
  obtain rfl := Option.some.inj h
  exact zR [] [] []
 ·refine zS 1 [(1, .sl (.int .i64) path), (2, .int .i64 place), (3, .bp 3 0), (19, .bool false), (20, .sl (.int .i64) path)] [(3, .box 24 [.int .i64 g.1, .sl (.pair (.int .i64) (.pair (.int .i64) (.pair (.int .i64) .bool))) g.2])] ?_
  obtain ⟨v0_3, hv5, h⟩ := Option.bind_eq_some_iff.1 h
  refine zG [] [] (hc_lineallaw07_many path hv5) [(1, .sl (.int .i64) path), (2, .int .i64 place), (3, .bp 3 0), (19, .bool false), (21, .bool (decide (1100 < (path.length : Int))))] [(3, .box 24 [.int .i64 g.1, .sl (.pair (.int .i64) (.pair (.int .i64) (.pair (.int .i64) .bool))) g.2])] ?_
  refine zB [(1, .sl (.int .i64) path), (2, .int .i64 place), (3, .bp 3 0), (22, .bool (decide (1100 < (path.length : Int))))] [(3, .box 24 [.int .i64 g.1, .sl (.pair (.int .i64) (.pair (.int .i64) (.pair (.int .i64) .bool))) g.2])] ?_
  refine zQ h (fun hb6 h => ?_) (fun hb6 h => ?_)
  ·refine zo ?_
   obtain ⟨v0_4, hv7, h⟩ := Option.bind_eq_some_iff.1 h
   refine zC [] [] (hc_lineallaw07_Awake hv7) [(23, .bool v0_4)] [] ?_
   refine zB [(6, .bool v0_4)] [] ?_
   refine zr ?_
   obtain rfl := Option.some.inj h
   exact zR [] [] []
  ·refine zk ?_
   refine zo ?_
   refine zS 2 [(1, .sl (.int .i64) path), (2, .int .i64 place), (3, .bp 3 0), (25, .agg [.int .i64 g.1, .sl (.pair (.int .i64) (.pair (.int .i64) (.pair (.int .i64) .bool))) g.2]), (26, .sl (.int .i64) path)] [(3, .box 24 [.int .i64 g.1, .sl (.pair (.int .i64) (.pair (.int .i64) (.pair (.int .i64) .bool))) g.2])] ?_
   obtain ⟨v0_5, hv8, h⟩ := Option.bind_eq_some_iff.1 h
   refine zC [] [] (hc_progress_IsPath g path hv8) [(1, .sl (.int .i64) path), (2, .int .i64 place), (3, .bp 3 0), (27, .tup [.bool v0_5.1, .int .i64 v0_5.2])] [(3, .box 24 [.int .i64 g.1, .sl (.pair (.int .i64) (.pair (.int .i64) (.pair (.int .i64) .bool))) g.2])] ?_
   refine zB [(1, .sl (.int .i64) path), (2, .int .i64 place), (3, .bp 3 0), (7, .bool v0_5.1), (8, .int .i64 v0_5.2)] [(3, .box 24 [.int .i64 g.1, .sl (.pair (.int .i64) (.pair (.int .i64) (.pair (.int .i64) .bool))) g.2])] ?_
   refine zo ?_
   refine zS 2 [(2, .int .i64 place), (3, .bp 3 0), (7, .bool v0_5.1), (8, .int .i64 v0_5.2), (31, .agg [.int .i64 g.1, .sl (.pair (.int .i64) (.pair (.int .i64) (.pair (.int .i64) .bool))) g.2]), (32, .sl (.int .i64) path)] [(3, .box 24 [.int .i64 g.1, .sl (.pair (.int .i64) (.pair (.int .i64) (.pair (.int .i64) .bool))) g.2])] ?_
   obtain ⟨v0_6, hv9, h⟩ := Option.bind_eq_some_iff.1 h
   refine zC [] [] (hc_linealref07_IsPath g path hv9) [(2, .int .i64 place), (3, .bp 3 0), (7, .bool v0_5.1), (8, .int .i64 v0_5.2), (33, .tup [.bool v0_6.1, .int .i64 v0_6.2])] [(3, .box 24 [.int .i64 g.1, .sl (.pair (.int .i64) (.pair (.int .i64) (.pair (.int .i64) .bool))) g.2])] ?_
   refine zB [(2, .int .i64 place), (3, .bp 3 0), (7, .bool v0_5.1), (8, .int .i64 v0_5.2), (9, .bool v0_6.1), (10, .int .i64 v0_6.2)] [(3, .box 24 [.int .i64 g.1, .sl (.pair (.int .i64) (.pair (.int .i64) (.pair (.int .i64) .bool))) g.2])] ?_
   refine AW.seq ?_
   refine AW.seq ?_
   refine AW.draw tab_ok mixed_ok [] [] (by decide) (lex_fast (by kernel_rfl)) ?_
   as_aux_lemma =>
    refine adops_cut 1 (fun K' hK10 => ?_)
    try dsimp only [List.drop_succ_cons, List.drop_zero, List.take_succ_cons, List.take_zero]
    simp only [go_sem, hb2, hb6]
    repeat with_reducible refine zN ?_
    refine hK10 _ ?_
    as_aux_lemma =>
     obtain ⟨v0_7, hv11, h⟩ := Option.bind_eq_some_iff.1 h
     refine adops.call (by first | trivial | rfl) rfl rfl rfl (fun _ h => h) [] [] (hc_progress_Valid g hv11) rfl (by (simp only [go_sem, hb2, hb6]) <;> (with_reducible and_intros) <;> first | assumption | rfl | omega | (unfold maxLen; omega)) (by (simp only [go_sem, hb2, hb6]) <;> (with_reducible and_intros) <;> first | assumption | rfl | omega | (unfold maxLen; omega)) rfl ?_
     refine adops_cut 1 (fun K' hK12 => ?_)
     try dsimp only [List.drop_succ_cons, List.drop_zero, List.take_succ_cons, List.take_zero]
     simp only [go_sem, hb2, hb6]
     repeat with_reducible refine zN ?_
     refine hK12 _ ?_
     as_aux_lemma =>
      obtain ⟨v0_8, hv13, h⟩ := Option.bind_eq_some_iff.1 h
      refine adops.call (by first | trivial | rfl) rfl rfl rfl (fun _ h => h) [] [] (hc_linealref07_Valid g hv13) rfl (by (simp only [go_sem, hb2, hb6]) <;> (with_reducible and_intros) <;> first | assumption | rfl | omega | (unfold maxLen; omega)) (by (simp only [go_sem, hb2, hb6]) <;> (with_reducible and_intros) <;> first | assumption | rfl | omega | (unfold maxLen; omega)) rfl ?_
      refine adops_cut 2 (fun K' hK14 => ?_)
      try dsimp only [List.drop_succ_cons, List.drop_zero, List.take_succ_cons, List.take_zero]
      simp only [go_sem, hb2, hb6]
      repeat with_reducible refine zN ?_
      refine hK14 _ ?_
      as_aux_lemma =>
       rcases zI h with ⟨hb15, h⟩ | ⟨hb15, h⟩
       ·simp only [hb15]
        as_aux_lemma =>
         refine adops_cut 6 (fun K' hK16 => ?_)
         try dsimp only [List.drop_succ_cons, List.drop_zero, List.take_succ_cons, List.take_zero]
         simp only [go_sem, hb2, hb6, hb15]
         repeat with_reducible refine zN ?_
         refine hK16 _ ?_
         as_aux_lemma =>
          refine adops_cut 3 (fun K' hK17 => ?_)
          try dsimp only [List.drop_succ_cons, List.drop_zero, List.take_succ_cons, List.take_zero]
          simp only [go_sem, hb2, hb6, hb15]
          repeat with_reducible refine zN ?_
          refine hK17 _ ?_
          refine adops_nil ?_
          refine athen_n ?_
          refine zV [(2, .int .i64 place), (3, .bp 3 0), (50, .bool true)] [(3, .box 24 [.int .i64 g.1, .sl (.pair (.int .i64) (.pair (.int .i64) (.pair (.int .i64) .bool))) g.2])] gt ?_
          as_aux_lemma =>
           refine AW.cond (b := true) rfl (fun _ => ?_) (fun hb18 => by cases hb18)
           refine zo ?_
           refine zB [(6, .bool false)] [] ?_
           refine zr ?_
           obtain rfl := Option.some.inj h
           exact zR [] [] []
       ·simp only [hb15]
        as_aux_lemma =>
         refine adops_cut 5 (fun K' hK19 => ?_)
         try dsimp only [List.drop_succ_cons, List.drop_zero, List.take_succ_cons, List.take_zero]
         simp only [go_sem, hb2, hb6, hb15]
         repeat with_reducible refine zN ?_
         refine hK19 _ ?_
         as_aux_lemma =>
          rcases zI h with ⟨hb20, h⟩ | ⟨hb20, h⟩
          ·simp only [hb20]
           as_aux_lemma =>
            refine adops_cut 4 (fun K' hK21 => ?_)
            try dsimp only [List.drop_succ_cons, List.drop_zero, List.take_succ_cons, List.take_zero]
            simp only [go_sem, hb2, hb6, hb15, hb20]
            repeat with_reducible refine zN ?_
            refine hK21 _ ?_
            refine adops_nil ?_
            refine athen_n ?_
            refine zV [(2, .int .i64 place), (3, .bp 3 0), (50, .bool true)] [(3, .box 24 [.int .i64 g.1, .sl (.pair (.int .i64) (.pair (.int .i64) (.pair (.int .i64) .bool))) g.2])] gt ?_
            as_aux_lemma =>
             refine AW.cond (b := true) rfl (fun _ => ?_) (fun hb22 => by cases hb22)
             refine zo ?_
             refine zB [(6, .bool false)] [] ?_
             refine zr ?_
             obtain rfl := Option.some.inj h
             exact zR [] [] []
          ·simp only [hb20]
           as_aux_lemma =>
            refine adops_cut 4 (fun K' hK23 => ?_)
            try dsimp only [List.drop_succ_cons, List.drop_zero, List.take_succ_cons, List.take_zero]
            simp only [go_sem, hb2, hb6, hb15, hb20]
            repeat with_reducible refine zN ?_
            refine hK23 _ ?_
            refine adops_nil ?_
            refine athen_n ?_
            refine zV [(2, .int .i64 place), (3, .bp 3 0), (50, .bool (!(decide (v0_5.2 = v0_6.2))))] [(3, .box 24 [.int .i64 g.1, .sl (.pair (.int .i64) (.pair (.int .i64) (.pair (.int .i64) .bool))) g.2])] gt ?_
            as_aux_lemma =>
             refine zQ h (fun hb24 h => ?_) (fun hb24 h => ?_)
             ·refine zo ?_
              refine zB [(6, .bool false)] [] ?_
              refine zr ?_
              obtain rfl := Option.some.inj h
              exact zR [] [] []
             ·refine zk ?_
              refine zo ?_
              refine zS 1 [(2, .int .i64 place), (3, .bp 3 0), (52, .agg [.int .i64 g.1, .sl (.pair (.int .i64) (.pair (.int .i64) (.pair (.int .i64) .bool))) g.2])] [(3, .box 24 [.int .i64 g.1, .sl (.pair (.int .i64) (.pair (.int .i64) (.pair (.int .i64) .bool))) g.2])] ?_
              obtain ⟨v0_9, hv25, h⟩ := Option.bind_eq_some_iff.1 h
              refine zC [] [] (hc_progress_Reached g hv25) [(2, .int .i64 place), (3, .bp 3 0), (53, .tup [.own 63000, .int .i64 v0_9.2])] [(3, .box 24 [.int .i64 g.1, .sl (.pair (.int .i64) (.pair (.int .i64) (.pair (.int .i64) .bool))) g.2]), (63000, .arr 3 (.int .i64) v0_9.1)] ?_
              refine zB [(2, .int .i64 place), (3, .bp 3 0), (8, .int .i64 v0_9.2), (11, .own 63000)] [(3, .box 24 [.int .i64 g.1, .sl (.pair (.int .i64) (.pair (.int .i64) (.pair (.int .i64) .bool))) g.2]), (63000, .arr 3 (.int .i64) v0_9.1)] ?_
              refine zo ?_
              refine zS 1 [(2, .int .i64 place), (3, .bp 3 0), (8, .int .i64 v0_9.2), (11, .own 63000), (57, .agg [.int .i64 g.1, .sl (.pair (.int .i64) (.pair (.int .i64) (.pair (.int .i64) .bool))) g.2])] [(3, .box 24 [.int .i64 g.1, .sl (.pair (.int .i64) (.pair (.int .i64) (.pair (.int .i64) .bool))) g.2]), (63000, .arr 3 (.int .i64) v0_9.1)] ?_
              obtain ⟨v0_10, hv26, h⟩ := Option.bind_eq_some_iff.1 h
              refine zC [] [] (hc_linealref07_Reached g hv26) [(2, .int .i64 place), (3, .bp 3 0), (8, .int .i64 v0_9.2), (11, .own 63000), (58, .tup [.own 68000, .int .i64 v0_10.2])] [(3, .box 24 [.int .i64 g.1, .sl (.pair (.int .i64) (.pair (.int .i64) (.pair (.int .i64) .bool))) g.2]), (63000, .arr 3 (.int .i64) v0_9.1), (68000, .arr 3 (.int .i64) v0_10.1)] ?_
              refine zB [(2, .int .i64 place), (3, .bp 3 0), (8, .int .i64 v0_9.2), (10, .int .i64 v0_10.2), (11, .own 63000), (12, .own 68000)] [(3, .box 24 [.int .i64 g.1, .sl (.pair (.int .i64) (.pair (.int .i64) (.pair (.int .i64) .bool))) g.2]), (63000, .arr 3 (.int .i64) v0_9.1), (68000, .arr 3 (.int .i64) v0_10.1)] ?_
              refine AW.seq ?_
              refine zo ?_
              refine zS 2 [(2, .int .i64 place), (3, .bp 3 0), (8, .int .i64 v0_9.2), (10, .int .i64 v0_10.2), (61, .own 63000), (62, .own 68000)] [(3, .box 24 [.int .i64 g.1, .sl (.pair (.int .i64) (.pair (.int .i64) (.pair (.int .i64) .bool))) g.2]), (63000, .arr 3 (.int .i64) v0_9.1), (68000, .arr 3 (.int .i64) v0_10.1)] ?_
              obtain ⟨v0_11, hv27, h⟩ := Option.bind_eq_some_iff.1 h
              refine zC [63000, 68000] [] (hc_linealref07_SameInts v0_9.1 v0_10.1 hv27) [(2, .int .i64 place), (3, .bp 3 0), (8, .int .i64 v0_9.2), (10, .int .i64 v0_10.2), (63, .bool v0_11)] [(3, .box 24 [.int .i64 g.1, .sl (.pair (.int .i64) (.pair (.int .i64) (.pair (.int .i64) .bool))) g.2])] ?_
              refine zS 2 [(2, .int .i64 place), (3, .bp 3 0), (8, .int .i64 v0_9.2), (10, .int .i64 v0_10.2), (65, .bool (!v0_11))] [(3, .box 24 [.int .i64 g.1, .sl (.pair (.int .i64) (.pair (.int .i64) (.pair (.int .i64) .bool))) g.2])] ?_
              rcases zI h with ⟨hb28, h⟩ | ⟨hb28, h⟩
              ·refine zB [(2, .int .i64 place), (3, .bp 3 0), (69, .bool true)] [(3, .box 24 [.int .i64 g.1, .sl (.pair (.int .i64) (.pair (.int .i64) (.pair (.int .i64) .bool))) g.2])] ?_
               refine AW.cond (b := true) rfl (fun _ => ?_) (fun hb29 => by cases hb29)
               refine zo ?_
               refine zB [(6, .bool false)] [] ?_
               refine zr ?_
               obtain rfl := Option.some.inj h
               exact zR [] [] []
              ·refine zB [(2, .int .i64 place), (3, .bp 3 0), (69, .bool (!(decide (v0_9.2 = v0_10.2))))] [(3, .box 24 [.int .i64 g.1, .sl (.pair (.int .i64) (.pair (.int .i64) (.pair (.int .i64) .bool))) g.2])] ?_
               refine zQ h (fun hb30 h => ?_) (fun hb30 h => ?_)
               ·refine zo ?_
                refine zB [(6, .bool false)] [] ?_
                refine zr ?_
                obtain rfl := Option.some.inj h
                exact zR [] [] []
               ·refine zk ?_
                refine zo ?_
                refine zS 2 [(2, .int .i64 place), (3, .bp 3 0), (71, .agg [.int .i64 g.1, .sl (.pair (.int .i64) (.pair (.int .i64) (.pair (.int .i64) .bool))) g.2]), (72, .int .i64 place)] [(3, .box 24 [.int .i64 g.1, .sl (.pair (.int .i64) (.pair (.int .i64) (.pair (.int .i64) .bool))) g.2])] ?_
                obtain ⟨v0_12, hv31, h⟩ := Option.bind_eq_some_iff.1 h
                refine zC [] [] (hc_progress_Way g place hv31) [(2, .int .i64 place), (3, .bp 3 0), (73, .tup [.sl (.int .i64) v0_12.1, .int .i64 v0_12.2])] [(3, .box 24 [.int .i64 g.1, .sl (.pair (.int .i64) (.pair (.int .i64) (.pair (.int .i64) .bool))) g.2])] ?_
                refine zB [(2, .int .i64 place), (3, .bp 3 0), (8, .int .i64 v0_12.2), (11, .sl (.int .i64) v0_12.1)] [(3, .box 24 [.int .i64 g.1, .sl (.pair (.int .i64) (.pair (.int .i64) (.pair (.int .i64) .bool))) g.2])] ?_
                refine zo ?_
                refine zS 2 [(3, .bp 3 0), (8, .int .i64 v0_12.2), (11, .sl (.int .i64) v0_12.1), (77, .agg [.int .i64 g.1, .sl (.pair (.int .i64) (.pair (.int .i64) (.pair (.int .i64) .bool))) g.2]), (78, .int .i64 place)] [(3, .box 24 [.int .i64 g.1, .sl (.pair (.int .i64) (.pair (.int .i64) (.pair (.int .i64) .bool))) g.2])] ?_
                obtain ⟨v0_13, hv32, h⟩ := Option.bind_eq_some_iff.1 h
                refine zC [] [] (hc_linealref07_Way g place hv32) [(3, .bp 3 0), (8, .int .i64 v0_12.2), (11, .sl (.int .i64) v0_12.1), (79, .tup [.sl (.int .i64) v0_13.1, .int .i64 v0_13.2])] [(3, .box 24 [.int .i64 g.1, .sl (.pair (.int .i64) (.pair (.int .i64) (.pair (.int .i64) .bool))) g.2])] ?_
                refine zB [(3, .bp 3 0), (8, .int .i64 v0_12.2), (10, .int .i64 v0_13.2), (11, .sl (.int .i64) v0_12.1), (12, .sl (.int .i64) v0_13.1)] [(3, .box 24 [.int .i64 g.1, .sl (.pair (.int .i64) (.pair (.int .i64) (.pair (.int .i64) .bool))) g.2])] ?_
                refine zo ?_
                refine zS 1 [(3, .bp 3 0), (8, .int .i64 v0_12.2), (10, .int .i64 v0_13.2), (11, .sl (.int .i64) v0_12.1), (12, .sl (.int .i64) v0_13.1), (83, .agg [.int .i64 g.1, .sl (.pair (.int .i64) (.pair (.int .i64) (.pair (.int .i64) .bool))) g.2])] [(3, .box 24 [.int .i64 g.1, .sl (.pair (.int .i64) (.pair (.int .i64) (.pair (.int .i64) .bool))) g.2])] ?_
                obtain ⟨v0_14, hv33, h⟩ := Option.bind_eq_some_iff.1 h
                refine zC [] [] (hc_progress_Ends g hv33) [(3, .bp 3 0), (8, .int .i64 v0_12.2), (10, .int .i64 v0_13.2), (11, .sl (.int .i64) v0_12.1), (12, .sl (.int .i64) v0_13.1), (84, .tup [.own 94000, .int .i64 v0_14.2])] [(3, .box 24 [.int .i64 g.1, .sl (.pair (.int .i64) (.pair (.int .i64) (.pair (.int .i64) .bool))) g.2]), (94000, .arr 3 (.int .i64) v0_14.1)] ?_
                refine zB [(3, .bp 3 0), (8, .int .i64 v0_12.2), (10, .int .i64 v0_13.2), (11, .sl (.int .i64) v0_12.1), (12, .sl (.int .i64) v0_13.1), (13, .own 94000), (14, .int .i64 v0_14.2)] [(3, .box 24 [.int .i64 g.1, .sl (.pair (.int .i64) (.pair (.int .i64) (.pair (.int .i64) .bool))) g.2]), (94000, .arr 3 (.int .i64) v0_14.1)] ?_
                refine zo ?_
                refine zS 1 [(8, .int .i64 v0_12.2), (10, .int .i64 v0_13.2), (11, .sl (.int .i64) v0_12.1), (12, .sl (.int .i64) v0_13.1), (13, .own 94000), (14, .int .i64 v0_14.2), (88, .agg [.int .i64 g.1, .sl (.pair (.int .i64) (.pair (.int .i64) (.pair (.int .i64) .bool))) g.2])] [(94000, .arr 3 (.int .i64) v0_14.1)] ?_
                obtain ⟨v0_15, hv34, h⟩ := Option.bind_eq_some_iff.1 h
                refine zC [] [] (hc_linealref07_Ends g hv34) [(8, .int .i64 v0_12.2), (10, .int .i64 v0_13.2), (11, .sl (.int .i64) v0_12.1), (12, .sl (.int .i64) v0_13.1), (13, .own 94000), (14, .int .i64 v0_14.2), (89, .tup [.own 99000, .int .i64 v0_15.2])] [(94000, .arr 3 (.int .i64) v0_14.1), (99000, .arr 3 (.int .i64) v0_15.1)] ?_
                refine zB [(8, .int .i64 v0_12.2), (10, .int .i64 v0_13.2), (11, .sl (.int .i64) v0_12.1), (12, .sl (.int .i64) v0_13.1), (13, .own 94000), (14, .int .i64 v0_14.2), (15, .own 99000), (16, .int .i64 v0_15.2)] [(94000, .arr 3 (.int .i64) v0_14.1), (99000, .arr 3 (.int .i64) v0_15.1)] ?_
                refine zo ?_
                refine zS 2 [(8, .int .i64 v0_12.2), (10, .int .i64 v0_13.2), (13, .own 94000), (14, .int .i64 v0_14.2), (15, .own 99000), (16, .int .i64 v0_15.2), (92, .sl (.int .i64) v0_12.1), (93, .sl (.int .i64) v0_13.1)] [(94000, .arr 3 (.int .i64) v0_14.1), (99000, .arr 3 (.int .i64) v0_15.1)] ?_
                obtain ⟨v0_16, hv35, h⟩ := Option.bind_eq_some_iff.1 h
                refine zC [] [] (hc_linealref07_SameInts v0_12.1 v0_13.1 hv35) [(8, .int .i64 v0_12.2), (10, .int .i64 v0_13.2), (13, .own 94000), (14, .int .i64 v0_14.2), (15, .own 99000), (16, .int .i64 v0_15.2), (94, .bool v0_16)] [(94000, .arr 3 (.int .i64) v0_14.1), (99000, .arr 3 (.int .i64) v0_15.1)] ?_
                refine zS 1 [(8, .int .i64 v0_12.2), (10, .int .i64 v0_13.2), (13, .own 94000), (14, .int .i64 v0_14.2), (15, .own 99000), (16, .int .i64 v0_15.2), (95, .bool v0_16)] [(94000, .arr 3 (.int .i64) v0_14.1), (99000, .arr 3 (.int .i64) v0_15.1)] ?_
                rcases zI h with ⟨hb36, h⟩ | ⟨hb36, h⟩
                ·refine zS 5 [(13, .own 94000), (14, .int .i64 v0_14.2), (15, .own 99000), (16, .int .i64 v0_15.2), (100, .bool (decide (v0_12.2 = v0_13.2)))] [(94000, .arr 3 (.int .i64) v0_14.1), (99000, .arr 3 (.int .i64) v0_15.1)] ?_
                 rcases zI h with ⟨hb37, h⟩ | ⟨hb37, h⟩
                 ·refine zS 2 [(14, .int .i64 v0_14.2), (16, .int .i64 v0_15.2), (100, .bool true), (101, .own 94000), (102, .own 99000)] [(94000, .arr 3 (.int .i64) v0_14.1), (99000, .arr 3 (.int .i64) v0_15.1)] ?_
                  obtain ⟨v0_17, hv38, h⟩ := Option.bind_eq_some_iff.1 h
                  refine zG [94000, 99000] [] (hc_linealref07_SameInts v0_14.1 v0_15.1 hv38) [(14, .int .i64 v0_14.2), (16, .int .i64 v0_15.2), (100, .bool true), (103, .bool v0_17)] [] ?_
                  refine zS 2 [(14, .int .i64 v0_14.2), (16, .int .i64 v0_15.2), (105, .bool v0_17)] [] ?_
                  rcases zI h with ⟨hb39, h⟩ | ⟨hb39, h⟩
                  ·refine zS 5 [(110, .bool (decide (v0_14.2 = v0_15.2)))] [] ?_
                   rcases zI h with ⟨hb40, h⟩ | ⟨hb40, h⟩
                   ·refine zT [(110, .bool true)] [] gt ?_
                    obtain ⟨v0_18, hv41, h⟩ := Option.bind_eq_some_iff.1 h
                    refine zG [] [] (hc_lineallaw07_Awake hv41) [(110, .bool true), (111, .bool v0_18)] [] ?_
                    refine zB [(6, .bool v0_18)] [] ?_
                    refine AW.ret ?_
                    obtain rfl := Option.some.inj h
                    exact zR [] [] []
                   ·refine zB [(6, .bool false)] [] ?_
                    refine AW.ret ?_
                    obtain rfl := Option.some.inj h
                    exact zR [] [] []
                  ·refine zS 5 [(110, .bool false)] [] ?_
                   refine zB [(6, .bool false)] [] ?_
                   refine AW.ret ?_
                   obtain rfl := Option.some.inj h
                   exact zR [] [] []
                 ·refine zS 5 [(14, .int .i64 v0_14.2), (16, .int .i64 v0_15.2), (105, .bool false)] [] ?_
                  refine zS 5 [(110, .bool false)] [] ?_
                  refine zB [(6, .bool false)] [] ?_
                  refine AW.ret ?_
                  obtain rfl := Option.some.inj h
                  exact zR [] [] []
                ·refine zS 5 [(13, .own 94000), (14, .int .i64 v0_14.2), (15, .own 99000), (16, .int .i64 v0_15.2), (100, .bool false)] [(94000, .arr 3 (.int .i64) v0_14.1), (99000, .arr 3 (.int .i64) v0_15.1)] ?_
                 refine zS 5 [(14, .int .i64 v0_14.2), (16, .int .i64 v0_15.2), (105, .bool false)] [] ?_
                 refine zS 5 [(110, .bool false)] [] ?_
                 refine zB [(6, .bool false)] [] ?_
                 refine AW.ret ?_
                 obtain rfl := Option.some.inj h
                 exact zR [] [] []

end Go.Proofs.Yteclokkdgmacpaa
