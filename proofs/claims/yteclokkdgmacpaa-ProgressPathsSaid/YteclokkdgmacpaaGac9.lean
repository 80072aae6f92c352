/-
  Made by wip/tool/dc.py out of the print of the program: contracts.
-/
import Derived.Test.YteclokkdgmacpaaGrp
import Derived.Test.YteclokkdgmacpaaSh7
import Derived.Test.YteclokkdgmacpaaAvd
import Derived.Test.YteclokkdgmacpaaGac1
import Derived.Test.YteclokkdgmacpaaGac7
import Derived.Test.YteclokkdgmacpaaGac8
namespace Go.Proofs.Yteclokkdgmacpaa
open Go.RowKit

set_option linter.unusedSimpArgs false
set_option linter.unusedVariables false
set_option linter.constructorNameAsVariable false

set_option maxRecDepth 100000
set_option maxHeartbeats 2000000

theorem hc_progress_Way (g : Int × (List (Int × Int × Int × Bool))) (place : Int) {r : (List Int) × Int} (h : progress_Way g place = some r) : HC Try.prog 25 [] [.agg [.int .i64 g.1, .sl (.pair (.int .i64) (.pair (.int .i64) (.pair (.int .i64) .bool))) g.2], .int .i64 place] [] (.tup [.sl (.int .i64) r.1, .int .i64 r.2]) := by
 unfold progress_Way at h
 refine zH Try.func25 [.tmp 4, .tmp 5] 32 ?_
 refine zo ?_
 refine zB [(1, .int .i64 place), (2, .bp 2 0)] [(2, .box 24 [.int .i64 g.1, .sl (.pair (.int .i64) (.pair (.int .i64) (.pair (.int .i64) .bool))) g.2])] ?_
 refine zo ?_
 refine zS 1 [(1, .int .i64 place), (2, .bp 2 0), (11, .agg [.int .i64 g.1, .sl (.pair (.int .i64) (.pair (.int .i64) (.pair (.int .i64) .bool))) g.2])] [(2, .box 24 [.int .i64 g.1, .sl (.pair (.int .i64) (.pair (.int .i64) (.pair (.int .i64) .bool))) g.2])] ?_
 obtain ⟨v0, hv1, h⟩ := Option.bind_eq_some_iff.1 h
 refine zC [] [] (hc_progress_graphOf g hv1) [(1, .int .i64 place), (2, .bp 2 0), (12, .tup [.agg [.int .i64 v0.1, .sl (.pair (.int .i64) (.pair (.int .i64) (.pair (.int .i64) .bool))) v0.2.1], .int .i64 v0.2.2])] [(2, .box 24 [.int .i64 g.1, .sl (.pair (.int .i64) (.pair (.int .i64) (.pair (.int .i64) .bool))) g.2])] ?_
 refine zS 5 [(1, .int .i64 place), (2, .bp 2 0), (6, .bp 6 0), (14, .int .i64 v0.2.2)] [(2, .box 24 [.int .i64 g.1, .sl (.pair (.int .i64) (.pair (.int .i64) (.pair (.int .i64) .bool))) g.2]), (6, .box 69 [.int .i64 v0.1, .sl (.pair (.int .i64) (.pair (.int .i64) (.pair (.int .i64) .bool))) v0.2.1])] ?_
 refine zB [(1, .int .i64 place), (2, .bp 2 0), (6, .bp 6 0), (7, .int .i64 v0.2.2)] [(2, .box 24 [.int .i64 g.1, .sl (.pair (.int .i64) (.pair (.int .i64) (.pair (.int .i64) .bool))) g.2]), (6, .box 69 [.int .i64 v0.1, .sl (.pair (.int .i64) (.pair (.int .i64) (.pair (.int .i64) .bool))) v0.2.1])] ?_
 refine AW.seq ?_
 refine zo ?_
 refine zB [(1, .int .i64 place), (2, .bp 2 0), (6, .bp 6 0), (7, .int .i64 v0.2.2), (16, .bool (!(decide (v0.2.2 = 0))))] [(2, .box 24 [.int .i64 g.1, .sl (.pair (.int .i64) (.pair (.int .i64) (.pair (.int .i64) .bool))) g.2]), (6, .box 69 [.int .i64 v0.1, .sl (.pair (.int .i64) (.pair (.int .i64) (.pair (.int .i64) .bool))) v0.2.1])] ?_
 refine zQ h (fun hb2 h => ?_) (fun hb2 h => ?_)
 ·refine zo ?_
  refine zB [(4, .cv (.slice none 0 0)), (5, .int .i64 v0.2.2)] [] ?_
  refine zr ?_
  obtain rfl := Option.some.inj h
  exact zR [] [] []
 ·refine zk ?_
  refine AW.seq ?_
  refine zo ?_
  refine zS 3 [(1, .int .i64 place), (6, .bp 6 0), (18, .int .i64 place), (20, .int .i64 g.1)] [(6, .box 69 [.int .i64 v0.1, .sl (.pair (.int .i64) (.pair (.int .i64) (.pair (.int .i64) .bool))) v0.2.1])] ?_
  obtain ⟨v0_2, hv3, h⟩ := Option.bind_eq_some_iff.1 h
  refine zC [] [] (hc_progress_isBelow place g.1 hv3) [(1, .int .i64 place), (6, .bp 6 0), (21, .bool v0_2)] [(6, .box 69 [.int .i64 v0.1, .sl (.pair (.int .i64) (.pair (.int .i64) (.pair (.int .i64) .bool))) v0.2.1])] ?_
  refine zB [(1, .int .i64 place), (6, .bp 6 0), (22, .bool (!v0_2))] [(6, .box 69 [.int .i64 v0.1, .sl (.pair (.int .i64) (.pair (.int .i64) (.pair (.int .i64) .bool))) v0.2.1])] ?_
  refine zQ h (fun hb4 h => ?_) (fun hb4 h => ?_)
  ·refine zo ?_
   refine zB [(4, .cv (.slice none 0 0)), (5, .int .i64 2)] [] ?_
   refine zr ?_
   obtain rfl := Option.some.inj h
   exact zR [] [] []
  ·refine zk ?_
   refine zo ?_
   refine zS 2 [(24, .agg [.int .i64 v0.1, .sl (.pair (.int .i64) (.pair (.int .i64) (.pair (.int .i64) .bool))) v0.2.1]), (25, .int .i64 place)] [] ?_
   obtain ⟨v0_3, hv5, h⟩ := Option.bind_eq_some_iff.1 h
   refine zC [] [] (hc_progress_graph_way (v0.1, v0.2.1) 0 place hv5) [(26, .tup [.sl (.int .i64) v0_3.1, .bool v0_3.2])] [] ?_
   refine zB [(8, .sl (.int .i64) v0_3.1), (9, .bool v0_3.2)] [] ?_
   refine AW.seq ?_
   refine zo ?_
   refine zB [(8, .sl (.int .i64) v0_3.1), (30, .bool (!v0_3.2))] [] ?_
   refine zQ h (fun hb6 h => ?_) (fun hb6 h => ?_)
   ·refine zo ?_
    refine zB [(4, .cv (.slice none 0 0)), (5, .int .i64 5)] [] ?_
    refine zr ?_
    obtain rfl := Option.some.inj h
    exact zR [] [] []
   ·refine zk ?_
    refine zo ?_
    refine zB [(4, .sl (.int .i64) v0_3.1), (5, .int .i64 0)] [] ?_
    refine AW.ret ?_
    obtain rfl := Option.some.inj h
    exact zR [] [] []

theorem hc_linealref07_Way (g : Int × (List (Int × Int × Int × Bool))) (place : Int) {r : (List Int) × Int} (h : linealref07_Way g place = some r) : HC Try.prog 26 [] [.agg [.int .i64 g.1, .sl (.pair (.int .i64) (.pair (.int .i64) (.pair (.int .i64) .bool))) g.2], .int .i64 place] [] (.tup [.sl (.int .i64) r.1, .int .i64 r.2]) := by
 unfold linealref07_Way at h
 refine zH Try.func26 [.tmp 4, .tmp 5] 93 ?_
 refine zo ?_
 refine zB [(1, .int .i64 place), (2, .bp 2 0)] [(2, .box 24 [.int .i64 g.1, .sl (.pair (.int .i64) (.pair (.int .i64) (.pair (.int .i64) .bool))) g.2])] ?_
 refine AW.seq ?_
 refine zo ?_
 refine zS 1 [(1, .int .i64 place), (2, .bp 2 0), (14, .agg [.int .i64 g.1, .sl (.pair (.int .i64) (.pair (.int .i64) (.pair (.int .i64) .bool))) g.2])] [(2, .box 24 [.int .i64 g.1, .sl (.pair (.int .i64) (.pair (.int .i64) (.pair (.int .i64) .bool))) g.2])] ?_
 obtain ⟨v0, hv1, h⟩ := Option.bind_eq_some_iff.1 h
 refine zC [] [] (hc_linealref07_Valid g hv1) [(1, .int .i64 place), (2, .bp 2 0), (15, .bool v0)] [(2, .box 24 [.int .i64 g.1, .sl (.pair (.int .i64) (.pair (.int .i64) (.pair (.int .i64) .bool))) g.2])] ?_
 refine zB [(1, .int .i64 place), (2, .bp 2 0), (16, .bool (!v0))] [(2, .box 24 [.int .i64 g.1, .sl (.pair (.int .i64) (.pair (.int .i64) (.pair (.int .i64) .bool))) g.2])] ?_
 refine zQ h (fun hb2 h => ?_) (fun hb2 h => ?_)
 ·refine zo ?_
  refine zB [(4, .cv (.slice none 0 0)), (5, .int .i64 70)] [] ?_
  refine zr ?_
  obtain rfl := Option.some.inj h
  exact zR [] [] []
 ·refine zk ?_
  refine AW.seq ?_
  refine zo ?_
  refine zS 2 [(1, .int .i64 place), (2, .bp 2 0), (17, .agg [.int .i64 g.1, .sl (.pair (.int .i64) (.pair (.int .i64) (.pair (.int .i64) .bool))) g.2]), (18, .int .i64 place)] [(2, .box 24 [.int .i64 g.1, .sl (.pair (.int .i64) (.pair (.int .i64) (.pair (.int .i64) .bool))) g.2])] ?_
  obtain ⟨v0_2, hv3, h⟩ := Option.bind_eq_some_iff.1 h
  refine zC [] [] (hc_linealref07_IsPlace g place hv3) [(1, .int .i64 place), (2, .bp 2 0), (19, .bool v0_2)] [(2, .box 24 [.int .i64 g.1, .sl (.pair (.int .i64) (.pair (.int .i64) (.pair (.int .i64) .bool))) g.2])] ?_
  refine zB [(1, .int .i64 place), (2, .bp 2 0), (20, .bool (!v0_2))] [(2, .box 24 [.int .i64 g.1, .sl (.pair (.int .i64) (.pair (.int .i64) (.pair (.int .i64) .bool))) g.2])] ?_
  refine zQ h (fun hb4 h => ?_) (fun hb4 h => ?_)
  ·refine zo ?_
   refine zB [(4, .cv (.slice none 0 0)), (5, .int .i64 2)] [] ?_
   refine zr ?_
   obtain rfl := Option.some.inj h
   exact zR [] [] []
  ·refine zk ?_
   refine zo ?_
   obtain ⟨c5, h⟩ := ck_some.1 h
   obtain ⟨c6, h⟩ := ck_some.1 h
   refine zB [(1, .int .i64 place), (2, .bp 2 0), (6, .own 23)] [(2, .box 24 [.int .i64 g.1, .sl (.pair (.int .i64) (.pair (.int .i64) (.pair (.int .i64) .bool))) g.2]), (23, .arr 4 .bool (List.replicate g.1.toNat (false : Bool)))] ?_
   refine zo ?_
   obtain ⟨c7, h⟩ := ck_some.1 h
   refine zB [(1, .int .i64 place), (2, .bp 2 0), (6, .own 23)] [(2, .box 24 [.int .i64 g.1, .sl (.pair (.int .i64) (.pair (.int .i64) (.pair (.int .i64) .bool))) g.2]), (23, .arr 4 .bool ((List.replicate g.1.toNat (false : Bool)).set 0 true))] ?_
   refine zo ?_
   obtain ⟨c8, h⟩ := ck_some.1 h
   obtain ⟨c9, h⟩ := ck_some.1 h
   refine zB [(1, .int .i64 place), (2, .bp 2 0), (6, .own 23), (7, .own 28)] [(2, .box 24 [.int .i64 g.1, .sl (.pair (.int .i64) (.pair (.int .i64) (.pair (.int .i64) .bool))) g.2]), (23, .arr 4 .bool ((List.replicate g.1.toNat (false : Bool)).set 0 true)), (28, .arr 25 (.sl (.int .i64)) (List.replicate g.1.toNat ([] : List Int)))] ?_
   refine zo ?_
   refine zB [(1, .int .i64 place), (2, .bp 2 0), (6, .own 23), (7, .own 28), (8, .own 29)] [(2, .box 24 [.int .i64 g.1, .sl (.pair (.int .i64) (.pair (.int .i64) (.pair (.int .i64) .bool))) g.2]), (23, .arr 4 .bool ((List.replicate g.1.toNat (false : Bool)).set 0 true)), (28, .arr 25 (.sl (.int .i64)) (List.replicate g.1.toNat ([] : List Int))), (29, .arr 3 (.int .i64) [0])] ?_
   refine AW.have1 (fun b3_3 : (List Bool) × (List (List Int)) => linealref07_Way_k1 place b3_3 = some r) (fun b3_3 => ⟨fr [(1, .int .i64 place), (6, .own 23), (7, .own 28)], hpGet [(23, .arr 4 .bool b3_3.1), (28, .arr 25 (.sl (.int .i64)) b3_3.2)], gt⟩) (fun b3_3 h => ?_) (fun hk_linealref07_Way_k1 => ?_)
   ·as_aux_lemma =>
     unfold linealref07_Way_k1 at h
     refine AW.seq ?_
     refine zo ?_
     obtain ⟨c10, h⟩ := ck_some.1 h
     obtain ⟨c11, h⟩ := ck_some.1 h
     refine zB [(1, .int .i64 place), (7, .own 28), (88, .bool (!(b3_3.1.getD place.toNat false)))] [(28, .arr 25 (.sl (.int .i64)) b3_3.2)] ?_
     refine zQ h (fun hb12 h => ?_) (fun hb12 h => ?_)
     ·refine zo ?_
      refine zB [(4, .cv (.slice none 0 0)), (5, .int .i64 5)] [] ?_
      refine zr ?_
      obtain rfl := Option.some.inj h
      exact zR [] [] []
     ·refine zk ?_
      refine zo ?_
      obtain ⟨c13, h⟩ := ck_some.1 h
      obtain ⟨c14, h⟩ := ck_some.1 h
      refine zS 5 [(4, .sl (.int .i64) (b3_3.2.getD place.toNat []))] [] ?_
      refine zB [(4, .sl (.int .i64) (b3_3.2.getD place.toNat [])), (5, .int .i64 0)] [] ?_
      refine AW.ret ?_
      obtain rfl := Option.some.inj h
      exact zR [] [] []
   ·refine AW.seq ?_
    refine AW.block ?_
    obtain ⟨rv19, hw15, ho16⟩ := Option.bind_eq_some_iff.1 h
    refine AW.loopO (linealref07_Way_b1 g) (fun st1 => ⟨fr [(1, .int .i64 place), (2, .bp 2 0), (6, .own 23), (7, .own 28), (8, .own 29)], hpGet [(2, .box 24 [.int .i64 g.1, .sl (.pair (.int .i64) (.pair (.int .i64) (.pair (.int .i64) .bool))) g.2]), (23, .arr 4 .bool st1.1), (28, .arr 25 (.sl (.int .i64)) st1.2.1), (29, .arr 3 (.int .i64) st1.2.2)], gt⟩) (((List.replicate g.1.toNat (false : Bool)).set 0 true), (List.replicate g.1.toNat ([] : List Int)), [0]) hw15 (zL [] [] []) ?_
    as_aux_lemma =>
     intro st1 x18 h hd17
     unfold linealref07_Way_b1 at h
     refine AW.seq ?_
     refine zo ?_
     refine zB [(1, .int .i64 place), (2, .bp 2 0), (6, .own 23), (7, .own 28), (8, .own 29), (32, .bool (decide (0 < (st1.2.2.length : Int))))] [(2, .box 24 [.int .i64 g.1, .sl (.pair (.int .i64) (.pair (.int .i64) (.pair (.int .i64) .bool))) g.2]), (23, .arr 4 .bool st1.1), (28, .arr 25 (.sl (.int .i64)) st1.2.1), (29, .arr 3 (.int .i64) st1.2.2)] ?_
     refine zQ h (fun hb20 h => ?_) (fun hb20 h => ?_)
     ·refine zk ?_
      refine AW.block ?_
      refine zo ?_
      refine zB [(1, .int .i64 place), (2, .bp 2 0), (6, .own 23), (7, .own 28), (8, .own 29), (9, .cv (.slice none 0 0))] [(2, .box 24 [.int .i64 g.1, .sl (.pair (.int .i64) (.pair (.int .i64) (.pair (.int .i64) .bool))) g.2]), (23, .arr 4 .bool st1.1), (28, .arr 25 (.sl (.int .i64)) st1.2.1), (29, .arr 3 (.int .i64) st1.2.2)] ?_
      refine AW.have1 (fun b3_2 : (List Bool) × (List (List Int)) × (List Int) => linealref07_Way_k2 b3_2 = some x18) (fun b3_2 => ⟨fr [(1, .int .i64 place), (2, .bp 2 0), (6, .own 23), (7, .own 28), (9, .own 80)], hpGet [(2, .box 24 [.int .i64 g.1, .sl (.pair (.int .i64) (.pair (.int .i64) (.pair (.int .i64) .bool))) g.2]), (23, .arr 4 .bool b3_2.1), (28, .arr 25 (.sl (.int .i64)) b3_2.2.1), (80, .arr 3 (.int .i64) b3_2.2.2)], gt⟩) (fun b3_2 h => ?_) (fun hk_linealref07_Way_k2 => ?_)
      ·as_aux_lemma =>
        unfold linealref07_Way_k2 at h
        refine AW.ops ?_
        refine zA [(1, .int .i64 place), (2, .bp 2 0), (6, .own 23), (7, .own 28), (8, .own 80)] [(2, .box 24 [.int .i64 g.1, .sl (.pair (.int .i64) (.pair (.int .i64) (.pair (.int .i64) .bool))) g.2]), (23, .arr 4 .bool b3_2.1), (28, .arr 25 (.sl (.int .i64)) b3_2.2.1), (80, .arr 3 (.int .i64) b3_2.2.2)] ?_
        refine ablock_n ?_
        obtain rfl := Option.some.inj h
        exact ⟨_, rfl, zL [] [] [(29, 80)]⟩
      ·refine AW.seq ?_
       refine zo ?_
       refine zB [(1, .int .i64 place), (2, .bp 2 0), (6, .own 23), (7, .own 28), (9, .cv (.slice none 0 0)), (33, .own 29), (34, .int .i64 (st1.2.2.length : Int)), (35, .int .i64 0)] [(2, .box 24 [.int .i64 g.1, .sl (.pair (.int .i64) (.pair (.int .i64) (.pair (.int .i64) .bool))) g.2]), (23, .arr 4 .bool st1.1), (28, .arr 25 (.sl (.int .i64)) st1.2.1), (29, .arr 3 (.int .i64) st1.2.2)] ?_
       refine AW.block ?_
       obtain ⟨rv25, hw21, ho22⟩ := Option.bind_eq_some_iff.1 h
       refine AW.loopO (linealref07_Way_b2 g st1) (fun st2 => ⟨fr [(1, .int .i64 place), (2, .bp 2 0), (6, .own 23), (7, .own 28), (9, .own 80), (33, .own 29), (34, .int .i64 (st1.2.2.length : Int)), (35, .int .i64 st2.2.2.2)], hpGet [(2, .box 24 [.int .i64 g.1, .sl (.pair (.int .i64) (.pair (.int .i64) (.pair (.int .i64) .bool))) g.2]), (23, .arr 4 .bool st2.1), (28, .arr 25 (.sl (.int .i64)) st2.2.1), (29, .arr 3 (.int .i64) st1.2.2), (80, .arr 3 (.int .i64) st2.2.2.1)], gt⟩) (st1.1, st1.2.1, [], 0) hw21 (zL [] [80] []) ?_
       as_aux_lemma =>
        intro st2 x24 h hd23
        unfold linealref07_Way_b2 at h
        refine zo ?_
        refine zB [(1, .int .i64 place), (2, .bp 2 0), (6, .own 23), (7, .own 28), (9, .own 80), (33, .own 29), (34, .int .i64 (st1.2.2.length : Int)), (35, .int .i64 st2.2.2.2), (36, .bool (decide (st2.2.2.2 < (st1.2.2.length : Int))))] [(2, .box 24 [.int .i64 g.1, .sl (.pair (.int .i64) (.pair (.int .i64) (.pair (.int .i64) .bool))) g.2]), (23, .arr 4 .bool st2.1), (28, .arr 25 (.sl (.int .i64)) st2.2.1), (29, .arr 3 (.int .i64) st1.2.2), (80, .arr 3 (.int .i64) st2.2.2.1)] ?_
        refine AW.seq ?_
        refine zQ h (fun hb26 h => ?_) (fun hb26 h => ?_)
        ·refine zk ?_
         refine AW.have1 (fun b3 : (List Bool) × (List (List Int)) × (List Int) => linealref07_Way_k3 st2 b3 = some x24) (fun b3 => ⟨fr [(1, .int .i64 place), (2, .bp 2 0), (6, .own 23), (7, .own 28), (9, .own 80), (33, .own 29), (34, .int .i64 (st1.2.2.length : Int)), (35, .int .i64 st2.2.2.2)], hpGet [(2, .box 24 [.int .i64 g.1, .sl (.pair (.int .i64) (.pair (.int .i64) (.pair (.int .i64) .bool))) g.2]), (23, .arr 4 .bool b3.1), (28, .arr 25 (.sl (.int .i64)) b3.2.1), (29, .arr 3 (.int .i64) st1.2.2), (80, .arr 3 (.int .i64) b3.2.2)], gt⟩) (fun b3 h => ?_) (fun hk_linealref07_Way_k3 => ?_)
         ·as_aux_lemma =>
           unfold linealref07_Way_k3 at h
           refine AW.ops ?_
           obtain ⟨c27, h⟩ := ck_some.1 h
           refine zA [(1, .int .i64 place), (2, .bp 2 0), (6, .own 23), (7, .own 28), (9, .own 80), (33, .own 29), (34, .int .i64 (st1.2.2.length : Int)), (35, .int .i64 (st2.2.2.2 + 1))] [(2, .box 24 [.int .i64 g.1, .sl (.pair (.int .i64) (.pair (.int .i64) (.pair (.int .i64) .bool))) g.2]), (23, .arr 4 .bool b3.1), (28, .arr 25 (.sl (.int .i64)) b3.2.1), (29, .arr 3 (.int .i64) st1.2.2), (80, .arr 3 (.int .i64) b3.2.2)] ?_
           obtain rfl := Option.some.inj h
           exact ⟨_, rfl, zL [] [] []⟩
         ·refine AW.seq ?_
          refine AW.block ?_
          refine zo ?_
          obtain ⟨c28, h⟩ := ck_some.1 h
          obtain ⟨c29, h⟩ := ck_some.1 h
          refine zB [(1, .int .i64 place), (2, .bp 2 0), (6, .own 23), (7, .own 28), (9, .own 80), (11, .int .i64 (st1.2.2.getD st2.2.2.2.toNat 0)), (33, .own 29), (34, .int .i64 (st1.2.2.length : Int)), (35, .int .i64 st2.2.2.2)] [(2, .box 24 [.int .i64 g.1, .sl (.pair (.int .i64) (.pair (.int .i64) (.pair (.int .i64) .bool))) g.2]), (23, .arr 4 .bool st2.1), (28, .arr 25 (.sl (.int .i64)) st2.2.1), (29, .arr 3 (.int .i64) st1.2.2), (80, .arr 3 (.int .i64) st2.2.2.1)] ?_
          refine zo ?_
          refine zB [(1, .int .i64 place), (2, .bp 2 0), (6, .own 23), (7, .own 28), (9, .own 80), (11, .int .i64 (st1.2.2.getD st2.2.2.2.toNat 0)), (33, .own 29), (34, .int .i64 (st1.2.2.length : Int)), (35, .int .i64 st2.2.2.2), (40, .sl (.pair (.int .i64) (.pair (.int .i64) (.pair (.int .i64) .bool))) g.2), (41, .int .i64 (g.2.length : Int)), (42, .int .i64 0)] [(2, .box 24 [.int .i64 g.1, .sl (.pair (.int .i64) (.pair (.int .i64) (.pair (.int .i64) .bool))) g.2]), (23, .arr 4 .bool st2.1), (28, .arr 25 (.sl (.int .i64)) st2.2.1), (29, .arr 3 (.int .i64) st1.2.2), (80, .arr 3 (.int .i64) st2.2.2.1)] ?_
          refine AW.block ?_
          obtain ⟨rv34, hw30, ho31⟩ := Option.bind_eq_some_iff.1 h
          refine AW.loopO (linealref07_Way_b3 g st1 st2) (fun st3 => ⟨fr [(1, .int .i64 place), (2, .bp 2 0), (6, .own 23), (7, .own 28), (9, .own 80), (11, .int .i64 (st1.2.2.getD st2.2.2.2.toNat 0)), (33, .own 29), (34, .int .i64 (st1.2.2.length : Int)), (35, .int .i64 st2.2.2.2), (40, .sl (.pair (.int .i64) (.pair (.int .i64) (.pair (.int .i64) .bool))) g.2), (41, .int .i64 (g.2.length : Int)), (42, .int .i64 st3.2.2.2)], hpGet [(2, .box 24 [.int .i64 g.1, .sl (.pair (.int .i64) (.pair (.int .i64) (.pair (.int .i64) .bool))) g.2]), (23, .arr 4 .bool st3.1), (28, .arr 25 (.sl (.int .i64)) st3.2.1), (29, .arr 3 (.int .i64) st1.2.2), (80, .arr 3 (.int .i64) st3.2.2.1)], gt⟩) (st2.1, st2.2.1, st2.2.2.1, 0) hw30 (zL [] [] []) ?_
          as_aux_lemma =>
           intro st3 x33 h hd32
           unfold linealref07_Way_b3 at h
           refine zo ?_
           refine zB [(1, .int .i64 place), (2, .bp 2 0), (6, .own 23), (7, .own 28), (9, .own 80), (11, .int .i64 (st1.2.2.getD st2.2.2.2.toNat 0)), (33, .own 29), (34, .int .i64 (st1.2.2.length : Int)), (35, .int .i64 st2.2.2.2), (40, .sl (.pair (.int .i64) (.pair (.int .i64) (.pair (.int .i64) .bool))) g.2), (41, .int .i64 (g.2.length : Int)), (42, .int .i64 st3.2.2.2), (43, .bool (decide (st3.2.2.2 < (g.2.length : Int))))] [(2, .box 24 [.int .i64 g.1, .sl (.pair (.int .i64) (.pair (.int .i64) (.pair (.int .i64) .bool))) g.2]), (23, .arr 4 .bool st3.1), (28, .arr 25 (.sl (.int .i64)) st3.2.1), (29, .arr 3 (.int .i64) st1.2.2), (80, .arr 3 (.int .i64) st3.2.2.1)] ?_
           refine AW.seq ?_
           refine zQ h (fun hb35 h => ?_) (fun hb35 h => ?_)
           ·refine zk ?_
            refine AW.seq ?_
            refine AW.block ?_
            refine zo ?_
            obtain ⟨c36, h⟩ := ck_some.1 h
            obtain ⟨c37, h⟩ := ck_some.1 h
            refine zS 5 [(1, .int .i64 place), (2, .bp 2 0), (6, .own 23), (7, .own 28), (9, .own 80), (11, .int .i64 (st1.2.2.getD st2.2.2.2.toNat 0)), (12, .int .i64 st3.2.2.2), (13, .bp 13 0), (33, .own 29), (34, .int .i64 (st1.2.2.length : Int)), (35, .int .i64 st2.2.2.2), (40, .sl (.pair (.int .i64) (.pair (.int .i64) (.pair (.int .i64) .bool))) g.2), (41, .int .i64 (g.2.length : Int)), (42, .int .i64 st3.2.2.2), (46, .agg [.int .i64 (g.2.getD st3.2.2.2.toNat (0, 0, 0, false)).1, .int .i64 (g.2.getD st3.2.2.2.toNat (0, 0, 0, false)).2.1, .int .i64 (g.2.getD st3.2.2.2.toNat (0, 0, 0, false)).2.2.1, .bool (g.2.getD st3.2.2.2.toNat (0, 0, 0, false)).2.2.2])] [(2, .box 24 [.int .i64 g.1, .sl (.pair (.int .i64) (.pair (.int .i64) (.pair (.int .i64) .bool))) g.2]), (13, .box 61 [.int .i64 0, .int .i64 0, .int .i64 0, .bool false]), (23, .arr 4 .bool st3.1), (28, .arr 25 (.sl (.int .i64)) st3.2.1), (29, .arr 3 (.int .i64) st1.2.2), (80, .arr 3 (.int .i64) st3.2.2.1)] ?_
            refine zB [(1, .int .i64 place), (2, .bp 2 0), (6, .own 23), (7, .own 28), (9, .own 80), (11, .int .i64 (st1.2.2.getD st2.2.2.2.toNat 0)), (12, .int .i64 st3.2.2.2), (13, .bp 13 0), (33, .own 29), (34, .int .i64 (st1.2.2.length : Int)), (35, .int .i64 st2.2.2.2), (40, .sl (.pair (.int .i64) (.pair (.int .i64) (.pair (.int .i64) .bool))) g.2), (41, .int .i64 (g.2.length : Int)), (42, .int .i64 st3.2.2.2)] [(2, .box 24 [.int .i64 g.1, .sl (.pair (.int .i64) (.pair (.int .i64) (.pair (.int .i64) .bool))) g.2]), (13, .box 61 [.int .i64 (g.2.getD st3.2.2.2.toNat (0, 0, 0, false)).1, .int .i64 (g.2.getD st3.2.2.2.toNat (0, 0, 0, false)).2.1, .int .i64 (g.2.getD st3.2.2.2.toNat (0, 0, 0, false)).2.2.1, .bool (g.2.getD st3.2.2.2.toNat (0, 0, 0, false)).2.2.2]), (23, .arr 4 .bool st3.1), (28, .arr 25 (.sl (.int .i64)) st3.2.1), (29, .arr 3 (.int .i64) st1.2.2), (80, .arr 3 (.int .i64) st3.2.2.1)] ?_
            refine zo ?_
            refine zS 5 [(1, .int .i64 place), (2, .bp 2 0), (6, .own 23), (7, .own 28), (9, .own 80), (11, .int .i64 (st1.2.2.getD st2.2.2.2.toNat 0)), (12, .int .i64 st3.2.2.2), (13, .bp 13 0), (33, .own 29), (34, .int .i64 (st1.2.2.length : Int)), (35, .int .i64 st2.2.2.2), (40, .sl (.pair (.int .i64) (.pair (.int .i64) (.pair (.int .i64) .bool))) g.2), (41, .int .i64 (g.2.length : Int)), (42, .int .i64 st3.2.2.2), (51, .bool (decide ((g.2.getD st3.2.2.2.toNat (0, 0, 0, false)).1 = (st1.2.2.getD st2.2.2.2.toNat 0))))] [(2, .box 24 [.int .i64 g.1, .sl (.pair (.int .i64) (.pair (.int .i64) (.pair (.int .i64) .bool))) g.2]), (13, .box 61 [.int .i64 (g.2.getD st3.2.2.2.toNat (0, 0, 0, false)).1, .int .i64 (g.2.getD st3.2.2.2.toNat (0, 0, 0, false)).2.1, .int .i64 (g.2.getD st3.2.2.2.toNat (0, 0, 0, false)).2.2.1, .bool (g.2.getD st3.2.2.2.toNat (0, 0, 0, false)).2.2.2]), (23, .arr 4 .bool st3.1), (28, .arr 25 (.sl (.int .i64)) st3.2.1), (29, .arr 3 (.int .i64) st1.2.2), (80, .arr 3 (.int .i64) st3.2.2.1)] ?_
            rcases zI h with ⟨hb38, h⟩ | ⟨hb38, h⟩
            ·obtain ⟨c39, h⟩ := ck_some.1 h
             obtain ⟨c40, h⟩ := ck_some.1 h
             refine zS 5 [(1, .int .i64 place), (2, .bp 2 0), (6, .own 23), (7, .own 28), (9, .own 80), (11, .int .i64 (st1.2.2.getD st2.2.2.2.toNat 0)), (12, .int .i64 st3.2.2.2), (13, .bp 13 0), (33, .own 29), (34, .int .i64 (st1.2.2.length : Int)), (35, .int .i64 st2.2.2.2), (40, .sl (.pair (.int .i64) (.pair (.int .i64) (.pair (.int .i64) .bool))) g.2), (41, .int .i64 (g.2.length : Int)), (42, .int .i64 st3.2.2.2), (51, .bool true), (56, .bool (st3.1.getD (g.2.getD st3.2.2.2.toNat (0, 0, 0, false)).2.2.1.toNat false))] [(2, .box 24 [.int .i64 g.1, .sl (.pair (.int .i64) (.pair (.int .i64) (.pair (.int .i64) .bool))) g.2]), (13, .box 61 [.int .i64 (g.2.getD st3.2.2.2.toNat (0, 0, 0, false)).1, .int .i64 (g.2.getD st3.2.2.2.toNat (0, 0, 0, false)).2.1, .int .i64 (g.2.getD st3.2.2.2.toNat (0, 0, 0, false)).2.2.1, .bool (g.2.getD st3.2.2.2.toNat (0, 0, 0, false)).2.2.2]), (23, .arr 4 .bool st3.1), (28, .arr 25 (.sl (.int .i64)) st3.2.1), (29, .arr 3 (.int .i64) st1.2.2), (80, .arr 3 (.int .i64) st3.2.2.1)] ?_
             refine zB [(1, .int .i64 place), (2, .bp 2 0), (6, .own 23), (7, .own 28), (9, .own 80), (11, .int .i64 (st1.2.2.getD st2.2.2.2.toNat 0)), (12, .int .i64 st3.2.2.2), (13, .bp 13 0), (33, .own 29), (34, .int .i64 (st1.2.2.length : Int)), (35, .int .i64 st2.2.2.2), (40, .sl (.pair (.int .i64) (.pair (.int .i64) (.pair (.int .i64) .bool))) g.2), (41, .int .i64 (g.2.length : Int)), (42, .int .i64 st3.2.2.2), (58, .bool (!(st3.1.getD (g.2.getD st3.2.2.2.toNat (0, 0, 0, false)).2.2.1.toNat false)))] [(2, .box 24 [.int .i64 g.1, .sl (.pair (.int .i64) (.pair (.int .i64) (.pair (.int .i64) .bool))) g.2]), (13, .box 61 [.int .i64 (g.2.getD st3.2.2.2.toNat (0, 0, 0, false)).1, .int .i64 (g.2.getD st3.2.2.2.toNat (0, 0, 0, false)).2.1, .int .i64 (g.2.getD st3.2.2.2.toNat (0, 0, 0, false)).2.2.1, .bool (g.2.getD st3.2.2.2.toNat (0, 0, 0, false)).2.2.2]), (23, .arr 4 .bool st3.1), (28, .arr 25 (.sl (.int .i64)) st3.2.1), (29, .arr 3 (.int .i64) st1.2.2), (80, .arr 3 (.int .i64) st3.2.2.1)] ?_
             refine zQ h (fun hb41 h => ?_) (fun hb41 h => ?_)
             ·refine zo ?_
              obtain ⟨c42, h⟩ := ck_some.1 h
              obtain ⟨c43, h⟩ := ck_some.1 h
              refine zB [(1, .int .i64 place), (2, .bp 2 0), (6, .own 23), (7, .own 28), (9, .own 80), (11, .int .i64 (st1.2.2.getD st2.2.2.2.toNat 0)), (12, .int .i64 st3.2.2.2), (13, .bp 13 0), (33, .own 29), (34, .int .i64 (st1.2.2.length : Int)), (35, .int .i64 st2.2.2.2), (40, .sl (.pair (.int .i64) (.pair (.int .i64) (.pair (.int .i64) .bool))) g.2), (41, .int .i64 (g.2.length : Int)), (42, .int .i64 st3.2.2.2)] [(2, .box 24 [.int .i64 g.1, .sl (.pair (.int .i64) (.pair (.int .i64) (.pair (.int .i64) .bool))) g.2]), (13, .box 61 [.int .i64 (g.2.getD st3.2.2.2.toNat (0, 0, 0, false)).1, .int .i64 (g.2.getD st3.2.2.2.toNat (0, 0, 0, false)).2.1, .int .i64 (g.2.getD st3.2.2.2.toNat (0, 0, 0, false)).2.2.1, .bool (g.2.getD st3.2.2.2.toNat (0, 0, 0, false)).2.2.2]), (23, .arr 4 .bool (st3.1.set (g.2.getD st3.2.2.2.toNat (0, 0, 0, false)).2.2.1.toNat true)), (28, .arr 25 (.sl (.int .i64)) st3.2.1), (29, .arr 3 (.int .i64) st1.2.2), (80, .arr 3 (.int .i64) st3.2.2.1)] ?_
              refine AW.seq ?_
              refine AW.draw tab_ok mixed_ok [(3, [66]), (8, [66, 71]), (10, [73]), (11, [71, 74]), (13, [28, 74])] [(0, [28]), (1, [13]), (2, [13]), (3, [66]), (4, [28]), (5, []), (6, [28]), (7, [28]), (8, [66, 71]), (9, []), (10, [73])] (by decide) (lex_fast (by kernel_rfl)) ?_
              as_aux_lemma =>
               refine adops_cut 6 (fun K' hK44 => ?_)
               try dsimp only [List.drop_succ_cons, List.drop_zero, List.take_succ_cons, List.take_zero]
               simp only [go_sem, hb2, hb4, hb20, hb26, hb35, hb38, hb41]
               repeat with_reducible refine zN ?_
               refine hK44 _ ?_
               as_aux_lemma =>
                obtain ⟨c46, h⟩ := ck_some.1 h
                obtain ⟨c47, h⟩ := ck_some.1 h
                obtain ⟨c48, h⟩ := ck_some.1 h
                obtain ⟨c49, h⟩ := ck_some.1 h
                refine adops_cut 6 (fun K' hK45 => ?_)
                try dsimp only [List.drop_succ_cons, List.drop_zero, List.take_succ_cons, List.take_zero]
                simp only [go_sem, hb2, hb4, hb20, hb26, hb35, hb38, hb41]
                repeat with_reducible refine zN ?_
                refine hK45 _ ?_
                as_aux_lemma =>
                 obtain ⟨c51, h⟩ := ck_some.1 h
                 obtain ⟨c52, h⟩ := ck_some.1 h
                 refine adops_cut 2 (fun K' hK50 => ?_)
                 try dsimp only [List.drop_succ_cons, List.drop_zero, List.take_succ_cons, List.take_zero]
                 simp only [go_sem, hb2, hb4, hb20, hb26, hb35, hb38, hb41]
                 repeat with_reducible refine zN ?_
                 refine hK50 _ ?_
                 refine adops_nil ?_
                 refine athen_n ?_
                 refine zV [(1, .int .i64 place), (2, .bp 2 0), (6, .own 23), (7, .own 28), (9, .own 80), (11, .int .i64 (st1.2.2.getD st2.2.2.2.toNat 0)), (13, .bp 13 0), (33, .own 29), (34, .int .i64 (st1.2.2.length : Int)), (35, .int .i64 st2.2.2.2), (40, .sl (.pair (.int .i64) (.pair (.int .i64) (.pair (.int .i64) .bool))) g.2), (41, .int .i64 (g.2.length : Int)), (42, .int .i64 st3.2.2.2)] [(2, .box 24 [.int .i64 g.1, .sl (.pair (.int .i64) (.pair (.int .i64) (.pair (.int .i64) .bool))) g.2]), (13, .box 61 [.int .i64 (g.2.getD st3.2.2.2.toNat (0, 0, 0, false)).1, .int .i64 (g.2.getD st3.2.2.2.toNat (0, 0, 0, false)).2.1, .int .i64 (g.2.getD st3.2.2.2.toNat (0, 0, 0, false)).2.2.1, .bool (g.2.getD st3.2.2.2.toNat (0, 0, 0, false)).2.2.2]), (23, .arr 4 .bool (st3.1.set (g.2.getD st3.2.2.2.toNat (0, 0, 0, false)).2.2.1.toNat true)), (28, .arr 25 (.sl (.int .i64)) (st3.2.1.set (g.2.getD st3.2.2.2.toNat (0, 0, 0, false)).2.2.1.toNat ((st3.2.1.getD (st1.2.2.getD st2.2.2.2.toNat 0).toNat []) ++ [st3.2.2.2]))), (29, .arr 3 (.int .i64) st1.2.2), (80, .arr 3 (.int .i64) st3.2.2.1)] gt ?_
                 as_aux_lemma =>
                  refine AW.ops ?_
                  obtain ⟨c53, h⟩ := ck_some.1 h
                  refine zS 5 [(1, .int .i64 place), (2, .bp 2 0), (6, .own 23), (7, .own 28), (11, .int .i64 (st1.2.2.getD st2.2.2.2.toNat 0)), (33, .own 29), (34, .int .i64 (st1.2.2.length : Int)), (35, .int .i64 st2.2.2.2), (40, .sl (.pair (.int .i64) (.pair (.int .i64) (.pair (.int .i64) .bool))) g.2), (41, .int .i64 (g.2.length : Int)), (42, .int .i64 st3.2.2.2), (80, .own 80)] [(2, .box 24 [.int .i64 g.1, .sl (.pair (.int .i64) (.pair (.int .i64) (.pair (.int .i64) .bool))) g.2]), (23, .arr 4 .bool (st3.1.set (g.2.getD st3.2.2.2.toNat (0, 0, 0, false)).2.2.1.toNat true)), (28, .arr 25 (.sl (.int .i64)) (st3.2.1.set (g.2.getD st3.2.2.2.toNat (0, 0, 0, false)).2.2.1.toNat ((st3.2.1.getD (st1.2.2.getD st2.2.2.2.toNat 0).toNat []) ++ [st3.2.2.2]))), (29, .arr 3 (.int .i64) st1.2.2), (80, .arr 3 (.int .i64) (st3.2.2.1 ++ [(g.2.getD st3.2.2.2.toNat (0, 0, 0, false)).2.2.1]))] ?_
                  refine zA [(1, .int .i64 place), (2, .bp 2 0), (6, .own 23), (7, .own 28), (9, .own 80), (11, .int .i64 (st1.2.2.getD st2.2.2.2.toNat 0)), (33, .own 29), (34, .int .i64 (st1.2.2.length : Int)), (35, .int .i64 st2.2.2.2), (40, .sl (.pair (.int .i64) (.pair (.int .i64) (.pair (.int .i64) .bool))) g.2), (41, .int .i64 (g.2.length : Int)), (42, .int .i64 st3.2.2.2)] [(2, .box 24 [.int .i64 g.1, .sl (.pair (.int .i64) (.pair (.int .i64) (.pair (.int .i64) .bool))) g.2]), (23, .arr 4 .bool (st3.1.set (g.2.getD st3.2.2.2.toNat (0, 0, 0, false)).2.2.1.toNat true)), (28, .arr 25 (.sl (.int .i64)) (st3.2.1.set (g.2.getD st3.2.2.2.toNat (0, 0, 0, false)).2.2.1.toNat ((st3.2.1.getD (st1.2.2.getD st2.2.2.2.toNat 0).toNat []) ++ [st3.2.2.2]))), (29, .arr 3 (.int .i64) st1.2.2), (80, .arr 3 (.int .i64) (st3.2.2.1 ++ [(g.2.getD st3.2.2.2.toNat (0, 0, 0, false)).2.2.1]))] ?_
                  refine ablock_n ?_
                  refine athen_n ?_
                  refine AW.ops ?_
                  obtain ⟨c54, h⟩ := ck_some.1 h
                  refine zA [(1, .int .i64 place), (2, .bp 2 0), (6, .own 23), (7, .own 28), (9, .own 80), (11, .int .i64 (st1.2.2.getD st2.2.2.2.toNat 0)), (33, .own 29), (34, .int .i64 (st1.2.2.length : Int)), (35, .int .i64 st2.2.2.2), (40, .sl (.pair (.int .i64) (.pair (.int .i64) (.pair (.int .i64) .bool))) g.2), (41, .int .i64 (g.2.length : Int)), (42, .int .i64 (st3.2.2.2 + 1))] [(2, .box 24 [.int .i64 g.1, .sl (.pair (.int .i64) (.pair (.int .i64) (.pair (.int .i64) .bool))) g.2]), (23, .arr 4 .bool (st3.1.set (g.2.getD st3.2.2.2.toNat (0, 0, 0, false)).2.2.1.toNat true)), (28, .arr 25 (.sl (.int .i64)) (st3.2.1.set (g.2.getD st3.2.2.2.toNat (0, 0, 0, false)).2.2.1.toNat ((st3.2.1.getD (st1.2.2.getD st2.2.2.2.toNat 0).toNat []) ++ [st3.2.2.2]))), (29, .arr 3 (.int .i64) st1.2.2), (80, .arr 3 (.int .i64) (st3.2.2.1 ++ [(g.2.getD st3.2.2.2.toNat (0, 0, 0, false)).2.2.1]))] ?_
                  obtain rfl := Option.some.inj h
                  exact ⟨_, rfl, zL [] [] []⟩
             ·refine zm ?_
              refine athen_n ?_
              refine AW.ops ?_
              obtain ⟨c55, h⟩ := ck_some.1 h
              refine zA [(1, .int .i64 place), (2, .bp 2 0), (6, .own 23), (7, .own 28), (9, .own 80), (11, .int .i64 (st1.2.2.getD st2.2.2.2.toNat 0)), (33, .own 29), (34, .int .i64 (st1.2.2.length : Int)), (35, .int .i64 st2.2.2.2), (40, .sl (.pair (.int .i64) (.pair (.int .i64) (.pair (.int .i64) .bool))) g.2), (41, .int .i64 (g.2.length : Int)), (42, .int .i64 (st3.2.2.2 + 1))] [(2, .box 24 [.int .i64 g.1, .sl (.pair (.int .i64) (.pair (.int .i64) (.pair (.int .i64) .bool))) g.2]), (23, .arr 4 .bool st3.1), (28, .arr 25 (.sl (.int .i64)) st3.2.1), (29, .arr 3 (.int .i64) st1.2.2), (80, .arr 3 (.int .i64) st3.2.2.1)] ?_
              obtain rfl := Option.some.inj h
              exact ⟨_, rfl, zL [] [] []⟩
            ·refine zS 4 [(1, .int .i64 place), (2, .bp 2 0), (6, .own 23), (7, .own 28), (9, .own 80), (11, .int .i64 (st1.2.2.getD st2.2.2.2.toNat 0)), (12, .int .i64 st3.2.2.2), (13, .bp 13 0), (33, .own 29), (34, .int .i64 (st1.2.2.length : Int)), (35, .int .i64 st2.2.2.2), (40, .sl (.pair (.int .i64) (.pair (.int .i64) (.pair (.int .i64) .bool))) g.2), (41, .int .i64 (g.2.length : Int)), (42, .int .i64 st3.2.2.2), (51, .bool false), (55, .cv (undef))] [(2, .box 24 [.int .i64 g.1, .sl (.pair (.int .i64) (.pair (.int .i64) (.pair (.int .i64) .bool))) g.2]), (13, .box 61 [.int .i64 (g.2.getD st3.2.2.2.toNat (0, 0, 0, false)).1, .int .i64 (g.2.getD st3.2.2.2.toNat (0, 0, 0, false)).2.1, .int .i64 (g.2.getD st3.2.2.2.toNat (0, 0, 0, false)).2.2.1, .bool (g.2.getD st3.2.2.2.toNat (0, 0, 0, false)).2.2.2]), (23, .arr 4 .bool st3.1), (28, .arr 25 (.sl (.int .i64)) st3.2.1), (29, .arr 3 (.int .i64) st1.2.2), (80, .arr 3 (.int .i64) st3.2.2.1)] ?_
             refine zB [(1, .int .i64 place), (2, .bp 2 0), (6, .own 23), (7, .own 28), (9, .own 80), (11, .int .i64 (st1.2.2.getD st2.2.2.2.toNat 0)), (12, .int .i64 st3.2.2.2), (13, .bp 13 0), (33, .own 29), (34, .int .i64 (st1.2.2.length : Int)), (35, .int .i64 st2.2.2.2), (40, .sl (.pair (.int .i64) (.pair (.int .i64) (.pair (.int .i64) .bool))) g.2), (41, .int .i64 (g.2.length : Int)), (42, .int .i64 st3.2.2.2), (58, .bool false)] [(2, .box 24 [.int .i64 g.1, .sl (.pair (.int .i64) (.pair (.int .i64) (.pair (.int .i64) .bool))) g.2]), (13, .box 61 [.int .i64 (g.2.getD st3.2.2.2.toNat (0, 0, 0, false)).1, .int .i64 (g.2.getD st3.2.2.2.toNat (0, 0, 0, false)).2.1, .int .i64 (g.2.getD st3.2.2.2.toNat (0, 0, 0, false)).2.2.1, .bool (g.2.getD st3.2.2.2.toNat (0, 0, 0, false)).2.2.2]), (23, .arr 4 .bool st3.1), (28, .arr 25 (.sl (.int .i64)) st3.2.1), (29, .arr 3 (.int .i64) st1.2.2), (80, .arr 3 (.int .i64) st3.2.2.1)] ?_
             refine AW.cond (b := false) rfl (fun hb56 => by cases hb56) (fun _ => ?_)
             refine zm ?_
             refine athen_n ?_
             refine AW.ops ?_
             obtain ⟨c57, h⟩ := ck_some.1 h
             refine zA [(1, .int .i64 place), (2, .bp 2 0), (6, .own 23), (7, .own 28), (9, .own 80), (11, .int .i64 (st1.2.2.getD st2.2.2.2.toNat 0)), (33, .own 29), (34, .int .i64 (st1.2.2.length : Int)), (35, .int .i64 st2.2.2.2), (40, .sl (.pair (.int .i64) (.pair (.int .i64) (.pair (.int .i64) .bool))) g.2), (41, .int .i64 (g.2.length : Int)), (42, .int .i64 (st3.2.2.2 + 1))] [(2, .box 24 [.int .i64 g.1, .sl (.pair (.int .i64) (.pair (.int .i64) (.pair (.int .i64) .bool))) g.2]), (23, .arr 4 .bool st3.1), (28, .arr 25 (.sl (.int .i64)) st3.2.1), (29, .arr 3 (.int .i64) st1.2.2), (80, .arr 3 (.int .i64) st3.2.2.1)] ?_
             obtain rfl := Option.some.inj h
             exact ⟨_, rfl, zL [] [] []⟩
           ·refine AW.exit ?_
            refine athen_e ?_
            obtain rfl := Option.some.inj h
            rw [← hd32 _ rfl] at ho31
            have h := ho31
            refine athen_e ?_
            refine ablock_s ?_
            refine ablock_n ?_
            refine athen_n ?_
            exact AW.weaken (zL [] [] []) (hk_linealref07_Way_k3 _ h)
        ·refine AW.exit ?_
         refine athen_e ?_
         obtain rfl := Option.some.inj h
         rw [← hd23 _ rfl] at ho22
         have h := ho22
         refine athen_e ?_
         refine ablock_s ?_
         refine athen_n ?_
         exact AW.weaken (zL [] [] []) (hk_linealref07_Way_k2 _ h)
     ·refine AW.exit ?_
      refine athen_e ?_
      obtain rfl := Option.some.inj h
      rw [← hd17 _ rfl] at ho16
      have h := ho16
      refine athen_e ?_
      refine ablock_s ?_
      refine athen_n ?_
      exact AW.weaken (zL [] [] []) (hk_linealref07_Way_k1 _ h)

theorem hc_progress_graph_isEnd_1 (m : Int × Int × Int × Bool) (a1 : Int) {r : Unit} (h : progress_graph_isEnd_1 m a1 = some r) : HC Try.prog 92 [(1000, .box 3 [.int .i64 a1])] [.agg [.int .i64 m.1, .int .i64 m.2.1, .int .i64 m.2.2.1, .bool m.2.2.2], .bp 1000 0] [(1000, .box 3 [.int .i64 a1])] (.bool (decide (m.1 = a1))) := by
 unfold progress_graph_isEnd_1 at h
 refine zH Try.func92 [.tmp 3] 8 ?_
 refine zo ?_
 refine zB [(1, .bp 1000 0), (2, .bp 2 0)] [(2, .box 61 [.int .i64 m.1, .int .i64 m.2.1, .int .i64 m.2.2.1, .bool m.2.2.2]), (1000, .box 3 [.int .i64 a1])] ?_
 refine zo ?_
 refine zB [(3, .bool (decide (m.1 = a1)))] [(1000, .box 3 [.int .i64 a1])] ?_
 refine AW.ret ?_
 obtain rfl := Option.some.inj h
 exact zR [] [] []

theorem hc_slices_IndexFunc_5 (s : List (Int × Int × Int × Bool)) (c0 : Int) {r : Int} (h : slices_IndexFunc_5 s c0 = some r) : HC Try.prog 100 [(1000, .box 3 [.int .i64 c0])] [.sl (.pair (.int .i64) (.pair (.int .i64) (.pair (.int .i64) .bool))) s, .fn (.func 92) [] [.bp 1000 0]] [(1000, .box 3 [.int .i64 c0])] (.int .i64 r) := by
 unfold slices_IndexFunc_5 at h
 refine zH Try.func100 [.tmp 4] 19 ?_
 refine zo ?_
 refine zB [(0, .sl (.pair (.int .i64) (.pair (.int .i64) (.pair (.int .i64) .bool))) s), (1, .fn (.func 92) [] [.bp 1000 0])] [(1000, .box 3 [.int .i64 c0])] ?_
 refine AW.have1 (fun _ : Unit => slices_IndexFunc_5_k1 = some r) (fun _ => ⟨fr [], hpGet [(1000, .box 3 [.int .i64 c0])], gt⟩) (fun _ h => ?_) (fun hk_slices_IndexFunc_5_k1 => ?_)
 ·as_aux_lemma =>
   unfold slices_IndexFunc_5_k1 at h
   refine zo ?_
   refine zB [(4, .int .i64 (-1))] [(1000, .box 3 [.int .i64 c0])] ?_
   refine AW.ret ?_
   obtain rfl := Option.some.inj h
   exact zR [] [] []
 ·refine AW.seq ?_
  refine zo ?_
  refine zB [(0, .sl (.pair (.int .i64) (.pair (.int .i64) (.pair (.int .i64) .bool))) s), (1, .fn (.func 92) [] [.bp 1000 0]), (7, .int .i64 (s.length : Int)), (8, .int .i64 0)] [(1000, .box 3 [.int .i64 c0])] ?_
  refine AW.block ?_
  obtain ⟨rv5, hw1, ho2⟩ := Option.bind_eq_some_iff.1 h
  refine AW.loopO (slices_IndexFunc_5_b1 s c0) (fun st1 => ⟨fr [(0, .sl (.pair (.int .i64) (.pair (.int .i64) (.pair (.int .i64) .bool))) s), (1, .fn (.func 92) [] [.bp 1000 0]), (7, .int .i64 (s.length : Int)), (8, .int .i64 st1)], hpGet [(1000, .box 3 [.int .i64 c0])], gt⟩) 0 hw1 (zL [] [] []) ?_
  as_aux_lemma =>
   intro st1 x4 h hd3
   unfold slices_IndexFunc_5_b1 at h
   refine zo ?_
   refine zB [(0, .sl (.pair (.int .i64) (.pair (.int .i64) (.pair (.int .i64) .bool))) s), (1, .fn (.func 92) [] [.bp 1000 0]), (7, .int .i64 (s.length : Int)), (8, .int .i64 st1), (9, .bool (decide (st1 < (s.length : Int))))] [(1000, .box 3 [.int .i64 c0])] ?_
   refine AW.seq ?_
   refine zQ h (fun hb6 h => ?_) (fun hb6 h => ?_)
   ·refine zk ?_
    refine AW.seq ?_
    refine AW.block ?_
    refine zo ?_
    refine zB [(0, .sl (.pair (.int .i64) (.pair (.int .i64) (.pair (.int .i64) .bool))) s), (1, .fn (.func 92) [] [.bp 1000 0]), (5, .int .i64 st1), (7, .int .i64 (s.length : Int)), (8, .int .i64 st1)] [(1000, .box 3 [.int .i64 c0])] ?_
    refine zo ?_
    obtain ⟨c7, h⟩ := ck_some.1 h
    obtain ⟨c8, h⟩ := ck_some.1 h
    refine zS 5 [(0, .sl (.pair (.int .i64) (.pair (.int .i64) (.pair (.int .i64) .bool))) s), (1, .fn (.func 92) [] [.bp 1000 0]), (5, .int .i64 st1), (7, .int .i64 (s.length : Int)), (8, .int .i64 st1), (11, .fn (.func 92) [] [.bp 1000 0]), (15, .agg [.int .i64 (s.getD st1.toNat (0, 0, 0, false)).1, .int .i64 (s.getD st1.toNat (0, 0, 0, false)).2.1, .int .i64 (s.getD st1.toNat (0, 0, 0, false)).2.2.1, .bool (s.getD st1.toNat (0, 0, 0, false)).2.2.2])] [(1000, .box 3 [.int .i64 c0])] ?_
    obtain ⟨v0, hv9, h⟩ := Option.bind_eq_some_iff.1 h
    refine zC [] [(1000, 1000)] (hc_progress_graph_isEnd_1 (s.getD st1.toNat (0, 0, 0, false)) c0 hv9) [(0, .sl (.pair (.int .i64) (.pair (.int .i64) (.pair (.int .i64) .bool))) s), (1, .fn (.func 92) [] [.bp 1000 0]), (5, .int .i64 st1), (7, .int .i64 (s.length : Int)), (8, .int .i64 st1), (16, .bool (decide ((s.getD st1.toNat (0, 0, 0, false)).1 = c0)))] [(1000, .box 3 [.int .i64 c0])] ?_
    refine zB [(0, .sl (.pair (.int .i64) (.pair (.int .i64) (.pair (.int .i64) .bool))) s), (1, .fn (.func 92) [] [.bp 1000 0]), (5, .int .i64 st1), (7, .int .i64 (s.length : Int)), (8, .int .i64 st1), (16, .bool (decide ((s.getD st1.toNat (0, 0, 0, false)).1 = c0)))] [(1000, .box 3 [.int .i64 c0])] ?_
    refine zQ h (fun hb10 h => ?_) (fun hb10 h => ?_)
    ·refine zo ?_
     refine zB [(4, .int .i64 st1)] [(1000, .box 3 [.int .i64 c0])] ?_
     refine AW.ret ?_
     refine ablock_r ?_
     refine athen_r ?_
     obtain rfl := Option.some.inj h
     rw [← hd3 _ rfl] at ho2
     have h := ho2
     try simp only at h
     refine athen_r ?_
     refine ablock_r ?_
     refine athen_r ?_
     obtain rfl := Option.some.inj h
     exact zR [] [] []
    ·refine zm ?_
     refine athen_n ?_
     refine AW.ops ?_
     obtain ⟨c11, h⟩ := ck_some.1 h
     refine zA [(0, .sl (.pair (.int .i64) (.pair (.int .i64) (.pair (.int .i64) .bool))) s), (1, .fn (.func 92) [] [.bp 1000 0]), (7, .int .i64 (s.length : Int)), (8, .int .i64 (st1 + 1))] [(1000, .box 3 [.int .i64 c0])] ?_
     obtain rfl := Option.some.inj h
     exact ⟨_, rfl, zL [] [] []⟩
   ·refine AW.exit ?_
    refine athen_e ?_
    obtain rfl := Option.some.inj h
    rw [← hd3 _ rfl] at ho2
    have h := ho2
    try simp only at h
    refine athen_e ?_
    refine ablock_s ?_
    refine athen_n ?_
    exact AW.weaken (zL [] [] []) (hk_slices_IndexFunc_5_k1 () h)

theorem hc_slices_ContainsFunc (s : List (Int × Int × Int × Bool)) (c0 : Int) {r : Bool} (h : slices_ContainsFunc s c0 = some r) : HC Try.prog 91 [(1000, .box 3 [.int .i64 c0])] [.sl (.pair (.int .i64) (.pair (.int .i64) (.pair (.int .i64) .bool))) s, .fn (.func 92) [] [.bp 1000 0]] [(1000, .box 3 [.int .i64 c0])] (.bool r) := by
 unfold slices_ContainsFunc at h
 refine zH Try.func91 [.tmp 4] 9 ?_
 refine zo ?_
 refine zB [(0, .sl (.pair (.int .i64) (.pair (.int .i64) (.pair (.int .i64) .bool))) s), (1, .fn (.func 92) [] [.bp 1000 0])] [(1000, .box 3 [.int .i64 c0])] ?_
 refine zo ?_
 refine zS 2 [(5, .sl (.pair (.int .i64) (.pair (.int .i64) (.pair (.int .i64) .bool))) s), (6, .fn (.func 92) [] [.bp 1000 0])] [(1000, .box 3 [.int .i64 c0])] ?_
 obtain ⟨v0, hv1, h⟩ := Option.bind_eq_some_iff.1 h
 refine zC [] [(1000, 1000)] (hc_slices_IndexFunc_5 s c0 hv1) [(7, .int .i64 v0)] [(1000, .box 3 [.int .i64 c0])] ?_
 refine zB [(4, .bool (decide (0 ≤ v0)))] [(1000, .box 3 [.int .i64 c0])] ?_
 refine AW.ret ?_
 obtain rfl := Option.some.inj h
 exact zR [] [] []

theorem hc_progress_graph_isEnd (g : Int × (List (Int × Int × Int × Bool))) (place : Int) {r : Bool} (h : progress_graph_isEnd g place = some r) : HC Try.prog 69 [] [.agg [.int .i64 g.1, .sl (.pair (.int .i64) (.pair (.int .i64) (.pair (.int .i64) .bool))) g.2], .int .i64 place] [] (.bool r) := by
 unfold progress_graph_isEnd at h
 refine zH Try.func69 [.tmp 4] 10 ?_
 refine zo ?_
 refine zB [(2, .bp 2 0), (3, .bp 3 0)] [(2, .box 69 [.int .i64 g.1, .sl (.pair (.int .i64) (.pair (.int .i64) (.pair (.int .i64) .bool))) g.2]), (3, .box 3 [.int .i64 place])] ?_
 refine zo ?_
 refine zS 3 [(6, .sl (.pair (.int .i64) (.pair (.int .i64) (.pair (.int .i64) .bool))) g.2), (7, .fn (.func 92) [] [.bp 3 0])] [(3, .box 3 [.int .i64 place])] ?_
 obtain ⟨v0, hv1, h⟩ := Option.bind_eq_some_iff.1 h
 refine zC [] [(1000, 3)] (hc_slices_ContainsFunc g.2 place hv1) [(8, .bool v0)] [] ?_
 refine zB [(4, .bool (!v0))] [] ?_
 refine AW.ret ?_
 obtain rfl := Option.some.inj h
 exact zR [] [] []

theorem hc_progress_Ends_1 (place : Int) (a1 : Int × (List (Int × Int × Int × Bool))) {r : Bool} (h : progress_Ends_1 place a1 = some r) : HC Try.prog 68 [] [.int .i64 place, .dp (.pair (.int .i64) (.sl (.pair (.int .i64) (.pair (.int .i64) (.pair (.int .i64) .bool))))) a1 0] [] (.bool r) := by
 unfold progress_Ends_1 at h
 refine zH Try.func68 [.tmp 3] 8 ?_
 refine zo ?_
 refine zB [(0, .int .i64 place), (1, .dp (.pair (.int .i64) (.sl (.pair (.int .i64) (.pair (.int .i64) (.pair (.int .i64) .bool))))) a1 0)] [] ?_
 refine zo ?_
 refine zS 2 [(4, .agg [.int .i64 a1.1, .sl (.pair (.int .i64) (.pair (.int .i64) (.pair (.int .i64) .bool))) a1.2]), (5, .int .i64 place)] [] ?_
 obtain ⟨v0, hv1, h⟩ := Option.bind_eq_some_iff.1 h
 refine zC [] [] (hc_progress_graph_isEnd a1 place hv1) [(6, .bool v0)] [] ?_
 refine zB [(3, .bool (!v0))] [] ?_
 refine AW.ret ?_
 obtain rfl := Option.some.inj h
 exact zR [] [] []

end Go.Proofs.Yteclokkdgmacpaa
