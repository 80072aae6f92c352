/-
  Made by wip/tool/dc.py out of the print of the program: contracts.
-/
import Derived.Test.YtdicomoggfhbfaaDlp
import Derived.Test.YtdicomoggfhbfaaShd
import Derived.Test.YtdicomoggfhbfaaDgc6
namespace Go.Proofs.Ytdicomoggfhbfaa
open Go.RowKit

set_option linter.unusedSimpArgs false
set_option linter.unusedVariables false
set_option linter.constructorNameAsVariable false

set_option maxRecDepth 100000
set_option maxHeartbeats 40000000

theorem hc_linealref09_Program (x0 : List (List (Int × Bool))) (l : List (Int × Int)) {r : (List (List (Int × Int × Int))) × Int} (h : linealref09_Program x0 l = some r) : HC Try.prog 49 [] [.sl (.sl (.pair (.int .i64) .bool)) x0, .sl (.pair (.int .i64) (.int .i64)) l] [(2000, .arr 117 (.sl (.pair (.int .i64) (.pair (.int .i64) (.int .i64)))) r.1)] (.tup [.own 2000, .int .i64 r.2]) := by
 unfold linealref09_Program at h
 refine zH Try.func49 [.tmp 4, .tmp 5] 82 ?_
 refine zo ?_
 refine zB [(0, .sl (.sl (.pair (.int .i64) .bool)) x0), (1, .sl (.pair (.int .i64) (.int .i64)) l)] [] ?_
 refine AW.seq ?_
 refine zo ?_
 refine zS 2 [(0, .sl (.sl (.pair (.int .i64) .bool)) x0), (1, .sl (.pair (.int .i64) (.int .i64)) l), (18, .sl (.sl (.pair (.int .i64) .bool)) x0), (19, .sl (.pair (.int .i64) (.int .i64)) l)] [] ?_
 obtain ⟨v0, hv1, h⟩ := Option.bind_eq_some_iff.1 h
 refine zC [] [] (hc_linealref09_fenced x0 l hv1) [(0, .sl (.sl (.pair (.int .i64) .bool)) x0), (1, .sl (.pair (.int .i64) (.int .i64)) l), (20, .int .i64 v0)] [] ?_
 refine zB [(0, .sl (.sl (.pair (.int .i64) .bool)) x0), (1, .sl (.pair (.int .i64) (.int .i64)) l), (6, .int .i64 v0)] [] ?_
 refine zo ?_
 refine zB [(0, .sl (.sl (.pair (.int .i64) .bool)) x0), (1, .sl (.pair (.int .i64) (.int .i64)) l), (6, .int .i64 v0), (22, .bool (!(decide (v0 = 0))))] [] ?_
 refine zQ h (fun hb2 h => ?_) (fun hb2 h => ?_)
 ·refine zo ?_
  refine zB [(4, .cv (.slice none 0 0)), (5, .int .i64 v0)] [] ?_
  refine zr ?_
  obtain rfl := Option.some.inj h
  exact zR [] [2000] []
 ·refine zk ?_
  refine zo ?_
  refine zB [(0, .sl (.sl (.pair (.int .i64) .bool)) x0), (1, .sl (.pair (.int .i64) (.int .i64)) l), (7, .cv (.slice none 0 0))] [] ?_
  refine zo ?_
  refine zB [(0, .sl (.sl (.pair (.int .i64) .bool)) x0), (1, .sl (.pair (.int .i64) (.int .i64)) l), (7, .cv (.slice none 0 0)), (8, .int .i64 0), (9, .int .i64 0)] [] ?_
  refine AW.have1 (fun b5_5 : (List (List (Int × Int × Int))) × Int => linealref09_Program_k1 b5_5 = some r) (fun b5_5 => ⟨fr [(7, .own 77), (8, .int .i64 b5_5.2)], hpGet [(77, .arr 117 (.sl (.pair (.int .i64) (.pair (.int .i64) (.int .i64)))) b5_5.1)], gt⟩) (fun b5_5 h => ?_) (fun hk_linealref09_Program_k1 => ?_)
  ·as_aux_lemma =>
    unfold linealref09_Program_k1 at h
    refine AW.seq ?_
    refine zo ?_
    refine zB [(7, .own 77), (80, .bool (decide (8 < b5_5.2)))] [(77, .arr 117 (.sl (.pair (.int .i64) (.pair (.int .i64) (.int .i64)))) b5_5.1)] ?_
    refine zQ h (fun hb3 h => ?_) (fun hb3 h => ?_)
    ·refine zo ?_
     refine zB [(4, .cv (.slice none 0 0)), (5, .int .i64 2)] [] ?_
     refine zr ?_
     obtain rfl := Option.some.inj h
     exact zR [] [2000] []
    ·refine zk ?_
     refine zo ?_
     refine zB [(4, .own 77), (5, .int .i64 0)] [(77, .arr 117 (.sl (.pair (.int .i64) (.pair (.int .i64) (.int .i64)))) b5_5.1)] ?_
     refine AW.ret ?_
     obtain rfl := Option.some.inj h
     exact zR [] [] [(2000, 77)]
  ·refine AW.seq ?_
   refine zo ?_
   refine zB [(1, .sl (.pair (.int .i64) (.int .i64)) l), (7, .cv (.slice none 0 0)), (8, .int .i64 0), (9, .int .i64 0), (24, .sl (.sl (.pair (.int .i64) .bool)) x0), (25, .int .i64 (x0.length : Int)), (26, .int .i64 0)] [] ?_
   refine AW.block ?_
   obtain ⟨rv8, hw4, ho5⟩ := Option.bind_eq_some_iff.1 h
   refine AW.loopO (linealref09_Program_b1 x0 l) (fun st1 => ⟨fr [(1, .sl (.pair (.int .i64) (.int .i64)) l), (7, .own 77), (8, .int .i64 st1.2.1), (9, .int .i64 st1.2.2.1), (24, .sl (.sl (.pair (.int .i64) .bool)) x0), (25, .int .i64 (x0.length : Int)), (26, .int .i64 st1.2.2.2)], hpGet [(77, .arr 117 (.sl (.pair (.int .i64) (.pair (.int .i64) (.int .i64)))) st1.1)], gt⟩) ([], 0, 0, 0) hw4 (zL [] [77] []) ?_
   as_aux_lemma =>
    intro st1 x7 h hd6
    unfold linealref09_Program_b1 at h
    refine zo ?_
    refine zB [(1, .sl (.pair (.int .i64) (.int .i64)) l), (7, .own 77), (8, .int .i64 st1.2.1), (9, .int .i64 st1.2.2.1), (24, .sl (.sl (.pair (.int .i64) .bool)) x0), (25, .int .i64 (x0.length : Int)), (26, .int .i64 st1.2.2.2), (27, .bool (decide (st1.2.2.2 < (x0.length : Int))))] [(77, .arr 117 (.sl (.pair (.int .i64) (.pair (.int .i64) (.int .i64)))) st1.1)] ?_
    refine AW.seq ?_
    refine zQ h (fun hb9 h => ?_) (fun hb9 h => ?_)
    ·refine zk ?_
     refine AW.have1 (fun b5_4 : (List (List (Int × Int × Int))) × Int × Int => linealref09_Program_k2 st1 b5_4 = some x7) (fun b5_4 => ⟨fr [(1, .sl (.pair (.int .i64) (.int .i64)) l), (7, .own 77), (8, .int .i64 b5_4.2.1), (9, .int .i64 b5_4.2.2), (24, .sl (.sl (.pair (.int .i64) .bool)) x0), (25, .int .i64 (x0.length : Int)), (26, .int .i64 st1.2.2.2)], hpGet [(77, .arr 117 (.sl (.pair (.int .i64) (.pair (.int .i64) (.int .i64)))) b5_4.1)], gt⟩) (fun b5_4 h => ?_) (fun hk_linealref09_Program_k2 => ?_)
     ·as_aux_lemma =>
       unfold linealref09_Program_k2 at h
       refine AW.ops ?_
       obtain ⟨c10, h⟩ := ck_some.1 h
       refine zA [(1, .sl (.pair (.int .i64) (.int .i64)) l), (7, .own 77), (8, .int .i64 b5_4.2.1), (9, .int .i64 b5_4.2.2), (24, .sl (.sl (.pair (.int .i64) .bool)) x0), (25, .int .i64 (x0.length : Int)), (26, .int .i64 (st1.2.2.2 + 1))] [(77, .arr 117 (.sl (.pair (.int .i64) (.pair (.int .i64) (.int .i64)))) b5_4.1)] ?_
       obtain rfl := Option.some.inj h
       exact ⟨_, rfl, zL [] [] []⟩
     ·refine AW.seq ?_
      refine AW.block ?_
      refine zo ?_
      obtain ⟨c11, h⟩ := ck_some.1 h
      obtain ⟨c12, h⟩ := ck_some.1 h
      refine zB [(1, .sl (.pair (.int .i64) (.int .i64)) l), (7, .own 77), (8, .int .i64 st1.2.1), (9, .int .i64 st1.2.2.1), (10, .int .i64 st1.2.2.2), (11, .sl (.pair (.int .i64) .bool) (x0.getD st1.2.2.2.toNat [])), (24, .sl (.sl (.pair (.int .i64) .bool)) x0), (25, .int .i64 (x0.length : Int)), (26, .int .i64 st1.2.2.2)] [(77, .arr 117 (.sl (.pair (.int .i64) (.pair (.int .i64) (.int .i64)))) st1.1)] ?_
      refine zo ?_
      refine zB [(1, .sl (.pair (.int .i64) (.int .i64)) l), (7, .own 77), (8, .int .i64 st1.2.1), (9, .int .i64 st1.2.2.1), (10, .int .i64 st1.2.2.2), (11, .sl (.pair (.int .i64) .bool) (x0.getD st1.2.2.2.toNat [])), (12, .cv (.slice none 0 0)), (24, .sl (.sl (.pair (.int .i64) .bool)) x0), (25, .int .i64 (x0.length : Int)), (26, .int .i64 st1.2.2.2)] [(77, .arr 117 (.sl (.pair (.int .i64) (.pair (.int .i64) (.int .i64)))) st1.1)] ?_
      refine AW.have1 (fun b5_3 : Int × Int × (List (Int × Int × Int)) => linealref09_Program_k3 st1 b5_3 = some x7) (fun b5_3 => ⟨fr [(1, .sl (.pair (.int .i64) (.int .i64)) l), (7, .own 77), (8, .int .i64 b5_3.1), (9, .int .i64 b5_3.2.1), (12, .own 56), (24, .sl (.sl (.pair (.int .i64) .bool)) x0), (25, .int .i64 (x0.length : Int)), (26, .int .i64 st1.2.2.2)], hpGet [(56, .arr 119 (.pair (.int .i64) (.pair (.int .i64) (.int .i64))) b5_3.2.2), (77, .arr 117 (.sl (.pair (.int .i64) (.pair (.int .i64) (.int .i64)))) st1.1)], gt⟩) (fun b5_3 h => ?_) (fun hk_linealref09_Program_k3 => ?_)
      ·as_aux_lemma =>
        unfold linealref09_Program_k3 at h
        refine AW.ops ?_
        obtain ⟨c13, h⟩ := ck_some.1 h
        refine zA [(1, .sl (.pair (.int .i64) (.int .i64)) l), (7, .own 77), (8, .int .i64 b5_3.1), (9, .int .i64 b5_3.2.1), (24, .sl (.sl (.pair (.int .i64) .bool)) x0), (25, .int .i64 (x0.length : Int)), (26, .int .i64 st1.2.2.2)] [(77, .arr 117 (.sl (.pair (.int .i64) (.pair (.int .i64) (.int .i64)))) (st1.1 ++ [b5_3.2.2]))] ?_
        refine ablock_n ?_
        refine athen_n ?_
        exact AW.weaken (zL [] [] []) (hk_linealref09_Program_k2 _ h)
      ·refine AW.seq ?_
       refine zo ?_
       refine zB [(1, .sl (.pair (.int .i64) (.int .i64)) l), (7, .own 77), (8, .int .i64 st1.2.1), (9, .int .i64 st1.2.2.1), (10, .int .i64 st1.2.2.2), (12, .cv (.slice none 0 0)), (24, .sl (.sl (.pair (.int .i64) .bool)) x0), (25, .int .i64 (x0.length : Int)), (26, .int .i64 st1.2.2.2), (31, .sl (.pair (.int .i64) .bool) (x0.getD st1.2.2.2.toNat [])), (32, .int .i64 ((x0.getD st1.2.2.2.toNat []).length : Int)), (33, .int .i64 0)] [(77, .arr 117 (.sl (.pair (.int .i64) (.pair (.int .i64) (.int .i64)))) st1.1)] ?_
       refine AW.block ?_
       obtain ⟨rv18, hw14, ho15⟩ := Option.bind_eq_some_iff.1 h
       refine AW.loopO (linealref09_Program_b2 x0 l st1) (fun st2 => ⟨fr [(1, .sl (.pair (.int .i64) (.int .i64)) l), (7, .own 77), (8, .int .i64 st2.1), (9, .int .i64 st2.2.1), (10, .int .i64 st1.2.2.2), (12, .own 56), (24, .sl (.sl (.pair (.int .i64) .bool)) x0), (25, .int .i64 (x0.length : Int)), (26, .int .i64 st1.2.2.2), (31, .sl (.pair (.int .i64) .bool) (x0.getD st1.2.2.2.toNat [])), (32, .int .i64 ((x0.getD st1.2.2.2.toNat []).length : Int)), (33, .int .i64 st2.2.2.2)], hpGet [(56, .arr 119 (.pair (.int .i64) (.pair (.int .i64) (.int .i64))) st2.2.2.1), (77, .arr 117 (.sl (.pair (.int .i64) (.pair (.int .i64) (.int .i64)))) st1.1)], gt⟩) (st1.2.1, st1.2.2.1, [], 0) hw14 (zL [] [56] []) ?_
       as_aux_lemma =>
        intro st2 x17 h hd16
        unfold linealref09_Program_b2 at h
        refine zo ?_
        refine zB [(1, .sl (.pair (.int .i64) (.int .i64)) l), (7, .own 77), (8, .int .i64 st2.1), (9, .int .i64 st2.2.1), (10, .int .i64 st1.2.2.2), (12, .own 56), (24, .sl (.sl (.pair (.int .i64) .bool)) x0), (25, .int .i64 (x0.length : Int)), (26, .int .i64 st1.2.2.2), (31, .sl (.pair (.int .i64) .bool) (x0.getD st1.2.2.2.toNat [])), (32, .int .i64 ((x0.getD st1.2.2.2.toNat []).length : Int)), (33, .int .i64 st2.2.2.2), (34, .bool (decide (st2.2.2.2 < ((x0.getD st1.2.2.2.toNat []).length : Int))))] [(56, .arr 119 (.pair (.int .i64) (.pair (.int .i64) (.int .i64))) st2.2.2.1), (77, .arr 117 (.sl (.pair (.int .i64) (.pair (.int .i64) (.int .i64)))) st1.1)] ?_
        refine AW.seq ?_
        refine zQ h (fun hb19 h => ?_) (fun hb19 h => ?_)
        ·refine zk ?_
         refine AW.have1 (fun b5_2 : Int × (List (Int × Int × Int)) => linealref09_Program_k4 st2 b5_2 = some x17) (fun b5_2 => ⟨fr [(1, .sl (.pair (.int .i64) (.int .i64)) l), (7, .own 77), (8, .int .i64 (st2.1 + 1)), (9, .int .i64 b5_2.1), (10, .int .i64 st1.2.2.2), (12, .own 56), (24, .sl (.sl (.pair (.int .i64) .bool)) x0), (25, .int .i64 (x0.length : Int)), (26, .int .i64 st1.2.2.2), (31, .sl (.pair (.int .i64) .bool) (x0.getD st1.2.2.2.toNat [])), (32, .int .i64 ((x0.getD st1.2.2.2.toNat []).length : Int)), (33, .int .i64 st2.2.2.2)], hpGet [(56, .arr 119 (.pair (.int .i64) (.pair (.int .i64) (.int .i64))) b5_2.2), (77, .arr 117 (.sl (.pair (.int .i64) (.pair (.int .i64) (.int .i64)))) st1.1)], gt⟩) (fun b5_2 h => ?_) (fun hk_linealref09_Program_k4 => ?_)
         ·as_aux_lemma =>
           unfold linealref09_Program_k4 at h
           refine AW.ops ?_
           obtain ⟨c20, h⟩ := ck_some.1 h
           refine zA [(1, .sl (.pair (.int .i64) (.int .i64)) l), (7, .own 77), (8, .int .i64 (st2.1 + 1)), (9, .int .i64 b5_2.1), (10, .int .i64 st1.2.2.2), (12, .own 56), (24, .sl (.sl (.pair (.int .i64) .bool)) x0), (25, .int .i64 (x0.length : Int)), (26, .int .i64 st1.2.2.2), (31, .sl (.pair (.int .i64) .bool) (x0.getD st1.2.2.2.toNat [])), (32, .int .i64 ((x0.getD st1.2.2.2.toNat []).length : Int)), (33, .int .i64 (st2.2.2.2 + 1))] [(56, .arr 119 (.pair (.int .i64) (.pair (.int .i64) (.int .i64))) b5_2.2), (77, .arr 117 (.sl (.pair (.int .i64) (.pair (.int .i64) (.int .i64)))) st1.1)] ?_
           obtain rfl := Option.some.inj h
           exact ⟨_, rfl, zL [] [] []⟩
         ·refine AW.seq ?_
          refine AW.block ?_
          refine zo ?_
          obtain ⟨c21, h⟩ := ck_some.1 h
          obtain ⟨c22, h⟩ := ck_some.1 h
          refine zS 5 [(1, .sl (.pair (.int .i64) (.int .i64)) l), (7, .own 77), (8, .int .i64 st2.1), (9, .int .i64 st2.2.1), (10, .int .i64 st1.2.2.2), (12, .own 56), (13, .int .i64 st2.2.2.2), (14, .bp 14 0), (24, .sl (.sl (.pair (.int .i64) .bool)) x0), (25, .int .i64 (x0.length : Int)), (26, .int .i64 st1.2.2.2), (31, .sl (.pair (.int .i64) .bool) (x0.getD st1.2.2.2.toNat [])), (32, .int .i64 ((x0.getD st1.2.2.2.toNat []).length : Int)), (33, .int .i64 st2.2.2.2), (37, .agg [.int .i64 ((x0.getD st1.2.2.2.toNat []).getD st2.2.2.2.toNat (0, false)).1, .bool ((x0.getD st1.2.2.2.toNat []).getD st2.2.2.2.toNat (0, false)).2])] [(14, .box 76 [.int .i64 0, .bool false]), (56, .arr 119 (.pair (.int .i64) (.pair (.int .i64) (.int .i64))) st2.2.2.1), (77, .arr 117 (.sl (.pair (.int .i64) (.pair (.int .i64) (.int .i64)))) st1.1)] ?_
          refine zB [(1, .sl (.pair (.int .i64) (.int .i64)) l), (7, .own 77), (8, .int .i64 st2.1), (9, .int .i64 st2.2.1), (10, .int .i64 st1.2.2.2), (12, .own 56), (13, .int .i64 st2.2.2.2), (14, .bp 14 0), (24, .sl (.sl (.pair (.int .i64) .bool)) x0), (25, .int .i64 (x0.length : Int)), (26, .int .i64 st1.2.2.2), (31, .sl (.pair (.int .i64) .bool) (x0.getD st1.2.2.2.toNat [])), (32, .int .i64 ((x0.getD st1.2.2.2.toNat []).length : Int)), (33, .int .i64 st2.2.2.2)] [(14, .box 76 [.int .i64 ((x0.getD st1.2.2.2.toNat []).getD st2.2.2.2.toNat (0, false)).1, .bool ((x0.getD st1.2.2.2.toNat []).getD st2.2.2.2.toNat (0, false)).2]), (56, .arr 119 (.pair (.int .i64) (.pair (.int .i64) (.int .i64))) st2.2.2.1), (77, .arr 117 (.sl (.pair (.int .i64) (.pair (.int .i64) (.int .i64)))) st1.1)] ?_
          refine zo ?_
          obtain ⟨c23, h⟩ := ck_some.1 h
          refine zB [(1, .sl (.pair (.int .i64) (.int .i64)) l), (7, .own 77), (8, .int .i64 (st2.1 + 1)), (9, .int .i64 st2.2.1), (10, .int .i64 st1.2.2.2), (12, .own 56), (13, .int .i64 st2.2.2.2), (14, .bp 14 0), (24, .sl (.sl (.pair (.int .i64) .bool)) x0), (25, .int .i64 (x0.length : Int)), (26, .int .i64 st1.2.2.2), (31, .sl (.pair (.int .i64) .bool) (x0.getD st1.2.2.2.toNat [])), (32, .int .i64 ((x0.getD st1.2.2.2.toNat []).length : Int)), (33, .int .i64 st2.2.2.2)] [(14, .box 76 [.int .i64 ((x0.getD st1.2.2.2.toNat []).getD st2.2.2.2.toNat (0, false)).1, .bool ((x0.getD st1.2.2.2.toNat []).getD st2.2.2.2.toNat (0, false)).2]), (56, .arr 119 (.pair (.int .i64) (.pair (.int .i64) (.int .i64))) st2.2.2.1), (77, .arr 117 (.sl (.pair (.int .i64) (.pair (.int .i64) (.int .i64)))) st1.1)] ?_
          refine zo ?_
          refine zB [(1, .sl (.pair (.int .i64) (.int .i64)) l), (7, .own 77), (8, .int .i64 (st2.1 + 1)), (9, .int .i64 st2.2.1), (10, .int .i64 st1.2.2.2), (12, .own 56), (13, .int .i64 st2.2.2.2), (14, .bp 14 0), (15, .bp 15 0), (24, .sl (.sl (.pair (.int .i64) .bool)) x0), (25, .int .i64 (x0.length : Int)), (26, .int .i64 st1.2.2.2), (31, .sl (.pair (.int .i64) .bool) (x0.getD st1.2.2.2.toNat [])), (32, .int .i64 ((x0.getD st1.2.2.2.toNat []).length : Int)), (33, .int .i64 st2.2.2.2)] [(14, .box 76 [.int .i64 ((x0.getD st1.2.2.2.toNat []).getD st2.2.2.2.toNat (0, false)).1, .bool ((x0.getD st1.2.2.2.toNat []).getD st2.2.2.2.toNat (0, false)).2]), (15, .box 119 [.int .i64 1, .int .i64 ((x0.getD st1.2.2.2.toNat []).getD st2.2.2.2.toNat (0, false)).1, .int .i64 0]), (56, .arr 119 (.pair (.int .i64) (.pair (.int .i64) (.int .i64))) st2.2.2.1), (77, .arr 117 (.sl (.pair (.int .i64) (.pair (.int .i64) (.int .i64)))) st1.1)] ?_
          refine AW.have3 (fun b5 : Int × (List (Int × Int × Int)) => linealref09_Program_k5 l st1 st2 b5 = some x17) (fun b5 => ⟨fr [(1, .sl (.pair (.int .i64) (.int .i64)) l), (7, .own 77), (8, .int .i64 (st2.1 + 1)), (9, .int .i64 b5.1), (10, .int .i64 st1.2.2.2), (12, .own 56), (13, .int .i64 st2.2.2.2), (24, .sl (.sl (.pair (.int .i64) .bool)) x0), (25, .int .i64 (x0.length : Int)), (26, .int .i64 st1.2.2.2), (31, .sl (.pair (.int .i64) .bool) (x0.getD st1.2.2.2.toNat [])), (32, .int .i64 ((x0.getD st1.2.2.2.toNat []).length : Int)), (33, .int .i64 st2.2.2.2), (57, .sl (.pair (.int .i64) (.int .i64)) l), (58, .int .i64 (l.length : Int)), (59, .int .i64 0)], hpGet [(56, .arr 119 (.pair (.int .i64) (.pair (.int .i64) (.int .i64))) b5.2), (77, .arr 117 (.sl (.pair (.int .i64) (.pair (.int .i64) (.int .i64)))) st1.1)], gt⟩) (fun b5 h => ?_) (fun hk_linealref09_Program_k5 => ?_)
          ·as_aux_lemma =>
            unfold linealref09_Program_k5 at h
            refine AW.block ?_
            obtain ⟨rv28, hw24, ho25⟩ := Option.bind_eq_some_iff.1 h
            refine AW.loopO (linealref09_Program_b3 l st1 st2) (fun st3 => ⟨fr [(1, .sl (.pair (.int .i64) (.int .i64)) l), (7, .own 77), (8, .int .i64 (st2.1 + 1)), (9, .int .i64 b5.1), (10, .int .i64 st1.2.2.2), (12, .own 56), (13, .int .i64 st2.2.2.2), (24, .sl (.sl (.pair (.int .i64) .bool)) x0), (25, .int .i64 (x0.length : Int)), (26, .int .i64 st1.2.2.2), (31, .sl (.pair (.int .i64) .bool) (x0.getD st1.2.2.2.toNat [])), (32, .int .i64 ((x0.getD st1.2.2.2.toNat []).length : Int)), (33, .int .i64 st2.2.2.2), (57, .sl (.pair (.int .i64) (.int .i64)) l), (58, .int .i64 (l.length : Int)), (59, .int .i64 st3.2)], hpGet [(56, .arr 119 (.pair (.int .i64) (.pair (.int .i64) (.int .i64))) st3.1), (77, .arr 117 (.sl (.pair (.int .i64) (.pair (.int .i64) (.int .i64)))) st1.1)], gt⟩) (b5.2, 0) hw24 (zL [] [] []) ?_
            as_aux_lemma =>
             intro st3 x27 h hd26
             unfold linealref09_Program_b3 at h
             refine zo ?_
             refine zB [(1, .sl (.pair (.int .i64) (.int .i64)) l), (7, .own 77), (8, .int .i64 (st2.1 + 1)), (9, .int .i64 b5.1), (10, .int .i64 st1.2.2.2), (12, .own 56), (13, .int .i64 st2.2.2.2), (24, .sl (.sl (.pair (.int .i64) .bool)) x0), (25, .int .i64 (x0.length : Int)), (26, .int .i64 st1.2.2.2), (31, .sl (.pair (.int .i64) .bool) (x0.getD st1.2.2.2.toNat [])), (32, .int .i64 ((x0.getD st1.2.2.2.toNat []).length : Int)), (33, .int .i64 st2.2.2.2), (57, .sl (.pair (.int .i64) (.int .i64)) l), (58, .int .i64 (l.length : Int)), (59, .int .i64 st3.2), (60, .bool (decide (st3.2 < (l.length : Int))))] [(56, .arr 119 (.pair (.int .i64) (.pair (.int .i64) (.int .i64))) st3.1), (77, .arr 117 (.sl (.pair (.int .i64) (.pair (.int .i64) (.int .i64)))) st1.1)] ?_
             refine AW.seq ?_
             refine zQ h (fun hb29 h => ?_) (fun hb29 h => ?_)
             ·refine zk ?_
              refine AW.seq ?_
              refine AW.block ?_
              refine zo ?_
              obtain ⟨c30, h⟩ := ck_some.1 h
              obtain ⟨c31, h⟩ := ck_some.1 h
              refine zB [(1, .sl (.pair (.int .i64) (.int .i64)) l), (7, .own 77), (8, .int .i64 (st2.1 + 1)), (9, .int .i64 b5.1), (10, .int .i64 st1.2.2.2), (12, .own 56), (13, .int .i64 st2.2.2.2), (17, .bp 17 0), (24, .sl (.sl (.pair (.int .i64) .bool)) x0), (25, .int .i64 (x0.length : Int)), (26, .int .i64 st1.2.2.2), (31, .sl (.pair (.int .i64) .bool) (x0.getD st1.2.2.2.toNat [])), (32, .int .i64 ((x0.getD st1.2.2.2.toNat []).length : Int)), (33, .int .i64 st2.2.2.2), (57, .sl (.pair (.int .i64) (.int .i64)) l), (58, .int .i64 (l.length : Int)), (59, .int .i64 st3.2)] [(17, .box 110 [.int .i64 (l.getD st3.2.toNat (0, 0)).1, .int .i64 (l.getD st3.2.toNat (0, 0)).2]), (56, .arr 119 (.pair (.int .i64) (.pair (.int .i64) (.int .i64))) st3.1), (77, .arr 117 (.sl (.pair (.int .i64) (.pair (.int .i64) (.int .i64)))) st1.1)] ?_
              refine zo ?_
              refine zS 4 [(1, .sl (.pair (.int .i64) (.int .i64)) l), (7, .own 77), (8, .int .i64 (st2.1 + 1)), (9, .int .i64 b5.1), (10, .int .i64 st1.2.2.2), (12, .own 56), (13, .int .i64 st2.2.2.2), (24, .sl (.sl (.pair (.int .i64) .bool)) x0), (25, .int .i64 (x0.length : Int)), (26, .int .i64 st1.2.2.2), (31, .sl (.pair (.int .i64) .bool) (x0.getD st1.2.2.2.toNat [])), (32, .int .i64 ((x0.getD st1.2.2.2.toNat []).length : Int)), (33, .int .i64 st2.2.2.2), (57, .sl (.pair (.int .i64) (.int .i64)) l), (58, .int .i64 (l.length : Int)), (59, .int .i64 st3.2), (63, .agg [.int .i64 (l.getD st3.2.toNat (0, 0)).1, .int .i64 (l.getD st3.2.toNat (0, 0)).2]), (66, .agg [.int .i64 st1.2.2.2, .int .i64 st2.2.2.2])] [(56, .arr 119 (.pair (.int .i64) (.pair (.int .i64) (.int .i64))) st3.1), (77, .arr 117 (.sl (.pair (.int .i64) (.pair (.int .i64) (.int .i64)))) st1.1)] ?_
              obtain ⟨c32, h⟩ := ck_some.1 h
              obtain ⟨c33, h⟩ := ck_some.1 h
              obtain ⟨c34, h⟩ := ck_some.1 h
              obtain ⟨c35, h⟩ := ck_some.1 h
              refine AO.aggEq (neg := false) eqty_110 (by decide) rfl rfl (lx := [.int .i64 (l.getD st3.2.toNat (0, 0)).1, .int .i64 (l.getD st3.2.toNat (0, 0)).2]) (ly := [.int .i64 st1.2.2.2, .int .i64 st2.2.2.2]) (by first | rfl | (simp only [go_sem, hb2, hb9, hb19, hb29]) <;> (with_reducible and_intros) <;> first | assumption | rfl | omega | (unfold maxLen; omega)) (by first | rfl | (simp only [go_sem, hb2, hb9, hb19, hb29]) <;> (with_reducible and_intros) <;> first | assumption | rfl | omega | (unfold maxLen; omega)) (by first | rfl | (simp only [go_sem, hb2, hb9, hb19, hb29]) <;> (with_reducible and_intros) <;> first | assumption | rfl | omega | (unfold maxLen; omega)) (by first | rfl | (simp only [go_sem, hb2, hb9, hb19, hb29]) <;> (with_reducible and_intros) <;> first | assumption | rfl | omega | (unfold maxLen; omega)) (by first | assumption | omega | (simp only [go_sem, hb2, hb9, hb19, hb29]) <;> (with_reducible and_intros) <;> first | assumption | rfl | omega | (unfold maxLen; omega)) (by first | assumption | omega | (simp only [go_sem, hb2, hb9, hb19, hb29]) <;> (with_reducible and_intros) <;> first | assumption | rfl | omega | (unfold maxLen; omega)) ?_
              refine zT [(1, .sl (.pair (.int .i64) (.int .i64)) l), (7, .own 77), (8, .int .i64 (st2.1 + 1)), (9, .int .i64 b5.1), (10, .int .i64 st1.2.2.2), (12, .own 56), (13, .int .i64 st2.2.2.2), (24, .sl (.sl (.pair (.int .i64) .bool)) x0), (25, .int .i64 (x0.length : Int)), (26, .int .i64 st1.2.2.2), (31, .sl (.pair (.int .i64) .bool) (x0.getD st1.2.2.2.toNat [])), (32, .int .i64 ((x0.getD st1.2.2.2.toNat []).length : Int)), (33, .int .i64 st2.2.2.2), (57, .sl (.pair (.int .i64) (.int .i64)) l), (58, .int .i64 (l.length : Int)), (59, .int .i64 st3.2), (67, .bool (decide ((l.getD st3.2.toNat (0, 0)) = (st1.2.2.2, st2.2.2.2))))] [(56, .arr 119 (.pair (.int .i64) (.pair (.int .i64) (.int .i64))) st3.1), (77, .arr 117 (.sl (.pair (.int .i64) (.pair (.int .i64) (.int .i64)))) st1.1)] gt ?_
              refine zB [(1, .sl (.pair (.int .i64) (.int .i64)) l), (7, .own 77), (8, .int .i64 (st2.1 + 1)), (9, .int .i64 b5.1), (10, .int .i64 st1.2.2.2), (12, .own 56), (13, .int .i64 st2.2.2.2), (24, .sl (.sl (.pair (.int .i64) .bool)) x0), (25, .int .i64 (x0.length : Int)), (26, .int .i64 st1.2.2.2), (31, .sl (.pair (.int .i64) .bool) (x0.getD st1.2.2.2.toNat [])), (32, .int .i64 ((x0.getD st1.2.2.2.toNat []).length : Int)), (33, .int .i64 st2.2.2.2), (57, .sl (.pair (.int .i64) (.int .i64)) l), (58, .int .i64 (l.length : Int)), (59, .int .i64 st3.2), (67, .bool (decide ((l.getD st3.2.toNat (0, 0)) = (st1.2.2.2, st2.2.2.2))))] [(56, .arr 119 (.pair (.int .i64) (.pair (.int .i64) (.int .i64))) st3.1), (77, .arr 117 (.sl (.pair (.int .i64) (.pair (.int .i64) (.int .i64)))) st1.1)] ?_
              refine zQ h (fun hb36 h => ?_) (fun hb36 h => ?_)
              ·refine AW.ops ?_
               obtain ⟨c37, h⟩ := ck_some.1 h
               refine zA [(1, .sl (.pair (.int .i64) (.int .i64)) l), (7, .own 77), (8, .int .i64 (st2.1 + 1)), (9, .int .i64 b5.1), (10, .int .i64 st1.2.2.2), (12, .own 71), (13, .int .i64 st2.2.2.2), (24, .sl (.sl (.pair (.int .i64) .bool)) x0), (25, .int .i64 (x0.length : Int)), (26, .int .i64 st1.2.2.2), (31, .sl (.pair (.int .i64) .bool) (x0.getD st1.2.2.2.toNat [])), (32, .int .i64 ((x0.getD st1.2.2.2.toNat []).length : Int)), (33, .int .i64 st2.2.2.2), (57, .sl (.pair (.int .i64) (.int .i64)) l), (58, .int .i64 (l.length : Int)), (59, .int .i64 st3.2)] [(71, .arr 119 (.pair (.int .i64) (.pair (.int .i64) (.int .i64))) (st3.1 ++ [(3, 0, 0)])), (77, .arr 117 (.sl (.pair (.int .i64) (.pair (.int .i64) (.int .i64)))) st1.1)] ?_
               refine ablock_n ?_
               refine athen_n ?_
               refine AW.ops ?_
               obtain ⟨c38, h⟩ := ck_some.1 h
               refine zA [(1, .sl (.pair (.int .i64) (.int .i64)) l), (7, .own 77), (8, .int .i64 (st2.1 + 1)), (9, .int .i64 b5.1), (10, .int .i64 st1.2.2.2), (12, .own 71), (13, .int .i64 st2.2.2.2), (24, .sl (.sl (.pair (.int .i64) .bool)) x0), (25, .int .i64 (x0.length : Int)), (26, .int .i64 st1.2.2.2), (31, .sl (.pair (.int .i64) .bool) (x0.getD st1.2.2.2.toNat [])), (32, .int .i64 ((x0.getD st1.2.2.2.toNat []).length : Int)), (33, .int .i64 st2.2.2.2), (57, .sl (.pair (.int .i64) (.int .i64)) l), (58, .int .i64 (l.length : Int)), (59, .int .i64 (st3.2 + 1))] [(71, .arr 119 (.pair (.int .i64) (.pair (.int .i64) (.int .i64))) (st3.1 ++ [(3, 0, 0)])), (77, .arr 117 (.sl (.pair (.int .i64) (.pair (.int .i64) (.int .i64)))) st1.1)] ?_
               obtain rfl := Option.some.inj h
               exact ⟨_, rfl, zL [] [] [(56, 71)]⟩
              ·refine zm ?_
               refine athen_n ?_
               refine AW.ops ?_
               obtain ⟨c39, h⟩ := ck_some.1 h
               refine zA [(1, .sl (.pair (.int .i64) (.int .i64)) l), (7, .own 77), (8, .int .i64 (st2.1 + 1)), (9, .int .i64 b5.1), (10, .int .i64 st1.2.2.2), (12, .own 56), (13, .int .i64 st2.2.2.2), (24, .sl (.sl (.pair (.int .i64) .bool)) x0), (25, .int .i64 (x0.length : Int)), (26, .int .i64 st1.2.2.2), (31, .sl (.pair (.int .i64) .bool) (x0.getD st1.2.2.2.toNat [])), (32, .int .i64 ((x0.getD st1.2.2.2.toNat []).length : Int)), (33, .int .i64 st2.2.2.2), (57, .sl (.pair (.int .i64) (.int .i64)) l), (58, .int .i64 (l.length : Int)), (59, .int .i64 (st3.2 + 1))] [(56, .arr 119 (.pair (.int .i64) (.pair (.int .i64) (.int .i64))) st3.1), (77, .arr 117 (.sl (.pair (.int .i64) (.pair (.int .i64) (.int .i64)))) st1.1)] ?_
               obtain rfl := Option.some.inj h
               exact ⟨_, rfl, zL [] [] []⟩
             ·refine AW.exit ?_
              refine athen_e ?_
              obtain rfl := Option.some.inj h
              rw [← hd26 _ rfl] at ho25
              have h := ho25
              refine athen_e ?_
              refine ablock_s ?_
              refine ablock_n ?_
              refine athen_n ?_
              exact AW.weaken (zL [] [] []) (hk_linealref09_Program_k4 _ h)
          ·refine AW.seq ?_
           refine zo ?_
           refine zB [(1, .sl (.pair (.int .i64) (.int .i64)) l), (7, .own 77), (8, .int .i64 (st2.1 + 1)), (9, .int .i64 st2.2.1), (10, .int .i64 st1.2.2.2), (12, .own 56), (13, .int .i64 st2.2.2.2), (14, .bp 14 0), (15, .bp 15 0), (24, .sl (.sl (.pair (.int .i64) .bool)) x0), (25, .int .i64 (x0.length : Int)), (26, .int .i64 st1.2.2.2), (31, .sl (.pair (.int .i64) .bool) (x0.getD st1.2.2.2.toNat [])), (32, .int .i64 ((x0.getD st1.2.2.2.toNat []).length : Int)), (33, .int .i64 st2.2.2.2), (44, .bool ((x0.getD st1.2.2.2.toNat []).getD st2.2.2.2.toNat (0, false)).2)] [(14, .box 76 [.int .i64 ((x0.getD st1.2.2.2.toNat []).getD st2.2.2.2.toNat (0, false)).1, .bool ((x0.getD st1.2.2.2.toNat []).getD st2.2.2.2.toNat (0, false)).2]), (15, .box 119 [.int .i64 1, .int .i64 ((x0.getD st1.2.2.2.toNat []).getD st2.2.2.2.toNat (0, false)).1, .int .i64 0]), (56, .arr 119 (.pair (.int .i64) (.pair (.int .i64) (.int .i64))) st2.2.2.1), (77, .arr 117 (.sl (.pair (.int .i64) (.pair (.int .i64) (.int .i64)))) st1.1)] ?_
           refine zQ h (fun hb40 h => ?_) (fun hb40 h => ?_)
           ·refine zo ?_
            obtain ⟨c41, h⟩ := ck_some.1 h
            obtain ⟨c42, h⟩ := ck_some.1 h
            refine zS 5 [(1, .sl (.pair (.int .i64) (.int .i64)) l), (7, .own 77), (8, .int .i64 (st2.1 + 1)), (9, .int .i64 st2.2.1), (10, .int .i64 st1.2.2.2), (12, .own 56), (13, .int .i64 st2.2.2.2), (15, .bp 15 0), (24, .sl (.sl (.pair (.int .i64) .bool)) x0), (25, .int .i64 (x0.length : Int)), (26, .int .i64 st1.2.2.2), (31, .sl (.pair (.int .i64) .bool) (x0.getD st1.2.2.2.toNat [])), (32, .int .i64 ((x0.getD st1.2.2.2.toNat []).length : Int)), (33, .int .i64 st2.2.2.2), (46, .int .i64 ((x0.getD st1.2.2.2.toNat []).getD st2.2.2.2.toNat (0, false)).1), (49, .int .i64 (1 + (st2.2.1 % 3)))] [(15, .box 119 [.int .i64 1, .int .i64 ((x0.getD st1.2.2.2.toNat []).getD st2.2.2.2.toNat (0, false)).1, .int .i64 0]), (56, .arr 119 (.pair (.int .i64) (.pair (.int .i64) (.int .i64))) st2.2.2.1), (77, .arr 117 (.sl (.pair (.int .i64) (.pair (.int .i64) (.int .i64)))) st1.1)] ?_
            refine zB [(1, .sl (.pair (.int .i64) (.int .i64)) l), (7, .own 77), (8, .int .i64 (st2.1 + 1)), (9, .int .i64 st2.2.1), (10, .int .i64 st1.2.2.2), (12, .own 56), (13, .int .i64 st2.2.2.2), (15, .bp 15 0), (24, .sl (.sl (.pair (.int .i64) .bool)) x0), (25, .int .i64 (x0.length : Int)), (26, .int .i64 st1.2.2.2), (31, .sl (.pair (.int .i64) .bool) (x0.getD st1.2.2.2.toNat [])), (32, .int .i64 ((x0.getD st1.2.2.2.toNat []).length : Int)), (33, .int .i64 st2.2.2.2)] [(15, .box 119 [.int .i64 2, .int .i64 ((x0.getD st1.2.2.2.toNat []).getD st2.2.2.2.toNat (0, false)).1, .int .i64 (1 + (st2.2.1 % 3))]), (56, .arr 119 (.pair (.int .i64) (.pair (.int .i64) (.int .i64))) st2.2.2.1), (77, .arr 117 (.sl (.pair (.int .i64) (.pair (.int .i64) (.int .i64)))) st1.1)] ?_
            refine AW.ops ?_
            obtain ⟨c43, h⟩ := ck_some.1 h
            refine zB [(1, .sl (.pair (.int .i64) (.int .i64)) l), (7, .own 77), (8, .int .i64 (st2.1 + 1)), (9, .int .i64 (st2.2.1 + 1)), (10, .int .i64 st1.2.2.2), (12, .own 56), (13, .int .i64 st2.2.2.2), (15, .bp 15 0), (24, .sl (.sl (.pair (.int .i64) .bool)) x0), (25, .int .i64 (x0.length : Int)), (26, .int .i64 st1.2.2.2), (31, .sl (.pair (.int .i64) .bool) (x0.getD st1.2.2.2.toNat [])), (32, .int .i64 ((x0.getD st1.2.2.2.toNat []).length : Int)), (33, .int .i64 st2.2.2.2)] [(15, .box 119 [.int .i64 2, .int .i64 ((x0.getD st1.2.2.2.toNat []).getD st2.2.2.2.toNat (0, false)).1, .int .i64 (1 + (st2.2.1 % 3))]), (56, .arr 119 (.pair (.int .i64) (.pair (.int .i64) (.int .i64))) st2.2.2.1), (77, .arr 117 (.sl (.pair (.int .i64) (.pair (.int .i64) (.int .i64)))) st1.1)] ?_
            refine zo ?_
            obtain ⟨c44, h⟩ := ck_some.1 h
            refine zB [(1, .sl (.pair (.int .i64) (.int .i64)) l), (7, .own 77), (8, .int .i64 (st2.1 + 1)), (9, .int .i64 (st2.2.1 + 1)), (10, .int .i64 st1.2.2.2), (12, .own 56), (13, .int .i64 st2.2.2.2), (24, .sl (.sl (.pair (.int .i64) .bool)) x0), (25, .int .i64 (x0.length : Int)), (26, .int .i64 st1.2.2.2), (31, .sl (.pair (.int .i64) .bool) (x0.getD st1.2.2.2.toNat [])), (32, .int .i64 ((x0.getD st1.2.2.2.toNat []).length : Int)), (33, .int .i64 st2.2.2.2)] [(56, .arr 119 (.pair (.int .i64) (.pair (.int .i64) (.int .i64))) (st2.2.2.1 ++ [(2, ((x0.getD st1.2.2.2.toNat []).getD st2.2.2.2.toNat (0, false)).1, (1 + (st2.2.1 % 3)))])), (77, .arr 117 (.sl (.pair (.int .i64) (.pair (.int .i64) (.int .i64)))) st1.1)] ?_
            refine zo ?_
            refine zB [(1, .sl (.pair (.int .i64) (.int .i64)) l), (7, .own 77), (8, .int .i64 (st2.1 + 1)), (9, .int .i64 (st2.2.1 + 1)), (10, .int .i64 st1.2.2.2), (12, .own 56), (13, .int .i64 st2.2.2.2), (24, .sl (.sl (.pair (.int .i64) .bool)) x0), (25, .int .i64 (x0.length : Int)), (26, .int .i64 st1.2.2.2), (31, .sl (.pair (.int .i64) .bool) (x0.getD st1.2.2.2.toNat [])), (32, .int .i64 ((x0.getD st1.2.2.2.toNat []).length : Int)), (33, .int .i64 st2.2.2.2), (57, .sl (.pair (.int .i64) (.int .i64)) l), (58, .int .i64 (l.length : Int)), (59, .int .i64 0)] [(56, .arr 119 (.pair (.int .i64) (.pair (.int .i64) (.int .i64))) (st2.2.2.1 ++ [(2, ((x0.getD st1.2.2.2.toNat []).getD st2.2.2.2.toNat (0, false)).1, (1 + (st2.2.1 % 3)))])), (77, .arr 117 (.sl (.pair (.int .i64) (.pair (.int .i64) (.int .i64)))) st1.1)] ?_
            exact AW.weaken (zL [] [] []) (hk_linealref09_Program_k5 _ h)
           ·refine zk ?_
            refine zo ?_
            obtain ⟨c45, h⟩ := ck_some.1 h
            refine zB [(1, .sl (.pair (.int .i64) (.int .i64)) l), (7, .own 77), (8, .int .i64 (st2.1 + 1)), (9, .int .i64 st2.2.1), (10, .int .i64 st1.2.2.2), (12, .own 56), (13, .int .i64 st2.2.2.2), (24, .sl (.sl (.pair (.int .i64) .bool)) x0), (25, .int .i64 (x0.length : Int)), (26, .int .i64 st1.2.2.2), (31, .sl (.pair (.int .i64) .bool) (x0.getD st1.2.2.2.toNat [])), (32, .int .i64 ((x0.getD st1.2.2.2.toNat []).length : Int)), (33, .int .i64 st2.2.2.2)] [(56, .arr 119 (.pair (.int .i64) (.pair (.int .i64) (.int .i64))) (st2.2.2.1 ++ [(1, ((x0.getD st1.2.2.2.toNat []).getD st2.2.2.2.toNat (0, false)).1, 0)])), (77, .arr 117 (.sl (.pair (.int .i64) (.pair (.int .i64) (.int .i64)))) st1.1)] ?_
            refine zo ?_
            refine zB [(1, .sl (.pair (.int .i64) (.int .i64)) l), (7, .own 77), (8, .int .i64 (st2.1 + 1)), (9, .int .i64 st2.2.1), (10, .int .i64 st1.2.2.2), (12, .own 56), (13, .int .i64 st2.2.2.2), (24, .sl (.sl (.pair (.int .i64) .bool)) x0), (25, .int .i64 (x0.length : Int)), (26, .int .i64 st1.2.2.2), (31, .sl (.pair (.int .i64) .bool) (x0.getD st1.2.2.2.toNat [])), (32, .int .i64 ((x0.getD st1.2.2.2.toNat []).length : Int)), (33, .int .i64 st2.2.2.2), (57, .sl (.pair (.int .i64) (.int .i64)) l), (58, .int .i64 (l.length : Int)), (59, .int .i64 0)] [(56, .arr 119 (.pair (.int .i64) (.pair (.int .i64) (.int .i64))) (st2.2.2.1 ++ [(1, ((x0.getD st1.2.2.2.toNat []).getD st2.2.2.2.toNat (0, false)).1, 0)])), (77, .arr 117 (.sl (.pair (.int .i64) (.pair (.int .i64) (.int .i64)))) st1.1)] ?_
            exact AW.weaken (zL [] [] []) (hk_linealref09_Program_k5 _ h)
        ·refine AW.exit ?_
         refine athen_e ?_
         obtain rfl := Option.some.inj h
         rw [← hd16 _ rfl] at ho15
         have h := ho15
         refine athen_e ?_
         refine ablock_s ?_
         refine athen_n ?_
         exact AW.weaken (zL [] [] []) (hk_linealref09_Program_k3 _ h)
    ·refine AW.exit ?_
     refine athen_e ?_
     obtain rfl := Option.some.inj h
     rw [← hd6 _ rfl] at ho5
     have h := ho5
     refine athen_e ?_
     refine ablock_s ?_
     refine athen_n ?_
     exact AW.weaken (zL [] [] []) (hk_linealref09_Program_k1 _ h)

end Go.Proofs.Ytdicomoggfhbfaa
