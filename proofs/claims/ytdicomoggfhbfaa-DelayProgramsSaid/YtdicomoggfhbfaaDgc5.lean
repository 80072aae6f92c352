/-
  Made by wip/tool/dc.py out of the print of the program: contracts.
-/
import Derived.Test.YtdicomoggfhbfaaDlp
import Derived.Test.YtdicomoggfhbfaaShd
import Derived.Test.YtdicomoggfhbfaaDgc4
namespace Go.Proofs.Ytdicomoggfhbfaa
open Go.RowKit

set_option linter.unusedSimpArgs false
set_option linter.unusedVariables false
set_option linter.constructorNameAsVariable false

set_option maxRecDepth 100000
set_option maxHeartbeats 40000000

theorem hc_delay_accesses_program (x0 : List (List (Int × Bool))) (fences : List (Int × Int)) {r : (List (List (Int × Int × Int)))} (h : delay_accesses_program x0 fences = some r) : HC Try.prog 101 [] [.sl (.sl (.pair (.int .i64) .bool)) x0, .sl (.pair (.int .i64) (.int .i64)) fences] [(2000, .arr 117 (.sl (.pair (.int .i64) (.pair (.int .i64) (.int .i64)))) r)] (.own 2000) := by
 unfold delay_accesses_program at h
 refine zH Try.func101 [.tmp 4] 59 ?_
 refine zo ?_
 refine zB [(0, .sl (.sl (.pair (.int .i64) .bool)) x0), (1, .sl (.pair (.int .i64) (.int .i64)) fences)] [] ?_
 refine zo ?_
 refine zB [(0, .sl (.sl (.pair (.int .i64) .bool)) x0), (1, .sl (.pair (.int .i64) (.int .i64)) fences), (5, .cv (.slice none 0 0))] [] ?_
 refine zo ?_
 refine zB [(0, .sl (.sl (.pair (.int .i64) .bool)) x0), (1, .sl (.pair (.int .i64) (.int .i64)) fences), (5, .cv (.slice none 0 0)), (6, .int .i64 0)] [] ?_
 refine AW.have1 (fun b4_4 : (List (List (Int × Int × Int))) => delay_accesses_program_k1 b4_4 = some r) (fun b4_4 => ⟨fr [(5, .own 56)], hpGet [(56, .arr 117 (.sl (.pair (.int .i64) (.pair (.int .i64) (.int .i64)))) b4_4)], gt⟩) (fun b4_4 h => ?_) (fun hk_delay_accesses_program_k1 => ?_)
 ·as_aux_lemma =>
   unfold delay_accesses_program_k1 at h
   refine zo ?_
   refine zB [(4, .own 56)] [(56, .arr 117 (.sl (.pair (.int .i64) (.pair (.int .i64) (.int .i64)))) b4_4)] ?_
   refine AW.ret ?_
   obtain rfl := Option.some.inj h
   exact zR [] [] [(2000, 56)]
 ·refine AW.seq ?_
  refine zo ?_
  refine zB [(1, .sl (.pair (.int .i64) (.int .i64)) fences), (5, .cv (.slice none 0 0)), (6, .int .i64 0), (13, .sl (.sl (.pair (.int .i64) .bool)) x0), (14, .int .i64 (x0.length : Int)), (15, .int .i64 0)] [] ?_
  refine AW.block ?_
  obtain ⟨rv5, hw1, ho2⟩ := Option.bind_eq_some_iff.1 h
  refine AW.loopO (delay_accesses_program_b1 x0 fences) (fun st1 => ⟨fr [(1, .sl (.pair (.int .i64) (.int .i64)) fences), (5, .own 56), (6, .int .i64 st1.2.1), (13, .sl (.sl (.pair (.int .i64) .bool)) x0), (14, .int .i64 (x0.length : Int)), (15, .int .i64 st1.2.2)], hpGet [(56, .arr 117 (.sl (.pair (.int .i64) (.pair (.int .i64) (.int .i64)))) st1.1)], gt⟩) ([], 0, 0) hw1 (zL [] [56] []) ?_
  as_aux_lemma =>
   intro st1 x4 h hd3
   unfold delay_accesses_program_b1 at h
   refine zo ?_
   refine zB [(1, .sl (.pair (.int .i64) (.int .i64)) fences), (5, .own 56), (6, .int .i64 st1.2.1), (13, .sl (.sl (.pair (.int .i64) .bool)) x0), (14, .int .i64 (x0.length : Int)), (15, .int .i64 st1.2.2), (16, .bool (decide (st1.2.2 < (x0.length : Int))))] [(56, .arr 117 (.sl (.pair (.int .i64) (.pair (.int .i64) (.int .i64)))) st1.1)] ?_
   refine AW.seq ?_
   refine zQ h (fun hb6 h => ?_) (fun hb6 h => ?_)
   ·refine zk ?_
    refine AW.have1 (fun b4_3 : (List (List (Int × Int × Int))) × Int => delay_accesses_program_k2 st1 b4_3 = some x4) (fun b4_3 => ⟨fr [(1, .sl (.pair (.int .i64) (.int .i64)) fences), (5, .own 56), (6, .int .i64 b4_3.2), (13, .sl (.sl (.pair (.int .i64) .bool)) x0), (14, .int .i64 (x0.length : Int)), (15, .int .i64 st1.2.2)], hpGet [(56, .arr 117 (.sl (.pair (.int .i64) (.pair (.int .i64) (.int .i64)))) b4_3.1)], gt⟩) (fun b4_3 h => ?_) (fun hk_delay_accesses_program_k2 => ?_)
    ·as_aux_lemma =>
      unfold delay_accesses_program_k2 at h
      refine AW.ops ?_
      obtain ⟨c7, h⟩ := ck_some.1 h
      refine zA [(1, .sl (.pair (.int .i64) (.int .i64)) fences), (5, .own 56), (6, .int .i64 b4_3.2), (13, .sl (.sl (.pair (.int .i64) .bool)) x0), (14, .int .i64 (x0.length : Int)), (15, .int .i64 (st1.2.2 + 1))] [(56, .arr 117 (.sl (.pair (.int .i64) (.pair (.int .i64) (.int .i64)))) b4_3.1)] ?_
      obtain rfl := Option.some.inj h
      exact ⟨_, rfl, zL [] [] []⟩
    ·refine AW.seq ?_
     refine AW.block ?_
     refine zo ?_
     obtain ⟨c8, h⟩ := ck_some.1 h
     obtain ⟨c9, h⟩ := ck_some.1 h
     refine zB [(1, .sl (.pair (.int .i64) (.int .i64)) fences), (5, .own 56), (6, .int .i64 st1.2.1), (7, .int .i64 st1.2.2), (8, .sl (.pair (.int .i64) .bool) (x0.getD st1.2.2.toNat [])), (13, .sl (.sl (.pair (.int .i64) .bool)) x0), (14, .int .i64 (x0.length : Int)), (15, .int .i64 st1.2.2)] [(56, .arr 117 (.sl (.pair (.int .i64) (.pair (.int .i64) (.int .i64)))) st1.1)] ?_
     refine zo ?_
     refine zB [(1, .sl (.pair (.int .i64) (.int .i64)) fences), (5, .own 56), (6, .int .i64 st1.2.1), (7, .int .i64 st1.2.2), (8, .sl (.pair (.int .i64) .bool) (x0.getD st1.2.2.toNat [])), (9, .cv (.slice none 0 0)), (13, .sl (.sl (.pair (.int .i64) .bool)) x0), (14, .int .i64 (x0.length : Int)), (15, .int .i64 st1.2.2)] [(56, .arr 117 (.sl (.pair (.int .i64) (.pair (.int .i64) (.int .i64)))) st1.1)] ?_
     refine AW.have1 (fun b4_2 : Int × (List (Int × Int × Int)) => delay_accesses_program_k3 st1 b4_2 = some x4) (fun b4_2 => ⟨fr [(1, .sl (.pair (.int .i64) (.int .i64)) fences), (5, .own 56), (6, .int .i64 b4_2.1), (9, .own 51), (13, .sl (.sl (.pair (.int .i64) .bool)) x0), (14, .int .i64 (x0.length : Int)), (15, .int .i64 st1.2.2)], hpGet [(51, .arr 119 (.pair (.int .i64) (.pair (.int .i64) (.int .i64))) b4_2.2), (56, .arr 117 (.sl (.pair (.int .i64) (.pair (.int .i64) (.int .i64)))) st1.1)], gt⟩) (fun b4_2 h => ?_) (fun hk_delay_accesses_program_k3 => ?_)
     ·as_aux_lemma =>
       unfold delay_accesses_program_k3 at h
       refine AW.ops ?_
       obtain ⟨c10, h⟩ := ck_some.1 h
       refine zA [(1, .sl (.pair (.int .i64) (.int .i64)) fences), (5, .own 56), (6, .int .i64 b4_2.1), (13, .sl (.sl (.pair (.int .i64) .bool)) x0), (14, .int .i64 (x0.length : Int)), (15, .int .i64 st1.2.2)] [(56, .arr 117 (.sl (.pair (.int .i64) (.pair (.int .i64) (.int .i64)))) (st1.1 ++ [b4_2.2]))] ?_
       refine ablock_n ?_
       refine athen_n ?_
       exact AW.weaken (zL [] [] []) (hk_delay_accesses_program_k2 _ h)
     ·refine AW.seq ?_
      refine zo ?_
      refine zB [(1, .sl (.pair (.int .i64) (.int .i64)) fences), (5, .own 56), (6, .int .i64 st1.2.1), (7, .int .i64 st1.2.2), (9, .cv (.slice none 0 0)), (13, .sl (.sl (.pair (.int .i64) .bool)) x0), (14, .int .i64 (x0.length : Int)), (15, .int .i64 st1.2.2), (20, .sl (.pair (.int .i64) .bool) (x0.getD st1.2.2.toNat [])), (21, .int .i64 ((x0.getD st1.2.2.toNat []).length : Int)), (22, .int .i64 0)] [(56, .arr 117 (.sl (.pair (.int .i64) (.pair (.int .i64) (.int .i64)))) st1.1)] ?_
      refine AW.block ?_
      obtain ⟨rv15, hw11, ho12⟩ := Option.bind_eq_some_iff.1 h
      refine AW.loopO (delay_accesses_program_b2 x0 fences st1) (fun st2 => ⟨fr [(1, .sl (.pair (.int .i64) (.int .i64)) fences), (5, .own 56), (6, .int .i64 st2.1), (7, .int .i64 st1.2.2), (9, .own 51), (13, .sl (.sl (.pair (.int .i64) .bool)) x0), (14, .int .i64 (x0.length : Int)), (15, .int .i64 st1.2.2), (20, .sl (.pair (.int .i64) .bool) (x0.getD st1.2.2.toNat [])), (21, .int .i64 ((x0.getD st1.2.2.toNat []).length : Int)), (22, .int .i64 st2.2.2)], hpGet [(51, .arr 119 (.pair (.int .i64) (.pair (.int .i64) (.int .i64))) st2.2.1), (56, .arr 117 (.sl (.pair (.int .i64) (.pair (.int .i64) (.int .i64)))) st1.1)], gt⟩) (st1.2.1, [], 0) hw11 (zL [] [51] []) ?_
      as_aux_lemma =>
       intro st2 x14 h hd13
       unfold delay_accesses_program_b2 at h
       refine zo ?_
       refine zB [(1, .sl (.pair (.int .i64) (.int .i64)) fences), (5, .own 56), (6, .int .i64 st2.1), (7, .int .i64 st1.2.2), (9, .own 51), (13, .sl (.sl (.pair (.int .i64) .bool)) x0), (14, .int .i64 (x0.length : Int)), (15, .int .i64 st1.2.2), (20, .sl (.pair (.int .i64) .bool) (x0.getD st1.2.2.toNat [])), (21, .int .i64 ((x0.getD st1.2.2.toNat []).length : Int)), (22, .int .i64 st2.2.2), (23, .bool (decide (st2.2.2 < ((x0.getD st1.2.2.toNat []).length : Int))))] [(51, .arr 119 (.pair (.int .i64) (.pair (.int .i64) (.int .i64))) st2.2.1), (56, .arr 117 (.sl (.pair (.int .i64) (.pair (.int .i64) (.int .i64)))) st1.1)] ?_
       refine AW.seq ?_
       refine zQ h (fun hb16 h => ?_) (fun hb16 h => ?_)
       ·refine zk ?_
        refine AW.seq ?_
        refine AW.block ?_
        refine zo ?_
        obtain ⟨c17, h⟩ := ck_some.1 h
        obtain ⟨c18, h⟩ := ck_some.1 h
        refine zS 5 [(1, .sl (.pair (.int .i64) (.int .i64)) fences), (5, .own 56), (6, .int .i64 st2.1), (7, .int .i64 st1.2.2), (9, .own 51), (10, .int .i64 st2.2.2), (11, .bp 11 0), (13, .sl (.sl (.pair (.int .i64) .bool)) x0), (14, .int .i64 (x0.length : Int)), (15, .int .i64 st1.2.2), (20, .sl (.pair (.int .i64) .bool) (x0.getD st1.2.2.toNat [])), (21, .int .i64 ((x0.getD st1.2.2.toNat []).length : Int)), (22, .int .i64 st2.2.2), (26, .agg [.int .i64 ((x0.getD st1.2.2.toNat []).getD st2.2.2.toNat (0, false)).1, .bool ((x0.getD st1.2.2.toNat []).getD st2.2.2.toNat (0, false)).2])] [(11, .box 76 [.int .i64 0, .bool false]), (51, .arr 119 (.pair (.int .i64) (.pair (.int .i64) (.int .i64))) st2.2.1), (56, .arr 117 (.sl (.pair (.int .i64) (.pair (.int .i64) (.int .i64)))) st1.1)] ?_
        refine zB [(1, .sl (.pair (.int .i64) (.int .i64)) fences), (5, .own 56), (6, .int .i64 st2.1), (7, .int .i64 st1.2.2), (9, .own 51), (10, .int .i64 st2.2.2), (11, .bp 11 0), (13, .sl (.sl (.pair (.int .i64) .bool)) x0), (14, .int .i64 (x0.length : Int)), (15, .int .i64 st1.2.2), (20, .sl (.pair (.int .i64) .bool) (x0.getD st1.2.2.toNat [])), (21, .int .i64 ((x0.getD st1.2.2.toNat []).length : Int)), (22, .int .i64 st2.2.2)] [(11, .box 76 [.int .i64 ((x0.getD st1.2.2.toNat []).getD st2.2.2.toNat (0, false)).1, .bool ((x0.getD st1.2.2.toNat []).getD st2.2.2.toNat (0, false)).2]), (51, .arr 119 (.pair (.int .i64) (.pair (.int .i64) (.int .i64))) st2.2.1), (56, .arr 117 (.sl (.pair (.int .i64) (.pair (.int .i64) (.int .i64)))) st1.1)] ?_
        refine zo ?_
        refine zB [(1, .sl (.pair (.int .i64) (.int .i64)) fences), (5, .own 56), (6, .int .i64 st2.1), (7, .int .i64 st1.2.2), (9, .own 51), (10, .int .i64 st2.2.2), (11, .bp 11 0), (12, .bp 12 0), (13, .sl (.sl (.pair (.int .i64) .bool)) x0), (14, .int .i64 (x0.length : Int)), (15, .int .i64 st1.2.2), (20, .sl (.pair (.int .i64) .bool) (x0.getD st1.2.2.toNat [])), (21, .int .i64 ((x0.getD st1.2.2.toNat []).length : Int)), (22, .int .i64 st2.2.2)] [(11, .box 76 [.int .i64 ((x0.getD st1.2.2.toNat []).getD st2.2.2.toNat (0, false)).1, .bool ((x0.getD st1.2.2.toNat []).getD st2.2.2.toNat (0, false)).2]), (12, .box 119 [.int .i64 1, .int .i64 ((x0.getD st1.2.2.toNat []).getD st2.2.2.toNat (0, false)).1, .int .i64 0]), (51, .arr 119 (.pair (.int .i64) (.pair (.int .i64) (.int .i64))) st2.2.1), (56, .arr 117 (.sl (.pair (.int .i64) (.pair (.int .i64) (.int .i64)))) st1.1)] ?_
        refine AW.have2 (fun b4 : Int × (List (Int × Int × Int)) => delay_accesses_program_k4 fences st1 st2 b4 = some x14) (fun b4 => ⟨fr [(1, .sl (.pair (.int .i64) (.int .i64)) fences), (5, .own 56), (6, .int .i64 b4.1), (7, .int .i64 st1.2.2), (9, .own 42), (10, .int .i64 st2.2.2), (13, .sl (.sl (.pair (.int .i64) .bool)) x0), (14, .int .i64 (x0.length : Int)), (15, .int .i64 st1.2.2), (20, .sl (.pair (.int .i64) .bool) (x0.getD st1.2.2.toNat [])), (21, .int .i64 ((x0.getD st1.2.2.toNat []).length : Int)), (22, .int .i64 st2.2.2)], hpGet [(42, .arr 119 (.pair (.int .i64) (.pair (.int .i64) (.int .i64))) b4.2), (56, .arr 117 (.sl (.pair (.int .i64) (.pair (.int .i64) (.int .i64)))) st1.1)], gt⟩) (fun b4 h => ?_) (fun hk_delay_accesses_program_k4 => ?_)
        ·as_aux_lemma =>
          unfold delay_accesses_program_k4 at h
          refine zo ?_
          refine zS 4 [(1, .sl (.pair (.int .i64) (.int .i64)) fences), (5, .own 56), (6, .int .i64 b4.1), (7, .int .i64 st1.2.2), (9, .own 42), (13, .sl (.sl (.pair (.int .i64) .bool)) x0), (14, .int .i64 (x0.length : Int)), (15, .int .i64 st1.2.2), (20, .sl (.pair (.int .i64) .bool) (x0.getD st1.2.2.toNat [])), (21, .int .i64 ((x0.getD st1.2.2.toNat []).length : Int)), (22, .int .i64 st2.2.2), (43, .sl (.pair (.int .i64) (.int .i64)) fences), (46, .agg [.int .i64 st1.2.2, .int .i64 st2.2.2])] [(42, .arr 119 (.pair (.int .i64) (.pair (.int .i64) (.int .i64))) b4.2), (56, .arr 117 (.sl (.pair (.int .i64) (.pair (.int .i64) (.int .i64)))) st1.1)] ?_
          obtain ⟨v0, hv19, h⟩ := Option.bind_eq_some_iff.1 h
          refine zC [] [] (hc_slices_Contains fences (st1.2.2, st2.2.2) hv19) [(1, .sl (.pair (.int .i64) (.int .i64)) fences), (5, .own 56), (6, .int .i64 b4.1), (7, .int .i64 st1.2.2), (9, .own 42), (13, .sl (.sl (.pair (.int .i64) .bool)) x0), (14, .int .i64 (x0.length : Int)), (15, .int .i64 st1.2.2), (20, .sl (.pair (.int .i64) .bool) (x0.getD st1.2.2.toNat [])), (21, .int .i64 ((x0.getD st1.2.2.toNat []).length : Int)), (22, .int .i64 st2.2.2), (47, .bool v0)] [(42, .arr 119 (.pair (.int .i64) (.pair (.int .i64) (.int .i64))) b4.2), (56, .arr 117 (.sl (.pair (.int .i64) (.pair (.int .i64) (.int .i64)))) st1.1)] ?_
          refine zB [(1, .sl (.pair (.int .i64) (.int .i64)) fences), (5, .own 56), (6, .int .i64 b4.1), (7, .int .i64 st1.2.2), (9, .own 42), (13, .sl (.sl (.pair (.int .i64) .bool)) x0), (14, .int .i64 (x0.length : Int)), (15, .int .i64 st1.2.2), (20, .sl (.pair (.int .i64) .bool) (x0.getD st1.2.2.toNat [])), (21, .int .i64 ((x0.getD st1.2.2.toNat []).length : Int)), (22, .int .i64 st2.2.2), (47, .bool v0)] [(42, .arr 119 (.pair (.int .i64) (.pair (.int .i64) (.int .i64))) b4.2), (56, .arr 117 (.sl (.pair (.int .i64) (.pair (.int .i64) (.int .i64)))) st1.1)] ?_
          refine zQ h (fun hb20 h => ?_) (fun hb20 h => ?_)
          ·refine AW.ops ?_
           obtain ⟨c21, h⟩ := ck_some.1 h
           refine zA [(1, .sl (.pair (.int .i64) (.int .i64)) fences), (5, .own 56), (6, .int .i64 b4.1), (7, .int .i64 st1.2.2), (9, .own 51), (13, .sl (.sl (.pair (.int .i64) .bool)) x0), (14, .int .i64 (x0.length : Int)), (15, .int .i64 st1.2.2), (20, .sl (.pair (.int .i64) .bool) (x0.getD st1.2.2.toNat [])), (21, .int .i64 ((x0.getD st1.2.2.toNat []).length : Int)), (22, .int .i64 st2.2.2)] [(51, .arr 119 (.pair (.int .i64) (.pair (.int .i64) (.int .i64))) (b4.2 ++ [(3, 0, 0)])), (56, .arr 117 (.sl (.pair (.int .i64) (.pair (.int .i64) (.int .i64)))) st1.1)] ?_
           refine ablock_n ?_
           refine athen_n ?_
           refine AW.ops ?_
           obtain ⟨c22, h⟩ := ck_some.1 h
           refine zA [(1, .sl (.pair (.int .i64) (.int .i64)) fences), (5, .own 56), (6, .int .i64 b4.1), (7, .int .i64 st1.2.2), (9, .own 51), (13, .sl (.sl (.pair (.int .i64) .bool)) x0), (14, .int .i64 (x0.length : Int)), (15, .int .i64 st1.2.2), (20, .sl (.pair (.int .i64) .bool) (x0.getD st1.2.2.toNat [])), (21, .int .i64 ((x0.getD st1.2.2.toNat []).length : Int)), (22, .int .i64 (st2.2.2 + 1))] [(51, .arr 119 (.pair (.int .i64) (.pair (.int .i64) (.int .i64))) (b4.2 ++ [(3, 0, 0)])), (56, .arr 117 (.sl (.pair (.int .i64) (.pair (.int .i64) (.int .i64)))) st1.1)] ?_
           obtain rfl := Option.some.inj h
           exact ⟨_, rfl, zL [] [] []⟩
          ·refine zm ?_
           refine athen_n ?_
           refine AW.ops ?_
           obtain ⟨c23, h⟩ := ck_some.1 h
           refine zA [(1, .sl (.pair (.int .i64) (.int .i64)) fences), (5, .own 56), (6, .int .i64 b4.1), (7, .int .i64 st1.2.2), (9, .own 42), (13, .sl (.sl (.pair (.int .i64) .bool)) x0), (14, .int .i64 (x0.length : Int)), (15, .int .i64 st1.2.2), (20, .sl (.pair (.int .i64) .bool) (x0.getD st1.2.2.toNat [])), (21, .int .i64 ((x0.getD st1.2.2.toNat []).length : Int)), (22, .int .i64 (st2.2.2 + 1))] [(42, .arr 119 (.pair (.int .i64) (.pair (.int .i64) (.int .i64))) b4.2), (56, .arr 117 (.sl (.pair (.int .i64) (.pair (.int .i64) (.int .i64)))) st1.1)] ?_
           obtain rfl := Option.some.inj h
           exact ⟨_, rfl, zL [] [] [(51, 42)]⟩
        ·refine AW.seq ?_
         refine zo ?_
         refine zB [(1, .sl (.pair (.int .i64) (.int .i64)) fences), (5, .own 56), (6, .int .i64 st2.1), (7, .int .i64 st1.2.2), (9, .own 51), (10, .int .i64 st2.2.2), (12, .bp 12 0), (13, .sl (.sl (.pair (.int .i64) .bool)) x0), (14, .int .i64 (x0.length : Int)), (15, .int .i64 st1.2.2), (20, .sl (.pair (.int .i64) .bool) (x0.getD st1.2.2.toNat [])), (21, .int .i64 ((x0.getD st1.2.2.toNat []).length : Int)), (22, .int .i64 st2.2.2), (31, .bool ((x0.getD st1.2.2.toNat []).getD st2.2.2.toNat (0, false)).2)] [(12, .box 119 [.int .i64 1, .int .i64 ((x0.getD st1.2.2.toNat []).getD st2.2.2.toNat (0, false)).1, .int .i64 0]), (51, .arr 119 (.pair (.int .i64) (.pair (.int .i64) (.int .i64))) st2.2.1), (56, .arr 117 (.sl (.pair (.int .i64) (.pair (.int .i64) (.int .i64)))) st1.1)] ?_
         refine zQ h (fun hb24 h => ?_) (fun hb24 h => ?_)
         ·refine zo ?_
          obtain ⟨c25, h⟩ := ck_some.1 h
          obtain ⟨c26, h⟩ := ck_some.1 h
          refine zS 5 [(1, .sl (.pair (.int .i64) (.int .i64)) fences), (5, .own 56), (6, .int .i64 st2.1), (7, .int .i64 st1.2.2), (9, .own 51), (10, .int .i64 st2.2.2), (12, .bp 12 0), (13, .sl (.sl (.pair (.int .i64) .bool)) x0), (14, .int .i64 (x0.length : Int)), (15, .int .i64 st1.2.2), (20, .sl (.pair (.int .i64) .bool) (x0.getD st1.2.2.toNat [])), (21, .int .i64 ((x0.getD st1.2.2.toNat []).length : Int)), (22, .int .i64 st2.2.2), (34, .int .i64 ((st2.1 % 3) + 1))] [(12, .box 119 [.int .i64 2, .int .i64 ((x0.getD st1.2.2.toNat []).getD st2.2.2.toNat (0, false)).1, .int .i64 0]), (51, .arr 119 (.pair (.int .i64) (.pair (.int .i64) (.int .i64))) st2.2.1), (56, .arr 117 (.sl (.pair (.int .i64) (.pair (.int .i64) (.int .i64)))) st1.1)] ?_
          refine zB [(1, .sl (.pair (.int .i64) (.int .i64)) fences), (5, .own 56), (6, .int .i64 st2.1), (7, .int .i64 st1.2.2), (9, .own 51), (10, .int .i64 st2.2.2), (12, .bp 12 0), (13, .sl (.sl (.pair (.int .i64) .bool)) x0), (14, .int .i64 (x0.length : Int)), (15, .int .i64 st1.2.2), (20, .sl (.pair (.int .i64) .bool) (x0.getD st1.2.2.toNat [])), (21, .int .i64 ((x0.getD st1.2.2.toNat []).length : Int)), (22, .int .i64 st2.2.2)] [(12, .box 119 [.int .i64 2, .int .i64 ((x0.getD st1.2.2.toNat []).getD st2.2.2.toNat (0, false)).1, .int .i64 ((st2.1 % 3) + 1)]), (51, .arr 119 (.pair (.int .i64) (.pair (.int .i64) (.int .i64))) st2.2.1), (56, .arr 117 (.sl (.pair (.int .i64) (.pair (.int .i64) (.int .i64)))) st1.1)] ?_
          refine AW.ops ?_
          obtain ⟨c27, h⟩ := ck_some.1 h
          refine zB [(1, .sl (.pair (.int .i64) (.int .i64)) fences), (5, .own 56), (6, .int .i64 (st2.1 + 1)), (7, .int .i64 st1.2.2), (9, .own 51), (10, .int .i64 st2.2.2), (12, .bp 12 0), (13, .sl (.sl (.pair (.int .i64) .bool)) x0), (14, .int .i64 (x0.length : Int)), (15, .int .i64 st1.2.2), (20, .sl (.pair (.int .i64) .bool) (x0.getD st1.2.2.toNat [])), (21, .int .i64 ((x0.getD st1.2.2.toNat []).length : Int)), (22, .int .i64 st2.2.2)] [(12, .box 119 [.int .i64 2, .int .i64 ((x0.getD st1.2.2.toNat []).getD st2.2.2.toNat (0, false)).1, .int .i64 ((st2.1 % 3) + 1)]), (51, .arr 119 (.pair (.int .i64) (.pair (.int .i64) (.int .i64))) st2.2.1), (56, .arr 117 (.sl (.pair (.int .i64) (.pair (.int .i64) (.int .i64)))) st1.1)] ?_
          refine zo ?_
          obtain ⟨c28, h⟩ := ck_some.1 h
          refine zB [(1, .sl (.pair (.int .i64) (.int .i64)) fences), (5, .own 56), (6, .int .i64 (st2.1 + 1)), (7, .int .i64 st1.2.2), (9, .own 42), (10, .int .i64 st2.2.2), (13, .sl (.sl (.pair (.int .i64) .bool)) x0), (14, .int .i64 (x0.length : Int)), (15, .int .i64 st1.2.2), (20, .sl (.pair (.int .i64) .bool) (x0.getD st1.2.2.toNat [])), (21, .int .i64 ((x0.getD st1.2.2.toNat []).length : Int)), (22, .int .i64 st2.2.2)] [(42, .arr 119 (.pair (.int .i64) (.pair (.int .i64) (.int .i64))) (st2.2.1 ++ [(2, ((x0.getD st1.2.2.toNat []).getD st2.2.2.toNat (0, false)).1, ((st2.1 % 3) + 1))])), (56, .arr 117 (.sl (.pair (.int .i64) (.pair (.int .i64) (.int .i64)))) st1.1)] ?_
          exact AW.weaken (zL [] [] []) (hk_delay_accesses_program_k4 _ h)
         ·refine zk ?_
          refine zo ?_
          obtain ⟨c29, h⟩ := ck_some.1 h
          refine zB [(1, .sl (.pair (.int .i64) (.int .i64)) fences), (5, .own 56), (6, .int .i64 st2.1), (7, .int .i64 st1.2.2), (9, .own 42), (10, .int .i64 st2.2.2), (13, .sl (.sl (.pair (.int .i64) .bool)) x0), (14, .int .i64 (x0.length : Int)), (15, .int .i64 st1.2.2), (20, .sl (.pair (.int .i64) .bool) (x0.getD st1.2.2.toNat [])), (21, .int .i64 ((x0.getD st1.2.2.toNat []).length : Int)), (22, .int .i64 st2.2.2)] [(42, .arr 119 (.pair (.int .i64) (.pair (.int .i64) (.int .i64))) (st2.2.1 ++ [(1, ((x0.getD st1.2.2.toNat []).getD st2.2.2.toNat (0, false)).1, 0)])), (56, .arr 117 (.sl (.pair (.int .i64) (.pair (.int .i64) (.int .i64)))) st1.1)] ?_
          exact AW.weaken (zL [] [] []) (hk_delay_accesses_program_k4 _ h)
       ·refine AW.exit ?_
        refine athen_e ?_
        obtain rfl := Option.some.inj h
        rw [← hd13 _ rfl] at ho12
        have h := ho12
        refine athen_e ?_
        refine ablock_s ?_
        refine athen_n ?_
        exact AW.weaken (zL [] [] []) (hk_delay_accesses_program_k3 _ h)
   ·refine AW.exit ?_
    refine athen_e ?_
    obtain rfl := Option.some.inj h
    rw [← hd3 _ rfl] at ho2
    have h := ho2
    refine athen_e ?_
    refine ablock_s ?_
    refine athen_n ?_
    exact AW.weaken (zL [] [] []) (hk_delay_accesses_program_k1 _ h)

theorem hc_delay_Program (x0 : List (List (Int × Bool))) (fences : List (Int × Int)) {r : (List (List (Int × Int × Int))) × Int} (h : delay_Program x0 fences = some r) : HC Try.prog 48 [] [.sl (.sl (.pair (.int .i64) .bool)) x0, .sl (.pair (.int .i64) (.int .i64)) fences] [(2000, .arr 117 (.sl (.pair (.int .i64) (.pair (.int .i64) (.int .i64)))) r.1)] (.tup [.own 2000, .int .i64 r.2]) := by
 unfold delay_Program at h
 refine zH Try.func48 [.tmp 4, .tmp 5] 24 ?_
 refine zo ?_
 refine zB [(0, .sl (.sl (.pair (.int .i64) .bool)) x0), (1, .sl (.pair (.int .i64) (.int .i64)) fences)] [] ?_
 refine zo ?_
 refine zS 2 [(1, .sl (.pair (.int .i64) (.int .i64)) fences), (9, .sl (.sl (.pair (.int .i64) .bool)) x0), (10, .sl (.pair (.int .i64) (.int .i64)) fences)] [] ?_
 obtain ⟨v0, hv1, h⟩ := Option.bind_eq_some_iff.1 h
 refine zC [] [] (hc_delay_fenced x0 fences hv1) [(1, .sl (.pair (.int .i64) (.int .i64)) fences), (11, .tup [.sl (.sl (.pair (.int .i64) .bool)) v0.1, .int .i64 v0.2])] [] ?_
 refine zB [(1, .sl (.pair (.int .i64) (.int .i64)) fences), (6, .sl (.sl (.pair (.int .i64) .bool)) v0.1), (7, .int .i64 v0.2)] [] ?_
 refine AW.seq ?_
 refine zo ?_
 refine zB [(1, .sl (.pair (.int .i64) (.int .i64)) fences), (6, .sl (.sl (.pair (.int .i64) .bool)) v0.1), (7, .int .i64 v0.2), (15, .bool (!(decide (v0.2 = 0))))] [] ?_
 refine zQ h (fun hb2 h => ?_) (fun hb2 h => ?_)
 ·refine zo ?_
  refine zB [(4, .cv (.slice none 0 0)), (5, .int .i64 v0.2)] [] ?_
  refine zr ?_
  obtain rfl := Option.some.inj h
  exact zR [] [2000] []
 ·refine zk ?_
  refine AW.seq ?_
  refine zo ?_
  refine zS 1 [(1, .sl (.pair (.int .i64) (.int .i64)) fences), (6, .sl (.sl (.pair (.int .i64) .bool)) v0.1), (17, .sl (.sl (.pair (.int .i64) .bool)) v0.1)] [] ?_
  obtain ⟨v0_2, hv3, h⟩ := Option.bind_eq_some_iff.1 h
  refine zC [] [] (hc_slices_Concat v0.1 hv3) [(1, .sl (.pair (.int .i64) (.int .i64)) fences), (6, .sl (.sl (.pair (.int .i64) .bool)) v0.1), (18, .own 28000)] [(28000, .arr 76 (.pair (.int .i64) .bool) v0_2)] ?_
  refine zB [(1, .sl (.pair (.int .i64) (.int .i64)) fences), (6, .sl (.sl (.pair (.int .i64) .bool)) v0.1), (20, .bool (decide (8 < (v0_2.length : Int))))] [] ?_
  refine zQ h (fun hb4 h => ?_) (fun hb4 h => ?_)
  ·refine zo ?_
   refine zB [(4, .cv (.slice none 0 0)), (5, .int .i64 2)] [] ?_
   refine zr ?_
   obtain rfl := Option.some.inj h
   exact zR [] [2000] []
  ·refine zk ?_
   refine zo ?_
   refine zS 2 [(21, .sl (.sl (.pair (.int .i64) .bool)) v0.1), (22, .sl (.pair (.int .i64) (.int .i64)) fences)] [] ?_
   obtain ⟨v0_3, hv5, h⟩ := Option.bind_eq_some_iff.1 h
   refine zC [] [] (hc_delay_accesses_program v0.1 fences hv5) [(23, .own 33000)] [(33000, .arr 117 (.sl (.pair (.int .i64) (.pair (.int .i64) (.int .i64)))) v0_3)] ?_
   refine zB [(4, .own 33000), (5, .int .i64 0)] [(33000, .arr 117 (.sl (.pair (.int .i64) (.pair (.int .i64) (.int .i64)))) v0_3)] ?_
   refine AW.ret ?_
   obtain rfl := Option.some.inj h
   exact zR [] [] [(2000, 33000)]

end Go.Proofs.Ytdicomoggfhbfaa
