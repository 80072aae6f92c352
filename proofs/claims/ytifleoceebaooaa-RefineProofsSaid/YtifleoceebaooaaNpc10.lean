/-
  Made by wip/tool/dc.py out of the print of the program: contracts.
-/
import Derived.Test.YtifleoceebaooaaRfp
import Derived.Test.YtifleoceebaooaaShr
import Derived.Test.YtifleoceebaooaaAvd
import Derived.Test.YtifleoceebaooaaNpc4
import Derived.Test.YtifleoceebaooaaNpc8
import Derived.Test.YtifleoceebaooaaNpc9
namespace Go.Proofs.Ytifleoceebaooaa
open Go.RowKit

set_option linter.unusedSimpArgs false
set_option linter.unusedVariables false
set_option linter.constructorNameAsVariable false

set_option maxRecDepth 100000
set_option maxHeartbeats 2000000

theorem hc_linealref05_best (c : Int × (List (Int × Int × Int))) (a : Int × (List (Int × Int × Int))) {r : (List Int)} (h : linealref05_best c a = some r) : HC Try.prog 84 [] [.agg [.int .i64 c.1, .sl (.pair (.int .i64) (.pair (.int .i64) (.int .i64))) c.2], .agg [.int .i64 a.1, .sl (.pair (.int .i64) (.pair (.int .i64) (.int .i64))) a.2]] [(2000, .arr 3 (.int .i64) r)] (.own 2000) := by
 unfold linealref05_best at h
 refine zH Try.func84 [.tmp 4] 67 ?_
 refine zo ?_
 refine zB [(2, .bp 2 0), (3, .bp 3 0)] [(2, .box 24 [.int .i64 c.1, .sl (.pair (.int .i64) (.pair (.int .i64) (.int .i64))) c.2]), (3, .box 24 [.int .i64 a.1, .sl (.pair (.int .i64) (.pair (.int .i64) (.int .i64))) a.2])] ?_
 refine zo ?_
 obtain ⟨c1, h⟩ := ck_some.1 h
 obtain ⟨c2, h⟩ := ck_some.1 h
 refine zB [(2, .bp 2 0), (3, .bp 3 0), (5, .own 12)] [(2, .box 24 [.int .i64 c.1, .sl (.pair (.int .i64) (.pair (.int .i64) (.int .i64))) c.2]), (3, .box 24 [.int .i64 a.1, .sl (.pair (.int .i64) (.pair (.int .i64) (.int .i64))) a.2]), (12, .arr 3 (.int .i64) (List.replicate c.1.toNat (0 : Int)))] ?_
 refine AW.have1 (fun b1 : (List Int) => linealref05_best_k1 c a b1 = some r) (fun b1 => ⟨fr [(2, .bp 2 0), (3, .bp 3 0), (5, .own 12)], hpGet [(2, .box 24 [.int .i64 c.1, .sl (.pair (.int .i64) (.pair (.int .i64) (.int .i64))) c.2]), (3, .box 24 [.int .i64 a.1, .sl (.pair (.int .i64) (.pair (.int .i64) (.int .i64))) a.2]), (12, .arr 3 (.int .i64) b1)], gt⟩) (fun b1 h => ?_) (fun hk_linealref05_best_k1 => ?_)
 ·as_aux_lemma =>
   unfold linealref05_best_k1 at h
   refine AW.have1 (fun b4_3 : (List Int) => linealref05_best_k2 b4_3 = some r) (fun b4_3 => ⟨fr [(5, .own 12)], hpGet [(12, .arr 3 (.int .i64) b4_3)], gt⟩) (fun b4_3 h => ?_) (fun hk_linealref05_best_k2 => ?_)
   ·as_aux_lemma =>
     unfold linealref05_best_k2 at h
     refine zo ?_
     refine zB [(4, .own 12)] [(12, .arr 3 (.int .i64) b4_3)] ?_
     refine AW.ret ?_
     obtain rfl := Option.some.inj h
     exact zR [] [] [(2000, 12)]
   ·refine AW.seq ?_
    refine zo ?_
    obtain ⟨c3, h⟩ := ck_some.1 h
    refine zS 5 [(2, .bp 2 0), (3, .bp 3 0), (5, .own 12), (30, .int .i64 (c.1 * a.1))] [(2, .box 24 [.int .i64 c.1, .sl (.pair (.int .i64) (.pair (.int .i64) (.int .i64))) c.2]), (3, .box 24 [.int .i64 a.1, .sl (.pair (.int .i64) (.pair (.int .i64) (.int .i64))) a.2]), (12, .arr 3 (.int .i64) b1)] ?_
    refine zB [(2, .bp 2 0), (3, .bp 3 0), (5, .own 12), (30, .int .i64 (c.1 * a.1)), (31, .int .i64 0)] [(2, .box 24 [.int .i64 c.1, .sl (.pair (.int .i64) (.pair (.int .i64) (.int .i64))) c.2]), (3, .box 24 [.int .i64 a.1, .sl (.pair (.int .i64) (.pair (.int .i64) (.int .i64))) a.2]), (12, .arr 3 (.int .i64) b1)] ?_
    refine AW.block ?_
    obtain ⟨rv8, hw4, ho5⟩ := Option.bind_eq_some_iff.1 h
    refine AW.loopO (linealref05_best_b2 c a) (fun st2 => ⟨fr [(2, .bp 2 0), (3, .bp 3 0), (5, .own 12), (30, .int .i64 (c.1 * a.1)), (31, .int .i64 st2.2)], hpGet [(2, .box 24 [.int .i64 c.1, .sl (.pair (.int .i64) (.pair (.int .i64) (.int .i64))) c.2]), (3, .box 24 [.int .i64 a.1, .sl (.pair (.int .i64) (.pair (.int .i64) (.int .i64))) a.2]), (12, .arr 3 (.int .i64) st2.1)], gt⟩) (b1, 0) hw4 (zL [] [] []) ?_
    as_aux_lemma =>
     intro st2 x7 h hd6
     unfold linealref05_best_b2 at h
     refine zo ?_
     refine zB [(2, .bp 2 0), (3, .bp 3 0), (5, .own 12), (30, .int .i64 (c.1 * a.1)), (31, .int .i64 st2.2), (32, .bool (decide (st2.2 < (c.1 * a.1))))] [(2, .box 24 [.int .i64 c.1, .sl (.pair (.int .i64) (.pair (.int .i64) (.int .i64))) c.2]), (3, .box 24 [.int .i64 a.1, .sl (.pair (.int .i64) (.pair (.int .i64) (.int .i64))) a.2]), (12, .arr 3 (.int .i64) st2.1)] ?_
     refine AW.seq ?_
     refine zQ h (fun hb9 h => ?_) (fun hb9 h => ?_)
     ·refine zk ?_
      refine AW.have1 (fun b4_2 : (List Int) => linealref05_best_k3 st2 b4_2 = some x7) (fun b4_2 => ⟨fr [(2, .bp 2 0), (3, .bp 3 0), (5, .own 12), (30, .int .i64 (c.1 * a.1)), (31, .int .i64 st2.2)], hpGet [(2, .box 24 [.int .i64 c.1, .sl (.pair (.int .i64) (.pair (.int .i64) (.int .i64))) c.2]), (3, .box 24 [.int .i64 a.1, .sl (.pair (.int .i64) (.pair (.int .i64) (.int .i64))) a.2]), (12, .arr 3 (.int .i64) b4_2)], gt⟩) (fun b4_2 h => ?_) (fun hk_linealref05_best_k3 => ?_)
      ·as_aux_lemma =>
        unfold linealref05_best_k3 at h
        refine AW.ops ?_
        obtain ⟨c10, h⟩ := ck_some.1 h
        refine zA [(2, .bp 2 0), (3, .bp 3 0), (5, .own 12), (30, .int .i64 (c.1 * a.1)), (31, .int .i64 (st2.2 + 1))] [(2, .box 24 [.int .i64 c.1, .sl (.pair (.int .i64) (.pair (.int .i64) (.int .i64))) c.2]), (3, .box 24 [.int .i64 a.1, .sl (.pair (.int .i64) (.pair (.int .i64) (.int .i64))) a.2]), (12, .arr 3 (.int .i64) b4_2)] ?_
        obtain rfl := Option.some.inj h
        exact ⟨_, rfl, zL [] [] []⟩
      ·refine AW.seq ?_
       refine AW.block ?_
       refine zo ?_
       refine zB [(2, .bp 2 0), (3, .bp 3 0), (5, .own 12), (30, .int .i64 (c.1 * a.1)), (31, .int .i64 st2.2), (34, .int .i64 (st2.1.length : Int)), (35, .int .i64 0)] [(2, .box 24 [.int .i64 c.1, .sl (.pair (.int .i64) (.pair (.int .i64) (.int .i64))) c.2]), (3, .box 24 [.int .i64 a.1, .sl (.pair (.int .i64) (.pair (.int .i64) (.int .i64))) a.2]), (12, .arr 3 (.int .i64) st2.1)] ?_
       refine AW.block ?_
       obtain ⟨rv15, hw11, ho12⟩ := Option.bind_eq_some_iff.1 h
       refine AW.loopO (linealref05_best_b3 c a st2) (fun st3 => ⟨fr [(2, .bp 2 0), (3, .bp 3 0), (5, .own 12), (30, .int .i64 (c.1 * a.1)), (31, .int .i64 st2.2), (34, .int .i64 (st2.1.length : Int)), (35, .int .i64 st3.2)], hpGet [(2, .box 24 [.int .i64 c.1, .sl (.pair (.int .i64) (.pair (.int .i64) (.int .i64))) c.2]), (3, .box 24 [.int .i64 a.1, .sl (.pair (.int .i64) (.pair (.int .i64) (.int .i64))) a.2]), (12, .arr 3 (.int .i64) st3.1)], gt⟩) (st2.1, 0) hw11 (zL [] [] []) ?_
       as_aux_lemma =>
        intro st3 x14 h hd13
        unfold linealref05_best_b3 at h
        refine zo ?_
        refine zB [(2, .bp 2 0), (3, .bp 3 0), (5, .own 12), (30, .int .i64 (c.1 * a.1)), (31, .int .i64 st2.2), (34, .int .i64 (st2.1.length : Int)), (35, .int .i64 st3.2), (36, .bool (decide (st3.2 < (st2.1.length : Int))))] [(2, .box 24 [.int .i64 c.1, .sl (.pair (.int .i64) (.pair (.int .i64) (.int .i64))) c.2]), (3, .box 24 [.int .i64 a.1, .sl (.pair (.int .i64) (.pair (.int .i64) (.int .i64))) a.2]), (12, .arr 3 (.int .i64) st3.1)] ?_
        refine AW.seq ?_
        refine zQ h (fun hb16 h => ?_) (fun hb16 h => ?_)
        ·refine zk ?_
         refine AW.have1 (fun b4 : (List Int) => linealref05_best_k4 st3 b4 = some x14) (fun b4 => ⟨fr [(2, .bp 2 0), (3, .bp 3 0), (5, .own 12), (30, .int .i64 (c.1 * a.1)), (31, .int .i64 st2.2), (34, .int .i64 (st2.1.length : Int)), (35, .int .i64 st3.2)], hpGet [(2, .box 24 [.int .i64 c.1, .sl (.pair (.int .i64) (.pair (.int .i64) (.int .i64))) c.2]), (3, .box 24 [.int .i64 a.1, .sl (.pair (.int .i64) (.pair (.int .i64) (.int .i64))) a.2]), (12, .arr 3 (.int .i64) b4)], gt⟩) (fun b4 h => ?_) (fun hk_linealref05_best_k4 => ?_)
         ·as_aux_lemma =>
           unfold linealref05_best_k4 at h
           refine AW.ops ?_
           obtain ⟨c17, h⟩ := ck_some.1 h
           refine zA [(2, .bp 2 0), (3, .bp 3 0), (5, .own 12), (30, .int .i64 (c.1 * a.1)), (31, .int .i64 st2.2), (34, .int .i64 (st2.1.length : Int)), (35, .int .i64 (st3.2 + 1))] [(2, .box 24 [.int .i64 c.1, .sl (.pair (.int .i64) (.pair (.int .i64) (.int .i64))) c.2]), (3, .box 24 [.int .i64 a.1, .sl (.pair (.int .i64) (.pair (.int .i64) (.int .i64))) a.2]), (12, .arr 3 (.int .i64) b4)] ?_
           obtain rfl := Option.some.inj h
           exact ⟨_, rfl, zL [] [] []⟩
         ·refine AW.seq ?_
          refine AW.block ?_
          refine zo ?_
          refine zB [(2, .bp 2 0), (3, .bp 3 0), (5, .own 12), (7, .int .i64 st3.2), (30, .int .i64 (c.1 * a.1)), (31, .int .i64 st2.2), (34, .int .i64 (st2.1.length : Int)), (35, .int .i64 st3.2)] [(2, .box 24 [.int .i64 c.1, .sl (.pair (.int .i64) (.pair (.int .i64) (.int .i64))) c.2]), (3, .box 24 [.int .i64 a.1, .sl (.pair (.int .i64) (.pair (.int .i64) (.int .i64))) a.2]), (12, .arr 3 (.int .i64) st3.1)] ?_
          refine zo ?_
          obtain ⟨c18, h⟩ := ck_some.1 h
          obtain ⟨c19, h⟩ := ck_some.1 h
          refine zS 4 [(2, .bp 2 0), (3, .bp 3 0), (5, .own 12), (7, .int .i64 st3.2), (30, .int .i64 (c.1 * a.1)), (31, .int .i64 st2.2), (34, .int .i64 (st2.1.length : Int)), (35, .int .i64 st3.2), (41, .int .i64 (st3.1.getD st3.2.toNat 0))] [(2, .box 24 [.int .i64 c.1, .sl (.pair (.int .i64) (.pair (.int .i64) (.int .i64))) c.2]), (3, .box 24 [.int .i64 a.1, .sl (.pair (.int .i64) (.pair (.int .i64) (.int .i64))) a.2]), (12, .arr 3 (.int .i64) st3.1)] ?_
          obtain ⟨v0, hv20, h⟩ := Option.bind_eq_some_iff.1 h
          refine zC [] [] (hc_linealref05_list (st3.1.getD st3.2.toNat 0) hv20) [(2, .bp 2 0), (3, .bp 3 0), (5, .own 12), (7, .int .i64 st3.2), (30, .int .i64 (c.1 * a.1)), (31, .int .i64 st2.2), (34, .int .i64 (st2.1.length : Int)), (35, .int .i64 st3.2), (42, .own 52000)] [(2, .box 24 [.int .i64 c.1, .sl (.pair (.int .i64) (.pair (.int .i64) (.int .i64))) c.2]), (3, .box 24 [.int .i64 a.1, .sl (.pair (.int .i64) (.pair (.int .i64) (.int .i64))) a.2]), (12, .arr 3 (.int .i64) st3.1), (52000, .arr 3 (.int .i64) v0)] ?_
          refine zB [(2, .bp 2 0), (3, .bp 3 0), (5, .own 12), (7, .int .i64 st3.2), (30, .int .i64 (c.1 * a.1)), (31, .int .i64 st2.2), (34, .int .i64 (st2.1.length : Int)), (35, .int .i64 st3.2), (42, .own 52000), (43, .int .i64 (v0.length : Int)), (44, .int .i64 0)] [(2, .box 24 [.int .i64 c.1, .sl (.pair (.int .i64) (.pair (.int .i64) (.int .i64))) c.2]), (3, .box 24 [.int .i64 a.1, .sl (.pair (.int .i64) (.pair (.int .i64) (.int .i64))) a.2]), (12, .arr 3 (.int .i64) st3.1), (52000, .arr 3 (.int .i64) v0)] ?_
          refine AW.block ?_
          obtain ⟨rv25, hw21, ho22⟩ := Option.bind_eq_some_iff.1 h
          refine AW.loopO (linealref05_best_b4 c a st3 v0) (fun st4 => ⟨fr [(2, .bp 2 0), (3, .bp 3 0), (5, .own 12), (7, .int .i64 st3.2), (30, .int .i64 (c.1 * a.1)), (31, .int .i64 st2.2), (34, .int .i64 (st2.1.length : Int)), (35, .int .i64 st3.2), (42, .own 52000), (43, .int .i64 (v0.length : Int)), (44, .int .i64 st4.2)], hpGet [(2, .box 24 [.int .i64 c.1, .sl (.pair (.int .i64) (.pair (.int .i64) (.int .i64))) c.2]), (3, .box 24 [.int .i64 a.1, .sl (.pair (.int .i64) (.pair (.int .i64) (.int .i64))) a.2]), (12, .arr 3 (.int .i64) st4.1), (52000, .arr 3 (.int .i64) v0)], gt⟩) (st3.1, 0) hw21 (zL [] [] []) ?_
          as_aux_lemma =>
           intro st4 x24 h hd23
           unfold linealref05_best_b4 at h
           refine zo ?_
           refine zB [(2, .bp 2 0), (3, .bp 3 0), (5, .own 12), (7, .int .i64 st3.2), (30, .int .i64 (c.1 * a.1)), (31, .int .i64 st2.2), (34, .int .i64 (st2.1.length : Int)), (35, .int .i64 st3.2), (42, .own 52000), (43, .int .i64 (v0.length : Int)), (44, .int .i64 st4.2), (45, .bool (decide (st4.2 < (v0.length : Int))))] [(2, .box 24 [.int .i64 c.1, .sl (.pair (.int .i64) (.pair (.int .i64) (.int .i64))) c.2]), (3, .box 24 [.int .i64 a.1, .sl (.pair (.int .i64) (.pair (.int .i64) (.int .i64))) a.2]), (12, .arr 3 (.int .i64) st4.1), (52000, .arr 3 (.int .i64) v0)] ?_
           refine AW.seq ?_
           refine zQ h (fun hb26 h => ?_) (fun hb26 h => ?_)
           ·refine zk ?_
            refine AW.seq ?_
            refine AW.block ?_
            refine zo ?_
            obtain ⟨c27, h⟩ := ck_some.1 h
            obtain ⟨c28, h⟩ := ck_some.1 h
            refine zB [(2, .bp 2 0), (3, .bp 3 0), (5, .own 12), (7, .int .i64 st3.2), (9, .int .i64 (v0.getD st4.2.toNat 0)), (30, .int .i64 (c.1 * a.1)), (31, .int .i64 st2.2), (34, .int .i64 (st2.1.length : Int)), (35, .int .i64 st3.2), (42, .own 52000), (43, .int .i64 (v0.length : Int)), (44, .int .i64 st4.2)] [(2, .box 24 [.int .i64 c.1, .sl (.pair (.int .i64) (.pair (.int .i64) (.int .i64))) c.2]), (3, .box 24 [.int .i64 a.1, .sl (.pair (.int .i64) (.pair (.int .i64) (.int .i64))) a.2]), (12, .arr 3 (.int .i64) st4.1), (52000, .arr 3 (.int .i64) v0)] ?_
            refine zo ?_
            refine zS 5 [(2, .bp 2 0), (3, .bp 3 0), (5, .own 12), (7, .int .i64 st3.2), (9, .int .i64 (v0.getD st4.2.toNat 0)), (30, .int .i64 (c.1 * a.1)), (31, .int .i64 st2.2), (34, .int .i64 (st2.1.length : Int)), (35, .int .i64 st3.2), (42, .own 52000), (43, .int .i64 (v0.length : Int)), (44, .int .i64 st4.2), (48, .agg [.int .i64 c.1, .sl (.pair (.int .i64) (.pair (.int .i64) (.int .i64))) c.2]), (49, .agg [.int .i64 a.1, .sl (.pair (.int .i64) (.pair (.int .i64) (.int .i64))) a.2]), (50, .own 12), (51, .int .i64 st3.2), (52, .int .i64 (v0.getD st4.2.toNat 0))] [(2, .box 24 [.int .i64 c.1, .sl (.pair (.int .i64) (.pair (.int .i64) (.int .i64))) c.2]), (3, .box 24 [.int .i64 a.1, .sl (.pair (.int .i64) (.pair (.int .i64) (.int .i64))) a.2]), (12, .arr 3 (.int .i64) st4.1), (52000, .arr 3 (.int .i64) v0)] ?_
            obtain ⟨v0_2, hv29, h⟩ := Option.bind_eq_some_iff.1 h
            refine zC [12] [] (hc_linealref05_holds c a st4.1 st3.2 (v0.getD st4.2.toNat 0) hv29) [(2, .bp 2 0), (3, .bp 3 0), (5, .own 12), (7, .int .i64 st3.2), (9, .int .i64 (v0.getD st4.2.toNat 0)), (30, .int .i64 (c.1 * a.1)), (31, .int .i64 st2.2), (34, .int .i64 (st2.1.length : Int)), (35, .int .i64 st3.2), (42, .own 52000), (43, .int .i64 (v0.length : Int)), (44, .int .i64 st4.2), (53, .bool v0_2)] [(2, .box 24 [.int .i64 c.1, .sl (.pair (.int .i64) (.pair (.int .i64) (.int .i64))) c.2]), (3, .box 24 [.int .i64 a.1, .sl (.pair (.int .i64) (.pair (.int .i64) (.int .i64))) a.2]), (12, .arr 3 (.int .i64) st4.1), (52000, .arr 3 (.int .i64) v0)] ?_
            refine zB [(2, .bp 2 0), (3, .bp 3 0), (5, .own 12), (7, .int .i64 st3.2), (9, .int .i64 (v0.getD st4.2.toNat 0)), (30, .int .i64 (c.1 * a.1)), (31, .int .i64 st2.2), (34, .int .i64 (st2.1.length : Int)), (35, .int .i64 st3.2), (42, .own 52000), (43, .int .i64 (v0.length : Int)), (44, .int .i64 st4.2), (54, .bool (!v0_2))] [(2, .box 24 [.int .i64 c.1, .sl (.pair (.int .i64) (.pair (.int .i64) (.int .i64))) c.2]), (3, .box 24 [.int .i64 a.1, .sl (.pair (.int .i64) (.pair (.int .i64) (.int .i64))) a.2]), (12, .arr 3 (.int .i64) st4.1), (52000, .arr 3 (.int .i64) v0)] ?_
            refine zQ h (fun hb30 h => ?_) (fun hb30 h => ?_)
            ·refine AW.draw tab_ok mixed_ok [(8, [12])] [] (by decide) (lex_fast (by kernel_rfl)) ?_
             as_aux_lemma =>
              obtain ⟨c32, h⟩ := ck_some.1 h
              obtain ⟨c33, h⟩ := ck_some.1 h
              obtain ⟨c34, h⟩ := ck_some.1 h
              refine adops_cut 6 (fun K' hK31 => ?_)
              try dsimp only [List.drop_succ_cons, List.drop_zero, List.take_succ_cons, List.take_zero]
              simp only [go_sem, hb9, hb16, hb26, hb30]
              repeat with_reducible refine zN ?_
              refine hK31 _ ?_
              as_aux_lemma =>
               obtain ⟨c36, h⟩ := ck_some.1 h
               obtain ⟨c37, h⟩ := ck_some.1 h
               refine adops_cut 3 (fun K' hK35 => ?_)
               try dsimp only [List.drop_succ_cons, List.drop_zero, List.take_succ_cons, List.take_zero]
               simp only [go_sem, hb9, hb16, hb26, hb30]
               repeat with_reducible refine zN ?_
               refine hK35 _ ?_
               refine adops_nil ?_
               refine ablock_n ?_
               refine athen_n ?_
               refine zV [(2, .bp 2 0), (3, .bp 3 0), (5, .own 12), (7, .int .i64 st3.2), (30, .int .i64 (c.1 * a.1)), (31, .int .i64 st2.2), (34, .int .i64 (st2.1.length : Int)), (35, .int .i64 st3.2), (42, .own 52000), (43, .int .i64 (v0.length : Int)), (44, .int .i64 st4.2)] [(2, .box 24 [.int .i64 c.1, .sl (.pair (.int .i64) (.pair (.int .i64) (.int .i64))) c.2]), (3, .box 24 [.int .i64 a.1, .sl (.pair (.int .i64) (.pair (.int .i64) (.int .i64))) a.2]), (12, .arr 3 (.int .i64) (st4.1.set st3.2.toNat (iandn .i64 (st4.1.getD st3.2.toNat 0) (ishl .i64 1 (v0.getD st4.2.toNat 0))))), (52000, .arr 3 (.int .i64) v0)] gt ?_
               as_aux_lemma =>
                refine AW.ops ?_
                obtain ⟨c38, h⟩ := ck_some.1 h
                refine zA [(2, .bp 2 0), (3, .bp 3 0), (5, .own 12), (7, .int .i64 st3.2), (30, .int .i64 (c.1 * a.1)), (31, .int .i64 st2.2), (34, .int .i64 (st2.1.length : Int)), (35, .int .i64 st3.2), (42, .own 52000), (43, .int .i64 (v0.length : Int)), (44, .int .i64 (st4.2 + 1))] [(2, .box 24 [.int .i64 c.1, .sl (.pair (.int .i64) (.pair (.int .i64) (.int .i64))) c.2]), (3, .box 24 [.int .i64 a.1, .sl (.pair (.int .i64) (.pair (.int .i64) (.int .i64))) a.2]), (12, .arr 3 (.int .i64) (st4.1.set st3.2.toNat (iandn .i64 (st4.1.getD st3.2.toNat 0) (ishl .i64 1 (v0.getD st4.2.toNat 0))))), (52000, .arr 3 (.int .i64) v0)] ?_
                obtain rfl := Option.some.inj h
                exact ⟨_, rfl, zL [] [] []⟩
            ·refine zm ?_
             refine athen_n ?_
             refine AW.ops ?_
             obtain ⟨c39, h⟩ := ck_some.1 h
             refine zA [(2, .bp 2 0), (3, .bp 3 0), (5, .own 12), (7, .int .i64 st3.2), (30, .int .i64 (c.1 * a.1)), (31, .int .i64 st2.2), (34, .int .i64 (st2.1.length : Int)), (35, .int .i64 st3.2), (42, .own 52000), (43, .int .i64 (v0.length : Int)), (44, .int .i64 (st4.2 + 1))] [(2, .box 24 [.int .i64 c.1, .sl (.pair (.int .i64) (.pair (.int .i64) (.int .i64))) c.2]), (3, .box 24 [.int .i64 a.1, .sl (.pair (.int .i64) (.pair (.int .i64) (.int .i64))) a.2]), (12, .arr 3 (.int .i64) st4.1), (52000, .arr 3 (.int .i64) v0)] ?_
             obtain rfl := Option.some.inj h
             exact ⟨_, rfl, zL [] [] []⟩
           ·refine AW.exit ?_
            refine athen_e ?_
            obtain rfl := Option.some.inj h
            rw [← hd23 _ rfl] at ho22
            have h := ho22
            refine athen_e ?_
            refine ablock_s ?_
            refine ablock_n ?_
            refine athen_n ?_
            exact AW.weaken (zL [] [] []) (hk_linealref05_best_k4 _ h)
        ·refine AW.exit ?_
         refine athen_e ?_
         obtain rfl := Option.some.inj h
         rw [← hd13 _ rfl] at ho12
         have h := ho12
         refine athen_e ?_
         refine ablock_s ?_
         refine ablock_n ?_
         refine athen_n ?_
         exact AW.weaken (zL [] [] []) (hk_linealref05_best_k3 _ h)
     ·refine AW.exit ?_
      refine athen_e ?_
      obtain rfl := Option.some.inj h
      rw [← hd6 _ rfl] at ho5
      have h := ho5
      refine athen_e ?_
      refine ablock_s ?_
      refine athen_n ?_
      exact AW.weaken (zL [] [] []) (hk_linealref05_best_k2 _ h)
 ·refine AW.seq ?_
  refine zo ?_
  refine zB [(2, .bp 2 0), (3, .bp 3 0), (5, .own 12), (14, .int .i64 ((List.replicate c.1.toNat (0 : Int)).length : Int)), (15, .int .i64 0)] [(2, .box 24 [.int .i64 c.1, .sl (.pair (.int .i64) (.pair (.int .i64) (.int .i64))) c.2]), (3, .box 24 [.int .i64 a.1, .sl (.pair (.int .i64) (.pair (.int .i64) (.int .i64))) a.2]), (12, .arr 3 (.int .i64) (List.replicate c.1.toNat (0 : Int)))] ?_
  refine AW.block ?_
  obtain ⟨rv44, hw40, ho41⟩ := Option.bind_eq_some_iff.1 h
  refine AW.loopO (linealref05_best_b1 c a) (fun st1 => ⟨fr [(2, .bp 2 0), (3, .bp 3 0), (5, .own 12), (14, .int .i64 ((List.replicate c.1.toNat (0 : Int)).length : Int)), (15, .int .i64 st1.2)], hpGet [(2, .box 24 [.int .i64 c.1, .sl (.pair (.int .i64) (.pair (.int .i64) (.int .i64))) c.2]), (3, .box 24 [.int .i64 a.1, .sl (.pair (.int .i64) (.pair (.int .i64) (.int .i64))) a.2]), (12, .arr 3 (.int .i64) st1.1)], gt⟩) ((List.replicate c.1.toNat (0 : Int)), 0) hw40 (zL [] [] []) ?_
  as_aux_lemma =>
   intro st1 x43 h hd42
   unfold linealref05_best_b1 at h
   refine zo ?_
   refine zB [(2, .bp 2 0), (3, .bp 3 0), (5, .own 12), (14, .int .i64 ((List.replicate c.1.toNat (0 : Int)).length : Int)), (15, .int .i64 st1.2), (16, .bool (decide (st1.2 < ((List.replicate c.1.toNat (0 : Int)).length : Int))))] [(2, .box 24 [.int .i64 c.1, .sl (.pair (.int .i64) (.pair (.int .i64) (.int .i64))) c.2]), (3, .box 24 [.int .i64 a.1, .sl (.pair (.int .i64) (.pair (.int .i64) (.int .i64))) a.2]), (12, .arr 3 (.int .i64) st1.1)] ?_
   refine AW.seq ?_
   refine zQ h (fun hb45 h => ?_) (fun hb45 h => ?_)
   ·refine zk ?_
    refine AW.seq ?_
    refine AW.block ?_
    refine zo ?_
    refine zB [(2, .bp 2 0), (3, .bp 3 0), (5, .own 12), (6, .int .i64 st1.2), (14, .int .i64 ((List.replicate c.1.toNat (0 : Int)).length : Int)), (15, .int .i64 st1.2)] [(2, .box 24 [.int .i64 c.1, .sl (.pair (.int .i64) (.pair (.int .i64) (.int .i64))) c.2]), (3, .box 24 [.int .i64 a.1, .sl (.pair (.int .i64) (.pair (.int .i64) (.int .i64))) a.2]), (12, .arr 3 (.int .i64) st1.1)] ?_
    refine AW.ops ?_
    obtain ⟨c46, h⟩ := ck_some.1 h
    refine zS 5 [(2, .bp 2 0), (3, .bp 3 0), (5, .own 12), (14, .int .i64 ((List.replicate c.1.toNat (0 : Int)).length : Int)), (15, .int .i64 st1.2), (18, .own 12), (19, .int .i64 st1.2), (22, .int .i64 (ishl .i64 1 a.1))] [(2, .box 24 [.int .i64 c.1, .sl (.pair (.int .i64) (.pair (.int .i64) (.int .i64))) c.2]), (3, .box 24 [.int .i64 a.1, .sl (.pair (.int .i64) (.pair (.int .i64) (.int .i64))) a.2]), (12, .arr 3 (.int .i64) st1.1)] ?_
    obtain ⟨c47, h⟩ := ck_some.1 h
    obtain ⟨c48, h⟩ := ck_some.1 h
    obtain ⟨c49, h⟩ := ck_some.1 h
    refine zA [(2, .bp 2 0), (3, .bp 3 0), (5, .own 12), (14, .int .i64 ((List.replicate c.1.toNat (0 : Int)).length : Int)), (15, .int .i64 st1.2)] [(2, .box 24 [.int .i64 c.1, .sl (.pair (.int .i64) (.pair (.int .i64) (.int .i64))) c.2]), (3, .box 24 [.int .i64 a.1, .sl (.pair (.int .i64) (.pair (.int .i64) (.int .i64))) a.2]), (12, .arr 3 (.int .i64) (st1.1.set st1.2.toNat ((ishl .i64 1 a.1) - 1)))] ?_
    refine ablock_n ?_
    refine athen_n ?_
    refine AW.ops ?_
    obtain ⟨c50, h⟩ := ck_some.1 h
    refine zA [(2, .bp 2 0), (3, .bp 3 0), (5, .own 12), (14, .int .i64 ((List.replicate c.1.toNat (0 : Int)).length : Int)), (15, .int .i64 (st1.2 + 1))] [(2, .box 24 [.int .i64 c.1, .sl (.pair (.int .i64) (.pair (.int .i64) (.int .i64))) c.2]), (3, .box 24 [.int .i64 a.1, .sl (.pair (.int .i64) (.pair (.int .i64) (.int .i64))) a.2]), (12, .arr 3 (.int .i64) (st1.1.set st1.2.toNat ((ishl .i64 1 a.1) - 1)))] ?_
    obtain rfl := Option.some.inj h
    exact ⟨_, rfl, zL [] [] []⟩
   ·refine AW.exit ?_
    refine athen_e ?_
    obtain rfl := Option.some.inj h
    rw [← hd42 _ rfl] at ho41
    have h := ho41
    refine athen_e ?_
    refine ablock_s ?_
    refine athen_n ?_
    exact AW.weaken (zL [] [] []) (hk_linealref05_best_k1 _ h)

theorem hc_linealref05_Best (c : Int × (List (Int × Int × Int))) (a : Int × (List (Int × Int × Int))) {r : (List (Int × Int)) × Int} (h : linealref05_Best c a = some r) : HC Try.prog 33 [] [.agg [.int .i64 c.1, .sl (.pair (.int .i64) (.pair (.int .i64) (.int .i64))) c.2], .agg [.int .i64 a.1, .sl (.pair (.int .i64) (.pair (.int .i64) (.int .i64))) a.2]] [(2000, .arr 58 (.pair (.int .i64) (.int .i64)) r.1)] (.tup [.own 2000, .int .i64 r.2]) := by
 unfold linealref05_Best at h
 refine zH Try.func33 [.tmp 4, .tmp 5] 18 ?_
 refine zo ?_
 refine zB [(2, .bp 2 0), (3, .bp 3 0)] [(2, .box 24 [.int .i64 c.1, .sl (.pair (.int .i64) (.pair (.int .i64) (.int .i64))) c.2]), (3, .box 24 [.int .i64 a.1, .sl (.pair (.int .i64) (.pair (.int .i64) (.int .i64))) a.2])] ?_
 refine AW.seq ?_
 refine zo ?_
 refine zS 1 [(2, .bp 2 0), (3, .bp 3 0), (6, .agg [.int .i64 c.1, .sl (.pair (.int .i64) (.pair (.int .i64) (.int .i64))) c.2])] [(2, .box 24 [.int .i64 c.1, .sl (.pair (.int .i64) (.pair (.int .i64) (.int .i64))) c.2]), (3, .box 24 [.int .i64 a.1, .sl (.pair (.int .i64) (.pair (.int .i64) (.int .i64))) a.2])] ?_
 obtain ⟨v0, hv1, h⟩ := Option.bind_eq_some_iff.1 h
 refine zC [] [] (hc_linealref05_Valid c hv1) [(2, .bp 2 0), (3, .bp 3 0), (7, .bool v0)] [(2, .box 24 [.int .i64 c.1, .sl (.pair (.int .i64) (.pair (.int .i64) (.int .i64))) c.2]), (3, .box 24 [.int .i64 a.1, .sl (.pair (.int .i64) (.pair (.int .i64) (.int .i64))) a.2])] ?_
 refine zS 2 [(2, .bp 2 0), (3, .bp 3 0), (9, .bool (!v0))] [(2, .box 24 [.int .i64 c.1, .sl (.pair (.int .i64) (.pair (.int .i64) (.int .i64))) c.2]), (3, .box 24 [.int .i64 a.1, .sl (.pair (.int .i64) (.pair (.int .i64) (.int .i64))) a.2])] ?_
 rcases zI h with ⟨hb2, h⟩ | ⟨hb2, h⟩
 ·refine zB [(2, .bp 2 0), (3, .bp 3 0), (13, .bool true)] [(2, .box 24 [.int .i64 c.1, .sl (.pair (.int .i64) (.pair (.int .i64) (.int .i64))) c.2]), (3, .box 24 [.int .i64 a.1, .sl (.pair (.int .i64) (.pair (.int .i64) (.int .i64))) a.2])] ?_
  refine AW.cond (b := true) rfl (fun _ => ?_) (fun hb3 => by cases hb3)
  refine zo ?_
  refine zB [(4, .cv (.slice none 0 0)), (5, .int .i64 50)] [] ?_
  refine zr ?_
  obtain rfl := Option.some.inj h
  exact zR [] [2000] []
 ·refine zS 1 [(2, .bp 2 0), (3, .bp 3 0), (9, .bool false), (10, .agg [.int .i64 a.1, .sl (.pair (.int .i64) (.pair (.int .i64) (.int .i64))) a.2])] [(2, .box 24 [.int .i64 c.1, .sl (.pair (.int .i64) (.pair (.int .i64) (.int .i64))) c.2]), (3, .box 24 [.int .i64 a.1, .sl (.pair (.int .i64) (.pair (.int .i64) (.int .i64))) a.2])] ?_
  obtain ⟨v0_2, hv4, h⟩ := Option.bind_eq_some_iff.1 h
  refine zG [] [] (hc_linealref05_Valid a hv4) [(2, .bp 2 0), (3, .bp 3 0), (9, .bool false), (11, .bool v0_2)] [(2, .box 24 [.int .i64 c.1, .sl (.pair (.int .i64) (.pair (.int .i64) (.int .i64))) c.2]), (3, .box 24 [.int .i64 a.1, .sl (.pair (.int .i64) (.pair (.int .i64) (.int .i64))) a.2])] ?_
  refine zB [(2, .bp 2 0), (3, .bp 3 0), (13, .bool (!v0_2))] [(2, .box 24 [.int .i64 c.1, .sl (.pair (.int .i64) (.pair (.int .i64) (.int .i64))) c.2]), (3, .box 24 [.int .i64 a.1, .sl (.pair (.int .i64) (.pair (.int .i64) (.int .i64))) a.2])] ?_
  refine zQ h (fun hb5 h => ?_) (fun hb5 h => ?_)
  ·refine zo ?_
   refine zB [(4, .cv (.slice none 0 0)), (5, .int .i64 50)] [] ?_
   refine zr ?_
   obtain rfl := Option.some.inj h
   exact zR [] [2000] []
  ·refine zk ?_
   refine zo ?_
   refine zS 2 [(14, .agg [.int .i64 c.1, .sl (.pair (.int .i64) (.pair (.int .i64) (.int .i64))) c.2]), (15, .agg [.int .i64 a.1, .sl (.pair (.int .i64) (.pair (.int .i64) (.int .i64))) a.2])] [] ?_
   obtain ⟨v0_3, hv6, h⟩ := Option.bind_eq_some_iff.1 h
   refine zC [] [] (hc_linealref05_best c a hv6) [(16, .own 26000)] [(26000, .arr 3 (.int .i64) v0_3)] ?_
   obtain ⟨v0_4, hv7, h⟩ := Option.bind_eq_some_iff.1 h
   refine zC [26000] [] (hc_linealref05_relation v0_3 hv7) [(17, .own 27000)] [(27000, .arr 58 (.pair (.int .i64) (.int .i64)) v0_4)] ?_
   refine zB [(4, .own 27000), (5, .int .i64 0)] [(27000, .arr 58 (.pair (.int .i64) (.int .i64)) v0_4)] ?_
   refine AW.ret ?_
   obtain rfl := Option.some.inj h
   exact zR [] [] [(2000, 27000)]

end Go.Proofs.Ytifleoceebaooaa
