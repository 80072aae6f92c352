/-
  Made by wip/tool/dc.py out of the print of the program: contracts.
-/
import Derived.Test.YtifleoceebaooaaRfp
import Derived.Test.YtifleoceebaooaaShr
import Derived.Test.YtifleoceebaooaaNfc1
import Derived.Test.YtifleoceebaooaaNfc7
import Derived.Test.YtifleoceebaooaaSf
namespace Go.Proofs.Ytifleoceebaooaa
open Go.RowKit

set_option linter.unusedSimpArgs false
set_option linter.unusedVariables false
set_option linter.constructorNameAsVariable false

set_option maxRecDepth 100000
set_option maxHeartbeats 2000000

theorem hc_refine_together (s : Int × (List (Int × Int × Int))) (t : Int × (List (Int × Int × Int))) {r : (List (Int × Int × Int))} (h : refine_together s t = some r) : HC Try.prog 99 [] [.agg [.int .i64 s.1, .sl (.pair (.int .i64) (.pair (.int .i64) (.int .i64))) s.2], .agg [.int .i64 t.1, .sl (.pair (.int .i64) (.pair (.int .i64) (.int .i64))) t.2]] [(2000, .arr 66 (.pair (.int .i64) (.pair (.int .i64) (.int .i64))) r)] (.own 2000) := by
 unfold refine_together at h
 refine zH Try.func99 [.tmp 4] 86 ?_
 refine zo ?_
 refine zB [(2, .bp 2 0), (3, .bp 3 0)] [(2, .box 24 [.int .i64 s.1, .sl (.pair (.int .i64) (.pair (.int .i64) (.int .i64))) s.2]), (3, .box 24 [.int .i64 t.1, .sl (.pair (.int .i64) (.pair (.int .i64) (.int .i64))) t.2])] ?_
 refine zo ?_
 refine zB [(2, .bp 2 0), (3, .bp 3 0), (5, .bp 5 0)] [(2, .box 24 [.int .i64 s.1, .sl (.pair (.int .i64) (.pair (.int .i64) (.int .i64))) s.2]), (3, .box 24 [.int .i64 t.1, .sl (.pair (.int .i64) (.pair (.int .i64) (.int .i64))) t.2]), (5, .box 22 [.cv (.slice none 0 0)])] ?_
 refine zo ?_
 refine zB [(2, .bp 2 0), (3, .bp 3 0), (5, .bp 5 0), (6, .fn (.func 121) [] [.bp 5 0, .bp 3 0])] [(2, .box 24 [.int .i64 s.1, .sl (.pair (.int .i64) (.pair (.int .i64) (.int .i64))) s.2]), (3, .box 24 [.int .i64 t.1, .sl (.pair (.int .i64) (.pair (.int .i64) (.int .i64))) t.2]), (5, .box 22 [.cv (.slice none 0 0)])] ?_
 refine AW.have1 (fun b3_3 : (List (Int × Int × Int)) => refine_together_k1 s t b3_3 = some r) (fun b3_3 => ⟨fr [(2, .bp 2 0), (3, .bp 3 0), (5, .bp 5 0), (6, .fn (.func 121) [] [.bp 5 0, .bp 3 0])], hpGet [(2, .box 24 [.int .i64 s.1, .sl (.pair (.int .i64) (.pair (.int .i64) (.int .i64))) s.2]), (3, .box 24 [.int .i64 t.1, .sl (.pair (.int .i64) (.pair (.int .i64) (.int .i64))) t.2]), (5, .box 22 [.own 800]), (800, .arr 66 (.pair (.int .i64) (.pair (.int .i64) (.int .i64))) b3_3)], gt⟩) (fun b3_3 h => ?_) (fun hk_refine_together_k1 => ?_)
 ·as_aux_lemma =>
   unfold refine_together_k1 at h
   refine AW.have1 (fun b5_2 : (List (Int × Int × Int)) => refine_together_k4 b5_2 = some r) (fun b5_2 => ⟨fr [(5, .bp 5 0)], hpGet [(5, .box 22 [.own 800]), (800, .arr 66 (.pair (.int .i64) (.pair (.int .i64) (.int .i64))) b5_2)], gt⟩) (fun b5_2 h => ?_) (fun hk_refine_together_k4 => ?_)
   ·as_aux_lemma =>
     unfold refine_together_k4 at h
     refine zo ?_
     refine zS 1 [(5, .bp 5 0), (82, .own 800)] [(5, .box 22 [.own 800]), (800, .arr 66 (.pair (.int .i64) (.pair (.int .i64) (.int .i64))) b5_2)] ?_
     obtain ⟨v0_9, hv1, h⟩ := Option.bind_eq_some_iff.1 h
     refine zC [] [(1000, 800)] (hc_slices_SortFunc b5_2 hv1) [(5, .bp 5 0)] [(5, .box 22 [.own 800]), (800, .arr 66 (.pair (.int .i64) (.pair (.int .i64) (.int .i64))) v0_9)] ?_
     refine zB [(5, .bp 5 0)] [(5, .box 22 [.own 800]), (800, .arr 66 (.pair (.int .i64) (.pair (.int .i64) (.int .i64))) v0_9)] ?_
     refine zo ?_
     refine zS 1 [(84, .own 800)] [(800, .arr 66 (.pair (.int .i64) (.pair (.int .i64) (.int .i64))) v0_9)] ?_
     obtain ⟨v0_10, hv2, h⟩ := Option.bind_eq_some_iff.1 h
     refine zC [] [(1000, 800)] (hc_slices_Compact v0_9 hv2) [(85, .own 95000)] [(95000, .arr 66 (.pair (.int .i64) (.pair (.int .i64) (.int .i64))) v0_10)] ?_
     refine zB [(4, .own 95000)] [(95000, .arr 66 (.pair (.int .i64) (.pair (.int .i64) (.int .i64))) v0_10)] ?_
     refine AW.ret ?_
     obtain rfl := Option.some.inj h
     exact zR [] [] [(2000, 95000)]
   ·refine AW.seq ?_
    refine zo ?_
    refine zB [(2, .bp 2 0), (5, .bp 5 0), (6, .fn (.func 121) [] [.bp 5 0, .bp 3 0]), (61, .sl (.pair (.int .i64) (.pair (.int .i64) (.int .i64))) t.2), (62, .int .i64 (t.2.length : Int)), (63, .int .i64 0)] [(2, .box 24 [.int .i64 s.1, .sl (.pair (.int .i64) (.pair (.int .i64) (.int .i64))) s.2]), (3, .box 24 [.int .i64 t.1, .sl (.pair (.int .i64) (.pair (.int .i64) (.int .i64))) t.2]), (5, .box 22 [.own 800]), (800, .arr 66 (.pair (.int .i64) (.pair (.int .i64) (.int .i64))) b3_3)] ?_
    refine AW.block ?_
    obtain ⟨rv7, hw3, ho4⟩ := Option.bind_eq_some_iff.1 h
    refine AW.loopO (refine_together_b4 s t) (fun st4 => ⟨fr [(2, .bp 2 0), (5, .bp 5 0), (6, .fn (.func 121) [] [.bp 5 0, .bp 3 0]), (61, .sl (.pair (.int .i64) (.pair (.int .i64) (.int .i64))) t.2), (62, .int .i64 (t.2.length : Int)), (63, .int .i64 st4.2)], hpGet [(2, .box 24 [.int .i64 s.1, .sl (.pair (.int .i64) (.pair (.int .i64) (.int .i64))) s.2]), (3, .box 24 [.int .i64 t.1, .sl (.pair (.int .i64) (.pair (.int .i64) (.int .i64))) t.2]), (5, .box 22 [.own 800]), (800, .arr 66 (.pair (.int .i64) (.pair (.int .i64) (.int .i64))) st4.1)], gt⟩) (b3_3, 0) hw3 (zL [] [] []) ?_
    as_aux_lemma =>
     intro st4 x6 h hd5
     unfold refine_together_b4 at h
     refine zo ?_
     refine zB [(2, .bp 2 0), (5, .bp 5 0), (6, .fn (.func 121) [] [.bp 5 0, .bp 3 0]), (61, .sl (.pair (.int .i64) (.pair (.int .i64) (.int .i64))) t.2), (62, .int .i64 (t.2.length : Int)), (63, .int .i64 st4.2), (64, .bool (decide (st4.2 < (t.2.length : Int))))] [(2, .box 24 [.int .i64 s.1, .sl (.pair (.int .i64) (.pair (.int .i64) (.int .i64))) s.2]), (3, .box 24 [.int .i64 t.1, .sl (.pair (.int .i64) (.pair (.int .i64) (.int .i64))) t.2]), (5, .box 22 [.own 800]), (800, .arr 66 (.pair (.int .i64) (.pair (.int .i64) (.int .i64))) st4.1)] ?_
     refine AW.seq ?_
     refine zQ h (fun hb8 h => ?_) (fun hb8 h => ?_)
     ·refine zk ?_
      refine AW.have1 (fun b5 : (List (Int × Int × Int)) => refine_together_k5 st4 b5 = some x6) (fun b5 => ⟨fr [(2, .bp 2 0), (5, .bp 5 0), (6, .fn (.func 121) [] [.bp 5 0, .bp 3 0]), (61, .sl (.pair (.int .i64) (.pair (.int .i64) (.int .i64))) t.2), (62, .int .i64 (t.2.length : Int)), (63, .int .i64 st4.2)], hpGet [(2, .box 24 [.int .i64 s.1, .sl (.pair (.int .i64) (.pair (.int .i64) (.int .i64))) s.2]), (3, .box 24 [.int .i64 t.1, .sl (.pair (.int .i64) (.pair (.int .i64) (.int .i64))) t.2]), (5, .box 22 [.own 800]), (800, .arr 66 (.pair (.int .i64) (.pair (.int .i64) (.int .i64))) b5)], gt⟩) (fun b5 h => ?_) (fun hk_refine_together_k5 => ?_)
      ·as_aux_lemma =>
        unfold refine_together_k5 at h
        refine AW.ops ?_
        obtain ⟨c9, h⟩ := ck_some.1 h
        refine zA [(2, .bp 2 0), (5, .bp 5 0), (6, .fn (.func 121) [] [.bp 5 0, .bp 3 0]), (61, .sl (.pair (.int .i64) (.pair (.int .i64) (.int .i64))) t.2), (62, .int .i64 (t.2.length : Int)), (63, .int .i64 (st4.2 + 1))] [(2, .box 24 [.int .i64 s.1, .sl (.pair (.int .i64) (.pair (.int .i64) (.int .i64))) s.2]), (3, .box 24 [.int .i64 t.1, .sl (.pair (.int .i64) (.pair (.int .i64) (.int .i64))) t.2]), (5, .box 22 [.own 800]), (800, .arr 66 (.pair (.int .i64) (.pair (.int .i64) (.int .i64))) b5)] ?_
        obtain rfl := Option.some.inj h
        exact ⟨_, rfl, zL [] [] []⟩
      ·refine AW.seq ?_
       refine AW.block ?_
       refine zo ?_
       obtain ⟨c10, h⟩ := ck_some.1 h
       obtain ⟨c11, h⟩ := ck_some.1 h
       refine zB [(2, .bp 2 0), (5, .bp 5 0), (6, .fn (.func 121) [] [.bp 5 0, .bp 3 0]), (13, .bp 13 0), (61, .sl (.pair (.int .i64) (.pair (.int .i64) (.int .i64))) t.2), (62, .int .i64 (t.2.length : Int)), (63, .int .i64 st4.2)] [(2, .box 24 [.int .i64 s.1, .sl (.pair (.int .i64) (.pair (.int .i64) (.int .i64))) s.2]), (3, .box 24 [.int .i64 t.1, .sl (.pair (.int .i64) (.pair (.int .i64) (.int .i64))) t.2]), (5, .box 22 [.own 800]), (13, .box 66 [.int .i64 (t.2.getD st4.2.toNat (0, 0, 0)).1, .int .i64 (t.2.getD st4.2.toNat (0, 0, 0)).2.1, .int .i64 (t.2.getD st4.2.toNat (0, 0, 0)).2.2]), (800, .arr 66 (.pair (.int .i64) (.pair (.int .i64) (.int .i64))) st4.1)] ?_
       refine zo ?_
       refine zB [(2, .bp 2 0), (5, .bp 5 0), (6, .fn (.func 121) [] [.bp 5 0, .bp 3 0]), (13, .bp 13 0), (61, .sl (.pair (.int .i64) (.pair (.int .i64) (.int .i64))) t.2), (62, .int .i64 (t.2.length : Int)), (63, .int .i64 st4.2), (68, .int .i64 s.1), (69, .int .i64 0)] [(2, .box 24 [.int .i64 s.1, .sl (.pair (.int .i64) (.pair (.int .i64) (.int .i64))) s.2]), (3, .box 24 [.int .i64 t.1, .sl (.pair (.int .i64) (.pair (.int .i64) (.int .i64))) t.2]), (5, .box 22 [.own 800]), (13, .box 66 [.int .i64 (t.2.getD st4.2.toNat (0, 0, 0)).1, .int .i64 (t.2.getD st4.2.toNat (0, 0, 0)).2.1, .int .i64 (t.2.getD st4.2.toNat (0, 0, 0)).2.2]), (800, .arr 66 (.pair (.int .i64) (.pair (.int .i64) (.int .i64))) st4.1)] ?_
       refine AW.block ?_
       obtain ⟨rv16, hw12, ho13⟩ := Option.bind_eq_some_iff.1 h
       refine AW.loopO (refine_together_b5 s t st4) (fun st5 => ⟨fr [(2, .bp 2 0), (5, .bp 5 0), (6, .fn (.func 121) [] [.bp 5 0, .bp 3 0]), (13, .bp 13 0), (61, .sl (.pair (.int .i64) (.pair (.int .i64) (.int .i64))) t.2), (62, .int .i64 (t.2.length : Int)), (63, .int .i64 st4.2), (68, .int .i64 s.1), (69, .int .i64 st5.2)], hpGet [(2, .box 24 [.int .i64 s.1, .sl (.pair (.int .i64) (.pair (.int .i64) (.int .i64))) s.2]), (3, .box 24 [.int .i64 t.1, .sl (.pair (.int .i64) (.pair (.int .i64) (.int .i64))) t.2]), (5, .box 22 [.own 800]), (13, .box 66 [.int .i64 (t.2.getD st4.2.toNat (0, 0, 0)).1, .int .i64 (t.2.getD st4.2.toNat (0, 0, 0)).2.1, .int .i64 (t.2.getD st4.2.toNat (0, 0, 0)).2.2]), (800, .arr 66 (.pair (.int .i64) (.pair (.int .i64) (.int .i64))) st5.1)], gt⟩) (st4.1, 0) hw12 (zL [] [] []) ?_
       as_aux_lemma =>
        intro st5 x15 h hd14
        unfold refine_together_b5 at h
        refine zo ?_
        refine zB [(2, .bp 2 0), (5, .bp 5 0), (6, .fn (.func 121) [] [.bp 5 0, .bp 3 0]), (13, .bp 13 0), (61, .sl (.pair (.int .i64) (.pair (.int .i64) (.int .i64))) t.2), (62, .int .i64 (t.2.length : Int)), (63, .int .i64 st4.2), (68, .int .i64 s.1), (69, .int .i64 st5.2), (70, .bool (decide (st5.2 < s.1)))] [(2, .box 24 [.int .i64 s.1, .sl (.pair (.int .i64) (.pair (.int .i64) (.int .i64))) s.2]), (3, .box 24 [.int .i64 t.1, .sl (.pair (.int .i64) (.pair (.int .i64) (.int .i64))) t.2]), (5, .box 22 [.own 800]), (13, .box 66 [.int .i64 (t.2.getD st4.2.toNat (0, 0, 0)).1, .int .i64 (t.2.getD st4.2.toNat (0, 0, 0)).2.1, .int .i64 (t.2.getD st4.2.toNat (0, 0, 0)).2.2]), (800, .arr 66 (.pair (.int .i64) (.pair (.int .i64) (.int .i64))) st5.1)] ?_
        refine AW.seq ?_
        refine zQ h (fun hb17 h => ?_) (fun hb17 h => ?_)
        ·refine zk ?_
         refine AW.seq ?_
         refine AW.block ?_
         refine zo ?_
         refine zB [(2, .bp 2 0), (5, .bp 5 0), (6, .fn (.func 121) [] [.bp 5 0, .bp 3 0]), (13, .bp 13 0), (14, .int .i64 st5.2), (61, .sl (.pair (.int .i64) (.pair (.int .i64) (.int .i64))) t.2), (62, .int .i64 (t.2.length : Int)), (63, .int .i64 st4.2), (68, .int .i64 s.1), (69, .int .i64 st5.2)] [(2, .box 24 [.int .i64 s.1, .sl (.pair (.int .i64) (.pair (.int .i64) (.int .i64))) s.2]), (3, .box 24 [.int .i64 t.1, .sl (.pair (.int .i64) (.pair (.int .i64) (.int .i64))) t.2]), (5, .box 22 [.own 800]), (13, .box 66 [.int .i64 (t.2.getD st4.2.toNat (0, 0, 0)).1, .int .i64 (t.2.getD st4.2.toNat (0, 0, 0)).2.1, .int .i64 (t.2.getD st4.2.toNat (0, 0, 0)).2.2]), (800, .arr 66 (.pair (.int .i64) (.pair (.int .i64) (.int .i64))) st5.1)] ?_
         refine zo ?_
         refine zS 2 [(2, .bp 2 0), (5, .bp 5 0), (6, .fn (.func 121) [] [.bp 5 0, .bp 3 0]), (13, .bp 13 0), (14, .int .i64 st5.2), (61, .sl (.pair (.int .i64) (.pair (.int .i64) (.int .i64))) t.2), (62, .int .i64 (t.2.length : Int)), (63, .int .i64 st4.2), (68, .int .i64 s.1), (69, .int .i64 st5.2), (73, .int .i64 (t.2.getD st4.2.toNat (0, 0, 0)).2.1)] [(2, .box 24 [.int .i64 s.1, .sl (.pair (.int .i64) (.pair (.int .i64) (.int .i64))) s.2]), (3, .box 24 [.int .i64 t.1, .sl (.pair (.int .i64) (.pair (.int .i64) (.int .i64))) t.2]), (5, .box 22 [.own 800]), (13, .box 66 [.int .i64 (t.2.getD st4.2.toNat (0, 0, 0)).1, .int .i64 (t.2.getD st4.2.toNat (0, 0, 0)).2.1, .int .i64 (t.2.getD st4.2.toNat (0, 0, 0)).2.2]), (800, .arr 66 (.pair (.int .i64) (.pair (.int .i64) (.int .i64))) st5.1)] ?_
         obtain ⟨v0_6, hv18, h⟩ := Option.bind_eq_some_iff.1 h
         refine zC [] [] (hc_refine_isHidden (t.2.getD st4.2.toNat (0, 0, 0)).2.1 hv18) [(2, .bp 2 0), (5, .bp 5 0), (6, .fn (.func 121) [] [.bp 5 0, .bp 3 0]), (13, .bp 13 0), (14, .int .i64 st5.2), (61, .sl (.pair (.int .i64) (.pair (.int .i64) (.int .i64))) t.2), (62, .int .i64 (t.2.length : Int)), (63, .int .i64 st4.2), (68, .int .i64 s.1), (69, .int .i64 st5.2), (74, .bool (decide ((t.2.getD st4.2.toNat (0, 0, 0)).2.1 = 0)))] [(2, .box 24 [.int .i64 s.1, .sl (.pair (.int .i64) (.pair (.int .i64) (.int .i64))) s.2]), (3, .box 24 [.int .i64 t.1, .sl (.pair (.int .i64) (.pair (.int .i64) (.int .i64))) t.2]), (5, .box 22 [.own 800]), (13, .box 66 [.int .i64 (t.2.getD st4.2.toNat (0, 0, 0)).1, .int .i64 (t.2.getD st4.2.toNat (0, 0, 0)).2.1, .int .i64 (t.2.getD st4.2.toNat (0, 0, 0)).2.2]), (800, .arr 66 (.pair (.int .i64) (.pair (.int .i64) (.int .i64))) st5.1)] ?_
         refine zB [(2, .bp 2 0), (5, .bp 5 0), (6, .fn (.func 121) [] [.bp 5 0, .bp 3 0]), (13, .bp 13 0), (14, .int .i64 st5.2), (61, .sl (.pair (.int .i64) (.pair (.int .i64) (.int .i64))) t.2), (62, .int .i64 (t.2.length : Int)), (63, .int .i64 st4.2), (68, .int .i64 s.1), (69, .int .i64 st5.2), (74, .bool (decide ((t.2.getD st4.2.toNat (0, 0, 0)).2.1 = 0)))] [(2, .box 24 [.int .i64 s.1, .sl (.pair (.int .i64) (.pair (.int .i64) (.int .i64))) s.2]), (3, .box 24 [.int .i64 t.1, .sl (.pair (.int .i64) (.pair (.int .i64) (.int .i64))) t.2]), (5, .box 22 [.own 800]), (13, .box 66 [.int .i64 (t.2.getD st4.2.toNat (0, 0, 0)).1, .int .i64 (t.2.getD st4.2.toNat (0, 0, 0)).2.1, .int .i64 (t.2.getD st4.2.toNat (0, 0, 0)).2.2]), (800, .arr 66 (.pair (.int .i64) (.pair (.int .i64) (.int .i64))) st5.1)] ?_
         refine zQ h (fun hb19 h => ?_) (fun hb19 h => ?_)
         ·refine AW.draw tab_ok mixed_ok [(4, [3, 5, 800, 89000])] [] (by decide) (by kernel_rfl) ?_
          as_aux_lemma =>
           refine adops_cut 2 (fun K' hK20 => ?_)
           try dsimp only [List.drop_succ_cons, List.drop_zero, List.take_succ_cons, List.take_zero]
           simp only [go_sem, hb8, hb17, hb19]
           repeat with_reducible refine zN ?_
           refine hK20 _ ?_
           as_aux_lemma =>
            obtain ⟨v0_7, hv21, h⟩ := Option.bind_eq_some_iff.1 h
            refine adops.call (by first | trivial | rfl) rfl rfl rfl (fun _ h => h) [] [] (hc_refine_stay st5.2 hv21) rfl (by (simp only [go_sem, hb8, hb17, hb19]) <;> (with_reducible and_intros) <;> first | assumption | rfl | omega | (unfold maxLen; omega)) (by (simp only [go_sem, hb8, hb17, hb19]) <;> (with_reducible and_intros) <;> first | assumption | rfl | omega | (unfold maxLen; omega)) rfl ?_
            refine adops_cut 1 (fun K' hK22 => ?_)
            try dsimp only [List.drop_succ_cons, List.drop_zero, List.take_succ_cons, List.take_zero]
            simp only [go_sem, hb8, hb17, hb19]
            repeat with_reducible refine zN ?_
            refine hK22 _ ?_
            as_aux_lemma =>
             obtain ⟨v0_8, hv23, h⟩ := Option.bind_eq_some_iff.1 h
             refine adops.call (by first | trivial | rfl) rfl rfl rfl (fun _ h => h) [] [(1000, 5), (1001, 3), (1002, 800)] (hc_refine_together_1_2 (st5.2, 0, st5.2) (t.2.getD st4.2.toNat (0, 0, 0)) t st5.1 hv23) rfl (by (simp only [go_sem, hb8, hb17, hb19]) <;> (with_reducible and_intros) <;> first | assumption | rfl | omega | (unfold maxLen; omega)) (by (simp only [go_sem, hb8, hb17, hb19]) <;> (with_reducible and_intros) <;> first | assumption | rfl | omega | (unfold maxLen; omega)) rfl ?_
             refine adops_cut 0 (fun K' hK24 => ?_)
             try dsimp only [List.drop_succ_cons, List.drop_zero, List.take_succ_cons, List.take_zero]
             simp only [go_sem, hb8, hb17, hb19]
             repeat with_reducible refine zN ?_
             refine hK24 _ ?_
             refine adops_nil ?_
             refine ablock_n ?_
             refine athen_n ?_
             refine zV [(2, .bp 2 0), (5, .bp 5 0), (6, .fn (.func 121) [] [.bp 5 0, .bp 3 0]), (13, .bp 13 0), (61, .sl (.pair (.int .i64) (.pair (.int .i64) (.int .i64))) t.2), (62, .int .i64 (t.2.length : Int)), (63, .int .i64 st4.2), (68, .int .i64 s.1), (69, .int .i64 st5.2)] [(2, .box 24 [.int .i64 s.1, .sl (.pair (.int .i64) (.pair (.int .i64) (.int .i64))) s.2]), (3, .box 24 [.int .i64 t.1, .sl (.pair (.int .i64) (.pair (.int .i64) (.int .i64))) t.2]), (5, .box 22 [.own 89000]), (13, .box 66 [.int .i64 (t.2.getD st4.2.toNat (0, 0, 0)).1, .int .i64 (t.2.getD st4.2.toNat (0, 0, 0)).2.1, .int .i64 (t.2.getD st4.2.toNat (0, 0, 0)).2.2]), (89000, .arr 66 (.pair (.int .i64) (.pair (.int .i64) (.int .i64))) (st5.1 ++ [(((st5.2 * t.1) + (t.2.getD st4.2.toNat (0, 0, 0)).1), 0, ((st5.2 * t.1) + (t.2.getD st4.2.toNat (0, 0, 0)).2.2))]))] gt ?_
             as_aux_lemma =>
              refine AW.ops ?_
              obtain ⟨c25, h⟩ := ck_some.1 h
              refine zA [(2, .bp 2 0), (5, .bp 5 0), (6, .fn (.func 121) [] [.bp 5 0, .bp 3 0]), (13, .bp 13 0), (61, .sl (.pair (.int .i64) (.pair (.int .i64) (.int .i64))) t.2), (62, .int .i64 (t.2.length : Int)), (63, .int .i64 st4.2), (68, .int .i64 s.1), (69, .int .i64 (st5.2 + 1))] [(2, .box 24 [.int .i64 s.1, .sl (.pair (.int .i64) (.pair (.int .i64) (.int .i64))) s.2]), (3, .box 24 [.int .i64 t.1, .sl (.pair (.int .i64) (.pair (.int .i64) (.int .i64))) t.2]), (5, .box 22 [.own 89000]), (13, .box 66 [.int .i64 (t.2.getD st4.2.toNat (0, 0, 0)).1, .int .i64 (t.2.getD st4.2.toNat (0, 0, 0)).2.1, .int .i64 (t.2.getD st4.2.toNat (0, 0, 0)).2.2]), (89000, .arr 66 (.pair (.int .i64) (.pair (.int .i64) (.int .i64))) (st5.1 ++ [(((st5.2 * t.1) + (t.2.getD st4.2.toNat (0, 0, 0)).1), 0, ((st5.2 * t.1) + (t.2.getD st4.2.toNat (0, 0, 0)).2.2))]))] ?_
              obtain rfl := Option.some.inj h
              exact ⟨_, rfl, zL [] [] [(800, 89000)]⟩
         ·refine zm ?_
          refine athen_n ?_
          refine AW.ops ?_
          obtain ⟨c26, h⟩ := ck_some.1 h
          refine zA [(2, .bp 2 0), (5, .bp 5 0), (6, .fn (.func 121) [] [.bp 5 0, .bp 3 0]), (13, .bp 13 0), (61, .sl (.pair (.int .i64) (.pair (.int .i64) (.int .i64))) t.2), (62, .int .i64 (t.2.length : Int)), (63, .int .i64 st4.2), (68, .int .i64 s.1), (69, .int .i64 (st5.2 + 1))] [(2, .box 24 [.int .i64 s.1, .sl (.pair (.int .i64) (.pair (.int .i64) (.int .i64))) s.2]), (3, .box 24 [.int .i64 t.1, .sl (.pair (.int .i64) (.pair (.int .i64) (.int .i64))) t.2]), (5, .box 22 [.own 800]), (13, .box 66 [.int .i64 (t.2.getD st4.2.toNat (0, 0, 0)).1, .int .i64 (t.2.getD st4.2.toNat (0, 0, 0)).2.1, .int .i64 (t.2.getD st4.2.toNat (0, 0, 0)).2.2]), (800, .arr 66 (.pair (.int .i64) (.pair (.int .i64) (.int .i64))) st5.1)] ?_
          obtain rfl := Option.some.inj h
          exact ⟨_, rfl, zL [] [] []⟩
        ·refine AW.exit ?_
         refine athen_e ?_
         obtain rfl := Option.some.inj h
         rw [← hd14 _ rfl] at ho13
         have h := ho13
         refine athen_e ?_
         refine ablock_s ?_
         refine ablock_n ?_
         refine athen_n ?_
         exact AW.weaken (zL [] [] []) (hk_refine_together_k5 _ h)
     ·refine AW.exit ?_
      refine athen_e ?_
      obtain rfl := Option.some.inj h
      rw [← hd5 _ rfl] at ho4
      have h := ho4
      refine athen_e ?_
      refine ablock_s ?_
      refine athen_n ?_
      exact AW.weaken (zL [] [] []) (hk_refine_together_k4 _ h)
 ·refine AW.seq ?_
  refine zo ?_
  refine zB [(2, .bp 2 0), (3, .bp 3 0), (5, .bp 5 0), (6, .fn (.func 121) [] [.bp 5 0, .bp 3 0]), (17, .sl (.pair (.int .i64) (.pair (.int .i64) (.int .i64))) s.2), (18, .int .i64 (s.2.length : Int)), (19, .int .i64 0)] [(2, .box 24 [.int .i64 s.1, .sl (.pair (.int .i64) (.pair (.int .i64) (.int .i64))) s.2]), (3, .box 24 [.int .i64 t.1, .sl (.pair (.int .i64) (.pair (.int .i64) (.int .i64))) t.2]), (5, .box 22 [.cv (.slice none 0 0)])] ?_
  refine AW.block ?_
  obtain ⟨rv31, hw27, ho28⟩ := Option.bind_eq_some_iff.1 h
  refine AW.loopO (refine_together_b1 s t) (fun st1 => ⟨fr [(2, .bp 2 0), (3, .bp 3 0), (5, .bp 5 0), (6, .fn (.func 121) [] [.bp 5 0, .bp 3 0]), (17, .sl (.pair (.int .i64) (.pair (.int .i64) (.int .i64))) s.2), (18, .int .i64 (s.2.length : Int)), (19, .int .i64 st1.2)], hpGet [(2, .box 24 [.int .i64 s.1, .sl (.pair (.int .i64) (.pair (.int .i64) (.int .i64))) s.2]), (3, .box 24 [.int .i64 t.1, .sl (.pair (.int .i64) (.pair (.int .i64) (.int .i64))) t.2]), (5, .box 22 [.own 800]), (800, .arr 66 (.pair (.int .i64) (.pair (.int .i64) (.int .i64))) st1.1)], gt⟩) ([], 0) hw27 (zL [] [800] []) ?_
  as_aux_lemma =>
   intro st1 x30 h hd29
   unfold refine_together_b1 at h
   refine zo ?_
   refine zB [(2, .bp 2 0), (3, .bp 3 0), (5, .bp 5 0), (6, .fn (.func 121) [] [.bp 5 0, .bp 3 0]), (17, .sl (.pair (.int .i64) (.pair (.int .i64) (.int .i64))) s.2), (18, .int .i64 (s.2.length : Int)), (19, .int .i64 st1.2), (20, .bool (decide (st1.2 < (s.2.length : Int))))] [(2, .box 24 [.int .i64 s.1, .sl (.pair (.int .i64) (.pair (.int .i64) (.int .i64))) s.2]), (3, .box 24 [.int .i64 t.1, .sl (.pair (.int .i64) (.pair (.int .i64) (.int .i64))) t.2]), (5, .box 22 [.own 800]), (800, .arr 66 (.pair (.int .i64) (.pair (.int .i64) (.int .i64))) st1.1)] ?_
   refine AW.seq ?_
   refine zQ h (fun hb32 h => ?_) (fun hb32 h => ?_)
   ·refine zk ?_
    refine AW.have1 (fun b3_2 : (List (Int × Int × Int)) => refine_together_k2 st1 b3_2 = some x30) (fun b3_2 => ⟨fr [(2, .bp 2 0), (3, .bp 3 0), (5, .bp 5 0), (6, .fn (.func 121) [] [.bp 5 0, .bp 3 0]), (17, .sl (.pair (.int .i64) (.pair (.int .i64) (.int .i64))) s.2), (18, .int .i64 (s.2.length : Int)), (19, .int .i64 st1.2)], hpGet [(2, .box 24 [.int .i64 s.1, .sl (.pair (.int .i64) (.pair (.int .i64) (.int .i64))) s.2]), (3, .box 24 [.int .i64 t.1, .sl (.pair (.int .i64) (.pair (.int .i64) (.int .i64))) t.2]), (5, .box 22 [.own 800]), (800, .arr 66 (.pair (.int .i64) (.pair (.int .i64) (.int .i64))) b3_2)], gt⟩) (fun b3_2 h => ?_) (fun hk_refine_together_k2 => ?_)
    ·as_aux_lemma =>
      unfold refine_together_k2 at h
      refine AW.ops ?_
      obtain ⟨c33, h⟩ := ck_some.1 h
      refine zA [(2, .bp 2 0), (3, .bp 3 0), (5, .bp 5 0), (6, .fn (.func 121) [] [.bp 5 0, .bp 3 0]), (17, .sl (.pair (.int .i64) (.pair (.int .i64) (.int .i64))) s.2), (18, .int .i64 (s.2.length : Int)), (19, .int .i64 (st1.2 + 1))] [(2, .box 24 [.int .i64 s.1, .sl (.pair (.int .i64) (.pair (.int .i64) (.int .i64))) s.2]), (3, .box 24 [.int .i64 t.1, .sl (.pair (.int .i64) (.pair (.int .i64) (.int .i64))) t.2]), (5, .box 22 [.own 800]), (800, .arr 66 (.pair (.int .i64) (.pair (.int .i64) (.int .i64))) b3_2)] ?_
      obtain rfl := Option.some.inj h
      exact ⟨_, rfl, zL [] [] []⟩
    ·refine AW.seq ?_
     refine AW.block ?_
     refine zo ?_
     obtain ⟨c34, h⟩ := ck_some.1 h
     obtain ⟨c35, h⟩ := ck_some.1 h
     refine zB [(2, .bp 2 0), (3, .bp 3 0), (5, .bp 5 0), (6, .fn (.func 121) [] [.bp 5 0, .bp 3 0]), (8, .bp 8 0), (17, .sl (.pair (.int .i64) (.pair (.int .i64) (.int .i64))) s.2), (18, .int .i64 (s.2.length : Int)), (19, .int .i64 st1.2)] [(2, .box 24 [.int .i64 s.1, .sl (.pair (.int .i64) (.pair (.int .i64) (.int .i64))) s.2]), (3, .box 24 [.int .i64 t.1, .sl (.pair (.int .i64) (.pair (.int .i64) (.int .i64))) t.2]), (5, .box 22 [.own 800]), (8, .box 66 [.int .i64 (s.2.getD st1.2.toNat (0, 0, 0)).1, .int .i64 (s.2.getD st1.2.toNat (0, 0, 0)).2.1, .int .i64 (s.2.getD st1.2.toNat (0, 0, 0)).2.2]), (800, .arr 66 (.pair (.int .i64) (.pair (.int .i64) (.int .i64))) st1.1)] ?_
     refine AW.have1 (fun b3 : (List (Int × Int × Int)) => refine_together_k3 s t st1 b3 = some x30) (fun b3 => ⟨fr [(2, .bp 2 0), (3, .bp 3 0), (5, .bp 5 0), (6, .fn (.func 121) [] [.bp 5 0, .bp 3 0]), (8, .bp 8 0), (17, .sl (.pair (.int .i64) (.pair (.int .i64) (.int .i64))) s.2), (18, .int .i64 (s.2.length : Int)), (19, .int .i64 st1.2)], hpGet [(2, .box 24 [.int .i64 s.1, .sl (.pair (.int .i64) (.pair (.int .i64) (.int .i64))) s.2]), (3, .box 24 [.int .i64 t.1, .sl (.pair (.int .i64) (.pair (.int .i64) (.int .i64))) t.2]), (5, .box 22 [.own 800]), (8, .box 66 [.int .i64 (s.2.getD st1.2.toNat (0, 0, 0)).1, .int .i64 (s.2.getD st1.2.toNat (0, 0, 0)).2.1, .int .i64 (s.2.getD st1.2.toNat (0, 0, 0)).2.2]), (800, .arr 66 (.pair (.int .i64) (.pair (.int .i64) (.int .i64))) b3)], gt⟩) (fun b3 h => ?_) (fun hk_refine_together_k3 => ?_)
     ·as_aux_lemma =>
       unfold refine_together_k3 at h
       refine zo ?_
       refine zB [(2, .bp 2 0), (3, .bp 3 0), (5, .bp 5 0), (6, .fn (.func 121) [] [.bp 5 0, .bp 3 0]), (8, .bp 8 0), (17, .sl (.pair (.int .i64) (.pair (.int .i64) (.int .i64))) s.2), (18, .int .i64 (s.2.length : Int)), (19, .int .i64 st1.2), (46, .int .i64 t.1), (47, .int .i64 0)] [(2, .box 24 [.int .i64 s.1, .sl (.pair (.int .i64) (.pair (.int .i64) (.int .i64))) s.2]), (3, .box 24 [.int .i64 t.1, .sl (.pair (.int .i64) (.pair (.int .i64) (.int .i64))) t.2]), (5, .box 22 [.own 800]), (8, .box 66 [.int .i64 (s.2.getD st1.2.toNat (0, 0, 0)).1, .int .i64 (s.2.getD st1.2.toNat (0, 0, 0)).2.1, .int .i64 (s.2.getD st1.2.toNat (0, 0, 0)).2.2]), (800, .arr 66 (.pair (.int .i64) (.pair (.int .i64) (.int .i64))) b3)] ?_
       refine AW.block ?_
       obtain ⟨rv40, hw36, ho37⟩ := Option.bind_eq_some_iff.1 h
       refine AW.loopO (refine_together_b3 s t st1) (fun st3 => ⟨fr [(2, .bp 2 0), (3, .bp 3 0), (5, .bp 5 0), (6, .fn (.func 121) [] [.bp 5 0, .bp 3 0]), (8, .bp 8 0), (17, .sl (.pair (.int .i64) (.pair (.int .i64) (.int .i64))) s.2), (18, .int .i64 (s.2.length : Int)), (19, .int .i64 st1.2), (46, .int .i64 t.1), (47, .int .i64 st3.2)], hpGet [(2, .box 24 [.int .i64 s.1, .sl (.pair (.int .i64) (.pair (.int .i64) (.int .i64))) s.2]), (3, .box 24 [.int .i64 t.1, .sl (.pair (.int .i64) (.pair (.int .i64) (.int .i64))) t.2]), (5, .box 22 [.own 800]), (8, .box 66 [.int .i64 (s.2.getD st1.2.toNat (0, 0, 0)).1, .int .i64 (s.2.getD st1.2.toNat (0, 0, 0)).2.1, .int .i64 (s.2.getD st1.2.toNat (0, 0, 0)).2.2]), (800, .arr 66 (.pair (.int .i64) (.pair (.int .i64) (.int .i64))) st3.1)], gt⟩) (b3, 0) hw36 (zL [] [] []) ?_
       as_aux_lemma =>
        intro st3 x39 h hd38
        unfold refine_together_b3 at h
        refine zo ?_
        refine zB [(2, .bp 2 0), (3, .bp 3 0), (5, .bp 5 0), (6, .fn (.func 121) [] [.bp 5 0, .bp 3 0]), (8, .bp 8 0), (17, .sl (.pair (.int .i64) (.pair (.int .i64) (.int .i64))) s.2), (18, .int .i64 (s.2.length : Int)), (19, .int .i64 st1.2), (46, .int .i64 t.1), (47, .int .i64 st3.2), (48, .bool (decide (st3.2 < t.1)))] [(2, .box 24 [.int .i64 s.1, .sl (.pair (.int .i64) (.pair (.int .i64) (.int .i64))) s.2]), (3, .box 24 [.int .i64 t.1, .sl (.pair (.int .i64) (.pair (.int .i64) (.int .i64))) t.2]), (5, .box 22 [.own 800]), (8, .box 66 [.int .i64 (s.2.getD st1.2.toNat (0, 0, 0)).1, .int .i64 (s.2.getD st1.2.toNat (0, 0, 0)).2.1, .int .i64 (s.2.getD st1.2.toNat (0, 0, 0)).2.2]), (800, .arr 66 (.pair (.int .i64) (.pair (.int .i64) (.int .i64))) st3.1)] ?_
        refine AW.seq ?_
        refine zQ h (fun hb41 h => ?_) (fun hb41 h => ?_)
        ·refine zk ?_
         refine AW.seq ?_
         refine AW.block ?_
         refine zo ?_
         refine zB [(2, .bp 2 0), (3, .bp 3 0), (5, .bp 5 0), (6, .fn (.func 121) [] [.bp 5 0, .bp 3 0]), (8, .bp 8 0), (11, .int .i64 st3.2), (17, .sl (.pair (.int .i64) (.pair (.int .i64) (.int .i64))) s.2), (18, .int .i64 (s.2.length : Int)), (19, .int .i64 st1.2), (46, .int .i64 t.1), (47, .int .i64 st3.2)] [(2, .box 24 [.int .i64 s.1, .sl (.pair (.int .i64) (.pair (.int .i64) (.int .i64))) s.2]), (3, .box 24 [.int .i64 t.1, .sl (.pair (.int .i64) (.pair (.int .i64) (.int .i64))) t.2]), (5, .box 22 [.own 800]), (8, .box 66 [.int .i64 (s.2.getD st1.2.toNat (0, 0, 0)).1, .int .i64 (s.2.getD st1.2.toNat (0, 0, 0)).2.1, .int .i64 (s.2.getD st1.2.toNat (0, 0, 0)).2.2]), (800, .arr 66 (.pair (.int .i64) (.pair (.int .i64) (.int .i64))) st3.1)] ?_
         refine zo ?_
         refine zS 2 [(2, .bp 2 0), (3, .bp 3 0), (5, .bp 5 0), (6, .fn (.func 121) [] [.bp 5 0, .bp 3 0]), (8, .bp 8 0), (11, .int .i64 st3.2), (17, .sl (.pair (.int .i64) (.pair (.int .i64) (.int .i64))) s.2), (18, .int .i64 (s.2.length : Int)), (19, .int .i64 st1.2), (46, .int .i64 t.1), (47, .int .i64 st3.2), (51, .int .i64 (s.2.getD st1.2.toNat (0, 0, 0)).2.1)] [(2, .box 24 [.int .i64 s.1, .sl (.pair (.int .i64) (.pair (.int .i64) (.int .i64))) s.2]), (3, .box 24 [.int .i64 t.1, .sl (.pair (.int .i64) (.pair (.int .i64) (.int .i64))) t.2]), (5, .box 22 [.own 800]), (8, .box 66 [.int .i64 (s.2.getD st1.2.toNat (0, 0, 0)).1, .int .i64 (s.2.getD st1.2.toNat (0, 0, 0)).2.1, .int .i64 (s.2.getD st1.2.toNat (0, 0, 0)).2.2]), (800, .arr 66 (.pair (.int .i64) (.pair (.int .i64) (.int .i64))) st3.1)] ?_
         obtain ⟨v0_3, hv42, h⟩ := Option.bind_eq_some_iff.1 h
         refine zC [] [] (hc_refine_isHidden (s.2.getD st1.2.toNat (0, 0, 0)).2.1 hv42) [(2, .bp 2 0), (3, .bp 3 0), (5, .bp 5 0), (6, .fn (.func 121) [] [.bp 5 0, .bp 3 0]), (8, .bp 8 0), (11, .int .i64 st3.2), (17, .sl (.pair (.int .i64) (.pair (.int .i64) (.int .i64))) s.2), (18, .int .i64 (s.2.length : Int)), (19, .int .i64 st1.2), (46, .int .i64 t.1), (47, .int .i64 st3.2), (52, .bool (decide ((s.2.getD st1.2.toNat (0, 0, 0)).2.1 = 0)))] [(2, .box 24 [.int .i64 s.1, .sl (.pair (.int .i64) (.pair (.int .i64) (.int .i64))) s.2]), (3, .box 24 [.int .i64 t.1, .sl (.pair (.int .i64) (.pair (.int .i64) (.int .i64))) t.2]), (5, .box 22 [.own 800]), (8, .box 66 [.int .i64 (s.2.getD st1.2.toNat (0, 0, 0)).1, .int .i64 (s.2.getD st1.2.toNat (0, 0, 0)).2.1, .int .i64 (s.2.getD st1.2.toNat (0, 0, 0)).2.2]), (800, .arr 66 (.pair (.int .i64) (.pair (.int .i64) (.int .i64))) st3.1)] ?_
         refine zB [(2, .bp 2 0), (3, .bp 3 0), (5, .bp 5 0), (6, .fn (.func 121) [] [.bp 5 0, .bp 3 0]), (8, .bp 8 0), (11, .int .i64 st3.2), (17, .sl (.pair (.int .i64) (.pair (.int .i64) (.int .i64))) s.2), (18, .int .i64 (s.2.length : Int)), (19, .int .i64 st1.2), (46, .int .i64 t.1), (47, .int .i64 st3.2), (52, .bool (decide ((s.2.getD st1.2.toNat (0, 0, 0)).2.1 = 0)))] [(2, .box 24 [.int .i64 s.1, .sl (.pair (.int .i64) (.pair (.int .i64) (.int .i64))) s.2]), (3, .box 24 [.int .i64 t.1, .sl (.pair (.int .i64) (.pair (.int .i64) (.int .i64))) t.2]), (5, .box 22 [.own 800]), (8, .box 66 [.int .i64 (s.2.getD st1.2.toNat (0, 0, 0)).1, .int .i64 (s.2.getD st1.2.toNat (0, 0, 0)).2.1, .int .i64 (s.2.getD st1.2.toNat (0, 0, 0)).2.2]), (800, .arr 66 (.pair (.int .i64) (.pair (.int .i64) (.int .i64))) st3.1)] ?_
         refine zQ h (fun hb43 h => ?_) (fun hb43 h => ?_)
         ·refine AW.draw tab_ok mixed_ok [(4, [3, 5, 800, 67000])] [] (by decide) (by kernel_rfl) ?_
          as_aux_lemma =>
           refine adops_cut 3 (fun K' hK44 => ?_)
           try dsimp only [List.drop_succ_cons, List.drop_zero, List.take_succ_cons, List.take_zero]
           simp only [go_sem, hb32, hb41, hb43]
           repeat with_reducible refine zN ?_
           refine hK44 _ ?_
           as_aux_lemma =>
            obtain ⟨v0_4, hv45, h⟩ := Option.bind_eq_some_iff.1 h
            refine adops.call (by first | trivial | rfl) rfl rfl rfl (fun _ h => h) [] [] (hc_refine_stay st3.2 hv45) rfl (by (simp only [go_sem, hb32, hb41, hb43]) <;> (with_reducible and_intros) <;> first | assumption | rfl | omega | (unfold maxLen; omega)) (by (simp only [go_sem, hb32, hb41, hb43]) <;> (with_reducible and_intros) <;> first | assumption | rfl | omega | (unfold maxLen; omega)) rfl ?_
            obtain ⟨v0_5, hv46, h⟩ := Option.bind_eq_some_iff.1 h
            refine adops.call (by first | trivial | rfl) rfl rfl rfl (fun _ h => h) [] [(1000, 5), (1001, 3), (1002, 800)] (hc_refine_together_1_2 (s.2.getD st1.2.toNat (0, 0, 0)) (st3.2, 0, st3.2) t st3.1 hv46) rfl (by (simp only [go_sem, hb32, hb41, hb43]) <;> (with_reducible and_intros) <;> first | assumption | rfl | omega | (unfold maxLen; omega)) (by (simp only [go_sem, hb32, hb41, hb43]) <;> (with_reducible and_intros) <;> first | assumption | rfl | omega | (unfold maxLen; omega)) rfl ?_
            refine adops_cut 0 (fun K' hK47 => ?_)
            try dsimp only [List.drop_succ_cons, List.drop_zero, List.take_succ_cons, List.take_zero]
            simp only [go_sem, hb32, hb41, hb43]
            repeat with_reducible refine zN ?_
            refine hK47 _ ?_
            refine adops_nil ?_
            refine ablock_n ?_
            refine athen_n ?_
            refine zV [(2, .bp 2 0), (3, .bp 3 0), (5, .bp 5 0), (6, .fn (.func 121) [] [.bp 5 0, .bp 3 0]), (8, .bp 8 0), (17, .sl (.pair (.int .i64) (.pair (.int .i64) (.int .i64))) s.2), (18, .int .i64 (s.2.length : Int)), (19, .int .i64 st1.2), (46, .int .i64 t.1), (47, .int .i64 st3.2)] [(2, .box 24 [.int .i64 s.1, .sl (.pair (.int .i64) (.pair (.int .i64) (.int .i64))) s.2]), (3, .box 24 [.int .i64 t.1, .sl (.pair (.int .i64) (.pair (.int .i64) (.int .i64))) t.2]), (5, .box 22 [.own 67000]), (8, .box 66 [.int .i64 (s.2.getD st1.2.toNat (0, 0, 0)).1, .int .i64 (s.2.getD st1.2.toNat (0, 0, 0)).2.1, .int .i64 (s.2.getD st1.2.toNat (0, 0, 0)).2.2]), (67000, .arr 66 (.pair (.int .i64) (.pair (.int .i64) (.int .i64))) (st3.1 ++ [((((s.2.getD st1.2.toNat (0, 0, 0)).1 * t.1) + st3.2), (s.2.getD st1.2.toNat (0, 0, 0)).2.1, (((s.2.getD st1.2.toNat (0, 0, 0)).2.2 * t.1) + st3.2))]))] gt ?_
            as_aux_lemma =>
             refine AW.ops ?_
             obtain ⟨c48, h⟩ := ck_some.1 h
             refine zA [(2, .bp 2 0), (3, .bp 3 0), (5, .bp 5 0), (6, .fn (.func 121) [] [.bp 5 0, .bp 3 0]), (8, .bp 8 0), (17, .sl (.pair (.int .i64) (.pair (.int .i64) (.int .i64))) s.2), (18, .int .i64 (s.2.length : Int)), (19, .int .i64 st1.2), (46, .int .i64 t.1), (47, .int .i64 (st3.2 + 1))] [(2, .box 24 [.int .i64 s.1, .sl (.pair (.int .i64) (.pair (.int .i64) (.int .i64))) s.2]), (3, .box 24 [.int .i64 t.1, .sl (.pair (.int .i64) (.pair (.int .i64) (.int .i64))) t.2]), (5, .box 22 [.own 67000]), (8, .box 66 [.int .i64 (s.2.getD st1.2.toNat (0, 0, 0)).1, .int .i64 (s.2.getD st1.2.toNat (0, 0, 0)).2.1, .int .i64 (s.2.getD st1.2.toNat (0, 0, 0)).2.2]), (67000, .arr 66 (.pair (.int .i64) (.pair (.int .i64) (.int .i64))) (st3.1 ++ [((((s.2.getD st1.2.toNat (0, 0, 0)).1 * t.1) + st3.2), (s.2.getD st1.2.toNat (0, 0, 0)).2.1, (((s.2.getD st1.2.toNat (0, 0, 0)).2.2 * t.1) + st3.2))]))] ?_
             obtain rfl := Option.some.inj h
             exact ⟨_, rfl, zL [] [] [(800, 67000)]⟩
         ·refine zm ?_
          refine athen_n ?_
          refine AW.ops ?_
          obtain ⟨c49, h⟩ := ck_some.1 h
          refine zA [(2, .bp 2 0), (3, .bp 3 0), (5, .bp 5 0), (6, .fn (.func 121) [] [.bp 5 0, .bp 3 0]), (8, .bp 8 0), (17, .sl (.pair (.int .i64) (.pair (.int .i64) (.int .i64))) s.2), (18, .int .i64 (s.2.length : Int)), (19, .int .i64 st1.2), (46, .int .i64 t.1), (47, .int .i64 (st3.2 + 1))] [(2, .box 24 [.int .i64 s.1, .sl (.pair (.int .i64) (.pair (.int .i64) (.int .i64))) s.2]), (3, .box 24 [.int .i64 t.1, .sl (.pair (.int .i64) (.pair (.int .i64) (.int .i64))) t.2]), (5, .box 22 [.own 800]), (8, .box 66 [.int .i64 (s.2.getD st1.2.toNat (0, 0, 0)).1, .int .i64 (s.2.getD st1.2.toNat (0, 0, 0)).2.1, .int .i64 (s.2.getD st1.2.toNat (0, 0, 0)).2.2]), (800, .arr 66 (.pair (.int .i64) (.pair (.int .i64) (.int .i64))) st3.1)] ?_
          obtain rfl := Option.some.inj h
          exact ⟨_, rfl, zL [] [] []⟩
        ·refine AW.exit ?_
         refine athen_e ?_
         obtain rfl := Option.some.inj h
         rw [← hd38 _ rfl] at ho37
         have h := ho37
         refine athen_e ?_
         refine ablock_s ?_
         refine ablock_n ?_
         refine athen_n ?_
         exact AW.weaken (zL [] [] []) (hk_refine_together_k2 _ h)
     ·refine AW.seq ?_
      refine zo ?_
      refine zB [(2, .bp 2 0), (3, .bp 3 0), (5, .bp 5 0), (6, .fn (.func 121) [] [.bp 5 0, .bp 3 0]), (8, .bp 8 0), (17, .sl (.pair (.int .i64) (.pair (.int .i64) (.int .i64))) s.2), (18, .int .i64 (s.2.length : Int)), (19, .int .i64 st1.2), (24, .sl (.pair (.int .i64) (.pair (.int .i64) (.int .i64))) t.2), (25, .int .i64 (t.2.length : Int)), (26, .int .i64 0)] [(2, .box 24 [.int .i64 s.1, .sl (.pair (.int .i64) (.pair (.int .i64) (.int .i64))) s.2]), (3, .box 24 [.int .i64 t.1, .sl (.pair (.int .i64) (.pair (.int .i64) (.int .i64))) t.2]), (5, .box 22 [.own 800]), (8, .box 66 [.int .i64 (s.2.getD st1.2.toNat (0, 0, 0)).1, .int .i64 (s.2.getD st1.2.toNat (0, 0, 0)).2.1, .int .i64 (s.2.getD st1.2.toNat (0, 0, 0)).2.2]), (800, .arr 66 (.pair (.int .i64) (.pair (.int .i64) (.int .i64))) st1.1)] ?_
      refine AW.block ?_
      obtain ⟨rv54, hw50, ho51⟩ := Option.bind_eq_some_iff.1 h
      refine AW.loopO (refine_together_b2 s t st1) (fun st2 => ⟨fr [(2, .bp 2 0), (3, .bp 3 0), (5, .bp 5 0), (6, .fn (.func 121) [] [.bp 5 0, .bp 3 0]), (8, .bp 8 0), (17, .sl (.pair (.int .i64) (.pair (.int .i64) (.int .i64))) s.2), (18, .int .i64 (s.2.length : Int)), (19, .int .i64 st1.2), (24, .sl (.pair (.int .i64) (.pair (.int .i64) (.int .i64))) t.2), (25, .int .i64 (t.2.length : Int)), (26, .int .i64 st2.2)], hpGet [(2, .box 24 [.int .i64 s.1, .sl (.pair (.int .i64) (.pair (.int .i64) (.int .i64))) s.2]), (3, .box 24 [.int .i64 t.1, .sl (.pair (.int .i64) (.pair (.int .i64) (.int .i64))) t.2]), (5, .box 22 [.own 800]), (8, .box 66 [.int .i64 (s.2.getD st1.2.toNat (0, 0, 0)).1, .int .i64 (s.2.getD st1.2.toNat (0, 0, 0)).2.1, .int .i64 (s.2.getD st1.2.toNat (0, 0, 0)).2.2]), (800, .arr 66 (.pair (.int .i64) (.pair (.int .i64) (.int .i64))) st2.1)], gt⟩) (st1.1, 0) hw50 (zL [] [] []) ?_
      as_aux_lemma =>
       intro st2 x53 h hd52
       unfold refine_together_b2 at h
       refine zo ?_
       refine zB [(2, .bp 2 0), (3, .bp 3 0), (5, .bp 5 0), (6, .fn (.func 121) [] [.bp 5 0, .bp 3 0]), (8, .bp 8 0), (17, .sl (.pair (.int .i64) (.pair (.int .i64) (.int .i64))) s.2), (18, .int .i64 (s.2.length : Int)), (19, .int .i64 st1.2), (24, .sl (.pair (.int .i64) (.pair (.int .i64) (.int .i64))) t.2), (25, .int .i64 (t.2.length : Int)), (26, .int .i64 st2.2), (27, .bool (decide (st2.2 < (t.2.length : Int))))] [(2, .box 24 [.int .i64 s.1, .sl (.pair (.int .i64) (.pair (.int .i64) (.int .i64))) s.2]), (3, .box 24 [.int .i64 t.1, .sl (.pair (.int .i64) (.pair (.int .i64) (.int .i64))) t.2]), (5, .box 22 [.own 800]), (8, .box 66 [.int .i64 (s.2.getD st1.2.toNat (0, 0, 0)).1, .int .i64 (s.2.getD st1.2.toNat (0, 0, 0)).2.1, .int .i64 (s.2.getD st1.2.toNat (0, 0, 0)).2.2]), (800, .arr 66 (.pair (.int .i64) (.pair (.int .i64) (.int .i64))) st2.1)] ?_
       refine AW.seq ?_
       refine zQ h (fun hb55 h => ?_) (fun hb55 h => ?_)
       ·refine zk ?_
        refine AW.seq ?_
        refine AW.block ?_
        refine zo ?_
        obtain ⟨c56, h⟩ := ck_some.1 h
        obtain ⟨c57, h⟩ := ck_some.1 h
        refine zB [(2, .bp 2 0), (3, .bp 3 0), (5, .bp 5 0), (6, .fn (.func 121) [] [.bp 5 0, .bp 3 0]), (8, .bp 8 0), (10, .bp 10 0), (17, .sl (.pair (.int .i64) (.pair (.int .i64) (.int .i64))) s.2), (18, .int .i64 (s.2.length : Int)), (19, .int .i64 st1.2), (24, .sl (.pair (.int .i64) (.pair (.int .i64) (.int .i64))) t.2), (25, .int .i64 (t.2.length : Int)), (26, .int .i64 st2.2)] [(2, .box 24 [.int .i64 s.1, .sl (.pair (.int .i64) (.pair (.int .i64) (.int .i64))) s.2]), (3, .box 24 [.int .i64 t.1, .sl (.pair (.int .i64) (.pair (.int .i64) (.int .i64))) t.2]), (5, .box 22 [.own 800]), (8, .box 66 [.int .i64 (s.2.getD st1.2.toNat (0, 0, 0)).1, .int .i64 (s.2.getD st1.2.toNat (0, 0, 0)).2.1, .int .i64 (s.2.getD st1.2.toNat (0, 0, 0)).2.2]), (10, .box 66 [.int .i64 (t.2.getD st2.2.toNat (0, 0, 0)).1, .int .i64 (t.2.getD st2.2.toNat (0, 0, 0)).2.1, .int .i64 (t.2.getD st2.2.toNat (0, 0, 0)).2.2]), (800, .arr 66 (.pair (.int .i64) (.pair (.int .i64) (.int .i64))) st2.1)] ?_
        refine zo ?_
        refine zS 5 [(2, .bp 2 0), (3, .bp 3 0), (5, .bp 5 0), (6, .fn (.func 121) [] [.bp 5 0, .bp 3 0]), (8, .bp 8 0), (10, .bp 10 0), (17, .sl (.pair (.int .i64) (.pair (.int .i64) (.int .i64))) s.2), (18, .int .i64 (s.2.length : Int)), (19, .int .i64 st1.2), (24, .sl (.pair (.int .i64) (.pair (.int .i64) (.int .i64))) t.2), (25, .int .i64 (t.2.length : Int)), (26, .int .i64 st2.2), (34, .bool (decide ((s.2.getD st1.2.toNat (0, 0, 0)).2.1 = (t.2.getD st2.2.toNat (0, 0, 0)).2.1)))] [(2, .box 24 [.int .i64 s.1, .sl (.pair (.int .i64) (.pair (.int .i64) (.int .i64))) s.2]), (3, .box 24 [.int .i64 t.1, .sl (.pair (.int .i64) (.pair (.int .i64) (.int .i64))) t.2]), (5, .box 22 [.own 800]), (8, .box 66 [.int .i64 (s.2.getD st1.2.toNat (0, 0, 0)).1, .int .i64 (s.2.getD st1.2.toNat (0, 0, 0)).2.1, .int .i64 (s.2.getD st1.2.toNat (0, 0, 0)).2.2]), (10, .box 66 [.int .i64 (t.2.getD st2.2.toNat (0, 0, 0)).1, .int .i64 (t.2.getD st2.2.toNat (0, 0, 0)).2.1, .int .i64 (t.2.getD st2.2.toNat (0, 0, 0)).2.2]), (800, .arr 66 (.pair (.int .i64) (.pair (.int .i64) (.int .i64))) st2.1)] ?_
        refine zS 1 [(2, .bp 2 0), (3, .bp 3 0), (5, .bp 5 0), (6, .fn (.func 121) [] [.bp 5 0, .bp 3 0]), (8, .bp 8 0), (10, .bp 10 0), (17, .sl (.pair (.int .i64) (.pair (.int .i64) (.int .i64))) s.2), (18, .int .i64 (s.2.length : Int)), (19, .int .i64 st1.2), (24, .sl (.pair (.int .i64) (.pair (.int .i64) (.int .i64))) t.2), (25, .int .i64 (t.2.length : Int)), (26, .int .i64 st2.2), (35, .bool (decide ((s.2.getD st1.2.toNat (0, 0, 0)).2.1 = (t.2.getD st2.2.toNat (0, 0, 0)).2.1)))] [(2, .box 24 [.int .i64 s.1, .sl (.pair (.int .i64) (.pair (.int .i64) (.int .i64))) s.2]), (3, .box 24 [.int .i64 t.1, .sl (.pair (.int .i64) (.pair (.int .i64) (.int .i64))) t.2]), (5, .box 22 [.own 800]), (8, .box 66 [.int .i64 (s.2.getD st1.2.toNat (0, 0, 0)).1, .int .i64 (s.2.getD st1.2.toNat (0, 0, 0)).2.1, .int .i64 (s.2.getD st1.2.toNat (0, 0, 0)).2.2]), (10, .box 66 [.int .i64 (t.2.getD st2.2.toNat (0, 0, 0)).1, .int .i64 (t.2.getD st2.2.toNat (0, 0, 0)).2.1, .int .i64 (t.2.getD st2.2.toNat (0, 0, 0)).2.2]), (800, .arr 66 (.pair (.int .i64) (.pair (.int .i64) (.int .i64))) st2.1)] ?_
        rcases zI h with ⟨hb58, h⟩ | ⟨hb58, h⟩
        ·refine zS 2 [(2, .bp 2 0), (3, .bp 3 0), (5, .bp 5 0), (6, .fn (.func 121) [] [.bp 5 0, .bp 3 0]), (8, .bp 8 0), (10, .bp 10 0), (17, .sl (.pair (.int .i64) (.pair (.int .i64) (.int .i64))) s.2), (18, .int .i64 (s.2.length : Int)), (19, .int .i64 st1.2), (24, .sl (.pair (.int .i64) (.pair (.int .i64) (.int .i64))) t.2), (25, .int .i64 (t.2.length : Int)), (26, .int .i64 st2.2), (35, .bool true), (37, .int .i64 (s.2.getD st1.2.toNat (0, 0, 0)).2.1)] [(2, .box 24 [.int .i64 s.1, .sl (.pair (.int .i64) (.pair (.int .i64) (.int .i64))) s.2]), (3, .box 24 [.int .i64 t.1, .sl (.pair (.int .i64) (.pair (.int .i64) (.int .i64))) t.2]), (5, .box 22 [.own 800]), (8, .box 66 [.int .i64 (s.2.getD st1.2.toNat (0, 0, 0)).1, .int .i64 (s.2.getD st1.2.toNat (0, 0, 0)).2.1, .int .i64 (s.2.getD st1.2.toNat (0, 0, 0)).2.2]), (10, .box 66 [.int .i64 (t.2.getD st2.2.toNat (0, 0, 0)).1, .int .i64 (t.2.getD st2.2.toNat (0, 0, 0)).2.1, .int .i64 (t.2.getD st2.2.toNat (0, 0, 0)).2.2]), (800, .arr 66 (.pair (.int .i64) (.pair (.int .i64) (.int .i64))) st2.1)] ?_
         obtain ⟨v0, hv59, h⟩ := Option.bind_eq_some_iff.1 h
         refine zG [] [] (hc_refine_isSeen (s.2.getD st1.2.toNat (0, 0, 0)).2.1 hv59) [(2, .bp 2 0), (3, .bp 3 0), (5, .bp 5 0), (6, .fn (.func 121) [] [.bp 5 0, .bp 3 0]), (8, .bp 8 0), (10, .bp 10 0), (17, .sl (.pair (.int .i64) (.pair (.int .i64) (.int .i64))) s.2), (18, .int .i64 (s.2.length : Int)), (19, .int .i64 st1.2), (24, .sl (.pair (.int .i64) (.pair (.int .i64) (.int .i64))) t.2), (25, .int .i64 (t.2.length : Int)), (26, .int .i64 st2.2), (35, .bool true), (38, .bool v0)] [(2, .box 24 [.int .i64 s.1, .sl (.pair (.int .i64) (.pair (.int .i64) (.int .i64))) s.2]), (3, .box 24 [.int .i64 t.1, .sl (.pair (.int .i64) (.pair (.int .i64) (.int .i64))) t.2]), (5, .box 22 [.own 800]), (8, .box 66 [.int .i64 (s.2.getD st1.2.toNat (0, 0, 0)).1, .int .i64 (s.2.getD st1.2.toNat (0, 0, 0)).2.1, .int .i64 (s.2.getD st1.2.toNat (0, 0, 0)).2.2]), (10, .box 66 [.int .i64 (t.2.getD st2.2.toNat (0, 0, 0)).1, .int .i64 (t.2.getD st2.2.toNat (0, 0, 0)).2.1, .int .i64 (t.2.getD st2.2.toNat (0, 0, 0)).2.2]), (800, .arr 66 (.pair (.int .i64) (.pair (.int .i64) (.int .i64))) st2.1)] ?_
         refine zB [(2, .bp 2 0), (3, .bp 3 0), (5, .bp 5 0), (6, .fn (.func 121) [] [.bp 5 0, .bp 3 0]), (8, .bp 8 0), (10, .bp 10 0), (17, .sl (.pair (.int .i64) (.pair (.int .i64) (.int .i64))) s.2), (18, .int .i64 (s.2.length : Int)), (19, .int .i64 st1.2), (24, .sl (.pair (.int .i64) (.pair (.int .i64) (.int .i64))) t.2), (25, .int .i64 (t.2.length : Int)), (26, .int .i64 st2.2), (39, .bool v0)] [(2, .box 24 [.int .i64 s.1, .sl (.pair (.int .i64) (.pair (.int .i64) (.int .i64))) s.2]), (3, .box 24 [.int .i64 t.1, .sl (.pair (.int .i64) (.pair (.int .i64) (.int .i64))) t.2]), (5, .box 22 [.own 800]), (8, .box 66 [.int .i64 (s.2.getD st1.2.toNat (0, 0, 0)).1, .int .i64 (s.2.getD st1.2.toNat (0, 0, 0)).2.1, .int .i64 (s.2.getD st1.2.toNat (0, 0, 0)).2.2]), (10, .box 66 [.int .i64 (t.2.getD st2.2.toNat (0, 0, 0)).1, .int .i64 (t.2.getD st2.2.toNat (0, 0, 0)).2.1, .int .i64 (t.2.getD st2.2.toNat (0, 0, 0)).2.2]), (800, .arr 66 (.pair (.int .i64) (.pair (.int .i64) (.int .i64))) st2.1)] ?_
         refine zQ h (fun hb60 h => ?_) (fun hb60 h => ?_)
         ·refine AW.ops ?_
          refine zS 3 [(2, .bp 2 0), (3, .bp 3 0), (5, .bp 5 0), (6, .fn (.func 121) [] [.bp 5 0, .bp 3 0]), (8, .bp 8 0), (17, .sl (.pair (.int .i64) (.pair (.int .i64) (.int .i64))) s.2), (18, .int .i64 (s.2.length : Int)), (19, .int .i64 st1.2), (24, .sl (.pair (.int .i64) (.pair (.int .i64) (.int .i64))) t.2), (25, .int .i64 (t.2.length : Int)), (26, .int .i64 st2.2), (40, .fn (.func 121) [] [.bp 5 0, .bp 3 0]), (41, .agg [.int .i64 (s.2.getD st1.2.toNat (0, 0, 0)).1, .int .i64 (s.2.getD st1.2.toNat (0, 0, 0)).2.1, .int .i64 (s.2.getD st1.2.toNat (0, 0, 0)).2.2]), (42, .agg [.int .i64 (t.2.getD st2.2.toNat (0, 0, 0)).1, .int .i64 (t.2.getD st2.2.toNat (0, 0, 0)).2.1, .int .i64 (t.2.getD st2.2.toNat (0, 0, 0)).2.2])] [(2, .box 24 [.int .i64 s.1, .sl (.pair (.int .i64) (.pair (.int .i64) (.int .i64))) s.2]), (3, .box 24 [.int .i64 t.1, .sl (.pair (.int .i64) (.pair (.int .i64) (.int .i64))) t.2]), (5, .box 22 [.own 800]), (8, .box 66 [.int .i64 (s.2.getD st1.2.toNat (0, 0, 0)).1, .int .i64 (s.2.getD st1.2.toNat (0, 0, 0)).2.1, .int .i64 (s.2.getD st1.2.toNat (0, 0, 0)).2.2]), (800, .arr 66 (.pair (.int .i64) (.pair (.int .i64) (.int .i64))) st2.1)] ?_
          obtain ⟨v0_2, hv61, h⟩ := Option.bind_eq_some_iff.1 h
          refine zC [] [(1000, 5), (1001, 3), (1002, 800)] (hc_refine_together_1_2 (s.2.getD st1.2.toNat (0, 0, 0)) (t.2.getD st2.2.toNat (0, 0, 0)) t st2.1 hv61) [(2, .bp 2 0), (3, .bp 3 0), (5, .bp 5 0), (6, .fn (.func 121) [] [.bp 5 0, .bp 3 0]), (8, .bp 8 0), (17, .sl (.pair (.int .i64) (.pair (.int .i64) (.int .i64))) s.2), (18, .int .i64 (s.2.length : Int)), (19, .int .i64 st1.2), (24, .sl (.pair (.int .i64) (.pair (.int .i64) (.int .i64))) t.2), (25, .int .i64 (t.2.length : Int)), (26, .int .i64 st2.2)] [(2, .box 24 [.int .i64 s.1, .sl (.pair (.int .i64) (.pair (.int .i64) (.int .i64))) s.2]), (3, .box 24 [.int .i64 t.1, .sl (.pair (.int .i64) (.pair (.int .i64) (.int .i64))) t.2]), (5, .box 22 [.own 53000]), (8, .box 66 [.int .i64 (s.2.getD st1.2.toNat (0, 0, 0)).1, .int .i64 (s.2.getD st1.2.toNat (0, 0, 0)).2.1, .int .i64 (s.2.getD st1.2.toNat (0, 0, 0)).2.2]), (53000, .arr 66 (.pair (.int .i64) (.pair (.int .i64) (.int .i64))) (st2.1 ++ [((((s.2.getD st1.2.toNat (0, 0, 0)).1 * t.1) + (t.2.getD st2.2.toNat (0, 0, 0)).1), (s.2.getD st1.2.toNat (0, 0, 0)).2.1, (((s.2.getD st1.2.toNat (0, 0, 0)).2.2 * t.1) + (t.2.getD st2.2.toNat (0, 0, 0)).2.2))]))] ?_
          refine zA [(2, .bp 2 0), (3, .bp 3 0), (5, .bp 5 0), (6, .fn (.func 121) [] [.bp 5 0, .bp 3 0]), (8, .bp 8 0), (17, .sl (.pair (.int .i64) (.pair (.int .i64) (.int .i64))) s.2), (18, .int .i64 (s.2.length : Int)), (19, .int .i64 st1.2), (24, .sl (.pair (.int .i64) (.pair (.int .i64) (.int .i64))) t.2), (25, .int .i64 (t.2.length : Int)), (26, .int .i64 st2.2)] [(2, .box 24 [.int .i64 s.1, .sl (.pair (.int .i64) (.pair (.int .i64) (.int .i64))) s.2]), (3, .box 24 [.int .i64 t.1, .sl (.pair (.int .i64) (.pair (.int .i64) (.int .i64))) t.2]), (5, .box 22 [.own 53000]), (8, .box 66 [.int .i64 (s.2.getD st1.2.toNat (0, 0, 0)).1, .int .i64 (s.2.getD st1.2.toNat (0, 0, 0)).2.1, .int .i64 (s.2.getD st1.2.toNat (0, 0, 0)).2.2]), (53000, .arr 66 (.pair (.int .i64) (.pair (.int .i64) (.int .i64))) (st2.1 ++ [((((s.2.getD st1.2.toNat (0, 0, 0)).1 * t.1) + (t.2.getD st2.2.toNat (0, 0, 0)).1), (s.2.getD st1.2.toNat (0, 0, 0)).2.1, (((s.2.getD st1.2.toNat (0, 0, 0)).2.2 * t.1) + (t.2.getD st2.2.toNat (0, 0, 0)).2.2))]))] ?_
          refine ablock_n ?_
          refine athen_n ?_
          refine AW.ops ?_
          obtain ⟨c62, h⟩ := ck_some.1 h
          refine zA [(2, .bp 2 0), (3, .bp 3 0), (5, .bp 5 0), (6, .fn (.func 121) [] [.bp 5 0, .bp 3 0]), (8, .bp 8 0), (17, .sl (.pair (.int .i64) (.pair (.int .i64) (.int .i64))) s.2), (18, .int .i64 (s.2.length : Int)), (19, .int .i64 st1.2), (24, .sl (.pair (.int .i64) (.pair (.int .i64) (.int .i64))) t.2), (25, .int .i64 (t.2.length : Int)), (26, .int .i64 (st2.2 + 1))] [(2, .box 24 [.int .i64 s.1, .sl (.pair (.int .i64) (.pair (.int .i64) (.int .i64))) s.2]), (3, .box 24 [.int .i64 t.1, .sl (.pair (.int .i64) (.pair (.int .i64) (.int .i64))) t.2]), (5, .box 22 [.own 53000]), (8, .box 66 [.int .i64 (s.2.getD st1.2.toNat (0, 0, 0)).1, .int .i64 (s.2.getD st1.2.toNat (0, 0, 0)).2.1, .int .i64 (s.2.getD st1.2.toNat (0, 0, 0)).2.2]), (53000, .arr 66 (.pair (.int .i64) (.pair (.int .i64) (.int .i64))) (st2.1 ++ [((((s.2.getD st1.2.toNat (0, 0, 0)).1 * t.1) + (t.2.getD st2.2.toNat (0, 0, 0)).1), (s.2.getD st1.2.toNat (0, 0, 0)).2.1, (((s.2.getD st1.2.toNat (0, 0, 0)).2.2 * t.1) + (t.2.getD st2.2.toNat (0, 0, 0)).2.2))]))] ?_
          obtain rfl := Option.some.inj h
          exact ⟨_, rfl, zL [] [] [(800, 53000)]⟩
         ·refine zm ?_
          refine athen_n ?_
          refine AW.ops ?_
          obtain ⟨c63, h⟩ := ck_some.1 h
          refine zA [(2, .bp 2 0), (3, .bp 3 0), (5, .bp 5 0), (6, .fn (.func 121) [] [.bp 5 0, .bp 3 0]), (8, .bp 8 0), (17, .sl (.pair (.int .i64) (.pair (.int .i64) (.int .i64))) s.2), (18, .int .i64 (s.2.length : Int)), (19, .int .i64 st1.2), (24, .sl (.pair (.int .i64) (.pair (.int .i64) (.int .i64))) t.2), (25, .int .i64 (t.2.length : Int)), (26, .int .i64 (st2.2 + 1))] [(2, .box 24 [.int .i64 s.1, .sl (.pair (.int .i64) (.pair (.int .i64) (.int .i64))) s.2]), (3, .box 24 [.int .i64 t.1, .sl (.pair (.int .i64) (.pair (.int .i64) (.int .i64))) t.2]), (5, .box 22 [.own 800]), (8, .box 66 [.int .i64 (s.2.getD st1.2.toNat (0, 0, 0)).1, .int .i64 (s.2.getD st1.2.toNat (0, 0, 0)).2.1, .int .i64 (s.2.getD st1.2.toNat (0, 0, 0)).2.2]), (800, .arr 66 (.pair (.int .i64) (.pair (.int .i64) (.int .i64))) st2.1)] ?_
          obtain rfl := Option.some.inj h
          exact ⟨_, rfl, zL [] [] []⟩
        ·refine zB [(2, .bp 2 0), (3, .bp 3 0), (5, .bp 5 0), (6, .fn (.func 121) [] [.bp 5 0, .bp 3 0]), (8, .bp 8 0), (10, .bp 10 0), (17, .sl (.pair (.int .i64) (.pair (.int .i64) (.int .i64))) s.2), (18, .int .i64 (s.2.length : Int)), (19, .int .i64 st1.2), (24, .sl (.pair (.int .i64) (.pair (.int .i64) (.int .i64))) t.2), (25, .int .i64 (t.2.length : Int)), (26, .int .i64 st2.2), (39, .bool false)] [(2, .box 24 [.int .i64 s.1, .sl (.pair (.int .i64) (.pair (.int .i64) (.int .i64))) s.2]), (3, .box 24 [.int .i64 t.1, .sl (.pair (.int .i64) (.pair (.int .i64) (.int .i64))) t.2]), (5, .box 22 [.own 800]), (8, .box 66 [.int .i64 (s.2.getD st1.2.toNat (0, 0, 0)).1, .int .i64 (s.2.getD st1.2.toNat (0, 0, 0)).2.1, .int .i64 (s.2.getD st1.2.toNat (0, 0, 0)).2.2]), (10, .box 66 [.int .i64 (t.2.getD st2.2.toNat (0, 0, 0)).1, .int .i64 (t.2.getD st2.2.toNat (0, 0, 0)).2.1, .int .i64 (t.2.getD st2.2.toNat (0, 0, 0)).2.2]), (800, .arr 66 (.pair (.int .i64) (.pair (.int .i64) (.int .i64))) st2.1)] ?_
         refine AW.cond (b := false) rfl (fun hb64 => by cases hb64) (fun _ => ?_)
         refine zm ?_
         refine athen_n ?_
         refine AW.ops ?_
         obtain ⟨c65, h⟩ := ck_some.1 h
         refine zA [(2, .bp 2 0), (3, .bp 3 0), (5, .bp 5 0), (6, .fn (.func 121) [] [.bp 5 0, .bp 3 0]), (8, .bp 8 0), (17, .sl (.pair (.int .i64) (.pair (.int .i64) (.int .i64))) s.2), (18, .int .i64 (s.2.length : Int)), (19, .int .i64 st1.2), (24, .sl (.pair (.int .i64) (.pair (.int .i64) (.int .i64))) t.2), (25, .int .i64 (t.2.length : Int)), (26, .int .i64 (st2.2 + 1))] [(2, .box 24 [.int .i64 s.1, .sl (.pair (.int .i64) (.pair (.int .i64) (.int .i64))) s.2]), (3, .box 24 [.int .i64 t.1, .sl (.pair (.int .i64) (.pair (.int .i64) (.int .i64))) t.2]), (5, .box 22 [.own 800]), (8, .box 66 [.int .i64 (s.2.getD st1.2.toNat (0, 0, 0)).1, .int .i64 (s.2.getD st1.2.toNat (0, 0, 0)).2.1, .int .i64 (s.2.getD st1.2.toNat (0, 0, 0)).2.2]), (800, .arr 66 (.pair (.int .i64) (.pair (.int .i64) (.int .i64))) st2.1)] ?_
         obtain rfl := Option.some.inj h
         exact ⟨_, rfl, zL [] [] []⟩
       ·refine AW.exit ?_
        refine athen_e ?_
        obtain rfl := Option.some.inj h
        rw [← hd52 _ rfl] at ho51
        have h := ho51
        refine athen_e ?_
        refine ablock_s ?_
        refine athen_n ?_
        exact AW.weaken (zL [] [] []) (hk_refine_together_k3 _ h)
   ·refine AW.exit ?_
    refine athen_e ?_
    obtain rfl := Option.some.inj h
    rw [← hd29 _ rfl] at ho28
    have h := ho28
    refine athen_e ?_
    refine ablock_s ?_
    refine athen_n ?_
    exact AW.weaken (zL [] [] []) (hk_refine_together_k1 _ h)

end Go.Proofs.Ytifleoceebaooaa
