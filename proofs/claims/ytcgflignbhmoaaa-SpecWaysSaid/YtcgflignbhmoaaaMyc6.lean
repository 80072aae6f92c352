/-
  Made by wip/tool/dc.py out of the print of the program: contracts.
-/
import Derived.Test.YtcgflignbhmoaaaQp
import Derived.Test.YtcgflignbhmoaaaShs
import Derived.Test.YtcgflignbhmoaaaAvd
namespace Go.Proofs.Ytcgflignbhmoaaa
open Go.RowKit

set_option linter.unusedSimpArgs false
set_option linter.unusedVariables false
set_option linter.constructorNameAsVariable false

set_option maxRecDepth 100000
set_option maxHeartbeats 2000000

theorem hc_linealref01_far (s : Int × Int × (List (List Int)) × (List (List Int))) (t : Int × Int × (List (List Int)) × (List (List Int))) {r : (List (List Int))} (h : linealref01_far s t = some r) : HC Try.prog 82 [] [.agg [.int .i64 s.1, .int .i64 s.2.1, .sl (.sl (.int .i64)) s.2.2.1, .sl (.sl (.int .i64)) s.2.2.2], .agg [.int .i64 t.1, .int .i64 t.2.1, .sl (.sl (.int .i64)) t.2.2.1, .sl (.sl (.int .i64)) t.2.2.2]] [] (.sl (.sl (.int .i64)) r) := by
 unfold linealref01_far at h
 refine zH Try.func82 [.tmp 4] 121 ?_
 refine zo ?_
 refine zB [(2, .bp 2 0), (3, .bp 3 0)] [(2, .box 24 [.int .i64 s.1, .int .i64 s.2.1, .sl (.sl (.int .i64)) s.2.2.1, .sl (.sl (.int .i64)) s.2.2.2]), (3, .box 24 [.int .i64 t.1, .int .i64 t.2.1, .sl (.sl (.int .i64)) t.2.2.1, .sl (.sl (.int .i64)) t.2.2.2])] ?_
 refine zo ?_
 refine zS 2 [(2, .bp 2 0), (3, .bp 3 0), (13, .int .i64 s.1)] [(2, .box 24 [.int .i64 s.1, .int .i64 s.2.1, .sl (.sl (.int .i64)) s.2.2.1, .sl (.sl (.int .i64)) s.2.2.2]), (3, .box 24 [.int .i64 t.1, .int .i64 t.2.1, .sl (.sl (.int .i64)) t.2.2.1, .sl (.sl (.int .i64)) t.2.2.2])] ?_
 obtain ⟨c1, h⟩ := ck_some.1 h
 obtain ⟨c2, h⟩ := ck_some.1 h
 obtain ⟨c3, h⟩ := ck_some.1 h
 refine AO.rowsNew tab_ok 3 (.int .i64) rfl (by decide) (by decide) rfl rfl tab_22 rfl tab_25 rfl rfl rfl rfl (by first | assumption | omega | (simp only [go_sem]) <;> (with_reducible and_intros) <;> first | assumption | rfl | omega | (unfold maxLen; omega)) (by first | assumption | omega | (simp only [go_sem]) <;> (with_reducible and_intros) <;> first | assumption | rfl | omega | (unfold maxLen; omega)) (by first | assumption | omega | (simp only [go_sem]) <;> (with_reducible and_intros) <;> first | assumption | rfl | omega | (unfold maxLen; omega)) rfl rfl rfl ?_
 refine zT [(2, .bp 2 0), (3, .bp 3 0), (14, .own 14)] (two [(14, .obx 25 (rowsC 14 (List.length (List.replicate s.1.toNat ([] : List Int))))), (2, .box 24 [.int .i64 s.1, .int .i64 s.2.1, .sl (.sl (.int .i64)) s.2.2.1, .sl (.sl (.int .i64)) s.2.2.2]), (3, .box 24 [.int .i64 t.1, .int .i64 t.2.1, .sl (.sl (.int .i64)) t.2.2.1, .sl (.sl (.int .i64)) t.2.2.2])] (rowsL 14 3 (.int .i64) (List.replicate s.1.toNat ([] : List Int)))) gt ?_
 refine zB [(2, .bp 2 0), (3, .bp 3 0), (5, .own 14)] (two [(14, .obx 25 (rowsC 14 (List.length (List.replicate s.1.toNat ([] : List Int))))), (2, .box 24 [.int .i64 s.1, .int .i64 s.2.1, .sl (.sl (.int .i64)) s.2.2.1, .sl (.sl (.int .i64)) s.2.2.2]), (3, .box 24 [.int .i64 t.1, .int .i64 t.2.1, .sl (.sl (.int .i64)) t.2.2.1, .sl (.sl (.int .i64)) t.2.2.2])] (rowsL 14 3 (.int .i64) (List.replicate s.1.toNat ([] : List Int)))) ?_
 refine AW.have1 (fun b1 : (List (List Int)) => linealref01_far_k1 s t b1 = some r) (fun b1 => ⟨fr [(2, .bp 2 0), (3, .bp 3 0), (5, .own 14)], hpGet (two [(14, .obx 25 (rowsC 14 (List.length b1))), (2, .box 24 [.int .i64 s.1, .int .i64 s.2.1, .sl (.sl (.int .i64)) s.2.2.1, .sl (.sl (.int .i64)) s.2.2.2]), (3, .box 24 [.int .i64 t.1, .int .i64 t.2.1, .sl (.sl (.int .i64)) t.2.2.1, .sl (.sl (.int .i64)) t.2.2.2])] (rowsL 14 3 (.int .i64) b1)), gt⟩) (fun b1 h => ?_) (fun hk_linealref01_far_k1 => ?_)
 ·as_aux_lemma =>
   unfold linealref01_far_k1 at h
   refine AW.have1 (fun b5_4 : (List (List Int)) => linealref01_far_k2 b5_4 = some r) (fun b5_4 => ⟨fr [(5, .own 14)], hpGet (two [(14, .obx 25 (rowsC 14 (List.length b5_4)))] (rowsL 14 3 (.int .i64) b5_4)), gt⟩) (fun b5_4 h => ?_) (fun hk_linealref01_far_k2 => ?_)
   ·as_aux_lemma =>
     unfold linealref01_far_k2 at h
     refine zo ?_
     refine zB [(4, .own 14)] (two [(14, .obx 25 (rowsC 14 (List.length b5_4)))] (rowsL 14 3 (.int .i64) b5_4)) ?_
     refine AW.weaken (Wk.rowsRest (b := 14) (i0 := 4) rfl rfl rfl (by decide) (by decide) rfl) ?_
     refine AW.weaken (s' := ⟨fr [(4, .sl (.sl (.int .i64)) b5_4)], hpGet [], gt⟩) (Wk.to (by simp only [go_sem])) ?_
     refine AW.ret ?_
     obtain rfl := Option.some.inj h
     exact zR [] [] []
   ·refine AW.seq ?_
    refine zo ?_
    refine zB [(2, .bp 2 0), (3, .bp 3 0), (5, .own 14), (7, .int .i64 1)] (two [(14, .obx 25 (rowsC 14 (List.length b1))), (2, .box 24 [.int .i64 s.1, .int .i64 s.2.1, .sl (.sl (.int .i64)) s.2.2.1, .sl (.sl (.int .i64)) s.2.2.2]), (3, .box 24 [.int .i64 t.1, .int .i64 t.2.1, .sl (.sl (.int .i64)) t.2.2.1, .sl (.sl (.int .i64)) t.2.2.2])] (rowsL 14 3 (.int .i64) b1)) ?_
    refine AW.block ?_
    obtain ⟨rv8, hw4, ho5⟩ := Option.bind_eq_some_iff.1 h
    refine AW.loopO (linealref01_far_b2 s t) (fun st2 => ⟨fr [(2, .bp 2 0), (3, .bp 3 0), (5, .own 14), (7, .int .i64 st2.2)], hpGet (two [(14, .obx 25 (rowsC 14 (List.length st2.1))), (2, .box 24 [.int .i64 s.1, .int .i64 s.2.1, .sl (.sl (.int .i64)) s.2.2.1, .sl (.sl (.int .i64)) s.2.2.2]), (3, .box 24 [.int .i64 t.1, .int .i64 t.2.1, .sl (.sl (.int .i64)) t.2.2.1, .sl (.sl (.int .i64)) t.2.2.2])] (rowsL 14 3 (.int .i64) st2.1)), gt⟩) (b1, 1) hw4 (Wk.leTwo [] [] [] rfl rfl rfl rfl rfl rfl rfl rfl rfl (by (simp only [go_sem]) <;> (with_reducible and_intros) <;> first | assumption | rfl | omega | (unfold maxLen; omega)) (by (simp only [go_sem]) <;> (with_reducible and_intros) <;> first | assumption | rfl | omega | (unfold maxLen; omega))) ?_
    as_aux_lemma =>
     intro st2 x7 h hd6
     unfold linealref01_far_b2 at h
     refine AW.seq ?_
     refine zo ?_
     refine zS 5 [(2, .bp 2 0), (3, .bp 3 0), (5, .own 14), (7, .int .i64 st2.2), (27, .int .i64 st2.2), (29, .int .i64 s.1), (31, .int .i64 t.1)] (two [(14, .obx 25 (rowsC 14 (List.length st2.1))), (2, .box 24 [.int .i64 s.1, .int .i64 s.2.1, .sl (.sl (.int .i64)) s.2.2.1, .sl (.sl (.int .i64)) s.2.2.2]), (3, .box 24 [.int .i64 t.1, .int .i64 t.2.1, .sl (.sl (.int .i64)) t.2.2.1, .sl (.sl (.int .i64)) t.2.2.2])] (rowsL 14 3 (.int .i64) st2.1)) ?_
     obtain ⟨c9, h⟩ := ck_some.1 h
     refine zB [(2, .bp 2 0), (3, .bp 3 0), (5, .own 14), (7, .int .i64 st2.2), (33, .bool (decide (st2.2 ≤ (s.1 * t.1))))] (two [(14, .obx 25 (rowsC 14 (List.length st2.1))), (2, .box 24 [.int .i64 s.1, .int .i64 s.2.1, .sl (.sl (.int .i64)) s.2.2.1, .sl (.sl (.int .i64)) s.2.2.2]), (3, .box 24 [.int .i64 t.1, .int .i64 t.2.1, .sl (.sl (.int .i64)) t.2.2.1, .sl (.sl (.int .i64)) t.2.2.2])] (rowsL 14 3 (.int .i64) st2.1)) ?_
     refine zQ h (fun hb10 h => ?_) (fun hb10 h => ?_)
     ·refine zk ?_
      refine AW.have1 (fun b5_3 : (List (List Int)) => linealref01_far_k3 st2 b5_3 = some x7) (fun b5_3 => ⟨fr [(2, .bp 2 0), (3, .bp 3 0), (5, .own 14), (7, .int .i64 st2.2)], hpGet (two [(14, .obx 25 (rowsC 14 (List.length b5_3))), (2, .box 24 [.int .i64 s.1, .int .i64 s.2.1, .sl (.sl (.int .i64)) s.2.2.1, .sl (.sl (.int .i64)) s.2.2.2]), (3, .box 24 [.int .i64 t.1, .int .i64 t.2.1, .sl (.sl (.int .i64)) t.2.2.1, .sl (.sl (.int .i64)) t.2.2.2])] (rowsL 14 3 (.int .i64) b5_3)), gt⟩) (fun b5_3 h => ?_) (fun hk_linealref01_far_k3 => ?_)
      ·as_aux_lemma =>
        unfold linealref01_far_k3 at h
        refine AW.ops ?_
        obtain ⟨c11, h⟩ := ck_some.1 h
        refine zA [(2, .bp 2 0), (3, .bp 3 0), (5, .own 14), (7, .int .i64 (st2.2 + 1))] (two [(14, .obx 25 (rowsC 14 (List.length b5_3))), (2, .box 24 [.int .i64 s.1, .int .i64 s.2.1, .sl (.sl (.int .i64)) s.2.2.1, .sl (.sl (.int .i64)) s.2.2.2]), (3, .box 24 [.int .i64 t.1, .int .i64 t.2.1, .sl (.sl (.int .i64)) t.2.2.1, .sl (.sl (.int .i64)) t.2.2.2])] (rowsL 14 3 (.int .i64) b5_3)) ?_
        obtain rfl := Option.some.inj h
        exact ⟨_, rfl, Wk.leTwo [] [] [] rfl rfl rfl rfl rfl rfl rfl rfl rfl (by (simp only [go_sem, hb10]) <;> (with_reducible and_intros) <;> first | assumption | rfl | omega | (unfold maxLen; omega)) (by (simp only [go_sem, hb10]) <;> (with_reducible and_intros) <;> first | assumption | rfl | omega | (unfold maxLen; omega))⟩
      ·refine AW.seq ?_
       refine AW.block ?_
       refine zo ?_
       refine zS 1 [(2, .bp 2 0), (3, .bp 3 0), (5, .own 14), (7, .int .i64 st2.2), (36, .own 14)] (two [(14, .obx 25 (rowsC 14 (List.length st2.1))), (2, .box 24 [.int .i64 s.1, .int .i64 s.2.1, .sl (.sl (.int .i64)) s.2.2.1, .sl (.sl (.int .i64)) s.2.2.2]), (3, .box 24 [.int .i64 t.1, .int .i64 t.2.1, .sl (.sl (.int .i64)) t.2.2.1, .sl (.sl (.int .i64)) t.2.2.2])] (rowsL 14 3 (.int .i64) st2.1)) ?_
       refine AO.rowsLen tab_ok (by decide) rfl rfl rfl rfl rfl tab_22 rfl rfl rfl ?_
       refine zT [(2, .bp 2 0), (3, .bp 3 0), (5, .own 14), (7, .int .i64 st2.2), (37, .int .i64 (st2.1.length : Int))] (two [(14, .obx 25 (rowsC 14 (List.length st2.1))), (2, .box 24 [.int .i64 s.1, .int .i64 s.2.1, .sl (.sl (.int .i64)) s.2.2.1, .sl (.sl (.int .i64)) s.2.2.2]), (3, .box 24 [.int .i64 t.1, .int .i64 t.2.1, .sl (.sl (.int .i64)) t.2.2.1, .sl (.sl (.int .i64)) t.2.2.2])] (rowsL 14 3 (.int .i64) st2.1)) gt ?_
       refine zB [(2, .bp 2 0), (3, .bp 3 0), (5, .own 14), (7, .int .i64 st2.2), (37, .int .i64 (st2.1.length : Int)), (38, .int .i64 0)] (two [(14, .obx 25 (rowsC 14 (List.length st2.1))), (2, .box 24 [.int .i64 s.1, .int .i64 s.2.1, .sl (.sl (.int .i64)) s.2.2.1, .sl (.sl (.int .i64)) s.2.2.2]), (3, .box 24 [.int .i64 t.1, .int .i64 t.2.1, .sl (.sl (.int .i64)) t.2.2.1, .sl (.sl (.int .i64)) t.2.2.2])] (rowsL 14 3 (.int .i64) st2.1)) ?_
       refine AW.block ?_
       obtain ⟨rv16, hw12, ho13⟩ := Option.bind_eq_some_iff.1 h
       refine AW.loopO (linealref01_far_b3 s t st2) (fun st3 => ⟨fr [(2, .bp 2 0), (3, .bp 3 0), (5, .own 14), (7, .int .i64 st2.2), (37, .int .i64 (st2.1.length : Int)), (38, .int .i64 st3.2)], hpGet (two [(14, .obx 25 (rowsC 14 (List.length st3.1))), (2, .box 24 [.int .i64 s.1, .int .i64 s.2.1, .sl (.sl (.int .i64)) s.2.2.1, .sl (.sl (.int .i64)) s.2.2.2]), (3, .box 24 [.int .i64 t.1, .int .i64 t.2.1, .sl (.sl (.int .i64)) t.2.2.1, .sl (.sl (.int .i64)) t.2.2.2])] (rowsL 14 3 (.int .i64) st3.1)), gt⟩) (st2.1, 0) hw12 (Wk.leTwo [] [] [] rfl rfl rfl rfl rfl rfl rfl rfl rfl (by (simp only [go_sem, hb10]) <;> (with_reducible and_intros) <;> first | assumption | rfl | omega | (unfold maxLen; omega)) (by (simp only [go_sem, hb10]) <;> (with_reducible and_intros) <;> first | assumption | rfl | omega | (unfold maxLen; omega))) ?_
       as_aux_lemma =>
        intro st3 x15 h hd14
        unfold linealref01_far_b3 at h
        refine zo ?_
        refine zB [(2, .bp 2 0), (3, .bp 3 0), (5, .own 14), (7, .int .i64 st2.2), (37, .int .i64 (st2.1.length : Int)), (38, .int .i64 st3.2), (39, .bool (decide (st3.2 < (st2.1.length : Int))))] (two [(14, .obx 25 (rowsC 14 (List.length st3.1))), (2, .box 24 [.int .i64 s.1, .int .i64 s.2.1, .sl (.sl (.int .i64)) s.2.2.1, .sl (.sl (.int .i64)) s.2.2.2]), (3, .box 24 [.int .i64 t.1, .int .i64 t.2.1, .sl (.sl (.int .i64)) t.2.2.1, .sl (.sl (.int .i64)) t.2.2.2])] (rowsL 14 3 (.int .i64) st3.1)) ?_
        refine AW.seq ?_
        refine zQ h (fun hb17 h => ?_) (fun hb17 h => ?_)
        ·refine zk ?_
         refine AW.have1 (fun b5_2 : (List (List Int)) => linealref01_far_k4 st3 b5_2 = some x15) (fun b5_2 => ⟨fr [(2, .bp 2 0), (3, .bp 3 0), (5, .own 14), (7, .int .i64 st2.2), (37, .int .i64 (st2.1.length : Int)), (38, .int .i64 st3.2)], hpGet (two [(14, .obx 25 (rowsC 14 (List.length b5_2))), (2, .box 24 [.int .i64 s.1, .int .i64 s.2.1, .sl (.sl (.int .i64)) s.2.2.1, .sl (.sl (.int .i64)) s.2.2.2]), (3, .box 24 [.int .i64 t.1, .int .i64 t.2.1, .sl (.sl (.int .i64)) t.2.2.1, .sl (.sl (.int .i64)) t.2.2.2])] (rowsL 14 3 (.int .i64) b5_2)), gt⟩) (fun b5_2 h => ?_) (fun hk_linealref01_far_k4 => ?_)
         ·as_aux_lemma =>
           unfold linealref01_far_k4 at h
           refine AW.ops ?_
           obtain ⟨c18, h⟩ := ck_some.1 h
           refine zA [(2, .bp 2 0), (3, .bp 3 0), (5, .own 14), (7, .int .i64 st2.2), (37, .int .i64 (st2.1.length : Int)), (38, .int .i64 (st3.2 + 1))] (two [(14, .obx 25 (rowsC 14 (List.length b5_2))), (2, .box 24 [.int .i64 s.1, .int .i64 s.2.1, .sl (.sl (.int .i64)) s.2.2.1, .sl (.sl (.int .i64)) s.2.2.2]), (3, .box 24 [.int .i64 t.1, .int .i64 t.2.1, .sl (.sl (.int .i64)) t.2.2.1, .sl (.sl (.int .i64)) t.2.2.2])] (rowsL 14 3 (.int .i64) b5_2)) ?_
           obtain rfl := Option.some.inj h
           exact ⟨_, rfl, Wk.leTwo [] [] [] rfl rfl rfl rfl rfl rfl rfl rfl rfl (by (simp only [go_sem, hb10, hb17]) <;> (with_reducible and_intros) <;> first | assumption | rfl | omega | (unfold maxLen; omega)) (by (simp only [go_sem, hb10, hb17]) <;> (with_reducible and_intros) <;> first | assumption | rfl | omega | (unfold maxLen; omega))⟩
         ·refine AW.seq ?_
          refine AW.block ?_
          refine zo ?_
          refine zB [(2, .bp 2 0), (3, .bp 3 0), (5, .own 14), (7, .int .i64 st2.2), (8, .int .i64 st3.2), (37, .int .i64 (st2.1.length : Int)), (38, .int .i64 st3.2)] (two [(14, .obx 25 (rowsC 14 (List.length st3.1))), (2, .box 24 [.int .i64 s.1, .int .i64 s.2.1, .sl (.sl (.int .i64)) s.2.2.1, .sl (.sl (.int .i64)) s.2.2.2]), (3, .box 24 [.int .i64 t.1, .int .i64 t.2.1, .sl (.sl (.int .i64)) t.2.2.1, .sl (.sl (.int .i64)) t.2.2.2])] (rowsL 14 3 (.int .i64) st3.1)) ?_
          refine zo ?_
          refine zS 2 [(2, .bp 2 0), (3, .bp 3 0), (5, .own 14), (7, .int .i64 st2.2), (8, .int .i64 st3.2), (37, .int .i64 (st2.1.length : Int)), (38, .int .i64 st3.2), (41, .own 14), (42, .int .i64 st3.2)] (two [(14, .obx 25 (rowsC 14 (List.length st3.1))), (2, .box 24 [.int .i64 s.1, .int .i64 s.2.1, .sl (.sl (.int .i64)) s.2.2.1, .sl (.sl (.int .i64)) s.2.2.2]), (3, .box 24 [.int .i64 t.1, .int .i64 t.2.1, .sl (.sl (.int .i64)) t.2.2.1, .sl (.sl (.int .i64)) t.2.2.2])] (rowsL 14 3 (.int .i64) st3.1)) ?_
          obtain ⟨c19, h⟩ := ck_some.1 h
          obtain ⟨c20, h⟩ := ck_some.1 h
          refine AO.rowsAddr tab_ok (by decide) rfl rfl tab_22 rfl tab_25 rfl rfl rfl rfl (by first | assumption | omega | (simp only [go_sem, hb10, hb17]) <;> (with_reducible and_intros) <;> first | assumption | rfl | omega | (unfold maxLen; omega)) (by first | assumption | omega | (simp only [go_sem, hb10, hb17]) <;> (with_reducible and_intros) <;> first | assumption | rfl | omega | (unfold maxLen; omega)) ?_
          refine zT [(2, .bp 2 0), (3, .bp 3 0), (5, .own 14), (7, .int .i64 st2.2), (8, .int .i64 st3.2), (37, .int .i64 (st2.1.length : Int)), (38, .int .i64 st3.2), (43, .ap 14 1 st3.2.toNat 0)] (two [(14, .obx 25 (rowsC 14 (List.length st3.1))), (2, .box 24 [.int .i64 s.1, .int .i64 s.2.1, .sl (.sl (.int .i64)) s.2.2.1, .sl (.sl (.int .i64)) s.2.2.2]), (3, .box 24 [.int .i64 t.1, .int .i64 t.2.1, .sl (.sl (.int .i64)) t.2.2.1, .sl (.sl (.int .i64)) t.2.2.2])] (rowsL 14 3 (.int .i64) st3.1)) gt ?_
          refine AO.rowsLoad tab_ok (by decide) rfl rfl tab_25 rfl rfl rfl rfl (rowsC_get (by first | assumption | omega | (simp only [go_sem, hb10, hb17]) <;> (with_reducible and_intros) <;> first | assumption | rfl | omega | (unfold maxLen; omega))) ?_
          refine zT [(2, .bp 2 0), (3, .bp 3 0), (5, .own 14), (7, .int .i64 st2.2), (8, .int .i64 st3.2), (37, .int .i64 (st2.1.length : Int)), (38, .int .i64 st3.2), (44, .own (inm 14 st3.2.toNat))] (two [(14, .obx 25 (rowsC 14 (List.length st3.1))), (2, .box 24 [.int .i64 s.1, .int .i64 s.2.1, .sl (.sl (.int .i64)) s.2.2.1, .sl (.sl (.int .i64)) s.2.2.2]), (3, .box 24 [.int .i64 t.1, .int .i64 t.2.1, .sl (.sl (.int .i64)) t.2.2.1, .sl (.sl (.int .i64)) t.2.2.2])] (rowsL 14 3 (.int .i64) st3.1)) gt ?_
          refine AO.ownLen tab_ok (by decide) rfl rfl rfl rfl rfl tab_25 rfl rfl (hpGet_two_at rfl (by first | assumption | omega | (simp only [go_sem, hb10, hb17]) <;> (with_reducible and_intros) <;> first | assumption | rfl | omega | (unfold maxLen; omega))) ?_
          refine zT [(2, .bp 2 0), (3, .bp 3 0), (5, .own 14), (7, .int .i64 st2.2), (8, .int .i64 st3.2), (37, .int .i64 (st2.1.length : Int)), (38, .int .i64 st3.2), (45, .int .i64 ((st3.1.getD st3.2.toNat []).length : Int))] (two [(14, .obx 25 (rowsC 14 (List.length st3.1))), (2, .box 24 [.int .i64 s.1, .int .i64 s.2.1, .sl (.sl (.int .i64)) s.2.2.1, .sl (.sl (.int .i64)) s.2.2.2]), (3, .box 24 [.int .i64 t.1, .int .i64 t.2.1, .sl (.sl (.int .i64)) t.2.2.1, .sl (.sl (.int .i64)) t.2.2.2])] (rowsL 14 3 (.int .i64) st3.1)) gt ?_
          refine zB [(2, .bp 2 0), (3, .bp 3 0), (5, .own 14), (7, .int .i64 st2.2), (8, .int .i64 st3.2), (37, .int .i64 (st2.1.length : Int)), (38, .int .i64 st3.2), (45, .int .i64 ((st3.1.getD st3.2.toNat []).length : Int)), (46, .int .i64 0)] (two [(14, .obx 25 (rowsC 14 (List.length st3.1))), (2, .box 24 [.int .i64 s.1, .int .i64 s.2.1, .sl (.sl (.int .i64)) s.2.2.1, .sl (.sl (.int .i64)) s.2.2.2]), (3, .box 24 [.int .i64 t.1, .int .i64 t.2.1, .sl (.sl (.int .i64)) t.2.2.1, .sl (.sl (.int .i64)) t.2.2.2])] (rowsL 14 3 (.int .i64) st3.1)) ?_
          refine AW.block ?_
          obtain ⟨rv25, hw21, ho22⟩ := Option.bind_eq_some_iff.1 h
          refine AW.loopO (linealref01_far_b4 s t st2 st3) (fun st4 => ⟨fr [(2, .bp 2 0), (3, .bp 3 0), (5, .own 14), (7, .int .i64 st2.2), (8, .int .i64 st3.2), (37, .int .i64 (st2.1.length : Int)), (38, .int .i64 st3.2), (45, .int .i64 ((st3.1.getD st3.2.toNat []).length : Int)), (46, .int .i64 st4.2)], hpGet (two [(14, .obx 25 (rowsC 14 (List.length st4.1))), (2, .box 24 [.int .i64 s.1, .int .i64 s.2.1, .sl (.sl (.int .i64)) s.2.2.1, .sl (.sl (.int .i64)) s.2.2.2]), (3, .box 24 [.int .i64 t.1, .int .i64 t.2.1, .sl (.sl (.int .i64)) t.2.2.1, .sl (.sl (.int .i64)) t.2.2.2])] (rowsL 14 3 (.int .i64) st4.1)), gt⟩) (st3.1, 0) hw21 (Wk.leTwo [] [] [] rfl rfl rfl rfl rfl rfl rfl rfl rfl (by (simp only [go_sem, hb10, hb17]) <;> (with_reducible and_intros) <;> first | assumption | rfl | omega | (unfold maxLen; omega)) (by (simp only [go_sem, hb10, hb17]) <;> (with_reducible and_intros) <;> first | assumption | rfl | omega | (unfold maxLen; omega))) ?_
          as_aux_lemma =>
           intro st4 x24 h hd23
           unfold linealref01_far_b4 at h
           refine zo ?_
           refine zB [(2, .bp 2 0), (3, .bp 3 0), (5, .own 14), (7, .int .i64 st2.2), (8, .int .i64 st3.2), (37, .int .i64 (st2.1.length : Int)), (38, .int .i64 st3.2), (45, .int .i64 ((st3.1.getD st3.2.toNat []).length : Int)), (46, .int .i64 st4.2), (47, .bool (decide (st4.2 < ((st3.1.getD st3.2.toNat []).length : Int))))] (two [(14, .obx 25 (rowsC 14 (List.length st4.1))), (2, .box 24 [.int .i64 s.1, .int .i64 s.2.1, .sl (.sl (.int .i64)) s.2.2.1, .sl (.sl (.int .i64)) s.2.2.2]), (3, .box 24 [.int .i64 t.1, .int .i64 t.2.1, .sl (.sl (.int .i64)) t.2.2.1, .sl (.sl (.int .i64)) t.2.2.2])] (rowsL 14 3 (.int .i64) st4.1)) ?_
           refine AW.seq ?_
           refine zQ h (fun hb26 h => ?_) (fun hb26 h => ?_)
           ·refine zk ?_
            refine AW.have1 (fun b5 : (List (List Int)) => linealref01_far_k5 st4 b5 = some x24) (fun b5 => ⟨fr [(2, .bp 2 0), (3, .bp 3 0), (5, .own 14), (7, .int .i64 st2.2), (8, .int .i64 st3.2), (37, .int .i64 (st2.1.length : Int)), (38, .int .i64 st3.2), (45, .int .i64 ((st3.1.getD st3.2.toNat []).length : Int)), (46, .int .i64 st4.2)], hpGet (two [(14, .obx 25 (rowsC 14 (List.length b5))), (2, .box 24 [.int .i64 s.1, .int .i64 s.2.1, .sl (.sl (.int .i64)) s.2.2.1, .sl (.sl (.int .i64)) s.2.2.2]), (3, .box 24 [.int .i64 t.1, .int .i64 t.2.1, .sl (.sl (.int .i64)) t.2.2.1, .sl (.sl (.int .i64)) t.2.2.2])] (rowsL 14 3 (.int .i64) b5)), gt⟩) (fun b5 h => ?_) (fun hk_linealref01_far_k5 => ?_)
            ·as_aux_lemma =>
              unfold linealref01_far_k5 at h
              refine AW.ops ?_
              obtain ⟨c27, h⟩ := ck_some.1 h
              refine zA [(2, .bp 2 0), (3, .bp 3 0), (5, .own 14), (7, .int .i64 st2.2), (8, .int .i64 st3.2), (37, .int .i64 (st2.1.length : Int)), (38, .int .i64 st3.2), (45, .int .i64 ((st3.1.getD st3.2.toNat []).length : Int)), (46, .int .i64 (st4.2 + 1))] (two [(14, .obx 25 (rowsC 14 (List.length b5))), (2, .box 24 [.int .i64 s.1, .int .i64 s.2.1, .sl (.sl (.int .i64)) s.2.2.1, .sl (.sl (.int .i64)) s.2.2.2]), (3, .box 24 [.int .i64 t.1, .int .i64 t.2.1, .sl (.sl (.int .i64)) t.2.2.1, .sl (.sl (.int .i64)) t.2.2.2])] (rowsL 14 3 (.int .i64) b5)) ?_
              obtain rfl := Option.some.inj h
              exact ⟨_, rfl, Wk.leTwo [] [] [] rfl rfl rfl rfl rfl rfl rfl rfl rfl (by (simp only [go_sem, hb10, hb17, hb26]) <;> (with_reducible and_intros) <;> first | assumption | rfl | omega | (unfold maxLen; omega)) (by (simp only [go_sem, hb10, hb17, hb26]) <;> (with_reducible and_intros) <;> first | assumption | rfl | omega | (unfold maxLen; omega))⟩
            ·refine AW.seq ?_
             refine AW.block ?_
             refine zo ?_
             refine zB [(2, .bp 2 0), (3, .bp 3 0), (5, .own 14), (7, .int .i64 st2.2), (8, .int .i64 st3.2), (9, .int .i64 st4.2), (37, .int .i64 (st2.1.length : Int)), (38, .int .i64 st3.2), (45, .int .i64 ((st3.1.getD st3.2.toNat []).length : Int)), (46, .int .i64 st4.2)] (two [(14, .obx 25 (rowsC 14 (List.length st4.1))), (2, .box 24 [.int .i64 s.1, .int .i64 s.2.1, .sl (.sl (.int .i64)) s.2.2.1, .sl (.sl (.int .i64)) s.2.2.2]), (3, .box 24 [.int .i64 t.1, .int .i64 t.2.1, .sl (.sl (.int .i64)) t.2.2.1, .sl (.sl (.int .i64)) t.2.2.2])] (rowsL 14 3 (.int .i64) st4.1)) ?_
             refine AW.seq ?_
             refine zo ?_
             refine zS 2 [(2, .bp 2 0), (3, .bp 3 0), (5, .own 14), (7, .int .i64 st2.2), (8, .int .i64 st3.2), (9, .int .i64 st4.2), (37, .int .i64 (st2.1.length : Int)), (38, .int .i64 st3.2), (45, .int .i64 ((st3.1.getD st3.2.toNat []).length : Int)), (46, .int .i64 st4.2), (49, .own 14), (50, .int .i64 st3.2)] (two [(14, .obx 25 (rowsC 14 (List.length st4.1))), (2, .box 24 [.int .i64 s.1, .int .i64 s.2.1, .sl (.sl (.int .i64)) s.2.2.1, .sl (.sl (.int .i64)) s.2.2.2]), (3, .box 24 [.int .i64 t.1, .int .i64 t.2.1, .sl (.sl (.int .i64)) t.2.2.1, .sl (.sl (.int .i64)) t.2.2.2])] (rowsL 14 3 (.int .i64) st4.1)) ?_
             obtain ⟨c28, h⟩ := ck_some.1 h
             obtain ⟨c29, h⟩ := ck_some.1 h
             refine AO.rowsAddr tab_ok (by decide) rfl rfl tab_22 rfl tab_25 rfl rfl rfl rfl (by first | assumption | omega | (simp only [go_sem, hb10, hb17, hb26]) <;> (with_reducible and_intros) <;> first | assumption | rfl | omega | (unfold maxLen; omega)) (by first | assumption | omega | (simp only [go_sem, hb10, hb17, hb26]) <;> (with_reducible and_intros) <;> first | assumption | rfl | omega | (unfold maxLen; omega)) ?_
             refine zT [(2, .bp 2 0), (3, .bp 3 0), (5, .own 14), (7, .int .i64 st2.2), (8, .int .i64 st3.2), (9, .int .i64 st4.2), (37, .int .i64 (st2.1.length : Int)), (38, .int .i64 st3.2), (45, .int .i64 ((st3.1.getD st3.2.toNat []).length : Int)), (46, .int .i64 st4.2), (51, .ap 14 1 st3.2.toNat 0)] (two [(14, .obx 25 (rowsC 14 (List.length st4.1))), (2, .box 24 [.int .i64 s.1, .int .i64 s.2.1, .sl (.sl (.int .i64)) s.2.2.1, .sl (.sl (.int .i64)) s.2.2.2]), (3, .box 24 [.int .i64 t.1, .int .i64 t.2.1, .sl (.sl (.int .i64)) t.2.2.1, .sl (.sl (.int .i64)) t.2.2.2])] (rowsL 14 3 (.int .i64) st4.1)) gt ?_
             refine AO.rowsLoad tab_ok (by decide) rfl rfl tab_25 rfl rfl rfl rfl (rowsC_get (by first | assumption | omega | (simp only [go_sem, hb10, hb17, hb26]) <;> (with_reducible and_intros) <;> first | assumption | rfl | omega | (unfold maxLen; omega))) ?_
             refine zT [(2, .bp 2 0), (3, .bp 3 0), (5, .own 14), (7, .int .i64 st2.2), (8, .int .i64 st3.2), (9, .int .i64 st4.2), (37, .int .i64 (st2.1.length : Int)), (38, .int .i64 st3.2), (45, .int .i64 ((st3.1.getD st3.2.toNat []).length : Int)), (46, .int .i64 st4.2), (52, .own (inm 14 st3.2.toNat))] (two [(14, .obx 25 (rowsC 14 (List.length st4.1))), (2, .box 24 [.int .i64 s.1, .int .i64 s.2.1, .sl (.sl (.int .i64)) s.2.2.1, .sl (.sl (.int .i64)) s.2.2.2]), (3, .box 24 [.int .i64 t.1, .int .i64 t.2.1, .sl (.sl (.int .i64)) t.2.2.1, .sl (.sl (.int .i64)) t.2.2.2])] (rowsL 14 3 (.int .i64) st4.1)) gt ?_
             refine zS 1 [(2, .bp 2 0), (3, .bp 3 0), (5, .own 14), (7, .int .i64 st2.2), (8, .int .i64 st3.2), (9, .int .i64 st4.2), (37, .int .i64 (st2.1.length : Int)), (38, .int .i64 st3.2), (45, .int .i64 ((st3.1.getD st3.2.toNat []).length : Int)), (46, .int .i64 st4.2), (52, .own (inm 14 st3.2.toNat)), (53, .int .i64 st4.2)] (two [(14, .obx 25 (rowsC 14 (List.length st4.1))), (2, .box 24 [.int .i64 s.1, .int .i64 s.2.1, .sl (.sl (.int .i64)) s.2.2.1, .sl (.sl (.int .i64)) s.2.2.2]), (3, .box 24 [.int .i64 t.1, .int .i64 t.2.1, .sl (.sl (.int .i64)) t.2.2.1, .sl (.sl (.int .i64)) t.2.2.2])] (rowsL 14 3 (.int .i64) st4.1)) ?_
             obtain ⟨c30, h⟩ := ck_some.1 h
             obtain ⟨c31, h⟩ := ck_some.1 h
             refine AO.ownAddr tab_ok (by decide) rfl rfl tab_25 rfl tab_3 rfl rfl (hpGet_two_at rfl (by first | assumption | omega | (simp only [go_sem, hb10, hb17, hb26]) <;> (with_reducible and_intros) <;> first | assumption | rfl | omega | (unfold maxLen; omega))) rfl (by first | assumption | omega | (simp only [go_sem, hb10, hb17, hb26]) <;> (with_reducible and_intros) <;> first | assumption | rfl | omega | (unfold maxLen; omega)) (by first | assumption | omega | (simp only [go_sem, hb10, hb17, hb26]) <;> (with_reducible and_intros) <;> first | assumption | rfl | omega | (unfold maxLen; omega)) ?_
             refine zT [(2, .bp 2 0), (3, .bp 3 0), (5, .own 14), (7, .int .i64 st2.2), (8, .int .i64 st3.2), (9, .int .i64 st4.2), (37, .int .i64 (st2.1.length : Int)), (38, .int .i64 st3.2), (45, .int .i64 ((st3.1.getD st3.2.toNat []).length : Int)), (46, .int .i64 st4.2), (54, .ap (inm 14 st3.2.toNat) 1 st4.2.toNat 0)] (two [(14, .obx 25 (rowsC 14 (List.length st4.1))), (2, .box 24 [.int .i64 s.1, .int .i64 s.2.1, .sl (.sl (.int .i64)) s.2.2.1, .sl (.sl (.int .i64)) s.2.2.2]), (3, .box 24 [.int .i64 t.1, .int .i64 t.2.1, .sl (.sl (.int .i64)) t.2.2.1, .sl (.sl (.int .i64)) t.2.2.2])] (rowsL 14 3 (.int .i64) st4.1)) gt ?_
             refine AO.ownGet tab_ok (by decide) rfl rfl tab_3 rfl rfl rfl (hpGet_two_at rfl (by first | assumption | omega | (simp only [go_sem, hb10, hb17, hb26]) <;> (with_reducible and_intros) <;> first | assumption | rfl | omega | (unfold maxLen; omega))) (by first | assumption | omega | (simp only [go_sem, hb10, hb17, hb26]) <;> (with_reducible and_intros) <;> first | assumption | rfl | omega | (unfold maxLen; omega)) ?_
             refine zT [(2, .bp 2 0), (3, .bp 3 0), (5, .own 14), (7, .int .i64 st2.2), (8, .int .i64 st3.2), (9, .int .i64 st4.2), (37, .int .i64 (st2.1.length : Int)), (38, .int .i64 st3.2), (45, .int .i64 ((st3.1.getD st3.2.toNat []).length : Int)), (46, .int .i64 st4.2), (55, .int .i64 ((st4.1.getD st3.2.toNat []).getD st4.2.toNat 0))] (two [(14, .obx 25 (rowsC 14 (List.length st4.1))), (2, .box 24 [.int .i64 s.1, .int .i64 s.2.1, .sl (.sl (.int .i64)) s.2.2.1, .sl (.sl (.int .i64)) s.2.2.2]), (3, .box 24 [.int .i64 t.1, .int .i64 t.2.1, .sl (.sl (.int .i64)) t.2.2.1, .sl (.sl (.int .i64)) t.2.2.2])] (rowsL 14 3 (.int .i64) st4.1)) gt ?_
             refine zB [(2, .bp 2 0), (3, .bp 3 0), (5, .own 14), (7, .int .i64 st2.2), (8, .int .i64 st3.2), (9, .int .i64 st4.2), (37, .int .i64 (st2.1.length : Int)), (38, .int .i64 st3.2), (45, .int .i64 ((st3.1.getD st3.2.toNat []).length : Int)), (46, .int .i64 st4.2), (56, .bool (decide (0 < ((st4.1.getD st3.2.toNat []).getD st4.2.toNat 0))))] (two [(14, .obx 25 (rowsC 14 (List.length st4.1))), (2, .box 24 [.int .i64 s.1, .int .i64 s.2.1, .sl (.sl (.int .i64)) s.2.2.1, .sl (.sl (.int .i64)) s.2.2.2]), (3, .box 24 [.int .i64 t.1, .int .i64 t.2.1, .sl (.sl (.int .i64)) t.2.2.1, .sl (.sl (.int .i64)) t.2.2.2])] (rowsL 14 3 (.int .i64) st4.1)) ?_
             refine zQ h (fun hb32 h => ?_) (fun hb32 h => ?_)
             ·refine AW.exit ?_
              refine athen_e ?_
              refine ablock_s ?_
              refine athen_n ?_
              exact AW.weaken (Wk.leTwo [] [] [] rfl rfl rfl rfl rfl rfl rfl rfl rfl (by (simp only [go_sem, hb10, hb17, hb26, hb32]) <;> (with_reducible and_intros) <;> first | assumption | rfl | omega | (unfold maxLen; omega)) (by (simp only [go_sem, hb10, hb17, hb26, hb32]) <;> (with_reducible and_intros) <;> first | assumption | rfl | omega | (unfold maxLen; omega))) (hk_linealref01_far_k5 _ h)
             ·refine zk ?_
              refine zo ?_
              refine zB [(2, .bp 2 0), (3, .bp 3 0), (5, .own 14), (7, .int .i64 st2.2), (8, .int .i64 st3.2), (9, .int .i64 st4.2), (37, .int .i64 (st2.1.length : Int)), (38, .int .i64 st3.2), (45, .int .i64 ((st3.1.getD st3.2.toNat []).length : Int)), (46, .int .i64 st4.2), (58, .int .i64 s.2.1), (59, .int .i64 0)] (two [(14, .obx 25 (rowsC 14 (List.length st4.1))), (2, .box 24 [.int .i64 s.1, .int .i64 s.2.1, .sl (.sl (.int .i64)) s.2.2.1, .sl (.sl (.int .i64)) s.2.2.2]), (3, .box 24 [.int .i64 t.1, .int .i64 t.2.1, .sl (.sl (.int .i64)) t.2.2.1, .sl (.sl (.int .i64)) t.2.2.2])] (rowsL 14 3 (.int .i64) st4.1)) ?_
              refine AW.block ?_
              obtain ⟨rv37, hw33, ho34⟩ := Option.bind_eq_some_iff.1 h
              refine AW.loopO (linealref01_far_b5 s t st2 st3 st4) (fun st5 => ⟨fr [(2, .bp 2 0), (3, .bp 3 0), (5, .own 14), (7, .int .i64 st2.2), (8, .int .i64 st3.2), (9, .int .i64 st4.2), (37, .int .i64 (st2.1.length : Int)), (38, .int .i64 st3.2), (45, .int .i64 ((st3.1.getD st3.2.toNat []).length : Int)), (46, .int .i64 st4.2), (58, .int .i64 s.2.1), (59, .int .i64 st5.2)], hpGet (two [(14, .obx 25 (rowsC 14 (List.length st5.1))), (2, .box 24 [.int .i64 s.1, .int .i64 s.2.1, .sl (.sl (.int .i64)) s.2.2.1, .sl (.sl (.int .i64)) s.2.2.2]), (3, .box 24 [.int .i64 t.1, .int .i64 t.2.1, .sl (.sl (.int .i64)) t.2.2.1, .sl (.sl (.int .i64)) t.2.2.2])] (rowsL 14 3 (.int .i64) st5.1)), gt⟩) (st4.1, 0) hw33 (Wk.leTwo [] [] [] rfl rfl rfl rfl rfl rfl rfl rfl rfl (by (simp only [go_sem, hb10, hb17, hb26, hb32]) <;> (with_reducible and_intros) <;> first | assumption | rfl | omega | (unfold maxLen; omega)) (by (simp only [go_sem, hb10, hb17, hb26, hb32]) <;> (with_reducible and_intros) <;> first | assumption | rfl | omega | (unfold maxLen; omega))) ?_
              as_aux_lemma =>
               intro st5 x36 h hd35
               unfold linealref01_far_b5 at h
               refine zo ?_
               refine zB [(2, .bp 2 0), (3, .bp 3 0), (5, .own 14), (7, .int .i64 st2.2), (8, .int .i64 st3.2), (9, .int .i64 st4.2), (37, .int .i64 (st2.1.length : Int)), (38, .int .i64 st3.2), (45, .int .i64 ((st3.1.getD st3.2.toNat []).length : Int)), (46, .int .i64 st4.2), (58, .int .i64 s.2.1), (59, .int .i64 st5.2), (60, .bool (decide (st5.2 < s.2.1)))] (two [(14, .obx 25 (rowsC 14 (List.length st5.1))), (2, .box 24 [.int .i64 s.1, .int .i64 s.2.1, .sl (.sl (.int .i64)) s.2.2.1, .sl (.sl (.int .i64)) s.2.2.2]), (3, .box 24 [.int .i64 t.1, .int .i64 t.2.1, .sl (.sl (.int .i64)) t.2.2.1, .sl (.sl (.int .i64)) t.2.2.2])] (rowsL 14 3 (.int .i64) st5.1)) ?_
               refine AW.seq ?_
               refine zQ h (fun hb38 h => ?_) (fun hb38 h => ?_)
               ·refine zk ?_
                refine AW.seq ?_
                refine AW.block ?_
                refine zo ?_
                refine zB [(2, .bp 2 0), (3, .bp 3 0), (5, .own 14), (7, .int .i64 st2.2), (8, .int .i64 st3.2), (9, .int .i64 st4.2), (10, .int .i64 st5.2), (37, .int .i64 (st2.1.length : Int)), (38, .int .i64 st3.2), (45, .int .i64 ((st3.1.getD st3.2.toNat []).length : Int)), (46, .int .i64 st4.2), (58, .int .i64 s.2.1), (59, .int .i64 st5.2)] (two [(14, .obx 25 (rowsC 14 (List.length st5.1))), (2, .box 24 [.int .i64 s.1, .int .i64 s.2.1, .sl (.sl (.int .i64)) s.2.2.1, .sl (.sl (.int .i64)) s.2.2.2]), (3, .box 24 [.int .i64 t.1, .int .i64 t.2.1, .sl (.sl (.int .i64)) t.2.2.1, .sl (.sl (.int .i64)) t.2.2.2])] (rowsL 14 3 (.int .i64) st5.1)) ?_
                refine AW.seq ?_
                refine AW.draw tab_ok mixed_ok [] [] (by decide) (lex_fast (by kernel_rfl)) ?_
                as_aux_lemma =>
                 obtain ⟨c40, h⟩ := ck_some.1 h
                 obtain ⟨c41, h⟩ := ck_some.1 h
                 refine adops_cut 6 (fun K' hK39 => ?_)
                 try dsimp only [List.drop_succ_cons, List.drop_zero, List.take_succ_cons, List.take_zero]
                 simp only [go_sem, hb10, hb17, hb26, hb32, hb38]
                 repeat with_reducible refine zN ?_
                 refine hK39 _ ?_
                 as_aux_lemma =>
                  obtain ⟨c43, h⟩ := ck_some.1 h
                  obtain ⟨c44, h⟩ := ck_some.1 h
                  obtain ⟨c45, h⟩ := ck_some.1 h
                  obtain ⟨c46, h⟩ := ck_some.1 h
                  have hx47 : ((s.2.2.1.getD st3.2.toNat []).getD st5.2.toNat 0).toNat < List.length st5.1 := by omega
                  refine adops_cut 6 (fun K' hK42 => ?_)
                  try dsimp only [List.drop_succ_cons, List.drop_zero, List.take_succ_cons, List.take_zero]
                  simp only [go_sem, hb10, hb17, hb26, hb32, hb38, hx47]
                  repeat with_reducible refine zN ?_
                  refine hK42 _ ?_
                  as_aux_lemma =>
                   obtain ⟨c49, h⟩ := ck_some.1 h
                   obtain ⟨c50, h⟩ := ck_some.1 h
                   obtain ⟨c51, h⟩ := ck_some.1 h
                   obtain ⟨c52, h⟩ := ck_some.1 h
                   refine adops_cut 6 (fun K' hK48 => ?_)
                   try dsimp only [List.drop_succ_cons, List.drop_zero, List.take_succ_cons, List.take_zero]
                   simp only [go_sem, hb10, hb17, hb26, hb32, hb38, hx47]
                   repeat with_reducible refine zN ?_
                   refine hK48 _ ?_
                   as_aux_lemma =>
                    obtain ⟨c54, h⟩ := ck_some.1 h
                    obtain ⟨c55, h⟩ := ck_some.1 h
                    refine adops_cut 4 (fun K' hK53 => ?_)
                    try dsimp only [List.drop_succ_cons, List.drop_zero, List.take_succ_cons, List.take_zero]
                    simp only [go_sem, hb10, hb17, hb26, hb32, hb38, hx47]
                    repeat with_reducible refine zN ?_
                    refine hK53 _ ?_
                    refine adops_nil ?_
                    refine athen_n ?_
                    refine zV [(2, .bp 2 0), (3, .bp 3 0), (5, .own 14), (7, .int .i64 st2.2), (8, .int .i64 st3.2), (9, .int .i64 st4.2), (10, .int .i64 st5.2), (11, .int .i64 ((st5.1.getD ((s.2.2.1.getD st3.2.toNat []).getD st5.2.toNat 0).toNat []).getD ((t.2.2.1.getD st4.2.toNat []).getD st5.2.toNat 0).toNat 0)), (37, .int .i64 (st2.1.length : Int)), (38, .int .i64 st3.2), (45, .int .i64 ((st3.1.getD st3.2.toNat []).length : Int)), (46, .int .i64 st4.2), (58, .int .i64 s.2.1), (59, .int .i64 st5.2)] (two [(14, .obx 25 (rowsC 14 (List.length st5.1))), (2, .box 24 [.int .i64 s.1, .int .i64 s.2.1, .sl (.sl (.int .i64)) s.2.2.1, .sl (.sl (.int .i64)) s.2.2.2]), (3, .box 24 [.int .i64 t.1, .int .i64 t.2.1, .sl (.sl (.int .i64)) t.2.2.1, .sl (.sl (.int .i64)) t.2.2.2])] (rowsL 14 3 (.int .i64) st5.1)) gt ?_
                    as_aux_lemma =>
                     refine AW.seq ?_
                     refine AW.draw tab_ok mixed_ok [] [] (by decide) (lex_fast (by kernel_rfl)) ?_
                     as_aux_lemma =>
                      obtain ⟨c57, h⟩ := ck_some.1 h
                      obtain ⟨c58, h⟩ := ck_some.1 h
                      refine adops_cut 6 (fun K' hK56 => ?_)
                      try dsimp only [List.drop_succ_cons, List.drop_zero, List.take_succ_cons, List.take_zero]
                      simp only [go_sem, hb10, hb17, hb26, hb32, hb38, hx47]
                      repeat with_reducible refine zN ?_
                      refine hK56 _ ?_
                      as_aux_lemma =>
                       obtain ⟨c60, h⟩ := ck_some.1 h
                       obtain ⟨c61, h⟩ := ck_some.1 h
                       obtain ⟨c62, h⟩ := ck_some.1 h
                       obtain ⟨c63, h⟩ := ck_some.1 h
                       refine adops_cut 6 (fun K' hK59 => ?_)
                       try dsimp only [List.drop_succ_cons, List.drop_zero, List.take_succ_cons, List.take_zero]
                       simp only [go_sem, hb10, hb17, hb26, hb32, hb38, hx47]
                       repeat with_reducible refine zN ?_
                       refine hK59 _ ?_
                       as_aux_lemma =>
                        obtain ⟨c65, h⟩ := ck_some.1 h
                        obtain ⟨c66, h⟩ := ck_some.1 h
                        refine adops_cut 6 (fun K' hK64 => ?_)
                        try dsimp only [List.drop_succ_cons, List.drop_zero, List.take_succ_cons, List.take_zero]
                        simp only [go_sem, hb10, hb17, hb26, hb32, hb38, hx47]
                        repeat with_reducible refine zN ?_
                        refine hK64 _ ?_
                        as_aux_lemma =>
                         rcases zI h with ⟨hb67, h⟩ | ⟨hb67, h⟩
                         ·simp only [hb67]
                          as_aux_lemma =>
                           refine adops_cut 4 (fun K' hK68 => ?_)
                           try dsimp only [List.drop_succ_cons, List.drop_zero, List.take_succ_cons, List.take_zero]
                           simp only [go_sem, hb10, hb17, hb26, hb32, hb38, hx47, hb67]
                           repeat with_reducible refine zN ?_
                           refine hK68 _ ?_
                           as_aux_lemma =>
                            refine adops_cut 4 (fun K' hK69 => ?_)
                            try dsimp only [List.drop_succ_cons, List.drop_zero, List.take_succ_cons, List.take_zero]
                            simp only [go_sem, hb10, hb17, hb26, hb32, hb38, hx47, hb67]
                            repeat with_reducible refine zN ?_
                            refine hK69 _ ?_
                            as_aux_lemma =>
                             refine adops_cut 1 (fun K' hK70 => ?_)
                             try dsimp only [List.drop_succ_cons, List.drop_zero, List.take_succ_cons, List.take_zero]
                             simp only [go_sem, hb10, hb17, hb26, hb32, hb38, hx47, hb67]
                             repeat with_reducible refine zN ?_
                             refine hK70 _ ?_
                             refine adops_nil ?_
                             refine athen_n ?_
                             refine zV [(2, .bp 2 0), (3, .bp 3 0), (5, .own 14), (7, .int .i64 st2.2), (8, .int .i64 st3.2), (9, .int .i64 st4.2), (37, .int .i64 (st2.1.length : Int)), (38, .int .i64 st3.2), (45, .int .i64 ((st3.1.getD st3.2.toNat []).length : Int)), (46, .int .i64 st4.2), (58, .int .i64 s.2.1), (59, .int .i64 st5.2), (109, .bool true)] (two [(14, .obx 25 (rowsC 14 (List.length st5.1))), (2, .box 24 [.int .i64 s.1, .int .i64 s.2.1, .sl (.sl (.int .i64)) s.2.2.1, .sl (.sl (.int .i64)) s.2.2.2]), (3, .box 24 [.int .i64 t.1, .int .i64 t.2.1, .sl (.sl (.int .i64)) t.2.2.1, .sl (.sl (.int .i64)) t.2.2.2])] (rowsL 14 3 (.int .i64) st5.1)) gt ?_
                             as_aux_lemma =>
                              refine AW.cond (b := true) rfl (fun _ => ?_) (fun hb71 => by cases hb71)
                              refine AW.ops ?_
                              refine zS 2 [(2, .bp 2 0), (3, .bp 3 0), (5, .own 14), (7, .int .i64 st2.2), (8, .int .i64 st3.2), (9, .int .i64 st4.2), (37, .int .i64 (st2.1.length : Int)), (38, .int .i64 st3.2), (45, .int .i64 ((st3.1.getD st3.2.toNat []).length : Int)), (46, .int .i64 st4.2), (58, .int .i64 s.2.1), (59, .int .i64 st5.2), (110, .own 14), (111, .int .i64 st3.2)] (two [(14, .obx 25 (rowsC 14 (List.length st5.1))), (2, .box 24 [.int .i64 s.1, .int .i64 s.2.1, .sl (.sl (.int .i64)) s.2.2.1, .sl (.sl (.int .i64)) s.2.2.2]), (3, .box 24 [.int .i64 t.1, .int .i64 t.2.1, .sl (.sl (.int .i64)) t.2.2.1, .sl (.sl (.int .i64)) t.2.2.2])] (rowsL 14 3 (.int .i64) st5.1)) ?_
                              obtain ⟨c72, h⟩ := ck_some.1 h
                              obtain ⟨c73, h⟩ := ck_some.1 h
                              refine AO.rowsAddr tab_ok (by decide) rfl rfl tab_22 rfl tab_25 rfl rfl rfl rfl (by first | assumption | omega | (simp only [go_sem, hb10, hb17, hb26, hb32, hb38, hx47, hb67]) <;> (with_reducible and_intros) <;> first | assumption | rfl | omega | (unfold maxLen; omega)) (by first | assumption | omega | (simp only [go_sem, hb10, hb17, hb26, hb32, hb38, hx47, hb67]) <;> (with_reducible and_intros) <;> first | assumption | rfl | omega | (unfold maxLen; omega)) ?_
                              refine zT [(2, .bp 2 0), (3, .bp 3 0), (5, .own 14), (7, .int .i64 st2.2), (8, .int .i64 st3.2), (9, .int .i64 st4.2), (37, .int .i64 (st2.1.length : Int)), (38, .int .i64 st3.2), (45, .int .i64 ((st3.1.getD st3.2.toNat []).length : Int)), (46, .int .i64 st4.2), (58, .int .i64 s.2.1), (59, .int .i64 st5.2), (112, .ap 14 1 st3.2.toNat 0)] (two [(14, .obx 25 (rowsC 14 (List.length st5.1))), (2, .box 24 [.int .i64 s.1, .int .i64 s.2.1, .sl (.sl (.int .i64)) s.2.2.1, .sl (.sl (.int .i64)) s.2.2.2]), (3, .box 24 [.int .i64 t.1, .int .i64 t.2.1, .sl (.sl (.int .i64)) t.2.2.1, .sl (.sl (.int .i64)) t.2.2.2])] (rowsL 14 3 (.int .i64) st5.1)) gt ?_
                              refine AO.rowsLoad tab_ok (by decide) rfl rfl tab_25 rfl rfl rfl rfl (rowsC_get (by first | assumption | omega | (simp only [go_sem, hb10, hb17, hb26, hb32, hb38, hx47, hb67]) <;> (with_reducible and_intros) <;> first | assumption | rfl | omega | (unfold maxLen; omega))) ?_
                              refine zT [(2, .bp 2 0), (3, .bp 3 0), (5, .own 14), (7, .int .i64 st2.2), (8, .int .i64 st3.2), (9, .int .i64 st4.2), (37, .int .i64 (st2.1.length : Int)), (38, .int .i64 st3.2), (45, .int .i64 ((st3.1.getD st3.2.toNat []).length : Int)), (46, .int .i64 st4.2), (58, .int .i64 s.2.1), (59, .int .i64 st5.2), (113, .own (inm 14 st3.2.toNat))] (two [(14, .obx 25 (rowsC 14 (List.length st5.1))), (2, .box 24 [.int .i64 s.1, .int .i64 s.2.1, .sl (.sl (.int .i64)) s.2.2.1, .sl (.sl (.int .i64)) s.2.2.2]), (3, .box 24 [.int .i64 t.1, .int .i64 t.2.1, .sl (.sl (.int .i64)) t.2.2.1, .sl (.sl (.int .i64)) t.2.2.2])] (rowsL 14 3 (.int .i64) st5.1)) gt ?_
                              refine zS 2 [(2, .bp 2 0), (3, .bp 3 0), (5, .own 14), (7, .int .i64 st2.2), (8, .int .i64 st3.2), (9, .int .i64 st4.2), (37, .int .i64 (st2.1.length : Int)), (38, .int .i64 st3.2), (45, .int .i64 ((st3.1.getD st3.2.toNat []).length : Int)), (46, .int .i64 st4.2), (58, .int .i64 s.2.1), (59, .int .i64 st5.2), (113, .own (inm 14 st3.2.toNat)), (114, .int .i64 st4.2), (115, .int .i64 st2.2)] (two [(14, .obx 25 (rowsC 14 (List.length st5.1))), (2, .box 24 [.int .i64 s.1, .int .i64 s.2.1, .sl (.sl (.int .i64)) s.2.2.1, .sl (.sl (.int .i64)) s.2.2.2]), (3, .box 24 [.int .i64 t.1, .int .i64 t.2.1, .sl (.sl (.int .i64)) t.2.2.1, .sl (.sl (.int .i64)) t.2.2.2])] (rowsL 14 3 (.int .i64) st5.1)) ?_
                              obtain ⟨c74, h⟩ := ck_some.1 h
                              obtain ⟨c75, h⟩ := ck_some.1 h
                              refine AO.ownAddr tab_ok (by decide) rfl rfl tab_25 rfl tab_3 rfl rfl (hpGet_two_at rfl (by first | assumption | omega | (simp only [go_sem, hb10, hb17, hb26, hb32, hb38, hx47, hb67]) <;> (with_reducible and_intros) <;> first | assumption | rfl | omega | (unfold maxLen; omega))) rfl (by first | assumption | omega | (simp only [go_sem, hb10, hb17, hb26, hb32, hb38, hx47, hb67]) <;> (with_reducible and_intros) <;> first | assumption | rfl | omega | (unfold maxLen; omega)) (by first | assumption | omega | (simp only [go_sem, hb10, hb17, hb26, hb32, hb38, hx47, hb67]) <;> (with_reducible and_intros) <;> first | assumption | rfl | omega | (unfold maxLen; omega)) ?_
                              refine zT [(2, .bp 2 0), (3, .bp 3 0), (5, .own 14), (7, .int .i64 st2.2), (8, .int .i64 st3.2), (9, .int .i64 st4.2), (37, .int .i64 (st2.1.length : Int)), (38, .int .i64 st3.2), (45, .int .i64 ((st3.1.getD st3.2.toNat []).length : Int)), (46, .int .i64 st4.2), (58, .int .i64 s.2.1), (59, .int .i64 st5.2), (115, .int .i64 st2.2), (116, .ap (inm 14 st3.2.toNat) 1 st4.2.toNat 0)] (two [(14, .obx 25 (rowsC 14 (List.length st5.1))), (2, .box 24 [.int .i64 s.1, .int .i64 s.2.1, .sl (.sl (.int .i64)) s.2.2.1, .sl (.sl (.int .i64)) s.2.2.2]), (3, .box 24 [.int .i64 t.1, .int .i64 t.2.1, .sl (.sl (.int .i64)) t.2.2.1, .sl (.sl (.int .i64)) t.2.2.2])] (rowsL 14 3 (.int .i64) st5.1)) gt ?_
                              refine AO.rowsSet tab_ok rfl rfl rfl tab_3 rfl rfl rfl (by first | assumption | omega | (simp only [go_sem, hb10, hb17, hb26, hb32, hb38, hx47, hb67]) <;> (with_reducible and_intros) <;> first | assumption | rfl | omega | (unfold maxLen; omega)) (by first | assumption | omega | (simp only [go_sem, hb10, hb17, hb26, hb32, hb38, hx47, hb67]) <;> (with_reducible and_intros) <;> first | assumption | rfl | omega | (unfold maxLen; omega)) rfl ?_
                              refine zT [(2, .bp 2 0), (3, .bp 3 0), (5, .own 14), (7, .int .i64 st2.2), (8, .int .i64 st3.2), (9, .int .i64 st4.2), (37, .int .i64 (st2.1.length : Int)), (38, .int .i64 st3.2), (45, .int .i64 ((st3.1.getD st3.2.toNat []).length : Int)), (46, .int .i64 st4.2), (58, .int .i64 s.2.1), (59, .int .i64 st5.2)] (two [(14, .obx 25 (rowsC 14 (List.length (st5.1.set st3.2.toNat ((st5.1.getD st3.2.toNat []).set st4.2.toNat st2.2))))), (2, .box 24 [.int .i64 s.1, .int .i64 s.2.1, .sl (.sl (.int .i64)) s.2.2.1, .sl (.sl (.int .i64)) s.2.2.2]), (3, .box 24 [.int .i64 t.1, .int .i64 t.2.1, .sl (.sl (.int .i64)) t.2.2.1, .sl (.sl (.int .i64)) t.2.2.2])] (rowsL 14 3 (.int .i64) (st5.1.set st3.2.toNat ((st5.1.getD st3.2.toNat []).set st4.2.toNat st2.2)))) gt ?_
                              refine zA [(2, .bp 2 0), (3, .bp 3 0), (5, .own 14), (7, .int .i64 st2.2), (8, .int .i64 st3.2), (9, .int .i64 st4.2), (37, .int .i64 (st2.1.length : Int)), (38, .int .i64 st3.2), (45, .int .i64 ((st3.1.getD st3.2.toNat []).length : Int)), (46, .int .i64 st4.2), (58, .int .i64 s.2.1), (59, .int .i64 st5.2)] (two [(14, .obx 25 (rowsC 14 (List.length (st5.1.set st3.2.toNat ((st5.1.getD st3.2.toNat []).set st4.2.toNat st2.2))))), (2, .box 24 [.int .i64 s.1, .int .i64 s.2.1, .sl (.sl (.int .i64)) s.2.2.1, .sl (.sl (.int .i64)) s.2.2.2]), (3, .box 24 [.int .i64 t.1, .int .i64 t.2.1, .sl (.sl (.int .i64)) t.2.2.1, .sl (.sl (.int .i64)) t.2.2.2])] (rowsL 14 3 (.int .i64) (st5.1.set st3.2.toNat ((st5.1.getD st3.2.toNat []).set st4.2.toNat st2.2)))) ?_
                              refine ablock_n ?_
                              refine athen_n ?_
                              refine AW.ops ?_
                              obtain ⟨c76, h⟩ := ck_some.1 h
                              refine zA [(2, .bp 2 0), (3, .bp 3 0), (5, .own 14), (7, .int .i64 st2.2), (8, .int .i64 st3.2), (9, .int .i64 st4.2), (37, .int .i64 (st2.1.length : Int)), (38, .int .i64 st3.2), (45, .int .i64 ((st3.1.getD st3.2.toNat []).length : Int)), (46, .int .i64 st4.2), (58, .int .i64 s.2.1), (59, .int .i64 (st5.2 + 1))] (two [(14, .obx 25 (rowsC 14 (List.length (st5.1.set st3.2.toNat ((st5.1.getD st3.2.toNat []).set st4.2.toNat st2.2))))), (2, .box 24 [.int .i64 s.1, .int .i64 s.2.1, .sl (.sl (.int .i64)) s.2.2.1, .sl (.sl (.int .i64)) s.2.2.2]), (3, .box 24 [.int .i64 t.1, .int .i64 t.2.1, .sl (.sl (.int .i64)) t.2.2.1, .sl (.sl (.int .i64)) t.2.2.2])] (rowsL 14 3 (.int .i64) (st5.1.set st3.2.toNat ((st5.1.getD st3.2.toNat []).set st4.2.toNat st2.2)))) ?_
                              obtain rfl := Option.some.inj h
                              exact ⟨_, rfl, Wk.leTwo [] [] [] rfl rfl rfl rfl rfl rfl rfl rfl rfl (by (simp only [go_sem, hb10, hb17, hb26, hb32, hb38, hx47, hb67]) <;> (with_reducible and_intros) <;> first | assumption | rfl | omega | (unfold maxLen; omega)) (by (simp only [go_sem, hb10, hb17, hb26, hb32, hb38, hx47, hb67]) <;> (with_reducible and_intros) <;> first | assumption | rfl | omega | (unfold maxLen; omega))⟩
                         ·simp only [hb67]
                          as_aux_lemma =>
                           refine adops_cut 3 (fun K' hK77 => ?_)
                           try dsimp only [List.drop_succ_cons, List.drop_zero, List.take_succ_cons, List.take_zero]
                           simp only [go_sem, hb10, hb17, hb26, hb32, hb38, hx47, hb67]
                           repeat with_reducible refine zN ?_
                           refine hK77 _ ?_
                           as_aux_lemma =>
                            rcases zI h with ⟨hb78, h⟩ | ⟨hb78, h⟩
                            ·simp only [hb78]
                             as_aux_lemma =>
                              obtain ⟨c80, h⟩ := ck_some.1 h
                              refine adops_cut 6 (fun K' hK79 => ?_)
                              try dsimp only [List.drop_succ_cons, List.drop_zero, List.take_succ_cons, List.take_zero]
                              simp only [go_sem, hb10, hb17, hb26, hb32, hb38, hx47, hb67, hb78]
                              repeat with_reducible refine zN ?_
                              refine hK79 _ ?_
                              refine adops_nil ?_
                              refine athen_n ?_
                              refine zV [(2, .bp 2 0), (3, .bp 3 0), (5, .own 14), (7, .int .i64 st2.2), (8, .int .i64 st3.2), (9, .int .i64 st4.2), (37, .int .i64 (st2.1.length : Int)), (38, .int .i64 st3.2), (45, .int .i64 ((st3.1.getD st3.2.toNat []).length : Int)), (46, .int .i64 st4.2), (58, .int .i64 s.2.1), (59, .int .i64 st5.2), (109, .bool (decide (((st5.1.getD ((s.2.2.1.getD st3.2.toNat []).getD st5.2.toNat 0).toNat []).getD ((t.2.2.1.getD st4.2.toNat []).getD st5.2.toNat 0).toNat 0) = (st2.2 - 1))))] (two [(14, .obx 25 (rowsC 14 (List.length st5.1))), (2, .box 24 [.int .i64 s.1, .int .i64 s.2.1, .sl (.sl (.int .i64)) s.2.2.1, .sl (.sl (.int .i64)) s.2.2.2]), (3, .box 24 [.int .i64 t.1, .int .i64 t.2.1, .sl (.sl (.int .i64)) t.2.2.1, .sl (.sl (.int .i64)) t.2.2.2])] (rowsL 14 3 (.int .i64) st5.1)) gt ?_
                              as_aux_lemma =>
                               refine zQ h (fun hb81 h => ?_) (fun hb81 h => ?_)
                               ·refine AW.ops ?_
                                refine zS 2 [(2, .bp 2 0), (3, .bp 3 0), (5, .own 14), (7, .int .i64 st2.2), (8, .int .i64 st3.2), (9, .int .i64 st4.2), (37, .int .i64 (st2.1.length : Int)), (38, .int .i64 st3.2), (45, .int .i64 ((st3.1.getD st3.2.toNat []).length : Int)), (46, .int .i64 st4.2), (58, .int .i64 s.2.1), (59, .int .i64 st5.2), (110, .own 14), (111, .int .i64 st3.2)] (two [(14, .obx 25 (rowsC 14 (List.length st5.1))), (2, .box 24 [.int .i64 s.1, .int .i64 s.2.1, .sl (.sl (.int .i64)) s.2.2.1, .sl (.sl (.int .i64)) s.2.2.2]), (3, .box 24 [.int .i64 t.1, .int .i64 t.2.1, .sl (.sl (.int .i64)) t.2.2.1, .sl (.sl (.int .i64)) t.2.2.2])] (rowsL 14 3 (.int .i64) st5.1)) ?_
                                obtain ⟨c82, h⟩ := ck_some.1 h
                                obtain ⟨c83, h⟩ := ck_some.1 h
                                refine AO.rowsAddr tab_ok (by decide) rfl rfl tab_22 rfl tab_25 rfl rfl rfl rfl (by first | assumption | omega | (simp only [go_sem, hb10, hb17, hb26, hb32, hb38, hx47, hb67, hb78, hb81]) <;> (with_reducible and_intros) <;> first | assumption | rfl | omega | (unfold maxLen; omega)) (by first | assumption | omega | (simp only [go_sem, hb10, hb17, hb26, hb32, hb38, hx47, hb67, hb78, hb81]) <;> (with_reducible and_intros) <;> first | assumption | rfl | omega | (unfold maxLen; omega)) ?_
                                refine zT [(2, .bp 2 0), (3, .bp 3 0), (5, .own 14), (7, .int .i64 st2.2), (8, .int .i64 st3.2), (9, .int .i64 st4.2), (37, .int .i64 (st2.1.length : Int)), (38, .int .i64 st3.2), (45, .int .i64 ((st3.1.getD st3.2.toNat []).length : Int)), (46, .int .i64 st4.2), (58, .int .i64 s.2.1), (59, .int .i64 st5.2), (112, .ap 14 1 st3.2.toNat 0)] (two [(14, .obx 25 (rowsC 14 (List.length st5.1))), (2, .box 24 [.int .i64 s.1, .int .i64 s.2.1, .sl (.sl (.int .i64)) s.2.2.1, .sl (.sl (.int .i64)) s.2.2.2]), (3, .box 24 [.int .i64 t.1, .int .i64 t.2.1, .sl (.sl (.int .i64)) t.2.2.1, .sl (.sl (.int .i64)) t.2.2.2])] (rowsL 14 3 (.int .i64) st5.1)) gt ?_
                                refine AO.rowsLoad tab_ok (by decide) rfl rfl tab_25 rfl rfl rfl rfl (rowsC_get (by first | assumption | omega | (simp only [go_sem, hb10, hb17, hb26, hb32, hb38, hx47, hb67, hb78, hb81]) <;> (with_reducible and_intros) <;> first | assumption | rfl | omega | (unfold maxLen; omega))) ?_
                                refine zT [(2, .bp 2 0), (3, .bp 3 0), (5, .own 14), (7, .int .i64 st2.2), (8, .int .i64 st3.2), (9, .int .i64 st4.2), (37, .int .i64 (st2.1.length : Int)), (38, .int .i64 st3.2), (45, .int .i64 ((st3.1.getD st3.2.toNat []).length : Int)), (46, .int .i64 st4.2), (58, .int .i64 s.2.1), (59, .int .i64 st5.2), (113, .own (inm 14 st3.2.toNat))] (two [(14, .obx 25 (rowsC 14 (List.length st5.1))), (2, .box 24 [.int .i64 s.1, .int .i64 s.2.1, .sl (.sl (.int .i64)) s.2.2.1, .sl (.sl (.int .i64)) s.2.2.2]), (3, .box 24 [.int .i64 t.1, .int .i64 t.2.1, .sl (.sl (.int .i64)) t.2.2.1, .sl (.sl (.int .i64)) t.2.2.2])] (rowsL 14 3 (.int .i64) st5.1)) gt ?_
                                refine zS 2 [(2, .bp 2 0), (3, .bp 3 0), (5, .own 14), (7, .int .i64 st2.2), (8, .int .i64 st3.2), (9, .int .i64 st4.2), (37, .int .i64 (st2.1.length : Int)), (38, .int .i64 st3.2), (45, .int .i64 ((st3.1.getD st3.2.toNat []).length : Int)), (46, .int .i64 st4.2), (58, .int .i64 s.2.1), (59, .int .i64 st5.2), (113, .own (inm 14 st3.2.toNat)), (114, .int .i64 st4.2), (115, .int .i64 st2.2)] (two [(14, .obx 25 (rowsC 14 (List.length st5.1))), (2, .box 24 [.int .i64 s.1, .int .i64 s.2.1, .sl (.sl (.int .i64)) s.2.2.1, .sl (.sl (.int .i64)) s.2.2.2]), (3, .box 24 [.int .i64 t.1, .int .i64 t.2.1, .sl (.sl (.int .i64)) t.2.2.1, .sl (.sl (.int .i64)) t.2.2.2])] (rowsL 14 3 (.int .i64) st5.1)) ?_
                                obtain ⟨c84, h⟩ := ck_some.1 h
                                obtain ⟨c85, h⟩ := ck_some.1 h
                                refine AO.ownAddr tab_ok (by decide) rfl rfl tab_25 rfl tab_3 rfl rfl (hpGet_two_at rfl (by first | assumption | omega | (simp only [go_sem, hb10, hb17, hb26, hb32, hb38, hx47, hb67, hb78, hb81]) <;> (with_reducible and_intros) <;> first | assumption | rfl | omega | (unfold maxLen; omega))) rfl (by first | assumption | omega | (simp only [go_sem, hb10, hb17, hb26, hb32, hb38, hx47, hb67, hb78, hb81]) <;> (with_reducible and_intros) <;> first | assumption | rfl | omega | (unfold maxLen; omega)) (by first | assumption | omega | (simp only [go_sem, hb10, hb17, hb26, hb32, hb38, hx47, hb67, hb78, hb81]) <;> (with_reducible and_intros) <;> first | assumption | rfl | omega | (unfold maxLen; omega)) ?_
                                refine zT [(2, .bp 2 0), (3, .bp 3 0), (5, .own 14), (7, .int .i64 st2.2), (8, .int .i64 st3.2), (9, .int .i64 st4.2), (37, .int .i64 (st2.1.length : Int)), (38, .int .i64 st3.2), (45, .int .i64 ((st3.1.getD st3.2.toNat []).length : Int)), (46, .int .i64 st4.2), (58, .int .i64 s.2.1), (59, .int .i64 st5.2), (115, .int .i64 st2.2), (116, .ap (inm 14 st3.2.toNat) 1 st4.2.toNat 0)] (two [(14, .obx 25 (rowsC 14 (List.length st5.1))), (2, .box 24 [.int .i64 s.1, .int .i64 s.2.1, .sl (.sl (.int .i64)) s.2.2.1, .sl (.sl (.int .i64)) s.2.2.2]), (3, .box 24 [.int .i64 t.1, .int .i64 t.2.1, .sl (.sl (.int .i64)) t.2.2.1, .sl (.sl (.int .i64)) t.2.2.2])] (rowsL 14 3 (.int .i64) st5.1)) gt ?_
                                refine AO.rowsSet tab_ok rfl rfl rfl tab_3 rfl rfl rfl (by first | assumption | omega | (simp only [go_sem, hb10, hb17, hb26, hb32, hb38, hx47, hb67, hb78, hb81]) <;> (with_reducible and_intros) <;> first | assumption | rfl | omega | (unfold maxLen; omega)) (by first | assumption | omega | (simp only [go_sem, hb10, hb17, hb26, hb32, hb38, hx47, hb67, hb78, hb81]) <;> (with_reducible and_intros) <;> first | assumption | rfl | omega | (unfold maxLen; omega)) rfl ?_
                                refine zT [(2, .bp 2 0), (3, .bp 3 0), (5, .own 14), (7, .int .i64 st2.2), (8, .int .i64 st3.2), (9, .int .i64 st4.2), (37, .int .i64 (st2.1.length : Int)), (38, .int .i64 st3.2), (45, .int .i64 ((st3.1.getD st3.2.toNat []).length : Int)), (46, .int .i64 st4.2), (58, .int .i64 s.2.1), (59, .int .i64 st5.2)] (two [(14, .obx 25 (rowsC 14 (List.length (st5.1.set st3.2.toNat ((st5.1.getD st3.2.toNat []).set st4.2.toNat st2.2))))), (2, .box 24 [.int .i64 s.1, .int .i64 s.2.1, .sl (.sl (.int .i64)) s.2.2.1, .sl (.sl (.int .i64)) s.2.2.2]), (3, .box 24 [.int .i64 t.1, .int .i64 t.2.1, .sl (.sl (.int .i64)) t.2.2.1, .sl (.sl (.int .i64)) t.2.2.2])] (rowsL 14 3 (.int .i64) (st5.1.set st3.2.toNat ((st5.1.getD st3.2.toNat []).set st4.2.toNat st2.2)))) gt ?_
                                refine zA [(2, .bp 2 0), (3, .bp 3 0), (5, .own 14), (7, .int .i64 st2.2), (8, .int .i64 st3.2), (9, .int .i64 st4.2), (37, .int .i64 (st2.1.length : Int)), (38, .int .i64 st3.2), (45, .int .i64 ((st3.1.getD st3.2.toNat []).length : Int)), (46, .int .i64 st4.2), (58, .int .i64 s.2.1), (59, .int .i64 st5.2)] (two [(14, .obx 25 (rowsC 14 (List.length (st5.1.set st3.2.toNat ((st5.1.getD st3.2.toNat []).set st4.2.toNat st2.2))))), (2, .box 24 [.int .i64 s.1, .int .i64 s.2.1, .sl (.sl (.int .i64)) s.2.2.1, .sl (.sl (.int .i64)) s.2.2.2]), (3, .box 24 [.int .i64 t.1, .int .i64 t.2.1, .sl (.sl (.int .i64)) t.2.2.1, .sl (.sl (.int .i64)) t.2.2.2])] (rowsL 14 3 (.int .i64) (st5.1.set st3.2.toNat ((st5.1.getD st3.2.toNat []).set st4.2.toNat st2.2)))) ?_
                                refine ablock_n ?_
                                refine athen_n ?_
                                refine AW.ops ?_
                                obtain ⟨c86, h⟩ := ck_some.1 h
                                refine zA [(2, .bp 2 0), (3, .bp 3 0), (5, .own 14), (7, .int .i64 st2.2), (8, .int .i64 st3.2), (9, .int .i64 st4.2), (37, .int .i64 (st2.1.length : Int)), (38, .int .i64 st3.2), (45, .int .i64 ((st3.1.getD st3.2.toNat []).length : Int)), (46, .int .i64 st4.2), (58, .int .i64 s.2.1), (59, .int .i64 (st5.2 + 1))] (two [(14, .obx 25 (rowsC 14 (List.length (st5.1.set st3.2.toNat ((st5.1.getD st3.2.toNat []).set st4.2.toNat st2.2))))), (2, .box 24 [.int .i64 s.1, .int .i64 s.2.1, .sl (.sl (.int .i64)) s.2.2.1, .sl (.sl (.int .i64)) s.2.2.2]), (3, .box 24 [.int .i64 t.1, .int .i64 t.2.1, .sl (.sl (.int .i64)) t.2.2.1, .sl (.sl (.int .i64)) t.2.2.2])] (rowsL 14 3 (.int .i64) (st5.1.set st3.2.toNat ((st5.1.getD st3.2.toNat []).set st4.2.toNat st2.2)))) ?_
                                obtain rfl := Option.some.inj h
                                exact ⟨_, rfl, Wk.leTwo [] [] [] rfl rfl rfl rfl rfl rfl rfl rfl rfl (by (simp only [go_sem, hb10, hb17, hb26, hb32, hb38, hx47, hb67, hb78, hb81]) <;> (with_reducible and_intros) <;> first | assumption | rfl | omega | (unfold maxLen; omega)) (by (simp only [go_sem, hb10, hb17, hb26, hb32, hb38, hx47, hb67, hb78, hb81]) <;> (with_reducible and_intros) <;> first | assumption | rfl | omega | (unfold maxLen; omega))⟩
                               ·refine zm ?_
                                refine athen_n ?_
                                refine AW.ops ?_
                                obtain ⟨c87, h⟩ := ck_some.1 h
                                refine zA [(2, .bp 2 0), (3, .bp 3 0), (5, .own 14), (7, .int .i64 st2.2), (8, .int .i64 st3.2), (9, .int .i64 st4.2), (37, .int .i64 (st2.1.length : Int)), (38, .int .i64 st3.2), (45, .int .i64 ((st3.1.getD st3.2.toNat []).length : Int)), (46, .int .i64 st4.2), (58, .int .i64 s.2.1), (59, .int .i64 (st5.2 + 1))] (two [(14, .obx 25 (rowsC 14 (List.length st5.1))), (2, .box 24 [.int .i64 s.1, .int .i64 s.2.1, .sl (.sl (.int .i64)) s.2.2.1, .sl (.sl (.int .i64)) s.2.2.2]), (3, .box 24 [.int .i64 t.1, .int .i64 t.2.1, .sl (.sl (.int .i64)) t.2.2.1, .sl (.sl (.int .i64)) t.2.2.2])] (rowsL 14 3 (.int .i64) st5.1)) ?_
                                obtain rfl := Option.some.inj h
                                exact ⟨_, rfl, Wk.leTwo [] [] [] rfl rfl rfl rfl rfl rfl rfl rfl rfl (by (simp only [go_sem, hb10, hb17, hb26, hb32, hb38, hx47, hb67, hb78, hb81]) <;> (with_reducible and_intros) <;> first | assumption | rfl | omega | (unfold maxLen; omega)) (by (simp only [go_sem, hb10, hb17, hb26, hb32, hb38, hx47, hb67, hb78, hb81]) <;> (with_reducible and_intros) <;> first | assumption | rfl | omega | (unfold maxLen; omega))⟩
                            ·simp only [hb78]
                             as_aux_lemma =>
                              refine adops_cut 4 (fun K' hK88 => ?_)
                              try dsimp only [List.drop_succ_cons, List.drop_zero, List.take_succ_cons, List.take_zero]
                              simp only [go_sem, hb10, hb17, hb26, hb32, hb38, hx47, hb67, hb78]
                              repeat with_reducible refine zN ?_
                              refine hK88 _ ?_
                              as_aux_lemma =>
                               refine adops_cut 2 (fun K' hK89 => ?_)
                               try dsimp only [List.drop_succ_cons, List.drop_zero, List.take_succ_cons, List.take_zero]
                               simp only [go_sem, hb10, hb17, hb26, hb32, hb38, hx47, hb67, hb78]
                               repeat with_reducible refine zN ?_
                               refine hK89 _ ?_
                               refine adops_nil ?_
                               refine athen_n ?_
                               refine zV [(2, .bp 2 0), (3, .bp 3 0), (5, .own 14), (7, .int .i64 st2.2), (8, .int .i64 st3.2), (9, .int .i64 st4.2), (37, .int .i64 (st2.1.length : Int)), (38, .int .i64 st3.2), (45, .int .i64 ((st3.1.getD st3.2.toNat []).length : Int)), (46, .int .i64 st4.2), (58, .int .i64 s.2.1), (59, .int .i64 st5.2), (109, .bool false)] (two [(14, .obx 25 (rowsC 14 (List.length st5.1))), (2, .box 24 [.int .i64 s.1, .int .i64 s.2.1, .sl (.sl (.int .i64)) s.2.2.1, .sl (.sl (.int .i64)) s.2.2.2]), (3, .box 24 [.int .i64 t.1, .int .i64 t.2.1, .sl (.sl (.int .i64)) t.2.2.1, .sl (.sl (.int .i64)) t.2.2.2])] (rowsL 14 3 (.int .i64) st5.1)) gt ?_
                               as_aux_lemma =>
                                refine AW.cond (b := false) rfl (fun hb90 => by cases hb90) (fun _ => ?_)
                                refine zm ?_
                                refine athen_n ?_
                                refine AW.ops ?_
                                obtain ⟨c91, h⟩ := ck_some.1 h
                                refine zA [(2, .bp 2 0), (3, .bp 3 0), (5, .own 14), (7, .int .i64 st2.2), (8, .int .i64 st3.2), (9, .int .i64 st4.2), (37, .int .i64 (st2.1.length : Int)), (38, .int .i64 st3.2), (45, .int .i64 ((st3.1.getD st3.2.toNat []).length : Int)), (46, .int .i64 st4.2), (58, .int .i64 s.2.1), (59, .int .i64 (st5.2 + 1))] (two [(14, .obx 25 (rowsC 14 (List.length st5.1))), (2, .box 24 [.int .i64 s.1, .int .i64 s.2.1, .sl (.sl (.int .i64)) s.2.2.1, .sl (.sl (.int .i64)) s.2.2.2]), (3, .box 24 [.int .i64 t.1, .int .i64 t.2.1, .sl (.sl (.int .i64)) t.2.2.1, .sl (.sl (.int .i64)) t.2.2.2])] (rowsL 14 3 (.int .i64) st5.1)) ?_
                                obtain rfl := Option.some.inj h
                                exact ⟨_, rfl, Wk.leTwo [] [] [] rfl rfl rfl rfl rfl rfl rfl rfl rfl (by (simp only [go_sem, hb10, hb17, hb26, hb32, hb38, hx47, hb67, hb78]) <;> (with_reducible and_intros) <;> first | assumption | rfl | omega | (unfold maxLen; omega)) (by (simp only [go_sem, hb10, hb17, hb26, hb32, hb38, hx47, hb67, hb78]) <;> (with_reducible and_intros) <;> first | assumption | rfl | omega | (unfold maxLen; omega))⟩
               ·refine AW.exit ?_
                refine athen_e ?_
                obtain rfl := Option.some.inj h
                rw [← hd35 _ rfl] at ho34
                have h := ho34
                refine athen_e ?_
                refine ablock_s ?_
                refine ablock_n ?_
                refine athen_n ?_
                exact AW.weaken (Wk.leTwo [] [] [] rfl rfl rfl rfl rfl rfl rfl rfl rfl (by (simp only [go_sem, hb10, hb17, hb26, hb32, hb38]) <;> (with_reducible and_intros) <;> first | assumption | rfl | omega | (unfold maxLen; omega)) (by (simp only [go_sem, hb10, hb17, hb26, hb32, hb38]) <;> (with_reducible and_intros) <;> first | assumption | rfl | omega | (unfold maxLen; omega))) (hk_linealref01_far_k5 _ h)
           ·refine AW.exit ?_
            refine athen_e ?_
            obtain rfl := Option.some.inj h
            rw [← hd23 _ rfl] at ho22
            have h := ho22
            refine athen_e ?_
            refine ablock_s ?_
            refine ablock_n ?_
            refine athen_n ?_
            exact AW.weaken (Wk.leTwo [] [] [] rfl rfl rfl rfl rfl rfl rfl rfl rfl (by (simp only [go_sem, hb10, hb17, hb26]) <;> (with_reducible and_intros) <;> first | assumption | rfl | omega | (unfold maxLen; omega)) (by (simp only [go_sem, hb10, hb17, hb26]) <;> (with_reducible and_intros) <;> first | assumption | rfl | omega | (unfold maxLen; omega))) (hk_linealref01_far_k4 _ h)
        ·refine AW.exit ?_
         refine athen_e ?_
         obtain rfl := Option.some.inj h
         rw [← hd14 _ rfl] at ho13
         have h := ho13
         refine athen_e ?_
         refine ablock_s ?_
         refine ablock_n ?_
         refine athen_n ?_
         exact AW.weaken (Wk.leTwo [] [] [] rfl rfl rfl rfl rfl rfl rfl rfl rfl (by (simp only [go_sem, hb10, hb17]) <;> (with_reducible and_intros) <;> first | assumption | rfl | omega | (unfold maxLen; omega)) (by (simp only [go_sem, hb10, hb17]) <;> (with_reducible and_intros) <;> first | assumption | rfl | omega | (unfold maxLen; omega))) (hk_linealref01_far_k3 _ h)
     ·refine AW.exit ?_
      refine athen_e ?_
      obtain rfl := Option.some.inj h
      rw [← hd6 _ rfl] at ho5
      have h := ho5
      refine athen_e ?_
      refine ablock_s ?_
      refine athen_n ?_
      exact AW.weaken (Wk.leTwo [] [] [] rfl rfl rfl rfl rfl rfl rfl rfl rfl (by (simp only [go_sem, hb10]) <;> (with_reducible and_intros) <;> first | assumption | rfl | omega | (unfold maxLen; omega)) (by (simp only [go_sem, hb10]) <;> (with_reducible and_intros) <;> first | assumption | rfl | omega | (unfold maxLen; omega))) (hk_linealref01_far_k2 _ h)
 ·refine AW.seq ?_
  refine zo ?_
  refine zS 1 [(2, .bp 2 0), (3, .bp 3 0), (5, .own 14), (15, .own 14)] (two [(14, .obx 25 (rowsC 14 (List.length (List.replicate s.1.toNat ([] : List Int))))), (2, .box 24 [.int .i64 s.1, .int .i64 s.2.1, .sl (.sl (.int .i64)) s.2.2.1, .sl (.sl (.int .i64)) s.2.2.2]), (3, .box 24 [.int .i64 t.1, .int .i64 t.2.1, .sl (.sl (.int .i64)) t.2.2.1, .sl (.sl (.int .i64)) t.2.2.2])] (rowsL 14 3 (.int .i64) (List.replicate s.1.toNat ([] : List Int)))) ?_
  refine AO.rowsLen tab_ok (by decide) rfl rfl rfl rfl rfl tab_22 rfl rfl rfl ?_
  refine zT [(2, .bp 2 0), (3, .bp 3 0), (5, .own 14), (16, .int .i64 ((List.replicate s.1.toNat ([] : List Int)).length : Int))] (two [(14, .obx 25 (rowsC 14 (List.length (List.replicate s.1.toNat ([] : List Int))))), (2, .box 24 [.int .i64 s.1, .int .i64 s.2.1, .sl (.sl (.int .i64)) s.2.2.1, .sl (.sl (.int .i64)) s.2.2.2]), (3, .box 24 [.int .i64 t.1, .int .i64 t.2.1, .sl (.sl (.int .i64)) t.2.2.1, .sl (.sl (.int .i64)) t.2.2.2])] (rowsL 14 3 (.int .i64) (List.replicate s.1.toNat ([] : List Int)))) gt ?_
  refine zB [(2, .bp 2 0), (3, .bp 3 0), (5, .own 14), (16, .int .i64 ((List.replicate s.1.toNat ([] : List Int)).length : Int)), (17, .int .i64 0)] (two [(14, .obx 25 (rowsC 14 (List.length (List.replicate s.1.toNat ([] : List Int))))), (2, .box 24 [.int .i64 s.1, .int .i64 s.2.1, .sl (.sl (.int .i64)) s.2.2.1, .sl (.sl (.int .i64)) s.2.2.2]), (3, .box 24 [.int .i64 t.1, .int .i64 t.2.1, .sl (.sl (.int .i64)) t.2.2.1, .sl (.sl (.int .i64)) t.2.2.2])] (rowsL 14 3 (.int .i64) (List.replicate s.1.toNat ([] : List Int)))) ?_
  refine AW.block ?_
  obtain ⟨rv96, hw92, ho93⟩ := Option.bind_eq_some_iff.1 h
  refine AW.loopO (linealref01_far_b1 s t) (fun st1 => ⟨fr [(2, .bp 2 0), (3, .bp 3 0), (5, .own 14), (16, .int .i64 ((List.replicate s.1.toNat ([] : List Int)).length : Int)), (17, .int .i64 st1.2)], hpGet (two [(14, .obx 25 (rowsC 14 (List.length st1.1))), (2, .box 24 [.int .i64 s.1, .int .i64 s.2.1, .sl (.sl (.int .i64)) s.2.2.1, .sl (.sl (.int .i64)) s.2.2.2]), (3, .box 24 [.int .i64 t.1, .int .i64 t.2.1, .sl (.sl (.int .i64)) t.2.2.1, .sl (.sl (.int .i64)) t.2.2.2])] (rowsL 14 3 (.int .i64) st1.1)), gt⟩) ((List.replicate s.1.toNat ([] : List Int)), 0) hw92 (Wk.leTwo [] [] [] rfl rfl rfl rfl rfl rfl rfl rfl rfl (by (simp only [go_sem]) <;> (with_reducible and_intros) <;> first | assumption | rfl | omega | (unfold maxLen; omega)) (by (simp only [go_sem]) <;> (with_reducible and_intros) <;> first | assumption | rfl | omega | (unfold maxLen; omega))) ?_
  as_aux_lemma =>
   intro st1 x95 h hd94
   unfold linealref01_far_b1 at h
   refine zo ?_
   refine zB [(2, .bp 2 0), (3, .bp 3 0), (5, .own 14), (16, .int .i64 ((List.replicate s.1.toNat ([] : List Int)).length : Int)), (17, .int .i64 st1.2), (18, .bool (decide (st1.2 < ((List.replicate s.1.toNat ([] : List Int)).length : Int))))] (two [(14, .obx 25 (rowsC 14 (List.length st1.1))), (2, .box 24 [.int .i64 s.1, .int .i64 s.2.1, .sl (.sl (.int .i64)) s.2.2.1, .sl (.sl (.int .i64)) s.2.2.2]), (3, .box 24 [.int .i64 t.1, .int .i64 t.2.1, .sl (.sl (.int .i64)) t.2.2.1, .sl (.sl (.int .i64)) t.2.2.2])] (rowsL 14 3 (.int .i64) st1.1)) ?_
   refine AW.seq ?_
   refine zQ h (fun hb97 h => ?_) (fun hb97 h => ?_)
   ·refine zk ?_
    refine AW.seq ?_
    refine AW.block ?_
    refine zo ?_
    refine zB [(2, .bp 2 0), (3, .bp 3 0), (5, .own 14), (6, .int .i64 st1.2), (16, .int .i64 ((List.replicate s.1.toNat ([] : List Int)).length : Int)), (17, .int .i64 st1.2)] (two [(14, .obx 25 (rowsC 14 (List.length st1.1))), (2, .box 24 [.int .i64 s.1, .int .i64 s.2.1, .sl (.sl (.int .i64)) s.2.2.1, .sl (.sl (.int .i64)) s.2.2.2]), (3, .box 24 [.int .i64 t.1, .int .i64 t.2.1, .sl (.sl (.int .i64)) t.2.2.1, .sl (.sl (.int .i64)) t.2.2.2])] (rowsL 14 3 (.int .i64) st1.1)) ?_
    refine AW.ops ?_
    obtain ⟨c98, h⟩ := ck_some.1 h
    obtain ⟨c99, h⟩ := ck_some.1 h
    refine zS 5 [(2, .bp 2 0), (3, .bp 3 0), (5, .own 14), (16, .int .i64 ((List.replicate s.1.toNat ([] : List Int)).length : Int)), (17, .int .i64 st1.2), (20, .own 14), (21, .int .i64 st1.2), (24, .own 24)] (two [(14, .obx 25 (rowsC 14 (List.length st1.1))), (2, .box 24 [.int .i64 s.1, .int .i64 s.2.1, .sl (.sl (.int .i64)) s.2.2.1, .sl (.sl (.int .i64)) s.2.2.2]), (3, .box 24 [.int .i64 t.1, .int .i64 t.2.1, .sl (.sl (.int .i64)) t.2.2.1, .sl (.sl (.int .i64)) t.2.2.2]), (24, .arr 3 (.int .i64) (List.replicate t.1.toNat (0 : Int)))] (rowsL 14 3 (.int .i64) st1.1)) ?_
    obtain ⟨c100, h⟩ := ck_some.1 h
    obtain ⟨c101, h⟩ := ck_some.1 h
    refine AO.rowsAddr tab_ok (by decide) rfl rfl tab_22 rfl tab_25 rfl rfl rfl rfl (by first | assumption | omega | (simp only [go_sem, hb97]) <;> (with_reducible and_intros) <;> first | assumption | rfl | omega | (unfold maxLen; omega)) (by first | assumption | omega | (simp only [go_sem, hb97]) <;> (with_reducible and_intros) <;> first | assumption | rfl | omega | (unfold maxLen; omega)) ?_
    refine zT [(2, .bp 2 0), (3, .bp 3 0), (5, .own 14), (16, .int .i64 ((List.replicate s.1.toNat ([] : List Int)).length : Int)), (17, .int .i64 st1.2), (24, .own 24), (25, .ap 14 1 st1.2.toNat 0)] (two [(14, .obx 25 (rowsC 14 (List.length st1.1))), (2, .box 24 [.int .i64 s.1, .int .i64 s.2.1, .sl (.sl (.int .i64)) s.2.2.1, .sl (.sl (.int .i64)) s.2.2.2]), (3, .box 24 [.int .i64 t.1, .int .i64 t.2.1, .sl (.sl (.int .i64)) t.2.2.1, .sl (.sl (.int .i64)) t.2.2.2]), (24, .arr 3 (.int .i64) (List.replicate t.1.toNat (0 : Int)))] (rowsL 14 3 (.int .i64) st1.1)) gt ?_
    refine AO.rowsStore tab_ok rfl rfl rfl tab_25 rfl rfl rfl rfl (by decide) rfl (by first | assumption | omega | (simp only [go_sem, hb97]) <;> (with_reducible and_intros) <;> first | assumption | rfl | omega | (unfold maxLen; omega)) rfl (by decide) (by decide) rfl ?_
    refine zT [(2, .bp 2 0), (3, .bp 3 0), (5, .own 14), (16, .int .i64 ((List.replicate s.1.toNat ([] : List Int)).length : Int)), (17, .int .i64 st1.2)] (two [(14, .obx 25 (rowsC 14 (List.length (st1.1.set st1.2.toNat (List.replicate t.1.toNat (0 : Int)))))), (2, .box 24 [.int .i64 s.1, .int .i64 s.2.1, .sl (.sl (.int .i64)) s.2.2.1, .sl (.sl (.int .i64)) s.2.2.2]), (3, .box 24 [.int .i64 t.1, .int .i64 t.2.1, .sl (.sl (.int .i64)) t.2.2.1, .sl (.sl (.int .i64)) t.2.2.2])] (rowsL 14 3 (.int .i64) (st1.1.set st1.2.toNat (List.replicate t.1.toNat (0 : Int))))) gt ?_
    refine zA [(2, .bp 2 0), (3, .bp 3 0), (5, .own 14), (16, .int .i64 ((List.replicate s.1.toNat ([] : List Int)).length : Int)), (17, .int .i64 st1.2)] (two [(14, .obx 25 (rowsC 14 (List.length (st1.1.set st1.2.toNat (List.replicate t.1.toNat (0 : Int)))))), (2, .box 24 [.int .i64 s.1, .int .i64 s.2.1, .sl (.sl (.int .i64)) s.2.2.1, .sl (.sl (.int .i64)) s.2.2.2]), (3, .box 24 [.int .i64 t.1, .int .i64 t.2.1, .sl (.sl (.int .i64)) t.2.2.1, .sl (.sl (.int .i64)) t.2.2.2])] (rowsL 14 3 (.int .i64) (st1.1.set st1.2.toNat (List.replicate t.1.toNat (0 : Int))))) ?_
    refine ablock_n ?_
    refine athen_n ?_
    refine AW.ops ?_
    obtain ⟨c102, h⟩ := ck_some.1 h
    refine zA [(2, .bp 2 0), (3, .bp 3 0), (5, .own 14), (16, .int .i64 ((List.replicate s.1.toNat ([] : List Int)).length : Int)), (17, .int .i64 (st1.2 + 1))] (two [(14, .obx 25 (rowsC 14 (List.length (st1.1.set st1.2.toNat (List.replicate t.1.toNat (0 : Int)))))), (2, .box 24 [.int .i64 s.1, .int .i64 s.2.1, .sl (.sl (.int .i64)) s.2.2.1, .sl (.sl (.int .i64)) s.2.2.2]), (3, .box 24 [.int .i64 t.1, .int .i64 t.2.1, .sl (.sl (.int .i64)) t.2.2.1, .sl (.sl (.int .i64)) t.2.2.2])] (rowsL 14 3 (.int .i64) (st1.1.set st1.2.toNat (List.replicate t.1.toNat (0 : Int))))) ?_
    obtain rfl := Option.some.inj h
    exact ⟨_, rfl, Wk.leTwo [] [] [] rfl rfl rfl rfl rfl rfl rfl rfl rfl (by (simp only [go_sem, hb97]) <;> (with_reducible and_intros) <;> first | assumption | rfl | omega | (unfold maxLen; omega)) (by (simp only [go_sem, hb97]) <;> (with_reducible and_intros) <;> first | assumption | rfl | omega | (unfold maxLen; omega))⟩
   ·refine AW.exit ?_
    refine athen_e ?_
    obtain rfl := Option.some.inj h
    rw [← hd94 _ rfl] at ho93
    have h := ho93
    refine athen_e ?_
    refine ablock_s ?_
    refine athen_n ?_
    exact AW.weaken (Wk.leTwo [] [] [] rfl rfl rfl rfl rfl rfl rfl rfl rfl (by (simp only [go_sem, hb97]) <;> (with_reducible and_intros) <;> first | assumption | rfl | omega | (unfold maxLen; omega)) (by (simp only [go_sem, hb97]) <;> (with_reducible and_intros) <;> first | assumption | rfl | omega | (unfold maxLen; omega))) (hk_linealref01_far_k1 _ h)

end Go.Proofs.Ytcgflignbhmoaaa
