/-
  Made by wip/tool/dc.py out of the print of the program: contracts.
-/
import Derived.Test.YtabchabbdnhjpaaVp
import Derived.Test.YtabchabbdnhjpaaSh6
import Derived.Test.YtabchabbdnhjpaaAvd
import Derived.Test.YtabchabbdnhjpaaBl6
import Derived.Test.YtabchabbdnhjpaaVuc1
import Derived.Test.YtabchabbdnhjpaaVuc2
import Derived.Test.YtabchabbdnhjpaaVuc3
namespace Go.Proofs.Ytabchabbdnhjpaa
open Go.RowKit

set_option linter.unusedSimpArgs false
set_option linter.unusedVariables false
set_option linter.constructorNameAsVariable false

set_option maxRecDepth 100000
set_option maxHeartbeats 2000000

theorem hc_slices_Sort (x0 : List Int) {r : (List Int)} (h : slices_Sort x0 = some r) : HC Try.prog 59 [(1000, .arr 3 (.int .i64) x0)] [.own 1000] [(1000, .arr 3 (.int .i64) r)] (.tup []) := by
 unfold slices_Sort at h
 refine zH Try.func59 [] 11 ?_
 refine zo ?_
 refine zB [(0, .own 1000), (2, .int .i64 (x0.length : Int))] [(1000, .arr 3 (.int .i64) x0)] ?_
 refine AW.ops ?_
 obtain ⟨c1, h⟩ := ck_some.1 h
 refine zS 4 [(5, .own 1000), (6, .int .i64 (x0.length : Int)), (8, .int .u64 (x0.length : Int))] [(1000, .arr 3 (.int .i64) x0)] ?_
 obtain ⟨v0, hv2, h⟩ := Option.bind_eq_some_iff.1 h
 refine zC [] [] (hc_math_bits_Len (x0.length : Int) hv2) [(5, .own 1000), (6, .int .i64 (x0.length : Int)), (9, .int .i64 v0)] [(1000, .arr 3 (.int .i64) x0)] ?_
 obtain ⟨v0_2, hv3, h⟩ := Option.bind_eq_some_iff.1 h
 refine zC [] [(1000, 1000)] (hc_slices_pdqsortOrdered 0 (x0.length : Int) v0 x0 hv3) [] [(1000, .arr 3 (.int .i64) v0_2)] ?_
 refine zA [] [(1000, .arr 3 (.int .i64) v0_2)] ?_
 obtain rfl := Option.some.inj h
 exact zR [] [] []

theorem hc_weave_ties_layers (t : (El T53)) (w : List Int) {r : (List (List Int))} (h : weave_ties_layers t w = some r) : HC Try.prog 36 [] [.agg (cellsX T53 t), .sl (.int .i64) w] [] (.sl (.sl (.int .i64)) r) := by
 unfold weave_ties_layers at h
 refine zH Try.func36 [.tmp 4] 62 ?_
 refine zo ?_
 refine zB [(1, .sl (.int .i64) w), (2, .bp 2 0)] [(2, .box 53 (cellsX T53 t))] ?_
 refine zo ?_
 refine AO.rowsNil 25 3 (.int .i64) rfl (by decide) (by decide) rfl rfl rfl rfl rfl rfl ?_
 refine zT [(1, .sl (.int .i64) w), (2, .bp 2 0), (5, .own 5)] (two [(5, .obx 25 (rowsC 5 (List.length ([] : List (List Int))))), (2, .box 53 (cellsX T53 t))] (rowsL 5 3 (.int .i64) ([] : List (List Int)))) gt ?_
 refine zB [(1, .sl (.int .i64) w), (2, .bp 2 0), (5, .own 5)] (two [(5, .obx 25 (rowsC 5 (List.length ([] : List (List Int))))), (2, .box 53 (cellsX T53 t))] (rowsL 5 3 (.int .i64) ([] : List (List Int)))) ?_
 refine AW.have1 (fun b4_3 : (List (List Int)) => weave_ties_layers_k1 b4_3 = some r) (fun b4_3 => ⟨fr [(5, .own 5)], hpGet (two [(5, .obx 25 (rowsC 5 (List.length b4_3)))] (rowsL 5 3 (.int .i64) b4_3)), gt⟩) (fun b4_3 h => ?_) (fun hk_weave_ties_layers_k1 => ?_)
 ·as_aux_lemma =>
   unfold weave_ties_layers_k1 at h
   refine AW.have1 (fun b5 : (List (List Int)) => weave_ties_layers_k5 b5 = some r) (fun b5 => ⟨fr [(5, .own 5)], hpGet (two [(5, .obx 25 (rowsC 5 (List.length b5)))] (rowsL 5 3 (.int .i64) b5)), gt⟩) (fun b5 h => ?_) (fun hk_weave_ties_layers_k5 => ?_)
   ·as_aux_lemma =>
     unfold weave_ties_layers_k5 at h
     refine zo ?_
     refine zB [(4, .own 5)] (two [(5, .obx 25 (rowsC 5 (List.length b5)))] (rowsL 5 3 (.int .i64) b5)) ?_
     refine AW.weaken (Wk.rowsRest (b := 5) (i0 := 4) rfl rfl rfl (by decide) (by decide) rfl) ?_
     refine AW.weaken (s' := ⟨fr [(4, .sl (.sl (.int .i64)) b5)], hpGet [], gt⟩) (Wk.to (by simp only [go_sem])) ?_
     refine AW.ret ?_
     obtain rfl := Option.some.inj h
     exact zR [] [] []
   ·refine AW.seq ?_
    refine zo ?_
    refine zS 1 [(5, .own 5), (52, .own 5)] (two [(5, .obx 25 (rowsC 5 (List.length b4_3)))] (rowsL 5 3 (.int .i64) b4_3)) ?_
    refine AO.rowsLen tab_ok (by decide) rfl rfl rfl rfl rfl tab_28 rfl rfl rfl ?_
    refine zT [(5, .own 5), (52, .own 5), (53, .int .i64 (b4_3.length : Int))] (two [(5, .obx 25 (rowsC 5 (List.length b4_3)))] (rowsL 5 3 (.int .i64) b4_3)) gt ?_
    refine zB [(5, .own 5), (52, .own 5), (53, .int .i64 (b4_3.length : Int)), (54, .int .i64 0)] (two [(5, .obx 25 (rowsC 5 (List.length b4_3)))] (rowsL 5 3 (.int .i64) b4_3)) ?_
    refine AW.block ?_
    obtain ⟨rv5, hw1, ho2⟩ := Option.bind_eq_some_iff.1 h
    refine AW.loopO (weave_ties_layers_b3 b4_3) (fun st3 => ⟨fr [(5, .own 5), (52, .own 5), (53, .int .i64 (b4_3.length : Int)), (54, .int .i64 st3.2)], hpGet (two [(5, .obx 25 (rowsC 5 (List.length st3.1)))] (rowsL 5 3 (.int .i64) st3.1)), gt⟩) (b4_3, 0) hw1 (Wk.leTwo [] [] [] rfl rfl rfl rfl rfl rfl rfl rfl rfl (by (simp only [go_sem]) <;> (with_reducible and_intros) <;> first | assumption | rfl | omega | (unfold maxLen; omega)) (by (simp only [go_sem]) <;> (with_reducible and_intros) <;> first | assumption | rfl | omega | (unfold maxLen; omega))) ?_
    as_aux_lemma =>
     intro st3 x4 h hd3
     unfold weave_ties_layers_b3 at h
     refine zo ?_
     refine zB [(5, .own 5), (52, .own 5), (53, .int .i64 (b4_3.length : Int)), (54, .int .i64 st3.2), (55, .bool (decide (st3.2 < (b4_3.length : Int))))] (two [(5, .obx 25 (rowsC 5 (List.length st3.1)))] (rowsL 5 3 (.int .i64) st3.1)) ?_
     refine AW.seq ?_
     refine zQ h (fun hb6 h => ?_) (fun hb6 h => ?_)
     ·refine zk ?_
      refine AW.seq ?_
      refine AW.block ?_
      refine zo ?_
      obtain ⟨c7, h⟩ := ck_some.1 h
      obtain ⟨c8, h⟩ := ck_some.1 h
      refine AO.rowsAddr tab_ok (by decide) rfl rfl tab_28 rfl tab_25 rfl rfl rfl rfl (by first | assumption | omega | (simp only [go_sem, hb6]) <;> (with_reducible and_intros) <;> first | assumption | rfl | omega | (unfold maxLen; omega)) (by first | assumption | omega | (simp only [go_sem, hb6]) <;> (with_reducible and_intros) <;> first | assumption | rfl | omega | (unfold maxLen; omega)) ?_
      refine zT [(5, .own 5), (52, .own 5), (53, .int .i64 (b4_3.length : Int)), (54, .int .i64 st3.2), (56, .ap 5 1 st3.2.toNat 0)] (two [(5, .obx 25 (rowsC 5 (List.length st3.1)))] (rowsL 5 3 (.int .i64) st3.1)) gt ?_
      refine AO.rowsLoad tab_ok (by decide) rfl rfl tab_25 rfl rfl rfl rfl (rowsC_get (by first | assumption | omega | (simp only [go_sem, hb6]) <;> (with_reducible and_intros) <;> first | assumption | rfl | omega | (unfold maxLen; omega))) ?_
      refine zT [(5, .own 5), (52, .own 5), (53, .int .i64 (b4_3.length : Int)), (54, .int .i64 st3.2), (57, .own (inm 5 st3.2.toNat))] (two [(5, .obx 25 (rowsC 5 (List.length st3.1)))] (rowsL 5 3 (.int .i64) st3.1)) gt ?_
      refine zB [(5, .own 5), (10, .own (inm 5 st3.2.toNat)), (52, .own 5), (53, .int .i64 (b4_3.length : Int)), (54, .int .i64 st3.2)] (two [(5, .obx 25 (rowsC 5 (List.length st3.1)))] (rowsL 5 3 (.int .i64) st3.1)) ?_
      refine AW.ops ?_
      refine zS 1 [(5, .own 5), (52, .own 5), (53, .int .i64 (b4_3.length : Int)), (54, .int .i64 st3.2), (58, .own (inm 5 st3.2.toNat))] (two [(5, .obx 25 (rowsC 5 (List.length st3.1)))] (rowsL 5 3 (.int .i64) st3.1)) ?_
      obtain ⟨v0_2, hv9, h⟩ := Option.bind_eq_some_iff.1 h
      refine AO.rowsCall tab_ok rfl (by decide) rfl rfl rfl rfl rfl rfl (by first | assumption | omega | (simp only [go_sem, hb6]) <;> (with_reducible and_intros) <;> first | assumption | rfl | omega | (unfold maxLen; omega)) rfl (hc_slices_Sort (st3.1.getD st3.2.toNat []) hv9) ?_
      refine zT [(5, .own 5), (52, .own 5), (53, .int .i64 (b4_3.length : Int)), (54, .int .i64 st3.2)] (two [(5, .obx 25 (rowsC 5 (List.length (st3.1.set st3.2.toNat v0_2))))] (rowsL 5 3 (.int .i64) (st3.1.set st3.2.toNat v0_2))) gt ?_
      refine zA [(5, .own 5), (52, .own 5), (53, .int .i64 (b4_3.length : Int)), (54, .int .i64 st3.2)] (two [(5, .obx 25 (rowsC 5 (List.length (st3.1.set st3.2.toNat v0_2))))] (rowsL 5 3 (.int .i64) (st3.1.set st3.2.toNat v0_2))) ?_
      refine ablock_n ?_
      refine athen_n ?_
      refine AW.ops ?_
      obtain ⟨c10, h⟩ := ck_some.1 h
      refine zA [(5, .own 5), (52, .own 5), (53, .int .i64 (b4_3.length : Int)), (54, .int .i64 (st3.2 + 1))] (two [(5, .obx 25 (rowsC 5 (List.length (st3.1.set st3.2.toNat v0_2))))] (rowsL 5 3 (.int .i64) (st3.1.set st3.2.toNat v0_2))) ?_
      obtain rfl := Option.some.inj h
      exact ⟨_, rfl, Wk.leTwo [] [] [] rfl rfl rfl rfl rfl rfl rfl rfl rfl (by (simp only [go_sem, hb6]) <;> (with_reducible and_intros) <;> first | assumption | rfl | omega | (unfold maxLen; omega)) (by (simp only [go_sem, hb6]) <;> (with_reducible and_intros) <;> first | assumption | rfl | omega | (unfold maxLen; omega))⟩
     ·refine AW.exit ?_
      refine athen_e ?_
      obtain rfl := Option.some.inj h
      rw [← hd3 _ rfl] at ho2
      have h := ho2
      refine athen_e ?_
      refine ablock_s ?_
      refine athen_n ?_
      exact AW.weaken (Wk.leTwo [] [] [] rfl rfl rfl rfl rfl rfl rfl rfl rfl (by (simp only [go_sem, hb6]) <;> (with_reducible and_intros) <;> first | assumption | rfl | omega | (unfold maxLen; omega)) (by (simp only [go_sem, hb6]) <;> (with_reducible and_intros) <;> first | assumption | rfl | omega | (unfold maxLen; omega))) (hk_weave_ties_layers_k5 _ h)
 ·refine AW.seq ?_
  refine zo ?_
  refine zB [(2, .bp 2 0), (5, .own 5), (11, .sl (.int .i64) w), (12, .int .i64 (w.length : Int)), (13, .int .i64 0)] (two [(5, .obx 25 (rowsC 5 (List.length ([] : List (List Int))))), (2, .box 53 (cellsX T53 t))] (rowsL 5 3 (.int .i64) ([] : List (List Int)))) ?_
  refine AW.block ?_
  obtain ⟨rv15, hw11, ho12⟩ := Option.bind_eq_some_iff.1 h
  refine AW.loopO (weave_ties_layers_b1 t w) (fun st1 => ⟨fr [(2, .bp 2 0), (5, .own 5), (11, .sl (.int .i64) w), (12, .int .i64 (w.length : Int)), (13, .int .i64 st1.2)], hpGet (two [(5, .obx 25 (rowsC 5 (List.length st1.1))), (2, .box 53 (cellsX T53 t))] (rowsL 5 3 (.int .i64) st1.1)), gt⟩) (([] : List (List Int)), 0) hw11 (Wk.leTwo [] [] [] rfl rfl rfl rfl rfl rfl rfl rfl rfl (by (simp only [go_sem]) <;> (with_reducible and_intros) <;> first | assumption | rfl | omega | (unfold maxLen; omega)) (by (simp only [go_sem]) <;> (with_reducible and_intros) <;> first | assumption | rfl | omega | (unfold maxLen; omega))) ?_
  as_aux_lemma =>
   intro st1 x14 h hd13
   unfold weave_ties_layers_b1 at h
   refine zo ?_
   refine zB [(2, .bp 2 0), (5, .own 5), (11, .sl (.int .i64) w), (12, .int .i64 (w.length : Int)), (13, .int .i64 st1.2), (14, .bool (decide (st1.2 < (w.length : Int))))] (two [(5, .obx 25 (rowsC 5 (List.length st1.1))), (2, .box 53 (cellsX T53 t))] (rowsL 5 3 (.int .i64) st1.1)) ?_
   refine AW.seq ?_
   refine zQ h (fun hb16 h => ?_) (fun hb16 h => ?_)
   ·refine zk ?_
    refine AW.have1 (fun b4_2 : (List (List Int)) => weave_ties_layers_k2 st1 b4_2 = some x14) (fun b4_2 => ⟨fr [(2, .bp 2 0), (5, .own 5), (11, .sl (.int .i64) w), (12, .int .i64 (w.length : Int)), (13, .int .i64 st1.2)], hpGet (two [(5, .obx 25 (rowsC 5 (List.length b4_2))), (2, .box 53 (cellsX T53 t))] (rowsL 5 3 (.int .i64) b4_2)), gt⟩) (fun b4_2 h => ?_) (fun hk_weave_ties_layers_k2 => ?_)
    ·as_aux_lemma =>
      unfold weave_ties_layers_k2 at h
      refine AW.ops ?_
      obtain ⟨c17, h⟩ := ck_some.1 h
      refine zA [(2, .bp 2 0), (5, .own 5), (11, .sl (.int .i64) w), (12, .int .i64 (w.length : Int)), (13, .int .i64 (st1.2 + 1))] (two [(5, .obx 25 (rowsC 5 (List.length b4_2))), (2, .box 53 (cellsX T53 t))] (rowsL 5 3 (.int .i64) b4_2)) ?_
      obtain rfl := Option.some.inj h
      exact ⟨_, rfl, Wk.leTwo [] [] [] rfl rfl rfl rfl rfl rfl rfl rfl rfl (by (simp only [go_sem, hb16]) <;> (with_reducible and_intros) <;> first | assumption | rfl | omega | (unfold maxLen; omega)) (by (simp only [go_sem, hb16]) <;> (with_reducible and_intros) <;> first | assumption | rfl | omega | (unfold maxLen; omega))⟩
    ·refine AW.seq ?_
     refine AW.block ?_
     refine zo ?_
     obtain ⟨c18, h⟩ := ck_some.1 h
     obtain ⟨c19, h⟩ := ck_some.1 h
     refine zB [(2, .bp 2 0), (5, .own 5), (7, .int .i64 (w.getD st1.2.toNat 0)), (11, .sl (.int .i64) w), (12, .int .i64 (w.length : Int)), (13, .int .i64 st1.2)] (two [(5, .obx 25 (rowsC 5 (List.length st1.1))), (2, .box 53 (cellsX T53 t))] (rowsL 5 3 (.int .i64) st1.1)) ?_
     refine zo ?_
     refine zS 1 [(2, .bp 2 0), (5, .own 5), (7, .int .i64 (w.getD st1.2.toNat 0)), (11, .sl (.int .i64) w), (12, .int .i64 (w.length : Int)), (13, .int .i64 st1.2), (17, .own 5)] (two [(5, .obx 25 (rowsC 5 (List.length st1.1))), (2, .box 53 (cellsX T53 t))] (rowsL 5 3 (.int .i64) st1.1)) ?_
     refine AO.rowsLen tab_ok (by decide) rfl rfl rfl rfl rfl tab_28 rfl rfl rfl ?_
     refine zT [(2, .bp 2 0), (5, .own 5), (7, .int .i64 (w.getD st1.2.toNat 0)), (11, .sl (.int .i64) w), (12, .int .i64 (w.length : Int)), (13, .int .i64 st1.2), (18, .int .i64 (st1.1.length : Int))] (two [(5, .obx 25 (rowsC 5 (List.length st1.1))), (2, .box 53 (cellsX T53 t))] (rowsL 5 3 (.int .i64) st1.1)) gt ?_
     refine zB [(2, .bp 2 0), (5, .own 5), (7, .int .i64 (w.getD st1.2.toNat 0)), (8, .int .i64 (st1.1.length : Int)), (11, .sl (.int .i64) w), (12, .int .i64 (w.length : Int)), (13, .int .i64 st1.2)] (two [(5, .obx 25 (rowsC 5 (List.length st1.1))), (2, .box 53 (cellsX T53 t))] (rowsL 5 3 (.int .i64) st1.1)) ?_
     refine AW.have1 (fun b3 : Int => weave_ties_layers_k3 w st1 b3 = some x14) (fun b3 => ⟨fr [(2, .bp 2 0), (5, .own 5), (7, .int .i64 (w.getD st1.2.toNat 0)), (8, .int .i64 b3), (11, .sl (.int .i64) w), (12, .int .i64 (w.length : Int)), (13, .int .i64 st1.2)], hpGet (two [(5, .obx 25 (rowsC 5 (List.length st1.1))), (2, .box 53 (cellsX T53 t))] (rowsL 5 3 (.int .i64) st1.1)), gt⟩) (fun b3 h => ?_) (fun hk_weave_ties_layers_k3 => ?_)
     ·as_aux_lemma =>
       unfold weave_ties_layers_k3 at h
       refine AW.have1 (fun b4 : (List (List Int)) => weave_ties_layers_k4 w st1 b3 b4 = some x14) (fun b4 => ⟨fr [(2, .bp 2 0), (5, .own 5), (7, .int .i64 (w.getD st1.2.toNat 0)), (8, .int .i64 b3), (11, .sl (.int .i64) w), (12, .int .i64 (w.length : Int)), (13, .int .i64 st1.2)], hpGet (two [(5, .obx 25 (rowsC 5 (List.length b4))), (2, .box 53 (cellsX T53 t))] (rowsL 5 3 (.int .i64) b4)), gt⟩) (fun b4 h => ?_) (fun hk_weave_ties_layers_k4 => ?_)
       ·as_aux_lemma =>
         unfold weave_ties_layers_k4 at h
         refine AW.ops ?_
         refine zS 4 [(2, .bp 2 0), (5, .own 5), (7, .int .i64 (w.getD st1.2.toNat 0)), (11, .sl (.int .i64) w), (12, .int .i64 (w.length : Int)), (13, .int .i64 st1.2), (41, .own 5), (42, .int .i64 b3), (43, .own 5), (44, .int .i64 b3)] (two [(5, .obx 25 (rowsC 5 (List.length b4))), (2, .box 53 (cellsX T53 t))] (rowsL 5 3 (.int .i64) b4)) ?_
         obtain ⟨c20, h⟩ := ck_some.1 h
         obtain ⟨c21, h⟩ := ck_some.1 h
         refine AO.rowsAddr tab_ok (by decide) rfl rfl tab_28 rfl tab_25 rfl rfl rfl rfl (by first | assumption | omega | (simp only [go_sem, hb16]) <;> (with_reducible and_intros) <;> first | assumption | rfl | omega | (unfold maxLen; omega)) (by first | assumption | omega | (simp only [go_sem, hb16]) <;> (with_reducible and_intros) <;> first | assumption | rfl | omega | (unfold maxLen; omega)) ?_
         refine zT [(2, .bp 2 0), (5, .own 5), (7, .int .i64 (w.getD st1.2.toNat 0)), (11, .sl (.int .i64) w), (12, .int .i64 (w.length : Int)), (13, .int .i64 st1.2), (41, .own 5), (42, .int .i64 b3), (45, .ap 5 1 b3.toNat 0)] (two [(5, .obx 25 (rowsC 5 (List.length b4))), (2, .box 53 (cellsX T53 t))] (rowsL 5 3 (.int .i64) b4)) gt ?_
         refine AO.rowsLoad tab_ok (by decide) rfl rfl tab_25 rfl rfl rfl rfl (rowsC_get (by first | assumption | omega | (simp only [go_sem, hb16]) <;> (with_reducible and_intros) <;> first | assumption | rfl | omega | (unfold maxLen; omega))) ?_
         refine zT [(2, .bp 2 0), (5, .own 5), (7, .int .i64 (w.getD st1.2.toNat 0)), (11, .sl (.int .i64) w), (12, .int .i64 (w.length : Int)), (13, .int .i64 st1.2), (41, .own 5), (42, .int .i64 b3), (46, .own (inm 5 b3.toNat))] (two [(5, .obx 25 (rowsC 5 (List.length b4))), (2, .box 53 (cellsX T53 t))] (rowsL 5 3 (.int .i64) b4)) gt ?_
         refine zS 2 [(2, .bp 2 0), (5, .own 5), (11, .sl (.int .i64) w), (12, .int .i64 (w.length : Int)), (13, .int .i64 st1.2), (41, .own 5), (42, .int .i64 b3), (46, .own (inm 5 b3.toNat)), (48, .own 48)] (two [(5, .obx 25 (rowsC 5 (List.length b4))), (2, .box 53 (cellsX T53 t)), (48, .arr 3 (.int .i64) [(w.getD st1.2.toNat 0)])] (rowsL 5 3 (.int .i64) b4)) ?_
         obtain ⟨c22, h⟩ := ck_some.1 h
         obtain ⟨c23, h⟩ := ck_some.1 h
         refine AO.rowsPush tab_ok rfl (by decide) (by decide) rfl rfl rfl rfl rfl tab_25 rfl tab_3 rfl rfl (by decide) rfl rfl tab_28 rfl tab_25 rfl rfl rfl rfl tab_25 rfl rfl rfl rfl (by decide) (by decide) (by decide) rfl rfl rfl (by first | assumption | omega | (simp only [go_sem, hb16]) <;> (with_reducible and_intros) <;> first | assumption | rfl | omega | (unfold maxLen; omega)) (by first | assumption | omega | (simp only [go_sem, hb16]) <;> (with_reducible and_intros) <;> first | assumption | rfl | omega | (unfold maxLen; omega)) (fun v (e : AVal.own 48 = AVal.cv v) => by cases e) (not_in_small (N := [48]) rfl (inm_big _ _)) rfl rfl (by assumption) (by simp only [List.length_cons, List.length_nil]; unfold maxLen; omega) ?_
         refine zT [(2, .bp 2 0), (5, .own 5), (11, .sl (.int .i64) w), (12, .int .i64 (w.length : Int)), (13, .int .i64 st1.2)] (two [(5, .obx 25 (rowsC 5 (List.length (b4.set b3.toNat ((b4.getD b3.toNat []) ++ [(w.getD st1.2.toNat 0)]))))), (2, .box 53 (cellsX T53 t))] (rowsL 5 3 (.int .i64) (b4.set b3.toNat ((b4.getD b3.toNat []) ++ [(w.getD st1.2.toNat 0)])))) gt ?_
         refine zA [(2, .bp 2 0), (5, .own 5), (11, .sl (.int .i64) w), (12, .int .i64 (w.length : Int)), (13, .int .i64 st1.2)] (two [(5, .obx 25 (rowsC 5 (List.length (b4.set b3.toNat ((b4.getD b3.toNat []) ++ [(w.getD st1.2.toNat 0)]))))), (2, .box 53 (cellsX T53 t))] (rowsL 5 3 (.int .i64) (b4.set b3.toNat ((b4.getD b3.toNat []) ++ [(w.getD st1.2.toNat 0)])))) ?_
         refine ablock_n ?_
         refine athen_n ?_
         exact AW.weaken (Wk.leTwo [] [] [] rfl rfl rfl rfl rfl rfl rfl rfl rfl (by (simp only [go_sem, hb16]) <;> (with_reducible and_intros) <;> first | assumption | rfl | omega | (unfold maxLen; omega)) (by (simp only [go_sem, hb16]) <;> (with_reducible and_intros) <;> first | assumption | rfl | omega | (unfold maxLen; omega))) (hk_weave_ties_layers_k2 _ h)
       ·refine AW.seq ?_
        refine zo ?_
        refine zS 2 [(2, .bp 2 0), (5, .own 5), (7, .int .i64 (w.getD st1.2.toNat 0)), (8, .int .i64 b3), (11, .sl (.int .i64) w), (12, .int .i64 (w.length : Int)), (13, .int .i64 st1.2), (34, .int .i64 b3), (35, .own 5)] (two [(5, .obx 25 (rowsC 5 (List.length st1.1))), (2, .box 53 (cellsX T53 t))] (rowsL 5 3 (.int .i64) st1.1)) ?_
        refine AO.rowsLen tab_ok (by decide) rfl rfl rfl rfl rfl tab_28 rfl rfl rfl ?_
        refine zT [(2, .bp 2 0), (5, .own 5), (7, .int .i64 (w.getD st1.2.toNat 0)), (8, .int .i64 b3), (11, .sl (.int .i64) w), (12, .int .i64 (w.length : Int)), (13, .int .i64 st1.2), (34, .int .i64 b3), (36, .int .i64 (st1.1.length : Int))] (two [(5, .obx 25 (rowsC 5 (List.length st1.1))), (2, .box 53 (cellsX T53 t))] (rowsL 5 3 (.int .i64) st1.1)) gt ?_
        refine zB [(2, .bp 2 0), (5, .own 5), (7, .int .i64 (w.getD st1.2.toNat 0)), (8, .int .i64 b3), (11, .sl (.int .i64) w), (12, .int .i64 (w.length : Int)), (13, .int .i64 st1.2), (37, .bool (decide (b3 = (st1.1.length : Int))))] (two [(5, .obx 25 (rowsC 5 (List.length st1.1))), (2, .box 53 (cellsX T53 t))] (rowsL 5 3 (.int .i64) st1.1)) ?_
        refine zQ h (fun hb24 h => ?_) (fun hb24 h => ?_)
        ·refine AW.ops ?_
         refine zS 1 [(2, .bp 2 0), (7, .int .i64 (w.getD st1.2.toNat 0)), (8, .int .i64 b3), (11, .sl (.int .i64) w), (12, .int .i64 (w.length : Int)), (13, .int .i64 st1.2), (38, .own 5)] (two [(5, .obx 25 (rowsC 5 (List.length st1.1))), (2, .box 53 (cellsX T53 t))] (rowsL 5 3 (.int .i64) st1.1)) ?_
         obtain ⟨c25, h⟩ := ck_some.1 h
         refine AO.rowsApp tab_ok rfl (by decide) rfl rfl rfl (by decide) rfl rfl rfl rfl rfl tab_28 rfl tab_25 rfl rfl rfl rfl (by decide) rfl (by assumption) (by unfold maxLen; omega) ?_
         refine zT [(2, .bp 2 0), (7, .int .i64 (w.getD st1.2.toNat 0)), (8, .int .i64 b3), (11, .sl (.int .i64) w), (12, .int .i64 (w.length : Int)), (13, .int .i64 st1.2), (40, .own 5)] (two [(5, .obx 25 (rowsC 5 (List.length (st1.1 ++ [[]])))), (2, .box 53 (cellsX T53 t))] (rowsL 5 3 (.int .i64) (st1.1 ++ [[]]))) gt ?_
         refine zB [(2, .bp 2 0), (5, .own 5), (7, .int .i64 (w.getD st1.2.toNat 0)), (8, .int .i64 b3), (11, .sl (.int .i64) w), (12, .int .i64 (w.length : Int)), (13, .int .i64 st1.2)] (two [(5, .obx 25 (rowsC 5 (List.length (st1.1 ++ [[]])))), (2, .box 53 (cellsX T53 t))] (rowsL 5 3 (.int .i64) (st1.1 ++ [[]]))) ?_
         exact AW.weaken (Wk.leTwo [] [] [] rfl rfl rfl rfl rfl rfl rfl rfl rfl (by (simp only [go_sem, hb16, hb24]) <;> (with_reducible and_intros) <;> first | assumption | rfl | omega | (unfold maxLen; omega)) (by (simp only [go_sem, hb16, hb24]) <;> (with_reducible and_intros) <;> first | assumption | rfl | omega | (unfold maxLen; omega))) (hk_weave_ties_layers_k4 _ h)
        ·refine zk ?_
         exact AW.weaken (Wk.leTwo [] [] [] rfl rfl rfl rfl rfl rfl rfl rfl rfl (by (simp only [go_sem, hb16, hb24]) <;> (with_reducible and_intros) <;> first | assumption | rfl | omega | (unfold maxLen; omega)) (by (simp only [go_sem, hb16, hb24]) <;> (with_reducible and_intros) <;> first | assumption | rfl | omega | (unfold maxLen; omega))) (hk_weave_ties_layers_k4 _ h)
     ·refine AW.seq ?_
      refine AW.block ?_
      obtain ⟨rv30, hw26, ho27⟩ := Option.bind_eq_some_iff.1 h
      refine AW.loopO (weave_ties_layers_b2 t w st1) (fun st2 => ⟨fr [(2, .bp 2 0), (5, .own 5), (7, .int .i64 (w.getD st1.2.toNat 0)), (8, .int .i64 st2), (11, .sl (.int .i64) w), (12, .int .i64 (w.length : Int)), (13, .int .i64 st1.2)], hpGet (two [(5, .obx 25 (rowsC 5 (List.length st1.1))), (2, .box 53 (cellsX T53 t))] (rowsL 5 3 (.int .i64) st1.1)), gt⟩) (st1.1.length : Int) hw26 (Wk.leTwo [] [] [] rfl rfl rfl rfl rfl rfl rfl rfl rfl (by (simp only [go_sem, hb16]) <;> (with_reducible and_intros) <;> first | assumption | rfl | omega | (unfold maxLen; omega)) (by (simp only [go_sem, hb16]) <;> (with_reducible and_intros) <;> first | assumption | rfl | omega | (unfold maxLen; omega))) ?_
      as_aux_lemma =>
       intro st2 x29 h hd28
       unfold weave_ties_layers_b2 at h
       refine AW.seq ?_
       refine AW.seq ?_
       refine AW.draw tab_ok mixed_ok [] [] (by decide) (lex_fast (by kernel_rfl)) ?_
       as_aux_lemma =>
        refine adops_cut 3 (fun K' hK31 => ?_)
        try dsimp only [List.drop_succ_cons, List.drop_zero, List.take_succ_cons, List.take_zero]
        simp only [go_sem, hb16]
        repeat with_reducible refine zN ?_
        refine hK31 _ ?_
        as_aux_lemma =>
         rcases zI h with ⟨hb32, h⟩ | ⟨hb32, h⟩
         ·simp only [hb32]
          as_aux_lemma =>
           obtain ⟨c34, h⟩ := ck_some.1 h
           obtain ⟨c35, h⟩ := ck_some.1 h
           obtain ⟨c36, h⟩ := ck_some.1 h
           refine adops_cut 6 (fun K' hK33 => ?_)
           try dsimp only [List.drop_succ_cons, List.drop_zero, List.take_succ_cons, List.take_zero]
           simp only [go_sem, hb16, hb32]
           repeat with_reducible refine zN ?_
           refine hK33 _ ?_
           as_aux_lemma =>
            have hx38 : (st2 - 1).toNat < List.length st1.1 := by omega
            refine adops_cut 1 (fun K' hK37 => ?_)
            try dsimp only [List.drop_succ_cons, List.drop_zero, List.take_succ_cons, List.take_zero]
            simp only [go_sem, hb16, hb32, hx38]
            repeat with_reducible refine zN ?_
            refine hK37 _ ?_
            as_aux_lemma =>
             obtain ⟨v0, hv39, h⟩ := Option.bind_eq_some_iff.1 h
             refine adops.call (by first | trivial | rfl) rfl rfl rfl (fun _ h => ⟨fun _ => h, fun hn => absurd rfl hn⟩) [inm 5 (st2 - 1).toNat] [] (hc_weave_ties_onAny t (w.getD st1.2.toNat 0) (st1.1.getD (st2 - 1).toNat []) hv39) rfl (by (simp only [go_sem, hb16, hb32, hx38]) <;> (with_reducible and_intros) <;> first | assumption | rfl | omega | (unfold maxLen; omega)) (by (simp only [go_sem, hb16, hb32, hx38]) <;> (with_reducible and_intros) <;> first | assumption | rfl | omega | (unfold maxLen; omega)) rfl ?_
             refine adops_cut 2 (fun K' hK40 => ?_)
             try dsimp only [List.drop_succ_cons, List.drop_zero, List.take_succ_cons, List.take_zero]
             simp only [go_sem, hb16, hb32, hx38]
             repeat with_reducible refine zN ?_
             refine hK40 _ ?_
             refine adops_nil ?_
             refine athen_n ?_
             refine zV [(2, .bp 2 0), (5, .own 5), (7, .int .i64 (w.getD st1.2.toNat 0)), (8, .int .i64 st2), (11, .sl (.int .i64) w), (12, .int .i64 (w.length : Int)), (13, .int .i64 st1.2), (31, .bool (!v0))] (two [(5, .obx 25 (rowsC 5 (List.length st1.1))), (2, .box 53 (cellsX T53 t))] (rowsL 5 3 (.int .i64) st1.1)) gt ?_
             as_aux_lemma =>
              refine zQ h (fun hb41 h => ?_) (fun hb41 h => ?_)
              ·refine zk ?_
               refine AW.block ?_
               refine AW.ops ?_
               obtain ⟨c42, h⟩ := ck_some.1 h
               refine zA [(2, .bp 2 0), (5, .own 5), (7, .int .i64 (w.getD st1.2.toNat 0)), (8, .int .i64 (st2 - 1)), (11, .sl (.int .i64) w), (12, .int .i64 (w.length : Int)), (13, .int .i64 st1.2)] (two [(5, .obx 25 (rowsC 5 (List.length st1.1))), (2, .box 53 (cellsX T53 t))] (rowsL 5 3 (.int .i64) st1.1)) ?_
               refine ablock_n ?_
               obtain rfl := Option.some.inj h
               exact ⟨_, rfl, Wk.leTwo [] [] [] rfl rfl rfl rfl rfl rfl rfl rfl rfl (by (simp only [go_sem, hb16, hb32, hx38, hb41]) <;> (with_reducible and_intros) <;> first | assumption | rfl | omega | (unfold maxLen; omega)) (by (simp only [go_sem, hb16, hb32, hx38, hb41]) <;> (with_reducible and_intros) <;> first | assumption | rfl | omega | (unfold maxLen; omega))⟩
              ·refine AW.exit ?_
               refine athen_e ?_
               obtain rfl := Option.some.inj h
               rw [← hd28 _ rfl] at ho27
               have h := ho27
               refine athen_e ?_
               refine ablock_s ?_
               refine athen_n ?_
               exact AW.weaken (Wk.leTwo [] [] [] rfl rfl rfl rfl rfl rfl rfl rfl rfl (by (simp only [go_sem, hb16, hb32, hx38, hb41]) <;> (with_reducible and_intros) <;> first | assumption | rfl | omega | (unfold maxLen; omega)) (by (simp only [go_sem, hb16, hb32, hx38, hb41]) <;> (with_reducible and_intros) <;> first | assumption | rfl | omega | (unfold maxLen; omega))) (hk_weave_ties_layers_k3 _ h)
         ·simp only [hb32]
          as_aux_lemma =>
           refine adops_cut 4 (fun K' hK43 => ?_)
           try dsimp only [List.drop_succ_cons, List.drop_zero, List.take_succ_cons, List.take_zero]
           simp only [go_sem, hb16, hb32]
           repeat with_reducible refine zN ?_
           refine hK43 _ ?_
           as_aux_lemma =>
            refine adops_cut 4 (fun K' hK44 => ?_)
            try dsimp only [List.drop_succ_cons, List.drop_zero, List.take_succ_cons, List.take_zero]
            simp only [go_sem, hb16, hb32]
            repeat with_reducible refine zN ?_
            refine hK44 _ ?_
            as_aux_lemma =>
             refine adops_cut 2 (fun K' hK45 => ?_)
             try dsimp only [List.drop_succ_cons, List.drop_zero, List.take_succ_cons, List.take_zero]
             simp only [go_sem, hb16, hb32]
             repeat with_reducible refine zN ?_
             refine hK45 _ ?_
             refine adops_nil ?_
             refine athen_n ?_
             refine zV [(2, .bp 2 0), (5, .own 5), (7, .int .i64 (w.getD st1.2.toNat 0)), (8, .int .i64 st2), (11, .sl (.int .i64) w), (12, .int .i64 (w.length : Int)), (13, .int .i64 st1.2), (31, .bool false)] (two [(5, .obx 25 (rowsC 5 (List.length st1.1))), (2, .box 53 (cellsX T53 t))] (rowsL 5 3 (.int .i64) st1.1)) gt ?_
             as_aux_lemma =>
              refine AW.cond (b := false) rfl (fun hb46 => by cases hb46) (fun _ => ?_)
              refine AW.exit ?_
              refine athen_e ?_
              obtain rfl := Option.some.inj h
              rw [← hd28 _ rfl] at ho27
              have h := ho27
              refine athen_e ?_
              refine ablock_s ?_
              refine athen_n ?_
              exact AW.weaken (Wk.leTwo [] [] [] rfl rfl rfl rfl rfl rfl rfl rfl rfl (by (simp only [go_sem, hb16, hb32]) <;> (with_reducible and_intros) <;> first | assumption | rfl | omega | (unfold maxLen; omega)) (by (simp only [go_sem, hb16, hb32]) <;> (with_reducible and_intros) <;> first | assumption | rfl | omega | (unfold maxLen; omega))) (hk_weave_ties_layers_k3 _ h)
   ·refine AW.exit ?_
    refine athen_e ?_
    obtain rfl := Option.some.inj h
    rw [← hd13 _ rfl] at ho12
    have h := ho12
    refine athen_e ?_
    refine ablock_s ?_
    refine athen_n ?_
    exact AW.weaken (Wk.leTwo [] [] [] rfl rfl rfl rfl rfl rfl rfl rfl rfl (by (simp only [go_sem, hb16]) <;> (with_reducible and_intros) <;> first | assumption | rfl | omega | (unfold maxLen; omega)) (by (simp only [go_sem, hb16]) <;> (with_reducible and_intros) <;> first | assumption | rfl | omega | (unfold maxLen; omega))) (hk_weave_ties_layers_k1 _ h)

theorem hc_weave_Layers (l : Int × (List (Int × Int))) (w : List Int) {r : (List (List Int)) × Int} (h : weave_Layers l w = some r) : HC Try.prog 9 [] [.agg [.int .i64 l.1, .sl (.pair (.int .i64) (.int .i64)) l.2], .sl (.int .i64) w] [] (.tup [.sl (.sl (.int .i64)) r.1, .int .i64 r.2]) := by
 unfold weave_Layers at h
 refine zH Try.func9 [.tmp 4, .tmp 5] 21 ?_
 refine zo ?_
 refine zB [(1, .sl (.int .i64) w), (2, .bp 2 0)] [(2, .box 24 [.int .i64 l.1, .sl (.pair (.int .i64) (.int .i64)) l.2])] ?_
 refine zo ?_
 refine zS 3 [(1, .sl (.int .i64) w), (9, .agg [.int .i64 l.1, .sl (.pair (.int .i64) (.int .i64)) l.2]), (11, .own 11)] [(11, .arr 25 (.sl (.int .i64)) [w])] ?_
 obtain ⟨v0, hv1, h⟩ := Option.bind_eq_some_iff.1 h
 refine zC [11] [] (hc_weave_checked l [w] hv1) [(1, .sl (.int .i64) w), (12, .tup [.agg (cellsX T53 v0.1), .int .i64 v0.2])] [] ?_
 refine zS 5 [(1, .sl (.int .i64) w), (6, .bp 6 0), (14, .int .i64 v0.2)] [(6, .box 53 (cellsX T53 v0.1))] ?_
 refine zB [(1, .sl (.int .i64) w), (6, .bp 6 0), (7, .int .i64 v0.2)] [(6, .box 53 (cellsX T53 v0.1))] ?_
 refine AW.seq ?_
 refine zo ?_
 refine zB [(1, .sl (.int .i64) w), (6, .bp 6 0), (7, .int .i64 v0.2), (16, .bool (!(decide (v0.2 = 0))))] [(6, .box 53 (cellsX T53 v0.1))] ?_
 refine zQ h (fun hb2 h => ?_) (fun hb2 h => ?_)
 ·refine zo ?_
  refine zB [(4, .cv (.slice none 0 0)), (5, .int .i64 v0.2)] [] ?_
  refine zr ?_
  obtain rfl := Option.some.inj h
  exact zR [] [] []
 ·refine zk ?_
  refine zo ?_
  refine zS 2 [(18, .agg (cellsX T53 v0.1)), (19, .sl (.int .i64) w)] [] ?_
  obtain ⟨v0_2, hv3, h⟩ := Option.bind_eq_some_iff.1 h
  refine zC [] [] (hc_weave_ties_layers v0.1 w hv3) [(20, .sl (.sl (.int .i64)) v0_2)] [] ?_
  refine zB [(4, .sl (.sl (.int .i64)) v0_2), (5, .int .i64 0)] [] ?_
  refine AW.ret ?_
  obtain rfl := Option.some.inj h
  exact zR [] [] []

theorem hc_weave_ties_class (t : (El T53)) (w : List Int) {r : Unit} (h : weave_ties_class t w = some r) : HC Try.prog 51 [] [.agg (cellsX T53 t), .sl (.int .i64) w] [(2000, .box 25 [.sl (.int .i64) w]), (2001, .box 53 (cellsX T53 t))] (.fn (.func 67) [] [.bp 2000 0, .bp 2001 0]) := by
 unfold weave_ties_class at h
 refine zH Try.func51 [.tmp 4] 6 ?_
 refine zo ?_
 refine zB [(2, .bp 2 0), (3, .bp 3 0)] [(2, .box 53 (cellsX T53 t)), (3, .box 25 [.sl (.int .i64) w])] ?_
 refine zo ?_
 refine zB [(4, .fn (.func 67) [] [.bp 3 0, .bp 2 0])] [(2, .box 53 (cellsX T53 t)), (3, .box 25 [.sl (.int .i64) w])] ?_
 refine AW.ret ?_
 obtain rfl := Option.some.inj h
 exact zR [] [] [(2000, 3), (2001, 2)]

theorem ic_weave_ties_class_1F (slf : ∀ (S R : Type), (List Int) → ((El T53)) → ((List Int) → S → Option (Step S R)) → S → Option (Sum S R)) (ic_slf : ∀ {S R : Type} (a1 : List Int) (a2 : (El T53)) (yl : (List Int) → S → Option (Step S R)) (s0 : S) {r : Sum S R}, slf S R a1 a2 yl s0 = some r → IC Try.prog 67 [(1000, .box 25 [.sl (.int .i64) a1]), (1001, .box 53 (cellsX T53 a2))] [.bp 1000 0, .bp 1001 0] (fun (y : (List Int)) => [.sl (.int .i64) y]) yl s0 r) {S R : Type} (a1 : List Int) (a2 : (El T53)) (yl : (List Int) → S → Option (Step S R)) (s0 : S) {r : Sum S R} (h : weave_ties_class_1F slf S R a1 a2 yl s0 = some r) : IC Try.prog 67 [(1000, .box 25 [.sl (.int .i64) a1]), (1001, .box 53 (cellsX T53 a2))] [.bp 1000 0, .bp 1001 0] (fun (y : (List Int)) => [.sl (.int .i64) y]) yl s0 r := by
 unfold weave_ties_class_1F at h
 refine IC.of_body Try.func67 rfl (by kernel_rfl) rfl (nt := 28) rfl (by decide) (by simp) ?_
 intro Γ Γx lp hΓ hΓx hY
 refine zo ?_
 refine zB [(1, .bp 1000 0), (2, .bp 1001 0), (3, .bp 3 0)] [(3, .box 89 [.fn (.yield lp) [] []]), (1000, .box 25 [.sl (.int .i64) a1]), (1001, .box 53 (cellsX T53 a2))] ?_
 refine AW.seq ?_
 refine zo ?_
 refine zB [(1, .bp 1000 0), (2, .bp 1001 0), (3, .bp 3 0), (9, .bool (decide ((a1.length : Int) = 0)))] [(3, .box 89 [.fn (.yield lp) [] []]), (1000, .box 25 [.sl (.int .i64) a1]), (1001, .box 53 (cellsX T53 a2))] ?_
 refine zQ h (fun hb1 h => ?_) (fun hb1 h => ?_)
 ·refine zo ?_
  refine zS 1 [(10, .fn (.yield lp) [] [])] [(1000, .box 25 [.sl (.int .i64) a1]), (1001, .box 53 (cellsX T53 a2))] ?_
  obtain ⟨x2, hx3, h⟩ := Option.bind_eq_some_iff.1 h
  refine yield_op rfl rfl rfl (by decide) _ rfl hY hΓ hΓx [] [] (by (simp only [go_sem, hb1]) <;> (with_reducible and_intros) <;> first | assumption | rfl | omega | (unfold maxLen; omega)) hx3 ?_
  cases x2 with
  | next s =>
   try simp only at h
   refine zT [] [(1000, .box 25 [.sl (.int .i64) a1]), (1001, .box 53 (cellsX T53 a2))] (Γ s) ?_
   refine zB [] [(1000, .box 25 [.sl (.int .i64) a1]), (1001, .box 53 (cellsX T53 a2))] ?_
   refine zr ?_
   obtain rfl := Option.some.inj h
   exact rfl
  | done e =>
   try simp only at h
   refine zT [] [(1000, .box 25 [.sl (.int .i64) a1]), (1001, .box 53 (cellsX T53 a2))] (Γx e) ?_
   refine zB [] [(1000, .box 25 [.sl (.int .i64) a1]), (1001, .box 53 (cellsX T53 a2))] ?_
   refine zr ?_
   obtain rfl := Option.some.inj h
   exact rfl
 ·refine zk ?_
  refine zo ?_
  refine zS 2 [(2, .bp 1001 0), (3, .bp 3 0), (12, .agg (cellsX T53 a2)), (13, .sl (.int .i64) a1)] [(3, .box 89 [.fn (.yield lp) [] []]), (1000, .box 25 [.sl (.int .i64) a1]), (1001, .box 53 (cellsX T53 a2))] ?_
  obtain ⟨v0, hv4, h⟩ := Option.bind_eq_some_iff.1 h
  refine zC [] [] (hc_weave_ties_starts a2 a1 hv4) [(2, .bp 1001 0), (3, .bp 3 0), (14, .fn (.func 62) [] [.bp 24000 0, .bp 24001 0])] [(3, .box 89 [.fn (.yield lp) [] []]), (1000, .box 25 [.sl (.int .i64) a1]), (1001, .box 53 (cellsX T53 a2)), (24000, .box 53 (cellsX T53 a2)), (24001, .box 25 [.sl (.int .i64) a1])] ?_
  refine zB [(2, .bp 1001 0), (3, .bp 3 0), (14, .fn (.func 62) [] [.bp 24000 0, .bp 24001 0])] [(3, .box 89 [.fn (.yield lp) [] []]), (1000, .box 25 [.sl (.int .i64) a1]), (1001, .box 53 (cellsX T53 a2)), (24000, .box 53 (cellsX T53 a2)), (24001, .box 25 [.sl (.int .i64) a1])] ?_
  refine AW.block ?_
  obtain ⟨x5, hx6, h⟩ := Option.bind_eq_some_iff.1 h
  refine AW.weaken (s' := ⟨fr [(2, .bp 1001 0), (3, .bp 3 0), (14, .fn (.func 62) [] [.bp 24000 0, .bp 24001 0])], hpGet ([(24000, .box 53 (cellsX T53 a2)), (24001, .box 25 [.sl (.int .i64) a1])] ++ [(3, .box 89 [.fn (.yield lp) [] []]), (1000, .box 25 [.sl (.int .i64) a1]), (1001, .box 53 (cellsX T53 a2))]), (Γ s0)⟩) (zL [] [] []) ?_
  refine AW.rangeF (R := R) (l0 := [(2, .bp 1001 0), (3, .bp 3 0)]) (hI := [(24000, .box 53 (cellsX T53 a2)), (24001, .box 25 [.sl (.int .i64) a1])]) (h0 := fun (st1 : S) => [(3, .box 89 [.fn (.yield lp) [] []]), (1000, .box 25 [.sl (.int .i64) a1]), (1001, .box 53 (cellsX T53 a2))]) (gg := fun (st1 : S) => (Γ st1)) (hx0 := (fun (r1 : R) => [(3, .box 89 [.fn (.yield lp) [] []]), (1000, .box 25 [.sl (.int .i64) a1]), (1001, .box 53 (cellsX T53 a2))])) (gx := (fun (r1 : R) => (Γx r1))) (ex := (fun (r1 : R) => Exit.ret)) s0 [(24000, 1000), (24001, 1001)] [(1000, 24000), (1001, 24001)] [(3, 1900)] [(1900, 3)] (by decide) rfl (by first | exact (ic_weave_ties_starts_1 a2 a1 (weave_ties_class_1_y1 S R slf a2 yl) s0 hx6) | simpa only [go_sem] using (ic_weave_ties_starts_1 a2 a1 (weave_ties_class_1_y1 S R slf a2 yl) s0 hx6)) (by (simp only [go_sem, hb1]) <;> (with_reducible and_intros) <;> first | assumption | rfl | omega | (unfold maxLen; omega)) rfl rfl rfl (fun _ => rfl) rfl (fun _ => rfl) rfl (fun _ => rfl) (fun _ => rfl) (fun _ => rfl) (fun _ => rfl) rfl (fun _ _ => by first | rfl | (exact (hΓ _).trans (hΓ _).symm) | (exact (hΓx _).trans (hΓ _).symm)) (fun _ _ => by first | rfl | (exact (hΓ _).trans (hΓ _).symm) | (exact (hΓx _).trans (hΓ _).symm)) ?_ ?_
  ·intro lpy1 y1 st1 x7 h
   unfold weave_ties_class_1_y1 at h
   refine zV [(2, .bp 1001 0), (3, .bp 1900 0), (15, .int .i64 y1.1), (16, .sl (.int .i64) y1.2)] [(1000, .box 25 [.sl (.int .i64) a1]), (1001, .box 53 (cellsX T53 a2)), (1900, .box 89 [.fn (.yield lp) [] []])] (Γ st1) ?_
   refine zo ?_
   refine zB [(2, .bp 1001 0), (3, .bp 1900 0), (4, .bp 4 0), (16, .sl (.int .i64) y1.2)] [(4, .box 3 [.int .i64 y1.1]), (1000, .box 25 [.sl (.int .i64) a1]), (1001, .box 53 (cellsX T53 a2)), (1900, .box 89 [.fn (.yield lp) [] []])] ?_
   refine AW.ops ?_
   refine zA [(2, .bp 1001 0), (3, .bp 1900 0), (4, .bp 4 0), (5, .sl (.int .i64) y1.2)] [(4, .box 3 [.int .i64 y1.1]), (1000, .box 25 [.sl (.int .i64) a1]), (1001, .box 53 (cellsX T53 a2)), (1900, .box 89 [.fn (.yield lp) [] []])] ?_
   refine And.intro rfl ?_
   refine AW.block ?_
   refine zo ?_
   refine zS 2 [(2, .bp 1001 0), (3, .bp 1900 0), (4, .bp 4 0), (17, .agg (cellsX T53 a2)), (18, .sl (.int .i64) y1.2)] [(4, .box 3 [.int .i64 y1.1]), (1000, .box 25 [.sl (.int .i64) a1]), (1001, .box 53 (cellsX T53 a2)), (1900, .box 89 [.fn (.yield lp) [] []])] ?_
   obtain ⟨v0_2, hv8, h⟩ := Option.bind_eq_some_iff.1 h
   refine zC [] [] (hc_weave_ties_class a2 y1.2 hv8) [(2, .bp 1001 0), (3, .bp 1900 0), (4, .bp 4 0), (19, .fn (.func 67) [] [.bp 29000 0, .bp 29001 0])] [(4, .box 3 [.int .i64 y1.1]), (1000, .box 25 [.sl (.int .i64) a1]), (1001, .box 53 (cellsX T53 a2)), (1900, .box 89 [.fn (.yield lp) [] []]), (29000, .box 25 [.sl (.int .i64) y1.2]), (29001, .box 53 (cellsX T53 a2))] ?_
   refine zB [(2, .bp 1001 0), (3, .bp 1900 0), (4, .bp 4 0), (19, .fn (.func 67) [] [.bp 29000 0, .bp 29001 0])] [(4, .box 3 [.int .i64 y1.1]), (1000, .box 25 [.sl (.int .i64) a1]), (1001, .box 53 (cellsX T53 a2)), (1900, .box 89 [.fn (.yield lp) [] []]), (29000, .box 25 [.sl (.int .i64) y1.2]), (29001, .box 53 (cellsX T53 a2))] ?_
   refine AW.block ?_
   obtain ⟨x9, hx10, h⟩ := Option.bind_eq_some_iff.1 h
   refine AW.weaken (s' := ⟨fr [(2, .bp 1001 0), (3, .bp 1900 0), (4, .bp 4 0), (19, .fn (.func 67) [] [.bp 29000 0, .bp 29001 0])], hpGet ([(29000, .box 25 [.sl (.int .i64) y1.2]), (29001, .box 53 (cellsX T53 a2))] ++ [(4, .box 3 [.int .i64 y1.1]), (1000, .box 25 [.sl (.int .i64) a1]), (1001, .box 53 (cellsX T53 a2)), (1900, .box 89 [.fn (.yield lp) [] []])]), (Γ st1)⟩) (zL [] [] []) ?_
   refine AW.rangeF (R := R) (l0 := [(2, .bp 1001 0), (3, .bp 1900 0), (4, .bp 4 0)]) (hI := [(29000, .box 25 [.sl (.int .i64) y1.2]), (29001, .box 53 (cellsX T53 a2))]) (h0 := fun (st2 : S) => [(4, .box 3 [.int .i64 y1.1]), (1000, .box 25 [.sl (.int .i64) a1]), (1001, .box 53 (cellsX T53 a2)), (1900, .box 89 [.fn (.yield lp) [] []])]) (gg := fun (st2 : S) => (Γ st2)) (hx0 := (fun (r2 : R) => [(4, .box 3 [.int .i64 y1.1]), (1000, .box 25 [.sl (.int .i64) a1]), (1001, .box 53 (cellsX T53 a2)), (1900, .box 89 [.fn (.yield lp) [] []])])) (gx := (fun (r2 : R) => (Γx r2))) (ex := (fun (r2 : R) => Exit.ret)) st1 [(29000, 1000), (29001, 1001)] [(1000, 29000), (1001, 29001)] [(4, 1901)] [(1901, 4)] (by decide) rfl (by first | exact (ic_slf y1.2 a2 (weave_ties_class_1_y2 S R yl y1) st1 hx10) | simpa only [go_sem] using (ic_slf y1.2 a2 (weave_ties_class_1_y2 S R yl y1) st1 hx10)) (by (simp only [go_sem, hb1]) <;> (with_reducible and_intros) <;> first | assumption | rfl | omega | (unfold maxLen; omega)) rfl rfl rfl (fun _ => rfl) rfl (fun _ => rfl) rfl (fun _ => rfl) (fun _ => rfl) (fun _ => rfl) (fun _ => rfl) rfl (fun _ _ => by first | rfl | (exact (hΓ _).trans (hΓ _).symm) | (exact (hΓx _).trans (hΓ _).symm)) (fun _ _ => by first | rfl | (exact (hΓ _).trans (hΓ _).symm) | (exact (hΓx _).trans (hΓ _).symm)) ?_ ?_
   ·intro lpy2 y2 st2 x11 h
    unfold weave_ties_class_1_y2 at h
    refine zV [(2, .bp 1001 0), (3, .bp 1900 0), (4, .bp 1901 0), (20, .sl (.int .i64) y2)] [(1000, .box 25 [.sl (.int .i64) a1]), (1001, .box 53 (cellsX T53 a2)), (1900, .box 89 [.fn (.yield lp) [] []]), (1901, .box 3 [.int .i64 y1.1])] (Γ st2) ?_
    refine AW.ops ?_
    refine zA [(2, .bp 1001 0), (3, .bp 1900 0), (4, .bp 1901 0), (6, .sl (.int .i64) y2)] [(1000, .box 25 [.sl (.int .i64) a1]), (1001, .box 53 (cellsX T53 a2)), (1900, .box 89 [.fn (.yield lp) [] []]), (1901, .box 3 [.int .i64 y1.1])] ?_
    refine And.intro rfl ?_
    refine AW.block ?_
    refine AW.seq ?_
    refine AW.drawTail tab_ok mixed_ok 5 [(2, [23]), (4, [23, 25])] [(0, [1900]), (3, [])] (by decide) (by kernel_rfl) (by kernel_rfl) (by decide) ?_
    dsimp only [List.take_succ_cons, List.take_zero]
    obtain ⟨c13, h⟩ := ck_some.1 h
    refine adops_cut 5 (fun K' hK12 => ?_)
    try dsimp only [List.drop_succ_cons, List.drop_zero, List.take_succ_cons, List.take_zero]
    simp only [go_sem, hb1]
    repeat with_reducible refine zN ?_
    refine hK12 _ ?_
    refine adops_nil ?_
    refine zT [(2, .bp 1001 0), (3, .bp 1900 0), (4, .bp 1901 0), (21, .fn (.yield lp) [] []), (25, .own 25)] [(25, .arr 3 (.int .i64) (y1.1 :: y2)), (1000, .box 25 [.sl (.int .i64) a1]), (1001, .box 53 (cellsX T53 a2)), (1900, .box 89 [.fn (.yield lp) [] []]), (1901, .box 3 [.int .i64 y1.1])] (Γ st2) ?_
    obtain ⟨x14, hx15, h⟩ := Option.bind_eq_some_iff.1 h
    refine yield_op rfl rfl rfl (by decide) _ rfl hY hΓ hΓx (y1.1 :: y2) [25] (by (simp only [go_sem, hb1]) <;> (with_reducible and_intros) <;> first | assumption | rfl | omega | (unfold maxLen; omega)) hx15 ?_
    cases x14 with
    | next s_2 =>
     try simp only at h
     refine zT [(2, .bp 1001 0), (3, .bp 1900 0), (4, .bp 1901 0), (26, .bool true)] [(1000, .box 25 [.sl (.int .i64) a1]), (1001, .box 53 (cellsX T53 a2)), (1900, .box 89 [.fn (.yield lp) [] []]), (1901, .box 3 [.int .i64 y1.1])] (Γ s_2) ?_
     refine zB [(2, .bp 1001 0), (3, .bp 1900 0), (4, .bp 1901 0), (27, .bool false)] [(1000, .box 25 [.sl (.int .i64) a1]), (1001, .box 53 (cellsX T53 a2)), (1900, .box 89 [.fn (.yield lp) [] []]), (1901, .box 3 [.int .i64 y1.1])] ?_
     refine AW.cond (b := false) rfl (fun hb16 => by cases hb16) (fun _ => ?_)
     refine zm ?_
     obtain rfl := Option.some.inj h
     exact rpost_next rfl [] [] [] rfl (by (simp only [go_sem, hb1]) <;> (with_reducible and_intros) <;> first | assumption | rfl | omega | (unfold maxLen; omega))
    | done e_2 =>
     try simp only at h
     refine zT [(2, .bp 1001 0), (3, .bp 1900 0), (4, .bp 1901 0), (26, .bool false)] [(1000, .box 25 [.sl (.int .i64) a1]), (1001, .box 53 (cellsX T53 a2)), (1900, .box 89 [.fn (.yield lp) [] []]), (1901, .box 3 [.int .i64 y1.1])] (Γx e_2) ?_
     refine zB [(2, .bp 1001 0), (3, .bp 1900 0), (4, .bp 1901 0), (27, .bool true)] [(1000, .box 25 [.sl (.int .i64) a1]), (1001, .box 53 (cellsX T53 a2)), (1900, .box 89 [.fn (.yield lp) [] []]), (1901, .box 3 [.int .i64 y1.1])] ?_
     refine AW.cond (b := true) rfl (fun _ => ?_) (fun hb17 => by cases hb17)
     refine AW.ret ?_
     refine ablock_r ?_
     obtain rfl := Option.some.inj h
     exact rpost_ret rfl rfl [] [] [] rfl (by (simp only [go_sem, hb1]) <;> (with_reducible and_intros) <;> first | assumption | rfl | omega | (unfold maxLen; omega))
   ·cases x9 with
    | inl st2_2 =>
     try simp only at h
     refine ablock_n ?_
     refine ablock_n ?_
     obtain rfl := Option.some.inj h
     exact rpost_next rfl [] [] [] rfl (by (simp only [go_sem, hb1]) <;> (with_reducible and_intros) <;> first | assumption | rfl | omega | (unfold maxLen; omega))
    | inr r2 =>
     try simp only at h
     refine ablock_r ?_
     refine ablock_r ?_
     obtain rfl := Option.some.inj h
     exact rpost_ret rfl rfl [] [] [] rfl (by (simp only [go_sem, hb1]) <;> (with_reducible and_intros) <;> first | assumption | rfl | omega | (unfold maxLen; omega))
  ·cases x5 with
   | inl st1_2 =>
    try simp only at h
    refine ablock_n ?_
    obtain rfl := Option.some.inj h
    exact rfl
   | inr r1 =>
    try simp only at h
    refine ablock_r ?_
    obtain rfl := Option.some.inj h
    exact rfl

theorem ic_weave_ties_class_1 : ∀ (n : Nat) {S R : Type} (a1 : List Int) (a2 : (El T53)) (yl : (List Int) → S → Option (Step S R)) (s0 : S) {r : Sum S R}, weave_ties_class_1 n S R a1 a2 yl s0 = some r → IC Try.prog 67 [(1000, .box 25 [.sl (.int .i64) a1]), (1001, .box 53 (cellsX T53 a2))] [.bp 1000 0, .bp 1001 0] (fun (y : (List Int)) => [.sl (.int .i64) y]) yl s0 r := by
 intro n
 induction n with
 | zero => intro S R a1 a2 yl s0 r h; cases h
 | succ n ih => intro S R a1 a2 yl s0 r h; exact ic_weave_ties_class_1F (weave_ties_class_1 n) ih a1 a2 yl s0 h

end Go.Proofs.Ytabchabbdnhjpaa
