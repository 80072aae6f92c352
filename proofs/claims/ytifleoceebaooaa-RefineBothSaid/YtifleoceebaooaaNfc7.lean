/-
  Made by wip/tool/dc.py out of the print of the program: contracts.
-/
import Derived.Test.YtifleoceebaooaaRfp
import Derived.Test.YtifleoceebaooaaShr
namespace Go.Proofs.Ytifleoceebaooaa
open Go.RowKit

set_option linter.unusedSimpArgs false
set_option linter.unusedVariables false
set_option linter.constructorNameAsVariable false

set_option maxRecDepth 100000
set_option maxHeartbeats 2000000

theorem hc_refine_together_1_2 (a : Int × Int × Int) (b : Int × Int × Int) (a3 : Int × (List (Int × Int × Int))) (a2 : List (Int × Int × Int)) {r : Unit} (h : refine_together_1_2 a b a3 a2 = some r) : HC Try.prog 121 [(1000, .box 22 [.own 1002]), (1001, .box 24 [.int .i64 a3.1, .sl (.pair (.int .i64) (.pair (.int .i64) (.int .i64))) a3.2]), (1002, .arr 66 (.pair (.int .i64) (.pair (.int .i64) (.int .i64))) a2)] [.agg [.int .i64 a.1, .int .i64 a.2.1, .int .i64 a.2.2], .agg [.int .i64 b.1, .int .i64 b.2.1, .int .i64 b.2.2], .bp 1000 0, .bp 1001 0] [(1000, .box 22 [.own 2000]), (1001, .box 24 [.int .i64 a3.1, .sl (.pair (.int .i64) (.pair (.int .i64) (.int .i64))) a3.2]), (2000, .arr 66 (.pair (.int .i64) (.pair (.int .i64) (.int .i64))) (a2 ++ [(((a.1 * a3.1) + b.1), a.2.1, ((a.2.2 * a3.1) + b.2.2))]))] (.tup []) := by
 unfold refine_together_1_2 at h
 refine zH Try.func121 [] 28 ?_
 refine zo ?_
 refine zB [(2, .bp 1000 0), (3, .bp 1001 0), (4, .bp 4 0), (5, .bp 5 0)] [(4, .box 66 [.int .i64 a.1, .int .i64 a.2.1, .int .i64 a.2.2]), (5, .box 66 [.int .i64 b.1, .int .i64 b.2.1, .int .i64 b.2.2]), (1000, .box 22 [.own 1002]), (1001, .box 24 [.int .i64 a3.1, .sl (.pair (.int .i64) (.pair (.int .i64) (.int .i64))) a3.2]), (1002, .arr 66 (.pair (.int .i64) (.pair (.int .i64) (.int .i64))) a2)] ?_
 refine AW.ops ?_
 refine zS 5 [(2, .bp 1000 0), (3, .bp 1001 0), (4, .bp 4 0), (5, .bp 5 0), (6, .own 1002), (8, .int .i64 a.1), (10, .int .i64 a3.1)] [(4, .box 66 [.int .i64 a.1, .int .i64 a.2.1, .int .i64 a.2.2]), (5, .box 66 [.int .i64 b.1, .int .i64 b.2.1, .int .i64 b.2.2]), (1000, .box 22 [.own 1002]), (1001, .box 24 [.int .i64 a3.1, .sl (.pair (.int .i64) (.pair (.int .i64) (.int .i64))) a3.2]), (1002, .arr 66 (.pair (.int .i64) (.pair (.int .i64) (.int .i64))) a2)] ?_
 obtain ⟨c1, h⟩ := ck_some.1 h
 obtain ⟨c2, h⟩ := ck_some.1 h
 refine zS 5 [(2, .bp 1000 0), (3, .bp 1001 0), (4, .bp 4 0), (5, .bp 5 0), (6, .own 1002), (14, .int .i64 ((a.1 * a3.1) + b.1)), (15, .bp 4 1)] [(4, .box 66 [.int .i64 a.1, .int .i64 a.2.1, .int .i64 a.2.2]), (5, .box 66 [.int .i64 b.1, .int .i64 b.2.1, .int .i64 b.2.2]), (1000, .box 22 [.own 1002]), (1001, .box 24 [.int .i64 a3.1, .sl (.pair (.int .i64) (.pair (.int .i64) (.int .i64))) a3.2]), (1002, .arr 66 (.pair (.int .i64) (.pair (.int .i64) (.int .i64))) a2)] ?_
 refine zS 5 [(2, .bp 1000 0), (5, .bp 5 0), (6, .own 1002), (14, .int .i64 ((a.1 * a3.1) + b.1)), (16, .int .i64 a.2.1), (18, .int .i64 a.2.2), (20, .int .i64 a3.1)] [(5, .box 66 [.int .i64 b.1, .int .i64 b.2.1, .int .i64 b.2.2]), (1000, .box 22 [.own 1002]), (1001, .box 24 [.int .i64 a3.1, .sl (.pair (.int .i64) (.pair (.int .i64) (.int .i64))) a3.2]), (1002, .arr 66 (.pair (.int .i64) (.pair (.int .i64) (.int .i64))) a2)] ?_
 obtain ⟨c3, h⟩ := ck_some.1 h
 obtain ⟨c4, h⟩ := ck_some.1 h
 refine zS 5 [(2, .bp 1000 0), (6, .own 1002), (25, .agg [.int .i64 ((a.1 * a3.1) + b.1), .int .i64 a.2.1, .int .i64 ((a.2.2 * a3.1) + b.2.2)])] [(1000, .box 22 [.own 1002]), (1001, .box 24 [.int .i64 a3.1, .sl (.pair (.int .i64) (.pair (.int .i64) (.int .i64))) a3.2]), (1002, .arr 66 (.pair (.int .i64) (.pair (.int .i64) (.int .i64))) a2)] ?_
 obtain ⟨c5, h⟩ := ck_some.1 h
 refine zA [] [(27, .arr 66 (.pair (.int .i64) (.pair (.int .i64) (.int .i64))) (a2 ++ [(((a.1 * a3.1) + b.1), a.2.1, ((a.2.2 * a3.1) + b.2.2))])), (1000, .box 22 [.own 27]), (1001, .box 24 [.int .i64 a3.1, .sl (.pair (.int .i64) (.pair (.int .i64) (.int .i64))) a3.2])] ?_
 obtain rfl := Option.some.inj h
 exact zR [] [] [(2000, 27)]

theorem hc_refine_stay (state : Int) {r : Unit} (h : refine_stay state = some r) : HC Try.prog 122 [] [.int .i64 state] [] (.agg [.int .i64 state, .int .i64 0, .int .i64 state]) := by
 unfold refine_stay at h
 refine zH Try.func122 [.cell 2 66] 6 ?_
 refine zo ?_
 refine zB [(0, .int .i64 state), (2, .bp 2 0)] [(2, .box 66 [.int .i64 0, .int .i64 0, .int .i64 0])] ?_
 refine zo ?_
 refine zB [(2, .bp 2 0)] [(2, .box 66 [.int .i64 state, .int .i64 0, .int .i64 state])] ?_
 refine AW.ret ?_
 obtain rfl := Option.some.inj h
 exact zR [] [] []

theorem hc_slices_Compact (s : List (Int × Int × Int)) {r : (List (Int × Int × Int))} (h : slices_Compact s = some r) : HC Try.prog 125 [(1000, .arr 66 (.pair (.int .i64) (.pair (.int .i64) (.int .i64))) s)] [.own 1000] [(2000, .arr 66 (.pair (.int .i64) (.pair (.int .i64) (.int .i64))) r)] (.own 2000) := by
 unfold slices_Compact at h
 refine zH Try.func125 [.tmp 2] 61 ?_
 refine zo ?_
 refine zB [(0, .own 1000)] [(1000, .arr 66 (.pair (.int .i64) (.pair (.int .i64) (.int .i64))) s)] ?_
 refine AW.seq ?_
 refine zo ?_
 refine zB [(0, .own 1000), (8, .bool (decide ((s.length : Int) < 2)))] [(1000, .arr 66 (.pair (.int .i64) (.pair (.int .i64) (.int .i64))) s)] ?_
 refine zQ h (fun hb1 h => ?_) (fun hb1 h => ?_)
 ·refine zo ?_
  refine zB [(2, .own 1000)] [(1000, .arr 66 (.pair (.int .i64) (.pair (.int .i64) (.int .i64))) s)] ?_
  refine zr ?_
  obtain rfl := Option.some.inj h
  exact zR [] [] [(2000, 1000)]
 ·refine zk ?_
  refine AW.have1 (fun _ : Unit => slices_Compact_k1 s = some r) (fun _ => ⟨fr [(0, .own 1000)], hpGet [(1000, .arr 66 (.pair (.int .i64) (.pair (.int .i64) (.int .i64))) s)], gt⟩) (fun _ h => ?_) (fun hk_slices_Compact_k1 => ?_)
  ·as_aux_lemma =>
    unfold slices_Compact_k1 at h
    refine zo ?_
    refine zB [(2, .own 1000)] [(1000, .arr 66 (.pair (.int .i64) (.pair (.int .i64) (.int .i64))) s)] ?_
    refine AW.ret ?_
    obtain rfl := Option.some.inj h
    exact zR [] [] [(2000, 1000)]
  ·refine AW.seq ?_
   refine zo ?_
   refine zB [(0, .own 1000), (3, .int .i64 1)] [(1000, .arr 66 (.pair (.int .i64) (.pair (.int .i64) (.int .i64))) s)] ?_
   refine AW.block ?_
   obtain ⟨rv6, hw2, ho3⟩ := Option.bind_eq_some_iff.1 h
   refine AW.loopO (slices_Compact_b1 s) (fun st1 => ⟨fr [(0, .own 1000), (3, .int .i64 st1)], hpGet [(1000, .arr 66 (.pair (.int .i64) (.pair (.int .i64) (.int .i64))) s)], gt⟩) 1 hw2 (zL [] [] []) ?_
   as_aux_lemma =>
    intro st1 x5 h hd4
    unfold slices_Compact_b1 at h
    refine AW.seq ?_
    refine zo ?_
    refine zB [(0, .own 1000), (3, .int .i64 st1), (13, .bool (decide (st1 < (s.length : Int))))] [(1000, .arr 66 (.pair (.int .i64) (.pair (.int .i64) (.int .i64))) s)] ?_
    refine zQ h (fun hb7 h => ?_) (fun hb7 h => ?_)
    ·refine zk ?_
     refine AW.have1 (fun _ : Unit => slices_Compact_k2 st1 = some x5) (fun _ => ⟨fr [(0, .own 1000), (3, .int .i64 st1)], hpGet [(1000, .arr 66 (.pair (.int .i64) (.pair (.int .i64) (.int .i64))) s)], gt⟩) (fun _ h => ?_) (fun hk_slices_Compact_k2 => ?_)
     ·as_aux_lemma =>
       unfold slices_Compact_k2 at h
       refine AW.ops ?_
       obtain ⟨c8, h⟩ := ck_some.1 h
       refine zA [(0, .own 1000), (3, .int .i64 (st1 + 1))] [(1000, .arr 66 (.pair (.int .i64) (.pair (.int .i64) (.int .i64))) s)] ?_
       obtain rfl := Option.some.inj h
       exact ⟨_, rfl, zL [] [] []⟩
     ·refine AW.seq ?_
      refine AW.block ?_
      refine AW.seq ?_
      refine AW.drawTail tab_ok mixed_ok 9 [] [] (by decide) (by kernel_rfl) (by kernel_rfl) (by decide) ?_
      dsimp only [List.take_succ_cons, List.take_zero]
      obtain ⟨c10, h⟩ := ck_some.1 h
      obtain ⟨c11, h⟩ := ck_some.1 h
      refine adops_cut 6 (fun K' hK9 => ?_)
      try dsimp only [List.drop_succ_cons, List.drop_zero, List.take_succ_cons, List.take_zero]
      simp only [go_sem, hb1, hb7]
      repeat with_reducible refine zN ?_
      refine hK9 _ ?_
      as_aux_lemma =>
       obtain ⟨c13, h⟩ := ck_some.1 h
       obtain ⟨c14, h⟩ := ck_some.1 h
       obtain ⟨c15, h⟩ := ck_some.1 h
       refine adops_cut 3 (fun K' hK12 => ?_)
       try dsimp only [List.drop_succ_cons, List.drop_zero, List.take_succ_cons, List.take_zero]
       simp only [go_sem, hb1, hb7]
       repeat with_reducible refine zN ?_
       refine hK12 _ ?_
       refine adops_nil ?_
       refine zT [(0, .own 1000), (3, .int .i64 st1), (19, .agg [.int .i64 (s.getD st1.toNat (0, 0, 0)).1, .int .i64 (s.getD st1.toNat (0, 0, 0)).2.1, .int .i64 (s.getD st1.toNat (0, 0, 0)).2.2]), (24, .agg [.int .i64 (s.getD (st1 - 1).toNat (0, 0, 0)).1, .int .i64 (s.getD (st1 - 1).toNat (0, 0, 0)).2.1, .int .i64 (s.getD (st1 - 1).toNat (0, 0, 0)).2.2])] [(1000, .arr 66 (.pair (.int .i64) (.pair (.int .i64) (.int .i64))) s)] gt ?_
       obtain ⟨c16, h⟩ := ck_some.1 h
       obtain ⟨c17, h⟩ := ck_some.1 h
       obtain ⟨c18, h⟩ := ck_some.1 h
       obtain ⟨c19, h⟩ := ck_some.1 h
       obtain ⟨c20, h⟩ := ck_some.1 h
       obtain ⟨c21, h⟩ := ck_some.1 h
       refine AO.aggEq (neg := false) eqty_66 (by decide) rfl rfl (lx := [.int .i64 (s.getD st1.toNat (0, 0, 0)).1, .int .i64 (s.getD st1.toNat (0, 0, 0)).2.1, .int .i64 (s.getD st1.toNat (0, 0, 0)).2.2]) (ly := [.int .i64 (s.getD (st1 - 1).toNat (0, 0, 0)).1, .int .i64 (s.getD (st1 - 1).toNat (0, 0, 0)).2.1, .int .i64 (s.getD (st1 - 1).toNat (0, 0, 0)).2.2]) (by first | rfl | (simp only [go_sem, hb1, hb7]) <;> (with_reducible and_intros) <;> first | assumption | rfl | omega | (unfold maxLen; omega)) (by first | rfl | (simp only [go_sem, hb1, hb7]) <;> (with_reducible and_intros) <;> first | assumption | rfl | omega | (unfold maxLen; omega)) (by first | rfl | (simp only [go_sem, hb1, hb7]) <;> (with_reducible and_intros) <;> first | assumption | rfl | omega | (unfold maxLen; omega)) (by first | rfl | (simp only [go_sem, hb1, hb7]) <;> (with_reducible and_intros) <;> first | assumption | rfl | omega | (unfold maxLen; omega)) (by first | assumption | omega | (simp only [go_sem, hb1, hb7]) <;> (with_reducible and_intros) <;> first | assumption | rfl | omega | (unfold maxLen; omega)) (by first | assumption | omega | (simp only [go_sem, hb1, hb7]) <;> (with_reducible and_intros) <;> first | assumption | rfl | omega | (unfold maxLen; omega)) ?_
       refine zT [(0, .own 1000), (3, .int .i64 st1), (25, .bool (decide ((s.getD st1.toNat (0, 0, 0)) = (s.getD (st1 - 1).toNat (0, 0, 0)))))] [(1000, .arr 66 (.pair (.int .i64) (.pair (.int .i64) (.int .i64))) s)] gt ?_
       refine zB [(0, .own 1000), (3, .int .i64 st1), (25, .bool (decide ((s.getD st1.toNat (0, 0, 0)) = (s.getD (st1 - 1).toNat (0, 0, 0)))))] [(1000, .arr 66 (.pair (.int .i64) (.pair (.int .i64) (.int .i64))) s)] ?_
       refine zQ h (fun hb22 h => ?_) (fun hb22 h => ?_)
       ·refine zo ?_
        refine zS 2 [(0, .own 1000), (3, .int .i64 st1), (26, .own 1000), (27, .int .i64 st1)] [(1000, .arr 66 (.pair (.int .i64) (.pair (.int .i64) (.int .i64))) s)] ?_
        obtain ⟨c23, h⟩ := ck_some.1 h
        obtain ⟨c24, h⟩ := ck_some.1 h
        refine AO.sliceView tab_ok (by decide) rfl rfl tab_22 rfl tab_66 rfl rfl rfl (st1) ((s.length : Int)) (by first | assumption | omega | (simp only [go_sem, hb1, hb7, hb22]) <;> (with_reducible and_intros) <;> first | assumption | rfl | omega | (unfold maxLen; omega)) (by first | assumption | omega | (simp only [go_sem, hb1, hb7, hb22]) <;> (with_reducible and_intros) <;> first | assumption | rfl | omega | (unfold maxLen; omega)) (by first | assumption | omega | (simp only [go_sem, hb1, hb7, hb22]) <;> (with_reducible and_intros) <;> first | assumption | rfl | omega | (unfold maxLen; omega)) (.inr ⟨_, _, rfl, rfl⟩) (.inl ⟨rfl, rfl⟩) ?_
        refine zT [(0, .own 1000), (3, .int .i64 st1), (28, .vw 1000 3 st1.toNat ((s.length : Int) - st1).toNat)] [(1000, .arr 66 (.pair (.int .i64) (.pair (.int .i64) (.int .i64))) s)] gt ?_
        refine zB [(0, .own 1000), (3, .int .i64 st1), (4, .vw 1000 3 st1.toNat ((s.length : Int) - st1).toNat)] [(1000, .arr 66 (.pair (.int .i64) (.pair (.int .i64) (.int .i64))) s)] ?_
        refine AW.have1 (fun b3 : (List (Int × Int × Int)) × Int => slices_Compact_k3 b3 = some x5) (fun b3 => ⟨fr [(0, .own 1000), (3, .int .i64 b3.2)], hpGet [(1000, .arr 66 (.pair (.int .i64) (.pair (.int .i64) (.int .i64))) b3.1)], gt⟩) (fun b3 h => ?_) (fun hk_slices_Compact_k3 => ?_)
        ·as_aux_lemma =>
          unfold slices_Compact_k3 at h
          refine zo ?_
          refine zS 2 [(0, .own 1000), (3, .int .i64 b3.2), (54, .own 1000), (55, .int .i64 b3.2)] [(1000, .arr 66 (.pair (.int .i64) (.pair (.int .i64) (.int .i64))) b3.1)] ?_
          obtain ⟨c25, h⟩ := ck_some.1 h
          obtain ⟨c26, h⟩ := ck_some.1 h
          refine AO.sliceView tab_ok (by decide) rfl rfl tab_22 rfl tab_66 rfl rfl rfl (b3.2) ((b3.1.length : Int)) (by first | assumption | omega | (simp only [go_sem, hb1, hb7, hb22]) <;> (with_reducible and_intros) <;> first | assumption | rfl | omega | (unfold maxLen; omega)) (by first | assumption | omega | (simp only [go_sem, hb1, hb7, hb22]) <;> (with_reducible and_intros) <;> first | assumption | rfl | omega | (unfold maxLen; omega)) (by first | assumption | omega | (simp only [go_sem, hb1, hb7, hb22]) <;> (with_reducible and_intros) <;> first | assumption | rfl | omega | (unfold maxLen; omega)) (.inr ⟨_, _, rfl, rfl⟩) (.inl ⟨rfl, rfl⟩) ?_
          refine zT [(0, .own 1000), (3, .int .i64 b3.2), (56, .vw 1000 3 b3.2.toNat ((b3.1.length : Int) - b3.2).toNat)] [(1000, .arr 66 (.pair (.int .i64) (.pair (.int .i64) (.int .i64))) b3.1)] gt ?_
          obtain ⟨c27, h⟩ := ck_some.1 h
          obtain ⟨c28, h⟩ := ck_some.1 h
          refine AO.clearView tab_ok (by decide) rfl rfl rfl rfl rfl tab_22 rfl tab_66 rfl rfl rfl (by first | assumption | omega | (simp only [go_sem, hb1, hb7, hb22]) <;> (with_reducible and_intros) <;> first | assumption | rfl | omega | (unfold maxLen; omega)) (by first | assumption | omega | (simp only [go_sem, hb1, hb7, hb22]) <;> (with_reducible and_intros) <;> first | assumption | rfl | omega | (unfold maxLen; omega)) ?_
          refine zT [(0, .own 1000), (3, .int .i64 b3.2)] [(1000, .arr 66 (.pair (.int .i64) (.pair (.int .i64) (.int .i64))) (((b3.1.take b3.2.toNat) ++ (List.replicate ((b3.1.length : Int) - b3.2).toNat ((0, 0, 0) : Int × Int × Int))) ++ (b3.1.drop (b3.2.toNat + ((b3.1.length : Int) - b3.2).toNat))))] gt ?_
          refine zB [(0, .own 1000), (3, .int .i64 b3.2)] [(1000, .arr 66 (.pair (.int .i64) (.pair (.int .i64) (.int .i64))) (((b3.1.take b3.2.toNat) ++ (List.replicate ((b3.1.length : Int) - b3.2).toNat ((0, 0, 0) : Int × Int × Int))) ++ (b3.1.drop (b3.2.toNat + ((b3.1.length : Int) - b3.2).toNat))))] ?_
          refine zo ?_
          refine zS 2 [(57, .own 1000), (58, .int .i64 b3.2)] [(1000, .arr 66 (.pair (.int .i64) (.pair (.int .i64) (.int .i64))) (((b3.1.take b3.2.toNat) ++ (List.replicate ((b3.1.length : Int) - b3.2).toNat ((0, 0, 0) : Int × Int × Int))) ++ (b3.1.drop (b3.2.toNat + ((b3.1.length : Int) - b3.2).toNat))))] ?_
          obtain ⟨c29, h⟩ := ck_some.1 h
          obtain ⟨c30, h⟩ := ck_some.1 h
          refine AO.sliceOwn tab_ok (by decide) (by decide) rfl rfl tab_22 rfl tab_66 rfl rfl rfl rfl (by first | assumption | omega | (simp only [go_sem, hb1, hb7, hb22]) <;> (with_reducible and_intros) <;> first | assumption | rfl | omega | (unfold maxLen; omega)) (by first | assumption | omega | (simp only [go_sem, hb1, hb7, hb22]) <;> (with_reducible and_intros) <;> first | assumption | rfl | omega | (unfold maxLen; omega)) ?_
          refine zT [(59, .own 59)] [(59, .arr 66 (.pair (.int .i64) (.pair (.int .i64) (.int .i64))) ((((b3.1.take b3.2.toNat) ++ (List.replicate ((b3.1.length : Int) - b3.2).toNat ((0, 0, 0) : Int × Int × Int))) ++ (b3.1.drop (b3.2.toNat + ((b3.1.length : Int) - b3.2).toNat))).take b3.2.toNat))] gt ?_
          refine zB [(2, .own 59)] [(59, .arr 66 (.pair (.int .i64) (.pair (.int .i64) (.int .i64))) ((((b3.1.take b3.2.toNat) ++ (List.replicate ((b3.1.length : Int) - b3.2).toNat ((0, 0, 0) : Int × Int × Int))) ++ (b3.1.drop (b3.2.toNat + ((b3.1.length : Int) - b3.2).toNat))).take b3.2.toNat))] ?_
          refine AW.ret ?_
          refine ablock_r ?_
          refine athen_r ?_
          obtain rfl := Option.some.inj h
          rw [← hd4 _ rfl] at ho3
          have h := ho3
          try simp only at h
          refine athen_r ?_
          refine ablock_r ?_
          refine athen_r ?_
          obtain rfl := Option.some.inj h
          exact zR [] [] [(2000, 59)]
        ·refine AW.seq ?_
         refine zo ?_
         refine zB [(0, .own 1000), (3, .int .i64 st1), (4, .vw 1000 3 st1.toNat ((s.length : Int) - st1).toNat), (5, .int .i64 1)] [(1000, .arr 66 (.pair (.int .i64) (.pair (.int .i64) (.int .i64))) s)] ?_
         refine AW.block ?_
         obtain ⟨rv35, hw31, ho32⟩ := Option.bind_eq_some_iff.1 h
         refine AW.loopO (slices_Compact_b2 s st1) (fun st2 => ⟨fr [(0, .own 1000), (3, .int .i64 st2.2.1), (4, .vw 1000 3 st1.toNat ((s.length : Int) - st1).toNat), (5, .int .i64 st2.2.2)], hpGet [(1000, .arr 66 (.pair (.int .i64) (.pair (.int .i64) (.int .i64))) st2.1)], gt⟩) (s, st1, 1) hw31 (zL [] [] []) ?_
         as_aux_lemma =>
          intro st2 x34 h hd33
          unfold slices_Compact_b2 at h
          refine AW.seq ?_
          refine zo ?_
          refine zB [(0, .own 1000), (3, .int .i64 st2.2.1), (4, .vw 1000 3 st1.toNat ((s.length : Int) - st1).toNat), (5, .int .i64 st2.2.2), (32, .bool (decide (st2.2.2 < (((s.length : Int) - st1).toNat : Int))))] [(1000, .arr 66 (.pair (.int .i64) (.pair (.int .i64) (.int .i64))) st2.1)] ?_
          refine zQ h (fun hb36 h => ?_) (fun hb36 h => ?_)
          ·refine zk ?_
           refine AW.seq ?_
           refine AW.block ?_
           refine AW.seq ?_
           refine AW.drawTail tab_ok mixed_ok 9 [] [] (by decide) (by kernel_rfl) (by kernel_rfl) (by decide) ?_
           dsimp only [List.take_succ_cons, List.take_zero]
           obtain ⟨c38, h⟩ := ck_some.1 h
           obtain ⟨c39, h⟩ := ck_some.1 h
           obtain ⟨c40, h⟩ := ck_some.1 h
           refine adops_cut 6 (fun K' hK37 => ?_)
           try dsimp only [List.drop_succ_cons, List.drop_zero, List.take_succ_cons, List.take_zero]
           simp only [go_sem, hb1, hb7, hb22, hb36]
           repeat with_reducible refine zN ?_
           refine hK37 _ ?_
           as_aux_lemma =>
            obtain ⟨c42, h⟩ := ck_some.1 h
            obtain ⟨c43, h⟩ := ck_some.1 h
            obtain ⟨c44, h⟩ := ck_some.1 h
            obtain ⟨c45, h⟩ := ck_some.1 h
            refine adops_cut 3 (fun K' hK41 => ?_)
            try dsimp only [List.drop_succ_cons, List.drop_zero, List.take_succ_cons, List.take_zero]
            simp only [go_sem, hb1, hb7, hb22, hb36]
            repeat with_reducible refine zN ?_
            refine hK41 _ ?_
            refine adops_nil ?_
            refine zT [(0, .own 1000), (3, .int .i64 st2.2.1), (4, .vw 1000 3 st1.toNat ((s.length : Int) - st1).toNat), (5, .int .i64 st2.2.2), (38, .agg [.int .i64 (st2.1.getD (st1.toNat + st2.2.2.toNat) (0, 0, 0)).1, .int .i64 (st2.1.getD (st1.toNat + st2.2.2.toNat) (0, 0, 0)).2.1, .int .i64 (st2.1.getD (st1.toNat + st2.2.2.toNat) (0, 0, 0)).2.2]), (43, .agg [.int .i64 (st2.1.getD (st1.toNat + (st2.2.2 - 1).toNat) (0, 0, 0)).1, .int .i64 (st2.1.getD (st1.toNat + (st2.2.2 - 1).toNat) (0, 0, 0)).2.1, .int .i64 (st2.1.getD (st1.toNat + (st2.2.2 - 1).toNat) (0, 0, 0)).2.2])] [(1000, .arr 66 (.pair (.int .i64) (.pair (.int .i64) (.int .i64))) st2.1)] gt ?_
            obtain ⟨c46, h⟩ := ck_some.1 h
            obtain ⟨c47, h⟩ := ck_some.1 h
            obtain ⟨c48, h⟩ := ck_some.1 h
            obtain ⟨c49, h⟩ := ck_some.1 h
            obtain ⟨c50, h⟩ := ck_some.1 h
            obtain ⟨c51, h⟩ := ck_some.1 h
            refine AO.aggEq (neg := true) eqty_66 (by decide) rfl rfl (lx := [.int .i64 (st2.1.getD (st1.toNat + st2.2.2.toNat) (0, 0, 0)).1, .int .i64 (st2.1.getD (st1.toNat + st2.2.2.toNat) (0, 0, 0)).2.1, .int .i64 (st2.1.getD (st1.toNat + st2.2.2.toNat) (0, 0, 0)).2.2]) (ly := [.int .i64 (st2.1.getD (st1.toNat + (st2.2.2 - 1).toNat) (0, 0, 0)).1, .int .i64 (st2.1.getD (st1.toNat + (st2.2.2 - 1).toNat) (0, 0, 0)).2.1, .int .i64 (st2.1.getD (st1.toNat + (st2.2.2 - 1).toNat) (0, 0, 0)).2.2]) (by first | rfl | (simp only [go_sem, hb1, hb7, hb22, hb36]) <;> (with_reducible and_intros) <;> first | assumption | rfl | omega | (unfold maxLen; omega)) (by first | rfl | (simp only [go_sem, hb1, hb7, hb22, hb36]) <;> (with_reducible and_intros) <;> first | assumption | rfl | omega | (unfold maxLen; omega)) (by first | rfl | (simp only [go_sem, hb1, hb7, hb22, hb36]) <;> (with_reducible and_intros) <;> first | assumption | rfl | omega | (unfold maxLen; omega)) (by first | rfl | (simp only [go_sem, hb1, hb7, hb22, hb36]) <;> (with_reducible and_intros) <;> first | assumption | rfl | omega | (unfold maxLen; omega)) (by first | assumption | omega | (simp only [go_sem, hb1, hb7, hb22, hb36]) <;> (with_reducible and_intros) <;> first | assumption | rfl | omega | (unfold maxLen; omega)) (by first | assumption | omega | (simp only [go_sem, hb1, hb7, hb22, hb36]) <;> (with_reducible and_intros) <;> first | assumption | rfl | omega | (unfold maxLen; omega)) ?_
            refine zT [(0, .own 1000), (3, .int .i64 st2.2.1), (4, .vw 1000 3 st1.toNat ((s.length : Int) - st1).toNat), (5, .int .i64 st2.2.2), (44, .bool (!(decide ((st2.1.getD (st1.toNat + st2.2.2.toNat) (0, 0, 0)) = (st2.1.getD (st1.toNat + (st2.2.2 - 1).toNat) (0, 0, 0))))))] [(1000, .arr 66 (.pair (.int .i64) (.pair (.int .i64) (.int .i64))) st2.1)] gt ?_
            refine zB [(0, .own 1000), (3, .int .i64 st2.2.1), (4, .vw 1000 3 st1.toNat ((s.length : Int) - st1).toNat), (5, .int .i64 st2.2.2), (44, .bool (!(decide ((st2.1.getD (st1.toNat + st2.2.2.toNat) (0, 0, 0)) = (st2.1.getD (st1.toNat + (st2.2.2 - 1).toNat) (0, 0, 0))))))] [(1000, .arr 66 (.pair (.int .i64) (.pair (.int .i64) (.int .i64))) st2.1)] ?_
            refine zQ h (fun hb52 h => ?_) (fun hb52 h => ?_)
            ·refine zo ?_
             obtain ⟨c53, h⟩ := ck_some.1 h
             obtain ⟨c54, h⟩ := ck_some.1 h
             obtain ⟨c55, h⟩ := ck_some.1 h
             refine zS 5 [(0, .own 1000), (3, .int .i64 st2.2.1), (4, .vw 1000 3 st1.toNat ((s.length : Int) - st1).toNat), (5, .int .i64 st2.2.2), (45, .own 1000), (46, .int .i64 st2.2.1), (49, .ap 1000 3 (st1.toNat + st2.2.2.toNat) 0)] [(1000, .arr 66 (.pair (.int .i64) (.pair (.int .i64) (.int .i64))) st2.1)] ?_
             obtain ⟨c56, h⟩ := ck_some.1 h
             obtain ⟨c57, h⟩ := ck_some.1 h
             refine zB [(0, .own 1000), (3, .int .i64 st2.2.1), (4, .vw 1000 3 st1.toNat ((s.length : Int) - st1).toNat), (5, .int .i64 st2.2.2)] [(1000, .arr 66 (.pair (.int .i64) (.pair (.int .i64) (.int .i64))) (st2.1.set st2.2.1.toNat (st2.1.getD (st1.toNat + st2.2.2.toNat) (0, 0, 0))))] ?_
             refine AW.ops ?_
             obtain ⟨c58, h⟩ := ck_some.1 h
             refine zA [(0, .own 1000), (3, .int .i64 (st2.2.1 + 1)), (4, .vw 1000 3 st1.toNat ((s.length : Int) - st1).toNat), (5, .int .i64 st2.2.2)] [(1000, .arr 66 (.pair (.int .i64) (.pair (.int .i64) (.int .i64))) (st2.1.set st2.2.1.toNat (st2.1.getD (st1.toNat + st2.2.2.toNat) (0, 0, 0))))] ?_
             refine ablock_n ?_
             refine athen_n ?_
             refine AW.ops ?_
             obtain ⟨c59, h⟩ := ck_some.1 h
             refine zA [(0, .own 1000), (3, .int .i64 (st2.2.1 + 1)), (4, .vw 1000 3 st1.toNat ((s.length : Int) - st1).toNat), (5, .int .i64 (st2.2.2 + 1))] [(1000, .arr 66 (.pair (.int .i64) (.pair (.int .i64) (.int .i64))) (st2.1.set st2.2.1.toNat (st2.1.getD (st1.toNat + st2.2.2.toNat) (0, 0, 0))))] ?_
             obtain rfl := Option.some.inj h
             exact ⟨_, rfl, zL [] [] []⟩
            ·refine zm ?_
             refine athen_n ?_
             refine AW.ops ?_
             obtain ⟨c60, h⟩ := ck_some.1 h
             refine zA [(0, .own 1000), (3, .int .i64 st2.2.1), (4, .vw 1000 3 st1.toNat ((s.length : Int) - st1).toNat), (5, .int .i64 (st2.2.2 + 1))] [(1000, .arr 66 (.pair (.int .i64) (.pair (.int .i64) (.int .i64))) st2.1)] ?_
             obtain rfl := Option.some.inj h
             exact ⟨_, rfl, zL [] [] []⟩
          ·refine AW.exit ?_
           refine athen_e ?_
           obtain rfl := Option.some.inj h
           rw [← hd33 _ rfl] at ho32
           have h := ho32
           refine athen_e ?_
           refine ablock_s ?_
           refine athen_n ?_
           exact AW.weaken (zL [] [] []) (hk_slices_Compact_k3 _ h)
       ·refine zm ?_
        refine athen_n ?_
        exact AW.weaken (zL [] [] []) (hk_slices_Compact_k2 () h)
    ·refine AW.exit ?_
     refine athen_e ?_
     obtain rfl := Option.some.inj h
     rw [← hd4 _ rfl] at ho3
     have h := ho3
     try simp only at h
     refine athen_e ?_
     refine ablock_s ?_
     refine athen_n ?_
     exact AW.weaken (zL [] [] []) (hk_slices_Compact_k1 () h)

end Go.Proofs.Ytifleoceebaooaa
