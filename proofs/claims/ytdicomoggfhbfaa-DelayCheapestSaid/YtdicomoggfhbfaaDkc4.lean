/-
  Made by wip/tool/dc.py out of the print of the program: contracts.
-/
import Derived.Test.YtdicomoggfhbfaaDlp
import Derived.Test.YtdicomoggfhbfaaShd
import Derived.Test.YtdicomoggfhbfaaDkc1
import Derived.Test.YtdicomoggfhbfaaDkc2
namespace Go.Proofs.Ytdicomoggfhbfaa
open Go.RowKit

set_option linter.unusedSimpArgs false
set_option linter.unusedVariables false
set_option linter.constructorNameAsVariable false

set_option maxRecDepth 100000
set_option maxHeartbeats 40000000

theorem hc_slices_IndexFunc_5 (s : List (Int × Int × Int)) {r : Int} (h : slices_IndexFunc_5 s = some r) : HC Try.prog 116 [(1000, .arr 35 (.pair (.int .i64) (.pair (.int .i64) (.int .i64))) s)] [.own 1000, .fn (.func 110) [] []] [(1000, .arr 35 (.pair (.int .i64) (.pair (.int .i64) (.int .i64))) s)] (.int .i64 r) := by
 unfold slices_IndexFunc_5 at h
 refine zH Try.func116 [.tmp 4] 19 ?_
 refine zo ?_
 refine zB [(0, .own 1000), (1, .fn (.func 110) [] [])] [(1000, .arr 35 (.pair (.int .i64) (.pair (.int .i64) (.int .i64))) s)] ?_
 refine AW.have1 (fun _ : Unit => slices_IndexFunc_5_k1 = some r) (fun _ => ⟨fr [], hpGet [(1000, .arr 35 (.pair (.int .i64) (.pair (.int .i64) (.int .i64))) s)], gt⟩) (fun _ h => ?_) (fun hk_slices_IndexFunc_5_k1 => ?_)
 ·as_aux_lemma =>
   unfold slices_IndexFunc_5_k1 at h
   refine zo ?_
   refine zB [(4, .int .i64 (-1))] [(1000, .arr 35 (.pair (.int .i64) (.pair (.int .i64) (.int .i64))) s)] ?_
   refine AW.ret ?_
   obtain rfl := Option.some.inj h
   exact zR [] [] []
 ·refine AW.seq ?_
  refine zo ?_
  refine zB [(0, .own 1000), (1, .fn (.func 110) [] []), (7, .int .i64 (s.length : Int)), (8, .int .i64 0)] [(1000, .arr 35 (.pair (.int .i64) (.pair (.int .i64) (.int .i64))) s)] ?_
  refine AW.block ?_
  obtain ⟨rv5, hw1, ho2⟩ := Option.bind_eq_some_iff.1 h
  refine AW.loopO (slices_IndexFunc_5_b1 s) (fun st1 => ⟨fr [(0, .own 1000), (1, .fn (.func 110) [] []), (7, .int .i64 (s.length : Int)), (8, .int .i64 st1)], hpGet [(1000, .arr 35 (.pair (.int .i64) (.pair (.int .i64) (.int .i64))) s)], gt⟩) 0 hw1 (zL [] [] []) ?_
  as_aux_lemma =>
   intro st1 x4 h hd3
   unfold slices_IndexFunc_5_b1 at h
   refine zo ?_
   refine zB [(0, .own 1000), (1, .fn (.func 110) [] []), (7, .int .i64 (s.length : Int)), (8, .int .i64 st1), (9, .bool (decide (st1 < (s.length : Int))))] [(1000, .arr 35 (.pair (.int .i64) (.pair (.int .i64) (.int .i64))) s)] ?_
   refine AW.seq ?_
   refine zQ h (fun hb6 h => ?_) (fun hb6 h => ?_)
   ·refine zk ?_
    refine AW.seq ?_
    refine AW.block ?_
    refine zo ?_
    refine zB [(0, .own 1000), (1, .fn (.func 110) [] []), (5, .int .i64 st1), (7, .int .i64 (s.length : Int)), (8, .int .i64 st1)] [(1000, .arr 35 (.pair (.int .i64) (.pair (.int .i64) (.int .i64))) s)] ?_
    refine zo ?_
    obtain ⟨c7, h⟩ := ck_some.1 h
    obtain ⟨c8, h⟩ := ck_some.1 h
    refine zS 5 [(0, .own 1000), (1, .fn (.func 110) [] []), (5, .int .i64 st1), (7, .int .i64 (s.length : Int)), (8, .int .i64 st1), (11, .fn (.func 110) [] []), (15, .agg [.int .i64 (s.getD st1.toNat (0, 0, 0)).1, .int .i64 (s.getD st1.toNat (0, 0, 0)).2.1, .int .i64 (s.getD st1.toNat (0, 0, 0)).2.2])] [(1000, .arr 35 (.pair (.int .i64) (.pair (.int .i64) (.int .i64))) s)] ?_
    obtain ⟨v0, hv9, h⟩ := Option.bind_eq_some_iff.1 h
    refine zC [] [] (hc_delay_isOne (s.getD st1.toNat (0, 0, 0)) hv9) [(0, .own 1000), (1, .fn (.func 110) [] []), (5, .int .i64 st1), (7, .int .i64 (s.length : Int)), (8, .int .i64 st1), (16, .bool (decide ((s.getD st1.toNat (0, 0, 0)).2.1 = (s.getD st1.toNat (0, 0, 0)).2.2)))] [(1000, .arr 35 (.pair (.int .i64) (.pair (.int .i64) (.int .i64))) s)] ?_
    refine zB [(0, .own 1000), (1, .fn (.func 110) [] []), (5, .int .i64 st1), (7, .int .i64 (s.length : Int)), (8, .int .i64 st1), (16, .bool (decide ((s.getD st1.toNat (0, 0, 0)).2.1 = (s.getD st1.toNat (0, 0, 0)).2.2)))] [(1000, .arr 35 (.pair (.int .i64) (.pair (.int .i64) (.int .i64))) s)] ?_
    refine zQ h (fun hb10 h => ?_) (fun hb10 h => ?_)
    ·refine zo ?_
     refine zB [(4, .int .i64 st1)] [(1000, .arr 35 (.pair (.int .i64) (.pair (.int .i64) (.int .i64))) s)] ?_
     refine AW.ret ?_
     refine ablock_r ?_
     refine athen_r ?_
     obtain rfl := Option.some.inj h
     rw [← hd3 _ rfl] at ho2
     have h := ho2
     try simp only at h
     refine athen_r ?_
     refine ablock_r ?_
     refine athen_r ?_
     obtain rfl := Option.some.inj h
     exact zR [] [] []
    ·refine zm ?_
     refine athen_n ?_
     refine AW.ops ?_
     obtain ⟨c11, h⟩ := ck_some.1 h
     refine zA [(0, .own 1000), (1, .fn (.func 110) [] []), (7, .int .i64 (s.length : Int)), (8, .int .i64 (st1 + 1))] [(1000, .arr 35 (.pair (.int .i64) (.pair (.int .i64) (.int .i64))) s)] ?_
     obtain rfl := Option.some.inj h
     exact ⟨_, rfl, zL [] [] []⟩
   ·refine AW.exit ?_
    refine athen_e ?_
    obtain rfl := Option.some.inj h
    try rw [← hd3 _ rfl] at ho2
    have h := ho2
    try simp only at h
    refine athen_e ?_
    refine ablock_s ?_
    refine athen_n ?_
    exact AW.weaken (zL [] [] []) (hk_slices_IndexFunc_5_k1 () h)

theorem hc_slices_DeleteFunc (s : List (Int × Int × Int)) {r : (List (Int × Int × Int))} (h : slices_DeleteFunc s = some r) : HC Try.prog 80 [(1000, .arr 35 (.pair (.int .i64) (.pair (.int .i64) (.int .i64))) s)] [.own 1000, .fn (.func 110) [] []] [(2000, .arr 35 (.pair (.int .i64) (.pair (.int .i64) (.int .i64))) r)] (.own 2000) := by
 unfold slices_DeleteFunc at h
 refine zH Try.func80 [.tmp 4] 42 ?_
 refine zo ?_
 refine zB [(0, .own 1000), (1, .fn (.func 110) [] [])] [(1000, .arr 35 (.pair (.int .i64) (.pair (.int .i64) (.int .i64))) s)] ?_
 refine zo ?_
 refine zS 2 [(0, .own 1000), (1, .fn (.func 110) [] []), (8, .own 1000), (9, .fn (.func 110) [] [])] [(1000, .arr 35 (.pair (.int .i64) (.pair (.int .i64) (.int .i64))) s)] ?_
 obtain ⟨v0, hv1, h⟩ := Option.bind_eq_some_iff.1 h
 refine zC [] [(1000, 1000)] (hc_slices_IndexFunc_5 s hv1) [(0, .own 1000), (1, .fn (.func 110) [] []), (10, .int .i64 v0)] [(1000, .arr 35 (.pair (.int .i64) (.pair (.int .i64) (.int .i64))) s)] ?_
 refine zB [(0, .own 1000), (1, .fn (.func 110) [] []), (5, .int .i64 v0)] [(1000, .arr 35 (.pair (.int .i64) (.pair (.int .i64) (.int .i64))) s)] ?_
 refine AW.seq ?_
 refine zo ?_
 refine zB [(0, .own 1000), (1, .fn (.func 110) [] []), (5, .int .i64 v0), (12, .bool (decide (v0 = (-1))))] [(1000, .arr 35 (.pair (.int .i64) (.pair (.int .i64) (.int .i64))) s)] ?_
 refine zQ h (fun hb2 h => ?_) (fun hb2 h => ?_)
 ·refine zo ?_
  refine zB [(4, .own 1000)] [(1000, .arr 35 (.pair (.int .i64) (.pair (.int .i64) (.int .i64))) s)] ?_
  refine zr ?_
  obtain rfl := Option.some.inj h
  exact zR [] [] [(2000, 1000)]
 ·refine zk ?_
  refine AW.have1 (fun b1 : (List (Int × Int × Int)) × Int => slices_DeleteFunc_k1 b1 = some r) (fun b1 => ⟨fr [(0, .own 1000), (5, .int .i64 b1.2)], hpGet [(1000, .arr 35 (.pair (.int .i64) (.pair (.int .i64) (.int .i64))) b1.1)], gt⟩) (fun b1 h => ?_) (fun hk_slices_DeleteFunc_k1 => ?_)
  ·as_aux_lemma =>
    unfold slices_DeleteFunc_k1 at h
    refine zo ?_
    refine zS 2 [(0, .own 1000), (5, .int .i64 b1.2), (36, .own 1000), (37, .int .i64 b1.2)] [(1000, .arr 35 (.pair (.int .i64) (.pair (.int .i64) (.int .i64))) b1.1)] ?_
    obtain ⟨c3, h⟩ := ck_some.1 h
    obtain ⟨c4, h⟩ := ck_some.1 h
    refine AO.sliceView tab_ok (by decide) rfl rfl tab_30 rfl tab_35 rfl rfl rfl (b1.2) ((b1.1.length : Int)) (by first | assumption | omega | (simp only [go_sem, hb2]) <;> (with_reducible and_intros) <;> first | assumption | rfl | omega | (unfold maxLen; omega)) (by first | assumption | omega | (simp only [go_sem, hb2]) <;> (with_reducible and_intros) <;> first | assumption | rfl | omega | (unfold maxLen; omega)) (by first | assumption | omega | (simp only [go_sem, hb2]) <;> (with_reducible and_intros) <;> first | assumption | rfl | omega | (unfold maxLen; omega)) (.inr ⟨_, _, rfl, rfl⟩) (.inl ⟨rfl, rfl⟩) ?_
    refine zT [(0, .own 1000), (5, .int .i64 b1.2), (38, .vw 1000 3 b1.2.toNat ((b1.1.length : Int) - b1.2).toNat)] [(1000, .arr 35 (.pair (.int .i64) (.pair (.int .i64) (.int .i64))) b1.1)] gt ?_
    obtain ⟨c5, h⟩ := ck_some.1 h
    obtain ⟨c6, h⟩ := ck_some.1 h
    refine AO.clearView tab_ok (by decide) rfl rfl rfl rfl rfl tab_30 rfl tab_35 rfl rfl rfl (by first | assumption | omega | (simp only [go_sem, hb2]) <;> (with_reducible and_intros) <;> first | assumption | rfl | omega | (unfold maxLen; omega)) (by first | assumption | omega | (simp only [go_sem, hb2]) <;> (with_reducible and_intros) <;> first | assumption | rfl | omega | (unfold maxLen; omega)) ?_
    refine zT [(0, .own 1000), (5, .int .i64 b1.2)] [(1000, .arr 35 (.pair (.int .i64) (.pair (.int .i64) (.int .i64))) (((b1.1.take b1.2.toNat) ++ (List.replicate ((b1.1.length : Int) - b1.2).toNat ((0, 0, 0) : Int × Int × Int))) ++ (b1.1.drop (b1.2.toNat + ((b1.1.length : Int) - b1.2).toNat))))] gt ?_
    refine zB [(0, .own 1000), (5, .int .i64 b1.2)] [(1000, .arr 35 (.pair (.int .i64) (.pair (.int .i64) (.int .i64))) (((b1.1.take b1.2.toNat) ++ (List.replicate ((b1.1.length : Int) - b1.2).toNat ((0, 0, 0) : Int × Int × Int))) ++ (b1.1.drop (b1.2.toNat + ((b1.1.length : Int) - b1.2).toNat))))] ?_
    refine zo ?_
    refine zS 2 [(39, .own 1000), (40, .int .i64 b1.2)] [(1000, .arr 35 (.pair (.int .i64) (.pair (.int .i64) (.int .i64))) (((b1.1.take b1.2.toNat) ++ (List.replicate ((b1.1.length : Int) - b1.2).toNat ((0, 0, 0) : Int × Int × Int))) ++ (b1.1.drop (b1.2.toNat + ((b1.1.length : Int) - b1.2).toNat))))] ?_
    obtain ⟨c7, h⟩ := ck_some.1 h
    obtain ⟨c8, h⟩ := ck_some.1 h
    refine AO.sliceOwn tab_ok (by decide) (by decide) rfl rfl tab_30 rfl tab_35 rfl rfl rfl rfl (by first | assumption | omega | (simp only [go_sem, hb2]) <;> (with_reducible and_intros) <;> first | assumption | rfl | omega | (unfold maxLen; omega)) (by first | assumption | omega | (simp only [go_sem, hb2]) <;> (with_reducible and_intros) <;> first | assumption | rfl | omega | (unfold maxLen; omega)) ?_
    refine zT [(41, .own 41)] [(41, .arr 35 (.pair (.int .i64) (.pair (.int .i64) (.int .i64))) ((((b1.1.take b1.2.toNat) ++ (List.replicate ((b1.1.length : Int) - b1.2).toNat ((0, 0, 0) : Int × Int × Int))) ++ (b1.1.drop (b1.2.toNat + ((b1.1.length : Int) - b1.2).toNat))).take b1.2.toNat))] gt ?_
    refine zB [(4, .own 41)] [(41, .arr 35 (.pair (.int .i64) (.pair (.int .i64) (.int .i64))) ((((b1.1.take b1.2.toNat) ++ (List.replicate ((b1.1.length : Int) - b1.2).toNat ((0, 0, 0) : Int × Int × Int))) ++ (b1.1.drop (b1.2.toNat + ((b1.1.length : Int) - b1.2).toNat))).take b1.2.toNat))] ?_
    refine AW.ret ?_
    obtain rfl := Option.some.inj h
    exact zR [] [] [(2000, 41)]
  ·refine AW.seq ?_
   refine zo ?_
   obtain ⟨c9, h⟩ := ck_some.1 h
   refine zB [(0, .own 1000), (1, .fn (.func 110) [] []), (5, .int .i64 v0), (6, .int .i64 (v0 + 1))] [(1000, .arr 35 (.pair (.int .i64) (.pair (.int .i64) (.int .i64))) s)] ?_
   refine AW.block ?_
   obtain ⟨rv14, hw10, ho11⟩ := Option.bind_eq_some_iff.1 h
   refine AW.loopO (slices_DeleteFunc_b1) (fun st1 => ⟨fr [(0, .own 1000), (1, .fn (.func 110) [] []), (5, .int .i64 st1.2.1), (6, .int .i64 st1.2.2)], hpGet [(1000, .arr 35 (.pair (.int .i64) (.pair (.int .i64) (.int .i64))) st1.1)], gt⟩) (s, v0, (v0 + 1)) hw10 (zL [] [] []) ?_
   as_aux_lemma =>
    intro st1 x13 h hd12
    unfold slices_DeleteFunc_b1 at h
    refine AW.seq ?_
    refine zo ?_
    refine zB [(0, .own 1000), (1, .fn (.func 110) [] []), (5, .int .i64 st1.2.1), (6, .int .i64 st1.2.2), (19, .bool (decide (st1.2.2 < (st1.1.length : Int))))] [(1000, .arr 35 (.pair (.int .i64) (.pair (.int .i64) (.int .i64))) st1.1)] ?_
    refine zQ h (fun hb15 h => ?_) (fun hb15 h => ?_)
    ·refine zk ?_
     refine AW.seq ?_
     refine AW.block ?_
     refine zo ?_
     obtain ⟨c16, h⟩ := ck_some.1 h
     obtain ⟨c17, h⟩ := ck_some.1 h
     refine zS 5 [(0, .own 1000), (1, .fn (.func 110) [] []), (5, .int .i64 st1.2.1), (6, .int .i64 st1.2.2), (7, .bp 7 0), (25, .agg [.int .i64 (st1.1.getD st1.2.2.toNat (0, 0, 0)).1, .int .i64 (st1.1.getD st1.2.2.toNat (0, 0, 0)).2.1, .int .i64 (st1.1.getD st1.2.2.toNat (0, 0, 0)).2.2])] [(7, .box 35 [.int .i64 0, .int .i64 0, .int .i64 0]), (1000, .arr 35 (.pair (.int .i64) (.pair (.int .i64) (.int .i64))) st1.1)] ?_
     refine zB [(0, .own 1000), (1, .fn (.func 110) [] []), (5, .int .i64 st1.2.1), (6, .int .i64 st1.2.2), (7, .bp 7 0)] [(7, .box 35 [.int .i64 (st1.1.getD st1.2.2.toNat (0, 0, 0)).1, .int .i64 (st1.1.getD st1.2.2.toNat (0, 0, 0)).2.1, .int .i64 (st1.1.getD st1.2.2.toNat (0, 0, 0)).2.2]), (1000, .arr 35 (.pair (.int .i64) (.pair (.int .i64) (.int .i64))) st1.1)] ?_
     refine zo ?_
     refine zS 2 [(0, .own 1000), (1, .fn (.func 110) [] []), (5, .int .i64 st1.2.1), (6, .int .i64 st1.2.2), (7, .bp 7 0), (26, .fn (.func 110) [] []), (27, .agg [.int .i64 (st1.1.getD st1.2.2.toNat (0, 0, 0)).1, .int .i64 (st1.1.getD st1.2.2.toNat (0, 0, 0)).2.1, .int .i64 (st1.1.getD st1.2.2.toNat (0, 0, 0)).2.2])] [(7, .box 35 [.int .i64 (st1.1.getD st1.2.2.toNat (0, 0, 0)).1, .int .i64 (st1.1.getD st1.2.2.toNat (0, 0, 0)).2.1, .int .i64 (st1.1.getD st1.2.2.toNat (0, 0, 0)).2.2]), (1000, .arr 35 (.pair (.int .i64) (.pair (.int .i64) (.int .i64))) st1.1)] ?_
     obtain ⟨v0_2, hv18, h⟩ := Option.bind_eq_some_iff.1 h
     refine zC [] [] (hc_delay_isOne (st1.1.getD st1.2.2.toNat (0, 0, 0)) hv18) [(0, .own 1000), (1, .fn (.func 110) [] []), (5, .int .i64 st1.2.1), (6, .int .i64 st1.2.2), (7, .bp 7 0), (28, .bool (decide ((st1.1.getD st1.2.2.toNat (0, 0, 0)).2.1 = (st1.1.getD st1.2.2.toNat (0, 0, 0)).2.2)))] [(7, .box 35 [.int .i64 (st1.1.getD st1.2.2.toNat (0, 0, 0)).1, .int .i64 (st1.1.getD st1.2.2.toNat (0, 0, 0)).2.1, .int .i64 (st1.1.getD st1.2.2.toNat (0, 0, 0)).2.2]), (1000, .arr 35 (.pair (.int .i64) (.pair (.int .i64) (.int .i64))) st1.1)] ?_
     refine zB [(0, .own 1000), (1, .fn (.func 110) [] []), (5, .int .i64 st1.2.1), (6, .int .i64 st1.2.2), (7, .bp 7 0), (29, .bool (!(decide ((st1.1.getD st1.2.2.toNat (0, 0, 0)).2.1 = (st1.1.getD st1.2.2.toNat (0, 0, 0)).2.2))))] [(7, .box 35 [.int .i64 (st1.1.getD st1.2.2.toNat (0, 0, 0)).1, .int .i64 (st1.1.getD st1.2.2.toNat (0, 0, 0)).2.1, .int .i64 (st1.1.getD st1.2.2.toNat (0, 0, 0)).2.2]), (1000, .arr 35 (.pair (.int .i64) (.pair (.int .i64) (.int .i64))) st1.1)] ?_
     refine zQ h (fun hb19 h => ?_) (fun hb19 h => ?_)
     ·refine zo ?_
      obtain ⟨c20, h⟩ := ck_some.1 h
      obtain ⟨c21, h⟩ := ck_some.1 h
      refine zB [(0, .own 1000), (1, .fn (.func 110) [] []), (5, .int .i64 st1.2.1), (6, .int .i64 st1.2.2)] [(1000, .arr 35 (.pair (.int .i64) (.pair (.int .i64) (.int .i64))) (st1.1.set st1.2.1.toNat (st1.1.getD st1.2.2.toNat (0, 0, 0))))] ?_
      refine AW.ops ?_
      obtain ⟨c22, h⟩ := ck_some.1 h
      refine zA [(0, .own 1000), (1, .fn (.func 110) [] []), (5, .int .i64 (st1.2.1 + 1)), (6, .int .i64 st1.2.2)] [(1000, .arr 35 (.pair (.int .i64) (.pair (.int .i64) (.int .i64))) (st1.1.set st1.2.1.toNat (st1.1.getD st1.2.2.toNat (0, 0, 0))))] ?_
      refine ablock_n ?_
      refine athen_n ?_
      refine AW.ops ?_
      obtain ⟨c23, h⟩ := ck_some.1 h
      refine zA [(0, .own 1000), (1, .fn (.func 110) [] []), (5, .int .i64 (st1.2.1 + 1)), (6, .int .i64 (st1.2.2 + 1))] [(1000, .arr 35 (.pair (.int .i64) (.pair (.int .i64) (.int .i64))) (st1.1.set st1.2.1.toNat (st1.1.getD st1.2.2.toNat (0, 0, 0))))] ?_
      obtain rfl := Option.some.inj h
      exact ⟨_, rfl, zL [] [] []⟩
     ·refine zm ?_
      refine athen_n ?_
      refine AW.ops ?_
      obtain ⟨c24, h⟩ := ck_some.1 h
      refine zA [(0, .own 1000), (1, .fn (.func 110) [] []), (5, .int .i64 st1.2.1), (6, .int .i64 (st1.2.2 + 1))] [(1000, .arr 35 (.pair (.int .i64) (.pair (.int .i64) (.int .i64))) st1.1)] ?_
      obtain rfl := Option.some.inj h
      exact ⟨_, rfl, zL [] [] []⟩
    ·refine AW.exit ?_
     refine athen_e ?_
     obtain rfl := Option.some.inj h
     rw [← hd12 _ rfl] at ho11
     have h := ho11
     refine athen_e ?_
     refine ablock_s ?_
     refine athen_n ?_
     exact AW.weaken (zL [] [] []) (hk_slices_DeleteFunc_k1 _ h)

theorem hc_delay_accesses_pairs (x0 : List (List (Int × Bool))) {r : (List (Int × Int × Int))} (h : delay_accesses_pairs x0 = some r) : HC Try.prog 69 [] [.sl (.sl (.pair (.int .i64) .bool)) x0] [(2000, .arr 35 (.pair (.int .i64) (.pair (.int .i64) (.int .i64))) r)] (.own 2000) := by
 unfold delay_accesses_pairs at h
 refine zH Try.func69 [.tmp 2] 6 ?_
 refine zo ?_
 refine zB [(0, .sl (.sl (.pair (.int .i64) .bool)) x0)] [] ?_
 refine zo ?_
 refine zS 1 [(3, .sl (.sl (.pair (.int .i64) .bool)) x0)] [] ?_
 obtain ⟨v0, hv1, h⟩ := Option.bind_eq_some_iff.1 h
 refine zC [] [] (hc_delay_accesses_stations x0 hv1) [(4, .own 14000)] [(14000, .arr 35 (.pair (.int .i64) (.pair (.int .i64) (.int .i64))) v0)] ?_
 obtain ⟨v0_2, hv2, h⟩ := Option.bind_eq_some_iff.1 h
 refine zC [] [(1000, 14000)] (hc_slices_DeleteFunc v0 hv2) [(5, .own 15000)] [(15000, .arr 35 (.pair (.int .i64) (.pair (.int .i64) (.int .i64))) v0_2)] ?_
 refine zB [(2, .own 15000)] [(15000, .arr 35 (.pair (.int .i64) (.pair (.int .i64) (.int .i64))) v0_2)] ?_
 refine AW.ret ?_
 obtain rfl := Option.some.inj h
 exact zR [] [] [(2000, 15000)]

theorem hc_delay_accesses_fences (x0 : List (List (Int × Bool))) {r : (List (Int × Int))} (h : delay_accesses_fences x0 = some r) : HC Try.prog 127 [] [.sl (.sl (.pair (.int .i64) .bool)) x0] [(2000, .arr 110 (.pair (.int .i64) (.int .i64)) r)] (.own 2000) := by
 unfold delay_accesses_fences at h
 refine zH Try.func127 [.tmp 2] 29 ?_
 refine zo ?_
 refine zB [(0, .sl (.sl (.pair (.int .i64) .bool)) x0)] [] ?_
 refine zo ?_
 refine zB [(0, .sl (.sl (.pair (.int .i64) .bool)) x0), (3, .cv (.slice none 0 0))] [] ?_
 refine AW.have1 (fun b2_2 : (List (Int × Int)) => delay_accesses_fences_k1 b2_2 = some r) (fun b2_2 => ⟨fr [(3, .own 25)], hpGet [(25, .arr 110 (.pair (.int .i64) (.int .i64)) b2_2)], gt⟩) (fun b2_2 h => ?_) (fun hk_delay_accesses_fences_k1 => ?_)
 ·as_aux_lemma =>
   unfold delay_accesses_fences_k1 at h
   refine zo ?_
   refine zB [(2, .own 25)] [(25, .arr 110 (.pair (.int .i64) (.int .i64)) b2_2)] ?_
   refine AW.ret ?_
   obtain rfl := Option.some.inj h
   exact zR [] [] [(2000, 25)]
 ·refine AW.seq ?_
  refine zo ?_
  refine zB [(3, .cv (.slice none 0 0)), (7, .sl (.sl (.pair (.int .i64) .bool)) x0), (8, .int .i64 (x0.length : Int)), (9, .int .i64 0)] [] ?_
  refine AW.block ?_
  obtain ⟨rv5, hw1, ho2⟩ := Option.bind_eq_some_iff.1 h
  refine AW.loopO (delay_accesses_fences_b1 x0) (fun st1 => ⟨fr [(3, .own 25), (7, .sl (.sl (.pair (.int .i64) .bool)) x0), (8, .int .i64 (x0.length : Int)), (9, .int .i64 st1.2)], hpGet [(25, .arr 110 (.pair (.int .i64) (.int .i64)) st1.1)], gt⟩) ([], 0) hw1 (zL [] [25] []) ?_
  as_aux_lemma =>
   intro st1 x4 h hd3
   unfold delay_accesses_fences_b1 at h
   refine zo ?_
   refine zB [(3, .own 25), (7, .sl (.sl (.pair (.int .i64) .bool)) x0), (8, .int .i64 (x0.length : Int)), (9, .int .i64 st1.2), (10, .bool (decide (st1.2 < (x0.length : Int))))] [(25, .arr 110 (.pair (.int .i64) (.int .i64)) st1.1)] ?_
   refine AW.seq ?_
   refine zQ h (fun hb6 h => ?_) (fun hb6 h => ?_)
   ·refine zk ?_
    refine AW.have1 (fun b2 : (List (Int × Int)) => delay_accesses_fences_k2 st1 b2 = some x4) (fun b2 => ⟨fr [(3, .own 25), (7, .sl (.sl (.pair (.int .i64) .bool)) x0), (8, .int .i64 (x0.length : Int)), (9, .int .i64 st1.2)], hpGet [(25, .arr 110 (.pair (.int .i64) (.int .i64)) b2)], gt⟩) (fun b2 h => ?_) (fun hk_delay_accesses_fences_k2 => ?_)
    ·as_aux_lemma =>
      unfold delay_accesses_fences_k2 at h
      refine AW.ops ?_
      obtain ⟨c7, h⟩ := ck_some.1 h
      refine zA [(3, .own 25), (7, .sl (.sl (.pair (.int .i64) .bool)) x0), (8, .int .i64 (x0.length : Int)), (9, .int .i64 (st1.2 + 1))] [(25, .arr 110 (.pair (.int .i64) (.int .i64)) b2)] ?_
      obtain rfl := Option.some.inj h
      exact ⟨_, rfl, zL [] [] []⟩
    ·refine AW.seq ?_
     refine AW.block ?_
     refine zo ?_
     obtain ⟨c8, h⟩ := ck_some.1 h
     obtain ⟨c9, h⟩ := ck_some.1 h
     refine zB [(3, .own 25), (4, .int .i64 st1.2), (5, .sl (.pair (.int .i64) .bool) (x0.getD st1.2.toNat [])), (7, .sl (.sl (.pair (.int .i64) .bool)) x0), (8, .int .i64 (x0.length : Int)), (9, .int .i64 st1.2)] [(25, .arr 110 (.pair (.int .i64) (.int .i64)) st1.1)] ?_
     refine zo ?_
     obtain ⟨c10, h⟩ := ck_some.1 h
     refine zB [(3, .own 25), (4, .int .i64 st1.2), (7, .sl (.sl (.pair (.int .i64) .bool)) x0), (8, .int .i64 (x0.length : Int)), (9, .int .i64 st1.2), (16, .int .i64 (((x0.getD st1.2.toNat []).length : Int) - 1)), (17, .int .i64 0)] [(25, .arr 110 (.pair (.int .i64) (.int .i64)) st1.1)] ?_
     refine AW.block ?_
     obtain ⟨rv15, hw11, ho12⟩ := Option.bind_eq_some_iff.1 h
     refine AW.loopO (delay_accesses_fences_b2 x0 st1) (fun st2 => ⟨fr [(3, .own 25), (4, .int .i64 st1.2), (7, .sl (.sl (.pair (.int .i64) .bool)) x0), (8, .int .i64 (x0.length : Int)), (9, .int .i64 st1.2), (16, .int .i64 (((x0.getD st1.2.toNat []).length : Int) - 1)), (17, .int .i64 st2.2)], hpGet [(25, .arr 110 (.pair (.int .i64) (.int .i64)) st2.1)], gt⟩) (st1.1, 0) hw11 (zL [] [] []) ?_
     as_aux_lemma =>
      intro st2 x14 h hd13
      unfold delay_accesses_fences_b2 at h
      refine zo ?_
      refine zB [(3, .own 25), (4, .int .i64 st1.2), (7, .sl (.sl (.pair (.int .i64) .bool)) x0), (8, .int .i64 (x0.length : Int)), (9, .int .i64 st1.2), (16, .int .i64 (((x0.getD st1.2.toNat []).length : Int) - 1)), (17, .int .i64 st2.2), (18, .bool (decide (st2.2 < (((x0.getD st1.2.toNat []).length : Int) - 1))))] [(25, .arr 110 (.pair (.int .i64) (.int .i64)) st2.1)] ?_
      refine AW.seq ?_
      refine zQ h (fun hb16 h => ?_) (fun hb16 h => ?_)
      ·refine zk ?_
       refine AW.seq ?_
       refine AW.block ?_
       refine zo ?_
       refine zB [(3, .own 25), (4, .int .i64 st1.2), (6, .int .i64 st2.2), (7, .sl (.sl (.pair (.int .i64) .bool)) x0), (8, .int .i64 (x0.length : Int)), (9, .int .i64 st1.2), (16, .int .i64 (((x0.getD st1.2.toNat []).length : Int) - 1)), (17, .int .i64 st2.2)] [(25, .arr 110 (.pair (.int .i64) (.int .i64)) st2.1)] ?_
       refine AW.ops ?_
       refine zS 5 [(4, .int .i64 st1.2), (7, .sl (.sl (.pair (.int .i64) .bool)) x0), (8, .int .i64 (x0.length : Int)), (9, .int .i64 st1.2), (16, .int .i64 (((x0.getD st1.2.toNat []).length : Int) - 1)), (17, .int .i64 st2.2), (20, .own 25), (24, .own 24)] [(24, .arr 110 (.pair (.int .i64) (.int .i64)) [(st1.2, st2.2)]), (25, .arr 110 (.pair (.int .i64) (.int .i64)) st2.1)] ?_
       obtain ⟨c17, h⟩ := ck_some.1 h
       refine zA [(3, .own 25), (4, .int .i64 st1.2), (7, .sl (.sl (.pair (.int .i64) .bool)) x0), (8, .int .i64 (x0.length : Int)), (9, .int .i64 st1.2), (16, .int .i64 (((x0.getD st1.2.toNat []).length : Int) - 1)), (17, .int .i64 st2.2)] [(25, .arr 110 (.pair (.int .i64) (.int .i64)) (st2.1 ++ [(st1.2, st2.2)]))] ?_
       refine ablock_n ?_
       refine athen_n ?_
       refine AW.ops ?_
       obtain ⟨c18, h⟩ := ck_some.1 h
       refine zA [(3, .own 25), (4, .int .i64 st1.2), (7, .sl (.sl (.pair (.int .i64) .bool)) x0), (8, .int .i64 (x0.length : Int)), (9, .int .i64 st1.2), (16, .int .i64 (((x0.getD st1.2.toNat []).length : Int) - 1)), (17, .int .i64 (st2.2 + 1))] [(25, .arr 110 (.pair (.int .i64) (.int .i64)) (st2.1 ++ [(st1.2, st2.2)]))] ?_
       obtain rfl := Option.some.inj h
       exact ⟨_, rfl, zL [] [] []⟩
      ·refine AW.exit ?_
       refine athen_e ?_
       obtain rfl := Option.some.inj h
       rw [← hd13 _ rfl] at ho12
       have h := ho12
       refine athen_e ?_
       refine ablock_s ?_
       refine ablock_n ?_
       refine athen_n ?_
       exact AW.weaken (zL [] [] []) (hk_delay_accesses_fences_k2 _ h)
   ·refine AW.exit ?_
    refine athen_e ?_
    obtain rfl := Option.some.inj h
    rw [← hd3 _ rfl] at ho2
    have h := ho2
    refine athen_e ?_
    refine ablock_s ?_
    refine athen_n ?_
    exact AW.weaken (zL [] [] []) (hk_delay_accesses_fences_k1 _ h)

theorem hc_slices_Index (s : List (Int × Int)) (v0 : Int × Int) {r : Int} (h : slices_Index s v0 = some r) : HC Try.prog 144 [] [.sl (.pair (.int .i64) (.int .i64)) s, .agg [.int .i64 v0.1, .int .i64 v0.2]] [] (.int .i64 r) := by
 unfold slices_Index at h
 refine zH Try.func144 [.tmp 4] 19 ?_
 refine zo ?_
 refine zB [(0, .sl (.pair (.int .i64) (.int .i64)) s), (3, .bp 3 0)] [(3, .box 110 [.int .i64 v0.1, .int .i64 v0.2])] ?_
 refine AW.have1 (fun _ : Unit => slices_Index_k1 = some r) (fun _ => ⟨fr [], hpGet [], gt⟩) (fun _ h => ?_) (fun hk_slices_Index_k1 => ?_)
 ·as_aux_lemma =>
   unfold slices_Index_k1 at h
   refine zo ?_
   refine zB [(4, .int .i64 (-1))] [] ?_
   refine AW.ret ?_
   obtain rfl := Option.some.inj h
   exact zR [] [] []
 ·refine AW.seq ?_
  refine zo ?_
  refine zB [(0, .sl (.pair (.int .i64) (.int .i64)) s), (3, .bp 3 0), (7, .int .i64 (s.length : Int)), (8, .int .i64 0)] [(3, .box 110 [.int .i64 v0.1, .int .i64 v0.2])] ?_
  refine AW.block ?_
  obtain ⟨rv5, hw1, ho2⟩ := Option.bind_eq_some_iff.1 h
  refine AW.loopO (slices_Index_b1 s v0) (fun st1 => ⟨fr [(0, .sl (.pair (.int .i64) (.int .i64)) s), (3, .bp 3 0), (7, .int .i64 (s.length : Int)), (8, .int .i64 st1)], hpGet [(3, .box 110 [.int .i64 v0.1, .int .i64 v0.2])], gt⟩) 0 hw1 (zL [] [] []) ?_
  as_aux_lemma =>
   intro st1 x4 h hd3
   unfold slices_Index_b1 at h
   refine zo ?_
   refine zB [(0, .sl (.pair (.int .i64) (.int .i64)) s), (3, .bp 3 0), (7, .int .i64 (s.length : Int)), (8, .int .i64 st1), (9, .bool (decide (st1 < (s.length : Int))))] [(3, .box 110 [.int .i64 v0.1, .int .i64 v0.2])] ?_
   refine AW.seq ?_
   refine zQ h (fun hb6 h => ?_) (fun hb6 h => ?_)
   ·refine zk ?_
    refine AW.seq ?_
    refine AW.block ?_
    refine zo ?_
    refine zB [(0, .sl (.pair (.int .i64) (.int .i64)) s), (3, .bp 3 0), (5, .int .i64 st1), (7, .int .i64 (s.length : Int)), (8, .int .i64 st1)] [(3, .box 110 [.int .i64 v0.1, .int .i64 v0.2])] ?_
    refine AW.seq ?_
    refine AW.drawTail tab_ok mixed_ok 5 [] [] (by decide) (by kernel_rfl) (by kernel_rfl) (by decide) ?_
    dsimp only [List.take_succ_cons, List.take_zero]
    obtain ⟨c8, h⟩ := ck_some.1 h
    obtain ⟨c9, h⟩ := ck_some.1 h
    refine adops_cut 5 (fun K' hK7 => ?_)
    try dsimp only [List.drop_succ_cons, List.drop_zero, List.take_succ_cons, List.take_zero]
    simp only [go_sem, hb6]
    repeat with_reducible refine zN ?_
    refine hK7 _ ?_
    refine adops_nil ?_
    refine zT [(0, .sl (.pair (.int .i64) (.int .i64)) s), (3, .bp 3 0), (5, .int .i64 st1), (7, .int .i64 (s.length : Int)), (8, .int .i64 st1), (11, .agg [.int .i64 v0.1, .int .i64 v0.2]), (15, .agg [.int .i64 (s.getD st1.toNat (0, 0)).1, .int .i64 (s.getD st1.toNat (0, 0)).2])] [(3, .box 110 [.int .i64 v0.1, .int .i64 v0.2])] gt ?_
    obtain ⟨c10, h⟩ := ck_some.1 h
    obtain ⟨c11, h⟩ := ck_some.1 h
    obtain ⟨c12, h⟩ := ck_some.1 h
    obtain ⟨c13, h⟩ := ck_some.1 h
    refine AO.aggEq (neg := false) eqty_110 (by decide) rfl rfl (lx := [.int .i64 v0.1, .int .i64 v0.2]) (ly := [.int .i64 (s.getD st1.toNat (0, 0)).1, .int .i64 (s.getD st1.toNat (0, 0)).2]) (by first | rfl | (simp only [go_sem, hb6]) <;> (with_reducible and_intros) <;> first | assumption | rfl | omega | (unfold maxLen; omega)) (by first | rfl | (simp only [go_sem, hb6]) <;> (with_reducible and_intros) <;> first | assumption | rfl | omega | (unfold maxLen; omega)) (by first | rfl | (simp only [go_sem, hb6]) <;> (with_reducible and_intros) <;> first | assumption | rfl | omega | (unfold maxLen; omega)) (by first | rfl | (simp only [go_sem, hb6]) <;> (with_reducible and_intros) <;> first | assumption | rfl | omega | (unfold maxLen; omega)) (by first | assumption | omega | (simp only [go_sem, hb6]) <;> (with_reducible and_intros) <;> first | assumption | rfl | omega | (unfold maxLen; omega)) (by first | assumption | omega | (simp only [go_sem, hb6]) <;> (with_reducible and_intros) <;> first | assumption | rfl | omega | (unfold maxLen; omega)) ?_
    refine zT [(0, .sl (.pair (.int .i64) (.int .i64)) s), (3, .bp 3 0), (5, .int .i64 st1), (7, .int .i64 (s.length : Int)), (8, .int .i64 st1), (16, .bool (decide (v0 = (s.getD st1.toNat (0, 0)))))] [(3, .box 110 [.int .i64 v0.1, .int .i64 v0.2])] gt ?_
    refine zB [(0, .sl (.pair (.int .i64) (.int .i64)) s), (3, .bp 3 0), (5, .int .i64 st1), (7, .int .i64 (s.length : Int)), (8, .int .i64 st1), (16, .bool (decide (v0 = (s.getD st1.toNat (0, 0)))))] [(3, .box 110 [.int .i64 v0.1, .int .i64 v0.2])] ?_
    refine zQ h (fun hb14 h => ?_) (fun hb14 h => ?_)
    ·refine zo ?_
     refine zB [(4, .int .i64 st1)] [] ?_
     refine AW.ret ?_
     refine ablock_r ?_
     refine athen_r ?_
     obtain rfl := Option.some.inj h
     rw [← hd3 _ rfl] at ho2
     have h := ho2
     try simp only at h
     refine athen_r ?_
     refine ablock_r ?_
     refine athen_r ?_
     obtain rfl := Option.some.inj h
     exact zR [] [] []
    ·refine zm ?_
     refine athen_n ?_
     refine AW.ops ?_
     obtain ⟨c15, h⟩ := ck_some.1 h
     refine zA [(0, .sl (.pair (.int .i64) (.int .i64)) s), (3, .bp 3 0), (7, .int .i64 (s.length : Int)), (8, .int .i64 (st1 + 1))] [(3, .box 110 [.int .i64 v0.1, .int .i64 v0.2])] ?_
     obtain rfl := Option.some.inj h
     exact ⟨_, rfl, zL [] [] []⟩
   ·refine AW.exit ?_
    refine athen_e ?_
    obtain rfl := Option.some.inj h
    try rw [← hd3 _ rfl] at ho2
    have h := ho2
    try simp only at h
    refine athen_e ?_
    refine ablock_s ?_
    refine athen_n ?_
    exact AW.weaken (zL [] [] []) (hk_slices_Index_k1 () h)

theorem hc_delay_accesses_areFences (x0 : List (List (Int × Bool))) (list : List (Int × Int)) {r : Bool} (h : delay_accesses_areFences x0 list = some r) : HC Try.prog 115 [] [.sl (.sl (.pair (.int .i64) .bool)) x0, .sl (.pair (.int .i64) (.int .i64)) list] [] (.bool r) := by
 unfold delay_accesses_areFences at h
 refine zH Try.func115 [.tmp 4] 27 ?_
 refine zo ?_
 refine zB [(0, .sl (.sl (.pair (.int .i64) .bool)) x0), (1, .sl (.pair (.int .i64) (.int .i64)) list)] [] ?_
 refine zo ?_
 refine zS 1 [(1, .sl (.pair (.int .i64) (.int .i64)) list), (9, .sl (.sl (.pair (.int .i64) .bool)) x0)] [] ?_
 obtain ⟨v0, hv1, h⟩ := Option.bind_eq_some_iff.1 h
 refine zC [] [] (hc_delay_accesses_fences x0 hv1) [(1, .sl (.pair (.int .i64) (.int .i64)) list), (10, .own 20000)] [(20000, .arr 110 (.pair (.int .i64) (.int .i64)) v0)] ?_
 refine zB [(1, .sl (.pair (.int .i64) (.int .i64)) list), (5, .own 20000)] [(20000, .arr 110 (.pair (.int .i64) (.int .i64)) v0)] ?_
 refine AW.have1 (fun _ : Unit => delay_accesses_areFences_k1 = some r) (fun _ => ⟨fr [], hpGet [], gt⟩) (fun _ h => ?_) (fun hk_delay_accesses_areFences_k1 => ?_)
 ·as_aux_lemma =>
   unfold delay_accesses_areFences_k1 at h
   refine zo ?_
   refine zB [(4, .bool true)] [] ?_
   refine AW.ret ?_
   obtain rfl := Option.some.inj h
   exact zR [] [] []
 ·refine AW.seq ?_
  refine zo ?_
  refine zB [(5, .own 20000), (11, .sl (.pair (.int .i64) (.int .i64)) list), (12, .int .i64 (list.length : Int)), (13, .int .i64 0)] [(20000, .arr 110 (.pair (.int .i64) (.int .i64)) v0)] ?_
  refine AW.block ?_
  obtain ⟨rv6, hw2, ho3⟩ := Option.bind_eq_some_iff.1 h
  refine AW.loopO (delay_accesses_areFences_b1 list) (fun st1 => ⟨fr [(5, .sl (.pair (.int .i64) (.int .i64)) st1.1), (11, .sl (.pair (.int .i64) (.int .i64)) list), (12, .int .i64 (list.length : Int)), (13, .int .i64 st1.2)], hpGet [], gt⟩) (v0, 0) hw2 (zL [20000] [] []) ?_
  as_aux_lemma =>
   intro st1 x5 h hd4
   unfold delay_accesses_areFences_b1 at h
   refine zo ?_
   refine zB [(5, .sl (.pair (.int .i64) (.int .i64)) st1.1), (11, .sl (.pair (.int .i64) (.int .i64)) list), (12, .int .i64 (list.length : Int)), (13, .int .i64 st1.2), (14, .bool (decide (st1.2 < (list.length : Int))))] [] ?_
   refine AW.seq ?_
   refine zQ h (fun hb7 h => ?_) (fun hb7 h => ?_)
   ·refine zk ?_
    refine AW.seq ?_
    refine AW.block ?_
    refine zo ?_
    obtain ⟨c8, h⟩ := ck_some.1 h
    obtain ⟨c9, h⟩ := ck_some.1 h
    refine zB [(5, .sl (.pair (.int .i64) (.int .i64)) st1.1), (7, .bp 7 0), (11, .sl (.pair (.int .i64) (.int .i64)) list), (12, .int .i64 (list.length : Int)), (13, .int .i64 st1.2)] [(7, .box 110 [.int .i64 (list.getD st1.2.toNat (0, 0)).1, .int .i64 (list.getD st1.2.toNat (0, 0)).2])] ?_
    refine zo ?_
    refine zS 2 [(5, .sl (.pair (.int .i64) (.int .i64)) st1.1), (11, .sl (.pair (.int .i64) (.int .i64)) list), (12, .int .i64 (list.length : Int)), (13, .int .i64 st1.2), (17, .sl (.pair (.int .i64) (.int .i64)) st1.1), (18, .agg [.int .i64 (list.getD st1.2.toNat (0, 0)).1, .int .i64 (list.getD st1.2.toNat (0, 0)).2])] [] ?_
    obtain ⟨v0_2, hv10, h⟩ := Option.bind_eq_some_iff.1 h
    refine zC [] [] (hc_slices_Index st1.1 (list.getD st1.2.toNat (0, 0)) hv10) [(5, .sl (.pair (.int .i64) (.int .i64)) st1.1), (11, .sl (.pair (.int .i64) (.int .i64)) list), (12, .int .i64 (list.length : Int)), (13, .int .i64 st1.2), (19, .int .i64 v0_2)] [] ?_
    refine zB [(5, .sl (.pair (.int .i64) (.int .i64)) st1.1), (8, .int .i64 v0_2), (11, .sl (.pair (.int .i64) (.int .i64)) list), (12, .int .i64 (list.length : Int)), (13, .int .i64 st1.2)] [] ?_
    refine AW.seq ?_
    refine zo ?_
    refine zB [(5, .sl (.pair (.int .i64) (.int .i64)) st1.1), (8, .int .i64 v0_2), (11, .sl (.pair (.int .i64) (.int .i64)) list), (12, .int .i64 (list.length : Int)), (13, .int .i64 st1.2), (21, .bool (decide (v0_2 < 0)))] [] ?_
    refine zQ h (fun hb11 h => ?_) (fun hb11 h => ?_)
    ·refine zo ?_
     refine zB [(4, .bool false)] [] ?_
     refine zr ?_
     refine ablock_r ?_
     refine athen_r ?_
     obtain rfl := Option.some.inj h
     try rw [← hd4 _ rfl] at ho3
     have h := ho3
     try simp only at h
     refine athen_r ?_
     refine ablock_r ?_
     refine athen_r ?_
     obtain rfl := Option.some.inj h
     exact zR [] [] []
    ·refine zk ?_
     refine AW.ops ?_
     obtain ⟨c12, h⟩ := ck_some.1 h
     obtain ⟨c13, h⟩ := ck_some.1 h
     obtain ⟨c14, h⟩ := ck_some.1 h
     refine zA [(5, .sl (.pair (.int .i64) (.int .i64)) (st1.1.drop (v0_2 + 1).toNat)), (11, .sl (.pair (.int .i64) (.int .i64)) list), (12, .int .i64 (list.length : Int)), (13, .int .i64 st1.2)] [] ?_
     refine ablock_n ?_
     refine athen_n ?_
     refine AW.ops ?_
     obtain ⟨c15, h⟩ := ck_some.1 h
     refine zA [(5, .sl (.pair (.int .i64) (.int .i64)) (st1.1.drop (v0_2 + 1).toNat)), (11, .sl (.pair (.int .i64) (.int .i64)) list), (12, .int .i64 (list.length : Int)), (13, .int .i64 (st1.2 + 1))] [] ?_
     obtain rfl := Option.some.inj h
     exact ⟨_, rfl, zL [] [] []⟩
   ·refine AW.exit ?_
    refine athen_e ?_
    obtain rfl := Option.some.inj h
    try rw [← hd4 _ rfl] at ho3
    have h := ho3
    try simp only at h
    refine athen_e ?_
    refine ablock_s ?_
    refine athen_n ?_
    exact AW.weaken (zL [] [] []) (hk_delay_accesses_areFences_k1 () h)

theorem hc_delay_fenced (x0 : List (List (Int × Bool))) (fences : List (Int × Int)) {r : (List (List (Int × Bool))) × Int} (h : delay_fenced x0 fences = some r) : HC Try.prog 79 [] [.sl (.sl (.pair (.int .i64) .bool)) x0, .sl (.pair (.int .i64) (.int .i64)) fences] [] (.tup [.sl (.sl (.pair (.int .i64) .bool)) r.1, .int .i64 r.2]) := by
 unfold delay_fenced at h
 refine zH Try.func79 [.tmp 4, .tmp 5] 21 ?_
 refine zo ?_
 refine zB [(0, .sl (.sl (.pair (.int .i64) .bool)) x0), (1, .sl (.pair (.int .i64) (.int .i64)) fences)] [] ?_
 refine zo ?_
 refine zS 1 [(1, .sl (.pair (.int .i64) (.int .i64)) fences), (9, .sl (.sl (.pair (.int .i64) .bool)) x0)] [] ?_
 obtain ⟨v0, hv1, h⟩ := Option.bind_eq_some_iff.1 h
 refine zC [] [] (hc_delay_accessesOf x0 hv1) [(1, .sl (.pair (.int .i64) (.int .i64)) fences), (10, .tup [.sl (.sl (.pair (.int .i64) .bool)) v0.1, .int .i64 v0.2])] [] ?_
 refine zB [(1, .sl (.pair (.int .i64) (.int .i64)) fences), (6, .sl (.sl (.pair (.int .i64) .bool)) v0.1), (7, .int .i64 v0.2)] [] ?_
 refine AW.seq ?_
 refine zo ?_
 refine zB [(1, .sl (.pair (.int .i64) (.int .i64)) fences), (6, .sl (.sl (.pair (.int .i64) .bool)) v0.1), (7, .int .i64 v0.2), (14, .bool (!(decide (v0.2 = 0))))] [] ?_
 refine zQ h (fun hb2 h => ?_) (fun hb2 h => ?_)
 ·refine zo ?_
  refine zB [(4, .cv (.slice none 0 0)), (5, .int .i64 v0.2)] [] ?_
  refine zr ?_
  obtain rfl := Option.some.inj h
  exact zR [] [] []
 ·refine zk ?_
  refine AW.seq ?_
  refine zo ?_
  refine zS 2 [(6, .sl (.sl (.pair (.int .i64) .bool)) v0.1), (16, .sl (.sl (.pair (.int .i64) .bool)) v0.1), (17, .sl (.pair (.int .i64) (.int .i64)) fences)] [] ?_
  obtain ⟨v0_2, hv3, h⟩ := Option.bind_eq_some_iff.1 h
  refine zC [] [] (hc_delay_accesses_areFences v0.1 fences hv3) [(6, .sl (.sl (.pair (.int .i64) .bool)) v0.1), (18, .bool v0_2)] [] ?_
  refine zB [(6, .sl (.sl (.pair (.int .i64) .bool)) v0.1), (19, .bool (!v0_2))] [] ?_
  refine zQ h (fun hb4 h => ?_) (fun hb4 h => ?_)
  ·refine zo ?_
   refine zB [(4, .cv (.slice none 0 0)), (5, .int .i64 2)] [] ?_
   refine zr ?_
   obtain rfl := Option.some.inj h
   exact zR [] [] []
  ·refine zk ?_
   refine zo ?_
   refine zB [(4, .sl (.sl (.pair (.int .i64) .bool)) v0.1), (5, .int .i64 0)] [] ?_
   refine AW.ret ?_
   obtain rfl := Option.some.inj h
   exact zR [] [] []

end Go.Proofs.Ytdicomoggfhbfaa
