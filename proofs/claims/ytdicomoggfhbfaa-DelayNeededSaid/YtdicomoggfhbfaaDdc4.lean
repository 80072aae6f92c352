/-
  Made by wip/tool/dc.py out of the print of the program: contracts.
-/
import Derived.Test.YtdicomoggfhbfaaDlp
import Derived.Test.YtdicomoggfhbfaaShd
import Derived.Test.YtdicomoggfhbfaaAvd
import Derived.Test.YtdicomoggfhbfaaDdc1
import Derived.Test.YtdicomoggfhbfaaDdc2
import Derived.Test.YtdicomoggfhbfaaDdc3
namespace Go.Proofs.Ytdicomoggfhbfaa
open Go.RowKit

set_option linter.unusedSimpArgs false
set_option linter.unusedVariables false
set_option linter.constructorNameAsVariable false

set_option maxRecDepth 100000
set_option maxHeartbeats 40000000

theorem hc_slices_IndexFunc_5 (s : List (Int × Int × Int)) {r : Int} (h : slices_IndexFunc_5 s = some r) : HC Try.prog 116 [(1000, .arr 35 (.pair (.int .i64) (.pair (.int .i64) (.int .i64))) s)] [.own 1000, .fn (.func 110) [] []] [(1000, .arr 35 (.pair (.int .i64) (.pair (.int .i64) (.int .i64))) s)] (.int .i64 r) := by
 unfold slices_IndexFunc_5 at h
 refine zH Try.func116 [.tmp 4] 19 ?_
 refine zo ?_
 refine zB [(0, .own 1000), (1, .fn (.func 110) [] [])] [(1000, .arr 35 (.pair (.int .i64) (.pair (.int .i64) (.int .i64))) s)] ?_
 refine AW.have1 (fun _ : Unit => slices_IndexFunc_5_k1 = some r) (fun _ => ⟨fr [], hpGet [(1000, .arr 35 (.pair (.int .i64) (.pair (.int .i64) (.int .i64))) s)], gt⟩) (fun _ h => ?_) (fun hk_slices_IndexFunc_5_k1 => ?_)
 ·as_aux_lemma =>
   unfold slices_IndexFunc_5_k1 at h
   refine zo ?_
   refine zB [(4, .int .i64 (-1))] [(1000, .arr 35 (.pair (.int .i64) (.pair (.int .i64) (.int .i64))) s)] ?_
   refine AW.ret ?_
   obtain rfl := Option.some.inj h
   exact zR [] [] []
 ·refine AW.seq ?_
  refine zo ?_
  refine zB [(0, .own 1000), (1, .fn (.func 110) [] []), (7, .int .i64 (s.length : Int)), (8, .int .i64 0)] [(1000, .arr 35 (.pair (.int .i64) (.pair (.int .i64) (.int .i64))) s)] ?_
  refine AW.block ?_
  obtain ⟨rv5, hw1, ho2⟩ := Option.bind_eq_some_iff.1 h
  refine AW.loopO (slices_IndexFunc_5_b1 s) (fun st1 => ⟨fr [(0, .own 1000), (1, .fn (.func 110) [] []), (7, .int .i64 (s.length : Int)), (8, .int .i64 st1)], hpGet [(1000, .arr 35 (.pair (.int .i64) (.pair (.int .i64) (.int .i64))) s)], gt⟩) 0 hw1 (zL [] [] []) ?_
  as_aux_lemma =>
   intro st1 x4 h hd3
   unfold slices_IndexFunc_5_b1 at h
   refine zo ?_
   refine zB [(0, .own 1000), (1, .fn (.func 110) [] []), (7, .int .i64 (s.length : Int)), (8, .int .i64 st1), (9, .bool (decide (st1 < (s.length : Int))))] [(1000, .arr 35 (.pair (.int .i64) (.pair (.int .i64) (.int .i64))) s)] ?_
   refine AW.seq ?_
   refine zQ h (fun hb6 h => ?_) (fun hb6 h => ?_)
   ·refine zk ?_
    refine AW.seq ?_
    refine AW.block ?_
    refine zo ?_
    refine zB [(0, .own 1000), (1, .fn (.func 110) [] []), (5, .int .i64 st1), (7, .int .i64 (s.length : Int)), (8, .int .i64 st1)] [(1000, .arr 35 (.pair (.int .i64) (.pair (.int .i64) (.int .i64))) s)] ?_
    refine zo ?_
    obtain ⟨c7, h⟩ := ck_some.1 h
    obtain ⟨c8, h⟩ := ck_some.1 h
    refine zS 5 [(0, .own 1000), (1, .fn (.func 110) [] []), (5, .int .i64 st1), (7, .int .i64 (s.length : Int)), (8, .int .i64 st1), (11, .fn (.func 110) [] []), (15, .agg [.int .i64 (s.getD st1.toNat (0, 0, 0)).1, .int .i64 (s.getD st1.toNat (0, 0, 0)).2.1, .int .i64 (s.getD st1.toNat (0, 0, 0)).2.2])] [(1000, .arr 35 (.pair (.int .i64) (.pair (.int .i64) (.int .i64))) s)] ?_
    obtain ⟨v0, hv9, h⟩ := Option.bind_eq_some_iff.1 h
    refine zC [] [] (hc_delay_isOne (s.getD st1.toNat (0, 0, 0)) hv9) [(0, .own 1000), (1, .fn (.func 110) [] []), (5, .int .i64 st1), (7, .int .i64 (s.length : Int)), (8, .int .i64 st1), (16, .bool (decide ((s.getD st1.toNat (0, 0, 0)).2.1 = (s.getD st1.toNat (0, 0, 0)).2.2)))] [(1000, .arr 35 (.pair (.int .i64) (.pair (.int .i64) (.int .i64))) s)] ?_
    refine zB [(0, .own 1000), (1, .fn (.func 110) [] []), (5, .int .i64 st1), (7, .int .i64 (s.length : Int)), (8, .int .i64 st1), (16, .bool (decide ((s.getD st1.toNat (0, 0, 0)).2.1 = (s.getD st1.toNat (0, 0, 0)).2.2)))] [(1000, .arr 35 (.pair (.int .i64) (.pair (.int .i64) (.int .i64))) s)] ?_
    refine zQ h (fun hb10 h => ?_) (fun hb10 h => ?_)
    ·refine zo ?_
     refine zB [(4, .int .i64 st1)] [(1000, .arr 35 (.pair (.int .i64) (.pair (.int .i64) (.int .i64))) s)] ?_
     refine AW.ret ?_
     refine ablock_r ?_
     refine athen_r ?_
     obtain rfl := Option.some.inj h
     rw [← hd3 _ rfl] at ho2
     have h := ho2
     try simp only at h
     refine athen_r ?_
     refine ablock_r ?_
     refine athen_r ?_
     obtain rfl := Option.some.inj h
     exact zR [] [] []
    ·refine zm ?_
     refine athen_n ?_
     refine AW.ops ?_
     obtain ⟨c11, h⟩ := ck_some.1 h
     refine zA [(0, .own 1000), (1, .fn (.func 110) [] []), (7, .int .i64 (s.length : Int)), (8, .int .i64 (st1 + 1))] [(1000, .arr 35 (.pair (.int .i64) (.pair (.int .i64) (.int .i64))) s)] ?_
     obtain rfl := Option.some.inj h
     exact ⟨_, rfl, zL [] [] []⟩
   ·refine AW.exit ?_
    refine athen_e ?_
    obtain rfl := Option.some.inj h
    try rw [← hd3 _ rfl] at ho2
    have h := ho2
    try simp only at h
    refine athen_e ?_
    refine ablock_s ?_
    refine athen_n ?_
    exact AW.weaken (zL [] [] []) (hk_slices_IndexFunc_5_k1 () h)

theorem hc_slices_DeleteFunc (s : List (Int × Int × Int)) {r : (List (Int × Int × Int))} (h : slices_DeleteFunc s = some r) : HC Try.prog 80 [(1000, .arr 35 (.pair (.int .i64) (.pair (.int .i64) (.int .i64))) s)] [.own 1000, .fn (.func 110) [] []] [(2000, .arr 35 (.pair (.int .i64) (.pair (.int .i64) (.int .i64))) r)] (.own 2000) := by
 unfold slices_DeleteFunc at h
 refine zH Try.func80 [.tmp 4] 42 ?_
 refine zo ?_
 refine zB [(0, .own 1000), (1, .fn (.func 110) [] [])] [(1000, .arr 35 (.pair (.int .i64) (.pair (.int .i64) (.int .i64))) s)] ?_
 refine zo ?_
 refine zS 2 [(0, .own 1000), (1, .fn (.func 110) [] []), (8, .own 1000), (9, .fn (.func 110) [] [])] [(1000, .arr 35 (.pair (.int .i64) (.pair (.int .i64) (.int .i64))) s)] ?_
 obtain ⟨v0, hv1, h⟩ := Option.bind_eq_some_iff.1 h
 refine zC [] [(1000, 1000)] (hc_slices_IndexFunc_5 s hv1) [(0, .own 1000), (1, .fn (.func 110) [] []), (10, .int .i64 v0)] [(1000, .arr 35 (.pair (.int .i64) (.pair (.int .i64) (.int .i64))) s)] ?_
 refine zB [(0, .own 1000), (1, .fn (.func 110) [] []), (5, .int .i64 v0)] [(1000, .arr 35 (.pair (.int .i64) (.pair (.int .i64) (.int .i64))) s)] ?_
 refine AW.seq ?_
 refine zo ?_
 refine zB [(0, .own 1000), (1, .fn (.func 110) [] []), (5, .int .i64 v0), (12, .bool (decide (v0 = (-1))))] [(1000, .arr 35 (.pair (.int .i64) (.pair (.int .i64) (.int .i64))) s)] ?_
 refine zQ h (fun hb2 h => ?_) (fun hb2 h => ?_)
 ·refine zo ?_
  refine zB [(4, .own 1000)] [(1000, .arr 35 (.pair (.int .i64) (.pair (.int .i64) (.int .i64))) s)] ?_
  refine zr ?_
  obtain rfl := Option.some.inj h
  exact zR [] [] [(2000, 1000)]
 ·refine zk ?_
  refine AW.have1 (fun b1 : (List (Int × Int × Int)) × Int => slices_DeleteFunc_k1 b1 = some r) (fun b1 => ⟨fr [(0, .own 1000), (5, .int .i64 b1.2)], hpGet [(1000, .arr 35 (.pair (.int .i64) (.pair (.int .i64) (.int .i64))) b1.1)], gt⟩) (fun b1 h => ?_) (fun hk_slices_DeleteFunc_k1 => ?_)
  ·as_aux_lemma =>
    unfold slices_DeleteFunc_k1 at h
    refine zo ?_
    refine zS 2 [(0, .own 1000), (5, .int .i64 b1.2), (36, .own 1000), (37, .int .i64 b1.2)] [(1000, .arr 35 (.pair (.int .i64) (.pair (.int .i64) (.int .i64))) b1.1)] ?_
    obtain ⟨c3, h⟩ := ck_some.1 h
    obtain ⟨c4, h⟩ := ck_some.1 h
    refine AO.sliceView tab_ok (by decide) rfl rfl tab_30 rfl tab_35 rfl rfl rfl (b1.2) ((b1.1.length : Int)) (by first | assumption | omega | (simp only [go_sem, hb2]) <;> (with_reducible and_intros) <;> first | assumption | rfl | omega | (unfold maxLen; omega)) (by first | assumption | omega | (simp only [go_sem, hb2]) <;> (with_reducible and_intros) <;> first | assumption | rfl | omega | (unfold maxLen; omega)) (by first | assumption | omega | (simp only [go_sem, hb2]) <;> (with_reducible and_intros) <;> first | assumption | rfl | omega | (unfold maxLen; omega)) (.inr ⟨_, _, rfl, rfl⟩) (.inl ⟨rfl, rfl⟩) ?_
    refine zT [(0, .own 1000), (5, .int .i64 b1.2), (38, .vw 1000 3 b1.2.toNat ((b1.1.length : Int) - b1.2).toNat)] [(1000, .arr 35 (.pair (.int .i64) (.pair (.int .i64) (.int .i64))) b1.1)] gt ?_
    obtain ⟨c5, h⟩ := ck_some.1 h
    obtain ⟨c6, h⟩ := ck_some.1 h
    refine AO.clearView tab_ok (by decide) rfl rfl rfl rfl rfl tab_30 rfl tab_35 rfl rfl rfl (by first | assumption | omega | (simp only [go_sem, hb2]) <;> (with_reducible and_intros) <;> first | assumption | rfl | omega | (unfold maxLen; omega)) (by first | assumption | omega | (simp only [go_sem, hb2]) <;> (with_reducible and_intros) <;> first | assumption | rfl | omega | (unfold maxLen; omega)) ?_
    refine zT [(0, .own 1000), (5, .int .i64 b1.2)] [(1000, .arr 35 (.pair (.int .i64) (.pair (.int .i64) (.int .i64))) (((b1.1.take b1.2.toNat) ++ (List.replicate ((b1.1.length : Int) - b1.2).toNat ((0, 0, 0) : Int × Int × Int))) ++ (b1.1.drop (b1.2.toNat + ((b1.1.length : Int) - b1.2).toNat))))] gt ?_
    refine zB [(0, .own 1000), (5, .int .i64 b1.2)] [(1000, .arr 35 (.pair (.int .i64) (.pair (.int .i64) (.int .i64))) (((b1.1.take b1.2.toNat) ++ (List.replicate ((b1.1.length : Int) - b1.2).toNat ((0, 0, 0) : Int × Int × Int))) ++ (b1.1.drop (b1.2.toNat + ((b1.1.length : Int) - b1.2).toNat))))] ?_
    refine zo ?_
    refine zS 2 [(39, .own 1000), (40, .int .i64 b1.2)] [(1000, .arr 35 (.pair (.int .i64) (.pair (.int .i64) (.int .i64))) (((b1.1.take b1.2.toNat) ++ (List.replicate ((b1.1.length : Int) - b1.2).toNat ((0, 0, 0) : Int × Int × Int))) ++ (b1.1.drop (b1.2.toNat + ((b1.1.length : Int) - b1.2).toNat))))] ?_
    obtain ⟨c7, h⟩ := ck_some.1 h
    obtain ⟨c8, h⟩ := ck_some.1 h
    refine AO.sliceOwn tab_ok (by decide) (by decide) rfl rfl tab_30 rfl tab_35 rfl rfl rfl rfl (by first | assumption | omega | (simp only [go_sem, hb2]) <;> (with_reducible and_intros) <;> first | assumption | rfl | omega | (unfold maxLen; omega)) (by first | assumption | omega | (simp only [go_sem, hb2]) <;> (with_reducible and_intros) <;> first | assumption | rfl | omega | (unfold maxLen; omega)) ?_
    refine zT [(41, .own 41)] [(41, .arr 35 (.pair (.int .i64) (.pair (.int .i64) (.int .i64))) ((((b1.1.take b1.2.toNat) ++ (List.replicate ((b1.1.length : Int) - b1.2).toNat ((0, 0, 0) : Int × Int × Int))) ++ (b1.1.drop (b1.2.toNat + ((b1.1.length : Int) - b1.2).toNat))).take b1.2.toNat))] gt ?_
    refine zB [(4, .own 41)] [(41, .arr 35 (.pair (.int .i64) (.pair (.int .i64) (.int .i64))) ((((b1.1.take b1.2.toNat) ++ (List.replicate ((b1.1.length : Int) - b1.2).toNat ((0, 0, 0) : Int × Int × Int))) ++ (b1.1.drop (b1.2.toNat + ((b1.1.length : Int) - b1.2).toNat))).take b1.2.toNat))] ?_
    refine AW.ret ?_
    obtain rfl := Option.some.inj h
    exact zR [] [] [(2000, 41)]
  ·refine AW.seq ?_
   refine zo ?_
   obtain ⟨c9, h⟩ := ck_some.1 h
   refine zB [(0, .own 1000), (1, .fn (.func 110) [] []), (5, .int .i64 v0), (6, .int .i64 (v0 + 1))] [(1000, .arr 35 (.pair (.int .i64) (.pair (.int .i64) (.int .i64))) s)] ?_
   refine AW.block ?_
   obtain ⟨rv14, hw10, ho11⟩ := Option.bind_eq_some_iff.1 h
   refine AW.loopO (slices_DeleteFunc_b1) (fun st1 => ⟨fr [(0, .own 1000), (1, .fn (.func 110) [] []), (5, .int .i64 st1.2.1), (6, .int .i64 st1.2.2)], hpGet [(1000, .arr 35 (.pair (.int .i64) (.pair (.int .i64) (.int .i64))) st1.1)], gt⟩) (s, v0, (v0 + 1)) hw10 (zL [] [] []) ?_
   as_aux_lemma =>
    intro st1 x13 h hd12
    unfold slices_DeleteFunc_b1 at h
    refine AW.seq ?_
    refine zo ?_
    refine zB [(0, .own 1000), (1, .fn (.func 110) [] []), (5, .int .i64 st1.2.1), (6, .int .i64 st1.2.2), (19, .bool (decide (st1.2.2 < (st1.1.length : Int))))] [(1000, .arr 35 (.pair (.int .i64) (.pair (.int .i64) (.int .i64))) st1.1)] ?_
    refine zQ h (fun hb15 h => ?_) (fun hb15 h => ?_)
    ·refine zk ?_
     refine AW.seq ?_
     refine AW.block ?_
     refine zo ?_
     obtain ⟨c16, h⟩ := ck_some.1 h
     obtain ⟨c17, h⟩ := ck_some.1 h
     refine zS 5 [(0, .own 1000), (1, .fn (.func 110) [] []), (5, .int .i64 st1.2.1), (6, .int .i64 st1.2.2), (7, .bp 7 0), (25, .agg [.int .i64 (st1.1.getD st1.2.2.toNat (0, 0, 0)).1, .int .i64 (st1.1.getD st1.2.2.toNat (0, 0, 0)).2.1, .int .i64 (st1.1.getD st1.2.2.toNat (0, 0, 0)).2.2])] [(7, .box 35 [.int .i64 0, .int .i64 0, .int .i64 0]), (1000, .arr 35 (.pair (.int .i64) (.pair (.int .i64) (.int .i64))) st1.1)] ?_
     refine zB [(0, .own 1000), (1, .fn (.func 110) [] []), (5, .int .i64 st1.2.1), (6, .int .i64 st1.2.2), (7, .bp 7 0)] [(7, .box 35 [.int .i64 (st1.1.getD st1.2.2.toNat (0, 0, 0)).1, .int .i64 (st1.1.getD st1.2.2.toNat (0, 0, 0)).2.1, .int .i64 (st1.1.getD st1.2.2.toNat (0, 0, 0)).2.2]), (1000, .arr 35 (.pair (.int .i64) (.pair (.int .i64) (.int .i64))) st1.1)] ?_
     refine zo ?_
     refine zS 2 [(0, .own 1000), (1, .fn (.func 110) [] []), (5, .int .i64 st1.2.1), (6, .int .i64 st1.2.2), (7, .bp 7 0), (26, .fn (.func 110) [] []), (27, .agg [.int .i64 (st1.1.getD st1.2.2.toNat (0, 0, 0)).1, .int .i64 (st1.1.getD st1.2.2.toNat (0, 0, 0)).2.1, .int .i64 (st1.1.getD st1.2.2.toNat (0, 0, 0)).2.2])] [(7, .box 35 [.int .i64 (st1.1.getD st1.2.2.toNat (0, 0, 0)).1, .int .i64 (st1.1.getD st1.2.2.toNat (0, 0, 0)).2.1, .int .i64 (st1.1.getD st1.2.2.toNat (0, 0, 0)).2.2]), (1000, .arr 35 (.pair (.int .i64) (.pair (.int .i64) (.int .i64))) st1.1)] ?_
     obtain ⟨v0_2, hv18, h⟩ := Option.bind_eq_some_iff.1 h
     refine zC [] [] (hc_delay_isOne (st1.1.getD st1.2.2.toNat (0, 0, 0)) hv18) [(0, .own 1000), (1, .fn (.func 110) [] []), (5, .int .i64 st1.2.1), (6, .int .i64 st1.2.2), (7, .bp 7 0), (28, .bool (decide ((st1.1.getD st1.2.2.toNat (0, 0, 0)).2.1 = (st1.1.getD st1.2.2.toNat (0, 0, 0)).2.2)))] [(7, .box 35 [.int .i64 (st1.1.getD st1.2.2.toNat (0, 0, 0)).1, .int .i64 (st1.1.getD st1.2.2.toNat (0, 0, 0)).2.1, .int .i64 (st1.1.getD st1.2.2.toNat (0, 0, 0)).2.2]), (1000, .arr 35 (.pair (.int .i64) (.pair (.int .i64) (.int .i64))) st1.1)] ?_
     refine zB [(0, .own 1000), (1, .fn (.func 110) [] []), (5, .int .i64 st1.2.1), (6, .int .i64 st1.2.2), (7, .bp 7 0), (29, .bool (!(decide ((st1.1.getD st1.2.2.toNat (0, 0, 0)).2.1 = (st1.1.getD st1.2.2.toNat (0, 0, 0)).2.2))))] [(7, .box 35 [.int .i64 (st1.1.getD st1.2.2.toNat (0, 0, 0)).1, .int .i64 (st1.1.getD st1.2.2.toNat (0, 0, 0)).2.1, .int .i64 (st1.1.getD st1.2.2.toNat (0, 0, 0)).2.2]), (1000, .arr 35 (.pair (.int .i64) (.pair (.int .i64) (.int .i64))) st1.1)] ?_
     refine zQ h (fun hb19 h => ?_) (fun hb19 h => ?_)
     ·refine zo ?_
      obtain ⟨c20, h⟩ := ck_some.1 h
      obtain ⟨c21, h⟩ := ck_some.1 h
      refine zB [(0, .own 1000), (1, .fn (.func 110) [] []), (5, .int .i64 st1.2.1), (6, .int .i64 st1.2.2)] [(1000, .arr 35 (.pair (.int .i64) (.pair (.int .i64) (.int .i64))) (st1.1.set st1.2.1.toNat (st1.1.getD st1.2.2.toNat (0, 0, 0))))] ?_
      refine AW.ops ?_
      obtain ⟨c22, h⟩ := ck_some.1 h
      refine zA [(0, .own 1000), (1, .fn (.func 110) [] []), (5, .int .i64 (st1.2.1 + 1)), (6, .int .i64 st1.2.2)] [(1000, .arr 35 (.pair (.int .i64) (.pair (.int .i64) (.int .i64))) (st1.1.set st1.2.1.toNat (st1.1.getD st1.2.2.toNat (0, 0, 0))))] ?_
      refine ablock_n ?_
      refine athen_n ?_
      refine AW.ops ?_
      obtain ⟨c23, h⟩ := ck_some.1 h
      refine zA [(0, .own 1000), (1, .fn (.func 110) [] []), (5, .int .i64 (st1.2.1 + 1)), (6, .int .i64 (st1.2.2 + 1))] [(1000, .arr 35 (.pair (.int .i64) (.pair (.int .i64) (.int .i64))) (st1.1.set st1.2.1.toNat (st1.1.getD st1.2.2.toNat (0, 0, 0))))] ?_
      obtain rfl := Option.some.inj h
      exact ⟨_, rfl, zL [] [] []⟩
     ·refine zm ?_
      refine athen_n ?_
      refine AW.ops ?_
      obtain ⟨c24, h⟩ := ck_some.1 h
      refine zA [(0, .own 1000), (1, .fn (.func 110) [] []), (5, .int .i64 st1.2.1), (6, .int .i64 (st1.2.2 + 1))] [(1000, .arr 35 (.pair (.int .i64) (.pair (.int .i64) (.int .i64))) st1.1)] ?_
      obtain rfl := Option.some.inj h
      exact ⟨_, rfl, zL [] [] []⟩
    ·refine AW.exit ?_
     refine athen_e ?_
     obtain rfl := Option.some.inj h
     rw [← hd12 _ rfl] at ho11
     have h := ho11
     refine athen_e ?_
     refine ablock_s ?_
     refine athen_n ?_
     exact AW.weaken (zL [] [] []) (hk_slices_DeleteFunc_k1 _ h)

theorem hc_delay_accesses_pairs (x0 : List (List (Int × Bool))) {r : (List (Int × Int × Int))} (h : delay_accesses_pairs x0 = some r) : HC Try.prog 69 [] [.sl (.sl (.pair (.int .i64) .bool)) x0] [(2000, .arr 35 (.pair (.int .i64) (.pair (.int .i64) (.int .i64))) r)] (.own 2000) := by
 unfold delay_accesses_pairs at h
 refine zH Try.func69 [.tmp 2] 6 ?_
 refine zo ?_
 refine zB [(0, .sl (.sl (.pair (.int .i64) .bool)) x0)] [] ?_
 refine zo ?_
 refine zS 1 [(3, .sl (.sl (.pair (.int .i64) .bool)) x0)] [] ?_
 obtain ⟨v0, hv1, h⟩ := Option.bind_eq_some_iff.1 h
 refine zC [] [] (hc_delay_accesses_stations x0 hv1) [(4, .own 14000)] [(14000, .arr 35 (.pair (.int .i64) (.pair (.int .i64) (.int .i64))) v0)] ?_
 obtain ⟨v0_2, hv2, h⟩ := Option.bind_eq_some_iff.1 h
 refine zC [] [(1000, 14000)] (hc_slices_DeleteFunc v0 hv2) [(5, .own 15000)] [(15000, .arr 35 (.pair (.int .i64) (.pair (.int .i64) (.int .i64))) v0_2)] ?_
 refine zB [(2, .own 15000)] [(15000, .arr 35 (.pair (.int .i64) (.pair (.int .i64) (.int .i64))) v0_2)] ?_
 refine AW.ret ?_
 obtain rfl := Option.some.inj h
 exact zR [] [] [(2000, 15000)]

theorem hc_delay_Pairs (x0 : List (List (Int × Bool))) {r : (List (Int × Int × Int)) × Int} (h : delay_Pairs x0 = some r) : HC Try.prog 21 [] [.sl (.sl (.pair (.int .i64) .bool)) x0] [(2000, .arr 35 (.pair (.int .i64) (.pair (.int .i64) (.int .i64))) r.1)] (.tup [.own 2000, .int .i64 r.2]) := by
 unfold delay_Pairs at h
 refine zH Try.func21 [.tmp 2, .tmp 3] 16 ?_
 refine zo ?_
 refine zB [(0, .sl (.sl (.pair (.int .i64) .bool)) x0)] [] ?_
 refine zo ?_
 refine zS 1 [(7, .sl (.sl (.pair (.int .i64) .bool)) x0)] [] ?_
 obtain ⟨v0, hv1, h⟩ := Option.bind_eq_some_iff.1 h
 refine zC [] [] (hc_delay_accessesOf x0 hv1) [(8, .tup [.sl (.sl (.pair (.int .i64) .bool)) v0.1, .int .i64 v0.2])] [] ?_
 refine zB [(4, .sl (.sl (.pair (.int .i64) .bool)) v0.1), (5, .int .i64 v0.2)] [] ?_
 refine AW.seq ?_
 refine zo ?_
 refine zB [(4, .sl (.sl (.pair (.int .i64) .bool)) v0.1), (5, .int .i64 v0.2), (12, .bool (!(decide (v0.2 = 0))))] [] ?_
 refine zQ h (fun hb2 h => ?_) (fun hb2 h => ?_)
 ·refine zo ?_
  refine zB [(2, .cv (.slice none 0 0)), (3, .int .i64 v0.2)] [] ?_
  refine zr ?_
  obtain rfl := Option.some.inj h
  exact zR [] [2000] []
 ·refine zk ?_
  refine zo ?_
  refine zS 1 [(14, .sl (.sl (.pair (.int .i64) .bool)) v0.1)] [] ?_
  obtain ⟨v0_2, hv3, h⟩ := Option.bind_eq_some_iff.1 h
  refine zC [] [] (hc_delay_accesses_pairs v0.1 hv3) [(15, .own 25000)] [(25000, .arr 35 (.pair (.int .i64) (.pair (.int .i64) (.int .i64))) v0_2)] ?_
  refine zB [(2, .own 25000), (3, .int .i64 0)] [(25000, .arr 35 (.pair (.int .i64) (.pair (.int .i64) (.int .i64))) v0_2)] ?_
  refine AW.ret ?_
  obtain rfl := Option.some.inj h
  exact zR [] [] [(2000, 25000)]

theorem hc_delay_accesses_isCircle (x0 : List (List (Int × Bool))) (list : List (Int × Int × Int)) {r : Bool} (h : delay_accesses_isCircle x0 list = some r) : HC Try.prog 71 [] [.sl (.sl (.pair (.int .i64) .bool)) x0, .sl (.pair (.int .i64) (.pair (.int .i64) (.int .i64))) list] [] (.bool r) := by
 unfold delay_accesses_isCircle at h
 refine zH Try.func71 [.tmp 4] 31 ?_
 refine zo ?_
 refine zB [(0, .sl (.sl (.pair (.int .i64) .bool)) x0), (1, .sl (.pair (.int .i64) (.pair (.int .i64) (.int .i64))) list)] [] ?_
 refine AW.have1 (fun _ : Unit => delay_accesses_isCircle_k1 x0 list = some r) (fun _ => ⟨fr [(0, .sl (.sl (.pair (.int .i64) .bool)) x0), (1, .sl (.pair (.int .i64) (.pair (.int .i64) (.int .i64))) list)], hpGet [], gt⟩) (fun _ h => ?_) (fun hk_delay_accesses_isCircle_k1 => ?_)
 ·as_aux_lemma =>
   unfold delay_accesses_isCircle_k1 at h
   refine zo ?_
   refine zS 2 [(28, .sl (.sl (.pair (.int .i64) .bool)) x0), (29, .sl (.pair (.int .i64) (.pair (.int .i64) (.int .i64))) list)] [] ?_
   obtain ⟨v0_3, hv1, h⟩ := Option.bind_eq_some_iff.1 h
   refine zC [] [] (hc_delay_accesses_isClosed x0 list hv1) [(30, .bool v0_3)] [] ?_
   refine zB [(4, .bool v0_3)] [] ?_
   refine AW.ret ?_
   obtain rfl := Option.some.inj h
   exact zR [] [] []
 ·refine AW.seq ?_
  refine zo ?_
  refine zB [(0, .sl (.sl (.pair (.int .i64) .bool)) x0), (1, .sl (.pair (.int .i64) (.pair (.int .i64) (.int .i64))) list), (7, .sl (.pair (.int .i64) (.pair (.int .i64) (.int .i64))) list), (8, .int .i64 (list.length : Int)), (9, .int .i64 0)] [] ?_
  refine AW.block ?_
  obtain ⟨rv6, hw2, ho3⟩ := Option.bind_eq_some_iff.1 h
  refine AW.loopO (delay_accesses_isCircle_b1 x0 list) (fun st1 => ⟨fr [(0, .sl (.sl (.pair (.int .i64) .bool)) x0), (1, .sl (.pair (.int .i64) (.pair (.int .i64) (.int .i64))) list), (7, .sl (.pair (.int .i64) (.pair (.int .i64) (.int .i64))) list), (8, .int .i64 (list.length : Int)), (9, .int .i64 st1)], hpGet [], gt⟩) 0 hw2 (zL [] [] []) ?_
  as_aux_lemma =>
   intro st1 x5 h hd4
   unfold delay_accesses_isCircle_b1 at h
   refine zo ?_
   refine zB [(0, .sl (.sl (.pair (.int .i64) .bool)) x0), (1, .sl (.pair (.int .i64) (.pair (.int .i64) (.int .i64))) list), (7, .sl (.pair (.int .i64) (.pair (.int .i64) (.int .i64))) list), (8, .int .i64 (list.length : Int)), (9, .int .i64 st1), (10, .bool (decide (st1 < (list.length : Int))))] [] ?_
   refine AW.seq ?_
   refine zQ h (fun hb7 h => ?_) (fun hb7 h => ?_)
   ·refine zk ?_
    refine AW.seq ?_
    refine AW.block ?_
    refine zo ?_
    obtain ⟨c8, h⟩ := ck_some.1 h
    obtain ⟨c9, h⟩ := ck_some.1 h
    refine zS 5 [(0, .sl (.sl (.pair (.int .i64) .bool)) x0), (1, .sl (.pair (.int .i64) (.pair (.int .i64) (.int .i64))) list), (5, .int .i64 st1), (6, .bp 6 0), (7, .sl (.pair (.int .i64) (.pair (.int .i64) (.int .i64))) list), (8, .int .i64 (list.length : Int)), (9, .int .i64 st1), (13, .agg [.int .i64 (list.getD st1.toNat (0, 0, 0)).1, .int .i64 (list.getD st1.toNat (0, 0, 0)).2.1, .int .i64 (list.getD st1.toNat (0, 0, 0)).2.2])] [(6, .box 35 [.int .i64 0, .int .i64 0, .int .i64 0])] ?_
    refine zB [(0, .sl (.sl (.pair (.int .i64) .bool)) x0), (1, .sl (.pair (.int .i64) (.pair (.int .i64) (.int .i64))) list), (5, .int .i64 st1), (6, .bp 6 0), (7, .sl (.pair (.int .i64) (.pair (.int .i64) (.int .i64))) list), (8, .int .i64 (list.length : Int)), (9, .int .i64 st1)] [(6, .box 35 [.int .i64 (list.getD st1.toNat (0, 0, 0)).1, .int .i64 (list.getD st1.toNat (0, 0, 0)).2.1, .int .i64 (list.getD st1.toNat (0, 0, 0)).2.2])] ?_
    refine AW.seq ?_
    refine AW.draw tab_ok mixed_ok [] [] (by decide) (lex_fast (by kernel_rfl)) ?_
    as_aux_lemma =>
     refine adops_cut 2 (fun K' hK10 => ?_)
     try dsimp only [List.drop_succ_cons, List.drop_zero, List.take_succ_cons, List.take_zero]
     simp only [go_sem, hb7]
     repeat with_reducible refine zN ?_
     refine hK10 _ ?_
     as_aux_lemma =>
      obtain ⟨v0, hv11, h⟩ := Option.bind_eq_some_iff.1 h
      refine adops.call (by first | trivial | rfl) rfl rfl rfl (fun _ h => h) [] [] (hc_delay_accesses_isStation x0 (list.getD st1.toNat (0, 0, 0)) hv11) rfl (by (simp only [go_sem, hb7]) <;> (with_reducible and_intros) <;> first | assumption | rfl | omega | (unfold maxLen; omega)) (by (simp only [go_sem, hb7]) <;> (with_reducible and_intros) <;> first | assumption | rfl | omega | (unfold maxLen; omega)) rfl ?_
      refine adops_cut 2 (fun K' hK12 => ?_)
      try dsimp only [List.drop_succ_cons, List.drop_zero, List.take_succ_cons, List.take_zero]
      simp only [go_sem, hb7]
      repeat with_reducible refine zN ?_
      refine hK12 _ ?_
      as_aux_lemma =>
       rcases zI h with ⟨hb13, h⟩ | ⟨hb13, h⟩
       ·simp only [hb13]
        as_aux_lemma =>
         refine adops_cut 4 (fun K' hK14 => ?_)
         try dsimp only [List.drop_succ_cons, List.drop_zero, List.take_succ_cons, List.take_zero]
         simp only [go_sem, hb7, hb13]
         repeat with_reducible refine zN ?_
         refine hK14 _ ?_
         as_aux_lemma =>
          refine adops_cut 4 (fun K' hK15 => ?_)
          try dsimp only [List.drop_succ_cons, List.drop_zero, List.take_succ_cons, List.take_zero]
          simp only [go_sem, hb7, hb13]
          repeat with_reducible refine zN ?_
          refine hK15 _ ?_
          refine adops_nil ?_
          refine athen_n ?_
          refine zV [(0, .sl (.sl (.pair (.int .i64) .bool)) x0), (1, .sl (.pair (.int .i64) (.pair (.int .i64) (.int .i64))) list), (7, .sl (.pair (.int .i64) (.pair (.int .i64) (.int .i64))) list), (8, .int .i64 (list.length : Int)), (9, .int .i64 st1), (26, .bool true)] [] gt ?_
          as_aux_lemma =>
           refine AW.cond (b := true) rfl (fun _ => ?_) (fun hb16 => by cases hb16)
           refine zo ?_
           refine zB [(4, .bool false)] [] ?_
           refine AW.ret ?_
           refine ablock_r ?_
           refine athen_r ?_
           obtain rfl := Option.some.inj h
           try rw [← hd4 _ rfl] at ho3
           have h := ho3
           try simp only at h
           refine athen_r ?_
           refine ablock_r ?_
           refine athen_r ?_
           obtain rfl := Option.some.inj h
           exact zR [] [] []
       ·simp only [hb13]
        as_aux_lemma =>
         obtain ⟨c18, h⟩ := ck_some.1 h
         obtain ⟨c19, h⟩ := ck_some.1 h
         refine adops_cut 5 (fun K' hK17 => ?_)
         try dsimp only [List.drop_succ_cons, List.drop_zero, List.take_succ_cons, List.take_zero]
         simp only [go_sem, hb7, hb13]
         repeat with_reducible refine zN ?_
         refine hK17 _ ?_
         as_aux_lemma =>
          obtain ⟨v0_2, hv20, h⟩ := Option.bind_eq_some_iff.1 h
          refine adops.call (by first | trivial | rfl) rfl rfl rfl (fun _ h => ⟨fun _ => h, fun hn => absurd rfl hn⟩) [] [] (hc_delay_accesses_goesOn x0 (list.take st1.toNat) (list.getD st1.toNat (0, 0, 0)) hv20) rfl (by (simp only [go_sem, hb7, hb13]) <;> (with_reducible and_intros) <;> first | assumption | rfl | omega | (unfold maxLen; omega)) (by (simp only [go_sem, hb7, hb13]) <;> (with_reducible and_intros) <;> first | assumption | rfl | omega | (unfold maxLen; omega)) rfl ?_
          refine adops_cut 2 (fun K' hK21 => ?_)
          try dsimp only [List.drop_succ_cons, List.drop_zero, List.take_succ_cons, List.take_zero]
          simp only [go_sem, hb7, hb13]
          repeat with_reducible refine zN ?_
          refine hK21 _ ?_
          refine adops_nil ?_
          refine athen_n ?_
          refine zV [(0, .sl (.sl (.pair (.int .i64) .bool)) x0), (1, .sl (.pair (.int .i64) (.pair (.int .i64) (.int .i64))) list), (7, .sl (.pair (.int .i64) (.pair (.int .i64) (.int .i64))) list), (8, .int .i64 (list.length : Int)), (9, .int .i64 st1), (26, .bool (!v0_2))] [] gt ?_
          as_aux_lemma =>
           refine zQ h (fun hb22 h => ?_) (fun hb22 h => ?_)
           ·refine zo ?_
            refine zB [(4, .bool false)] [] ?_
            refine AW.ret ?_
            refine ablock_r ?_
            refine athen_r ?_
            obtain rfl := Option.some.inj h
            try rw [← hd4 _ rfl] at ho3
            have h := ho3
            try simp only at h
            refine athen_r ?_
            refine ablock_r ?_
            refine athen_r ?_
            obtain rfl := Option.some.inj h
            exact zR [] [] []
           ·refine zm ?_
            refine athen_n ?_
            refine AW.ops ?_
            obtain ⟨c23, h⟩ := ck_some.1 h
            refine zA [(0, .sl (.sl (.pair (.int .i64) .bool)) x0), (1, .sl (.pair (.int .i64) (.pair (.int .i64) (.int .i64))) list), (7, .sl (.pair (.int .i64) (.pair (.int .i64) (.int .i64))) list), (8, .int .i64 (list.length : Int)), (9, .int .i64 (st1 + 1))] [] ?_
            obtain rfl := Option.some.inj h
            exact ⟨_, rfl, zL [] [] []⟩
   ·refine AW.exit ?_
    refine athen_e ?_
    obtain rfl := Option.some.inj h
    try rw [← hd4 _ rfl] at ho3
    have h := ho3
    try simp only at h
    refine athen_e ?_
    refine ablock_s ?_
    refine athen_n ?_
    exact AW.weaken (zL [] [] []) (hk_delay_accesses_isCircle_k1 () h)

theorem hc_delay_IsCircle (x0 : List (List (Int × Bool))) (circle : List (Int × Int × Int)) {r : Bool × Int} (h : delay_IsCircle x0 circle = some r) : HC Try.prog 24 [] [.sl (.sl (.pair (.int .i64) .bool)) x0, .sl (.pair (.int .i64) (.pair (.int .i64) (.int .i64))) circle] [] (.tup [.bool r.1, .int .i64 r.2]) := by
 unfold delay_IsCircle at h
 refine zH Try.func24 [.tmp 4, .tmp 5] 19 ?_
 refine zo ?_
 refine zB [(0, .sl (.sl (.pair (.int .i64) .bool)) x0), (1, .sl (.pair (.int .i64) (.pair (.int .i64) (.int .i64))) circle)] [] ?_
 refine zo ?_
 refine zS 1 [(1, .sl (.pair (.int .i64) (.pair (.int .i64) (.int .i64))) circle), (9, .sl (.sl (.pair (.int .i64) .bool)) x0)] [] ?_
 obtain ⟨v0, hv1, h⟩ := Option.bind_eq_some_iff.1 h
 refine zC [] [] (hc_delay_accessesOf x0 hv1) [(1, .sl (.pair (.int .i64) (.pair (.int .i64) (.int .i64))) circle), (10, .tup [.sl (.sl (.pair (.int .i64) .bool)) v0.1, .int .i64 v0.2])] [] ?_
 refine zB [(1, .sl (.pair (.int .i64) (.pair (.int .i64) (.int .i64))) circle), (6, .sl (.sl (.pair (.int .i64) .bool)) v0.1), (7, .int .i64 v0.2)] [] ?_
 refine AW.seq ?_
 refine zo ?_
 refine zB [(1, .sl (.pair (.int .i64) (.pair (.int .i64) (.int .i64))) circle), (6, .sl (.sl (.pair (.int .i64) .bool)) v0.1), (7, .int .i64 v0.2), (14, .bool (!(decide (v0.2 = 0))))] [] ?_
 refine zQ h (fun hb2 h => ?_) (fun hb2 h => ?_)
 ·refine zo ?_
  refine zB [(4, .bool false), (5, .int .i64 v0.2)] [] ?_
  refine zr ?_
  obtain rfl := Option.some.inj h
  exact zR [] [] []
 ·refine zk ?_
  refine zo ?_
  refine zS 2 [(16, .sl (.sl (.pair (.int .i64) .bool)) v0.1), (17, .sl (.pair (.int .i64) (.pair (.int .i64) (.int .i64))) circle)] [] ?_
  obtain ⟨v0_2, hv3, h⟩ := Option.bind_eq_some_iff.1 h
  refine zC [] [] (hc_delay_accesses_isCircle v0.1 circle hv3) [(18, .bool v0_2)] [] ?_
  refine zB [(4, .bool v0_2), (5, .int .i64 0)] [] ?_
  refine AW.ret ?_
  obtain rfl := Option.some.inj h
  exact zR [] [] []

theorem hc_delay_accesses_found (x0 : List (List (Int × Bool))) {r : (List ((Int × Int × Int) × (List (Int × Int × Int))))} (h : delay_accesses_found x0 = some r) : HC Try.prog 78 [] [.sl (.sl (.pair (.int .i64) .bool)) x0] [(2000, .map true false (.pair (.int .i64) (.pair (.int .i64) (.int .i64))) (.sl (.pair (.int .i64) (.pair (.int .i64) (.int .i64)))) r)] (.own 2000) := by
 unfold delay_accesses_found at h
 refine zH Try.func78 [.tmp 2] 26 ?_
 refine zo ?_
 refine zB [(0, .sl (.sl (.pair (.int .i64) .bool)) x0)] [] ?_
 refine zo ?_
 refine AO.makeMap (ak := true) (ae := false) (kt := (.pair (.int .i64) (.pair (.int .i64) (.int .i64)))) (vt := (.sl (.pair (.int .i64) (.pair (.int .i64) (.int .i64))))) (by decide) (by decide) rfl rfl ?_
 refine zT [(0, .sl (.sl (.pair (.int .i64) .bool)) x0), (7, .own 7)] [(7, .map true false (.pair (.int .i64) (.pair (.int .i64) (.int .i64))) (.sl (.pair (.int .i64) (.pair (.int .i64) (.int .i64)))) [])] gt ?_
 refine zB [(0, .sl (.sl (.pair (.int .i64) .bool)) x0), (3, .bp 3 0)] [(3, .box 93 [.own 7]), (7, .map true false (.pair (.int .i64) (.pair (.int .i64) (.int .i64))) (.sl (.pair (.int .i64) (.pair (.int .i64) (.int .i64)))) [])] ?_
 refine AW.have1 (fun b1 : (List ((Int × Int × Int) × (List (Int × Int × Int)))) => delay_accesses_found_k1 b1 = some r) (fun b1 => ⟨fr [(3, .bp 3 0)], hpGet [(3, .box 93 [.own 7]), (7, .map true false (.pair (.int .i64) (.pair (.int .i64) (.int .i64))) (.sl (.pair (.int .i64) (.pair (.int .i64) (.int .i64)))) b1)], gt⟩) (fun b1 h => ?_) (fun hk_delay_accesses_found_k1 => ?_)
 ·as_aux_lemma =>
   unfold delay_accesses_found_k1 at h
   refine zo ?_
   refine zB [(2, .own 7)] [(7, .map true false (.pair (.int .i64) (.pair (.int .i64) (.int .i64))) (.sl (.pair (.int .i64) (.pair (.int .i64) (.int .i64)))) b1)] ?_
   refine AW.ret ?_
   obtain rfl := Option.some.inj h
   exact zR [] [] [(2000, 7)]
 ·refine AW.seq ?_
  refine zo ?_
  refine zB [(3, .bp 3 0), (9, .fn (.func 73) [.sl (.sl (.pair (.int .i64) .bool)) x0] [])] [(3, .box 93 [.own 7]), (7, .map true false (.pair (.int .i64) (.pair (.int .i64) (.int .i64))) (.sl (.pair (.int .i64) (.pair (.int .i64) (.int .i64)))) [])] ?_
  refine AW.block ?_
  obtain ⟨x1, hx2, h⟩ := Option.bind_eq_some_iff.1 h
  refine AW.weaken (s' := ⟨fr [(3, .bp 3 0), (9, .fn (.func 73) [.sl (.sl (.pair (.int .i64) .bool)) x0] [])], hpGet ([] ++ [(3, .box 93 [.own 7]), (7, .map true false (.pair (.int .i64) (.pair (.int .i64) (.int .i64))) (.sl (.pair (.int .i64) (.pair (.int .i64) (.int .i64)))) [])]), gt⟩) (zL [] [] []) ?_
  refine AW.rangeF (R := Empty) (l0 := [(3, .bp 3 0)]) (hI := []) (h0 := fun (st1 : (List ((Int × Int × Int) × (List (Int × Int × Int))))) => [(3, .box 93 [.own 7]), (7, .map true false (.pair (.int .i64) (.pair (.int .i64) (.int .i64))) (.sl (.pair (.int .i64) (.pair (.int .i64) (.int .i64)))) st1)]) (gg := fun (st1 : (List ((Int × Int × Int) × (List (Int × Int × Int))))) => gt) (hx0 := (fun (r : Empty) => r.elim)) (gx := (fun (r : Empty) => r.elim)) (ex := (fun (r : Empty) => r.elim)) [] [] [] [(3, 1900)] [(1900, 3)] (by decide) rfl (by first | exact (ic_delay_accesses_circles x0 (delay_accesses_found_y1) [] hx2) | simpa only [go_sem] using (ic_delay_accesses_circles x0 (delay_accesses_found_y1) [] hx2)) (by (simp only [go_sem]) <;> (with_reducible and_intros) <;> first | assumption | rfl | omega | (unfold maxLen; omega)) rfl rfl rfl (fun _ => rfl) rfl (fun r => r.elim) rfl (fun r => r.elim) (fun r => r.elim) (fun _ => rfl) (fun _ => rfl) rfl (fun _ _ => by first | rfl | (exact (hΓ _).trans (hΓ _).symm) | (exact (hΓx _).trans (hΓ _).symm)) (fun _ r => r.elim) ?_ ?_
  ·intro lpy1 y1 st1 x3 h
   unfold delay_accesses_found_y1 at h
   refine zV [(3, .bp 1900 0), (10, .sl (.pair (.int .i64) (.pair (.int .i64) (.int .i64))) y1)] [(7, .map true false (.pair (.int .i64) (.pair (.int .i64) (.int .i64))) (.sl (.pair (.int .i64) (.pair (.int .i64) (.int .i64)))) st1), (1900, .box 93 [.own 7])] gt ?_
   refine AW.ops ?_
   refine zA [(3, .bp 1900 0), (4, .sl (.pair (.int .i64) (.pair (.int .i64) (.int .i64))) y1)] [(7, .map true false (.pair (.int .i64) (.pair (.int .i64) (.int .i64))) (.sl (.pair (.int .i64) (.pair (.int .i64) (.int .i64)))) st1), (1900, .box 93 [.own 7])] ?_
   refine And.intro rfl ?_
   refine AW.block ?_
   refine zo ?_
   refine zB [(3, .bp 1900 0), (4, .sl (.pair (.int .i64) (.pair (.int .i64) (.int .i64))) y1), (11, .sl (.pair (.int .i64) (.pair (.int .i64) (.int .i64))) y1), (12, .int .i64 (y1.length : Int)), (13, .int .i64 0)] [(7, .map true false (.pair (.int .i64) (.pair (.int .i64) (.int .i64))) (.sl (.pair (.int .i64) (.pair (.int .i64) (.int .i64)))) st1), (1900, .box 93 [.own 7])] ?_
   refine AW.block ?_
   obtain ⟨rv8, hw4, ho5⟩ := Option.bind_eq_some_iff.1 h
   refine AW.loopO (delay_accesses_found_b2 y1) (fun st2 => ⟨fr [(3, .bp 1900 0), (4, .sl (.pair (.int .i64) (.pair (.int .i64) (.int .i64))) y1), (11, .sl (.pair (.int .i64) (.pair (.int .i64) (.int .i64))) y1), (12, .int .i64 (y1.length : Int)), (13, .int .i64 st2.2)], hpGet [(7, .map true false (.pair (.int .i64) (.pair (.int .i64) (.int .i64))) (.sl (.pair (.int .i64) (.pair (.int .i64) (.int .i64)))) st2.1), (1900, .box 93 [.own 7])], gt⟩) (st1, 0) hw4 (zL [] [] []) ?_
   as_aux_lemma =>
    intro st2 x7 h hd6
    unfold delay_accesses_found_b2 at h
    refine zo ?_
    refine zB [(3, .bp 1900 0), (4, .sl (.pair (.int .i64) (.pair (.int .i64) (.int .i64))) y1), (11, .sl (.pair (.int .i64) (.pair (.int .i64) (.int .i64))) y1), (12, .int .i64 (y1.length : Int)), (13, .int .i64 st2.2), (14, .bool (decide (st2.2 < (y1.length : Int))))] [(7, .map true false (.pair (.int .i64) (.pair (.int .i64) (.int .i64))) (.sl (.pair (.int .i64) (.pair (.int .i64) (.int .i64)))) st2.1), (1900, .box 93 [.own 7])] ?_
    refine AW.seq ?_
    refine zQ h (fun hb9 h => ?_) (fun hb9 h => ?_)
    ·refine zk ?_
     refine AW.seq ?_
     refine AW.block ?_
     refine zo ?_
     obtain ⟨c10, h⟩ := ck_some.1 h
     obtain ⟨c11, h⟩ := ck_some.1 h
     refine zB [(3, .bp 1900 0), (4, .sl (.pair (.int .i64) (.pair (.int .i64) (.int .i64))) y1), (6, .bp 6 0), (11, .sl (.pair (.int .i64) (.pair (.int .i64) (.int .i64))) y1), (12, .int .i64 (y1.length : Int)), (13, .int .i64 st2.2)] [(6, .box 35 [.int .i64 (y1.getD st2.2.toNat (0, 0, 0)).1, .int .i64 (y1.getD st2.2.toNat (0, 0, 0)).2.1, .int .i64 (y1.getD st2.2.toNat (0, 0, 0)).2.2]), (7, .map true false (.pair (.int .i64) (.pair (.int .i64) (.int .i64))) (.sl (.pair (.int .i64) (.pair (.int .i64) (.int .i64)))) st2.1), (1900, .box 93 [.own 7])] ?_
     refine zo ?_
     refine zS 2 [(3, .bp 1900 0), (4, .sl (.pair (.int .i64) (.pair (.int .i64) (.int .i64))) y1), (6, .bp 6 0), (11, .sl (.pair (.int .i64) (.pair (.int .i64) (.int .i64))) y1), (12, .int .i64 (y1.length : Int)), (13, .int .i64 st2.2), (17, .own 7), (18, .agg [.int .i64 (y1.getD st2.2.toNat (0, 0, 0)).1, .int .i64 (y1.getD st2.2.toNat (0, 0, 0)).2.1, .int .i64 (y1.getD st2.2.toNat (0, 0, 0)).2.2])] [(6, .box 35 [.int .i64 (y1.getD st2.2.toNat (0, 0, 0)).1, .int .i64 (y1.getD st2.2.toNat (0, 0, 0)).2.1, .int .i64 (y1.getD st2.2.toNat (0, 0, 0)).2.2]), (7, .map true false (.pair (.int .i64) (.pair (.int .i64) (.int .i64))) (.sl (.pair (.int .i64) (.pair (.int .i64) (.int .i64)))) st2.1), (1900, .box 93 [.own 7])] ?_
     obtain ⟨c12, h⟩ := ck_some.1 h
     obtain ⟨c13, h⟩ := ck_some.1 h
     obtain ⟨c14, h⟩ := ck_some.1 h
     obtain ⟨c15, h⟩ := ck_some.1 h
     refine AO.lookupNil tab_ok mapty_93 (by decide) (by decide) rfl rfl rfl rfl (neg := false) rfl tab_30 rfl rfl (by first | rfl | (simp only [go_sem, hb9]) <;> (with_reducible and_intros) <;> first | assumption | rfl | omega | (unfold maxLen; omega)) (l := [.int .i64 (y1.getD st2.2.toNat (0, 0, 0)).1, .int .i64 (y1.getD st2.2.toNat (0, 0, 0)).2.1, .int .i64 (y1.getD st2.2.toNat (0, 0, 0)).2.2]) (by first | rfl | (simp only [go_sem, hb9]) <;> (with_reducible and_intros) <;> first | assumption | rfl | omega | (unfold maxLen; omega)) (by first | rfl | (simp only [go_sem, hb9]) <;> (with_reducible and_intros) <;> first | assumption | rfl | omega | (unfold maxLen; omega)) (by first | assumption | omega | (simp only [go_sem, hb9]) <;> (with_reducible and_intros) <;> first | assumption | rfl | omega | (unfold maxLen; omega)) rfl (by first | assumption | omega | (simp only [go_sem, hb9]) <;> (with_reducible and_intros) <;> first | assumption | rfl | omega | (unfold maxLen; omega)) ?_
     refine zT [(3, .bp 1900 0), (4, .sl (.pair (.int .i64) (.pair (.int .i64) (.int .i64))) y1), (6, .bp 6 0), (11, .sl (.pair (.int .i64) (.pair (.int .i64) (.int .i64))) y1), (12, .int .i64 (y1.length : Int)), (13, .int .i64 st2.2), (20, .bool (!(mhas st2.1 (y1.getD st2.2.toNat (0, 0, 0)))))] [(6, .box 35 [.int .i64 (y1.getD st2.2.toNat (0, 0, 0)).1, .int .i64 (y1.getD st2.2.toNat (0, 0, 0)).2.1, .int .i64 (y1.getD st2.2.toNat (0, 0, 0)).2.2]), (7, .map true false (.pair (.int .i64) (.pair (.int .i64) (.int .i64))) (.sl (.pair (.int .i64) (.pair (.int .i64) (.int .i64)))) st2.1), (1900, .box 93 [.own 7])] gt ?_
     refine zB [(3, .bp 1900 0), (4, .sl (.pair (.int .i64) (.pair (.int .i64) (.int .i64))) y1), (6, .bp 6 0), (11, .sl (.pair (.int .i64) (.pair (.int .i64) (.int .i64))) y1), (12, .int .i64 (y1.length : Int)), (13, .int .i64 st2.2), (20, .bool (!(mhas st2.1 (y1.getD st2.2.toNat (0, 0, 0)))))] [(6, .box 35 [.int .i64 (y1.getD st2.2.toNat (0, 0, 0)).1, .int .i64 (y1.getD st2.2.toNat (0, 0, 0)).2.1, .int .i64 (y1.getD st2.2.toNat (0, 0, 0)).2.2]), (7, .map true false (.pair (.int .i64) (.pair (.int .i64) (.int .i64))) (.sl (.pair (.int .i64) (.pair (.int .i64) (.int .i64)))) st2.1), (1900, .box 93 [.own 7])] ?_
     refine zQ h (fun hb16 h => ?_) (fun hb16 h => ?_)
     ·refine AW.ops ?_
      refine zS 3 [(3, .bp 1900 0), (4, .sl (.pair (.int .i64) (.pair (.int .i64) (.int .i64))) y1), (11, .sl (.pair (.int .i64) (.pair (.int .i64) (.int .i64))) y1), (12, .int .i64 (y1.length : Int)), (13, .int .i64 st2.2), (21, .own 7), (22, .agg [.int .i64 (y1.getD st2.2.toNat (0, 0, 0)).1, .int .i64 (y1.getD st2.2.toNat (0, 0, 0)).2.1, .int .i64 (y1.getD st2.2.toNat (0, 0, 0)).2.2]), (23, .sl (.pair (.int .i64) (.pair (.int .i64) (.int .i64))) y1)] [(7, .map true false (.pair (.int .i64) (.pair (.int .i64) (.int .i64))) (.sl (.pair (.int .i64) (.pair (.int .i64) (.int .i64)))) st2.1), (1900, .box 93 [.own 7])] ?_
      obtain ⟨c17, h⟩ := ck_some.1 h
      obtain ⟨c18, h⟩ := ck_some.1 h
      obtain ⟨c19, h⟩ := ck_some.1 h
      refine AO.mapPut mapty_93 (by decide) rfl (.inl rfl) rfl rfl (l := [.int .i64 (y1.getD st2.2.toNat (0, 0, 0)).1, .int .i64 (y1.getD st2.2.toNat (0, 0, 0)).2.1, .int .i64 (y1.getD st2.2.toNat (0, 0, 0)).2.2]) (by (simp only [go_sem, hb9, hb16]) <;> (with_reducible and_intros) <;> first | assumption | rfl | omega | (unfold maxLen; omega)) (by first | rfl | (simp only [go_sem, hb9, hb16]) <;> (with_reducible and_intros) <;> first | assumption | rfl | omega | (unfold maxLen; omega)) (by (simp only [go_sem, hb9, hb16]) <;> (with_reducible and_intros) <;> first | assumption | rfl | omega | (unfold maxLen; omega)) (lv := [.sl (.pair (.int .i64) (.pair (.int .i64) (.int .i64))) y1]) (by (simp only [go_sem, hb9, hb16]) <;> (with_reducible and_intros) <;> first | assumption | rfl | omega | (unfold maxLen; omega)) (by first | rfl | (simp only [go_sem, hb9, hb16]) <;> (with_reducible and_intros) <;> first | assumption | rfl | omega | (unfold maxLen; omega)) (.inr ⟨_, _, rfl⟩) ?_
      refine zT [(3, .bp 1900 0), (4, .sl (.pair (.int .i64) (.pair (.int .i64) (.int .i64))) y1), (11, .sl (.pair (.int .i64) (.pair (.int .i64) (.int .i64))) y1), (12, .int .i64 (y1.length : Int)), (13, .int .i64 st2.2)] [(7, .map true false (.pair (.int .i64) (.pair (.int .i64) (.int .i64))) (.sl (.pair (.int .i64) (.pair (.int .i64) (.int .i64)))) (mput st2.1 (y1.getD st2.2.toNat (0, 0, 0)) y1)), (1900, .box 93 [.own 7])] gt ?_
      refine zA [(3, .bp 1900 0), (4, .sl (.pair (.int .i64) (.pair (.int .i64) (.int .i64))) y1), (11, .sl (.pair (.int .i64) (.pair (.int .i64) (.int .i64))) y1), (12, .int .i64 (y1.length : Int)), (13, .int .i64 st2.2)] [(7, .map true false (.pair (.int .i64) (.pair (.int .i64) (.int .i64))) (.sl (.pair (.int .i64) (.pair (.int .i64) (.int .i64)))) (mput st2.1 (y1.getD st2.2.toNat (0, 0, 0)) y1)), (1900, .box 93 [.own 7])] ?_
      refine ablock_n ?_
      refine athen_n ?_
      refine AW.ops ?_
      obtain ⟨c20, h⟩ := ck_some.1 h
      refine zA [(3, .bp 1900 0), (4, .sl (.pair (.int .i64) (.pair (.int .i64) (.int .i64))) y1), (11, .sl (.pair (.int .i64) (.pair (.int .i64) (.int .i64))) y1), (12, .int .i64 (y1.length : Int)), (13, .int .i64 (st2.2 + 1))] [(7, .map true false (.pair (.int .i64) (.pair (.int .i64) (.int .i64))) (.sl (.pair (.int .i64) (.pair (.int .i64) (.int .i64)))) (mput st2.1 (y1.getD st2.2.toNat (0, 0, 0)) y1)), (1900, .box 93 [.own 7])] ?_
      obtain rfl := Option.some.inj h
      exact ⟨_, rfl, zL [] [] []⟩
     ·refine zm ?_
      refine athen_n ?_
      refine AW.ops ?_
      obtain ⟨c21, h⟩ := ck_some.1 h
      refine zA [(3, .bp 1900 0), (4, .sl (.pair (.int .i64) (.pair (.int .i64) (.int .i64))) y1), (11, .sl (.pair (.int .i64) (.pair (.int .i64) (.int .i64))) y1), (12, .int .i64 (y1.length : Int)), (13, .int .i64 (st2.2 + 1))] [(7, .map true false (.pair (.int .i64) (.pair (.int .i64) (.int .i64))) (.sl (.pair (.int .i64) (.pair (.int .i64) (.int .i64)))) st2.1), (1900, .box 93 [.own 7])] ?_
      obtain rfl := Option.some.inj h
      exact ⟨_, rfl, zL [] [] []⟩
    ·refine AW.exit ?_
     refine athen_e ?_
     obtain rfl := Option.some.inj h
     rw [← hd6 _ rfl] at ho5
     have h := ho5
     refine athen_e ?_
     refine ablock_s ?_
     refine ablock_n ?_
     obtain rfl := Option.some.inj h
     exact rpost_next rfl [] [] [] rfl (by (simp only [go_sem, hb9]) <;> (with_reducible and_intros) <;> first | assumption | rfl | omega | (unfold maxLen; omega))
  ·cases x1 with
   | inl st1_2 =>
    try simp only at h
    refine ablock_n ?_
    refine athen_n ?_
    exact AW.weaken (zL [] [] []) (hk_delay_accesses_found_k1 _ h)
   | inr rx =>
    exact rx.elim

end Go.Proofs.Ytdicomoggfhbfaa
