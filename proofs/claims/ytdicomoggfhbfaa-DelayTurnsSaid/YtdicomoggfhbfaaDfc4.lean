/-
  Made by wip/tool/dc.py out of the print of the program: contracts.
-/
import Derived.Test.YtdicomoggfhbfaaDlp
import Derived.Test.YtdicomoggfhbfaaShd
import Derived.Test.YtdicomoggfhbfaaAvd
import Derived.Test.YtdicomoggfhbfaaDfc1
import Derived.Test.YtdicomoggfhbfaaDfc2
namespace Go.Proofs.Ytdicomoggfhbfaa
open Go.RowKit

set_option linter.unusedSimpArgs false
set_option linter.unusedVariables false
set_option linter.constructorNameAsVariable false

set_option maxRecDepth 100000
set_option maxHeartbeats 40000000

theorem hc_slices_IndexFunc_5 (s : List (Int × Int × Int)) {r : Int} (h : slices_IndexFunc_5 s = some r) : HC Try.prog 116 [(1000, .arr 35 (.pair (.int .i64) (.pair (.int .i64) (.int .i64))) s)] [.own 1000, .fn (.func 110) [] []] [(1000, .arr 35 (.pair (.int .i64) (.pair (.int .i64) (.int .i64))) s)] (.int .i64 r) := by
 unfold slices_IndexFunc_5 at h
 refine zH Try.func116 [.tmp 4] 19 ?_
 refine zo ?_
 refine zB [(0, .own 1000), (1, .fn (.func 110) [] [])] [(1000, .arr 35 (.pair (.int .i64) (.pair (.int .i64) (.int .i64))) s)] ?_
 refine AW.have1 (fun _ : Unit => slices_IndexFunc_5_k1 = some r) (fun _ => ⟨fr [], hpGet [(1000, .arr 35 (.pair (.int .i64) (.pair (.int .i64) (.int .i64))) s)], gt⟩) (fun _ h => ?_) (fun hk_slices_IndexFunc_5_k1 => ?_)
 ·as_aux_lemma =>
   unfold slices_IndexFunc_5_k1 at h
   refine zo ?_
   refine zB [(4, .int .i64 (-1))] [(1000, .arr 35 (.pair (.int .i64) (.pair (.int .i64) (.int .i64))) s)] ?_
   refine AW.ret ?_
   obtain rfl := Option.some.inj h
   exact zR [] [] []
 ·refine AW.seq ?_
  refine zo ?_
  refine zB [(0, .own 1000), (1, .fn (.func 110) [] []), (7, .int .i64 (s.length : Int)), (8, .int .i64 0)] [(1000, .arr 35 (.pair (.int .i64) (.pair (.int .i64) (.int .i64))) s)] ?_
  refine AW.block ?_
  obtain ⟨rv5, hw1, ho2⟩ := Option.bind_eq_some_iff.1 h
  refine AW.loopO (slices_IndexFunc_5_b1 s) (fun st1 => ⟨fr [(0, .own 1000), (1, .fn (.func 110) [] []), (7, .int .i64 (s.length : Int)), (8, .int .i64 st1)], hpGet [(1000, .arr 35 (.pair (.int .i64) (.pair (.int .i64) (.int .i64))) s)], gt⟩) 0 hw1 (zL [] [] []) ?_
  as_aux_lemma =>
   intro st1 x4 h hd3
   unfold slices_IndexFunc_5_b1 at h
   refine zo ?_
   refine zB [(0, .own 1000), (1, .fn (.func 110) [] []), (7, .int .i64 (s.length : Int)), (8, .int .i64 st1), (9, .bool (decide (st1 < (s.length : Int))))] [(1000, .arr 35 (.pair (.int .i64) (.pair (.int .i64) (.int .i64))) s)] ?_
   refine AW.seq ?_
   refine zQ h (fun hb6 h => ?_) (fun hb6 h => ?_)
   ·refine zk ?_
    refine AW.seq ?_
    refine AW.block ?_
    refine zo ?_
    refine zB [(0, .own 1000), (1, .fn (.func 110) [] []), (5, .int .i64 st1), (7, .int .i64 (s.length : Int)), (8, .int .i64 st1)] [(1000, .arr 35 (.pair (.int .i64) (.pair (.int .i64) (.int .i64))) s)] ?_
    refine zo ?_
    obtain ⟨c7, h⟩ := ck_some.1 h
    obtain ⟨c8, h⟩ := ck_some.1 h
    refine zS 5 [(0, .own 1000), (1, .fn (.func 110) [] []), (5, .int .i64 st1), (7, .int .i64 (s.length : Int)), (8, .int .i64 st1), (11, .fn (.func 110) [] []), (15, .agg [.int .i64 (s.getD st1.toNat (0, 0, 0)).1, .int .i64 (s.getD st1.toNat (0, 0, 0)).2.1, .int .i64 (s.getD st1.toNat (0, 0, 0)).2.2])] [(1000, .arr 35 (.pair (.int .i64) (.pair (.int .i64) (.int .i64))) s)] ?_
    obtain ⟨v0, hv9, h⟩ := Option.bind_eq_some_iff.1 h
    refine zC [] [] (hc_delay_isOne (s.getD st1.toNat (0, 0, 0)) hv9) [(0, .own 1000), (1, .fn (.func 110) [] []), (5, .int .i64 st1), (7, .int .i64 (s.length : Int)), (8, .int .i64 st1), (16, .bool (decide ((s.getD st1.toNat (0, 0, 0)).2.1 = (s.getD st1.toNat (0, 0, 0)).2.2)))] [(1000, .arr 35 (.pair (.int .i64) (.pair (.int .i64) (.int .i64))) s)] ?_
    refine zB [(0, .own 1000), (1, .fn (.func 110) [] []), (5, .int .i64 st1), (7, .int .i64 (s.length : Int)), (8, .int .i64 st1), (16, .bool (decide ((s.getD st1.toNat (0, 0, 0)).2.1 = (s.getD st1.toNat (0, 0, 0)).2.2)))] [(1000, .arr 35 (.pair (.int .i64) (.pair (.int .i64) (.int .i64))) s)] ?_
    refine zQ h (fun hb10 h => ?_) (fun hb10 h => ?_)
    ·refine zo ?_
     refine zB [(4, .int .i64 st1)] [(1000, .arr 35 (.pair (.int .i64) (.pair (.int .i64) (.int .i64))) s)] ?_
     refine AW.ret ?_
     refine ablock_r ?_
     refine athen_r ?_
     obtain rfl := Option.some.inj h
     rw [← hd3 _ rfl] at ho2
     have h := ho2
     try simp only at h
     refine athen_r ?_
     refine ablock_r ?_
     refine athen_r ?_
     obtain rfl := Option.some.inj h
     exact zR [] [] []
    ·refine zm ?_
     refine athen_n ?_
     refine AW.ops ?_
     obtain ⟨c11, h⟩ := ck_some.1 h
     refine zA [(0, .own 1000), (1, .fn (.func 110) [] []), (7, .int .i64 (s.length : Int)), (8, .int .i64 (st1 + 1))] [(1000, .arr 35 (.pair (.int .i64) (.pair (.int .i64) (.int .i64))) s)] ?_
     obtain rfl := Option.some.inj h
     exact ⟨_, rfl, zL [] [] []⟩
   ·refine AW.exit ?_
    refine athen_e ?_
    obtain rfl := Option.some.inj h
    try rw [← hd3 _ rfl] at ho2
    have h := ho2
    try simp only at h
    refine athen_e ?_
    refine ablock_s ?_
    refine athen_n ?_
    exact AW.weaken (zL [] [] []) (hk_slices_IndexFunc_5_k1 () h)

theorem hc_slices_DeleteFunc (s : List (Int × Int × Int)) {r : (List (Int × Int × Int))} (h : slices_DeleteFunc s = some r) : HC Try.prog 80 [(1000, .arr 35 (.pair (.int .i64) (.pair (.int .i64) (.int .i64))) s)] [.own 1000, .fn (.func 110) [] []] [(2000, .arr 35 (.pair (.int .i64) (.pair (.int .i64) (.int .i64))) r)] (.own 2000) := by
 unfold slices_DeleteFunc at h
 refine zH Try.func80 [.tmp 4] 42 ?_
 refine zo ?_
 refine zB [(0, .own 1000), (1, .fn (.func 110) [] [])] [(1000, .arr 35 (.pair (.int .i64) (.pair (.int .i64) (.int .i64))) s)] ?_
 refine zo ?_
 refine zS 2 [(0, .own 1000), (1, .fn (.func 110) [] []), (8, .own 1000), (9, .fn (.func 110) [] [])] [(1000, .arr 35 (.pair (.int .i64) (.pair (.int .i64) (.int .i64))) s)] ?_
 obtain ⟨v0, hv1, h⟩ := Option.bind_eq_some_iff.1 h
 refine zC [] [(1000, 1000)] (hc_slices_IndexFunc_5 s hv1) [(0, .own 1000), (1, .fn (.func 110) [] []), (10, .int .i64 v0)] [(1000, .arr 35 (.pair (.int .i64) (.pair (.int .i64) (.int .i64))) s)] ?_
 refine zB [(0, .own 1000), (1, .fn (.func 110) [] []), (5, .int .i64 v0)] [(1000, .arr 35 (.pair (.int .i64) (.pair (.int .i64) (.int .i64))) s)] ?_
 refine AW.seq ?_
 refine zo ?_
 refine zB [(0, .own 1000), (1, .fn (.func 110) [] []), (5, .int .i64 v0), (12, .bool (decide (v0 = (-1))))] [(1000, .arr 35 (.pair (.int .i64) (.pair (.int .i64) (.int .i64))) s)] ?_
 refine zQ h (fun hb2 h => ?_) (fun hb2 h => ?_)
 ·refine zo ?_
  refine zB [(4, .own 1000)] [(1000, .arr 35 (.pair (.int .i64) (.pair (.int .i64) (.int .i64))) s)] ?_
  refine zr ?_
  obtain rfl := Option.some.inj h
  exact zR [] [] [(2000, 1000)]
 ·refine zk ?_
  refine AW.have1 (fun b1 : (List (Int × Int × Int)) × Int => slices_DeleteFunc_k1 b1 = some r) (fun b1 => ⟨fr [(0, .own 1000), (5, .int .i64 b1.2)], hpGet [(1000, .arr 35 (.pair (.int .i64) (.pair (.int .i64) (.int .i64))) b1.1)], gt⟩) (fun b1 h => ?_) (fun hk_slices_DeleteFunc_k1 => ?_)
  ·as_aux_lemma =>
    unfold slices_DeleteFunc_k1 at h
    refine zo ?_
    refine zS 2 [(0, .own 1000), (5, .int .i64 b1.2), (36, .own 1000), (37, .int .i64 b1.2)] [(1000, .arr 35 (.pair (.int .i64) (.pair (.int .i64) (.int .i64))) b1.1)] ?_
    obtain ⟨c3, h⟩ := ck_some.1 h
    obtain ⟨c4, h⟩ := ck_some.1 h
    refine AO.sliceView tab_ok (by decide) rfl rfl tab_30 rfl tab_35 rfl rfl rfl (b1.2) ((b1.1.length : Int)) (by first | assumption | omega | (simp only [go_sem, hb2]) <;> (with_reducible and_intros) <;> first | assumption | rfl | omega | (unfold maxLen; omega)) (by first | assumption | omega | (simp only [go_sem, hb2]) <;> (with_reducible and_intros) <;> first | assumption | rfl | omega | (unfold maxLen; omega)) (by first | assumption | omega | (simp only [go_sem, hb2]) <;> (with_reducible and_intros) <;> first | assumption | rfl | omega | (unfold maxLen; omega)) (.inr ⟨_, _, rfl, rfl⟩) (.inl ⟨rfl, rfl⟩) ?_
    refine zT [(0, .own 1000), (5, .int .i64 b1.2), (38, .vw 1000 3 b1.2.toNat ((b1.1.length : Int) - b1.2).toNat)] [(1000, .arr 35 (.pair (.int .i64) (.pair (.int .i64) (.int .i64))) b1.1)] gt ?_
    obtain ⟨c5, h⟩ := ck_some.1 h
    obtain ⟨c6, h⟩ := ck_some.1 h
    refine AO.clearView tab_ok (by decide) rfl rfl rfl rfl rfl tab_30 rfl tab_35 rfl rfl rfl (by first | assumption | omega | (simp only [go_sem, hb2]) <;> (with_reducible and_intros) <;> first | assumption | rfl | omega | (unfold maxLen; omega)) (by first | assumption | omega | (simp only [go_sem, hb2]) <;> (with_reducible and_intros) <;> first | assumption | rfl | omega | (unfold maxLen; omega)) ?_
    refine zT [(0, .own 1000), (5, .int .i64 b1.2)] [(1000, .arr 35 (.pair (.int .i64) (.pair (.int .i64) (.int .i64))) (((b1.1.take b1.2.toNat) ++ (List.replicate ((b1.1.length : Int) - b1.2).toNat ((0, 0, 0) : Int × Int × Int))) ++ (b1.1.drop (b1.2.toNat + ((b1.1.length : Int) - b1.2).toNat))))] gt ?_
    refine zB [(0, .own 1000), (5, .int .i64 b1.2)] [(1000, .arr 35 (.pair (.int .i64) (.pair (.int .i64) (.int .i64))) (((b1.1.take b1.2.toNat) ++ (List.replicate ((b1.1.length : Int) - b1.2).toNat ((0, 0, 0) : Int × Int × Int))) ++ (b1.1.drop (b1.2.toNat + ((b1.1.length : Int) - b1.2).toNat))))] ?_
    refine zo ?_
    refine zS 2 [(39, .own 1000), (40, .int .i64 b1.2)] [(1000, .arr 35 (.pair (.int .i64) (.pair (.int .i64) (.int .i64))) (((b1.1.take b1.2.toNat) ++ (List.replicate ((b1.1.length : Int) - b1.2).toNat ((0, 0, 0) : Int × Int × Int))) ++ (b1.1.drop (b1.2.toNat + ((b1.1.length : Int) - b1.2).toNat))))] ?_
    obtain ⟨c7, h⟩ := ck_some.1 h
    obtain ⟨c8, h⟩ := ck_some.1 h
    refine AO.sliceOwn tab_ok (by decide) (by decide) rfl rfl tab_30 rfl tab_35 rfl rfl rfl rfl (by first | assumption | omega | (simp only [go_sem, hb2]) <;> (with_reducible and_intros) <;> first | assumption | rfl | omega | (unfold maxLen; omega)) (by first | assumption | omega | (simp only [go_sem, hb2]) <;> (with_reducible and_intros) <;> first | assumption | rfl | omega | (unfold maxLen; omega)) ?_
    refine zT [(41, .own 41)] [(41, .arr 35 (.pair (.int .i64) (.pair (.int .i64) (.int .i64))) ((((b1.1.take b1.2.toNat) ++ (List.replicate ((b1.1.length : Int) - b1.2).toNat ((0, 0, 0) : Int × Int × Int))) ++ (b1.1.drop (b1.2.toNat + ((b1.1.length : Int) - b1.2).toNat))).take b1.2.toNat))] gt ?_
    refine zB [(4, .own 41)] [(41, .arr 35 (.pair (.int .i64) (.pair (.int .i64) (.int .i64))) ((((b1.1.take b1.2.toNat) ++ (List.replicate ((b1.1.length : Int) - b1.2).toNat ((0, 0, 0) : Int × Int × Int))) ++ (b1.1.drop (b1.2.toNat + ((b1.1.length : Int) - b1.2).toNat))).take b1.2.toNat))] ?_
    refine AW.ret ?_
    obtain rfl := Option.some.inj h
    exact zR [] [] [(2000, 41)]
  ·refine AW.seq ?_
   refine zo ?_
   obtain ⟨c9, h⟩ := ck_some.1 h
   refine zB [(0, .own 1000), (1, .fn (.func 110) [] []), (5, .int .i64 v0), (6, .int .i64 (v0 + 1))] [(1000, .arr 35 (.pair (.int .i64) (.pair (.int .i64) (.int .i64))) s)] ?_
   refine AW.block ?_
   obtain ⟨rv14, hw10, ho11⟩ := Option.bind_eq_some_iff.1 h
   refine AW.loopO (slices_DeleteFunc_b1) (fun st1 => ⟨fr [(0, .own 1000), (1, .fn (.func 110) [] []), (5, .int .i64 st1.2.1), (6, .int .i64 st1.2.2)], hpGet [(1000, .arr 35 (.pair (.int .i64) (.pair (.int .i64) (.int .i64))) st1.1)], gt⟩) (s, v0, (v0 + 1)) hw10 (zL [] [] []) ?_
   as_aux_lemma =>
    intro st1 x13 h hd12
    unfold slices_DeleteFunc_b1 at h
    refine AW.seq ?_
    refine zo ?_
    refine zB [(0, .own 1000), (1, .fn (.func 110) [] []), (5, .int .i64 st1.2.1), (6, .int .i64 st1.2.2), (19, .bool (decide (st1.2.2 < (st1.1.length : Int))))] [(1000, .arr 35 (.pair (.int .i64) (.pair (.int .i64) (.int .i64))) st1.1)] ?_
    refine zQ h (fun hb15 h => ?_) (fun hb15 h => ?_)
    ·refine zk ?_
     refine AW.seq ?_
     refine AW.block ?_
     refine zo ?_
     obtain ⟨c16, h⟩ := ck_some.1 h
     obtain ⟨c17, h⟩ := ck_some.1 h
     refine zS 5 [(0, .own 1000), (1, .fn (.func 110) [] []), (5, .int .i64 st1.2.1), (6, .int .i64 st1.2.2), (7, .bp 7 0), (25, .agg [.int .i64 (st1.1.getD st1.2.2.toNat (0, 0, 0)).1, .int .i64 (st1.1.getD st1.2.2.toNat (0, 0, 0)).2.1, .int .i64 (st1.1.getD st1.2.2.toNat (0, 0, 0)).2.2])] [(7, .box 35 [.int .i64 0, .int .i64 0, .int .i64 0]), (1000, .arr 35 (.pair (.int .i64) (.pair (.int .i64) (.int .i64))) st1.1)] ?_
     refine zB [(0, .own 1000), (1, .fn (.func 110) [] []), (5, .int .i64 st1.2.1), (6, .int .i64 st1.2.2), (7, .bp 7 0)] [(7, .box 35 [.int .i64 (st1.1.getD st1.2.2.toNat (0, 0, 0)).1, .int .i64 (st1.1.getD st1.2.2.toNat (0, 0, 0)).2.1, .int .i64 (st1.1.getD st1.2.2.toNat (0, 0, 0)).2.2]), (1000, .arr 35 (.pair (.int .i64) (.pair (.int .i64) (.int .i64))) st1.1)] ?_
     refine zo ?_
     refine zS 2 [(0, .own 1000), (1, .fn (.func 110) [] []), (5, .int .i64 st1.2.1), (6, .int .i64 st1.2.2), (7, .bp 7 0), (26, .fn (.func 110) [] []), (27, .agg [.int .i64 (st1.1.getD st1.2.2.toNat (0, 0, 0)).1, .int .i64 (st1.1.getD st1.2.2.toNat (0, 0, 0)).2.1, .int .i64 (st1.1.getD st1.2.2.toNat (0, 0, 0)).2.2])] [(7, .box 35 [.int .i64 (st1.1.getD st1.2.2.toNat (0, 0, 0)).1, .int .i64 (st1.1.getD st1.2.2.toNat (0, 0, 0)).2.1, .int .i64 (st1.1.getD st1.2.2.toNat (0, 0, 0)).2.2]), (1000, .arr 35 (.pair (.int .i64) (.pair (.int .i64) (.int .i64))) st1.1)] ?_
     obtain ⟨v0_2, hv18, h⟩ := Option.bind_eq_some_iff.1 h
     refine zC [] [] (hc_delay_isOne (st1.1.getD st1.2.2.toNat (0, 0, 0)) hv18) [(0, .own 1000), (1, .fn (.func 110) [] []), (5, .int .i64 st1.2.1), (6, .int .i64 st1.2.2), (7, .bp 7 0), (28, .bool (decide ((st1.1.getD st1.2.2.toNat (0, 0, 0)).2.1 = (st1.1.getD st1.2.2.toNat (0, 0, 0)).2.2)))] [(7, .box 35 [.int .i64 (st1.1.getD st1.2.2.toNat (0, 0, 0)).1, .int .i64 (st1.1.getD st1.2.2.toNat (0, 0, 0)).2.1, .int .i64 (st1.1.getD st1.2.2.toNat (0, 0, 0)).2.2]), (1000, .arr 35 (.pair (.int .i64) (.pair (.int .i64) (.int .i64))) st1.1)] ?_
     refine zB [(0, .own 1000), (1, .fn (.func 110) [] []), (5, .int .i64 st1.2.1), (6, .int .i64 st1.2.2), (7, .bp 7 0), (29, .bool (!(decide ((st1.1.getD st1.2.2.toNat (0, 0, 0)).2.1 = (st1.1.getD st1.2.2.toNat (0, 0, 0)).2.2))))] [(7, .box 35 [.int .i64 (st1.1.getD st1.2.2.toNat (0, 0, 0)).1, .int .i64 (st1.1.getD st1.2.2.toNat (0, 0, 0)).2.1, .int .i64 (st1.1.getD st1.2.2.toNat (0, 0, 0)).2.2]), (1000, .arr 35 (.pair (.int .i64) (.pair (.int .i64) (.int .i64))) st1.1)] ?_
     refine zQ h (fun hb19 h => ?_) (fun hb19 h => ?_)
     ·refine zo ?_
      obtain ⟨c20, h⟩ := ck_some.1 h
      obtain ⟨c21, h⟩ := ck_some.1 h
      refine zB [(0, .own 1000), (1, .fn (.func 110) [] []), (5, .int .i64 st1.2.1), (6, .int .i64 st1.2.2)] [(1000, .arr 35 (.pair (.int .i64) (.pair (.int .i64) (.int .i64))) (st1.1.set st1.2.1.toNat (st1.1.getD st1.2.2.toNat (0, 0, 0))))] ?_
      refine AW.ops ?_
      obtain ⟨c22, h⟩ := ck_some.1 h
      refine zA [(0, .own 1000), (1, .fn (.func 110) [] []), (5, .int .i64 (st1.2.1 + 1)), (6, .int .i64 st1.2.2)] [(1000, .arr 35 (.pair (.int .i64) (.pair (.int .i64) (.int .i64))) (st1.1.set st1.2.1.toNat (st1.1.getD st1.2.2.toNat (0, 0, 0))))] ?_
      refine ablock_n ?_
      refine athen_n ?_
      refine AW.ops ?_
      obtain ⟨c23, h⟩ := ck_some.1 h
      refine zA [(0, .own 1000), (1, .fn (.func 110) [] []), (5, .int .i64 (st1.2.1 + 1)), (6, .int .i64 (st1.2.2 + 1))] [(1000, .arr 35 (.pair (.int .i64) (.pair (.int .i64) (.int .i64))) (st1.1.set st1.2.1.toNat (st1.1.getD st1.2.2.toNat (0, 0, 0))))] ?_
      obtain rfl := Option.some.inj h
      exact ⟨_, rfl, zL [] [] []⟩
     ·refine zm ?_
      refine athen_n ?_
      refine AW.ops ?_
      obtain ⟨c24, h⟩ := ck_some.1 h
      refine zA [(0, .own 1000), (1, .fn (.func 110) [] []), (5, .int .i64 st1.2.1), (6, .int .i64 (st1.2.2 + 1))] [(1000, .arr 35 (.pair (.int .i64) (.pair (.int .i64) (.int .i64))) st1.1)] ?_
      obtain rfl := Option.some.inj h
      exact ⟨_, rfl, zL [] [] []⟩
    ·refine AW.exit ?_
     refine athen_e ?_
     obtain rfl := Option.some.inj h
     rw [← hd12 _ rfl] at ho11
     have h := ho11
     refine athen_e ?_
     refine ablock_s ?_
     refine athen_n ?_
     exact AW.weaken (zL [] [] []) (hk_slices_DeleteFunc_k1 _ h)

theorem hc_delay_accesses_pairs (x0 : List (List (Int × Bool))) {r : (List (Int × Int × Int))} (h : delay_accesses_pairs x0 = some r) : HC Try.prog 69 [] [.sl (.sl (.pair (.int .i64) .bool)) x0] [(2000, .arr 35 (.pair (.int .i64) (.pair (.int .i64) (.int .i64))) r)] (.own 2000) := by
 unfold delay_accesses_pairs at h
 refine zH Try.func69 [.tmp 2] 6 ?_
 refine zo ?_
 refine zB [(0, .sl (.sl (.pair (.int .i64) .bool)) x0)] [] ?_
 refine zo ?_
 refine zS 1 [(3, .sl (.sl (.pair (.int .i64) .bool)) x0)] [] ?_
 obtain ⟨v0, hv1, h⟩ := Option.bind_eq_some_iff.1 h
 refine zC [] [] (hc_delay_accesses_stations x0 hv1) [(4, .own 14000)] [(14000, .arr 35 (.pair (.int .i64) (.pair (.int .i64) (.int .i64))) v0)] ?_
 obtain ⟨v0_2, hv2, h⟩ := Option.bind_eq_some_iff.1 h
 refine zC [] [(1000, 14000)] (hc_slices_DeleteFunc v0 hv2) [(5, .own 15000)] [(15000, .arr 35 (.pair (.int .i64) (.pair (.int .i64) (.int .i64))) v0_2)] ?_
 refine zB [(2, .own 15000)] [(15000, .arr 35 (.pair (.int .i64) (.pair (.int .i64) (.int .i64))) v0_2)] ?_
 refine AW.ret ?_
 obtain rfl := Option.some.inj h
 exact zR [] [] [(2000, 15000)]

theorem hc_slices_Clone (s : List (Int × Bool)) {r : (List (Int × Bool))} (h : slices_Clone s = some r) : HC Try.prog 102 [] [.sl (.pair (.int .i64) .bool) s] [(2000, .arr 76 (.pair (.int .i64) .bool) r)] (.own 2000) := by
 unfold slices_Clone at h
 refine zH Try.func102 [.tmp 2] 8 ?_
 refine zo ?_
 refine zB [(0, .sl (.pair (.int .i64) .bool) s)] [] ?_
 refine AW.seq ?_
 refine zo ?_
 refine zS 1 [(0, .sl (.pair (.int .i64) .bool) s), (3, .sl (.pair (.int .i64) .bool) s)] [] ?_
 refine AO.nilEq (neg := false) tab_ok (by decide) rfl rfl tab_68 rfl rfl rfl (fun hnil1 => ?_) ?_
 ·have h : (some []) = some r := by
   first | (simp only [hnil1] at h ⊢; simpa [ck] using h) | (simp [hnil1, ck] at h ⊢; first | done | exact h)
  refine zT [(0, .sl (.pair (.int .i64) .bool) s), (4, .bool true)] [] gt ?_
  refine zB [(0, .sl (.pair (.int .i64) .bool) s), (4, .bool true)] [] ?_
  refine AW.cond (b := true) rfl (fun _ => ?_) (fun hb2 => by cases hb2)
  refine zo ?_
  refine zB [(2, .cv (.slice none 0 0))] [] ?_
  refine zr ?_
  obtain rfl := Option.some.inj h
  exact zR [] [2000] []
 ·refine zT [(0, .sl (.pair (.int .i64) .bool) s), (4, .bool false)] [] gt ?_
  refine zB [(0, .sl (.pair (.int .i64) .bool) s), (4, .bool false)] [] ?_
  refine AW.cond (b := false) rfl (fun hb3 => by cases hb3) (fun _ => ?_)
  refine zk ?_
  refine zo ?_
  obtain ⟨c4, h⟩ := ck_some.1 h
  refine zB [(2, .own 7)] [(7, .arr 76 (.pair (.int .i64) .bool) s)] ?_
  refine AW.ret ?_
  obtain rfl := Option.some.inj h
  exact zR [] [] [(2000, 7)]

theorem hc_slices_Reverse (s : List (Int × Bool)) {r : (List (Int × Bool))} (h : slices_Reverse s = some r) : HC Try.prog 103 [(1000, .arr 76 (.pair (.int .i64) .bool) s)] [.own 1000] [(1000, .arr 76 (.pair (.int .i64) .bool) r)] (.tup []) := by
 unfold slices_Reverse at h
 refine zH Try.func103 [] 28 ?_
 refine zo ?_
 obtain ⟨c1, h⟩ := ck_some.1 h
 refine zB [(0, .own 1000), (2, .int .i64 0), (3, .int .i64 ((s.length : Int) - 1))] [(1000, .arr 76 (.pair (.int .i64) .bool) s)] ?_
 refine AW.block ?_
 obtain ⟨rv6, hw2, ho3⟩ := Option.bind_eq_some_iff.1 h
 refine AW.loopO (slices_Reverse_b1) (fun st1 => ⟨fr [(0, .own 1000), (2, .int .i64 st1.2.1), (3, .int .i64 st1.2.2)], hpGet [(1000, .arr 76 (.pair (.int .i64) .bool) st1.1)], gt⟩) (s, 0, ((s.length : Int) - 1)) hw2 (zL [] [] []) ?_
 as_aux_lemma =>
  intro st1 x5 h hd4
  unfold slices_Reverse_b1 at h
  refine AW.seq ?_
  refine zo ?_
  refine zB [(0, .own 1000), (2, .int .i64 st1.2.1), (3, .int .i64 st1.2.2), (9, .bool (decide (st1.2.1 < st1.2.2)))] [(1000, .arr 76 (.pair (.int .i64) .bool) st1.1)] ?_
  refine zQ h (fun hb7 h => ?_) (fun hb7 h => ?_)
  ·refine zk ?_
   refine AW.seq ?_
   refine AW.block ?_
   refine AW.draw tab_ok mixed_ok [(13, [1000]), (15, [1000])] [(2, [1000]), (3, []), (100013, []), (100015, [])] (by decide) (lex_fast (by kernel_rfl)) ?_
   as_aux_lemma =>
    refine adops_cut 6 (fun K' hK8 => ?_)
    try dsimp only [List.drop_succ_cons, List.drop_zero, List.take_succ_cons, List.take_zero]
    simp only [go_sem, hb7]
    repeat with_reducible refine zN ?_
    refine hK8 _ ?_
    as_aux_lemma =>
     obtain ⟨c10, h⟩ := ck_some.1 h
     obtain ⟨c11, h⟩ := ck_some.1 h
     obtain ⟨c12, h⟩ := ck_some.1 h
     obtain ⟨c13, h⟩ := ck_some.1 h
     refine adops_cut 6 (fun K' hK9 => ?_)
     try dsimp only [List.drop_succ_cons, List.drop_zero, List.take_succ_cons, List.take_zero]
     simp only [go_sem, hb7]
     repeat with_reducible refine zN ?_
     refine hK9 _ ?_
     as_aux_lemma =>
      obtain ⟨c15, h⟩ := ck_some.1 h
      obtain ⟨c16, h⟩ := ck_some.1 h
      obtain ⟨c17, h⟩ := ck_some.1 h
      obtain ⟨c18, h⟩ := ck_some.1 h
      refine adops_cut 4 (fun K' hK14 => ?_)
      try dsimp only [List.drop_succ_cons, List.drop_zero, List.take_succ_cons, List.take_zero]
      simp only [go_sem, hb7]
      repeat with_reducible refine zN ?_
      refine hK14 _ ?_
      refine adops_nil ?_
      refine ablock_n ?_
      refine athen_n ?_
      refine zV [(0, .own 1000), (2, .int .i64 st1.2.1), (3, .int .i64 st1.2.2)] [(1000, .arr 76 (.pair (.int .i64) .bool) ((st1.1.set st1.2.1.toNat (st1.1.getD st1.2.2.toNat (0, false))).set st1.2.2.toNat (st1.1.getD st1.2.1.toNat (0, false))))] gt ?_
      as_aux_lemma =>
       refine AW.ops ?_
       obtain ⟨c19, h⟩ := ck_some.1 h
       obtain ⟨c20, h⟩ := ck_some.1 h
       refine zS 5 [(0, .own 1000), (2, .int .i64 (st1.2.1 + 1)), (13, .int .i64 (st1.2.2 - 1))] [(1000, .arr 76 (.pair (.int .i64) .bool) ((st1.1.set st1.2.1.toNat (st1.1.getD st1.2.2.toNat (0, false))).set st1.2.2.toNat (st1.1.getD st1.2.1.toNat (0, false))))] ?_
       refine zA [(0, .own 1000), (2, .int .i64 (st1.2.1 + 1)), (3, .int .i64 (st1.2.2 - 1))] [(1000, .arr 76 (.pair (.int .i64) .bool) ((st1.1.set st1.2.1.toNat (st1.1.getD st1.2.2.toNat (0, false))).set st1.2.2.toNat (st1.1.getD st1.2.1.toNat (0, false))))] ?_
       obtain rfl := Option.some.inj h
       exact ⟨_, rfl, zL [] [] []⟩
  ·refine AW.exit ?_
   refine athen_e ?_
   obtain rfl := Option.some.inj h
   rw [← hd4 _ rfl] at ho3
   have h := ho3
   refine athen_e ?_
   refine ablock_s ?_
   obtain rfl := Option.some.inj h
   exact zR [] [] []

theorem hc_delay_Turned (x0 : List (List (Int × Bool))) {r : (List (List (Int × Bool))) × Int} (h : delay_Turned x0 = some r) : HC Try.prog 51 [] [.sl (.sl (.pair (.int .i64) .bool)) x0] [(2000, .arr 68 (.sl (.pair (.int .i64) .bool)) r.1)] (.tup [.own 2000, .int .i64 r.2]) := by
 unfold delay_Turned at h
 refine zH Try.func51 [.tmp 2, .tmp 3] 26 ?_
 refine zo ?_
 refine zB [(0, .sl (.sl (.pair (.int .i64) .bool)) x0)] [] ?_
 refine AW.seq ?_
 refine zo ?_
 refine zS 1 [(0, .sl (.sl (.pair (.int .i64) .bool)) x0), (7, .sl (.sl (.pair (.int .i64) .bool)) x0)] [] ?_
 obtain ⟨v0, hv1, h⟩ := Option.bind_eq_some_iff.1 h
 refine zC [] [] (hc_delay_Valid x0 hv1) [(0, .sl (.sl (.pair (.int .i64) .bool)) x0), (8, .bool v0)] [] ?_
 refine zB [(0, .sl (.sl (.pair (.int .i64) .bool)) x0), (9, .bool (!v0))] [] ?_
 refine zQ h (fun hb2 h => ?_) (fun hb2 h => ?_)
 ·refine zo ?_
  refine zB [(2, .cv (.slice none 0 0)), (3, .int .i64 90)] [] ?_
  refine zr ?_
  obtain rfl := Option.some.inj h
  exact zR [] [2000] []
 ·refine zk ?_
  refine zo ?_
  refine zB [(0, .sl (.sl (.pair (.int .i64) .bool)) x0), (4, .cv (.slice none 0 0))] [] ?_
  refine AW.have1 (fun b1 : (List (List (Int × Bool))) => delay_Turned_k1 b1 = some r) (fun b1 => ⟨fr [(4, .own 23)], hpGet [(23, .arr 68 (.sl (.pair (.int .i64) .bool)) b1)], gt⟩) (fun b1 h => ?_) (fun hk_delay_Turned_k1 => ?_)
  ·as_aux_lemma =>
    unfold delay_Turned_k1 at h
    refine zo ?_
    refine zB [(2, .own 23), (3, .int .i64 0)] [(23, .arr 68 (.sl (.pair (.int .i64) .bool)) b1)] ?_
    refine AW.ret ?_
    obtain rfl := Option.some.inj h
    exact zR [] [] [(2000, 23)]
  ·refine AW.seq ?_
   refine zo ?_
   refine zB [(4, .cv (.slice none 0 0)), (10, .sl (.sl (.pair (.int .i64) .bool)) x0), (11, .int .i64 (x0.length : Int)), (12, .int .i64 0)] [] ?_
   refine AW.block ?_
   obtain ⟨rv7, hw3, ho4⟩ := Option.bind_eq_some_iff.1 h
   refine AW.loopO (delay_Turned_b1 x0) (fun st1 => ⟨fr [(4, .own 23), (10, .sl (.sl (.pair (.int .i64) .bool)) x0), (11, .int .i64 (x0.length : Int)), (12, .int .i64 st1.2)], hpGet [(23, .arr 68 (.sl (.pair (.int .i64) .bool)) st1.1)], gt⟩) ([], 0) hw3 (zL [] [23] []) ?_
   as_aux_lemma =>
    intro st1 x6 h hd5
    unfold delay_Turned_b1 at h
    refine zo ?_
    refine zB [(4, .own 23), (10, .sl (.sl (.pair (.int .i64) .bool)) x0), (11, .int .i64 (x0.length : Int)), (12, .int .i64 st1.2), (13, .bool (decide (st1.2 < (x0.length : Int))))] [(23, .arr 68 (.sl (.pair (.int .i64) .bool)) st1.1)] ?_
    refine AW.seq ?_
    refine zQ h (fun hb8 h => ?_) (fun hb8 h => ?_)
    ·refine zk ?_
     refine AW.seq ?_
     refine AW.block ?_
     refine zo ?_
     obtain ⟨c9, h⟩ := ck_some.1 h
     obtain ⟨c10, h⟩ := ck_some.1 h
     refine zB [(4, .own 23), (6, .sl (.pair (.int .i64) .bool) (x0.getD st1.2.toNat [])), (10, .sl (.sl (.pair (.int .i64) .bool)) x0), (11, .int .i64 (x0.length : Int)), (12, .int .i64 st1.2)] [(23, .arr 68 (.sl (.pair (.int .i64) .bool)) st1.1)] ?_
     refine zo ?_
     refine zS 1 [(4, .own 23), (10, .sl (.sl (.pair (.int .i64) .bool)) x0), (11, .int .i64 (x0.length : Int)), (12, .int .i64 st1.2), (16, .sl (.pair (.int .i64) .bool) (x0.getD st1.2.toNat []))] [(23, .arr 68 (.sl (.pair (.int .i64) .bool)) st1.1)] ?_
     obtain ⟨v0_2, hv11, h⟩ := Option.bind_eq_some_iff.1 h
     refine zC [] [] (hc_slices_Clone (x0.getD st1.2.toNat []) hv11) [(4, .own 23), (10, .sl (.sl (.pair (.int .i64) .bool)) x0), (11, .int .i64 (x0.length : Int)), (12, .int .i64 st1.2), (17, .own 27000)] [(23, .arr 68 (.sl (.pair (.int .i64) .bool)) st1.1), (27000, .arr 76 (.pair (.int .i64) .bool) v0_2)] ?_
     refine zB [(4, .own 23), (6, .own 27000), (10, .sl (.sl (.pair (.int .i64) .bool)) x0), (11, .int .i64 (x0.length : Int)), (12, .int .i64 st1.2)] [(23, .arr 68 (.sl (.pair (.int .i64) .bool)) st1.1), (27000, .arr 76 (.pair (.int .i64) .bool) v0_2)] ?_
     refine zo ?_
     refine zS 1 [(4, .own 23), (6, .own 27000), (10, .sl (.sl (.pair (.int .i64) .bool)) x0), (11, .int .i64 (x0.length : Int)), (12, .int .i64 st1.2), (18, .own 27000)] [(23, .arr 68 (.sl (.pair (.int .i64) .bool)) st1.1), (27000, .arr 76 (.pair (.int .i64) .bool) v0_2)] ?_
     obtain ⟨v0_3, hv12, h⟩ := Option.bind_eq_some_iff.1 h
     refine zC [] [(1000, 27000)] (hc_slices_Reverse v0_2 hv12) [(4, .own 23), (6, .own 27000), (10, .sl (.sl (.pair (.int .i64) .bool)) x0), (11, .int .i64 (x0.length : Int)), (12, .int .i64 st1.2)] [(23, .arr 68 (.sl (.pair (.int .i64) .bool)) st1.1), (27000, .arr 76 (.pair (.int .i64) .bool) v0_3)] ?_
     refine zB [(4, .own 23), (6, .own 27000), (10, .sl (.sl (.pair (.int .i64) .bool)) x0), (11, .int .i64 (x0.length : Int)), (12, .int .i64 st1.2)] [(23, .arr 68 (.sl (.pair (.int .i64) .bool)) st1.1), (27000, .arr 76 (.pair (.int .i64) .bool) v0_3)] ?_
     refine AW.ops ?_
     obtain ⟨c13, h⟩ := ck_some.1 h
     refine zA [(4, .own 23), (10, .sl (.sl (.pair (.int .i64) .bool)) x0), (11, .int .i64 (x0.length : Int)), (12, .int .i64 st1.2)] [(23, .arr 68 (.sl (.pair (.int .i64) .bool)) (st1.1 ++ [v0_3]))] ?_
     refine ablock_n ?_
     refine athen_n ?_
     refine AW.ops ?_
     obtain ⟨c14, h⟩ := ck_some.1 h
     refine zA [(4, .own 23), (10, .sl (.sl (.pair (.int .i64) .bool)) x0), (11, .int .i64 (x0.length : Int)), (12, .int .i64 (st1.2 + 1))] [(23, .arr 68 (.sl (.pair (.int .i64) .bool)) (st1.1 ++ [v0_3]))] ?_
     obtain rfl := Option.some.inj h
     exact ⟨_, rfl, zL [] [] []⟩
    ·refine AW.exit ?_
     refine athen_e ?_
     obtain rfl := Option.some.inj h
     rw [← hd5 _ rfl] at ho4
     have h := ho4
     refine athen_e ?_
     refine ablock_s ?_
     refine athen_n ?_
     exact AW.weaken (zL [] [] []) (hk_delay_Turned_k1 _ h)

theorem hc_linealref09_SameAccesses (x0 : List (List (Int × Bool))) (y : List (List (Int × Bool))) {r : Bool} (h : linealref09_SameAccesses x0 y = some r) : HC Try.prog 53 [] [.sl (.sl (.pair (.int .i64) .bool)) x0, .sl (.sl (.pair (.int .i64) .bool)) y] [] (.bool r) := by
 unfold linealref09_SameAccesses at h
 refine zH Try.func53 [.tmp 4] 53 ?_
 refine zo ?_
 refine zB [(0, .sl (.sl (.pair (.int .i64) .bool)) x0), (1, .sl (.sl (.pair (.int .i64) .bool)) y)] [] ?_
 refine AW.seq ?_
 refine zo ?_
 refine zB [(0, .sl (.sl (.pair (.int .i64) .bool)) x0), (1, .sl (.sl (.pair (.int .i64) .bool)) y), (11, .bool (!(decide ((x0.length : Int) = (y.length : Int)))))] [] ?_
 refine zQ h (fun hb1 h => ?_) (fun hb1 h => ?_)
 ·refine zo ?_
  refine zB [(4, .bool false)] [] ?_
  refine zr ?_
  obtain rfl := Option.some.inj h
  exact zR [] [] []
 ·refine zk ?_
  refine AW.have1 (fun _ : Unit => linealref09_SameAccesses_k1 = some r) (fun _ => ⟨fr [], hpGet [], gt⟩) (fun _ h => ?_) (fun hk_linealref09_SameAccesses_k1 => ?_)
  ·as_aux_lemma =>
    unfold linealref09_SameAccesses_k1 at h
    refine zo ?_
    refine zB [(4, .bool true)] [] ?_
    refine AW.ret ?_
    obtain rfl := Option.some.inj h
    exact zR [] [] []
  ·refine AW.seq ?_
   refine zo ?_
   refine zB [(0, .sl (.sl (.pair (.int .i64) .bool)) x0), (1, .sl (.sl (.pair (.int .i64) .bool)) y), (13, .int .i64 (x0.length : Int)), (14, .int .i64 0)] [] ?_
   refine AW.block ?_
   obtain ⟨rv6, hw2, ho3⟩ := Option.bind_eq_some_iff.1 h
   refine AW.loopO (linealref09_SameAccesses_b1 x0 y) (fun st1 => ⟨fr [(0, .sl (.sl (.pair (.int .i64) .bool)) x0), (1, .sl (.sl (.pair (.int .i64) .bool)) y), (13, .int .i64 (x0.length : Int)), (14, .int .i64 st1)], hpGet [], gt⟩) 0 hw2 (zL [] [] []) ?_
   as_aux_lemma =>
    intro st1 x5 h hd4
    unfold linealref09_SameAccesses_b1 at h
    refine zo ?_
    refine zB [(0, .sl (.sl (.pair (.int .i64) .bool)) x0), (1, .sl (.sl (.pair (.int .i64) .bool)) y), (13, .int .i64 (x0.length : Int)), (14, .int .i64 st1), (15, .bool (decide (st1 < (x0.length : Int))))] [] ?_
    refine AW.seq ?_
    refine zQ h (fun hb7 h => ?_) (fun hb7 h => ?_)
    ·refine zk ?_
     refine AW.have1 (fun _ : Unit => linealref09_SameAccesses_k2 st1 = some x5) (fun _ => ⟨fr [(0, .sl (.sl (.pair (.int .i64) .bool)) x0), (1, .sl (.sl (.pair (.int .i64) .bool)) y), (13, .int .i64 (x0.length : Int)), (14, .int .i64 st1)], hpGet [], gt⟩) (fun _ h => ?_) (fun hk_linealref09_SameAccesses_k2 => ?_)
     ·as_aux_lemma =>
       unfold linealref09_SameAccesses_k2 at h
       refine AW.ops ?_
       obtain ⟨c8, h⟩ := ck_some.1 h
       refine zA [(0, .sl (.sl (.pair (.int .i64) .bool)) x0), (1, .sl (.sl (.pair (.int .i64) .bool)) y), (13, .int .i64 (x0.length : Int)), (14, .int .i64 (st1 + 1))] [] ?_
       obtain rfl := Option.some.inj h
       exact ⟨_, rfl, zL [] [] []⟩
     ·refine AW.seq ?_
      refine AW.block ?_
      refine zo ?_
      refine zB [(0, .sl (.sl (.pair (.int .i64) .bool)) x0), (1, .sl (.sl (.pair (.int .i64) .bool)) y), (5, .int .i64 st1), (13, .int .i64 (x0.length : Int)), (14, .int .i64 st1)] [] ?_
      refine AW.seq ?_
      refine AW.seq ?_
      refine AW.draw tab_ok mixed_ok [] [] (by decide) (lex_fast (by kernel_rfl)) ?_
      as_aux_lemma =>
       obtain ⟨c10, h⟩ := ck_some.1 h
       obtain ⟨c11, h⟩ := ck_some.1 h
       refine adops_cut 6 (fun K' hK9 => ?_)
       try dsimp only [List.drop_succ_cons, List.drop_zero, List.take_succ_cons, List.take_zero]
       simp only [go_sem, hb1, hb7]
       repeat with_reducible refine zN ?_
       refine hK9 _ ?_
       as_aux_lemma =>
        obtain ⟨c13, h⟩ := ck_some.1 h
        obtain ⟨c14, h⟩ := ck_some.1 h
        refine adops_cut 5 (fun K' hK12 => ?_)
        try dsimp only [List.drop_succ_cons, List.drop_zero, List.take_succ_cons, List.take_zero]
        simp only [go_sem, hb1, hb7]
        repeat with_reducible refine zN ?_
        refine hK12 _ ?_
        refine adops_nil ?_
        refine athen_n ?_
        refine zV [(0, .sl (.sl (.pair (.int .i64) .bool)) x0), (1, .sl (.sl (.pair (.int .i64) .bool)) y), (5, .int .i64 st1), (13, .int .i64 (x0.length : Int)), (14, .int .i64 st1), (27, .bool (!(decide (((x0.getD st1.toNat []).length : Int) = ((y.getD st1.toNat []).length : Int)))))] [] gt ?_
        as_aux_lemma =>
         refine zQ h (fun hb15 h => ?_) (fun hb15 h => ?_)
         ·refine zo ?_
          refine zB [(4, .bool false)] [] ?_
          refine zr ?_
          refine ablock_r ?_
          refine athen_r ?_
          obtain rfl := Option.some.inj h
          try rw [← hd4 _ rfl] at ho3
          have h := ho3
          try simp only at h
          refine athen_r ?_
          refine ablock_r ?_
          refine athen_r ?_
          obtain rfl := Option.some.inj h
          exact zR [] [] []
         ·refine zk ?_
          refine zo ?_
          obtain ⟨c16, h⟩ := ck_some.1 h
          obtain ⟨c17, h⟩ := ck_some.1 h
          refine zS 5 [(0, .sl (.sl (.pair (.int .i64) .bool)) x0), (1, .sl (.sl (.pair (.int .i64) .bool)) y), (5, .int .i64 st1), (13, .int .i64 (x0.length : Int)), (14, .int .i64 st1), (32, .int .i64 ((x0.getD st1.toNat []).length : Int))] [] ?_
          refine zB [(0, .sl (.sl (.pair (.int .i64) .bool)) x0), (1, .sl (.sl (.pair (.int .i64) .bool)) y), (5, .int .i64 st1), (13, .int .i64 (x0.length : Int)), (14, .int .i64 st1), (32, .int .i64 ((x0.getD st1.toNat []).length : Int)), (33, .int .i64 0)] [] ?_
          refine AW.block ?_
          obtain ⟨rv22, hw18, ho19⟩ := Option.bind_eq_some_iff.1 h
          refine AW.loopO (linealref09_SameAccesses_b2 x0 y st1) (fun st2 => ⟨fr [(0, .sl (.sl (.pair (.int .i64) .bool)) x0), (1, .sl (.sl (.pair (.int .i64) .bool)) y), (5, .int .i64 st1), (13, .int .i64 (x0.length : Int)), (14, .int .i64 st1), (32, .int .i64 ((x0.getD st1.toNat []).length : Int)), (33, .int .i64 st2)], hpGet [], gt⟩) 0 hw18 (zL [] [] []) ?_
          as_aux_lemma =>
           intro st2 x21 h hd20
           unfold linealref09_SameAccesses_b2 at h
           refine zo ?_
           refine zB [(0, .sl (.sl (.pair (.int .i64) .bool)) x0), (1, .sl (.sl (.pair (.int .i64) .bool)) y), (5, .int .i64 st1), (13, .int .i64 (x0.length : Int)), (14, .int .i64 st1), (32, .int .i64 ((x0.getD st1.toNat []).length : Int)), (33, .int .i64 st2), (34, .bool (decide (st2 < ((x0.getD st1.toNat []).length : Int))))] [] ?_
           refine AW.seq ?_
           refine zQ h (fun hb23 h => ?_) (fun hb23 h => ?_)
           ·refine zk ?_
            refine AW.seq ?_
            refine AW.block ?_
            refine zo ?_
            refine zB [(0, .sl (.sl (.pair (.int .i64) .bool)) x0), (1, .sl (.sl (.pair (.int .i64) .bool)) y), (5, .int .i64 st1), (6, .int .i64 st2), (13, .int .i64 (x0.length : Int)), (14, .int .i64 st1), (32, .int .i64 ((x0.getD st1.toNat []).length : Int)), (33, .int .i64 st2)] [] ?_
            refine AW.seq ?_
            refine AW.drawTail tab_ok mixed_ok 14 [] [] (by decide) (by kernel_rfl) (by kernel_rfl) (by decide) ?_
            dsimp only [List.take_succ_cons, List.take_zero]
            obtain ⟨c25, h⟩ := ck_some.1 h
            obtain ⟨c26, h⟩ := ck_some.1 h
            obtain ⟨c27, h⟩ := ck_some.1 h
            obtain ⟨c28, h⟩ := ck_some.1 h
            refine adops_cut 6 (fun K' hK24 => ?_)
            try dsimp only [List.drop_succ_cons, List.drop_zero, List.take_succ_cons, List.take_zero]
            simp only [go_sem, hb1, hb7, hb15, hb23]
            repeat with_reducible refine zN ?_
            refine hK24 _ ?_
            as_aux_lemma =>
             obtain ⟨c30, h⟩ := ck_some.1 h
             obtain ⟨c31, h⟩ := ck_some.1 h
             refine adops_cut 6 (fun K' hK29 => ?_)
             try dsimp only [List.drop_succ_cons, List.drop_zero, List.take_succ_cons, List.take_zero]
             simp only [go_sem, hb1, hb7, hb15, hb23]
             repeat with_reducible refine zN ?_
             refine hK29 _ ?_
             as_aux_lemma =>
              obtain ⟨c33, h⟩ := ck_some.1 h
              obtain ⟨c34, h⟩ := ck_some.1 h
              refine adops_cut 2 (fun K' hK32 => ?_)
              try dsimp only [List.drop_succ_cons, List.drop_zero, List.take_succ_cons, List.take_zero]
              simp only [go_sem, hb1, hb7, hb15, hb23]
              repeat with_reducible refine zN ?_
              refine hK32 _ ?_
              refine adops_nil ?_
              refine zT [(0, .sl (.sl (.pair (.int .i64) .bool)) x0), (1, .sl (.sl (.pair (.int .i64) .bool)) y), (5, .int .i64 st1), (13, .int .i64 (x0.length : Int)), (14, .int .i64 st1), (32, .int .i64 ((x0.getD st1.toNat []).length : Int)), (33, .int .i64 st2), (42, .agg [.int .i64 ((x0.getD st1.toNat []).getD st2.toNat (0, false)).1, .bool ((x0.getD st1.toNat []).getD st2.toNat (0, false)).2]), (49, .agg [.int .i64 ((y.getD st1.toNat []).getD st2.toNat (0, false)).1, .bool ((y.getD st1.toNat []).getD st2.toNat (0, false)).2])] [] gt ?_
              obtain ⟨c35, h⟩ := ck_some.1 h
              obtain ⟨c36, h⟩ := ck_some.1 h
              refine AO.aggEq (neg := true) eqty_76 (by decide) rfl rfl (lx := [.int .i64 ((x0.getD st1.toNat []).getD st2.toNat (0, false)).1, .bool ((x0.getD st1.toNat []).getD st2.toNat (0, false)).2]) (ly := [.int .i64 ((y.getD st1.toNat []).getD st2.toNat (0, false)).1, .bool ((y.getD st1.toNat []).getD st2.toNat (0, false)).2]) (by first | rfl | (simp only [go_sem, hb1, hb7, hb15, hb23]) <;> (with_reducible and_intros) <;> first | assumption | rfl | omega | (unfold maxLen; omega)) (by first | rfl | (simp only [go_sem, hb1, hb7, hb15, hb23]) <;> (with_reducible and_intros) <;> first | assumption | rfl | omega | (unfold maxLen; omega)) (by first | rfl | (simp only [go_sem, hb1, hb7, hb15, hb23]) <;> (with_reducible and_intros) <;> first | assumption | rfl | omega | (unfold maxLen; omega)) (by first | rfl | (simp only [go_sem, hb1, hb7, hb15, hb23]) <;> (with_reducible and_intros) <;> first | assumption | rfl | omega | (unfold maxLen; omega)) (by first | assumption | omega | (simp only [go_sem, hb1, hb7, hb15, hb23]) <;> (with_reducible and_intros) <;> first | assumption | rfl | omega | (unfold maxLen; omega)) (by first | assumption | omega | (simp only [go_sem, hb1, hb7, hb15, hb23]) <;> (with_reducible and_intros) <;> first | assumption | rfl | omega | (unfold maxLen; omega)) ?_
              refine zT [(0, .sl (.sl (.pair (.int .i64) .bool)) x0), (1, .sl (.sl (.pair (.int .i64) .bool)) y), (5, .int .i64 st1), (13, .int .i64 (x0.length : Int)), (14, .int .i64 st1), (32, .int .i64 ((x0.getD st1.toNat []).length : Int)), (33, .int .i64 st2), (50, .bool (!(decide (((x0.getD st1.toNat []).getD st2.toNat (0, false)) = ((y.getD st1.toNat []).getD st2.toNat (0, false))))))] [] gt ?_
              refine zB [(0, .sl (.sl (.pair (.int .i64) .bool)) x0), (1, .sl (.sl (.pair (.int .i64) .bool)) y), (5, .int .i64 st1), (13, .int .i64 (x0.length : Int)), (14, .int .i64 st1), (32, .int .i64 ((x0.getD st1.toNat []).length : Int)), (33, .int .i64 st2), (50, .bool (!(decide (((x0.getD st1.toNat []).getD st2.toNat (0, false)) = ((y.getD st1.toNat []).getD st2.toNat (0, false))))))] [] ?_
              refine zQ h (fun hb37 h => ?_) (fun hb37 h => ?_)
              ·refine zo ?_
               refine zB [(4, .bool false)] [] ?_
               refine AW.ret ?_
               refine ablock_r ?_
               refine athen_r ?_
               obtain rfl := Option.some.inj h
               try rw [← hd20 _ rfl] at ho19
               have h := ho19
               try simp only at h
               refine athen_r ?_
               refine ablock_r ?_
               refine ablock_r ?_
               refine athen_r ?_
               obtain rfl := Option.some.inj h
               try rw [← hd4 _ rfl] at ho3
               have h := ho3
               try simp only at h
               refine athen_r ?_
               refine ablock_r ?_
               refine athen_r ?_
               obtain rfl := Option.some.inj h
               exact zR [] [] []
              ·refine zm ?_
               refine athen_n ?_
               refine AW.ops ?_
               obtain ⟨c38, h⟩ := ck_some.1 h
               refine zA [(0, .sl (.sl (.pair (.int .i64) .bool)) x0), (1, .sl (.sl (.pair (.int .i64) .bool)) y), (5, .int .i64 st1), (13, .int .i64 (x0.length : Int)), (14, .int .i64 st1), (32, .int .i64 ((x0.getD st1.toNat []).length : Int)), (33, .int .i64 (st2 + 1))] [] ?_
               obtain rfl := Option.some.inj h
               exact ⟨_, rfl, zL [] [] []⟩
           ·refine AW.exit ?_
            refine athen_e ?_
            obtain rfl := Option.some.inj h
            try rw [← hd20 _ rfl] at ho19
            have h := ho19
            try simp only at h
            refine athen_e ?_
            refine ablock_s ?_
            refine ablock_n ?_
            refine athen_n ?_
            exact AW.weaken (zL [] [] []) (hk_linealref09_SameAccesses_k2 () h)
    ·refine AW.exit ?_
     refine athen_e ?_
     obtain rfl := Option.some.inj h
     try rw [← hd4 _ rfl] at ho3
     have h := ho3
     try simp only at h
     refine athen_e ?_
     refine ablock_s ?_
     refine athen_n ?_
     exact AW.weaken (zL [] [] []) (hk_linealref09_SameAccesses_k1 () h)

end Go.Proofs.Ytdicomoggfhbfaa
