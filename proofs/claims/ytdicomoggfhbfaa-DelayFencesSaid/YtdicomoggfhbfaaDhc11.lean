/-
  Made by wip/tool/dc.py out of the print of the program: contracts.
-/
import Derived.Test.YtdicomoggfhbfaaDlp
import Derived.Test.YtdicomoggfhbfaaShd
import Derived.Test.YtdicomoggfhbfaaDhc10
import Derived.Test.YtdicomoggfhbfaaDhc4
import Derived.Test.YtdicomoggfhbfaaDhc5
import Derived.Test.YtdicomoggfhbfaaDhc6
namespace Go.Proofs.Ytdicomoggfhbfaa
open Go.RowKit

set_option linter.unusedSimpArgs false
set_option linter.unusedVariables false
set_option linter.constructorNameAsVariable false

set_option maxRecDepth 100000
set_option maxHeartbeats 40000000

theorem hc_slices_ContainsFunc_5 (s : List (Int × Int)) (c0 : Int × Int × Int) {r : Bool} (h : slices_ContainsFunc_5 s c0 = some r) : HC Try.prog 117 [(1000, .box 35 [.int .i64 c0.1, .int .i64 c0.2.1, .int .i64 c0.2.2])] [.sl (.pair (.int .i64) (.int .i64)) s, .fn (.func 118) [] [.bp 1000 0]] [(1000, .box 35 [.int .i64 c0.1, .int .i64 c0.2.1, .int .i64 c0.2.2])] (.bool r) := by
 unfold slices_ContainsFunc_5 at h
 refine zH Try.func117 [.tmp 4] 9 ?_
 refine zo ?_
 refine zB [(0, .sl (.pair (.int .i64) (.int .i64)) s), (1, .fn (.func 118) [] [.bp 1000 0])] [(1000, .box 35 [.int .i64 c0.1, .int .i64 c0.2.1, .int .i64 c0.2.2])] ?_
 refine zo ?_
 refine zS 2 [(5, .sl (.pair (.int .i64) (.int .i64)) s), (6, .fn (.func 118) [] [.bp 1000 0])] [(1000, .box 35 [.int .i64 c0.1, .int .i64 c0.2.1, .int .i64 c0.2.2])] ?_
 obtain ⟨v0, hv1, h⟩ := Option.bind_eq_some_iff.1 h
 refine zC [] [(1000, 1000)] (hc_slices_IndexFunc_8 s c0 hv1) [(7, .int .i64 v0)] [(1000, .box 35 [.int .i64 c0.1, .int .i64 c0.2.1, .int .i64 c0.2.2])] ?_
 refine zB [(4, .bool (decide (0 ≤ v0)))] [(1000, .box 35 [.int .i64 c0.1, .int .i64 c0.2.1, .int .i64 c0.2.2])] ?_
 refine AW.ret ?_
 obtain rfl := Option.some.inj h
 exact zR [] [] []

theorem hc_delay_isHeld (fences : List (Int × Int)) (pair : Int × Int × Int) {r : Bool} (h : delay_isHeld fences pair = some r) : HC Try.prog 82 [] [.sl (.pair (.int .i64) (.int .i64)) fences, .agg [.int .i64 pair.1, .int .i64 pair.2.1, .int .i64 pair.2.2]] [] (.bool r) := by
 unfold delay_isHeld at h
 refine zH Try.func82 [.tmp 4] 8 ?_
 refine zo ?_
 refine zB [(0, .sl (.pair (.int .i64) (.int .i64)) fences), (3, .bp 3 0)] [(3, .box 35 [.int .i64 pair.1, .int .i64 pair.2.1, .int .i64 pair.2.2])] ?_
 refine zo ?_
 refine zS 2 [(5, .sl (.pair (.int .i64) (.int .i64)) fences), (6, .fn (.func 118) [] [.bp 3 0])] [(3, .box 35 [.int .i64 pair.1, .int .i64 pair.2.1, .int .i64 pair.2.2])] ?_
 obtain ⟨v0, hv1, h⟩ := Option.bind_eq_some_iff.1 h
 refine zC [] [(1000, 3)] (hc_slices_ContainsFunc_5 fences pair hv1) [(7, .bool v0)] [] ?_
 refine zB [(4, .bool v0)] [] ?_
 refine AW.ret ?_
 obtain rfl := Option.some.inj h
 exact zR [] [] []

theorem hc_delay_Held_1 (pair : Int × Int × Int) (a1 : List (Int × Int)) {r : Bool} (h : delay_Held_1 pair a1 = some r) : HC Try.prog 81 [(1000, .box 42 [.sl (.pair (.int .i64) (.int .i64)) a1])] [.agg [.int .i64 pair.1, .int .i64 pair.2.1, .int .i64 pair.2.2], .bp 1000 0] [(1000, .box 42 [.sl (.pair (.int .i64) (.int .i64)) a1])] (.bool r) := by
 unfold delay_Held_1 at h
 refine zH Try.func81 [.tmp 3] 8 ?_
 refine zo ?_
 refine zB [(1, .bp 1000 0), (2, .bp 2 0)] [(2, .box 35 [.int .i64 pair.1, .int .i64 pair.2.1, .int .i64 pair.2.2]), (1000, .box 42 [.sl (.pair (.int .i64) (.int .i64)) a1])] ?_
 refine zo ?_
 refine zS 2 [(4, .sl (.pair (.int .i64) (.int .i64)) a1), (5, .agg [.int .i64 pair.1, .int .i64 pair.2.1, .int .i64 pair.2.2])] [(1000, .box 42 [.sl (.pair (.int .i64) (.int .i64)) a1])] ?_
 obtain ⟨v0, hv1, h⟩ := Option.bind_eq_some_iff.1 h
 refine zC [] [] (hc_delay_isHeld a1 pair hv1) [(6, .bool v0)] [(1000, .box 42 [.sl (.pair (.int .i64) (.int .i64)) a1])] ?_
 refine zB [(3, .bool (!v0))] [(1000, .box 42 [.sl (.pair (.int .i64) (.int .i64)) a1])] ?_
 refine AW.ret ?_
 obtain rfl := Option.some.inj h
 exact zR [] [] []

theorem hc_slices_IndexFunc_7 (s : List (Int × Int × Int)) (c0 : List (Int × Int)) {r : Int} (h : slices_IndexFunc_7 s c0 = some r) : HC Try.prog 116 [(1000, .arr 35 (.pair (.int .i64) (.pair (.int .i64) (.int .i64))) s), (1001, .box 42 [.sl (.pair (.int .i64) (.int .i64)) c0])] [.own 1000, .fn (.func 81) [] [.bp 1001 0]] [(1000, .arr 35 (.pair (.int .i64) (.pair (.int .i64) (.int .i64))) s), (1001, .box 42 [.sl (.pair (.int .i64) (.int .i64)) c0])] (.int .i64 r) := by
 unfold slices_IndexFunc_7 at h
 refine zH Try.func116 [.tmp 4] 19 ?_
 refine zo ?_
 refine zB [(0, .own 1000), (1, .fn (.func 81) [] [.bp 1001 0])] [(1000, .arr 35 (.pair (.int .i64) (.pair (.int .i64) (.int .i64))) s), (1001, .box 42 [.sl (.pair (.int .i64) (.int .i64)) c0])] ?_
 refine AW.have1 (fun _ : Unit => slices_IndexFunc_7_k1 = some r) (fun _ => ⟨fr [], hpGet [(1000, .arr 35 (.pair (.int .i64) (.pair (.int .i64) (.int .i64))) s), (1001, .box 42 [.sl (.pair (.int .i64) (.int .i64)) c0])], gt⟩) (fun _ h => ?_) (fun hk_slices_IndexFunc_7_k1 => ?_)
 ·as_aux_lemma =>
   unfold slices_IndexFunc_7_k1 at h
   refine zo ?_
   refine zB [(4, .int .i64 (-1))] [(1000, .arr 35 (.pair (.int .i64) (.pair (.int .i64) (.int .i64))) s), (1001, .box 42 [.sl (.pair (.int .i64) (.int .i64)) c0])] ?_
   refine AW.ret ?_
   obtain rfl := Option.some.inj h
   exact zR [] [] []
 ·refine AW.seq ?_
  refine zo ?_
  refine zB [(0, .own 1000), (1, .fn (.func 81) [] [.bp 1001 0]), (7, .int .i64 (s.length : Int)), (8, .int .i64 0)] [(1000, .arr 35 (.pair (.int .i64) (.pair (.int .i64) (.int .i64))) s), (1001, .box 42 [.sl (.pair (.int .i64) (.int .i64)) c0])] ?_
  refine AW.block ?_
  obtain ⟨rv5, hw1, ho2⟩ := Option.bind_eq_some_iff.1 h
  refine AW.loopO (slices_IndexFunc_7_b1 s c0) (fun st1 => ⟨fr [(0, .own 1000), (1, .fn (.func 81) [] [.bp 1001 0]), (7, .int .i64 (s.length : Int)), (8, .int .i64 st1)], hpGet [(1000, .arr 35 (.pair (.int .i64) (.pair (.int .i64) (.int .i64))) s), (1001, .box 42 [.sl (.pair (.int .i64) (.int .i64)) c0])], gt⟩) 0 hw1 (zL [] [] []) ?_
  as_aux_lemma =>
   intro st1 x4 h hd3
   unfold slices_IndexFunc_7_b1 at h
   refine zo ?_
   refine zB [(0, .own 1000), (1, .fn (.func 81) [] [.bp 1001 0]), (7, .int .i64 (s.length : Int)), (8, .int .i64 st1), (9, .bool (decide (st1 < (s.length : Int))))] [(1000, .arr 35 (.pair (.int .i64) (.pair (.int .i64) (.int .i64))) s), (1001, .box 42 [.sl (.pair (.int .i64) (.int .i64)) c0])] ?_
   refine AW.seq ?_
   refine zQ h (fun hb6 h => ?_) (fun hb6 h => ?_)
   ·refine zk ?_
    refine AW.seq ?_
    refine AW.block ?_
    refine zo ?_
    refine zB [(0, .own 1000), (1, .fn (.func 81) [] [.bp 1001 0]), (5, .int .i64 st1), (7, .int .i64 (s.length : Int)), (8, .int .i64 st1)] [(1000, .arr 35 (.pair (.int .i64) (.pair (.int .i64) (.int .i64))) s), (1001, .box 42 [.sl (.pair (.int .i64) (.int .i64)) c0])] ?_
    refine zo ?_
    obtain ⟨c7, h⟩ := ck_some.1 h
    obtain ⟨c8, h⟩ := ck_some.1 h
    refine zS 5 [(0, .own 1000), (1, .fn (.func 81) [] [.bp 1001 0]), (5, .int .i64 st1), (7, .int .i64 (s.length : Int)), (8, .int .i64 st1), (11, .fn (.func 81) [] [.bp 1001 0]), (15, .agg [.int .i64 (s.getD st1.toNat (0, 0, 0)).1, .int .i64 (s.getD st1.toNat (0, 0, 0)).2.1, .int .i64 (s.getD st1.toNat (0, 0, 0)).2.2])] [(1000, .arr 35 (.pair (.int .i64) (.pair (.int .i64) (.int .i64))) s), (1001, .box 42 [.sl (.pair (.int .i64) (.int .i64)) c0])] ?_
    obtain ⟨v0, hv9, h⟩ := Option.bind_eq_some_iff.1 h
    refine zC [] [(1000, 1001)] (hc_delay_Held_1 (s.getD st1.toNat (0, 0, 0)) c0 hv9) [(0, .own 1000), (1, .fn (.func 81) [] [.bp 1001 0]), (5, .int .i64 st1), (7, .int .i64 (s.length : Int)), (8, .int .i64 st1), (16, .bool v0)] [(1000, .arr 35 (.pair (.int .i64) (.pair (.int .i64) (.int .i64))) s), (1001, .box 42 [.sl (.pair (.int .i64) (.int .i64)) c0])] ?_
    refine zB [(0, .own 1000), (1, .fn (.func 81) [] [.bp 1001 0]), (5, .int .i64 st1), (7, .int .i64 (s.length : Int)), (8, .int .i64 st1), (16, .bool v0)] [(1000, .arr 35 (.pair (.int .i64) (.pair (.int .i64) (.int .i64))) s), (1001, .box 42 [.sl (.pair (.int .i64) (.int .i64)) c0])] ?_
    refine zQ h (fun hb10 h => ?_) (fun hb10 h => ?_)
    ·refine zo ?_
     refine zB [(4, .int .i64 st1)] [(1000, .arr 35 (.pair (.int .i64) (.pair (.int .i64) (.int .i64))) s), (1001, .box 42 [.sl (.pair (.int .i64) (.int .i64)) c0])] ?_
     refine AW.ret ?_
     refine ablock_r ?_
     refine athen_r ?_
     obtain rfl := Option.some.inj h
     rw [← hd3 _ rfl] at ho2
     have h := ho2
     try simp only at h
     refine athen_r ?_
     refine ablock_r ?_
     refine athen_r ?_
     obtain rfl := Option.some.inj h
     exact zR [] [] []
    ·refine zm ?_
     refine athen_n ?_
     refine AW.ops ?_
     obtain ⟨c11, h⟩ := ck_some.1 h
     refine zA [(0, .own 1000), (1, .fn (.func 81) [] [.bp 1001 0]), (7, .int .i64 (s.length : Int)), (8, .int .i64 (st1 + 1))] [(1000, .arr 35 (.pair (.int .i64) (.pair (.int .i64) (.int .i64))) s), (1001, .box 42 [.sl (.pair (.int .i64) (.int .i64)) c0])] ?_
     obtain rfl := Option.some.inj h
     exact ⟨_, rfl, zL [] [] []⟩
   ·refine AW.exit ?_
    refine athen_e ?_
    obtain rfl := Option.some.inj h
    try rw [← hd3 _ rfl] at ho2
    have h := ho2
    try simp only at h
    refine athen_e ?_
    refine ablock_s ?_
    refine athen_n ?_
    exact AW.weaken (zL [] [] []) (hk_slices_IndexFunc_7_k1 () h)

theorem hc_slices_DeleteFunc_3 (s : List (Int × Int × Int)) (c0 : List (Int × Int)) {r : (List (Int × Int × Int))} (h : slices_DeleteFunc_3 s c0 = some r) : HC Try.prog 80 [(1000, .arr 35 (.pair (.int .i64) (.pair (.int .i64) (.int .i64))) s), (1001, .box 42 [.sl (.pair (.int .i64) (.int .i64)) c0])] [.own 1000, .fn (.func 81) [] [.bp 1001 0]] [(1001, .box 42 [.sl (.pair (.int .i64) (.int .i64)) c0]), (2000, .arr 35 (.pair (.int .i64) (.pair (.int .i64) (.int .i64))) r)] (.own 2000) := by
 unfold slices_DeleteFunc_3 at h
 refine zH Try.func80 [.tmp 4] 42 ?_
 refine zo ?_
 refine zB [(0, .own 1000), (1, .fn (.func 81) [] [.bp 1001 0])] [(1000, .arr 35 (.pair (.int .i64) (.pair (.int .i64) (.int .i64))) s), (1001, .box 42 [.sl (.pair (.int .i64) (.int .i64)) c0])] ?_
 refine zo ?_
 refine zS 2 [(0, .own 1000), (1, .fn (.func 81) [] [.bp 1001 0]), (8, .own 1000), (9, .fn (.func 81) [] [.bp 1001 0])] [(1000, .arr 35 (.pair (.int .i64) (.pair (.int .i64) (.int .i64))) s), (1001, .box 42 [.sl (.pair (.int .i64) (.int .i64)) c0])] ?_
 obtain ⟨v0, hv1, h⟩ := Option.bind_eq_some_iff.1 h
 refine zC [] [(1000, 1000), (1001, 1001)] (hc_slices_IndexFunc_7 s c0 hv1) [(0, .own 1000), (1, .fn (.func 81) [] [.bp 1001 0]), (10, .int .i64 v0)] [(1000, .arr 35 (.pair (.int .i64) (.pair (.int .i64) (.int .i64))) s), (1001, .box 42 [.sl (.pair (.int .i64) (.int .i64)) c0])] ?_
 refine zB [(0, .own 1000), (1, .fn (.func 81) [] [.bp 1001 0]), (5, .int .i64 v0)] [(1000, .arr 35 (.pair (.int .i64) (.pair (.int .i64) (.int .i64))) s), (1001, .box 42 [.sl (.pair (.int .i64) (.int .i64)) c0])] ?_
 refine AW.seq ?_
 refine zo ?_
 refine zB [(0, .own 1000), (1, .fn (.func 81) [] [.bp 1001 0]), (5, .int .i64 v0), (12, .bool (decide (v0 = (-1))))] [(1000, .arr 35 (.pair (.int .i64) (.pair (.int .i64) (.int .i64))) s), (1001, .box 42 [.sl (.pair (.int .i64) (.int .i64)) c0])] ?_
 refine zQ h (fun hb2 h => ?_) (fun hb2 h => ?_)
 ·refine zo ?_
  refine zB [(4, .own 1000)] [(1000, .arr 35 (.pair (.int .i64) (.pair (.int .i64) (.int .i64))) s), (1001, .box 42 [.sl (.pair (.int .i64) (.int .i64)) c0])] ?_
  refine zr ?_
  obtain rfl := Option.some.inj h
  exact zR [] [] [(2000, 1000)]
 ·refine zk ?_
  refine AW.have1 (fun b1 : (List (Int × Int × Int)) × Int => slices_DeleteFunc_3_k1 b1 = some r) (fun b1 => ⟨fr [(0, .own 1000), (5, .int .i64 b1.2)], hpGet [(1000, .arr 35 (.pair (.int .i64) (.pair (.int .i64) (.int .i64))) b1.1), (1001, .box 42 [.sl (.pair (.int .i64) (.int .i64)) c0])], gt⟩) (fun b1 h => ?_) (fun hk_slices_DeleteFunc_3_k1 => ?_)
  ·as_aux_lemma =>
    unfold slices_DeleteFunc_3_k1 at h
    refine zo ?_
    refine zS 2 [(0, .own 1000), (5, .int .i64 b1.2), (36, .own 1000), (37, .int .i64 b1.2)] [(1000, .arr 35 (.pair (.int .i64) (.pair (.int .i64) (.int .i64))) b1.1), (1001, .box 42 [.sl (.pair (.int .i64) (.int .i64)) c0])] ?_
    obtain ⟨c3, h⟩ := ck_some.1 h
    obtain ⟨c4, h⟩ := ck_some.1 h
    refine AO.sliceView tab_ok (by decide) rfl rfl tab_30 rfl tab_35 rfl rfl rfl (b1.2) ((b1.1.length : Int)) (by first | assumption | omega | (simp only [go_sem, hb2]) <;> (with_reducible and_intros) <;> first | assumption | rfl | omega | (unfold maxLen; omega)) (by first | assumption | omega | (simp only [go_sem, hb2]) <;> (with_reducible and_intros) <;> first | assumption | rfl | omega | (unfold maxLen; omega)) (by first | assumption | omega | (simp only [go_sem, hb2]) <;> (with_reducible and_intros) <;> first | assumption | rfl | omega | (unfold maxLen; omega)) (.inr ⟨_, _, rfl, rfl⟩) (.inl ⟨rfl, rfl⟩) ?_
    refine zT [(0, .own 1000), (5, .int .i64 b1.2), (38, .vw 1000 3 b1.2.toNat ((b1.1.length : Int) - b1.2).toNat)] [(1000, .arr 35 (.pair (.int .i64) (.pair (.int .i64) (.int .i64))) b1.1), (1001, .box 42 [.sl (.pair (.int .i64) (.int .i64)) c0])] gt ?_
    obtain ⟨c5, h⟩ := ck_some.1 h
    obtain ⟨c6, h⟩ := ck_some.1 h
    refine AO.clearView tab_ok (by decide) rfl rfl rfl rfl rfl tab_30 rfl tab_35 rfl rfl rfl (by first | assumption | omega | (simp only [go_sem, hb2]) <;> (with_reducible and_intros) <;> first | assumption | rfl | omega | (unfold maxLen; omega)) (by first | assumption | omega | (simp only [go_sem, hb2]) <;> (with_reducible and_intros) <;> first | assumption | rfl | omega | (unfold maxLen; omega)) ?_
    refine zT [(0, .own 1000), (5, .int .i64 b1.2)] [(1000, .arr 35 (.pair (.int .i64) (.pair (.int .i64) (.int .i64))) (((b1.1.take b1.2.toNat) ++ (List.replicate ((b1.1.length : Int) - b1.2).toNat ((0, 0, 0) : Int × Int × Int))) ++ (b1.1.drop (b1.2.toNat + ((b1.1.length : Int) - b1.2).toNat)))), (1001, .box 42 [.sl (.pair (.int .i64) (.int .i64)) c0])] gt ?_
    refine zB [(0, .own 1000), (5, .int .i64 b1.2)] [(1000, .arr 35 (.pair (.int .i64) (.pair (.int .i64) (.int .i64))) (((b1.1.take b1.2.toNat) ++ (List.replicate ((b1.1.length : Int) - b1.2).toNat ((0, 0, 0) : Int × Int × Int))) ++ (b1.1.drop (b1.2.toNat + ((b1.1.length : Int) - b1.2).toNat)))), (1001, .box 42 [.sl (.pair (.int .i64) (.int .i64)) c0])] ?_
    refine zo ?_
    refine zS 2 [(39, .own 1000), (40, .int .i64 b1.2)] [(1000, .arr 35 (.pair (.int .i64) (.pair (.int .i64) (.int .i64))) (((b1.1.take b1.2.toNat) ++ (List.replicate ((b1.1.length : Int) - b1.2).toNat ((0, 0, 0) : Int × Int × Int))) ++ (b1.1.drop (b1.2.toNat + ((b1.1.length : Int) - b1.2).toNat)))), (1001, .box 42 [.sl (.pair (.int .i64) (.int .i64)) c0])] ?_
    obtain ⟨c7, h⟩ := ck_some.1 h
    obtain ⟨c8, h⟩ := ck_some.1 h
    refine AO.sliceOwn tab_ok (by decide) (by decide) rfl rfl tab_30 rfl tab_35 rfl rfl rfl rfl (by first | assumption | omega | (simp only [go_sem, hb2]) <;> (with_reducible and_intros) <;> first | assumption | rfl | omega | (unfold maxLen; omega)) (by first | assumption | omega | (simp only [go_sem, hb2]) <;> (with_reducible and_intros) <;> first | assumption | rfl | omega | (unfold maxLen; omega)) ?_
    refine zT [(41, .own 41)] [(41, .arr 35 (.pair (.int .i64) (.pair (.int .i64) (.int .i64))) ((((b1.1.take b1.2.toNat) ++ (List.replicate ((b1.1.length : Int) - b1.2).toNat ((0, 0, 0) : Int × Int × Int))) ++ (b1.1.drop (b1.2.toNat + ((b1.1.length : Int) - b1.2).toNat))).take b1.2.toNat)), (1001, .box 42 [.sl (.pair (.int .i64) (.int .i64)) c0])] gt ?_
    refine zB [(4, .own 41)] [(41, .arr 35 (.pair (.int .i64) (.pair (.int .i64) (.int .i64))) ((((b1.1.take b1.2.toNat) ++ (List.replicate ((b1.1.length : Int) - b1.2).toNat ((0, 0, 0) : Int × Int × Int))) ++ (b1.1.drop (b1.2.toNat + ((b1.1.length : Int) - b1.2).toNat))).take b1.2.toNat)), (1001, .box 42 [.sl (.pair (.int .i64) (.int .i64)) c0])] ?_
    refine AW.ret ?_
    obtain rfl := Option.some.inj h
    exact zR [] [] [(2000, 41)]
  ·refine AW.seq ?_
   refine zo ?_
   obtain ⟨c9, h⟩ := ck_some.1 h
   refine zB [(0, .own 1000), (1, .fn (.func 81) [] [.bp 1001 0]), (5, .int .i64 v0), (6, .int .i64 (v0 + 1))] [(1000, .arr 35 (.pair (.int .i64) (.pair (.int .i64) (.int .i64))) s), (1001, .box 42 [.sl (.pair (.int .i64) (.int .i64)) c0])] ?_
   refine AW.block ?_
   obtain ⟨rv14, hw10, ho11⟩ := Option.bind_eq_some_iff.1 h
   refine AW.loopO (slices_DeleteFunc_3_b1 c0) (fun st1 => ⟨fr [(0, .own 1000), (1, .fn (.func 81) [] [.bp 1001 0]), (5, .int .i64 st1.2.1), (6, .int .i64 st1.2.2)], hpGet [(1000, .arr 35 (.pair (.int .i64) (.pair (.int .i64) (.int .i64))) st1.1), (1001, .box 42 [.sl (.pair (.int .i64) (.int .i64)) c0])], gt⟩) (s, v0, (v0 + 1)) hw10 (zL [] [] []) ?_
   as_aux_lemma =>
    intro st1 x13 h hd12
    unfold slices_DeleteFunc_3_b1 at h
    refine AW.seq ?_
    refine zo ?_
    refine zB [(0, .own 1000), (1, .fn (.func 81) [] [.bp 1001 0]), (5, .int .i64 st1.2.1), (6, .int .i64 st1.2.2), (19, .bool (decide (st1.2.2 < (st1.1.length : Int))))] [(1000, .arr 35 (.pair (.int .i64) (.pair (.int .i64) (.int .i64))) st1.1), (1001, .box 42 [.sl (.pair (.int .i64) (.int .i64)) c0])] ?_
    refine zQ h (fun hb15 h => ?_) (fun hb15 h => ?_)
    ·refine zk ?_
     refine AW.seq ?_
     refine AW.block ?_
     refine zo ?_
     obtain ⟨c16, h⟩ := ck_some.1 h
     obtain ⟨c17, h⟩ := ck_some.1 h
     refine zS 5 [(0, .own 1000), (1, .fn (.func 81) [] [.bp 1001 0]), (5, .int .i64 st1.2.1), (6, .int .i64 st1.2.2), (7, .bp 7 0), (25, .agg [.int .i64 (st1.1.getD st1.2.2.toNat (0, 0, 0)).1, .int .i64 (st1.1.getD st1.2.2.toNat (0, 0, 0)).2.1, .int .i64 (st1.1.getD st1.2.2.toNat (0, 0, 0)).2.2])] [(7, .box 35 [.int .i64 0, .int .i64 0, .int .i64 0]), (1000, .arr 35 (.pair (.int .i64) (.pair (.int .i64) (.int .i64))) st1.1), (1001, .box 42 [.sl (.pair (.int .i64) (.int .i64)) c0])] ?_
     refine zB [(0, .own 1000), (1, .fn (.func 81) [] [.bp 1001 0]), (5, .int .i64 st1.2.1), (6, .int .i64 st1.2.2), (7, .bp 7 0)] [(7, .box 35 [.int .i64 (st1.1.getD st1.2.2.toNat (0, 0, 0)).1, .int .i64 (st1.1.getD st1.2.2.toNat (0, 0, 0)).2.1, .int .i64 (st1.1.getD st1.2.2.toNat (0, 0, 0)).2.2]), (1000, .arr 35 (.pair (.int .i64) (.pair (.int .i64) (.int .i64))) st1.1), (1001, .box 42 [.sl (.pair (.int .i64) (.int .i64)) c0])] ?_
     refine zo ?_
     refine zS 2 [(0, .own 1000), (1, .fn (.func 81) [] [.bp 1001 0]), (5, .int .i64 st1.2.1), (6, .int .i64 st1.2.2), (7, .bp 7 0), (26, .fn (.func 81) [] [.bp 1001 0]), (27, .agg [.int .i64 (st1.1.getD st1.2.2.toNat (0, 0, 0)).1, .int .i64 (st1.1.getD st1.2.2.toNat (0, 0, 0)).2.1, .int .i64 (st1.1.getD st1.2.2.toNat (0, 0, 0)).2.2])] [(7, .box 35 [.int .i64 (st1.1.getD st1.2.2.toNat (0, 0, 0)).1, .int .i64 (st1.1.getD st1.2.2.toNat (0, 0, 0)).2.1, .int .i64 (st1.1.getD st1.2.2.toNat (0, 0, 0)).2.2]), (1000, .arr 35 (.pair (.int .i64) (.pair (.int .i64) (.int .i64))) st1.1), (1001, .box 42 [.sl (.pair (.int .i64) (.int .i64)) c0])] ?_
     obtain ⟨v0_2, hv18, h⟩ := Option.bind_eq_some_iff.1 h
     refine zC [] [(1000, 1001)] (hc_delay_Held_1 (st1.1.getD st1.2.2.toNat (0, 0, 0)) c0 hv18) [(0, .own 1000), (1, .fn (.func 81) [] [.bp 1001 0]), (5, .int .i64 st1.2.1), (6, .int .i64 st1.2.2), (7, .bp 7 0), (28, .bool v0_2)] [(7, .box 35 [.int .i64 (st1.1.getD st1.2.2.toNat (0, 0, 0)).1, .int .i64 (st1.1.getD st1.2.2.toNat (0, 0, 0)).2.1, .int .i64 (st1.1.getD st1.2.2.toNat (0, 0, 0)).2.2]), (1000, .arr 35 (.pair (.int .i64) (.pair (.int .i64) (.int .i64))) st1.1), (1001, .box 42 [.sl (.pair (.int .i64) (.int .i64)) c0])] ?_
     refine zB [(0, .own 1000), (1, .fn (.func 81) [] [.bp 1001 0]), (5, .int .i64 st1.2.1), (6, .int .i64 st1.2.2), (7, .bp 7 0), (29, .bool (!v0_2))] [(7, .box 35 [.int .i64 (st1.1.getD st1.2.2.toNat (0, 0, 0)).1, .int .i64 (st1.1.getD st1.2.2.toNat (0, 0, 0)).2.1, .int .i64 (st1.1.getD st1.2.2.toNat (0, 0, 0)).2.2]), (1000, .arr 35 (.pair (.int .i64) (.pair (.int .i64) (.int .i64))) st1.1), (1001, .box 42 [.sl (.pair (.int .i64) (.int .i64)) c0])] ?_
     refine zQ h (fun hb19 h => ?_) (fun hb19 h => ?_)
     ·refine zo ?_
      obtain ⟨c20, h⟩ := ck_some.1 h
      obtain ⟨c21, h⟩ := ck_some.1 h
      refine zB [(0, .own 1000), (1, .fn (.func 81) [] [.bp 1001 0]), (5, .int .i64 st1.2.1), (6, .int .i64 st1.2.2)] [(1000, .arr 35 (.pair (.int .i64) (.pair (.int .i64) (.int .i64))) (st1.1.set st1.2.1.toNat (st1.1.getD st1.2.2.toNat (0, 0, 0)))), (1001, .box 42 [.sl (.pair (.int .i64) (.int .i64)) c0])] ?_
      refine AW.ops ?_
      obtain ⟨c22, h⟩ := ck_some.1 h
      refine zA [(0, .own 1000), (1, .fn (.func 81) [] [.bp 1001 0]), (5, .int .i64 (st1.2.1 + 1)), (6, .int .i64 st1.2.2)] [(1000, .arr 35 (.pair (.int .i64) (.pair (.int .i64) (.int .i64))) (st1.1.set st1.2.1.toNat (st1.1.getD st1.2.2.toNat (0, 0, 0)))), (1001, .box 42 [.sl (.pair (.int .i64) (.int .i64)) c0])] ?_
      refine ablock_n ?_
      refine athen_n ?_
      refine AW.ops ?_
      obtain ⟨c23, h⟩ := ck_some.1 h
      refine zA [(0, .own 1000), (1, .fn (.func 81) [] [.bp 1001 0]), (5, .int .i64 (st1.2.1 + 1)), (6, .int .i64 (st1.2.2 + 1))] [(1000, .arr 35 (.pair (.int .i64) (.pair (.int .i64) (.int .i64))) (st1.1.set st1.2.1.toNat (st1.1.getD st1.2.2.toNat (0, 0, 0)))), (1001, .box 42 [.sl (.pair (.int .i64) (.int .i64)) c0])] ?_
      obtain rfl := Option.some.inj h
      exact ⟨_, rfl, zL [] [] []⟩
     ·refine zm ?_
      refine athen_n ?_
      refine AW.ops ?_
      obtain ⟨c24, h⟩ := ck_some.1 h
      refine zA [(0, .own 1000), (1, .fn (.func 81) [] [.bp 1001 0]), (5, .int .i64 st1.2.1), (6, .int .i64 (st1.2.2 + 1))] [(1000, .arr 35 (.pair (.int .i64) (.pair (.int .i64) (.int .i64))) st1.1), (1001, .box 42 [.sl (.pair (.int .i64) (.int .i64)) c0])] ?_
      obtain rfl := Option.some.inj h
      exact ⟨_, rfl, zL [] [] []⟩
    ·refine AW.exit ?_
     refine athen_e ?_
     obtain rfl := Option.some.inj h
     rw [← hd12 _ rfl] at ho11
     have h := ho11
     refine athen_e ?_
     refine ablock_s ?_
     refine athen_n ?_
     exact AW.weaken (zL [] [] []) (hk_slices_DeleteFunc_3_k1 _ h)

theorem hc_delay_Held (x0 : List (List (Int × Bool))) (fences : List (Int × Int)) {r : (List (Int × Int × Int)) × Int} (h : delay_Held x0 fences = some r) : HC Try.prog 34 [] [.sl (.sl (.pair (.int .i64) .bool)) x0, .sl (.pair (.int .i64) (.int .i64)) fences] [(2000, .arr 35 (.pair (.int .i64) (.pair (.int .i64) (.int .i64))) r.1)] (.tup [.own 2000, .int .i64 r.2]) := by
 unfold delay_Held at h
 refine zH Try.func34 [.tmp 4, .tmp 5] 21 ?_
 refine zo ?_
 refine zB [(0, .sl (.sl (.pair (.int .i64) .bool)) x0), (3, .bp 3 0)] [(3, .box 42 [.sl (.pair (.int .i64) (.int .i64)) fences])] ?_
 refine zo ?_
 refine zS 2 [(3, .bp 3 0), (9, .sl (.sl (.pair (.int .i64) .bool)) x0), (10, .sl (.pair (.int .i64) (.int .i64)) fences)] [(3, .box 42 [.sl (.pair (.int .i64) (.int .i64)) fences])] ?_
 obtain ⟨v0, hv1, h⟩ := Option.bind_eq_some_iff.1 h
 refine zC [] [] (hc_delay_fenced x0 fences hv1) [(3, .bp 3 0), (11, .tup [.sl (.sl (.pair (.int .i64) .bool)) v0.1, .int .i64 v0.2])] [(3, .box 42 [.sl (.pair (.int .i64) (.int .i64)) fences])] ?_
 refine zB [(3, .bp 3 0), (6, .sl (.sl (.pair (.int .i64) .bool)) v0.1), (7, .int .i64 v0.2)] [(3, .box 42 [.sl (.pair (.int .i64) (.int .i64)) fences])] ?_
 refine AW.seq ?_
 refine zo ?_
 refine zB [(3, .bp 3 0), (6, .sl (.sl (.pair (.int .i64) .bool)) v0.1), (7, .int .i64 v0.2), (15, .bool (!(decide (v0.2 = 0))))] [(3, .box 42 [.sl (.pair (.int .i64) (.int .i64)) fences])] ?_
 refine zQ h (fun hb2 h => ?_) (fun hb2 h => ?_)
 ·refine zo ?_
  refine zB [(4, .cv (.slice none 0 0)), (5, .int .i64 v0.2)] [] ?_
  refine zr ?_
  obtain rfl := Option.some.inj h
  exact zR [] [2000] []
 ·refine zk ?_
  refine zo ?_
  refine zS 1 [(3, .bp 3 0), (17, .sl (.sl (.pair (.int .i64) .bool)) v0.1)] [(3, .box 42 [.sl (.pair (.int .i64) (.int .i64)) fences])] ?_
  obtain ⟨v0_2, hv3, h⟩ := Option.bind_eq_some_iff.1 h
  refine zC [] [] (hc_delay_accesses_pairs v0.1 hv3) [(3, .bp 3 0), (18, .own 28000)] [(3, .box 42 [.sl (.pair (.int .i64) (.int .i64)) fences]), (28000, .arr 35 (.pair (.int .i64) (.pair (.int .i64) (.int .i64))) v0_2)] ?_
  refine zS 1 [(18, .own 28000), (19, .fn (.func 81) [] [.bp 3 0])] [(3, .box 42 [.sl (.pair (.int .i64) (.int .i64)) fences]), (28000, .arr 35 (.pair (.int .i64) (.pair (.int .i64) (.int .i64))) v0_2)] ?_
  obtain ⟨v0_3, hv4, h⟩ := Option.bind_eq_some_iff.1 h
  refine zC [] [(1000, 28000), (1001, 3)] (hc_slices_DeleteFunc_3 v0_2 fences hv4) [(20, .own 30000)] [(30000, .arr 35 (.pair (.int .i64) (.pair (.int .i64) (.int .i64))) v0_3)] ?_
  refine zB [(4, .own 30000), (5, .int .i64 0)] [(30000, .arr 35 (.pair (.int .i64) (.pair (.int .i64) (.int .i64))) v0_3)] ?_
  refine AW.ret ?_
  obtain rfl := Option.some.inj h
  exact zR [] [] [(2000, 30000)]

theorem hc_linealref09_holds (f : Int × Int) (p : Int × Int × Int) {r : Bool} (h : linealref09_holds f p = some r) : HC Try.prog 98 [] [.agg [.int .i64 f.1, .int .i64 f.2], .agg [.int .i64 p.1, .int .i64 p.2.1, .int .i64 p.2.2]] [] (.bool r) := by
 unfold linealref09_holds at h
 refine zH Try.func98 [.tmp 4] 24 ?_
 refine zo ?_
 refine zB [(2, .bp 2 0), (3, .bp 3 0)] [(2, .box 110 [.int .i64 f.1, .int .i64 f.2]), (3, .box 35 [.int .i64 p.1, .int .i64 p.2.1, .int .i64 p.2.2])] ?_
 refine zo ?_
 refine zS 5 [(2, .bp 2 0), (3, .bp 3 0), (9, .bool (decide (f.1 = p.1)))] [(2, .box 110 [.int .i64 f.1, .int .i64 f.2]), (3, .box 35 [.int .i64 p.1, .int .i64 p.2.1, .int .i64 p.2.2])] ?_
 refine zS 1 [(2, .bp 2 0), (3, .bp 3 0), (10, .bool (decide (f.1 = p.1)))] [(2, .box 110 [.int .i64 f.1, .int .i64 f.2]), (3, .box 35 [.int .i64 p.1, .int .i64 p.2.1, .int .i64 p.2.2])] ?_
 rcases zI h with ⟨hb1, h⟩ | ⟨hb1, h⟩
 ·refine zS 5 [(2, .bp 2 0), (3, .bp 3 0), (10, .bool true), (15, .bool (decide (p.2.1 ≤ f.2)))] [(2, .box 110 [.int .i64 f.1, .int .i64 f.2]), (3, .box 35 [.int .i64 p.1, .int .i64 p.2.1, .int .i64 p.2.2])] ?_
  refine zS 2 [(2, .bp 2 0), (3, .bp 3 0), (17, .bool (decide (p.2.1 ≤ f.2)))] [(2, .box 110 [.int .i64 f.1, .int .i64 f.2]), (3, .box 35 [.int .i64 p.1, .int .i64 p.2.1, .int .i64 p.2.2])] ?_
  rcases zI h with ⟨hb2, h⟩ | ⟨hb2, h⟩
  ·refine zS 5 [(17, .bool true), (22, .bool (decide (f.2 < p.2.2)))] [] ?_
   refine zB [(4, .bool (decide (f.2 < p.2.2)))] [] ?_
   refine AW.ret ?_
   obtain rfl := Option.some.inj h
   exact zR [] [] []
  ·refine zS 4 [(17, .bool false), (19, .cv (undef)), (21, .cv (undef))] [] ?_
   refine zB [(4, .bool false)] [] ?_
   refine AW.ret ?_
   obtain rfl := Option.some.inj h
   exact zR [] [] []
 ·refine zS 4 [(2, .bp 2 0), (3, .bp 3 0), (10, .bool false), (12, .cv (undef)), (14, .cv (undef))] [(2, .box 110 [.int .i64 f.1, .int .i64 f.2]), (3, .box 35 [.int .i64 p.1, .int .i64 p.2.1, .int .i64 p.2.2])] ?_
  refine zS 5 [(3, .bp 3 0), (17, .bool false), (19, .cv (undef))] [(3, .box 35 [.int .i64 p.1, .int .i64 p.2.1, .int .i64 p.2.2])] ?_
  refine zB [(4, .bool false)] [] ?_
  refine AW.ret ?_
  obtain rfl := Option.some.inj h
  exact zR [] [] []

theorem hc_linealref09_held (l : List (Int × Int)) (p : Int × Int × Int) {r : Bool} (h : linealref09_held l p = some r) : HC Try.prog 84 [] [.sl (.pair (.int .i64) (.int .i64)) l, .agg [.int .i64 p.1, .int .i64 p.2.1, .int .i64 p.2.2]] [] (.bool r) := by
 unfold linealref09_held at h
 refine zH Try.func84 [.tmp 4] 17 ?_
 refine zo ?_
 refine zB [(0, .sl (.pair (.int .i64) (.int .i64)) l), (3, .bp 3 0)] [(3, .box 35 [.int .i64 p.1, .int .i64 p.2.1, .int .i64 p.2.2])] ?_
 refine AW.have1 (fun _ : Unit => linealref09_held_k1 = some r) (fun _ => ⟨fr [], hpGet [], gt⟩) (fun _ h => ?_) (fun hk_linealref09_held_k1 => ?_)
 ·as_aux_lemma =>
   unfold linealref09_held_k1 at h
   refine zo ?_
   refine zB [(4, .bool false)] [] ?_
   refine AW.ret ?_
   obtain rfl := Option.some.inj h
   exact zR [] [] []
 ·refine AW.seq ?_
  refine zo ?_
  refine zB [(3, .bp 3 0), (7, .sl (.pair (.int .i64) (.int .i64)) l), (8, .int .i64 (l.length : Int)), (9, .int .i64 0)] [(3, .box 35 [.int .i64 p.1, .int .i64 p.2.1, .int .i64 p.2.2])] ?_
  refine AW.block ?_
  obtain ⟨rv5, hw1, ho2⟩ := Option.bind_eq_some_iff.1 h
  refine AW.loopO (linealref09_held_b1 l p) (fun st1 => ⟨fr [(3, .bp 3 0), (7, .sl (.pair (.int .i64) (.int .i64)) l), (8, .int .i64 (l.length : Int)), (9, .int .i64 st1)], hpGet [(3, .box 35 [.int .i64 p.1, .int .i64 p.2.1, .int .i64 p.2.2])], gt⟩) 0 hw1 (zL [] [] []) ?_
  as_aux_lemma =>
   intro st1 x4 h hd3
   unfold linealref09_held_b1 at h
   refine zo ?_
   refine zB [(3, .bp 3 0), (7, .sl (.pair (.int .i64) (.int .i64)) l), (8, .int .i64 (l.length : Int)), (9, .int .i64 st1), (10, .bool (decide (st1 < (l.length : Int))))] [(3, .box 35 [.int .i64 p.1, .int .i64 p.2.1, .int .i64 p.2.2])] ?_
   refine AW.seq ?_
   refine zQ h (fun hb6 h => ?_) (fun hb6 h => ?_)
   ·refine zk ?_
    refine AW.seq ?_
    refine AW.block ?_
    refine zo ?_
    obtain ⟨c7, h⟩ := ck_some.1 h
    obtain ⟨c8, h⟩ := ck_some.1 h
    refine zB [(3, .bp 3 0), (6, .bp 6 0), (7, .sl (.pair (.int .i64) (.int .i64)) l), (8, .int .i64 (l.length : Int)), (9, .int .i64 st1)] [(3, .box 35 [.int .i64 p.1, .int .i64 p.2.1, .int .i64 p.2.2]), (6, .box 110 [.int .i64 (l.getD st1.toNat (0, 0)).1, .int .i64 (l.getD st1.toNat (0, 0)).2])] ?_
    refine zo ?_
    refine zS 2 [(3, .bp 3 0), (7, .sl (.pair (.int .i64) (.int .i64)) l), (8, .int .i64 (l.length : Int)), (9, .int .i64 st1), (13, .agg [.int .i64 (l.getD st1.toNat (0, 0)).1, .int .i64 (l.getD st1.toNat (0, 0)).2]), (14, .agg [.int .i64 p.1, .int .i64 p.2.1, .int .i64 p.2.2])] [(3, .box 35 [.int .i64 p.1, .int .i64 p.2.1, .int .i64 p.2.2])] ?_
    obtain ⟨v0, hv9, h⟩ := Option.bind_eq_some_iff.1 h
    refine zC [] [] (hc_linealref09_holds (l.getD st1.toNat (0, 0)) p hv9) [(3, .bp 3 0), (7, .sl (.pair (.int .i64) (.int .i64)) l), (8, .int .i64 (l.length : Int)), (9, .int .i64 st1), (15, .bool v0)] [(3, .box 35 [.int .i64 p.1, .int .i64 p.2.1, .int .i64 p.2.2])] ?_
    refine zB [(3, .bp 3 0), (7, .sl (.pair (.int .i64) (.int .i64)) l), (8, .int .i64 (l.length : Int)), (9, .int .i64 st1), (15, .bool v0)] [(3, .box 35 [.int .i64 p.1, .int .i64 p.2.1, .int .i64 p.2.2])] ?_
    refine zQ h (fun hb10 h => ?_) (fun hb10 h => ?_)
    ·refine zo ?_
     refine zB [(4, .bool true)] [] ?_
     refine AW.ret ?_
     refine ablock_r ?_
     refine athen_r ?_
     obtain rfl := Option.some.inj h
     try rw [← hd3 _ rfl] at ho2
     have h := ho2
     try simp only at h
     refine athen_r ?_
     refine ablock_r ?_
     refine athen_r ?_
     obtain rfl := Option.some.inj h
     exact zR [] [] []
    ·refine zm ?_
     refine athen_n ?_
     refine AW.ops ?_
     obtain ⟨c11, h⟩ := ck_some.1 h
     refine zA [(3, .bp 3 0), (7, .sl (.pair (.int .i64) (.int .i64)) l), (8, .int .i64 (l.length : Int)), (9, .int .i64 (st1 + 1))] [(3, .box 35 [.int .i64 p.1, .int .i64 p.2.1, .int .i64 p.2.2])] ?_
     obtain rfl := Option.some.inj h
     exact ⟨_, rfl, zL [] [] []⟩
   ·refine AW.exit ?_
    refine athen_e ?_
    obtain rfl := Option.some.inj h
    try rw [← hd3 _ rfl] at ho2
    have h := ho2
    try simp only at h
    refine athen_e ?_
    refine ablock_s ?_
    refine athen_n ?_
    exact AW.weaken (zL [] [] []) (hk_linealref09_held_k1 () h)

theorem hc_linealref09_Held (x0 : List (List (Int × Bool))) (l : List (Int × Int)) {r : (List (Int × Int × Int)) × Int} (h : linealref09_Held x0 l = some r) : HC Try.prog 35 [] [.sl (.sl (.pair (.int .i64) .bool)) x0, .sl (.pair (.int .i64) (.int .i64)) l] [(2000, .arr 35 (.pair (.int .i64) (.pair (.int .i64) (.int .i64))) r.1)] (.tup [.own 2000, .int .i64 r.2]) := by
 unfold linealref09_Held at h
 refine zH Try.func35 [.tmp 4, .tmp 5] 38 ?_
 refine zo ?_
 refine zB [(0, .sl (.sl (.pair (.int .i64) .bool)) x0), (1, .sl (.pair (.int .i64) (.int .i64)) l)] [] ?_
 refine AW.seq ?_
 refine zo ?_
 refine zS 2 [(0, .sl (.sl (.pair (.int .i64) .bool)) x0), (1, .sl (.pair (.int .i64) (.int .i64)) l), (12, .sl (.sl (.pair (.int .i64) .bool)) x0), (13, .sl (.pair (.int .i64) (.int .i64)) l)] [] ?_
 obtain ⟨v0, hv1, h⟩ := Option.bind_eq_some_iff.1 h
 refine zC [] [] (hc_linealref09_fenced x0 l hv1) [(0, .sl (.sl (.pair (.int .i64) .bool)) x0), (1, .sl (.pair (.int .i64) (.int .i64)) l), (14, .int .i64 v0)] [] ?_
 refine zB [(0, .sl (.sl (.pair (.int .i64) .bool)) x0), (1, .sl (.pair (.int .i64) (.int .i64)) l), (6, .int .i64 v0)] [] ?_
 refine zo ?_
 refine zB [(0, .sl (.sl (.pair (.int .i64) .bool)) x0), (1, .sl (.pair (.int .i64) (.int .i64)) l), (6, .int .i64 v0), (16, .bool (!(decide (v0 = 0))))] [] ?_
 refine zQ h (fun hb2 h => ?_) (fun hb2 h => ?_)
 ·refine zo ?_
  refine zB [(4, .cv (.slice none 0 0)), (5, .int .i64 v0)] [] ?_
  refine zr ?_
  obtain rfl := Option.some.inj h
  exact zR [] [2000] []
 ·refine zk ?_
  refine zo ?_
  refine zB [(0, .sl (.sl (.pair (.int .i64) .bool)) x0), (1, .sl (.pair (.int .i64) (.int .i64)) l), (7, .cv (.slice none 0 0))] [] ?_
  refine zo ?_
  refine zS 1 [(1, .sl (.pair (.int .i64) (.int .i64)) l), (7, .cv (.slice none 0 0)), (19, .sl (.sl (.pair (.int .i64) .bool)) x0)] [] ?_
  obtain ⟨v0_2, hv3, h⟩ := Option.bind_eq_some_iff.1 h
  refine zC [] [] (hc_linealref09_Pairs x0 hv3) [(1, .sl (.pair (.int .i64) (.int .i64)) l), (7, .cv (.slice none 0 0)), (20, .tup [.own 30000, .int .i64 v0_2.2])] [(30000, .arr 35 (.pair (.int .i64) (.pair (.int .i64) (.int .i64))) v0_2.1)] ?_
  refine zB [(1, .sl (.pair (.int .i64) (.int .i64)) l), (7, .cv (.slice none 0 0)), (8, .own 30000)] [(30000, .arr 35 (.pair (.int .i64) (.pair (.int .i64) (.int .i64))) v0_2.1)] ?_
  refine AW.have1 (fun b1 : (List (Int × Int × Int)) => linealref09_Held_k1 b1 = some r) (fun b1 => ⟨fr [(7, .own 35)], hpGet [(35, .arr 35 (.pair (.int .i64) (.pair (.int .i64) (.int .i64))) b1)], gt⟩) (fun b1 h => ?_) (fun hk_linealref09_Held_k1 => ?_)
  ·as_aux_lemma =>
    unfold linealref09_Held_k1 at h
    refine zo ?_
    refine zB [(4, .own 35), (5, .int .i64 0)] [(35, .arr 35 (.pair (.int .i64) (.pair (.int .i64) (.int .i64))) b1)] ?_
    refine AW.ret ?_
    obtain rfl := Option.some.inj h
    exact zR [] [] [(2000, 35)]
  ·refine AW.seq ?_
   refine zo ?_
   refine zB [(1, .sl (.pair (.int .i64) (.int .i64)) l), (7, .cv (.slice none 0 0)), (23, .own 30000), (24, .int .i64 (v0_2.1.length : Int)), (25, .int .i64 0)] [(30000, .arr 35 (.pair (.int .i64) (.pair (.int .i64) (.int .i64))) v0_2.1)] ?_
   refine AW.block ?_
   obtain ⟨rv8, hw4, ho5⟩ := Option.bind_eq_some_iff.1 h
   refine AW.loopO (linealref09_Held_b1 l v0_2) (fun st1 => ⟨fr [(1, .sl (.pair (.int .i64) (.int .i64)) l), (7, .own 35), (23, .own 30000), (24, .int .i64 (v0_2.1.length : Int)), (25, .int .i64 st1.2)], hpGet [(35, .arr 35 (.pair (.int .i64) (.pair (.int .i64) (.int .i64))) st1.1), (30000, .arr 35 (.pair (.int .i64) (.pair (.int .i64) (.int .i64))) v0_2.1)], gt⟩) ([], 0) hw4 (zL [] [35] []) ?_
   as_aux_lemma =>
    intro st1 x7 h hd6
    unfold linealref09_Held_b1 at h
    refine zo ?_
    refine zB [(1, .sl (.pair (.int .i64) (.int .i64)) l), (7, .own 35), (23, .own 30000), (24, .int .i64 (v0_2.1.length : Int)), (25, .int .i64 st1.2), (26, .bool (decide (st1.2 < (v0_2.1.length : Int))))] [(35, .arr 35 (.pair (.int .i64) (.pair (.int .i64) (.int .i64))) st1.1), (30000, .arr 35 (.pair (.int .i64) (.pair (.int .i64) (.int .i64))) v0_2.1)] ?_
    refine AW.seq ?_
    refine zQ h (fun hb9 h => ?_) (fun hb9 h => ?_)
    ·refine zk ?_
     refine AW.seq ?_
     refine AW.block ?_
     refine zo ?_
     obtain ⟨c10, h⟩ := ck_some.1 h
     obtain ⟨c11, h⟩ := ck_some.1 h
     refine zB [(1, .sl (.pair (.int .i64) (.int .i64)) l), (7, .own 35), (11, .bp 11 0), (23, .own 30000), (24, .int .i64 (v0_2.1.length : Int)), (25, .int .i64 st1.2)] [(11, .box 35 [.int .i64 (v0_2.1.getD st1.2.toNat (0, 0, 0)).1, .int .i64 (v0_2.1.getD st1.2.toNat (0, 0, 0)).2.1, .int .i64 (v0_2.1.getD st1.2.toNat (0, 0, 0)).2.2]), (35, .arr 35 (.pair (.int .i64) (.pair (.int .i64) (.int .i64))) st1.1), (30000, .arr 35 (.pair (.int .i64) (.pair (.int .i64) (.int .i64))) v0_2.1)] ?_
     refine zo ?_
     refine zS 2 [(1, .sl (.pair (.int .i64) (.int .i64)) l), (7, .own 35), (11, .bp 11 0), (23, .own 30000), (24, .int .i64 (v0_2.1.length : Int)), (25, .int .i64 st1.2), (29, .sl (.pair (.int .i64) (.int .i64)) l), (30, .agg [.int .i64 (v0_2.1.getD st1.2.toNat (0, 0, 0)).1, .int .i64 (v0_2.1.getD st1.2.toNat (0, 0, 0)).2.1, .int .i64 (v0_2.1.getD st1.2.toNat (0, 0, 0)).2.2])] [(11, .box 35 [.int .i64 (v0_2.1.getD st1.2.toNat (0, 0, 0)).1, .int .i64 (v0_2.1.getD st1.2.toNat (0, 0, 0)).2.1, .int .i64 (v0_2.1.getD st1.2.toNat (0, 0, 0)).2.2]), (35, .arr 35 (.pair (.int .i64) (.pair (.int .i64) (.int .i64))) st1.1), (30000, .arr 35 (.pair (.int .i64) (.pair (.int .i64) (.int .i64))) v0_2.1)] ?_
     obtain ⟨v0_3, hv12, h⟩ := Option.bind_eq_some_iff.1 h
     refine zC [] [] (hc_linealref09_held l (v0_2.1.getD st1.2.toNat (0, 0, 0)) hv12) [(1, .sl (.pair (.int .i64) (.int .i64)) l), (7, .own 35), (11, .bp 11 0), (23, .own 30000), (24, .int .i64 (v0_2.1.length : Int)), (25, .int .i64 st1.2), (31, .bool v0_3)] [(11, .box 35 [.int .i64 (v0_2.1.getD st1.2.toNat (0, 0, 0)).1, .int .i64 (v0_2.1.getD st1.2.toNat (0, 0, 0)).2.1, .int .i64 (v0_2.1.getD st1.2.toNat (0, 0, 0)).2.2]), (35, .arr 35 (.pair (.int .i64) (.pair (.int .i64) (.int .i64))) st1.1), (30000, .arr 35 (.pair (.int .i64) (.pair (.int .i64) (.int .i64))) v0_2.1)] ?_
     refine zB [(1, .sl (.pair (.int .i64) (.int .i64)) l), (7, .own 35), (11, .bp 11 0), (23, .own 30000), (24, .int .i64 (v0_2.1.length : Int)), (25, .int .i64 st1.2), (31, .bool v0_3)] [(11, .box 35 [.int .i64 (v0_2.1.getD st1.2.toNat (0, 0, 0)).1, .int .i64 (v0_2.1.getD st1.2.toNat (0, 0, 0)).2.1, .int .i64 (v0_2.1.getD st1.2.toNat (0, 0, 0)).2.2]), (35, .arr 35 (.pair (.int .i64) (.pair (.int .i64) (.int .i64))) st1.1), (30000, .arr 35 (.pair (.int .i64) (.pair (.int .i64) (.int .i64))) v0_2.1)] ?_
     refine zQ h (fun hb13 h => ?_) (fun hb13 h => ?_)
     ·refine AW.ops ?_
      obtain ⟨c14, h⟩ := ck_some.1 h
      refine zA [(1, .sl (.pair (.int .i64) (.int .i64)) l), (7, .own 35), (23, .own 30000), (24, .int .i64 (v0_2.1.length : Int)), (25, .int .i64 st1.2)] [(35, .arr 35 (.pair (.int .i64) (.pair (.int .i64) (.int .i64))) (st1.1 ++ [(v0_2.1.getD st1.2.toNat (0, 0, 0))])), (30000, .arr 35 (.pair (.int .i64) (.pair (.int .i64) (.int .i64))) v0_2.1)] ?_
      refine ablock_n ?_
      refine athen_n ?_
      refine AW.ops ?_
      obtain ⟨c15, h⟩ := ck_some.1 h
      refine zA [(1, .sl (.pair (.int .i64) (.int .i64)) l), (7, .own 35), (23, .own 30000), (24, .int .i64 (v0_2.1.length : Int)), (25, .int .i64 (st1.2 + 1))] [(35, .arr 35 (.pair (.int .i64) (.pair (.int .i64) (.int .i64))) (st1.1 ++ [(v0_2.1.getD st1.2.toNat (0, 0, 0))])), (30000, .arr 35 (.pair (.int .i64) (.pair (.int .i64) (.int .i64))) v0_2.1)] ?_
      obtain rfl := Option.some.inj h
      exact ⟨_, rfl, zL [] [] []⟩
     ·refine zm ?_
      refine athen_n ?_
      refine AW.ops ?_
      obtain ⟨c16, h⟩ := ck_some.1 h
      refine zA [(1, .sl (.pair (.int .i64) (.int .i64)) l), (7, .own 35), (23, .own 30000), (24, .int .i64 (v0_2.1.length : Int)), (25, .int .i64 (st1.2 + 1))] [(35, .arr 35 (.pair (.int .i64) (.pair (.int .i64) (.int .i64))) st1.1), (30000, .arr 35 (.pair (.int .i64) (.pair (.int .i64) (.int .i64))) v0_2.1)] ?_
      obtain rfl := Option.some.inj h
      exact ⟨_, rfl, zL [] [] []⟩
    ·refine AW.exit ?_
     refine athen_e ?_
     obtain rfl := Option.some.inj h
     rw [← hd6 _ rfl] at ho5
     have h := ho5
     refine athen_e ?_
     refine ablock_s ?_
     refine athen_n ?_
     exact AW.weaken (zL [] [] []) (hk_linealref09_Held_k1 _ h)

theorem hc_delay_holdAll_1 (pair : Int × Int × Int) (a1 : List (Int × Int)) {r : Bool} (h : delay_holdAll_1 pair a1 = some r) : HC Try.prog 121 [(1000, .box 42 [.sl (.pair (.int .i64) (.int .i64)) a1])] [.agg [.int .i64 pair.1, .int .i64 pair.2.1, .int .i64 pair.2.2], .bp 1000 0] [(1000, .box 42 [.sl (.pair (.int .i64) (.int .i64)) a1])] (.bool r) := by
 unfold delay_holdAll_1 at h
 refine zH Try.func121 [.tmp 3] 8 ?_
 refine zo ?_
 refine zB [(1, .bp 1000 0), (2, .bp 2 0)] [(2, .box 35 [.int .i64 pair.1, .int .i64 pair.2.1, .int .i64 pair.2.2]), (1000, .box 42 [.sl (.pair (.int .i64) (.int .i64)) a1])] ?_
 refine zo ?_
 refine zS 2 [(4, .sl (.pair (.int .i64) (.int .i64)) a1), (5, .agg [.int .i64 pair.1, .int .i64 pair.2.1, .int .i64 pair.2.2])] [(1000, .box 42 [.sl (.pair (.int .i64) (.int .i64)) a1])] ?_
 obtain ⟨v0, hv1, h⟩ := Option.bind_eq_some_iff.1 h
 refine zC [] [] (hc_delay_isHeld a1 pair hv1) [(6, .bool v0)] [(1000, .box 42 [.sl (.pair (.int .i64) (.int .i64)) a1])] ?_
 refine zB [(3, .bool (!v0))] [(1000, .box 42 [.sl (.pair (.int .i64) (.int .i64)) a1])] ?_
 refine AW.ret ?_
 obtain rfl := Option.some.inj h
 exact zR [] [] []

end Go.Proofs.Ytdicomoggfhbfaa
