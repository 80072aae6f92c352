/-
  Made by wip/tool/dc.py out of the print of the program: contracts.
-/
import Derived.Test.YteclokkdgmacpaaGrp
import Derived.Test.YteclokkdgmacpaaSh7
import Derived.Test.YteclokkdgmacpaaGac1
import Derived.Test.YteclokkdgmacpaaGac3
import Derived.Test.YteclokkdgmacpaaGac7
import Derived.Test.YteclokkdgmacpaaGac8
import Derived.Test.YteclokkdgmacpaaGac9
namespace Go.Proofs.Yteclokkdgmacpaa
open Go.RowKit

set_option linter.unusedSimpArgs false
set_option linter.unusedVariables false
set_option linter.constructorNameAsVariable false

set_option maxRecDepth 100000
set_option maxHeartbeats 2000000

theorem hc_slices_IndexFunc_4 (s : List Int) (c0 : Int × (List (Int × Int × Int × Bool))) {r : Int} (h : slices_IndexFunc_4 s c0 = some r) : HC Try.prog 93 [] [.sl (.int .i64) s, .fn (.func 68) [] [.dp (.pair (.int .i64) (.sl (.pair (.int .i64) (.pair (.int .i64) (.pair (.int .i64) .bool))))) c0 0]] [] (.int .i64 r) := by
 unfold slices_IndexFunc_4 at h
 refine zH Try.func93 [.tmp 4] 19 ?_
 refine zo ?_
 refine zB [(0, .sl (.int .i64) s), (1, .fn (.func 68) [] [.dp (.pair (.int .i64) (.sl (.pair (.int .i64) (.pair (.int .i64) (.pair (.int .i64) .bool))))) c0 0])] [] ?_
 refine AW.have1 (fun _ : Unit => slices_IndexFunc_4_k1 = some r) (fun _ => ⟨fr [], hpGet [], gt⟩) (fun _ h => ?_) (fun hk_slices_IndexFunc_4_k1 => ?_)
 ·as_aux_lemma =>
   unfold slices_IndexFunc_4_k1 at h
   refine zo ?_
   refine zB [(4, .int .i64 (-1))] [] ?_
   refine AW.ret ?_
   obtain rfl := Option.some.inj h
   exact zR [] [] []
 ·refine AW.seq ?_
  refine zo ?_
  refine zB [(0, .sl (.int .i64) s), (1, .fn (.func 68) [] [.dp (.pair (.int .i64) (.sl (.pair (.int .i64) (.pair (.int .i64) (.pair (.int .i64) .bool))))) c0 0]), (7, .int .i64 (s.length : Int)), (8, .int .i64 0)] [] ?_
  refine AW.block ?_
  obtain ⟨rv5, hw1, ho2⟩ := Option.bind_eq_some_iff.1 h
  refine AW.loopO (slices_IndexFunc_4_b1 s c0) (fun st1 => ⟨fr [(0, .sl (.int .i64) s), (1, .fn (.func 68) [] [.dp (.pair (.int .i64) (.sl (.pair (.int .i64) (.pair (.int .i64) (.pair (.int .i64) .bool))))) c0 0]), (7, .int .i64 (s.length : Int)), (8, .int .i64 st1)], hpGet [], gt⟩) 0 hw1 (zL [] [] []) ?_
  as_aux_lemma =>
   intro st1 x4 h hd3
   unfold slices_IndexFunc_4_b1 at h
   refine zo ?_
   refine zB [(0, .sl (.int .i64) s), (1, .fn (.func 68) [] [.dp (.pair (.int .i64) (.sl (.pair (.int .i64) (.pair (.int .i64) (.pair (.int .i64) .bool))))) c0 0]), (7, .int .i64 (s.length : Int)), (8, .int .i64 st1), (9, .bool (decide (st1 < (s.length : Int))))] [] ?_
   refine AW.seq ?_
   refine zQ h (fun hb6 h => ?_) (fun hb6 h => ?_)
   ·refine zk ?_
    refine AW.seq ?_
    refine AW.block ?_
    refine zo ?_
    refine zB [(0, .sl (.int .i64) s), (1, .fn (.func 68) [] [.dp (.pair (.int .i64) (.sl (.pair (.int .i64) (.pair (.int .i64) (.pair (.int .i64) .bool))))) c0 0]), (5, .int .i64 st1), (7, .int .i64 (s.length : Int)), (8, .int .i64 st1)] [] ?_
    refine zo ?_
    obtain ⟨c7, h⟩ := ck_some.1 h
    obtain ⟨c8, h⟩ := ck_some.1 h
    refine zS 5 [(0, .sl (.int .i64) s), (1, .fn (.func 68) [] [.dp (.pair (.int .i64) (.sl (.pair (.int .i64) (.pair (.int .i64) (.pair (.int .i64) .bool))))) c0 0]), (5, .int .i64 st1), (7, .int .i64 (s.length : Int)), (8, .int .i64 st1), (11, .fn (.func 68) [] [.dp (.pair (.int .i64) (.sl (.pair (.int .i64) (.pair (.int .i64) (.pair (.int .i64) .bool))))) c0 0]), (15, .int .i64 (s.getD st1.toNat 0))] [] ?_
    obtain ⟨v0, hv9, h⟩ := Option.bind_eq_some_iff.1 h
    refine zC [] [] (hc_progress_Ends_1 (s.getD st1.toNat 0) c0 hv9) [(0, .sl (.int .i64) s), (1, .fn (.func 68) [] [.dp (.pair (.int .i64) (.sl (.pair (.int .i64) (.pair (.int .i64) (.pair (.int .i64) .bool))))) c0 0]), (5, .int .i64 st1), (7, .int .i64 (s.length : Int)), (8, .int .i64 st1), (16, .bool v0)] [] ?_
    refine zB [(0, .sl (.int .i64) s), (1, .fn (.func 68) [] [.dp (.pair (.int .i64) (.sl (.pair (.int .i64) (.pair (.int .i64) (.pair (.int .i64) .bool))))) c0 0]), (5, .int .i64 st1), (7, .int .i64 (s.length : Int)), (8, .int .i64 st1), (16, .bool v0)] [] ?_
    refine zQ h (fun hb10 h => ?_) (fun hb10 h => ?_)
    ·refine zo ?_
     refine zB [(4, .int .i64 st1)] [] ?_
     refine AW.ret ?_
     refine ablock_r ?_
     refine athen_r ?_
     obtain rfl := Option.some.inj h
     rw [← hd3 _ rfl] at ho2
     have h := ho2
     try simp only at h
     refine athen_r ?_
     refine ablock_r ?_
     refine athen_r ?_
     obtain rfl := Option.some.inj h
     exact zR [] [] []
    ·refine zm ?_
     refine athen_n ?_
     refine AW.ops ?_
     obtain ⟨c11, h⟩ := ck_some.1 h
     refine zA [(0, .sl (.int .i64) s), (1, .fn (.func 68) [] [.dp (.pair (.int .i64) (.sl (.pair (.int .i64) (.pair (.int .i64) (.pair (.int .i64) .bool))))) c0 0]), (7, .int .i64 (s.length : Int)), (8, .int .i64 (st1 + 1))] [] ?_
     obtain rfl := Option.some.inj h
     exact ⟨_, rfl, zL [] [] []⟩
   ·refine AW.exit ?_
    refine athen_e ?_
    obtain rfl := Option.some.inj h
    rw [← hd3 _ rfl] at ho2
    have h := ho2
    try simp only at h
    refine athen_e ?_
    refine ablock_s ?_
    refine athen_n ?_
    exact AW.weaken (zL [] [] []) (hk_slices_IndexFunc_4_k1 () h)

theorem hc_progress_Ends_1_2 (place : Int) (a1 : Int × (List (Int × Int × Int × Bool))) {r : Bool} (h : progress_Ends_1_2 place a1 = some r) : HC Try.prog 68 [(1000, .box 69 [.int .i64 a1.1, .sl (.pair (.int .i64) (.pair (.int .i64) (.pair (.int .i64) .bool))) a1.2])] [.int .i64 place, .bp 1000 0] [(1000, .box 69 [.int .i64 a1.1, .sl (.pair (.int .i64) (.pair (.int .i64) (.pair (.int .i64) .bool))) a1.2])] (.bool r) := by
 unfold progress_Ends_1_2 at h
 refine zH Try.func68 [.tmp 3] 8 ?_
 refine zo ?_
 refine zB [(0, .int .i64 place), (1, .bp 1000 0)] [(1000, .box 69 [.int .i64 a1.1, .sl (.pair (.int .i64) (.pair (.int .i64) (.pair (.int .i64) .bool))) a1.2])] ?_
 refine zo ?_
 refine zS 2 [(4, .agg [.int .i64 a1.1, .sl (.pair (.int .i64) (.pair (.int .i64) (.pair (.int .i64) .bool))) a1.2]), (5, .int .i64 place)] [(1000, .box 69 [.int .i64 a1.1, .sl (.pair (.int .i64) (.pair (.int .i64) (.pair (.int .i64) .bool))) a1.2])] ?_
 obtain ⟨v0, hv1, h⟩ := Option.bind_eq_some_iff.1 h
 refine zC [] [] (hc_progress_graph_isEnd a1 place hv1) [(6, .bool v0)] [(1000, .box 69 [.int .i64 a1.1, .sl (.pair (.int .i64) (.pair (.int .i64) (.pair (.int .i64) .bool))) a1.2])] ?_
 refine zB [(3, .bool (!v0))] [(1000, .box 69 [.int .i64 a1.1, .sl (.pair (.int .i64) (.pair (.int .i64) (.pair (.int .i64) .bool))) a1.2])] ?_
 refine AW.ret ?_
 obtain rfl := Option.some.inj h
 exact zR [] [] []

theorem hc_slices_DeleteFunc (s : List Int) (c0 : Int × (List (Int × Int × Int × Bool))) {r : (List Int)} (h : slices_DeleteFunc s c0 = some r) : HC Try.prog 70 [(1000, .arr 3 (.int .i64) s), (1001, .box 69 [.int .i64 c0.1, .sl (.pair (.int .i64) (.pair (.int .i64) (.pair (.int .i64) .bool))) c0.2])] [.own 1000, .fn (.func 68) [] [.bp 1001 0]] [(1001, .box 69 [.int .i64 c0.1, .sl (.pair (.int .i64) (.pair (.int .i64) (.pair (.int .i64) .bool))) c0.2]), (2000, .arr 3 (.int .i64) r)] (.own 2000) := by
 unfold slices_DeleteFunc at h
 refine zH Try.func70 [.tmp 4] 42 ?_
 refine zo ?_
 refine zB [(0, .own 1000), (1, .fn (.func 68) [] [.bp 1001 0])] [(1000, .arr 3 (.int .i64) s), (1001, .box 69 [.int .i64 c0.1, .sl (.pair (.int .i64) (.pair (.int .i64) (.pair (.int .i64) .bool))) c0.2])] ?_
 refine zo ?_
 refine zS 2 [(0, .own 1000), (1, .fn (.func 68) [] [.bp 1001 0]), (8, .own 1000), (9, .fn (.func 68) [] [.bp 1001 0])] [(1000, .arr 3 (.int .i64) s), (1001, .box 69 [.int .i64 c0.1, .sl (.pair (.int .i64) (.pair (.int .i64) (.pair (.int .i64) .bool))) c0.2])] ?_
 obtain ⟨v0, hv1, h⟩ := Option.bind_eq_some_iff.1 h
 refine zC [1000, 1000001001] [] (hc_slices_IndexFunc_4 s c0 hv1) [(0, .own 1000), (1, .fn (.func 68) [] [.bp 1001 0]), (10, .int .i64 v0)] [(1000, .arr 3 (.int .i64) s), (1001, .box 69 [.int .i64 c0.1, .sl (.pair (.int .i64) (.pair (.int .i64) (.pair (.int .i64) .bool))) c0.2])] ?_
 refine zB [(0, .own 1000), (1, .fn (.func 68) [] [.bp 1001 0]), (5, .int .i64 v0)] [(1000, .arr 3 (.int .i64) s), (1001, .box 69 [.int .i64 c0.1, .sl (.pair (.int .i64) (.pair (.int .i64) (.pair (.int .i64) .bool))) c0.2])] ?_
 refine AW.seq ?_
 refine zo ?_
 refine zB [(0, .own 1000), (1, .fn (.func 68) [] [.bp 1001 0]), (5, .int .i64 v0), (12, .bool (decide (v0 = (-1))))] [(1000, .arr 3 (.int .i64) s), (1001, .box 69 [.int .i64 c0.1, .sl (.pair (.int .i64) (.pair (.int .i64) (.pair (.int .i64) .bool))) c0.2])] ?_
 refine zQ h (fun hb2 h => ?_) (fun hb2 h => ?_)
 ·refine zo ?_
  refine zB [(4, .own 1000)] [(1000, .arr 3 (.int .i64) s), (1001, .box 69 [.int .i64 c0.1, .sl (.pair (.int .i64) (.pair (.int .i64) (.pair (.int .i64) .bool))) c0.2])] ?_
  refine zr ?_
  obtain rfl := Option.some.inj h
  exact zR [] [] [(2000, 1000)]
 ·refine zk ?_
  refine AW.have1 (fun b1 : (List Int) × Int => slices_DeleteFunc_k1 b1 = some r) (fun b1 => ⟨fr [(0, .own 1000), (5, .int .i64 b1.2)], hpGet [(1000, .arr 3 (.int .i64) b1.1), (1001, .box 69 [.int .i64 c0.1, .sl (.pair (.int .i64) (.pair (.int .i64) (.pair (.int .i64) .bool))) c0.2])], gt⟩) (fun b1 h => ?_) (fun hk_slices_DeleteFunc_k1 => ?_)
  ·as_aux_lemma =>
    unfold slices_DeleteFunc_k1 at h
    refine zo ?_
    refine zS 2 [(0, .own 1000), (5, .int .i64 b1.2), (36, .own 1000), (37, .int .i64 b1.2)] [(1000, .arr 3 (.int .i64) b1.1), (1001, .box 69 [.int .i64 c0.1, .sl (.pair (.int .i64) (.pair (.int .i64) (.pair (.int .i64) .bool))) c0.2])] ?_
    obtain ⟨c3, h⟩ := ck_some.1 h
    obtain ⟨c4, h⟩ := ck_some.1 h
    refine AO.sliceView tab_ok (by decide) rfl rfl tab_25 rfl tab_3 rfl rfl rfl (b1.2) ((b1.1.length : Int)) (by first | assumption | omega | (simp only [go_sem, hb2]) <;> (with_reducible and_intros) <;> first | assumption | rfl | omega | (unfold maxLen; omega)) (by first | assumption | omega | (simp only [go_sem, hb2]) <;> (with_reducible and_intros) <;> first | assumption | rfl | omega | (unfold maxLen; omega)) (by first | assumption | omega | (simp only [go_sem, hb2]) <;> (with_reducible and_intros) <;> first | assumption | rfl | omega | (unfold maxLen; omega)) (.inr ⟨_, _, rfl, rfl⟩) (.inl ⟨rfl, rfl⟩) ?_
    refine zT [(0, .own 1000), (5, .int .i64 b1.2), (38, .vw 1000 1 b1.2.toNat ((b1.1.length : Int) - b1.2).toNat)] [(1000, .arr 3 (.int .i64) b1.1), (1001, .box 69 [.int .i64 c0.1, .sl (.pair (.int .i64) (.pair (.int .i64) (.pair (.int .i64) .bool))) c0.2])] gt ?_
    obtain ⟨c5, h⟩ := ck_some.1 h
    obtain ⟨c6, h⟩ := ck_some.1 h
    refine AO.clearView tab_ok (by decide) rfl rfl rfl rfl rfl tab_25 rfl tab_3 rfl rfl rfl (by first | assumption | omega | (simp only [go_sem, hb2]) <;> (with_reducible and_intros) <;> first | assumption | rfl | omega | (unfold maxLen; omega)) (by first | assumption | omega | (simp only [go_sem, hb2]) <;> (with_reducible and_intros) <;> first | assumption | rfl | omega | (unfold maxLen; omega)) ?_
    refine zT [(0, .own 1000), (5, .int .i64 b1.2)] [(1000, .arr 3 (.int .i64) (((b1.1.take b1.2.toNat) ++ (List.replicate ((b1.1.length : Int) - b1.2).toNat (0 : Int))) ++ (b1.1.drop (b1.2.toNat + ((b1.1.length : Int) - b1.2).toNat)))), (1001, .box 69 [.int .i64 c0.1, .sl (.pair (.int .i64) (.pair (.int .i64) (.pair (.int .i64) .bool))) c0.2])] gt ?_
    refine zB [(0, .own 1000), (5, .int .i64 b1.2)] [(1000, .arr 3 (.int .i64) (((b1.1.take b1.2.toNat) ++ (List.replicate ((b1.1.length : Int) - b1.2).toNat (0 : Int))) ++ (b1.1.drop (b1.2.toNat + ((b1.1.length : Int) - b1.2).toNat)))), (1001, .box 69 [.int .i64 c0.1, .sl (.pair (.int .i64) (.pair (.int .i64) (.pair (.int .i64) .bool))) c0.2])] ?_
    refine zo ?_
    refine zS 2 [(39, .own 1000), (40, .int .i64 b1.2)] [(1000, .arr 3 (.int .i64) (((b1.1.take b1.2.toNat) ++ (List.replicate ((b1.1.length : Int) - b1.2).toNat (0 : Int))) ++ (b1.1.drop (b1.2.toNat + ((b1.1.length : Int) - b1.2).toNat)))), (1001, .box 69 [.int .i64 c0.1, .sl (.pair (.int .i64) (.pair (.int .i64) (.pair (.int .i64) .bool))) c0.2])] ?_
    obtain ⟨c7, h⟩ := ck_some.1 h
    obtain ⟨c8, h⟩ := ck_some.1 h
    refine AO.sliceOwn tab_ok (by decide) (by decide) rfl rfl tab_25 rfl tab_3 rfl rfl rfl rfl (by first | assumption | omega | (simp only [go_sem, hb2]) <;> (with_reducible and_intros) <;> first | assumption | rfl | omega | (unfold maxLen; omega)) (by first | assumption | omega | (simp only [go_sem, hb2]) <;> (with_reducible and_intros) <;> first | assumption | rfl | omega | (unfold maxLen; omega)) ?_
    refine zT [(41, .own 41)] [(41, .arr 3 (.int .i64) ((((b1.1.take b1.2.toNat) ++ (List.replicate ((b1.1.length : Int) - b1.2).toNat (0 : Int))) ++ (b1.1.drop (b1.2.toNat + ((b1.1.length : Int) - b1.2).toNat))).take b1.2.toNat)), (1001, .box 69 [.int .i64 c0.1, .sl (.pair (.int .i64) (.pair (.int .i64) (.pair (.int .i64) .bool))) c0.2])] gt ?_
    refine zB [(4, .own 41)] [(41, .arr 3 (.int .i64) ((((b1.1.take b1.2.toNat) ++ (List.replicate ((b1.1.length : Int) - b1.2).toNat (0 : Int))) ++ (b1.1.drop (b1.2.toNat + ((b1.1.length : Int) - b1.2).toNat))).take b1.2.toNat)), (1001, .box 69 [.int .i64 c0.1, .sl (.pair (.int .i64) (.pair (.int .i64) (.pair (.int .i64) .bool))) c0.2])] ?_
    refine AW.ret ?_
    obtain rfl := Option.some.inj h
    exact zR [] [] [(2000, 41)]
  ·refine AW.seq ?_
   refine zo ?_
   obtain ⟨c9, h⟩ := ck_some.1 h
   refine zB [(0, .own 1000), (1, .fn (.func 68) [] [.bp 1001 0]), (5, .int .i64 v0), (6, .int .i64 (v0 + 1))] [(1000, .arr 3 (.int .i64) s), (1001, .box 69 [.int .i64 c0.1, .sl (.pair (.int .i64) (.pair (.int .i64) (.pair (.int .i64) .bool))) c0.2])] ?_
   refine AW.block ?_
   obtain ⟨rv14, hw10, ho11⟩ := Option.bind_eq_some_iff.1 h
   refine AW.loopO (slices_DeleteFunc_b1 c0) (fun st1 => ⟨fr [(0, .own 1000), (1, .fn (.func 68) [] [.bp 1001 0]), (5, .int .i64 st1.2.1), (6, .int .i64 st1.2.2)], hpGet [(1000, .arr 3 (.int .i64) st1.1), (1001, .box 69 [.int .i64 c0.1, .sl (.pair (.int .i64) (.pair (.int .i64) (.pair (.int .i64) .bool))) c0.2])], gt⟩) (s, v0, (v0 + 1)) hw10 (zL [] [] []) ?_
   as_aux_lemma =>
    intro st1 x13 h hd12
    unfold slices_DeleteFunc_b1 at h
    refine AW.seq ?_
    refine zo ?_
    refine zB [(0, .own 1000), (1, .fn (.func 68) [] [.bp 1001 0]), (5, .int .i64 st1.2.1), (6, .int .i64 st1.2.2), (19, .bool (decide (st1.2.2 < (st1.1.length : Int))))] [(1000, .arr 3 (.int .i64) st1.1), (1001, .box 69 [.int .i64 c0.1, .sl (.pair (.int .i64) (.pair (.int .i64) (.pair (.int .i64) .bool))) c0.2])] ?_
    refine zQ h (fun hb15 h => ?_) (fun hb15 h => ?_)
    ·refine zk ?_
     refine AW.seq ?_
     refine AW.block ?_
     refine zo ?_
     obtain ⟨c16, h⟩ := ck_some.1 h
     obtain ⟨c17, h⟩ := ck_some.1 h
     refine zB [(0, .own 1000), (1, .fn (.func 68) [] [.bp 1001 0]), (5, .int .i64 st1.2.1), (6, .int .i64 st1.2.2), (7, .int .i64 (st1.1.getD st1.2.2.toNat 0))] [(1000, .arr 3 (.int .i64) st1.1), (1001, .box 69 [.int .i64 c0.1, .sl (.pair (.int .i64) (.pair (.int .i64) (.pair (.int .i64) .bool))) c0.2])] ?_
     refine zo ?_
     refine zS 2 [(0, .own 1000), (1, .fn (.func 68) [] [.bp 1001 0]), (5, .int .i64 st1.2.1), (6, .int .i64 st1.2.2), (7, .int .i64 (st1.1.getD st1.2.2.toNat 0)), (26, .fn (.func 68) [] [.bp 1001 0]), (27, .int .i64 (st1.1.getD st1.2.2.toNat 0))] [(1000, .arr 3 (.int .i64) st1.1), (1001, .box 69 [.int .i64 c0.1, .sl (.pair (.int .i64) (.pair (.int .i64) (.pair (.int .i64) .bool))) c0.2])] ?_
     obtain ⟨v0_2, hv18, h⟩ := Option.bind_eq_some_iff.1 h
     refine zC [] [(1000, 1001)] (hc_progress_Ends_1_2 (st1.1.getD st1.2.2.toNat 0) c0 hv18) [(0, .own 1000), (1, .fn (.func 68) [] [.bp 1001 0]), (5, .int .i64 st1.2.1), (6, .int .i64 st1.2.2), (7, .int .i64 (st1.1.getD st1.2.2.toNat 0)), (28, .bool v0_2)] [(1000, .arr 3 (.int .i64) st1.1), (1001, .box 69 [.int .i64 c0.1, .sl (.pair (.int .i64) (.pair (.int .i64) (.pair (.int .i64) .bool))) c0.2])] ?_
     refine zB [(0, .own 1000), (1, .fn (.func 68) [] [.bp 1001 0]), (5, .int .i64 st1.2.1), (6, .int .i64 st1.2.2), (7, .int .i64 (st1.1.getD st1.2.2.toNat 0)), (29, .bool (!v0_2))] [(1000, .arr 3 (.int .i64) st1.1), (1001, .box 69 [.int .i64 c0.1, .sl (.pair (.int .i64) (.pair (.int .i64) (.pair (.int .i64) .bool))) c0.2])] ?_
     refine zQ h (fun hb19 h => ?_) (fun hb19 h => ?_)
     ·refine zo ?_
      obtain ⟨c20, h⟩ := ck_some.1 h
      obtain ⟨c21, h⟩ := ck_some.1 h
      refine zB [(0, .own 1000), (1, .fn (.func 68) [] [.bp 1001 0]), (5, .int .i64 st1.2.1), (6, .int .i64 st1.2.2)] [(1000, .arr 3 (.int .i64) (st1.1.set st1.2.1.toNat (st1.1.getD st1.2.2.toNat 0))), (1001, .box 69 [.int .i64 c0.1, .sl (.pair (.int .i64) (.pair (.int .i64) (.pair (.int .i64) .bool))) c0.2])] ?_
      refine AW.ops ?_
      obtain ⟨c22, h⟩ := ck_some.1 h
      refine zA [(0, .own 1000), (1, .fn (.func 68) [] [.bp 1001 0]), (5, .int .i64 (st1.2.1 + 1)), (6, .int .i64 st1.2.2)] [(1000, .arr 3 (.int .i64) (st1.1.set st1.2.1.toNat (st1.1.getD st1.2.2.toNat 0))), (1001, .box 69 [.int .i64 c0.1, .sl (.pair (.int .i64) (.pair (.int .i64) (.pair (.int .i64) .bool))) c0.2])] ?_
      refine ablock_n ?_
      refine athen_n ?_
      refine AW.ops ?_
      obtain ⟨c23, h⟩ := ck_some.1 h
      refine zA [(0, .own 1000), (1, .fn (.func 68) [] [.bp 1001 0]), (5, .int .i64 (st1.2.1 + 1)), (6, .int .i64 (st1.2.2 + 1))] [(1000, .arr 3 (.int .i64) (st1.1.set st1.2.1.toNat (st1.1.getD st1.2.2.toNat 0))), (1001, .box 69 [.int .i64 c0.1, .sl (.pair (.int .i64) (.pair (.int .i64) (.pair (.int .i64) .bool))) c0.2])] ?_
      obtain rfl := Option.some.inj h
      exact ⟨_, rfl, zL [] [] []⟩
     ·refine zm ?_
      refine athen_n ?_
      refine AW.ops ?_
      obtain ⟨c24, h⟩ := ck_some.1 h
      refine zA [(0, .own 1000), (1, .fn (.func 68) [] [.bp 1001 0]), (5, .int .i64 st1.2.1), (6, .int .i64 (st1.2.2 + 1))] [(1000, .arr 3 (.int .i64) st1.1), (1001, .box 69 [.int .i64 c0.1, .sl (.pair (.int .i64) (.pair (.int .i64) (.pair (.int .i64) .bool))) c0.2])] ?_
      obtain rfl := Option.some.inj h
      exact ⟨_, rfl, zL [] [] []⟩
    ·refine AW.exit ?_
     refine athen_e ?_
     obtain rfl := Option.some.inj h
     rw [← hd12 _ rfl] at ho11
     have h := ho11
     refine athen_e ?_
     refine ablock_s ?_
     refine athen_n ?_
     exact AW.weaken (zL [] [] []) (hk_slices_DeleteFunc_k1 _ h)

theorem hc_progress_Ends (g : Int × (List (Int × Int × Int × Bool))) {r : (List Int) × Int} (h : progress_Ends g = some r) : HC Try.prog 27 [] [.agg [.int .i64 g.1, .sl (.pair (.int .i64) (.pair (.int .i64) (.pair (.int .i64) .bool))) g.2]] [(2000, .arr 3 (.int .i64) r.1)] (.tup [.own 2000, .int .i64 r.2]) := by
 unfold progress_Ends at h
 refine zH Try.func27 [.tmp 2, .tmp 3] 20 ?_
 refine zo ?_
 refine zB [(1, .bp 1 0)] [(1, .box 24 [.int .i64 g.1, .sl (.pair (.int .i64) (.pair (.int .i64) (.pair (.int .i64) .bool))) g.2])] ?_
 refine zo ?_
 refine zS 1 [(8, .agg [.int .i64 g.1, .sl (.pair (.int .i64) (.pair (.int .i64) (.pair (.int .i64) .bool))) g.2])] [] ?_
 obtain ⟨v0, hv1, h⟩ := Option.bind_eq_some_iff.1 h
 refine zC [] [] (hc_progress_graphOf g hv1) [(9, .tup [.agg [.int .i64 v0.1, .sl (.pair (.int .i64) (.pair (.int .i64) (.pair (.int .i64) .bool))) v0.2.1], .int .i64 v0.2.2])] [] ?_
 refine zS 5 [(4, .bp 4 0), (11, .int .i64 v0.2.2)] [(4, .box 69 [.int .i64 v0.1, .sl (.pair (.int .i64) (.pair (.int .i64) (.pair (.int .i64) .bool))) v0.2.1])] ?_
 refine zB [(4, .bp 4 0), (5, .int .i64 v0.2.2)] [(4, .box 69 [.int .i64 v0.1, .sl (.pair (.int .i64) (.pair (.int .i64) (.pair (.int .i64) .bool))) v0.2.1])] ?_
 refine AW.seq ?_
 refine zo ?_
 refine zB [(4, .bp 4 0), (5, .int .i64 v0.2.2), (13, .bool (!(decide (v0.2.2 = 0))))] [(4, .box 69 [.int .i64 v0.1, .sl (.pair (.int .i64) (.pair (.int .i64) (.pair (.int .i64) .bool))) v0.2.1])] ?_
 refine zQ h (fun hb2 h => ?_) (fun hb2 h => ?_)
 ·refine zo ?_
  refine zB [(2, .cv (.slice none 0 0)), (3, .int .i64 v0.2.2)] [] ?_
  refine zr ?_
  obtain rfl := Option.some.inj h
  exact zR [] [2000] []
 ·refine zk ?_
  refine zo ?_
  refine zB [(4, .bp 4 0), (6, .fn (.func 68) [] [.bp 4 0])] [(4, .box 69 [.int .i64 v0.1, .sl (.pair (.int .i64) (.pair (.int .i64) (.pair (.int .i64) .bool))) v0.2.1])] ?_
  refine zo ?_
  refine zS 1 [(6, .fn (.func 68) [] [.bp 4 0]), (16, .agg [.int .i64 v0.1, .sl (.pair (.int .i64) (.pair (.int .i64) (.pair (.int .i64) .bool))) v0.2.1])] [(4, .box 69 [.int .i64 v0.1, .sl (.pair (.int .i64) (.pair (.int .i64) (.pair (.int .i64) .bool))) v0.2.1])] ?_
  obtain ⟨v0_2, hv3, h⟩ := Option.bind_eq_some_iff.1 h
  refine zC [] [] (hc_progress_graph_reached (v0.1, v0.2.1) hv3) [(6, .fn (.func 68) [] [.bp 4 0]), (17, .own 27000)] [(4, .box 69 [.int .i64 v0.1, .sl (.pair (.int .i64) (.pair (.int .i64) (.pair (.int .i64) .bool))) v0.2.1]), (27000, .arr 3 (.int .i64) v0_2)] ?_
  refine zS 1 [(17, .own 27000), (18, .fn (.func 68) [] [.bp 4 0])] [(4, .box 69 [.int .i64 v0.1, .sl (.pair (.int .i64) (.pair (.int .i64) (.pair (.int .i64) .bool))) v0.2.1]), (27000, .arr 3 (.int .i64) v0_2)] ?_
  obtain ⟨v0_3, hv4, h⟩ := Option.bind_eq_some_iff.1 h
  refine zC [] [(1000, 27000), (1001, 4)] (hc_slices_DeleteFunc v0_2 (v0.1, v0.2.1) hv4) [(19, .own 29000)] [(29000, .arr 3 (.int .i64) v0_3)] ?_
  refine zB [(2, .own 29000), (3, .int .i64 0)] [(29000, .arr 3 (.int .i64) v0_3)] ?_
  refine AW.ret ?_
  obtain rfl := Option.some.inj h
  exact zR [] [] [(2000, 29000)]

theorem hc_linealref07_Ends (g : Int × (List (Int × Int × Int × Bool))) {r : (List Int) × Int} (h : linealref07_Ends g = some r) : HC Try.prog 28 [] [.agg [.int .i64 g.1, .sl (.pair (.int .i64) (.pair (.int .i64) (.pair (.int .i64) .bool))) g.2]] [(2000, .arr 3 (.int .i64) r.1)] (.tup [.own 2000, .int .i64 r.2]) := by
 unfold linealref07_Ends at h
 refine zH Try.func28 [.tmp 2, .tmp 3] 42 ?_
 refine zo ?_
 refine zB [(1, .bp 1 0)] [(1, .box 24 [.int .i64 g.1, .sl (.pair (.int .i64) (.pair (.int .i64) (.pair (.int .i64) .bool))) g.2])] ?_
 refine AW.seq ?_
 refine zo ?_
 refine zS 1 [(1, .bp 1 0), (9, .agg [.int .i64 g.1, .sl (.pair (.int .i64) (.pair (.int .i64) (.pair (.int .i64) .bool))) g.2])] [(1, .box 24 [.int .i64 g.1, .sl (.pair (.int .i64) (.pair (.int .i64) (.pair (.int .i64) .bool))) g.2])] ?_
 obtain ⟨v0, hv1, h⟩ := Option.bind_eq_some_iff.1 h
 refine zC [] [] (hc_linealref07_Valid g hv1) [(1, .bp 1 0), (10, .bool v0)] [(1, .box 24 [.int .i64 g.1, .sl (.pair (.int .i64) (.pair (.int .i64) (.pair (.int .i64) .bool))) g.2])] ?_
 refine zB [(1, .bp 1 0), (11, .bool (!v0))] [(1, .box 24 [.int .i64 g.1, .sl (.pair (.int .i64) (.pair (.int .i64) (.pair (.int .i64) .bool))) g.2])] ?_
 refine zQ h (fun hb2 h => ?_) (fun hb2 h => ?_)
 ·refine zo ?_
  refine zB [(2, .cv (.slice none 0 0)), (3, .int .i64 70)] [] ?_
  refine zr ?_
  obtain rfl := Option.some.inj h
  exact zR [] [2000] []
 ·refine zk ?_
  refine zo ?_
  refine zB [(1, .bp 1 0), (4, .cv (.slice none 0 0))] [(1, .box 24 [.int .i64 g.1, .sl (.pair (.int .i64) (.pair (.int .i64) (.pair (.int .i64) .bool))) g.2])] ?_
  refine AW.have1 (fun b3_3 : (List Int) => linealref07_Ends_k1 b3_3 = some r) (fun b3_3 => ⟨fr [(4, .own 39)], hpGet [(39, .arr 3 (.int .i64) b3_3)], gt⟩) (fun b3_3 h => ?_) (fun hk_linealref07_Ends_k1 => ?_)
  ·as_aux_lemma =>
    unfold linealref07_Ends_k1 at h
    refine zo ?_
    refine zB [(2, .own 39), (3, .int .i64 0)] [(39, .arr 3 (.int .i64) b3_3)] ?_
    refine AW.ret ?_
    obtain rfl := Option.some.inj h
    exact zR [] [] [(2000, 39)]
  ·refine AW.seq ?_
   refine zo ?_
   refine zS 1 [(1, .bp 1 0), (4, .cv (.slice none 0 0)), (12, .agg [.int .i64 g.1, .sl (.pair (.int .i64) (.pair (.int .i64) (.pair (.int .i64) .bool))) g.2])] [(1, .box 24 [.int .i64 g.1, .sl (.pair (.int .i64) (.pair (.int .i64) (.pair (.int .i64) .bool))) g.2])] ?_
   obtain ⟨v0_2, hv3, h⟩ := Option.bind_eq_some_iff.1 h
   refine zC [] [] (hc_linealref07_reached g hv3) [(1, .bp 1 0), (4, .cv (.slice none 0 0)), (13, .own 23000)] [(1, .box 24 [.int .i64 g.1, .sl (.pair (.int .i64) (.pair (.int .i64) (.pair (.int .i64) .bool))) g.2]), (23000, .arr 4 .bool v0_2)] ?_
   refine zB [(1, .bp 1 0), (4, .cv (.slice none 0 0)), (13, .own 23000), (14, .int .i64 (v0_2.length : Int)), (15, .int .i64 0)] [(1, .box 24 [.int .i64 g.1, .sl (.pair (.int .i64) (.pair (.int .i64) (.pair (.int .i64) .bool))) g.2]), (23000, .arr 4 .bool v0_2)] ?_
   refine AW.block ?_
   obtain ⟨rv8, hw4, ho5⟩ := Option.bind_eq_some_iff.1 h
   refine AW.loopO (linealref07_Ends_b1 g v0_2) (fun st1 => ⟨fr [(1, .bp 1 0), (4, .own 39), (13, .own 23000), (14, .int .i64 (v0_2.length : Int)), (15, .int .i64 st1.2)], hpGet [(1, .box 24 [.int .i64 g.1, .sl (.pair (.int .i64) (.pair (.int .i64) (.pair (.int .i64) .bool))) g.2]), (39, .arr 3 (.int .i64) st1.1), (23000, .arr 4 .bool v0_2)], gt⟩) ([], 0) hw4 (zL [] [39] []) ?_
   as_aux_lemma =>
    intro st1 x7 h hd6
    unfold linealref07_Ends_b1 at h
    refine zo ?_
    refine zB [(1, .bp 1 0), (4, .own 39), (13, .own 23000), (14, .int .i64 (v0_2.length : Int)), (15, .int .i64 st1.2), (16, .bool (decide (st1.2 < (v0_2.length : Int))))] [(1, .box 24 [.int .i64 g.1, .sl (.pair (.int .i64) (.pair (.int .i64) (.pair (.int .i64) .bool))) g.2]), (39, .arr 3 (.int .i64) st1.1), (23000, .arr 4 .bool v0_2)] ?_
    refine AW.seq ?_
    refine zQ h (fun hb9 h => ?_) (fun hb9 h => ?_)
    ·refine zk ?_
     refine AW.have1 (fun b3_2 : (List Int) => linealref07_Ends_k2 st1 b3_2 = some x7) (fun b3_2 => ⟨fr [(1, .bp 1 0), (4, .own 39), (13, .own 23000), (14, .int .i64 (v0_2.length : Int)), (15, .int .i64 st1.2)], hpGet [(1, .box 24 [.int .i64 g.1, .sl (.pair (.int .i64) (.pair (.int .i64) (.pair (.int .i64) .bool))) g.2]), (39, .arr 3 (.int .i64) b3_2), (23000, .arr 4 .bool v0_2)], gt⟩) (fun b3_2 h => ?_) (fun hk_linealref07_Ends_k2 => ?_)
     ·as_aux_lemma =>
       unfold linealref07_Ends_k2 at h
       refine AW.ops ?_
       obtain ⟨c10, h⟩ := ck_some.1 h
       refine zA [(1, .bp 1 0), (4, .own 39), (13, .own 23000), (14, .int .i64 (v0_2.length : Int)), (15, .int .i64 (st1.2 + 1))] [(1, .box 24 [.int .i64 g.1, .sl (.pair (.int .i64) (.pair (.int .i64) (.pair (.int .i64) .bool))) g.2]), (39, .arr 3 (.int .i64) b3_2), (23000, .arr 4 .bool v0_2)] ?_
       obtain rfl := Option.some.inj h
       exact ⟨_, rfl, zL [] [] []⟩
     ·refine AW.seq ?_
      refine AW.block ?_
      refine zo ?_
      obtain ⟨c11, h⟩ := ck_some.1 h
      obtain ⟨c12, h⟩ := ck_some.1 h
      refine zB [(1, .bp 1 0), (4, .own 39), (5, .int .i64 st1.2), (6, .bool (v0_2.getD st1.2.toNat false)), (13, .own 23000), (14, .int .i64 (v0_2.length : Int)), (15, .int .i64 st1.2)] [(1, .box 24 [.int .i64 g.1, .sl (.pair (.int .i64) (.pair (.int .i64) (.pair (.int .i64) .bool))) g.2]), (39, .arr 3 (.int .i64) st1.1), (23000, .arr 4 .bool v0_2)] ?_
      refine AW.have1 (fun b3 : Bool => linealref07_Ends_k3 st1 b3 = some x7) (fun b3 => ⟨fr [(1, .bp 1 0), (4, .own 39), (5, .int .i64 st1.2), (6, .bool b3), (13, .own 23000), (14, .int .i64 (v0_2.length : Int)), (15, .int .i64 st1.2)], hpGet [(1, .box 24 [.int .i64 g.1, .sl (.pair (.int .i64) (.pair (.int .i64) (.pair (.int .i64) .bool))) g.2]), (39, .arr 3 (.int .i64) st1.1), (23000, .arr 4 .bool v0_2)], gt⟩) (fun b3 h => ?_) (fun hk_linealref07_Ends_k3 => ?_)
      ·as_aux_lemma =>
        unfold linealref07_Ends_k3 at h
        refine zo ?_
        refine zB [(1, .bp 1 0), (4, .own 39), (5, .int .i64 st1.2), (13, .own 23000), (14, .int .i64 (v0_2.length : Int)), (15, .int .i64 st1.2), (35, .bool b3)] [(1, .box 24 [.int .i64 g.1, .sl (.pair (.int .i64) (.pair (.int .i64) (.pair (.int .i64) .bool))) g.2]), (39, .arr 3 (.int .i64) st1.1), (23000, .arr 4 .bool v0_2)] ?_
        refine zQ h (fun hb13 h => ?_) (fun hb13 h => ?_)
        ·refine AW.ops ?_
         obtain ⟨c14, h⟩ := ck_some.1 h
         refine zA [(1, .bp 1 0), (4, .own 39), (13, .own 23000), (14, .int .i64 (v0_2.length : Int)), (15, .int .i64 st1.2)] [(1, .box 24 [.int .i64 g.1, .sl (.pair (.int .i64) (.pair (.int .i64) (.pair (.int .i64) .bool))) g.2]), (39, .arr 3 (.int .i64) (st1.1 ++ [st1.2])), (23000, .arr 4 .bool v0_2)] ?_
         refine ablock_n ?_
         refine athen_n ?_
         exact AW.weaken (zL [] [] []) (hk_linealref07_Ends_k2 _ h)
        ·refine zm ?_
         refine athen_n ?_
         exact AW.weaken (zL [] [] []) (hk_linealref07_Ends_k2 _ h)
      ·refine AW.seq ?_
       refine zo ?_
       refine zB [(1, .bp 1 0), (4, .own 39), (5, .int .i64 st1.2), (6, .bool (v0_2.getD st1.2.toNat false)), (13, .own 23000), (14, .int .i64 (v0_2.length : Int)), (15, .int .i64 st1.2), (21, .sl (.pair (.int .i64) (.pair (.int .i64) (.pair (.int .i64) .bool))) g.2), (22, .int .i64 (g.2.length : Int)), (23, .int .i64 0)] [(1, .box 24 [.int .i64 g.1, .sl (.pair (.int .i64) (.pair (.int .i64) (.pair (.int .i64) .bool))) g.2]), (39, .arr 3 (.int .i64) st1.1), (23000, .arr 4 .bool v0_2)] ?_
       refine AW.block ?_
       obtain ⟨rv19, hw15, ho16⟩ := Option.bind_eq_some_iff.1 h
       refine AW.loopO (linealref07_Ends_b2 g st1) (fun st2 => ⟨fr [(1, .bp 1 0), (4, .own 39), (5, .int .i64 st1.2), (6, .bool st2.1), (13, .own 23000), (14, .int .i64 (v0_2.length : Int)), (15, .int .i64 st1.2), (21, .sl (.pair (.int .i64) (.pair (.int .i64) (.pair (.int .i64) .bool))) g.2), (22, .int .i64 (g.2.length : Int)), (23, .int .i64 st2.2)], hpGet [(1, .box 24 [.int .i64 g.1, .sl (.pair (.int .i64) (.pair (.int .i64) (.pair (.int .i64) .bool))) g.2]), (39, .arr 3 (.int .i64) st1.1), (23000, .arr 4 .bool v0_2)], gt⟩) ((v0_2.getD st1.2.toNat false), 0) hw15 (zL [] [] []) ?_
       as_aux_lemma =>
        intro st2 x18 h hd17
        unfold linealref07_Ends_b2 at h
        refine zo ?_
        refine zB [(1, .bp 1 0), (4, .own 39), (5, .int .i64 st1.2), (6, .bool st2.1), (13, .own 23000), (14, .int .i64 (v0_2.length : Int)), (15, .int .i64 st1.2), (21, .sl (.pair (.int .i64) (.pair (.int .i64) (.pair (.int .i64) .bool))) g.2), (22, .int .i64 (g.2.length : Int)), (23, .int .i64 st2.2), (24, .bool (decide (st2.2 < (g.2.length : Int))))] [(1, .box 24 [.int .i64 g.1, .sl (.pair (.int .i64) (.pair (.int .i64) (.pair (.int .i64) .bool))) g.2]), (39, .arr 3 (.int .i64) st1.1), (23000, .arr 4 .bool v0_2)] ?_
        refine AW.seq ?_
        refine zQ h (fun hb20 h => ?_) (fun hb20 h => ?_)
        ·refine zk ?_
         refine AW.seq ?_
         refine AW.block ?_
         refine zo ?_
         obtain ⟨c21, h⟩ := ck_some.1 h
         obtain ⟨c22, h⟩ := ck_some.1 h
         refine zB [(1, .bp 1 0), (4, .own 39), (5, .int .i64 st1.2), (6, .bool st2.1), (8, .bp 8 0), (13, .own 23000), (14, .int .i64 (v0_2.length : Int)), (15, .int .i64 st1.2), (21, .sl (.pair (.int .i64) (.pair (.int .i64) (.pair (.int .i64) .bool))) g.2), (22, .int .i64 (g.2.length : Int)), (23, .int .i64 st2.2)] [(1, .box 24 [.int .i64 g.1, .sl (.pair (.int .i64) (.pair (.int .i64) (.pair (.int .i64) .bool))) g.2]), (8, .box 61 [.int .i64 (g.2.getD st2.2.toNat (0, 0, 0, false)).1, .int .i64 (g.2.getD st2.2.toNat (0, 0, 0, false)).2.1, .int .i64 (g.2.getD st2.2.toNat (0, 0, 0, false)).2.2.1, .bool (g.2.getD st2.2.toNat (0, 0, 0, false)).2.2.2]), (39, .arr 3 (.int .i64) st1.1), (23000, .arr 4 .bool v0_2)] ?_
         refine AW.ops ?_
         refine zS 2 [(1, .bp 1 0), (4, .own 39), (5, .int .i64 st1.2), (8, .bp 8 0), (13, .own 23000), (14, .int .i64 (v0_2.length : Int)), (15, .int .i64 st1.2), (21, .sl (.pair (.int .i64) (.pair (.int .i64) (.pair (.int .i64) .bool))) g.2), (22, .int .i64 (g.2.length : Int)), (23, .int .i64 st2.2), (28, .bool st2.1)] [(1, .box 24 [.int .i64 g.1, .sl (.pair (.int .i64) (.pair (.int .i64) (.pair (.int .i64) .bool))) g.2]), (8, .box 61 [.int .i64 (g.2.getD st2.2.toNat (0, 0, 0, false)).1, .int .i64 (g.2.getD st2.2.toNat (0, 0, 0, false)).2.1, .int .i64 (g.2.getD st2.2.toNat (0, 0, 0, false)).2.2.1, .bool (g.2.getD st2.2.toNat (0, 0, 0, false)).2.2.2]), (39, .arr 3 (.int .i64) st1.1), (23000, .arr 4 .bool v0_2)] ?_
         rcases zI h with ⟨hb23, h⟩ | ⟨hb23, h⟩
         ·refine zS 5 [(1, .bp 1 0), (4, .own 39), (5, .int .i64 st1.2), (13, .own 23000), (14, .int .i64 (v0_2.length : Int)), (15, .int .i64 st1.2), (21, .sl (.pair (.int .i64) (.pair (.int .i64) (.pair (.int .i64) .bool))) g.2), (22, .int .i64 (g.2.length : Int)), (23, .int .i64 st2.2), (33, .bool (!(decide ((g.2.getD st2.2.toNat (0, 0, 0, false)).1 = st1.2))))] [(1, .box 24 [.int .i64 g.1, .sl (.pair (.int .i64) (.pair (.int .i64) (.pair (.int .i64) .bool))) g.2]), (39, .arr 3 (.int .i64) st1.1), (23000, .arr 4 .bool v0_2)] ?_
          refine zA [(1, .bp 1 0), (4, .own 39), (5, .int .i64 st1.2), (6, .bool (!(decide ((g.2.getD st2.2.toNat (0, 0, 0, false)).1 = st1.2)))), (13, .own 23000), (14, .int .i64 (v0_2.length : Int)), (15, .int .i64 st1.2), (21, .sl (.pair (.int .i64) (.pair (.int .i64) (.pair (.int .i64) .bool))) g.2), (22, .int .i64 (g.2.length : Int)), (23, .int .i64 st2.2)] [(1, .box 24 [.int .i64 g.1, .sl (.pair (.int .i64) (.pair (.int .i64) (.pair (.int .i64) .bool))) g.2]), (39, .arr 3 (.int .i64) st1.1), (23000, .arr 4 .bool v0_2)] ?_
          refine ablock_n ?_
          refine athen_n ?_
          refine AW.ops ?_
          obtain ⟨c24, h⟩ := ck_some.1 h
          refine zA [(1, .bp 1 0), (4, .own 39), (5, .int .i64 st1.2), (6, .bool (!(decide ((g.2.getD st2.2.toNat (0, 0, 0, false)).1 = st1.2)))), (13, .own 23000), (14, .int .i64 (v0_2.length : Int)), (15, .int .i64 st1.2), (21, .sl (.pair (.int .i64) (.pair (.int .i64) (.pair (.int .i64) .bool))) g.2), (22, .int .i64 (g.2.length : Int)), (23, .int .i64 (st2.2 + 1))] [(1, .box 24 [.int .i64 g.1, .sl (.pair (.int .i64) (.pair (.int .i64) (.pair (.int .i64) .bool))) g.2]), (39, .arr 3 (.int .i64) st1.1), (23000, .arr 4 .bool v0_2)] ?_
          obtain rfl := Option.some.inj h
          exact ⟨_, rfl, zL [] [] []⟩
         ·refine zS 4 [(1, .bp 1 0), (4, .own 39), (5, .int .i64 st1.2), (13, .own 23000), (14, .int .i64 (v0_2.length : Int)), (15, .int .i64 st1.2), (21, .sl (.pair (.int .i64) (.pair (.int .i64) (.pair (.int .i64) .bool))) g.2), (22, .int .i64 (g.2.length : Int)), (23, .int .i64 st2.2), (28, .bool false), (32, .cv (undef))] [(1, .box 24 [.int .i64 g.1, .sl (.pair (.int .i64) (.pair (.int .i64) (.pair (.int .i64) .bool))) g.2]), (39, .arr 3 (.int .i64) st1.1), (23000, .arr 4 .bool v0_2)] ?_
          refine zA [(1, .bp 1 0), (4, .own 39), (5, .int .i64 st1.2), (6, .bool false), (13, .own 23000), (14, .int .i64 (v0_2.length : Int)), (15, .int .i64 st1.2), (21, .sl (.pair (.int .i64) (.pair (.int .i64) (.pair (.int .i64) .bool))) g.2), (22, .int .i64 (g.2.length : Int)), (23, .int .i64 st2.2)] [(1, .box 24 [.int .i64 g.1, .sl (.pair (.int .i64) (.pair (.int .i64) (.pair (.int .i64) .bool))) g.2]), (39, .arr 3 (.int .i64) st1.1), (23000, .arr 4 .bool v0_2)] ?_
          refine ablock_n ?_
          refine athen_n ?_
          refine AW.ops ?_
          obtain ⟨c25, h⟩ := ck_some.1 h
          refine zA [(1, .bp 1 0), (4, .own 39), (5, .int .i64 st1.2), (6, .bool false), (13, .own 23000), (14, .int .i64 (v0_2.length : Int)), (15, .int .i64 st1.2), (21, .sl (.pair (.int .i64) (.pair (.int .i64) (.pair (.int .i64) .bool))) g.2), (22, .int .i64 (g.2.length : Int)), (23, .int .i64 (st2.2 + 1))] [(1, .box 24 [.int .i64 g.1, .sl (.pair (.int .i64) (.pair (.int .i64) (.pair (.int .i64) .bool))) g.2]), (39, .arr 3 (.int .i64) st1.1), (23000, .arr 4 .bool v0_2)] ?_
          obtain rfl := Option.some.inj h
          exact ⟨_, rfl, zL [] [] []⟩
        ·refine AW.exit ?_
         refine athen_e ?_
         obtain rfl := Option.some.inj h
         rw [← hd17 _ rfl] at ho16
         have h := ho16
         refine athen_e ?_
         refine ablock_s ?_
         refine athen_n ?_
         exact AW.weaken (zL [] [] []) (hk_linealref07_Ends_k3 _ h)
    ·refine AW.exit ?_
     refine athen_e ?_
     obtain rfl := Option.some.inj h
     rw [← hd6 _ rfl] at ho5
     have h := ho5
     refine athen_e ?_
     refine ablock_s ?_
     refine athen_n ?_
     exact AW.weaken (zL [] [] []) (hk_linealref07_Ends_k1 _ h)

end Go.Proofs.Yteclokkdgmacpaa
