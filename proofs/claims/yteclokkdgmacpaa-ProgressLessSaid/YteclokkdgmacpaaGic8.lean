/-
  Made by wip/tool/dc.py out of the print of the program: contracts.
-/
import Derived.Test.YteclokkdgmacpaaGrp
import Derived.Test.YteclokkdgmacpaaSh7
import Derived.Test.YteclokkdgmacpaaAvd
import Derived.Test.YteclokkdgmacpaaGic1
import Derived.Test.YteclokkdgmacpaaGic2
import Derived.Test.YteclokkdgmacpaaGic4
import Derived.Test.YteclokkdgmacpaaGic5
import Derived.Test.YteclokkdgmacpaaGic6
import Derived.Test.YteclokkdgmacpaaGic7
namespace Go.Proofs.Yteclokkdgmacpaa
open Go.RowKit

set_option linter.unusedSimpArgs false
set_option linter.unusedVariables false
set_option linter.constructorNameAsVariable false

set_option maxRecDepth 100000
set_option maxHeartbeats 2000000

theorem hc_progress_Without (g : Int × (List (Int × Int × Int × Bool))) (move : Int) {r : Int × (List (Int × Int × Int × Bool)) × Int} (h : progress_Without g move = some r) : HC Try.prog 44 [] [.agg [.int .i64 g.1, .sl (.pair (.int .i64) (.pair (.int .i64) (.pair (.int .i64) .bool))) g.2], .int .i64 move] [(2000, .arr 61 (.pair (.int .i64) (.pair (.int .i64) (.pair (.int .i64) .bool))) r.2.1)] (.tup [.agg [.int .i64 r.1, .own 2000], .int .i64 r.2.2]) := by
 unfold progress_Without at h
 refine zH Try.func44 [.cell 4 24, .tmp 5] 31 ?_
 refine zo ?_
 refine zB [(1, .int .i64 move), (2, .bp 2 0), (4, .bp 4 0)] [(2, .box 24 [.int .i64 g.1, .sl (.pair (.int .i64) (.pair (.int .i64) (.pair (.int .i64) .bool))) g.2]), (4, .box 24 [.int .i64 0, .cv (.slice none 0 0)])] ?_
 refine AW.seq ?_
 refine zo ?_
 refine zS 1 [(1, .int .i64 move), (2, .bp 2 0), (4, .bp 4 0), (6, .agg [.int .i64 g.1, .sl (.pair (.int .i64) (.pair (.int .i64) (.pair (.int .i64) .bool))) g.2])] [(2, .box 24 [.int .i64 g.1, .sl (.pair (.int .i64) (.pair (.int .i64) (.pair (.int .i64) .bool))) g.2]), (4, .box 24 [.int .i64 0, .cv (.slice none 0 0)])] ?_
 obtain ⟨v0, hv1, h⟩ := Option.bind_eq_some_iff.1 h
 refine zC [] [] (hc_progress_Valid g hv1) [(1, .int .i64 move), (2, .bp 2 0), (4, .bp 4 0), (7, .bool v0)] [(2, .box 24 [.int .i64 g.1, .sl (.pair (.int .i64) (.pair (.int .i64) (.pair (.int .i64) .bool))) g.2]), (4, .box 24 [.int .i64 0, .cv (.slice none 0 0)])] ?_
 refine zB [(1, .int .i64 move), (2, .bp 2 0), (4, .bp 4 0), (8, .bool (!v0))] [(2, .box 24 [.int .i64 g.1, .sl (.pair (.int .i64) (.pair (.int .i64) (.pair (.int .i64) .bool))) g.2]), (4, .box 24 [.int .i64 0, .cv (.slice none 0 0)])] ?_
 refine zQ h (fun hb2 h => ?_) (fun hb2 h => ?_)
 ·refine zo ?_
  refine zB [(4, .bp 4 0), (5, .int .i64 70)] [(4, .box 24 [.int .i64 0, .cv (.slice none 0 0)])] ?_
  refine zr ?_
  obtain rfl := Option.some.inj h
  exact zR [] [2000] []
 ·refine zk ?_
  refine AW.seq ?_
  refine zo ?_
  refine zS 4 [(1, .int .i64 move), (2, .bp 2 0), (4, .bp 4 0), (10, .int .i64 move), (13, .int .i64 (g.2.length : Int))] [(2, .box 24 [.int .i64 g.1, .sl (.pair (.int .i64) (.pair (.int .i64) (.pair (.int .i64) .bool))) g.2]), (4, .box 24 [.int .i64 0, .cv (.slice none 0 0)])] ?_
  obtain ⟨v0_2, hv3, h⟩ := Option.bind_eq_some_iff.1 h
  refine zC [] [] (hc_progress_isBelow move (g.2.length : Int) hv3) [(1, .int .i64 move), (2, .bp 2 0), (4, .bp 4 0), (14, .bool v0_2)] [(2, .box 24 [.int .i64 g.1, .sl (.pair (.int .i64) (.pair (.int .i64) (.pair (.int .i64) .bool))) g.2]), (4, .box 24 [.int .i64 0, .cv (.slice none 0 0)])] ?_
  refine zB [(1, .int .i64 move), (2, .bp 2 0), (4, .bp 4 0), (15, .bool (!v0_2))] [(2, .box 24 [.int .i64 g.1, .sl (.pair (.int .i64) (.pair (.int .i64) (.pair (.int .i64) .bool))) g.2]), (4, .box 24 [.int .i64 0, .cv (.slice none 0 0)])] ?_
  refine zQ h (fun hb4 h => ?_) (fun hb4 h => ?_)
  ·refine zo ?_
   refine zB [(4, .bp 4 0), (5, .int .i64 2)] [(4, .box 24 [.int .i64 0, .cv (.slice none 0 0)])] ?_
   refine zr ?_
   obtain rfl := Option.some.inj h
   exact zR [] [2000] []
  ·refine zk ?_
   refine AW.seq ?_
   refine AW.draw tab_ok mixed_ok [(11, [28]), (12, [39000]), (14, [4])] [(0, [2]), (1, [2]), (100014, [])] (by decide) (lex_fast (by kernel_rfl)) ?_
   as_aux_lemma =>
    obtain ⟨c6, h⟩ := ck_some.1 h
    obtain ⟨c7, h⟩ := ck_some.1 h
    refine adops_cut 6 (fun K' hK5 => ?_)
    try dsimp only [List.drop_succ_cons, List.drop_zero, List.take_succ_cons, List.take_zero]
    simp only [go_sem, hb2, hb4]
    repeat with_reducible refine zN ?_
    refine hK5 _ ?_
    as_aux_lemma =>
     obtain ⟨c9, h⟩ := ck_some.1 h
     obtain ⟨c10, h⟩ := ck_some.1 h
     obtain ⟨c11, h⟩ := ck_some.1 h
     refine adops_cut 6 (fun K' hK8 => ?_)
     try dsimp only [List.drop_succ_cons, List.drop_zero, List.take_succ_cons, List.take_zero]
     simp only [go_sem, hb2, hb4]
     repeat with_reducible refine zN ?_
     refine hK8 _ ?_
     as_aux_lemma =>
      obtain ⟨v0_3, hv12, h⟩ := Option.bind_eq_some_iff.1 h
      refine adops.call (by first | trivial | rfl) rfl rfl rfl (fun _ h => h) [28] [] (hc_slices_Concat_2 [(g.2.take move.toNat), (g.2.drop (move + 1).toNat)] hv12) rfl (by (simp only [go_sem, hb2, hb4]) <;> (with_reducible and_intros) <;> first | assumption | rfl | omega | (unfold maxLen; omega)) (by (simp only [go_sem, hb2, hb4]) <;> (with_reducible and_intros) <;> first | assumption | rfl | omega | (unfold maxLen; omega)) rfl ?_
      refine adops_cut 3 (fun K' hK13 => ?_)
      try dsimp only [List.drop_succ_cons, List.drop_zero, List.take_succ_cons, List.take_zero]
      simp only [go_sem, hb2, hb4]
      repeat with_reducible refine zN ?_
      refine hK13 _ ?_
      refine adops_nil ?_
      refine athen_n ?_
      refine zV [(4, .bp 4 0), (5, .int .i64 0)] [(4, .box 24 [.int .i64 g.1, .own 39000]), (39000, .arr 61 (.pair (.int .i64) (.pair (.int .i64) (.pair (.int .i64) .bool))) v0_3)] gt ?_
      as_aux_lemma =>
       refine AW.ret ?_
       obtain rfl := Option.some.inj h
       exact zR [] [] [(2000, 39000)]

theorem hc_slices_Clone (s : List (Int × Int × Int × Bool)) {r : (List (Int × Int × Int × Bool))} (h : slices_Clone s = some r) : HC Try.prog 84 [] [.sl (.pair (.int .i64) (.pair (.int .i64) (.pair (.int .i64) .bool))) s] [(2000, .arr 61 (.pair (.int .i64) (.pair (.int .i64) (.pair (.int .i64) .bool))) r)] (.own 2000) := by
 unfold slices_Clone at h
 refine zH Try.func84 [.tmp 2] 8 ?_
 refine zo ?_
 refine zB [(0, .sl (.pair (.int .i64) (.pair (.int .i64) (.pair (.int .i64) .bool))) s)] [] ?_
 refine AW.seq ?_
 refine zo ?_
 refine zS 1 [(0, .sl (.pair (.int .i64) (.pair (.int .i64) (.pair (.int .i64) .bool))) s), (3, .sl (.pair (.int .i64) (.pair (.int .i64) (.pair (.int .i64) .bool))) s)] [] ?_
 refine AO.nilEq (neg := false) tab_ok (by decide) rfl rfl tab_22 rfl rfl rfl (fun hnil1 => ?_) ?_
 ·have h : (some []) = some r := by
   first | (simp only [hnil1] at h ⊢; simpa [ck] using h) | (simp [hnil1, ck] at h ⊢; first | done | exact h)
  refine zT [(0, .sl (.pair (.int .i64) (.pair (.int .i64) (.pair (.int .i64) .bool))) s), (4, .bool true)] [] gt ?_
  refine zB [(0, .sl (.pair (.int .i64) (.pair (.int .i64) (.pair (.int .i64) .bool))) s), (4, .bool true)] [] ?_
  refine AW.cond (b := true) rfl (fun _ => ?_) (fun hb2 => by cases hb2)
  refine zo ?_
  refine zB [(2, .cv (.slice none 0 0))] [] ?_
  refine zr ?_
  obtain rfl := Option.some.inj h
  exact zR [] [2000] []
 ·refine zT [(0, .sl (.pair (.int .i64) (.pair (.int .i64) (.pair (.int .i64) .bool))) s), (4, .bool false)] [] gt ?_
  refine zB [(0, .sl (.pair (.int .i64) (.pair (.int .i64) (.pair (.int .i64) .bool))) s), (4, .bool false)] [] ?_
  refine AW.cond (b := false) rfl (fun hb3 => by cases hb3) (fun _ => ?_)
  refine zk ?_
  refine zo ?_
  obtain ⟨c4, h⟩ := ck_some.1 h
  refine zB [(2, .own 7)] [(7, .arr 61 (.pair (.int .i64) (.pair (.int .i64) (.pair (.int .i64) .bool))) s)] ?_
  refine AW.ret ?_
  obtain rfl := Option.some.inj h
  exact zR [] [] [(2000, 7)]

theorem hc_progress_Only_1 (m : Int × Int × Int × Bool) (a1 : Int) {r : Unit} (h : progress_Only_1 m a1 = some r) : HC Try.prog 85 [(1000, .box 3 [.int .i64 a1])] [.agg [.int .i64 m.1, .int .i64 m.2.1, .int .i64 m.2.2.1, .bool m.2.2.2], .bp 1000 0] [(1000, .box 3 [.int .i64 a1])] (.bool (!(decide (m.2.1 = a1)))) := by
 unfold progress_Only_1 at h
 refine zH Try.func85 [.tmp 3] 8 ?_
 refine zo ?_
 refine zB [(1, .bp 1000 0), (2, .bp 2 0)] [(2, .box 61 [.int .i64 m.1, .int .i64 m.2.1, .int .i64 m.2.2.1, .bool m.2.2.2]), (1000, .box 3 [.int .i64 a1])] ?_
 refine zo ?_
 refine zB [(3, .bool (!(decide (m.2.1 = a1))))] [(1000, .box 3 [.int .i64 a1])] ?_
 refine AW.ret ?_
 obtain rfl := Option.some.inj h
 exact zR [] [] []

theorem hc_slices_IndexFunc_6 (s : List (Int × Int × Int × Bool)) (c0 : Int) {r : Int} (h : slices_IndexFunc_6 s c0 = some r) : HC Try.prog 100 [(1000, .box 3 [.int .i64 c0])] [.sl (.pair (.int .i64) (.pair (.int .i64) (.pair (.int .i64) .bool))) s, .fn (.func 85) [] [.bp 1000 0]] [(1000, .box 3 [.int .i64 c0])] (.int .i64 r) := by
 unfold slices_IndexFunc_6 at h
 refine zH Try.func100 [.tmp 4] 19 ?_
 refine zo ?_
 refine zB [(0, .sl (.pair (.int .i64) (.pair (.int .i64) (.pair (.int .i64) .bool))) s), (1, .fn (.func 85) [] [.bp 1000 0])] [(1000, .box 3 [.int .i64 c0])] ?_
 refine AW.have1 (fun _ : Unit => slices_IndexFunc_6_k1 = some r) (fun _ => ⟨fr [], hpGet [(1000, .box 3 [.int .i64 c0])], gt⟩) (fun _ h => ?_) (fun hk_slices_IndexFunc_6_k1 => ?_)
 ·as_aux_lemma =>
   unfold slices_IndexFunc_6_k1 at h
   refine zo ?_
   refine zB [(4, .int .i64 (-1))] [(1000, .box 3 [.int .i64 c0])] ?_
   refine AW.ret ?_
   obtain rfl := Option.some.inj h
   exact zR [] [] []
 ·refine AW.seq ?_
  refine zo ?_
  refine zB [(0, .sl (.pair (.int .i64) (.pair (.int .i64) (.pair (.int .i64) .bool))) s), (1, .fn (.func 85) [] [.bp 1000 0]), (7, .int .i64 (s.length : Int)), (8, .int .i64 0)] [(1000, .box 3 [.int .i64 c0])] ?_
  refine AW.block ?_
  obtain ⟨rv5, hw1, ho2⟩ := Option.bind_eq_some_iff.1 h
  refine AW.loopO (slices_IndexFunc_6_b1 s c0) (fun st1 => ⟨fr [(0, .sl (.pair (.int .i64) (.pair (.int .i64) (.pair (.int .i64) .bool))) s), (1, .fn (.func 85) [] [.bp 1000 0]), (7, .int .i64 (s.length : Int)), (8, .int .i64 st1)], hpGet [(1000, .box 3 [.int .i64 c0])], gt⟩) 0 hw1 (zL [] [] []) ?_
  as_aux_lemma =>
   intro st1 x4 h hd3
   unfold slices_IndexFunc_6_b1 at h
   refine zo ?_
   refine zB [(0, .sl (.pair (.int .i64) (.pair (.int .i64) (.pair (.int .i64) .bool))) s), (1, .fn (.func 85) [] [.bp 1000 0]), (7, .int .i64 (s.length : Int)), (8, .int .i64 st1), (9, .bool (decide (st1 < (s.length : Int))))] [(1000, .box 3 [.int .i64 c0])] ?_
   refine AW.seq ?_
   refine zQ h (fun hb6 h => ?_) (fun hb6 h => ?_)
   ·refine zk ?_
    refine AW.seq ?_
    refine AW.block ?_
    refine zo ?_
    refine zB [(0, .sl (.pair (.int .i64) (.pair (.int .i64) (.pair (.int .i64) .bool))) s), (1, .fn (.func 85) [] [.bp 1000 0]), (5, .int .i64 st1), (7, .int .i64 (s.length : Int)), (8, .int .i64 st1)] [(1000, .box 3 [.int .i64 c0])] ?_
    refine zo ?_
    obtain ⟨c7, h⟩ := ck_some.1 h
    obtain ⟨c8, h⟩ := ck_some.1 h
    refine zS 5 [(0, .sl (.pair (.int .i64) (.pair (.int .i64) (.pair (.int .i64) .bool))) s), (1, .fn (.func 85) [] [.bp 1000 0]), (5, .int .i64 st1), (7, .int .i64 (s.length : Int)), (8, .int .i64 st1), (11, .fn (.func 85) [] [.bp 1000 0]), (15, .agg [.int .i64 (s.getD st1.toNat (0, 0, 0, false)).1, .int .i64 (s.getD st1.toNat (0, 0, 0, false)).2.1, .int .i64 (s.getD st1.toNat (0, 0, 0, false)).2.2.1, .bool (s.getD st1.toNat (0, 0, 0, false)).2.2.2])] [(1000, .box 3 [.int .i64 c0])] ?_
    obtain ⟨v0, hv9, h⟩ := Option.bind_eq_some_iff.1 h
    refine zC [] [(1000, 1000)] (hc_progress_Only_1 (s.getD st1.toNat (0, 0, 0, false)) c0 hv9) [(0, .sl (.pair (.int .i64) (.pair (.int .i64) (.pair (.int .i64) .bool))) s), (1, .fn (.func 85) [] [.bp 1000 0]), (5, .int .i64 st1), (7, .int .i64 (s.length : Int)), (8, .int .i64 st1), (16, .bool (!(decide ((s.getD st1.toNat (0, 0, 0, false)).2.1 = c0))))] [(1000, .box 3 [.int .i64 c0])] ?_
    refine zB [(0, .sl (.pair (.int .i64) (.pair (.int .i64) (.pair (.int .i64) .bool))) s), (1, .fn (.func 85) [] [.bp 1000 0]), (5, .int .i64 st1), (7, .int .i64 (s.length : Int)), (8, .int .i64 st1), (16, .bool (!(decide ((s.getD st1.toNat (0, 0, 0, false)).2.1 = c0))))] [(1000, .box 3 [.int .i64 c0])] ?_
    refine zQ h (fun hb10 h => ?_) (fun hb10 h => ?_)
    ·refine zo ?_
     refine zB [(4, .int .i64 st1)] [(1000, .box 3 [.int .i64 c0])] ?_
     refine AW.ret ?_
     refine ablock_r ?_
     refine athen_r ?_
     obtain rfl := Option.some.inj h
     rw [← hd3 _ rfl] at ho2
     have h := ho2
     try simp only at h
     refine athen_r ?_
     refine ablock_r ?_
     refine athen_r ?_
     obtain rfl := Option.some.inj h
     exact zR [] [] []
    ·refine zm ?_
     refine athen_n ?_
     refine AW.ops ?_
     obtain ⟨c11, h⟩ := ck_some.1 h
     refine zA [(0, .sl (.pair (.int .i64) (.pair (.int .i64) (.pair (.int .i64) .bool))) s), (1, .fn (.func 85) [] [.bp 1000 0]), (7, .int .i64 (s.length : Int)), (8, .int .i64 (st1 + 1))] [(1000, .box 3 [.int .i64 c0])] ?_
     obtain rfl := Option.some.inj h
     exact ⟨_, rfl, zL [] [] []⟩
   ·refine AW.exit ?_
    refine athen_e ?_
    obtain rfl := Option.some.inj h
    rw [← hd3 _ rfl] at ho2
    have h := ho2
    try simp only at h
    refine athen_e ?_
    refine ablock_s ?_
    refine athen_n ?_
    exact AW.weaken (zL [] [] []) (hk_slices_IndexFunc_6_k1 () h)

theorem hc_slices_DeleteFunc_2 (s : List (Int × Int × Int × Bool)) (c0 : Int) {r : (List (Int × Int × Int × Bool))} (h : slices_DeleteFunc_2 s c0 = some r) : HC Try.prog 86 [(1000, .arr 61 (.pair (.int .i64) (.pair (.int .i64) (.pair (.int .i64) .bool))) s), (1001, .box 3 [.int .i64 c0])] [.own 1000, .fn (.func 85) [] [.bp 1001 0]] [(1001, .box 3 [.int .i64 c0]), (2000, .arr 61 (.pair (.int .i64) (.pair (.int .i64) (.pair (.int .i64) .bool))) r)] (.own 2000) := by
 unfold slices_DeleteFunc_2 at h
 refine zH Try.func86 [.tmp 4] 42 ?_
 refine zo ?_
 refine zB [(0, .own 1000), (1, .fn (.func 85) [] [.bp 1001 0])] [(1000, .arr 61 (.pair (.int .i64) (.pair (.int .i64) (.pair (.int .i64) .bool))) s), (1001, .box 3 [.int .i64 c0])] ?_
 refine zo ?_
 refine zS 2 [(0, .own 1000), (1, .fn (.func 85) [] [.bp 1001 0]), (8, .own 1000), (9, .fn (.func 85) [] [.bp 1001 0])] [(1000, .arr 61 (.pair (.int .i64) (.pair (.int .i64) (.pair (.int .i64) .bool))) s), (1001, .box 3 [.int .i64 c0])] ?_
 obtain ⟨v0, hv1, h⟩ := Option.bind_eq_some_iff.1 h
 refine zC [1000] [(1000, 1001)] (hc_slices_IndexFunc_6 s c0 hv1) [(0, .own 1000), (1, .fn (.func 85) [] [.bp 1001 0]), (10, .int .i64 v0)] [(1000, .arr 61 (.pair (.int .i64) (.pair (.int .i64) (.pair (.int .i64) .bool))) s), (1001, .box 3 [.int .i64 c0])] ?_
 refine zB [(0, .own 1000), (1, .fn (.func 85) [] [.bp 1001 0]), (5, .int .i64 v0)] [(1000, .arr 61 (.pair (.int .i64) (.pair (.int .i64) (.pair (.int .i64) .bool))) s), (1001, .box 3 [.int .i64 c0])] ?_
 refine AW.seq ?_
 refine zo ?_
 refine zB [(0, .own 1000), (1, .fn (.func 85) [] [.bp 1001 0]), (5, .int .i64 v0), (12, .bool (decide (v0 = (-1))))] [(1000, .arr 61 (.pair (.int .i64) (.pair (.int .i64) (.pair (.int .i64) .bool))) s), (1001, .box 3 [.int .i64 c0])] ?_
 refine zQ h (fun hb2 h => ?_) (fun hb2 h => ?_)
 ·refine zo ?_
  refine zB [(4, .own 1000)] [(1000, .arr 61 (.pair (.int .i64) (.pair (.int .i64) (.pair (.int .i64) .bool))) s), (1001, .box 3 [.int .i64 c0])] ?_
  refine zr ?_
  obtain rfl := Option.some.inj h
  exact zR [] [] [(2000, 1000)]
 ·refine zk ?_
  refine AW.have1 (fun b1 : (List (Int × Int × Int × Bool)) × Int => slices_DeleteFunc_2_k1 b1 = some r) (fun b1 => ⟨fr [(0, .own 1000), (5, .int .i64 b1.2)], hpGet [(1000, .arr 61 (.pair (.int .i64) (.pair (.int .i64) (.pair (.int .i64) .bool))) b1.1), (1001, .box 3 [.int .i64 c0])], gt⟩) (fun b1 h => ?_) (fun hk_slices_DeleteFunc_2_k1 => ?_)
  ·as_aux_lemma =>
    unfold slices_DeleteFunc_2_k1 at h
    refine zo ?_
    refine zS 2 [(0, .own 1000), (5, .int .i64 b1.2), (36, .own 1000), (37, .int .i64 b1.2)] [(1000, .arr 61 (.pair (.int .i64) (.pair (.int .i64) (.pair (.int .i64) .bool))) b1.1), (1001, .box 3 [.int .i64 c0])] ?_
    obtain ⟨c3, h⟩ := ck_some.1 h
    obtain ⟨c4, h⟩ := ck_some.1 h
    refine AO.sliceView tab_ok (by decide) rfl rfl tab_22 rfl tab_61 rfl rfl rfl (b1.2) ((b1.1.length : Int)) (by first | assumption | omega | (simp only [go_sem, hb2]) <;> (with_reducible and_intros) <;> first | assumption | rfl | omega | (unfold maxLen; omega)) (by first | assumption | omega | (simp only [go_sem, hb2]) <;> (with_reducible and_intros) <;> first | assumption | rfl | omega | (unfold maxLen; omega)) (by first | assumption | omega | (simp only [go_sem, hb2]) <;> (with_reducible and_intros) <;> first | assumption | rfl | omega | (unfold maxLen; omega)) (.inr ⟨_, _, rfl, rfl⟩) (.inl ⟨rfl, rfl⟩) ?_
    refine zT [(0, .own 1000), (5, .int .i64 b1.2), (38, .vw 1000 4 b1.2.toNat ((b1.1.length : Int) - b1.2).toNat)] [(1000, .arr 61 (.pair (.int .i64) (.pair (.int .i64) (.pair (.int .i64) .bool))) b1.1), (1001, .box 3 [.int .i64 c0])] gt ?_
    obtain ⟨c5, h⟩ := ck_some.1 h
    obtain ⟨c6, h⟩ := ck_some.1 h
    refine AO.clearView tab_ok (by decide) rfl rfl rfl rfl rfl tab_22 rfl tab_61 rfl rfl rfl (by first | assumption | omega | (simp only [go_sem, hb2]) <;> (with_reducible and_intros) <;> first | assumption | rfl | omega | (unfold maxLen; omega)) (by first | assumption | omega | (simp only [go_sem, hb2]) <;> (with_reducible and_intros) <;> first | assumption | rfl | omega | (unfold maxLen; omega)) ?_
    refine zT [(0, .own 1000), (5, .int .i64 b1.2)] [(1000, .arr 61 (.pair (.int .i64) (.pair (.int .i64) (.pair (.int .i64) .bool))) (((b1.1.take b1.2.toNat) ++ (List.replicate ((b1.1.length : Int) - b1.2).toNat ((0, 0, 0, false) : Int × Int × Int × Bool))) ++ (b1.1.drop (b1.2.toNat + ((b1.1.length : Int) - b1.2).toNat)))), (1001, .box 3 [.int .i64 c0])] gt ?_
    refine zB [(0, .own 1000), (5, .int .i64 b1.2)] [(1000, .arr 61 (.pair (.int .i64) (.pair (.int .i64) (.pair (.int .i64) .bool))) (((b1.1.take b1.2.toNat) ++ (List.replicate ((b1.1.length : Int) - b1.2).toNat ((0, 0, 0, false) : Int × Int × Int × Bool))) ++ (b1.1.drop (b1.2.toNat + ((b1.1.length : Int) - b1.2).toNat)))), (1001, .box 3 [.int .i64 c0])] ?_
    refine zo ?_
    refine zS 2 [(39, .own 1000), (40, .int .i64 b1.2)] [(1000, .arr 61 (.pair (.int .i64) (.pair (.int .i64) (.pair (.int .i64) .bool))) (((b1.1.take b1.2.toNat) ++ (List.replicate ((b1.1.length : Int) - b1.2).toNat ((0, 0, 0, false) : Int × Int × Int × Bool))) ++ (b1.1.drop (b1.2.toNat + ((b1.1.length : Int) - b1.2).toNat)))), (1001, .box 3 [.int .i64 c0])] ?_
    obtain ⟨c7, h⟩ := ck_some.1 h
    obtain ⟨c8, h⟩ := ck_some.1 h
    refine AO.sliceOwn tab_ok (by decide) (by decide) rfl rfl tab_22 rfl tab_61 rfl rfl rfl rfl (by first | assumption | omega | (simp only [go_sem, hb2]) <;> (with_reducible and_intros) <;> first | assumption | rfl | omega | (unfold maxLen; omega)) (by first | assumption | omega | (simp only [go_sem, hb2]) <;> (with_reducible and_intros) <;> first | assumption | rfl | omega | (unfold maxLen; omega)) ?_
    refine zT [(41, .own 41)] [(41, .arr 61 (.pair (.int .i64) (.pair (.int .i64) (.pair (.int .i64) .bool))) ((((b1.1.take b1.2.toNat) ++ (List.replicate ((b1.1.length : Int) - b1.2).toNat ((0, 0, 0, false) : Int × Int × Int × Bool))) ++ (b1.1.drop (b1.2.toNat + ((b1.1.length : Int) - b1.2).toNat))).take b1.2.toNat)), (1001, .box 3 [.int .i64 c0])] gt ?_
    refine zB [(4, .own 41)] [(41, .arr 61 (.pair (.int .i64) (.pair (.int .i64) (.pair (.int .i64) .bool))) ((((b1.1.take b1.2.toNat) ++ (List.replicate ((b1.1.length : Int) - b1.2).toNat ((0, 0, 0, false) : Int × Int × Int × Bool))) ++ (b1.1.drop (b1.2.toNat + ((b1.1.length : Int) - b1.2).toNat))).take b1.2.toNat)), (1001, .box 3 [.int .i64 c0])] ?_
    refine AW.ret ?_
    obtain rfl := Option.some.inj h
    exact zR [] [] [(2000, 41)]
  ·refine AW.seq ?_
   refine zo ?_
   obtain ⟨c9, h⟩ := ck_some.1 h
   refine zB [(0, .own 1000), (1, .fn (.func 85) [] [.bp 1001 0]), (5, .int .i64 v0), (6, .int .i64 (v0 + 1))] [(1000, .arr 61 (.pair (.int .i64) (.pair (.int .i64) (.pair (.int .i64) .bool))) s), (1001, .box 3 [.int .i64 c0])] ?_
   refine AW.block ?_
   obtain ⟨rv14, hw10, ho11⟩ := Option.bind_eq_some_iff.1 h
   refine AW.loopO (slices_DeleteFunc_2_b1 c0) (fun st1 => ⟨fr [(0, .own 1000), (1, .fn (.func 85) [] [.bp 1001 0]), (5, .int .i64 st1.2.1), (6, .int .i64 st1.2.2)], hpGet [(1000, .arr 61 (.pair (.int .i64) (.pair (.int .i64) (.pair (.int .i64) .bool))) st1.1), (1001, .box 3 [.int .i64 c0])], gt⟩) (s, v0, (v0 + 1)) hw10 (zL [] [] []) ?_
   as_aux_lemma =>
    intro st1 x13 h hd12
    unfold slices_DeleteFunc_2_b1 at h
    refine AW.seq ?_
    refine zo ?_
    refine zB [(0, .own 1000), (1, .fn (.func 85) [] [.bp 1001 0]), (5, .int .i64 st1.2.1), (6, .int .i64 st1.2.2), (19, .bool (decide (st1.2.2 < (st1.1.length : Int))))] [(1000, .arr 61 (.pair (.int .i64) (.pair (.int .i64) (.pair (.int .i64) .bool))) st1.1), (1001, .box 3 [.int .i64 c0])] ?_
    refine zQ h (fun hb15 h => ?_) (fun hb15 h => ?_)
    ·refine zk ?_
     refine AW.seq ?_
     refine AW.block ?_
     refine zo ?_
     obtain ⟨c16, h⟩ := ck_some.1 h
     obtain ⟨c17, h⟩ := ck_some.1 h
     refine zS 5 [(0, .own 1000), (1, .fn (.func 85) [] [.bp 1001 0]), (5, .int .i64 st1.2.1), (6, .int .i64 st1.2.2), (7, .bp 7 0), (25, .agg [.int .i64 (st1.1.getD st1.2.2.toNat (0, 0, 0, false)).1, .int .i64 (st1.1.getD st1.2.2.toNat (0, 0, 0, false)).2.1, .int .i64 (st1.1.getD st1.2.2.toNat (0, 0, 0, false)).2.2.1, .bool (st1.1.getD st1.2.2.toNat (0, 0, 0, false)).2.2.2])] [(7, .box 61 [.int .i64 0, .int .i64 0, .int .i64 0, .bool false]), (1000, .arr 61 (.pair (.int .i64) (.pair (.int .i64) (.pair (.int .i64) .bool))) st1.1), (1001, .box 3 [.int .i64 c0])] ?_
     refine zB [(0, .own 1000), (1, .fn (.func 85) [] [.bp 1001 0]), (5, .int .i64 st1.2.1), (6, .int .i64 st1.2.2), (7, .bp 7 0)] [(7, .box 61 [.int .i64 (st1.1.getD st1.2.2.toNat (0, 0, 0, false)).1, .int .i64 (st1.1.getD st1.2.2.toNat (0, 0, 0, false)).2.1, .int .i64 (st1.1.getD st1.2.2.toNat (0, 0, 0, false)).2.2.1, .bool (st1.1.getD st1.2.2.toNat (0, 0, 0, false)).2.2.2]), (1000, .arr 61 (.pair (.int .i64) (.pair (.int .i64) (.pair (.int .i64) .bool))) st1.1), (1001, .box 3 [.int .i64 c0])] ?_
     refine zo ?_
     refine zS 2 [(0, .own 1000), (1, .fn (.func 85) [] [.bp 1001 0]), (5, .int .i64 st1.2.1), (6, .int .i64 st1.2.2), (7, .bp 7 0), (26, .fn (.func 85) [] [.bp 1001 0]), (27, .agg [.int .i64 (st1.1.getD st1.2.2.toNat (0, 0, 0, false)).1, .int .i64 (st1.1.getD st1.2.2.toNat (0, 0, 0, false)).2.1, .int .i64 (st1.1.getD st1.2.2.toNat (0, 0, 0, false)).2.2.1, .bool (st1.1.getD st1.2.2.toNat (0, 0, 0, false)).2.2.2])] [(7, .box 61 [.int .i64 (st1.1.getD st1.2.2.toNat (0, 0, 0, false)).1, .int .i64 (st1.1.getD st1.2.2.toNat (0, 0, 0, false)).2.1, .int .i64 (st1.1.getD st1.2.2.toNat (0, 0, 0, false)).2.2.1, .bool (st1.1.getD st1.2.2.toNat (0, 0, 0, false)).2.2.2]), (1000, .arr 61 (.pair (.int .i64) (.pair (.int .i64) (.pair (.int .i64) .bool))) st1.1), (1001, .box 3 [.int .i64 c0])] ?_
     obtain ⟨v0_2, hv18, h⟩ := Option.bind_eq_some_iff.1 h
     refine zC [] [(1000, 1001)] (hc_progress_Only_1 (st1.1.getD st1.2.2.toNat (0, 0, 0, false)) c0 hv18) [(0, .own 1000), (1, .fn (.func 85) [] [.bp 1001 0]), (5, .int .i64 st1.2.1), (6, .int .i64 st1.2.2), (7, .bp 7 0), (28, .bool (!(decide ((st1.1.getD st1.2.2.toNat (0, 0, 0, false)).2.1 = c0))))] [(7, .box 61 [.int .i64 (st1.1.getD st1.2.2.toNat (0, 0, 0, false)).1, .int .i64 (st1.1.getD st1.2.2.toNat (0, 0, 0, false)).2.1, .int .i64 (st1.1.getD st1.2.2.toNat (0, 0, 0, false)).2.2.1, .bool (st1.1.getD st1.2.2.toNat (0, 0, 0, false)).2.2.2]), (1000, .arr 61 (.pair (.int .i64) (.pair (.int .i64) (.pair (.int .i64) .bool))) st1.1), (1001, .box 3 [.int .i64 c0])] ?_
     refine zB [(0, .own 1000), (1, .fn (.func 85) [] [.bp 1001 0]), (5, .int .i64 st1.2.1), (6, .int .i64 st1.2.2), (7, .bp 7 0), (29, .bool (!(!(decide ((st1.1.getD st1.2.2.toNat (0, 0, 0, false)).2.1 = c0)))))] [(7, .box 61 [.int .i64 (st1.1.getD st1.2.2.toNat (0, 0, 0, false)).1, .int .i64 (st1.1.getD st1.2.2.toNat (0, 0, 0, false)).2.1, .int .i64 (st1.1.getD st1.2.2.toNat (0, 0, 0, false)).2.2.1, .bool (st1.1.getD st1.2.2.toNat (0, 0, 0, false)).2.2.2]), (1000, .arr 61 (.pair (.int .i64) (.pair (.int .i64) (.pair (.int .i64) .bool))) st1.1), (1001, .box 3 [.int .i64 c0])] ?_
     refine zQ h (fun hb19 h => ?_) (fun hb19 h => ?_)
     ·refine zo ?_
      obtain ⟨c20, h⟩ := ck_some.1 h
      obtain ⟨c21, h⟩ := ck_some.1 h
      refine zB [(0, .own 1000), (1, .fn (.func 85) [] [.bp 1001 0]), (5, .int .i64 st1.2.1), (6, .int .i64 st1.2.2)] [(1000, .arr 61 (.pair (.int .i64) (.pair (.int .i64) (.pair (.int .i64) .bool))) (st1.1.set st1.2.1.toNat (st1.1.getD st1.2.2.toNat (0, 0, 0, false)))), (1001, .box 3 [.int .i64 c0])] ?_
      refine AW.ops ?_
      obtain ⟨c22, h⟩ := ck_some.1 h
      refine zA [(0, .own 1000), (1, .fn (.func 85) [] [.bp 1001 0]), (5, .int .i64 (st1.2.1 + 1)), (6, .int .i64 st1.2.2)] [(1000, .arr 61 (.pair (.int .i64) (.pair (.int .i64) (.pair (.int .i64) .bool))) (st1.1.set st1.2.1.toNat (st1.1.getD st1.2.2.toNat (0, 0, 0, false)))), (1001, .box 3 [.int .i64 c0])] ?_
      refine ablock_n ?_
      refine athen_n ?_
      refine AW.ops ?_
      obtain ⟨c23, h⟩ := ck_some.1 h
      refine zA [(0, .own 1000), (1, .fn (.func 85) [] [.bp 1001 0]), (5, .int .i64 (st1.2.1 + 1)), (6, .int .i64 (st1.2.2 + 1))] [(1000, .arr 61 (.pair (.int .i64) (.pair (.int .i64) (.pair (.int .i64) .bool))) (st1.1.set st1.2.1.toNat (st1.1.getD st1.2.2.toNat (0, 0, 0, false)))), (1001, .box 3 [.int .i64 c0])] ?_
      obtain rfl := Option.some.inj h
      exact ⟨_, rfl, zL [] [] []⟩
     ·refine zm ?_
      refine athen_n ?_
      refine AW.ops ?_
      obtain ⟨c24, h⟩ := ck_some.1 h
      refine zA [(0, .own 1000), (1, .fn (.func 85) [] [.bp 1001 0]), (5, .int .i64 st1.2.1), (6, .int .i64 (st1.2.2 + 1))] [(1000, .arr 61 (.pair (.int .i64) (.pair (.int .i64) (.pair (.int .i64) .bool))) st1.1), (1001, .box 3 [.int .i64 c0])] ?_
      obtain rfl := Option.some.inj h
      exact ⟨_, rfl, zL [] [] []⟩
    ·refine AW.exit ?_
     refine athen_e ?_
     obtain rfl := Option.some.inj h
     rw [← hd12 _ rfl] at ho11
     have h := ho11
     refine athen_e ?_
     refine ablock_s ?_
     refine athen_n ?_
     exact AW.weaken (zL [] [] []) (hk_slices_DeleteFunc_2_k1 _ h)

theorem hc_progress_Only (g : Int × (List (Int × Int × Int × Bool))) (thread : Int) {r : Int × (List (Int × Int × Int × Bool)) × Int} (h : progress_Only g thread = some r) : HC Try.prog 49 [] [.agg [.int .i64 g.1, .sl (.pair (.int .i64) (.pair (.int .i64) (.pair (.int .i64) .bool))) g.2], .int .i64 thread] [(2000, .arr 61 (.pair (.int .i64) (.pair (.int .i64) (.pair (.int .i64) .bool))) r.2.1)] (.tup [.agg [.int .i64 r.1, .own 2000], .int .i64 r.2.2]) := by
 unfold progress_Only at h
 refine zH Try.func49 [.cell 4 24, .tmp 5] 24 ?_
 refine zo ?_
 refine zB [(2, .bp 2 0), (3, .bp 3 0), (4, .bp 4 0)] [(2, .box 24 [.int .i64 g.1, .sl (.pair (.int .i64) (.pair (.int .i64) (.pair (.int .i64) .bool))) g.2]), (3, .box 3 [.int .i64 thread]), (4, .box 24 [.int .i64 0, .cv (.slice none 0 0)])] ?_
 refine AW.seq ?_
 refine zo ?_
 refine zS 1 [(2, .bp 2 0), (3, .bp 3 0), (4, .bp 4 0), (7, .agg [.int .i64 g.1, .sl (.pair (.int .i64) (.pair (.int .i64) (.pair (.int .i64) .bool))) g.2])] [(2, .box 24 [.int .i64 g.1, .sl (.pair (.int .i64) (.pair (.int .i64) (.pair (.int .i64) .bool))) g.2]), (3, .box 3 [.int .i64 thread]), (4, .box 24 [.int .i64 0, .cv (.slice none 0 0)])] ?_
 obtain ⟨v0, hv1, h⟩ := Option.bind_eq_some_iff.1 h
 refine zC [] [] (hc_progress_Valid g hv1) [(2, .bp 2 0), (3, .bp 3 0), (4, .bp 4 0), (8, .bool v0)] [(2, .box 24 [.int .i64 g.1, .sl (.pair (.int .i64) (.pair (.int .i64) (.pair (.int .i64) .bool))) g.2]), (3, .box 3 [.int .i64 thread]), (4, .box 24 [.int .i64 0, .cv (.slice none 0 0)])] ?_
 refine zB [(2, .bp 2 0), (3, .bp 3 0), (4, .bp 4 0), (9, .bool (!v0))] [(2, .box 24 [.int .i64 g.1, .sl (.pair (.int .i64) (.pair (.int .i64) (.pair (.int .i64) .bool))) g.2]), (3, .box 3 [.int .i64 thread]), (4, .box 24 [.int .i64 0, .cv (.slice none 0 0)])] ?_
 refine zQ h (fun hb2 h => ?_) (fun hb2 h => ?_)
 ·refine zo ?_
  refine zB [(4, .bp 4 0), (5, .int .i64 70)] [(4, .box 24 [.int .i64 0, .cv (.slice none 0 0)])] ?_
  refine zr ?_
  obtain rfl := Option.some.inj h
  exact zR [] [2000] []
 ·refine zk ?_
  refine AW.seq ?_
  refine zo ?_
  refine zS 1 [(2, .bp 2 0), (3, .bp 3 0), (4, .bp 4 0), (11, .int .i64 thread)] [(2, .box 24 [.int .i64 g.1, .sl (.pair (.int .i64) (.pair (.int .i64) (.pair (.int .i64) .bool))) g.2]), (3, .box 3 [.int .i64 thread]), (4, .box 24 [.int .i64 0, .cv (.slice none 0 0)])] ?_
  obtain ⟨v0_2, hv3, h⟩ := Option.bind_eq_some_iff.1 h
  refine zC [] [] (hc_progress_isThread thread hv3) [(2, .bp 2 0), (3, .bp 3 0), (4, .bp 4 0), (12, .bool v0_2)] [(2, .box 24 [.int .i64 g.1, .sl (.pair (.int .i64) (.pair (.int .i64) (.pair (.int .i64) .bool))) g.2]), (3, .box 3 [.int .i64 thread]), (4, .box 24 [.int .i64 0, .cv (.slice none 0 0)])] ?_
  refine zB [(2, .bp 2 0), (3, .bp 3 0), (4, .bp 4 0), (13, .bool (!v0_2))] [(2, .box 24 [.int .i64 g.1, .sl (.pair (.int .i64) (.pair (.int .i64) (.pair (.int .i64) .bool))) g.2]), (3, .box 3 [.int .i64 thread]), (4, .box 24 [.int .i64 0, .cv (.slice none 0 0)])] ?_
  refine zQ h (fun hb4 h => ?_) (fun hb4 h => ?_)
  ·refine zo ?_
   refine zB [(4, .bp 4 0), (5, .int .i64 2)] [(4, .box 24 [.int .i64 0, .cv (.slice none 0 0)])] ?_
   refine zr ?_
   obtain rfl := Option.some.inj h
   exact zR [] [2000] []
  ·refine zk ?_
   refine zo ?_
   refine zB [(2, .bp 2 0), (4, .bp 4 0), (6, .fn (.func 85) [] [.bp 3 0])] [(2, .box 24 [.int .i64 g.1, .sl (.pair (.int .i64) (.pair (.int .i64) (.pair (.int .i64) .bool))) g.2]), (3, .box 3 [.int .i64 thread]), (4, .box 24 [.int .i64 0, .cv (.slice none 0 0)])] ?_
   refine AW.seq ?_
   refine AW.draw tab_ok mixed_ok [(4, [30000]), (6, [3, 30000, 32000]), (8, [4])] [(0, [2]), (1, [2]), (5, [3]), (100008, [])] (by decide) (lex_fast (by kernel_rfl)) ?_
   as_aux_lemma =>
    refine adops_cut 4 (fun K' hK5 => ?_)
    try dsimp only [List.drop_succ_cons, List.drop_zero, List.take_succ_cons, List.take_zero]
    simp only [go_sem, hb2, hb4]
    repeat with_reducible refine zN ?_
    refine hK5 _ ?_
    as_aux_lemma =>
     obtain ⟨v0_3, hv6, h⟩ := Option.bind_eq_some_iff.1 h
     refine adops.call (by first | trivial | rfl) rfl rfl rfl (fun _ h => h) [] [] (hc_slices_Clone g.2 hv6) rfl (by (simp only [go_sem, hb2, hb4]) <;> (with_reducible and_intros) <;> first | assumption | rfl | omega | (unfold maxLen; omega)) (by (simp only [go_sem, hb2, hb4]) <;> (with_reducible and_intros) <;> first | assumption | rfl | omega | (unfold maxLen; omega)) rfl ?_
     refine adops_cut 1 (fun K' hK7 => ?_)
     try dsimp only [List.drop_succ_cons, List.drop_zero, List.take_succ_cons, List.take_zero]
     simp only [go_sem, hb2, hb4]
     repeat with_reducible refine zN ?_
     refine hK7 _ ?_
     as_aux_lemma =>
      obtain ⟨v0_4, hv8, h⟩ := Option.bind_eq_some_iff.1 h
      refine adops.call (by first | trivial | rfl) rfl rfl rfl (fun _ h => h) [] [(1000, 30000), (1001, 3)] (hc_slices_DeleteFunc_2 v0_3 thread hv8) rfl (by (simp only [go_sem, hb2, hb4]) <;> (with_reducible and_intros) <;> first | assumption | rfl | omega | (unfold maxLen; omega)) (by (simp only [go_sem, hb2, hb4]) <;> (with_reducible and_intros) <;> first | assumption | rfl | omega | (unfold maxLen; omega)) rfl ?_
      refine adops_cut 3 (fun K' hK9 => ?_)
      try dsimp only [List.drop_succ_cons, List.drop_zero, List.take_succ_cons, List.take_zero]
      simp only [go_sem, hb2, hb4]
      repeat with_reducible refine zN ?_
      refine hK9 _ ?_
      refine adops_nil ?_
      refine athen_n ?_
      refine zV [(4, .bp 4 0), (5, .int .i64 0)] [(4, .box 24 [.int .i64 g.1, .own 32000]), (32000, .arr 61 (.pair (.int .i64) (.pair (.int .i64) (.pair (.int .i64) .bool))) v0_4)] gt ?_
      as_aux_lemma =>
       refine AW.ret ?_
       obtain rfl := Option.some.inj h
       exact zR [] [] [(2000, 32000)]

theorem hc_progress_Holds (g : Int × (List (Int × Int × Int × Bool))) (claim : Int) (thread : Int) {r : Bool × Int} (h : progress_Holds g claim thread = some r) : HC Try.prog 29 [] [.agg [.int .i64 g.1, .sl (.pair (.int .i64) (.pair (.int .i64) (.pair (.int .i64) .bool))) g.2], .int .i64 claim, .int .i64 thread] [] (.tup [.bool r.1, .int .i64 r.2]) := by
 unfold progress_Holds at h
 refine zH Try.func29 [.tmp 6, .tmp 7] 28 ?_
 refine zo ?_
 refine zB [(1, .int .i64 claim), (2, .int .i64 thread), (3, .bp 3 0)] [(3, .box 24 [.int .i64 g.1, .sl (.pair (.int .i64) (.pair (.int .i64) (.pair (.int .i64) .bool))) g.2])] ?_
 refine zo ?_
 refine zS 3 [(13, .agg [.int .i64 g.1, .sl (.pair (.int .i64) (.pair (.int .i64) (.pair (.int .i64) .bool))) g.2]), (14, .int .i64 claim), (15, .int .i64 thread)] [] ?_
 obtain ⟨v0, hv1, h⟩ := Option.bind_eq_some_iff.1 h
 rcases v0 with v0_2 | v0_3 | v0_4 | v0_5
 ·try simp only at h
  refine zC [] [] (hc_progress_statementOf_a0 g claim thread hv1) [(16, .tup [.agg [.int .i64 0, .cv (.slice none 0 0), .cv (.nilFunc), .cv (.nilFunc)], .int .i64 v0_2])] [] ?_
  refine zS 5 [(8, .bp 8 0), (18, .int .i64 v0_2)] [(8, .box 85 [.int .i64 0, .cv (.slice none 0 0), .cv (.nilFunc), .cv (.nilFunc)])] ?_
  refine zB [(8, .bp 8 0), (9, .int .i64 v0_2)] [(8, .box 85 [.int .i64 0, .cv (.slice none 0 0), .cv (.nilFunc), .cv (.nilFunc)])] ?_
  refine AW.seq ?_
  refine zo ?_
  refine zB [(8, .bp 8 0), (9, .int .i64 v0_2), (20, .bool (!(decide (v0_2 = 0))))] [(8, .box 85 [.int .i64 0, .cv (.slice none 0 0), .cv (.nilFunc), .cv (.nilFunc)])] ?_
  refine zQ h (fun hb2 h => ?_) (fun hb2 h => ?_)
  ·refine zo ?_
   refine zB [(6, .bool false), (7, .int .i64 v0_2)] [] ?_
   refine zr ?_
   obtain rfl := Option.some.inj h
   exact zR [] [] []
  ·refine zk ?_
   refine zo ?_
   cases h
 ·try simp only at h
  refine zC [] [] (hc_progress_statementOf_a1 g claim thread hv1) [(16, .tup [.agg [.int .i64 v0_3.1, .sl (.pair (.int .i64) (.pair (.int .i64) (.pair (.int .i64) .bool))) v0_3.2, .fn (.func 94) [] [], .fn (.func 94) [] []], .int .i64 0])] [] ?_
  refine zS 5 [(8, .bp 8 0), (18, .int .i64 0)] [(8, .box 85 [.int .i64 v0_3.1, .sl (.pair (.int .i64) (.pair (.int .i64) (.pair (.int .i64) .bool))) v0_3.2, .fn (.func 94) [] [], .fn (.func 94) [] []])] ?_
  refine zB [(8, .bp 8 0), (9, .int .i64 0)] [(8, .box 85 [.int .i64 v0_3.1, .sl (.pair (.int .i64) (.pair (.int .i64) (.pair (.int .i64) .bool))) v0_3.2, .fn (.func 94) [] [], .fn (.func 94) [] []])] ?_
  refine AW.seq ?_
  refine zo ?_
  refine zB [(8, .bp 8 0), (9, .int .i64 0), (20, .bool false)] [(8, .box 85 [.int .i64 v0_3.1, .sl (.pair (.int .i64) (.pair (.int .i64) (.pair (.int .i64) .bool))) v0_3.2, .fn (.func 94) [] [], .fn (.func 94) [] []])] ?_
  refine AW.cond (b := false) rfl (fun hb3 => by cases hb3) (fun _ => ?_)
  refine zk ?_
  refine zo ?_
  refine zS 1 [(23, .agg [.int .i64 v0_3.1, .sl (.pair (.int .i64) (.pair (.int .i64) (.pair (.int .i64) .bool))) v0_3.2, .fn (.func 94) [] [], .fn (.func 94) [] []])] [] ?_
  obtain ⟨v0_6, hv4, h⟩ := Option.bind_eq_some_iff.1 h
  refine zC [] [] (hc_progress_statement_ranks v0_3.1 v0_3.2 hv4) [(24, .tup [.own 34000, .bool v0_6.2])] [(34000, .arr 3 (.int .i64) v0_6.1)] ?_
  refine zB [(11, .bool v0_6.2)] [] ?_
  refine zo ?_
  refine zB [(6, .bool v0_6.2), (7, .int .i64 0)] [] ?_
  refine AW.ret ?_
  obtain rfl := Option.some.inj h
  exact zR [] [] []
 ·try simp only at h
  refine zC [] [] (hc_progress_statementOf_a2 g claim thread hv1) [(16, .tup [.agg [.int .i64 v0_4.1, .sl (.pair (.int .i64) (.pair (.int .i64) (.pair (.int .i64) .bool))) v0_4.2, .fn (.func 96) [] [.bp 26000 0], .fn (.func 95) [] [.bp 26000 0]], .int .i64 0])] [(26000, .box 3 [.int .i64 thread])] ?_
  refine AO.weaken (s' := ⟨fr [(16, .tup [.agg [.int .i64 v0_4.1, .sl (.pair (.int .i64) (.pair (.int .i64) (.pair (.int .i64) .bool))) v0_4.2, .fn (.func 96) [] [.dp (.int .i64) thread 0], .fn (.func 95) [] [.dp (.int .i64) thread 0]], .int .i64 0])], hpGet [], gt⟩) (Wk.boxes [26000] rfl rfl (by (simp only [go_sem]) <;> (with_reducible and_intros) <;> first | assumption | rfl | omega | (unfold maxLen; omega)) (by (simp only [go_sem]) <;> (with_reducible and_intros) <;> first | assumption | rfl | omega | (unfold maxLen; omega))) ?_
  refine zS 5 [(8, .bp 8 0), (18, .int .i64 0)] [(8, .box 85 [.int .i64 v0_4.1, .sl (.pair (.int .i64) (.pair (.int .i64) (.pair (.int .i64) .bool))) v0_4.2, .fn (.func 96) [] [.dp (.int .i64) thread 0], .fn (.func 95) [] [.dp (.int .i64) thread 0]])] ?_
  refine zB [(8, .bp 8 0), (9, .int .i64 0)] [(8, .box 85 [.int .i64 v0_4.1, .sl (.pair (.int .i64) (.pair (.int .i64) (.pair (.int .i64) .bool))) v0_4.2, .fn (.func 96) [] [.dp (.int .i64) thread 0], .fn (.func 95) [] [.dp (.int .i64) thread 0]])] ?_
  refine AW.seq ?_
  refine zo ?_
  refine zB [(8, .bp 8 0), (9, .int .i64 0), (20, .bool false)] [(8, .box 85 [.int .i64 v0_4.1, .sl (.pair (.int .i64) (.pair (.int .i64) (.pair (.int .i64) .bool))) v0_4.2, .fn (.func 96) [] [.dp (.int .i64) thread 0], .fn (.func 95) [] [.dp (.int .i64) thread 0]])] ?_
  refine AW.cond (b := false) rfl (fun hb5 => by cases hb5) (fun _ => ?_)
  refine zk ?_
  refine zo ?_
  refine zS 1 [(23, .agg [.int .i64 v0_4.1, .sl (.pair (.int .i64) (.pair (.int .i64) (.pair (.int .i64) .bool))) v0_4.2, .fn (.func 96) [] [.dp (.int .i64) thread 0], .fn (.func 95) [] [.dp (.int .i64) thread 0]])] [] ?_
  obtain ⟨v0_7, hv6, h⟩ := Option.bind_eq_some_iff.1 h
  refine zC [] [] (hc_progress_statement_ranks_2 v0_4.1 v0_4.2 thread thread hv6) [(24, .tup [.own 34000, .bool v0_7.2])] [(34000, .arr 3 (.int .i64) v0_7.1)] ?_
  refine zB [(11, .bool v0_7.2)] [] ?_
  refine zo ?_
  refine zB [(6, .bool v0_7.2), (7, .int .i64 0)] [] ?_
  refine AW.ret ?_
  obtain rfl := Option.some.inj h
  exact zR [] [] []
 ·try simp only at h
  refine zC [] [] (hc_progress_statementOf_a3 g claim thread hv1) [(16, .tup [.agg [.int .i64 v0_5.1, .sl (.pair (.int .i64) (.pair (.int .i64) (.pair (.int .i64) .bool))) v0_5.2, .fn (.func 95) [] [.bp 26000 0], .fn (.func 95) [] [.bp 26000 0]], .int .i64 0])] [(26000, .box 3 [.int .i64 thread])] ?_
  refine AO.weaken (s' := ⟨fr [(16, .tup [.agg [.int .i64 v0_5.1, .sl (.pair (.int .i64) (.pair (.int .i64) (.pair (.int .i64) .bool))) v0_5.2, .fn (.func 95) [] [.dp (.int .i64) thread 0], .fn (.func 95) [] [.dp (.int .i64) thread 0]], .int .i64 0])], hpGet [], gt⟩) (Wk.boxes [26000] rfl rfl (by (simp only [go_sem]) <;> (with_reducible and_intros) <;> first | assumption | rfl | omega | (unfold maxLen; omega)) (by (simp only [go_sem]) <;> (with_reducible and_intros) <;> first | assumption | rfl | omega | (unfold maxLen; omega))) ?_
  refine zS 5 [(8, .bp 8 0), (18, .int .i64 0)] [(8, .box 85 [.int .i64 v0_5.1, .sl (.pair (.int .i64) (.pair (.int .i64) (.pair (.int .i64) .bool))) v0_5.2, .fn (.func 95) [] [.dp (.int .i64) thread 0], .fn (.func 95) [] [.dp (.int .i64) thread 0]])] ?_
  refine zB [(8, .bp 8 0), (9, .int .i64 0)] [(8, .box 85 [.int .i64 v0_5.1, .sl (.pair (.int .i64) (.pair (.int .i64) (.pair (.int .i64) .bool))) v0_5.2, .fn (.func 95) [] [.dp (.int .i64) thread 0], .fn (.func 95) [] [.dp (.int .i64) thread 0]])] ?_
  refine AW.seq ?_
  refine zo ?_
  refine zB [(8, .bp 8 0), (9, .int .i64 0), (20, .bool false)] [(8, .box 85 [.int .i64 v0_5.1, .sl (.pair (.int .i64) (.pair (.int .i64) (.pair (.int .i64) .bool))) v0_5.2, .fn (.func 95) [] [.dp (.int .i64) thread 0], .fn (.func 95) [] [.dp (.int .i64) thread 0]])] ?_
  refine AW.cond (b := false) rfl (fun hb7 => by cases hb7) (fun _ => ?_)
  refine zk ?_
  refine zo ?_
  refine zS 1 [(23, .agg [.int .i64 v0_5.1, .sl (.pair (.int .i64) (.pair (.int .i64) (.pair (.int .i64) .bool))) v0_5.2, .fn (.func 95) [] [.dp (.int .i64) thread 0], .fn (.func 95) [] [.dp (.int .i64) thread 0]])] [] ?_
  obtain ⟨v0_8, hv8, h⟩ := Option.bind_eq_some_iff.1 h
  refine zC [] [] (hc_progress_statement_ranks_3 v0_5.1 v0_5.2 thread thread hv8) [(24, .tup [.own 34000, .bool v0_8.2])] [(34000, .arr 3 (.int .i64) v0_8.1)] ?_
  refine zB [(11, .bool v0_8.2)] [] ?_
  refine zo ?_
  refine zB [(6, .bool v0_8.2), (7, .int .i64 0)] [] ?_
  refine AW.ret ?_
  obtain rfl := Option.some.inj h
  exact zR [] [] []

theorem hc_lineallaw07_asked (claim : Int) (thread : Int) {r : Int × Int} (h : lineallaw07_asked claim thread = some r) : HC Try.prog 51 [] [.int .u8 claim, .int .u8 thread] [] (.tup [.int .i64 r.1, .int .i64 r.2]) := by
 unfold lineallaw07_asked at h
 refine zH Try.func51 [.tmp 4, .tmp 5] 16 ?_
 refine zo ?_
 refine zB [(0, .int .u8 claim), (1, .int .u8 thread)] [] ?_
 refine zo ?_
 obtain ⟨c1, h⟩ := ck_some.1 h
 obtain ⟨c2, h⟩ := ck_some.1 h
 refine zB [(1, .int .u8 thread), (6, .int .i64 (claim % 3))] [] ?_
 refine AW.seq ?_
 refine zo ?_
 refine zB [(1, .int .u8 thread), (6, .int .i64 (claim % 3)), (11, .bool (decide ((claim % 3) = 0)))] [] ?_
 refine zQ h (fun hb3 h => ?_) (fun hb3 h => ?_)
 ·refine zo ?_
  refine zB [(4, .int .i64 0), (5, .int .i64 0)] [] ?_
  refine zr ?_
  obtain rfl := Option.some.inj h
  exact zR [] [] []
 ·refine zk ?_
  refine zo ?_
  obtain ⟨c4, h⟩ := ck_some.1 h
  obtain ⟨c5, h⟩ := ck_some.1 h
  refine zS 5 [(4, .int .i64 (claim % 3)), (15, .int .i64 (thread % 3))] [] ?_
  refine zB [(4, .int .i64 (claim % 3)), (5, .int .i64 (thread % 3))] [] ?_
  refine AW.ret ?_
  obtain rfl := Option.some.inj h
  exact zR [] [] []

end Go.Proofs.Yteclokkdgmacpaa
