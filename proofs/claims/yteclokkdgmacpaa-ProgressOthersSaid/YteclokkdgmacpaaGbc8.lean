/-
  Made by wip/tool/dc.py out of the print of the program: contracts.
-/
import Derived.Test.YteclokkdgmacpaaGrp
import Derived.Test.YteclokkdgmacpaaSh7
import Derived.Test.YteclokkdgmacpaaAvd
import Derived.Test.YteclokkdgmacpaaGbc1
import Derived.Test.YteclokkdgmacpaaGbc7
namespace Go.Proofs.Yteclokkdgmacpaa
open Go.RowKit

set_option linter.unusedSimpArgs false
set_option linter.unusedVariables false
set_option linter.constructorNameAsVariable false

set_option maxRecDepth 100000
set_option maxHeartbeats 2000000

theorem hc_progress_Without (g : Int × (List (Int × Int × Int × Bool))) (move : Int) {r : Int × (List (Int × Int × Int × Bool)) × Int} (h : progress_Without g move = some r) : HC Try.prog 44 [] [.agg [.int .i64 g.1, .sl (.pair (.int .i64) (.pair (.int .i64) (.pair (.int .i64) .bool))) g.2], .int .i64 move] [(2000, .arr 61 (.pair (.int .i64) (.pair (.int .i64) (.pair (.int .i64) .bool))) r.2.1)] (.tup [.agg [.int .i64 r.1, .own 2000], .int .i64 r.2.2]) := by
 unfold progress_Without at h
 refine zH Try.func44 [.cell 4 24, .tmp 5] 31 ?_
 refine zo ?_
 refine zB [(1, .int .i64 move), (2, .bp 2 0), (4, .bp 4 0)] [(2, .box 24 [.int .i64 g.1, .sl (.pair (.int .i64) (.pair (.int .i64) (.pair (.int .i64) .bool))) g.2]), (4, .box 24 [.int .i64 0, .cv (.slice none 0 0)])] ?_
 refine AW.seq ?_
 refine zo ?_
 refine zS 1 [(1, .int .i64 move), (2, .bp 2 0), (4, .bp 4 0), (6, .agg [.int .i64 g.1, .sl (.pair (.int .i64) (.pair (.int .i64) (.pair (.int .i64) .bool))) g.2])] [(2, .box 24 [.int .i64 g.1, .sl (.pair (.int .i64) (.pair (.int .i64) (.pair (.int .i64) .bool))) g.2]), (4, .box 24 [.int .i64 0, .cv (.slice none 0 0)])] ?_
 obtain ⟨v0, hv1, h⟩ := Option.bind_eq_some_iff.1 h
 refine zC [] [] (hc_progress_Valid g hv1) [(1, .int .i64 move), (2, .bp 2 0), (4, .bp 4 0), (7, .bool v0)] [(2, .box 24 [.int .i64 g.1, .sl (.pair (.int .i64) (.pair (.int .i64) (.pair (.int .i64) .bool))) g.2]), (4, .box 24 [.int .i64 0, .cv (.slice none 0 0)])] ?_
 refine zB [(1, .int .i64 move), (2, .bp 2 0), (4, .bp 4 0), (8, .bool (!v0))] [(2, .box 24 [.int .i64 g.1, .sl (.pair (.int .i64) (.pair (.int .i64) (.pair (.int .i64) .bool))) g.2]), (4, .box 24 [.int .i64 0, .cv (.slice none 0 0)])] ?_
 refine zQ h (fun hb2 h => ?_) (fun hb2 h => ?_)
 ·refine zo ?_
  refine zB [(4, .bp 4 0), (5, .int .i64 70)] [(4, .box 24 [.int .i64 0, .cv (.slice none 0 0)])] ?_
  refine zr ?_
  obtain rfl := Option.some.inj h
  exact zR [] [2000] []
 ·refine zk ?_
  refine AW.seq ?_
  refine zo ?_
  refine zS 4 [(1, .int .i64 move), (2, .bp 2 0), (4, .bp 4 0), (10, .int .i64 move), (13, .int .i64 (g.2.length : Int))] [(2, .box 24 [.int .i64 g.1, .sl (.pair (.int .i64) (.pair (.int .i64) (.pair (.int .i64) .bool))) g.2]), (4, .box 24 [.int .i64 0, .cv (.slice none 0 0)])] ?_
  obtain ⟨v0_2, hv3, h⟩ := Option.bind_eq_some_iff.1 h
  refine zC [] [] (hc_progress_isBelow move (g.2.length : Int) hv3) [(1, .int .i64 move), (2, .bp 2 0), (4, .bp 4 0), (14, .bool v0_2)] [(2, .box 24 [.int .i64 g.1, .sl (.pair (.int .i64) (.pair (.int .i64) (.pair (.int .i64) .bool))) g.2]), (4, .box 24 [.int .i64 0, .cv (.slice none 0 0)])] ?_
  refine zB [(1, .int .i64 move), (2, .bp 2 0), (4, .bp 4 0), (15, .bool (!v0_2))] [(2, .box 24 [.int .i64 g.1, .sl (.pair (.int .i64) (.pair (.int .i64) (.pair (.int .i64) .bool))) g.2]), (4, .box 24 [.int .i64 0, .cv (.slice none 0 0)])] ?_
  refine zQ h (fun hb4 h => ?_) (fun hb4 h => ?_)
  ·refine zo ?_
   refine zB [(4, .bp 4 0), (5, .int .i64 2)] [(4, .box 24 [.int .i64 0, .cv (.slice none 0 0)])] ?_
   refine zr ?_
   obtain rfl := Option.some.inj h
   exact zR [] [2000] []
  ·refine zk ?_
   refine AW.seq ?_
   refine AW.draw tab_ok mixed_ok [(11, [28]), (12, [39000]), (14, [4])] [(0, [2]), (1, [2]), (100014, [])] (by decide) (lex_fast (by kernel_rfl)) ?_
   as_aux_lemma =>
    obtain ⟨c6, h⟩ := ck_some.1 h
    obtain ⟨c7, h⟩ := ck_some.1 h
    refine adops_cut 6 (fun K' hK5 => ?_)
    try dsimp only [List.drop_succ_cons, List.drop_zero, List.take_succ_cons, List.take_zero]
    simp only [go_sem, hb2, hb4]
    repeat with_reducible refine zN ?_
    refine hK5 _ ?_
    as_aux_lemma =>
     obtain ⟨c9, h⟩ := ck_some.1 h
     obtain ⟨c10, h⟩ := ck_some.1 h
     obtain ⟨c11, h⟩ := ck_some.1 h
     refine adops_cut 6 (fun K' hK8 => ?_)
     try dsimp only [List.drop_succ_cons, List.drop_zero, List.take_succ_cons, List.take_zero]
     simp only [go_sem, hb2, hb4]
     repeat with_reducible refine zN ?_
     refine hK8 _ ?_
     as_aux_lemma =>
      obtain ⟨v0_3, hv12, h⟩ := Option.bind_eq_some_iff.1 h
      refine adops.call (by first | trivial | rfl) rfl rfl rfl (fun _ h => h) [28] [] (hc_slices_Concat_2 [(g.2.take move.toNat), (g.2.drop (move + 1).toNat)] hv12) rfl (by (simp only [go_sem, hb2, hb4]) <;> (with_reducible and_intros) <;> first | assumption | rfl | omega | (unfold maxLen; omega)) (by (simp only [go_sem, hb2, hb4]) <;> (with_reducible and_intros) <;> first | assumption | rfl | omega | (unfold maxLen; omega)) rfl ?_
      refine adops_cut 3 (fun K' hK13 => ?_)
      try dsimp only [List.drop_succ_cons, List.drop_zero, List.take_succ_cons, List.take_zero]
      simp only [go_sem, hb2, hb4]
      repeat with_reducible refine zN ?_
      refine hK13 _ ?_
      refine adops_nil ?_
      refine athen_n ?_
      refine zV [(4, .bp 4 0), (5, .int .i64 0)] [(4, .box 24 [.int .i64 g.1, .own 39000]), (39000, .arr 61 (.pair (.int .i64) (.pair (.int .i64) (.pair (.int .i64) .bool))) v0_3)] gt ?_
      as_aux_lemma =>
       refine AW.ret ?_
       obtain rfl := Option.some.inj h
       exact zR [] [] [(2000, 39000)]

theorem hc_linealref07_Without (g : Int × (List (Int × Int × Int × Bool))) (move : Int) {r : Int × (List (Int × Int × Int × Bool)) × Int} (h : linealref07_Without g move = some r) : HC Try.prog 45 [] [.agg [.int .i64 g.1, .sl (.pair (.int .i64) (.pair (.int .i64) (.pair (.int .i64) .bool))) g.2], .int .i64 move] [(2000, .arr 61 (.pair (.int .i64) (.pair (.int .i64) (.pair (.int .i64) .bool))) r.2.1)] (.tup [.agg [.int .i64 r.1, .own 2000], .int .i64 r.2.2]) := by
 unfold linealref07_Without at h
 refine zH Try.func45 [.cell 4 24, .tmp 5] 40 ?_
 refine zo ?_
 refine zB [(1, .int .i64 move), (2, .bp 2 0), (4, .bp 4 0)] [(2, .box 24 [.int .i64 g.1, .sl (.pair (.int .i64) (.pair (.int .i64) (.pair (.int .i64) .bool))) g.2]), (4, .box 24 [.int .i64 0, .cv (.slice none 0 0)])] ?_
 refine AW.seq ?_
 refine zo ?_
 refine zS 1 [(1, .int .i64 move), (2, .bp 2 0), (4, .bp 4 0), (9, .agg [.int .i64 g.1, .sl (.pair (.int .i64) (.pair (.int .i64) (.pair (.int .i64) .bool))) g.2])] [(2, .box 24 [.int .i64 g.1, .sl (.pair (.int .i64) (.pair (.int .i64) (.pair (.int .i64) .bool))) g.2]), (4, .box 24 [.int .i64 0, .cv (.slice none 0 0)])] ?_
 obtain ⟨v0, hv1, h⟩ := Option.bind_eq_some_iff.1 h
 refine zC [] [] (hc_linealref07_Valid g hv1) [(1, .int .i64 move), (2, .bp 2 0), (4, .bp 4 0), (10, .bool v0)] [(2, .box 24 [.int .i64 g.1, .sl (.pair (.int .i64) (.pair (.int .i64) (.pair (.int .i64) .bool))) g.2]), (4, .box 24 [.int .i64 0, .cv (.slice none 0 0)])] ?_
 refine zB [(1, .int .i64 move), (2, .bp 2 0), (4, .bp 4 0), (11, .bool (!v0))] [(2, .box 24 [.int .i64 g.1, .sl (.pair (.int .i64) (.pair (.int .i64) (.pair (.int .i64) .bool))) g.2]), (4, .box 24 [.int .i64 0, .cv (.slice none 0 0)])] ?_
 refine zQ h (fun hb2 h => ?_) (fun hb2 h => ?_)
 ·refine zo ?_
  refine zB [(4, .bp 4 0), (5, .int .i64 70)] [(4, .box 24 [.int .i64 0, .cv (.slice none 0 0)])] ?_
  refine zr ?_
  obtain rfl := Option.some.inj h
  exact zR [] [2000] []
 ·refine zk ?_
  refine AW.seq ?_
  refine zo ?_
  refine zS 2 [(1, .int .i64 move), (2, .bp 2 0), (4, .bp 4 0), (13, .agg [.int .i64 g.1, .sl (.pair (.int .i64) (.pair (.int .i64) (.pair (.int .i64) .bool))) g.2]), (14, .int .i64 move)] [(2, .box 24 [.int .i64 g.1, .sl (.pair (.int .i64) (.pair (.int .i64) (.pair (.int .i64) .bool))) g.2]), (4, .box 24 [.int .i64 0, .cv (.slice none 0 0)])] ?_
  obtain ⟨v0_2, hv3, h⟩ := Option.bind_eq_some_iff.1 h
  refine zC [] [] (hc_linealref07_IsMove g move hv3) [(1, .int .i64 move), (2, .bp 2 0), (4, .bp 4 0), (15, .bool v0_2)] [(2, .box 24 [.int .i64 g.1, .sl (.pair (.int .i64) (.pair (.int .i64) (.pair (.int .i64) .bool))) g.2]), (4, .box 24 [.int .i64 0, .cv (.slice none 0 0)])] ?_
  refine zB [(1, .int .i64 move), (2, .bp 2 0), (4, .bp 4 0), (16, .bool (!v0_2))] [(2, .box 24 [.int .i64 g.1, .sl (.pair (.int .i64) (.pair (.int .i64) (.pair (.int .i64) .bool))) g.2]), (4, .box 24 [.int .i64 0, .cv (.slice none 0 0)])] ?_
  refine zQ h (fun hb4 h => ?_) (fun hb4 h => ?_)
  ·refine zo ?_
   refine zB [(4, .bp 4 0), (5, .int .i64 2)] [(4, .box 24 [.int .i64 0, .cv (.slice none 0 0)])] ?_
   refine zr ?_
   obtain rfl := Option.some.inj h
   exact zR [] [2000] []
  ·refine zk ?_
   refine zo ?_
   refine zB [(1, .int .i64 move), (2, .bp 2 0), (4, .bp 4 0), (6, .bp 6 0)] [(2, .box 24 [.int .i64 g.1, .sl (.pair (.int .i64) (.pair (.int .i64) (.pair (.int .i64) .bool))) g.2]), (4, .box 24 [.int .i64 0, .cv (.slice none 0 0)]), (6, .box 24 [.int .i64 g.1, .cv (.slice none 0 0)])] ?_
   refine AW.have1 (fun b1 : (List (Int × Int × Int × Bool)) => linealref07_Without_k1 g b1 = some r) (fun b1 => ⟨fr [(4, .bp 4 0), (6, .bp 6 0)], hpGet [(4, .box 24 [.int .i64 0, .cv (.slice none 0 0)]), (6, .box 24 [.int .i64 g.1, .own 36]), (36, .arr 61 (.pair (.int .i64) (.pair (.int .i64) (.pair (.int .i64) .bool))) b1)], gt⟩) (fun b1 h => ?_) (fun hk_linealref07_Without_k1 => ?_)
   ·as_aux_lemma =>
     unfold linealref07_Without_k1 at h
     refine zo ?_
     refine zB [(4, .bp 4 0), (5, .int .i64 0)] [(4, .box 24 [.int .i64 g.1, .own 36]), (36, .arr 61 (.pair (.int .i64) (.pair (.int .i64) (.pair (.int .i64) .bool))) b1)] ?_
     refine AW.ret ?_
     obtain rfl := Option.some.inj h
     exact zR [] [] [(2000, 36)]
   ·refine AW.seq ?_
    refine zo ?_
    refine zB [(1, .int .i64 move), (4, .bp 4 0), (6, .bp 6 0), (22, .sl (.pair (.int .i64) (.pair (.int .i64) (.pair (.int .i64) .bool))) g.2), (23, .int .i64 (g.2.length : Int)), (24, .int .i64 0)] [(4, .box 24 [.int .i64 0, .cv (.slice none 0 0)]), (6, .box 24 [.int .i64 g.1, .cv (.slice none 0 0)])] ?_
    refine AW.block ?_
    obtain ⟨rv9, hw5, ho6⟩ := Option.bind_eq_some_iff.1 h
    refine AW.loopO (linealref07_Without_b1 g move) (fun st1 => ⟨fr [(1, .int .i64 move), (4, .bp 4 0), (6, .bp 6 0), (22, .sl (.pair (.int .i64) (.pair (.int .i64) (.pair (.int .i64) .bool))) g.2), (23, .int .i64 (g.2.length : Int)), (24, .int .i64 st1.2)], hpGet [(4, .box 24 [.int .i64 0, .cv (.slice none 0 0)]), (6, .box 24 [.int .i64 g.1, .own 36]), (36, .arr 61 (.pair (.int .i64) (.pair (.int .i64) (.pair (.int .i64) .bool))) st1.1)], gt⟩) ([], 0) hw5 (zL [] [36] []) ?_
    as_aux_lemma =>
     intro st1 x8 h hd7
     unfold linealref07_Without_b1 at h
     refine zo ?_
     refine zB [(1, .int .i64 move), (4, .bp 4 0), (6, .bp 6 0), (22, .sl (.pair (.int .i64) (.pair (.int .i64) (.pair (.int .i64) .bool))) g.2), (23, .int .i64 (g.2.length : Int)), (24, .int .i64 st1.2), (25, .bool (decide (st1.2 < (g.2.length : Int))))] [(4, .box 24 [.int .i64 0, .cv (.slice none 0 0)]), (6, .box 24 [.int .i64 g.1, .own 36]), (36, .arr 61 (.pair (.int .i64) (.pair (.int .i64) (.pair (.int .i64) .bool))) st1.1)] ?_
     refine AW.seq ?_
     refine zQ h (fun hb10 h => ?_) (fun hb10 h => ?_)
     ·refine zk ?_
      refine AW.seq ?_
      refine AW.block ?_
      refine zo ?_
      obtain ⟨c11, h⟩ := ck_some.1 h
      obtain ⟨c12, h⟩ := ck_some.1 h
      refine zS 5 [(1, .int .i64 move), (4, .bp 4 0), (6, .bp 6 0), (7, .int .i64 st1.2), (8, .bp 8 0), (22, .sl (.pair (.int .i64) (.pair (.int .i64) (.pair (.int .i64) .bool))) g.2), (23, .int .i64 (g.2.length : Int)), (24, .int .i64 st1.2), (28, .agg [.int .i64 (g.2.getD st1.2.toNat (0, 0, 0, false)).1, .int .i64 (g.2.getD st1.2.toNat (0, 0, 0, false)).2.1, .int .i64 (g.2.getD st1.2.toNat (0, 0, 0, false)).2.2.1, .bool (g.2.getD st1.2.toNat (0, 0, 0, false)).2.2.2])] [(4, .box 24 [.int .i64 0, .cv (.slice none 0 0)]), (6, .box 24 [.int .i64 g.1, .own 36]), (8, .box 61 [.int .i64 0, .int .i64 0, .int .i64 0, .bool false]), (36, .arr 61 (.pair (.int .i64) (.pair (.int .i64) (.pair (.int .i64) .bool))) st1.1)] ?_
      refine zB [(1, .int .i64 move), (4, .bp 4 0), (6, .bp 6 0), (7, .int .i64 st1.2), (8, .bp 8 0), (22, .sl (.pair (.int .i64) (.pair (.int .i64) (.pair (.int .i64) .bool))) g.2), (23, .int .i64 (g.2.length : Int)), (24, .int .i64 st1.2)] [(4, .box 24 [.int .i64 0, .cv (.slice none 0 0)]), (6, .box 24 [.int .i64 g.1, .own 36]), (8, .box 61 [.int .i64 (g.2.getD st1.2.toNat (0, 0, 0, false)).1, .int .i64 (g.2.getD st1.2.toNat (0, 0, 0, false)).2.1, .int .i64 (g.2.getD st1.2.toNat (0, 0, 0, false)).2.2.1, .bool (g.2.getD st1.2.toNat (0, 0, 0, false)).2.2.2]), (36, .arr 61 (.pair (.int .i64) (.pair (.int .i64) (.pair (.int .i64) .bool))) st1.1)] ?_
      refine zo ?_
      refine zB [(1, .int .i64 move), (4, .bp 4 0), (6, .bp 6 0), (8, .bp 8 0), (22, .sl (.pair (.int .i64) (.pair (.int .i64) (.pair (.int .i64) .bool))) g.2), (23, .int .i64 (g.2.length : Int)), (24, .int .i64 st1.2), (31, .bool (!(decide (st1.2 = move))))] [(4, .box 24 [.int .i64 0, .cv (.slice none 0 0)]), (6, .box 24 [.int .i64 g.1, .own 36]), (8, .box 61 [.int .i64 (g.2.getD st1.2.toNat (0, 0, 0, false)).1, .int .i64 (g.2.getD st1.2.toNat (0, 0, 0, false)).2.1, .int .i64 (g.2.getD st1.2.toNat (0, 0, 0, false)).2.2.1, .bool (g.2.getD st1.2.toNat (0, 0, 0, false)).2.2.2]), (36, .arr 61 (.pair (.int .i64) (.pair (.int .i64) (.pair (.int .i64) .bool))) st1.1)] ?_
      refine zQ h (fun hb13 h => ?_) (fun hb13 h => ?_)
      ·refine AW.ops ?_
       obtain ⟨c14, h⟩ := ck_some.1 h
       refine zS 5 [(1, .int .i64 move), (4, .bp 4 0), (6, .bp 6 0), (22, .sl (.pair (.int .i64) (.pair (.int .i64) (.pair (.int .i64) .bool))) g.2), (23, .int .i64 (g.2.length : Int)), (24, .int .i64 st1.2), (36, .own 36)] [(4, .box 24 [.int .i64 0, .cv (.slice none 0 0)]), (6, .box 24 [.int .i64 g.1, .un]), (36, .arr 61 (.pair (.int .i64) (.pair (.int .i64) (.pair (.int .i64) .bool))) (st1.1 ++ [(g.2.getD st1.2.toNat (0, 0, 0, false))]))] ?_
       refine zA [(1, .int .i64 move), (4, .bp 4 0), (6, .bp 6 0), (22, .sl (.pair (.int .i64) (.pair (.int .i64) (.pair (.int .i64) .bool))) g.2), (23, .int .i64 (g.2.length : Int)), (24, .int .i64 st1.2)] [(4, .box 24 [.int .i64 0, .cv (.slice none 0 0)]), (6, .box 24 [.int .i64 g.1, .own 36]), (36, .arr 61 (.pair (.int .i64) (.pair (.int .i64) (.pair (.int .i64) .bool))) (st1.1 ++ [(g.2.getD st1.2.toNat (0, 0, 0, false))]))] ?_
       refine ablock_n ?_
       refine athen_n ?_
       refine AW.ops ?_
       obtain ⟨c15, h⟩ := ck_some.1 h
       refine zA [(1, .int .i64 move), (4, .bp 4 0), (6, .bp 6 0), (22, .sl (.pair (.int .i64) (.pair (.int .i64) (.pair (.int .i64) .bool))) g.2), (23, .int .i64 (g.2.length : Int)), (24, .int .i64 (st1.2 + 1))] [(4, .box 24 [.int .i64 0, .cv (.slice none 0 0)]), (6, .box 24 [.int .i64 g.1, .own 36]), (36, .arr 61 (.pair (.int .i64) (.pair (.int .i64) (.pair (.int .i64) .bool))) (st1.1 ++ [(g.2.getD st1.2.toNat (0, 0, 0, false))]))] ?_
       obtain rfl := Option.some.inj h
       exact ⟨_, rfl, zL [] [] []⟩
      ·refine zm ?_
       refine athen_n ?_
       refine AW.ops ?_
       obtain ⟨c16, h⟩ := ck_some.1 h
       refine zA [(1, .int .i64 move), (4, .bp 4 0), (6, .bp 6 0), (22, .sl (.pair (.int .i64) (.pair (.int .i64) (.pair (.int .i64) .bool))) g.2), (23, .int .i64 (g.2.length : Int)), (24, .int .i64 (st1.2 + 1))] [(4, .box 24 [.int .i64 0, .cv (.slice none 0 0)]), (6, .box 24 [.int .i64 g.1, .own 36]), (36, .arr 61 (.pair (.int .i64) (.pair (.int .i64) (.pair (.int .i64) .bool))) st1.1)] ?_
       obtain rfl := Option.some.inj h
       exact ⟨_, rfl, zL [] [] []⟩
     ·refine AW.exit ?_
      refine athen_e ?_
      obtain rfl := Option.some.inj h
      rw [← hd7 _ rfl] at ho6
      have h := ho6
      refine athen_e ?_
      refine ablock_s ?_
      refine athen_n ?_
      exact AW.weaken (zL [] [] []) (hk_linealref07_Without_k1 _ h)

theorem hc_linealref07_Same (a : Int × (List (Int × Int × Int × Bool))) (b : Int × (List (Int × Int × Int × Bool))) {r : Bool} (h : linealref07_Same a b = some r) : HC Try.prog 46 [] [.agg [.int .i64 a.1, .sl (.pair (.int .i64) (.pair (.int .i64) (.pair (.int .i64) .bool))) a.2], .agg [.int .i64 b.1, .sl (.pair (.int .i64) (.pair (.int .i64) (.pair (.int .i64) .bool))) b.2]] [] (.bool r) := by
 unfold linealref07_Same at h
 refine zH Try.func46 [.tmp 4] 38 ?_
 refine zo ?_
 refine zB [(2, .bp 2 0), (3, .bp 3 0)] [(2, .box 24 [.int .i64 a.1, .sl (.pair (.int .i64) (.pair (.int .i64) (.pair (.int .i64) .bool))) a.2]), (3, .box 24 [.int .i64 b.1, .sl (.pair (.int .i64) (.pair (.int .i64) (.pair (.int .i64) .bool))) b.2])] ?_
 refine AW.seq ?_
 refine zo ?_
 refine zS 5 [(2, .bp 2 0), (3, .bp 3 0), (10, .bool (!(decide (a.1 = b.1))))] [(2, .box 24 [.int .i64 a.1, .sl (.pair (.int .i64) (.pair (.int .i64) (.pair (.int .i64) .bool))) a.2]), (3, .box 24 [.int .i64 b.1, .sl (.pair (.int .i64) (.pair (.int .i64) (.pair (.int .i64) .bool))) b.2])] ?_
 refine zS 1 [(2, .bp 2 0), (3, .bp 3 0), (11, .bool (!(decide (a.1 = b.1))))] [(2, .box 24 [.int .i64 a.1, .sl (.pair (.int .i64) (.pair (.int .i64) (.pair (.int .i64) .bool))) a.2]), (3, .box 24 [.int .i64 b.1, .sl (.pair (.int .i64) (.pair (.int .i64) (.pair (.int .i64) .bool))) b.2])] ?_
 rcases zI h with ⟨hb1, h⟩ | ⟨hb1, h⟩
 ·refine zS 4 [(2, .bp 2 0), (3, .bp 3 0), (11, .bool true), (14, .cv (undef)), (15, .cv (undef))] [(2, .box 24 [.int .i64 a.1, .sl (.pair (.int .i64) (.pair (.int .i64) (.pair (.int .i64) .bool))) a.2]), (3, .box 24 [.int .i64 b.1, .sl (.pair (.int .i64) (.pair (.int .i64) (.pair (.int .i64) .bool))) b.2])] ?_
  refine zB [(2, .bp 2 0), (3, .bp 3 0), (19, .bool true)] [(2, .box 24 [.int .i64 a.1, .sl (.pair (.int .i64) (.pair (.int .i64) (.pair (.int .i64) .bool))) a.2]), (3, .box 24 [.int .i64 b.1, .sl (.pair (.int .i64) (.pair (.int .i64) (.pair (.int .i64) .bool))) b.2])] ?_
  refine AW.cond (b := true) rfl (fun _ => ?_) (fun hb2 => by cases hb2)
  refine zo ?_
  refine zB [(4, .bool false)] [] ?_
  refine zr ?_
  obtain rfl := Option.some.inj h
  exact zR [] [] []
 ·refine zS 5 [(2, .bp 2 0), (3, .bp 3 0), (11, .bool false), (14, .int .i64 (a.2.length : Int)), (16, .sl (.pair (.int .i64) (.pair (.int .i64) (.pair (.int .i64) .bool))) b.2)] [(2, .box 24 [.int .i64 a.1, .sl (.pair (.int .i64) (.pair (.int .i64) (.pair (.int .i64) .bool))) a.2]), (3, .box 24 [.int .i64 b.1, .sl (.pair (.int .i64) (.pair (.int .i64) (.pair (.int .i64) .bool))) b.2])] ?_
  refine zB [(2, .bp 2 0), (3, .bp 3 0), (19, .bool (!(decide ((a.2.length : Int) = (b.2.length : Int)))))] [(2, .box 24 [.int .i64 a.1, .sl (.pair (.int .i64) (.pair (.int .i64) (.pair (.int .i64) .bool))) a.2]), (3, .box 24 [.int .i64 b.1, .sl (.pair (.int .i64) (.pair (.int .i64) (.pair (.int .i64) .bool))) b.2])] ?_
  refine zQ h (fun hb3 h => ?_) (fun hb3 h => ?_)
  ·refine zo ?_
   refine zB [(4, .bool false)] [] ?_
   refine zr ?_
   obtain rfl := Option.some.inj h
   exact zR [] [] []
  ·refine zk ?_
   refine AW.have1 (fun _ : Unit => linealref07_Same_k1 = some r) (fun _ => ⟨fr [], hpGet [], gt⟩) (fun _ h => ?_) (fun hk_linealref07_Same_k1 => ?_)
   ·as_aux_lemma =>
     unfold linealref07_Same_k1 at h
     refine zo ?_
     refine zB [(4, .bool true)] [] ?_
     refine AW.ret ?_
     obtain rfl := Option.some.inj h
     exact zR [] [] []
   ·refine AW.seq ?_
    refine zo ?_
    refine zB [(2, .bp 2 0), (3, .bp 3 0), (22, .int .i64 (a.2.length : Int)), (23, .int .i64 0)] [(2, .box 24 [.int .i64 a.1, .sl (.pair (.int .i64) (.pair (.int .i64) (.pair (.int .i64) .bool))) a.2]), (3, .box 24 [.int .i64 b.1, .sl (.pair (.int .i64) (.pair (.int .i64) (.pair (.int .i64) .bool))) b.2])] ?_
    refine AW.block ?_
    obtain ⟨rv8, hw4, ho5⟩ := Option.bind_eq_some_iff.1 h
    refine AW.loopO (linealref07_Same_b1 a b) (fun st1 => ⟨fr [(2, .bp 2 0), (3, .bp 3 0), (22, .int .i64 (a.2.length : Int)), (23, .int .i64 st1)], hpGet [(2, .box 24 [.int .i64 a.1, .sl (.pair (.int .i64) (.pair (.int .i64) (.pair (.int .i64) .bool))) a.2]), (3, .box 24 [.int .i64 b.1, .sl (.pair (.int .i64) (.pair (.int .i64) (.pair (.int .i64) .bool))) b.2])], gt⟩) 0 hw4 (zL [] [] []) ?_
    as_aux_lemma =>
     intro st1 x7 h hd6
     unfold linealref07_Same_b1 at h
     refine zo ?_
     refine zB [(2, .bp 2 0), (3, .bp 3 0), (22, .int .i64 (a.2.length : Int)), (23, .int .i64 st1), (24, .bool (decide (st1 < (a.2.length : Int))))] [(2, .box 24 [.int .i64 a.1, .sl (.pair (.int .i64) (.pair (.int .i64) (.pair (.int .i64) .bool))) a.2]), (3, .box 24 [.int .i64 b.1, .sl (.pair (.int .i64) (.pair (.int .i64) (.pair (.int .i64) .bool))) b.2])] ?_
     refine AW.seq ?_
     refine zQ h (fun hb9 h => ?_) (fun hb9 h => ?_)
     ·refine zk ?_
      refine AW.seq ?_
      refine AW.block ?_
      refine zo ?_
      refine zB [(2, .bp 2 0), (3, .bp 3 0), (5, .int .i64 st1), (22, .int .i64 (a.2.length : Int)), (23, .int .i64 st1)] [(2, .box 24 [.int .i64 a.1, .sl (.pair (.int .i64) (.pair (.int .i64) (.pair (.int .i64) .bool))) a.2]), (3, .box 24 [.int .i64 b.1, .sl (.pair (.int .i64) (.pair (.int .i64) (.pair (.int .i64) .bool))) b.2])] ?_
      refine AW.seq ?_
      refine AW.drawTail tab_ok mixed_ok 10 [] [] (by decide) (by kernel_rfl) (by kernel_rfl) (by decide) ?_
      dsimp only [List.take_succ_cons, List.take_zero]
      obtain ⟨c11, h⟩ := ck_some.1 h
      obtain ⟨c12, h⟩ := ck_some.1 h
      refine adops_cut 6 (fun K' hK10 => ?_)
      try dsimp only [List.drop_succ_cons, List.drop_zero, List.take_succ_cons, List.take_zero]
      simp only [go_sem, hb1, hb3, hb9]
      repeat with_reducible refine zN ?_
      refine hK10 _ ?_
      as_aux_lemma =>
       obtain ⟨c14, h⟩ := ck_some.1 h
       obtain ⟨c15, h⟩ := ck_some.1 h
       refine adops_cut 4 (fun K' hK13 => ?_)
       try dsimp only [List.drop_succ_cons, List.drop_zero, List.take_succ_cons, List.take_zero]
       simp only [go_sem, hb1, hb3, hb9]
       repeat with_reducible refine zN ?_
       refine hK13 _ ?_
       refine adops_nil ?_
       refine zT [(2, .bp 2 0), (3, .bp 3 0), (22, .int .i64 (a.2.length : Int)), (23, .int .i64 st1), (30, .agg [.int .i64 (a.2.getD st1.toNat (0, 0, 0, false)).1, .int .i64 (a.2.getD st1.toNat (0, 0, 0, false)).2.1, .int .i64 (a.2.getD st1.toNat (0, 0, 0, false)).2.2.1, .bool (a.2.getD st1.toNat (0, 0, 0, false)).2.2.2]), (35, .agg [.int .i64 (b.2.getD st1.toNat (0, 0, 0, false)).1, .int .i64 (b.2.getD st1.toNat (0, 0, 0, false)).2.1, .int .i64 (b.2.getD st1.toNat (0, 0, 0, false)).2.2.1, .bool (b.2.getD st1.toNat (0, 0, 0, false)).2.2.2])] [(2, .box 24 [.int .i64 a.1, .sl (.pair (.int .i64) (.pair (.int .i64) (.pair (.int .i64) .bool))) a.2]), (3, .box 24 [.int .i64 b.1, .sl (.pair (.int .i64) (.pair (.int .i64) (.pair (.int .i64) .bool))) b.2])] gt ?_
       obtain ⟨c16, h⟩ := ck_some.1 h
       obtain ⟨c17, h⟩ := ck_some.1 h
       obtain ⟨c18, h⟩ := ck_some.1 h
       obtain ⟨c19, h⟩ := ck_some.1 h
       obtain ⟨c20, h⟩ := ck_some.1 h
       obtain ⟨c21, h⟩ := ck_some.1 h
       refine AO.aggEq (neg := true) eqty_61 (by decide) rfl rfl (lx := [.int .i64 (a.2.getD st1.toNat (0, 0, 0, false)).1, .int .i64 (a.2.getD st1.toNat (0, 0, 0, false)).2.1, .int .i64 (a.2.getD st1.toNat (0, 0, 0, false)).2.2.1, .bool (a.2.getD st1.toNat (0, 0, 0, false)).2.2.2]) (ly := [.int .i64 (b.2.getD st1.toNat (0, 0, 0, false)).1, .int .i64 (b.2.getD st1.toNat (0, 0, 0, false)).2.1, .int .i64 (b.2.getD st1.toNat (0, 0, 0, false)).2.2.1, .bool (b.2.getD st1.toNat (0, 0, 0, false)).2.2.2]) (by first | rfl | (simp only [go_sem, hb1, hb3, hb9]) <;> (with_reducible and_intros) <;> first | assumption | rfl | omega | (unfold maxLen; omega)) (by first | rfl | (simp only [go_sem, hb1, hb3, hb9]) <;> (with_reducible and_intros) <;> first | assumption | rfl | omega | (unfold maxLen; omega)) (by first | rfl | (simp only [go_sem, hb1, hb3, hb9]) <;> (with_reducible and_intros) <;> first | assumption | rfl | omega | (unfold maxLen; omega)) (by first | rfl | (simp only [go_sem, hb1, hb3, hb9]) <;> (with_reducible and_intros) <;> first | assumption | rfl | omega | (unfold maxLen; omega)) (by first | assumption | omega | (simp only [go_sem, hb1, hb3, hb9]) <;> (with_reducible and_intros) <;> first | assumption | rfl | omega | (unfold maxLen; omega)) (by first | assumption | omega | (simp only [go_sem, hb1, hb3, hb9]) <;> (with_reducible and_intros) <;> first | assumption | rfl | omega | (unfold maxLen; omega)) ?_
       refine zT [(2, .bp 2 0), (3, .bp 3 0), (22, .int .i64 (a.2.length : Int)), (23, .int .i64 st1), (36, .bool (!(decide ((a.2.getD st1.toNat (0, 0, 0, false)) = (b.2.getD st1.toNat (0, 0, 0, false))))))] [(2, .box 24 [.int .i64 a.1, .sl (.pair (.int .i64) (.pair (.int .i64) (.pair (.int .i64) .bool))) a.2]), (3, .box 24 [.int .i64 b.1, .sl (.pair (.int .i64) (.pair (.int .i64) (.pair (.int .i64) .bool))) b.2])] gt ?_
       refine zB [(2, .bp 2 0), (3, .bp 3 0), (22, .int .i64 (a.2.length : Int)), (23, .int .i64 st1), (36, .bool (!(decide ((a.2.getD st1.toNat (0, 0, 0, false)) = (b.2.getD st1.toNat (0, 0, 0, false))))))] [(2, .box 24 [.int .i64 a.1, .sl (.pair (.int .i64) (.pair (.int .i64) (.pair (.int .i64) .bool))) a.2]), (3, .box 24 [.int .i64 b.1, .sl (.pair (.int .i64) (.pair (.int .i64) (.pair (.int .i64) .bool))) b.2])] ?_
       refine zQ h (fun hb22 h => ?_) (fun hb22 h => ?_)
       ·refine zo ?_
        refine zB [(4, .bool false)] [] ?_
        refine AW.ret ?_
        refine ablock_r ?_
        refine athen_r ?_
        obtain rfl := Option.some.inj h
        rw [← hd6 _ rfl] at ho5
        have h := ho5
        try simp only at h
        refine athen_r ?_
        refine ablock_r ?_
        refine athen_r ?_
        obtain rfl := Option.some.inj h
        exact zR [] [] []
       ·refine zm ?_
        refine athen_n ?_
        refine AW.ops ?_
        obtain ⟨c23, h⟩ := ck_some.1 h
        refine zA [(2, .bp 2 0), (3, .bp 3 0), (22, .int .i64 (a.2.length : Int)), (23, .int .i64 (st1 + 1))] [(2, .box 24 [.int .i64 a.1, .sl (.pair (.int .i64) (.pair (.int .i64) (.pair (.int .i64) .bool))) a.2]), (3, .box 24 [.int .i64 b.1, .sl (.pair (.int .i64) (.pair (.int .i64) (.pair (.int .i64) .bool))) b.2])] ?_
        obtain rfl := Option.some.inj h
        exact ⟨_, rfl, zL [] [] []⟩
     ·refine AW.exit ?_
      refine athen_e ?_
      obtain rfl := Option.some.inj h
      rw [← hd6 _ rfl] at ho5
      have h := ho5
      try simp only at h
      refine athen_e ?_
      refine ablock_s ?_
      refine athen_n ?_
      exact AW.weaken (zL [] [] []) (hk_linealref07_Same_k1 () h)

theorem hc_slices_Clone (s : List (Int × Int × Int × Bool)) {r : (List (Int × Int × Int × Bool))} (h : slices_Clone s = some r) : HC Try.prog 84 [] [.sl (.pair (.int .i64) (.pair (.int .i64) (.pair (.int .i64) .bool))) s] [(2000, .arr 61 (.pair (.int .i64) (.pair (.int .i64) (.pair (.int .i64) .bool))) r)] (.own 2000) := by
 unfold slices_Clone at h
 refine zH Try.func84 [.tmp 2] 8 ?_
 refine zo ?_
 refine zB [(0, .sl (.pair (.int .i64) (.pair (.int .i64) (.pair (.int .i64) .bool))) s)] [] ?_
 refine AW.seq ?_
 refine zo ?_
 refine zS 1 [(0, .sl (.pair (.int .i64) (.pair (.int .i64) (.pair (.int .i64) .bool))) s), (3, .sl (.pair (.int .i64) (.pair (.int .i64) (.pair (.int .i64) .bool))) s)] [] ?_
 refine AO.nilEq (neg := false) tab_ok (by decide) rfl rfl tab_22 rfl rfl rfl (fun hnil1 => ?_) ?_
 ·have h : (some []) = some r := by
   first | (simp only [hnil1] at h ⊢; simpa [ck] using h) | (simp [hnil1, ck] at h ⊢; first | done | exact h)
  refine zT [(0, .sl (.pair (.int .i64) (.pair (.int .i64) (.pair (.int .i64) .bool))) s), (4, .bool true)] [] gt ?_
  refine zB [(0, .sl (.pair (.int .i64) (.pair (.int .i64) (.pair (.int .i64) .bool))) s), (4, .bool true)] [] ?_
  refine AW.cond (b := true) rfl (fun _ => ?_) (fun hb2 => by cases hb2)
  refine zo ?_
  refine zB [(2, .cv (.slice none 0 0))] [] ?_
  refine zr ?_
  obtain rfl := Option.some.inj h
  exact zR [] [2000] []
 ·refine zT [(0, .sl (.pair (.int .i64) (.pair (.int .i64) (.pair (.int .i64) .bool))) s), (4, .bool false)] [] gt ?_
  refine zB [(0, .sl (.pair (.int .i64) (.pair (.int .i64) (.pair (.int .i64) .bool))) s), (4, .bool false)] [] ?_
  refine AW.cond (b := false) rfl (fun hb3 => by cases hb3) (fun _ => ?_)
  refine zk ?_
  refine zo ?_
  obtain ⟨c4, h⟩ := ck_some.1 h
  refine zB [(2, .own 7)] [(7, .arr 61 (.pair (.int .i64) (.pair (.int .i64) (.pair (.int .i64) .bool))) s)] ?_
  refine AW.ret ?_
  obtain rfl := Option.some.inj h
  exact zR [] [] [(2000, 7)]

theorem hc_progress_Renamed (g : Int × (List (Int × Int × Int × Bool))) (a : Int) (b : Int) {r : Int × (List (Int × Int × Int × Bool)) × Int} (h : progress_Renamed g a b = some r) : HC Try.prog 47 [] [.agg [.int .i64 g.1, .sl (.pair (.int .i64) (.pair (.int .i64) (.pair (.int .i64) .bool))) g.2], .int .i64 a, .int .i64 b] [(2000, .arr 61 (.pair (.int .i64) (.pair (.int .i64) (.pair (.int .i64) .bool))) r.2.1)] (.tup [.agg [.int .i64 r.1, .own 2000], .int .i64 r.2.2]) := by
 unfold progress_Renamed at h
 refine zH Try.func47 [.cell 6 24, .tmp 7] 57 ?_
 refine zo ?_
 refine zB [(1, .int .i64 a), (2, .int .i64 b), (3, .bp 3 0), (6, .bp 6 0)] [(3, .box 24 [.int .i64 g.1, .sl (.pair (.int .i64) (.pair (.int .i64) (.pair (.int .i64) .bool))) g.2]), (6, .box 24 [.int .i64 0, .cv (.slice none 0 0)])] ?_
 refine AW.seq ?_
 refine zo ?_
 refine zS 1 [(1, .int .i64 a), (2, .int .i64 b), (3, .bp 3 0), (6, .bp 6 0), (11, .agg [.int .i64 g.1, .sl (.pair (.int .i64) (.pair (.int .i64) (.pair (.int .i64) .bool))) g.2])] [(3, .box 24 [.int .i64 g.1, .sl (.pair (.int .i64) (.pair (.int .i64) (.pair (.int .i64) .bool))) g.2]), (6, .box 24 [.int .i64 0, .cv (.slice none 0 0)])] ?_
 obtain ⟨v0, hv1, h⟩ := Option.bind_eq_some_iff.1 h
 refine zC [] [] (hc_progress_Valid g hv1) [(1, .int .i64 a), (2, .int .i64 b), (3, .bp 3 0), (6, .bp 6 0), (12, .bool v0)] [(3, .box 24 [.int .i64 g.1, .sl (.pair (.int .i64) (.pair (.int .i64) (.pair (.int .i64) .bool))) g.2]), (6, .box 24 [.int .i64 0, .cv (.slice none 0 0)])] ?_
 refine zB [(1, .int .i64 a), (2, .int .i64 b), (3, .bp 3 0), (6, .bp 6 0), (13, .bool (!v0))] [(3, .box 24 [.int .i64 g.1, .sl (.pair (.int .i64) (.pair (.int .i64) (.pair (.int .i64) .bool))) g.2]), (6, .box 24 [.int .i64 0, .cv (.slice none 0 0)])] ?_
 refine zQ h (fun hb2 h => ?_) (fun hb2 h => ?_)
 ·refine zo ?_
  refine zB [(6, .bp 6 0), (7, .int .i64 70)] [(6, .box 24 [.int .i64 0, .cv (.slice none 0 0)])] ?_
  refine zr ?_
  obtain rfl := Option.some.inj h
  exact zR [] [2000] []
 ·refine zk ?_
  refine AW.seq ?_
  refine zo ?_
  refine zS 1 [(1, .int .i64 a), (2, .int .i64 b), (3, .bp 3 0), (6, .bp 6 0), (15, .int .i64 a)] [(3, .box 24 [.int .i64 g.1, .sl (.pair (.int .i64) (.pair (.int .i64) (.pair (.int .i64) .bool))) g.2]), (6, .box 24 [.int .i64 0, .cv (.slice none 0 0)])] ?_
  obtain ⟨v0_2, hv3, h⟩ := Option.bind_eq_some_iff.1 h
  refine zC [] [] (hc_progress_isThread a hv3) [(1, .int .i64 a), (2, .int .i64 b), (3, .bp 3 0), (6, .bp 6 0), (16, .bool v0_2)] [(3, .box 24 [.int .i64 g.1, .sl (.pair (.int .i64) (.pair (.int .i64) (.pair (.int .i64) .bool))) g.2]), (6, .box 24 [.int .i64 0, .cv (.slice none 0 0)])] ?_
  refine zS 2 [(1, .int .i64 a), (2, .int .i64 b), (3, .bp 3 0), (6, .bp 6 0), (18, .bool (!v0_2))] [(3, .box 24 [.int .i64 g.1, .sl (.pair (.int .i64) (.pair (.int .i64) (.pair (.int .i64) .bool))) g.2]), (6, .box 24 [.int .i64 0, .cv (.slice none 0 0)])] ?_
  rcases zI h with ⟨hb4, h⟩ | ⟨hb4, h⟩
  ·refine zB [(1, .int .i64 a), (2, .int .i64 b), (3, .bp 3 0), (6, .bp 6 0), (22, .bool true)] [(3, .box 24 [.int .i64 g.1, .sl (.pair (.int .i64) (.pair (.int .i64) (.pair (.int .i64) .bool))) g.2]), (6, .box 24 [.int .i64 0, .cv (.slice none 0 0)])] ?_
   refine AW.cond (b := true) rfl (fun _ => ?_) (fun hb5 => by cases hb5)
   refine zo ?_
   refine zB [(6, .bp 6 0), (7, .int .i64 2)] [(6, .box 24 [.int .i64 0, .cv (.slice none 0 0)])] ?_
   refine zr ?_
   obtain rfl := Option.some.inj h
   exact zR [] [2000] []
  ·refine zS 1 [(1, .int .i64 a), (2, .int .i64 b), (3, .bp 3 0), (6, .bp 6 0), (18, .bool false), (19, .int .i64 b)] [(3, .box 24 [.int .i64 g.1, .sl (.pair (.int .i64) (.pair (.int .i64) (.pair (.int .i64) .bool))) g.2]), (6, .box 24 [.int .i64 0, .cv (.slice none 0 0)])] ?_
   obtain ⟨v0_3, hv6, h⟩ := Option.bind_eq_some_iff.1 h
   refine zG [] [] (hc_progress_isThread b hv6) [(1, .int .i64 a), (2, .int .i64 b), (3, .bp 3 0), (6, .bp 6 0), (18, .bool false), (20, .bool v0_3)] [(3, .box 24 [.int .i64 g.1, .sl (.pair (.int .i64) (.pair (.int .i64) (.pair (.int .i64) .bool))) g.2]), (6, .box 24 [.int .i64 0, .cv (.slice none 0 0)])] ?_
   refine zB [(1, .int .i64 a), (2, .int .i64 b), (3, .bp 3 0), (6, .bp 6 0), (22, .bool (!v0_3))] [(3, .box 24 [.int .i64 g.1, .sl (.pair (.int .i64) (.pair (.int .i64) (.pair (.int .i64) .bool))) g.2]), (6, .box 24 [.int .i64 0, .cv (.slice none 0 0)])] ?_
   refine zQ h (fun hb7 h => ?_) (fun hb7 h => ?_)
   ·refine zo ?_
    refine zB [(6, .bp 6 0), (7, .int .i64 2)] [(6, .box 24 [.int .i64 0, .cv (.slice none 0 0)])] ?_
    refine zr ?_
    obtain rfl := Option.some.inj h
    exact zR [] [2000] []
   ·refine zk ?_
    refine zo ?_
    refine zS 2 [(1, .int .i64 a), (2, .int .i64 b), (3, .bp 3 0), (6, .bp 6 0), (25, .sl (.pair (.int .i64) (.pair (.int .i64) (.pair (.int .i64) .bool))) g.2)] [(3, .box 24 [.int .i64 g.1, .sl (.pair (.int .i64) (.pair (.int .i64) (.pair (.int .i64) .bool))) g.2]), (6, .box 24 [.int .i64 0, .cv (.slice none 0 0)])] ?_
    obtain ⟨v0_4, hv8, h⟩ := Option.bind_eq_some_iff.1 h
    refine zC [] [] (hc_slices_Clone g.2 hv8) [(1, .int .i64 a), (2, .int .i64 b), (3, .bp 3 0), (6, .bp 6 0), (26, .own 36000)] [(3, .box 24 [.int .i64 g.1, .sl (.pair (.int .i64) (.pair (.int .i64) (.pair (.int .i64) .bool))) g.2]), (6, .box 24 [.int .i64 0, .cv (.slice none 0 0)]), (36000, .arr 61 (.pair (.int .i64) (.pair (.int .i64) (.pair (.int .i64) .bool))) v0_4)] ?_
    refine zB [(1, .int .i64 a), (2, .int .i64 b), (3, .bp 3 0), (6, .bp 6 0), (8, .own 36000)] [(3, .box 24 [.int .i64 g.1, .sl (.pair (.int .i64) (.pair (.int .i64) (.pair (.int .i64) .bool))) g.2]), (6, .box 24 [.int .i64 0, .cv (.slice none 0 0)]), (36000, .arr 61 (.pair (.int .i64) (.pair (.int .i64) (.pair (.int .i64) .bool))) v0_4)] ?_
    refine AW.have1 (fun b1 : (List (Int × Int × Int × Bool)) => progress_Renamed_k1 g b1 = some r) (fun b1 => ⟨fr [(3, .bp 3 0), (6, .bp 6 0), (8, .own 36000)], hpGet [(3, .box 24 [.int .i64 g.1, .sl (.pair (.int .i64) (.pair (.int .i64) (.pair (.int .i64) .bool))) g.2]), (6, .box 24 [.int .i64 0, .cv (.slice none 0 0)]), (36000, .arr 61 (.pair (.int .i64) (.pair (.int .i64) (.pair (.int .i64) .bool))) b1)], gt⟩) (fun b1 h => ?_) (fun hk_progress_Renamed_k1 => ?_)
    ·as_aux_lemma =>
      unfold progress_Renamed_k1 at h
      refine zo ?_
      refine zS 5 [(6, .bp 6 0)] [(6, .box 24 [.int .i64 g.1, .own 36000]), (36000, .arr 61 (.pair (.int .i64) (.pair (.int .i64) (.pair (.int .i64) .bool))) b1)] ?_
      refine zB [(6, .bp 6 0), (7, .int .i64 0)] [(6, .box 24 [.int .i64 g.1, .own 36000]), (36000, .arr 61 (.pair (.int .i64) (.pair (.int .i64) (.pair (.int .i64) .bool))) b1)] ?_
      refine AW.ret ?_
      obtain rfl := Option.some.inj h
      exact zR [] [] [(2000, 36000)]
    ·refine AW.seq ?_
     refine zo ?_
     refine zB [(1, .int .i64 a), (2, .int .i64 b), (3, .bp 3 0), (6, .bp 6 0), (8, .own 36000), (27, .own 36000), (28, .int .i64 (v0_4.length : Int)), (29, .int .i64 0)] [(3, .box 24 [.int .i64 g.1, .sl (.pair (.int .i64) (.pair (.int .i64) (.pair (.int .i64) .bool))) g.2]), (6, .box 24 [.int .i64 0, .cv (.slice none 0 0)]), (36000, .arr 61 (.pair (.int .i64) (.pair (.int .i64) (.pair (.int .i64) .bool))) v0_4)] ?_
     refine AW.block ?_
     obtain ⟨rv13, hw9, ho10⟩ := Option.bind_eq_some_iff.1 h
     refine AW.loopO (progress_Renamed_b1 a b v0_4) (fun st1 => ⟨fr [(1, .int .i64 a), (2, .int .i64 b), (3, .bp 3 0), (6, .bp 6 0), (8, .own 36000), (27, .own 36000), (28, .int .i64 (v0_4.length : Int)), (29, .int .i64 st1.2)], hpGet [(3, .box 24 [.int .i64 g.1, .sl (.pair (.int .i64) (.pair (.int .i64) (.pair (.int .i64) .bool))) g.2]), (6, .box 24 [.int .i64 0, .cv (.slice none 0 0)]), (36000, .arr 61 (.pair (.int .i64) (.pair (.int .i64) (.pair (.int .i64) .bool))) st1.1)], gt⟩) (v0_4, 0) hw9 (zL [] [] []) ?_
     as_aux_lemma =>
      intro st1 x12 h hd11
      unfold progress_Renamed_b1 at h
      refine zo ?_
      refine zB [(1, .int .i64 a), (2, .int .i64 b), (3, .bp 3 0), (6, .bp 6 0), (8, .own 36000), (27, .own 36000), (28, .int .i64 (v0_4.length : Int)), (29, .int .i64 st1.2), (30, .bool (decide (st1.2 < (v0_4.length : Int))))] [(3, .box 24 [.int .i64 g.1, .sl (.pair (.int .i64) (.pair (.int .i64) (.pair (.int .i64) .bool))) g.2]), (6, .box 24 [.int .i64 0, .cv (.slice none 0 0)]), (36000, .arr 61 (.pair (.int .i64) (.pair (.int .i64) (.pair (.int .i64) .bool))) st1.1)] ?_
      refine AW.seq ?_
      refine zQ h (fun hb14 h => ?_) (fun hb14 h => ?_)
      ·refine zk ?_
       refine AW.seq ?_
       refine AW.block ?_
       refine zo ?_
       obtain ⟨c15, h⟩ := ck_some.1 h
       obtain ⟨c16, h⟩ := ck_some.1 h
       refine zS 5 [(1, .int .i64 a), (2, .int .i64 b), (3, .bp 3 0), (6, .bp 6 0), (8, .own 36000), (9, .int .i64 st1.2), (10, .bp 10 0), (27, .own 36000), (28, .int .i64 (v0_4.length : Int)), (29, .int .i64 st1.2), (33, .agg [.int .i64 (st1.1.getD st1.2.toNat (0, 0, 0, false)).1, .int .i64 (st1.1.getD st1.2.toNat (0, 0, 0, false)).2.1, .int .i64 (st1.1.getD st1.2.toNat (0, 0, 0, false)).2.2.1, .bool (st1.1.getD st1.2.toNat (0, 0, 0, false)).2.2.2])] [(3, .box 24 [.int .i64 g.1, .sl (.pair (.int .i64) (.pair (.int .i64) (.pair (.int .i64) .bool))) g.2]), (6, .box 24 [.int .i64 0, .cv (.slice none 0 0)]), (10, .box 61 [.int .i64 0, .int .i64 0, .int .i64 0, .bool false]), (36000, .arr 61 (.pair (.int .i64) (.pair (.int .i64) (.pair (.int .i64) .bool))) st1.1)] ?_
       refine zB [(1, .int .i64 a), (2, .int .i64 b), (3, .bp 3 0), (6, .bp 6 0), (8, .own 36000), (9, .int .i64 st1.2), (10, .bp 10 0), (27, .own 36000), (28, .int .i64 (v0_4.length : Int)), (29, .int .i64 st1.2)] [(3, .box 24 [.int .i64 g.1, .sl (.pair (.int .i64) (.pair (.int .i64) (.pair (.int .i64) .bool))) g.2]), (6, .box 24 [.int .i64 0, .cv (.slice none 0 0)]), (10, .box 61 [.int .i64 (st1.1.getD st1.2.toNat (0, 0, 0, false)).1, .int .i64 (st1.1.getD st1.2.toNat (0, 0, 0, false)).2.1, .int .i64 (st1.1.getD st1.2.toNat (0, 0, 0, false)).2.2.1, .bool (st1.1.getD st1.2.toNat (0, 0, 0, false)).2.2.2]), (36000, .arr 61 (.pair (.int .i64) (.pair (.int .i64) (.pair (.int .i64) .bool))) st1.1)] ?_
       refine zo ?_
       refine zB [(1, .int .i64 a), (2, .int .i64 b), (3, .bp 3 0), (6, .bp 6 0), (8, .own 36000), (9, .int .i64 st1.2), (27, .own 36000), (28, .int .i64 (v0_4.length : Int)), (29, .int .i64 st1.2), (35, .int .i64 (st1.1.getD st1.2.toNat (0, 0, 0, false)).2.1)] [(3, .box 24 [.int .i64 g.1, .sl (.pair (.int .i64) (.pair (.int .i64) (.pair (.int .i64) .bool))) g.2]), (6, .box 24 [.int .i64 0, .cv (.slice none 0 0)]), (36000, .arr 61 (.pair (.int .i64) (.pair (.int .i64) (.pair (.int .i64) .bool))) st1.1)] ?_
       refine AW.block ?_
       refine zo ?_
       refine zB [(1, .int .i64 a), (2, .int .i64 b), (3, .bp 3 0), (6, .bp 6 0), (8, .own 36000), (9, .int .i64 st1.2), (27, .own 36000), (28, .int .i64 (v0_4.length : Int)), (29, .int .i64 st1.2), (35, .int .i64 (st1.1.getD st1.2.toNat (0, 0, 0, false)).2.1), (36, .bool (decide ((st1.1.getD st1.2.toNat (0, 0, 0, false)).2.1 = a)))] [(3, .box 24 [.int .i64 g.1, .sl (.pair (.int .i64) (.pair (.int .i64) (.pair (.int .i64) .bool))) g.2]), (6, .box 24 [.int .i64 0, .cv (.slice none 0 0)]), (36000, .arr 61 (.pair (.int .i64) (.pair (.int .i64) (.pair (.int .i64) .bool))) st1.1)] ?_
       refine zQ h (fun hb17 h => ?_) (fun hb17 h => ?_)
       ·refine AW.ops ?_
        obtain ⟨c18, h⟩ := ck_some.1 h
        obtain ⟨c19, h⟩ := ck_some.1 h
        refine zS 5 [(1, .int .i64 a), (2, .int .i64 b), (3, .bp 3 0), (6, .bp 6 0), (8, .own 36000), (27, .own 36000), (28, .int .i64 (v0_4.length : Int)), (29, .int .i64 st1.2), (41, .int .i64 b), (43, .ap 36000 4 st1.2.toNat 1)] [(3, .box 24 [.int .i64 g.1, .sl (.pair (.int .i64) (.pair (.int .i64) (.pair (.int .i64) .bool))) g.2]), (6, .box 24 [.int .i64 0, .cv (.slice none 0 0)]), (36000, .arr 61 (.pair (.int .i64) (.pair (.int .i64) (.pair (.int .i64) .bool))) st1.1)] ?_
        refine zA [(1, .int .i64 a), (2, .int .i64 b), (3, .bp 3 0), (6, .bp 6 0), (8, .own 36000), (27, .own 36000), (28, .int .i64 (v0_4.length : Int)), (29, .int .i64 st1.2)] [(3, .box 24 [.int .i64 g.1, .sl (.pair (.int .i64) (.pair (.int .i64) (.pair (.int .i64) .bool))) g.2]), (6, .box 24 [.int .i64 0, .cv (.slice none 0 0)]), (36000, .arr 61 (.pair (.int .i64) (.pair (.int .i64) (.pair (.int .i64) .bool))) (st1.1.set st1.2.toNat ((st1.1.getD st1.2.toNat (0, 0, 0, false)).1, b, (st1.1.getD st1.2.toNat (0, 0, 0, false)).2.2)))] ?_
        refine ablock_n ?_
        refine ablock_n ?_
        refine athen_n ?_
        refine AW.ops ?_
        obtain ⟨c20, h⟩ := ck_some.1 h
        refine zA [(1, .int .i64 a), (2, .int .i64 b), (3, .bp 3 0), (6, .bp 6 0), (8, .own 36000), (27, .own 36000), (28, .int .i64 (v0_4.length : Int)), (29, .int .i64 (st1.2 + 1))] [(3, .box 24 [.int .i64 g.1, .sl (.pair (.int .i64) (.pair (.int .i64) (.pair (.int .i64) .bool))) g.2]), (6, .box 24 [.int .i64 0, .cv (.slice none 0 0)]), (36000, .arr 61 (.pair (.int .i64) (.pair (.int .i64) (.pair (.int .i64) .bool))) (st1.1.set st1.2.toNat ((st1.1.getD st1.2.toNat (0, 0, 0, false)).1, b, (st1.1.getD st1.2.toNat (0, 0, 0, false)).2.2)))] ?_
        obtain rfl := Option.some.inj h
        exact ⟨_, rfl, zL [] [] []⟩
       ·refine zo ?_
        refine zB [(1, .int .i64 a), (2, .int .i64 b), (3, .bp 3 0), (6, .bp 6 0), (8, .own 36000), (9, .int .i64 st1.2), (27, .own 36000), (28, .int .i64 (v0_4.length : Int)), (29, .int .i64 st1.2), (44, .bool (decide ((st1.1.getD st1.2.toNat (0, 0, 0, false)).2.1 = b)))] [(3, .box 24 [.int .i64 g.1, .sl (.pair (.int .i64) (.pair (.int .i64) (.pair (.int .i64) .bool))) g.2]), (6, .box 24 [.int .i64 0, .cv (.slice none 0 0)]), (36000, .arr 61 (.pair (.int .i64) (.pair (.int .i64) (.pair (.int .i64) .bool))) st1.1)] ?_
        refine zQ h (fun hb21 h => ?_) (fun hb21 h => ?_)
        ·refine AW.ops ?_
         obtain ⟨c22, h⟩ := ck_some.1 h
         obtain ⟨c23, h⟩ := ck_some.1 h
         refine zS 5 [(1, .int .i64 a), (2, .int .i64 b), (3, .bp 3 0), (6, .bp 6 0), (8, .own 36000), (27, .own 36000), (28, .int .i64 (v0_4.length : Int)), (29, .int .i64 st1.2), (49, .int .i64 a), (51, .ap 36000 4 st1.2.toNat 1)] [(3, .box 24 [.int .i64 g.1, .sl (.pair (.int .i64) (.pair (.int .i64) (.pair (.int .i64) .bool))) g.2]), (6, .box 24 [.int .i64 0, .cv (.slice none 0 0)]), (36000, .arr 61 (.pair (.int .i64) (.pair (.int .i64) (.pair (.int .i64) .bool))) st1.1)] ?_
         refine zA [(1, .int .i64 a), (2, .int .i64 b), (3, .bp 3 0), (6, .bp 6 0), (8, .own 36000), (27, .own 36000), (28, .int .i64 (v0_4.length : Int)), (29, .int .i64 st1.2)] [(3, .box 24 [.int .i64 g.1, .sl (.pair (.int .i64) (.pair (.int .i64) (.pair (.int .i64) .bool))) g.2]), (6, .box 24 [.int .i64 0, .cv (.slice none 0 0)]), (36000, .arr 61 (.pair (.int .i64) (.pair (.int .i64) (.pair (.int .i64) .bool))) (st1.1.set st1.2.toNat ((st1.1.getD st1.2.toNat (0, 0, 0, false)).1, a, (st1.1.getD st1.2.toNat (0, 0, 0, false)).2.2)))] ?_
         refine ablock_n ?_
         refine ablock_n ?_
         refine athen_n ?_
         refine AW.ops ?_
         obtain ⟨c24, h⟩ := ck_some.1 h
         refine zA [(1, .int .i64 a), (2, .int .i64 b), (3, .bp 3 0), (6, .bp 6 0), (8, .own 36000), (27, .own 36000), (28, .int .i64 (v0_4.length : Int)), (29, .int .i64 (st1.2 + 1))] [(3, .box 24 [.int .i64 g.1, .sl (.pair (.int .i64) (.pair (.int .i64) (.pair (.int .i64) .bool))) g.2]), (6, .box 24 [.int .i64 0, .cv (.slice none 0 0)]), (36000, .arr 61 (.pair (.int .i64) (.pair (.int .i64) (.pair (.int .i64) .bool))) (st1.1.set st1.2.toNat ((st1.1.getD st1.2.toNat (0, 0, 0, false)).1, a, (st1.1.getD st1.2.toNat (0, 0, 0, false)).2.2)))] ?_
         obtain rfl := Option.some.inj h
         exact ⟨_, rfl, zL [] [] []⟩
        ·refine zm ?_
         refine ablock_n ?_
         refine athen_n ?_
         refine AW.ops ?_
         obtain ⟨c25, h⟩ := ck_some.1 h
         refine zA [(1, .int .i64 a), (2, .int .i64 b), (3, .bp 3 0), (6, .bp 6 0), (8, .own 36000), (27, .own 36000), (28, .int .i64 (v0_4.length : Int)), (29, .int .i64 (st1.2 + 1))] [(3, .box 24 [.int .i64 g.1, .sl (.pair (.int .i64) (.pair (.int .i64) (.pair (.int .i64) .bool))) g.2]), (6, .box 24 [.int .i64 0, .cv (.slice none 0 0)]), (36000, .arr 61 (.pair (.int .i64) (.pair (.int .i64) (.pair (.int .i64) .bool))) st1.1)] ?_
         obtain rfl := Option.some.inj h
         exact ⟨_, rfl, zL [] [] []⟩
      ·refine AW.exit ?_
       refine athen_e ?_
       obtain rfl := Option.some.inj h
       rw [← hd11 _ rfl] at ho10
       have h := ho10
       refine athen_e ?_
       refine ablock_s ?_
       refine athen_n ?_
       exact AW.weaken (zL [] [] []) (hk_progress_Renamed_k1 _ h)

end Go.Proofs.Yteclokkdgmacpaa
