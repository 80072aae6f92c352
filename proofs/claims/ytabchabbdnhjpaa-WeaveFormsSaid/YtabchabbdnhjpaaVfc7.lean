/-
  Made by wip/tool/dc.py out of the print of the program: contracts.
-/
import Derived.Test.YtabchabbdnhjpaaVp
import Derived.Test.YtabchabbdnhjpaaSh6
import Derived.Test.YtabchabbdnhjpaaAvd
import Derived.Test.YtabchabbdnhjpaaVfc2
import Derived.Test.YtabchabbdnhjpaaVfc4
import Derived.Test.YtabchabbdnhjpaaVfc5
import Derived.Test.YtabchabbdnhjpaaVfc6
namespace Go.Proofs.Ytabchabbdnhjpaa
open Go.RowKit

set_option linter.unusedSimpArgs false
set_option linter.unusedVariables false
set_option linter.constructorNameAsVariable false

set_option maxRecDepth 100000
set_option maxHeartbeats 2000000

theorem hc_linealref03_sizes (l : Int × (List (Int × Int))) (w : List Int) {r : Int} (h : linealref03_sizes l w = some r) : HC Try.prog 46 [] [.agg [.int .i64 l.1, .sl (.pair (.int .i64) (.int .i64)) l.2], .sl (.int .i64) w] [] (.int .i64 r) := by
 unfold linealref03_sizes at h
 refine zH Try.func46 [.tmp 4] 98 ?_
 refine zo ?_
 refine zB [(1, .sl (.int .i64) w), (2, .bp 2 0)] [(2, .box 24 [.int .i64 l.1, .sl (.pair (.int .i64) (.int .i64)) l.2])] ?_
 refine zo ?_
 refine zB [(1, .sl (.int .i64) w), (2, .bp 2 0), (5, .int .i64 (w.length : Int))] [(2, .box 24 [.int .i64 l.1, .sl (.pair (.int .i64) (.int .i64)) l.2])] ?_
 refine zo ?_
 obtain ⟨c1, h⟩ := ck_some.1 h
 refine zB [(1, .sl (.int .i64) w), (2, .bp 2 0), (5, .int .i64 (w.length : Int)), (6, .own 16)] [(2, .box 24 [.int .i64 l.1, .sl (.pair (.int .i64) (.int .i64)) l.2]), (16, .arr 3 (.int .i64) (List.replicate w.length (0 : Int)))] ?_
 refine AW.have1 (fun b2_2 : (List Int) => linealref03_sizes_k1 w b2_2 = some r) (fun b2_2 => ⟨fr [(5, .int .i64 (w.length : Int)), (6, .own 16)], hpGet [(16, .arr 3 (.int .i64) b2_2)], gt⟩) (fun b2_2 h => ?_) (fun hk_linealref03_sizes_k1 => ?_)
 ·as_aux_lemma =>
   unfold linealref03_sizes_k1 at h
   refine zo ?_
   obtain ⟨c2, h⟩ := ck_some.1 h
   obtain ⟨c3, h⟩ := ck_some.1 h
   refine zB [(5, .int .i64 (w.length : Int)), (6, .own 16), (9, .own 48)] [(16, .arr 3 (.int .i64) b2_2), (48, .arr 3 (.int .i64) (List.replicate (ishl .i64 1 (w.length : Int)).toNat (0 : Int)))] ?_
   refine zo ?_
   obtain ⟨c4, h⟩ := ck_some.1 h
   refine zB [(5, .int .i64 (w.length : Int)), (6, .own 16), (9, .own 48)] [(16, .arr 3 (.int .i64) b2_2), (48, .arr 3 (.int .i64) ((List.replicate (ishl .i64 1 (w.length : Int)).toNat (0 : Int)).set 0 1))] ?_
   refine AW.have1 (fun b4_2 : (List Int) => linealref03_sizes_k3 b4_2 = some r) (fun b4_2 => ⟨fr [(9, .own 48)], hpGet [(48, .arr 3 (.int .i64) b4_2)], gt⟩) (fun b4_2 h => ?_) (fun hk_linealref03_sizes_k3 => ?_)
   ·as_aux_lemma =>
     unfold linealref03_sizes_k3 at h
     refine zo ?_
     obtain ⟨c5, h⟩ := ck_some.1 h
     obtain ⟨c6, h⟩ := ck_some.1 h
     obtain ⟨c7, h⟩ := ck_some.1 h
     refine zS 5 [(96, .ap 48 1 ((b4_2.length : Int) - 1).toNat 0)] [(48, .arr 3 (.int .i64) b4_2)] ?_
     refine zB [(4, .int .i64 (b4_2.getD ((b4_2.length : Int) - 1).toNat 0))] [] ?_
     refine AW.ret ?_
     obtain rfl := Option.some.inj h
     exact zR [] [] []
   ·refine AW.seq ?_
    refine zo ?_
    refine zB [(5, .int .i64 (w.length : Int)), (6, .own 16), (9, .own 48), (10, .int .i64 1)] [(16, .arr 3 (.int .i64) b2_2), (48, .arr 3 (.int .i64) ((List.replicate (ishl .i64 1 (w.length : Int)).toNat (0 : Int)).set 0 1))] ?_
    refine AW.block ?_
    obtain ⟨rv12, hw8, ho9⟩ := Option.bind_eq_some_iff.1 h
    refine AW.loopO (linealref03_sizes_b3 w b2_2) (fun st3 => ⟨fr [(5, .int .i64 (w.length : Int)), (6, .own 16), (9, .own 48), (10, .int .i64 st3.2)], hpGet [(16, .arr 3 (.int .i64) b2_2), (48, .arr 3 (.int .i64) st3.1)], gt⟩) (((List.replicate (ishl .i64 1 (w.length : Int)).toNat (0 : Int)).set 0 1), 1) hw8 (zL [] [] []) ?_
    as_aux_lemma =>
     intro st3 x11 h hd10
     unfold linealref03_sizes_b3 at h
     refine AW.seq ?_
     refine zo ?_
     refine zB [(5, .int .i64 (w.length : Int)), (6, .own 16), (9, .own 48), (10, .int .i64 st3.2), (54, .bool (decide (st3.2 < (st3.1.length : Int))))] [(16, .arr 3 (.int .i64) b2_2), (48, .arr 3 (.int .i64) st3.1)] ?_
     refine zQ h (fun hb13 h => ?_) (fun hb13 h => ?_)
     ·refine zk ?_
      refine AW.have1 (fun b4 : (List Int) => linealref03_sizes_k4 st3 b4 = some x11) (fun b4 => ⟨fr [(5, .int .i64 (w.length : Int)), (6, .own 16), (9, .own 48), (10, .int .i64 st3.2)], hpGet [(16, .arr 3 (.int .i64) b2_2), (48, .arr 3 (.int .i64) b4)], gt⟩) (fun b4 h => ?_) (fun hk_linealref03_sizes_k4 => ?_)
      ·as_aux_lemma =>
        unfold linealref03_sizes_k4 at h
        refine AW.ops ?_
        obtain ⟨c14, h⟩ := ck_some.1 h
        refine zA [(5, .int .i64 (w.length : Int)), (6, .own 16), (9, .own 48), (10, .int .i64 (st3.2 + 1))] [(16, .arr 3 (.int .i64) b2_2), (48, .arr 3 (.int .i64) b4)] ?_
        obtain rfl := Option.some.inj h
        exact ⟨_, rfl, zL [] [] []⟩
      ·refine AW.seq ?_
       refine AW.block ?_
       refine zo ?_
       refine zB [(5, .int .i64 (w.length : Int)), (6, .own 16), (9, .own 48), (10, .int .i64 st3.2), (57, .int .i64 (w.length : Int)), (58, .int .i64 0)] [(16, .arr 3 (.int .i64) b2_2), (48, .arr 3 (.int .i64) st3.1)] ?_
       refine AW.block ?_
       obtain ⟨rv19, hw15, ho16⟩ := Option.bind_eq_some_iff.1 h
       refine AW.loopO (linealref03_sizes_b4 w b2_2 st3) (fun st4 => ⟨fr [(5, .int .i64 (w.length : Int)), (6, .own 16), (9, .own 48), (10, .int .i64 st3.2), (57, .int .i64 (w.length : Int)), (58, .int .i64 st4.2)], hpGet [(16, .arr 3 (.int .i64) b2_2), (48, .arr 3 (.int .i64) st4.1)], gt⟩) (st3.1, 0) hw15 (zL [] [] []) ?_
       as_aux_lemma =>
        intro st4 x18 h hd17
        unfold linealref03_sizes_b4 at h
        refine zo ?_
        refine zB [(5, .int .i64 (w.length : Int)), (6, .own 16), (9, .own 48), (10, .int .i64 st3.2), (57, .int .i64 (w.length : Int)), (58, .int .i64 st4.2), (59, .bool (decide (st4.2 < (w.length : Int))))] [(16, .arr 3 (.int .i64) b2_2), (48, .arr 3 (.int .i64) st4.1)] ?_
        refine AW.seq ?_
        refine zQ h (fun hb20 h => ?_) (fun hb20 h => ?_)
        ·refine zk ?_
         refine AW.seq ?_
         refine AW.block ?_
         refine zo ?_
         refine zB [(5, .int .i64 (w.length : Int)), (6, .own 16), (9, .own 48), (10, .int .i64 st3.2), (11, .int .i64 st4.2), (57, .int .i64 (w.length : Int)), (58, .int .i64 st4.2)] [(16, .arr 3 (.int .i64) b2_2), (48, .arr 3 (.int .i64) st4.1)] ?_
         refine zo ?_
         obtain ⟨c21, h⟩ := ck_some.1 h
         refine zB [(5, .int .i64 (w.length : Int)), (6, .own 16), (9, .own 48), (10, .int .i64 st3.2), (11, .int .i64 st4.2), (12, .int .i64 (iandn .i64 st3.2 (ishl .i64 1 st4.2))), (57, .int .i64 (w.length : Int)), (58, .int .i64 st4.2)] [(16, .arr 3 (.int .i64) b2_2), (48, .arr 3 (.int .i64) st4.1)] ?_
         refine AW.seq ?_
         refine AW.draw tab_ok mixed_ok [] [] (by decide) (lex_fast (by kernel_rfl)) ?_
         as_aux_lemma =>
          refine adops_cut 4 (fun K' hK22 => ?_)
          try dsimp only [List.drop_succ_cons, List.drop_zero, List.take_succ_cons, List.take_zero]
          simp only [go_sem, hb13, hb20]
          repeat with_reducible refine zN ?_
          refine hK22 _ ?_
          as_aux_lemma =>
           rcases zI h with ⟨hb23, h⟩ | ⟨hb23, h⟩
           ·simp only [hb23]
            as_aux_lemma =>
             obtain ⟨c25, h⟩ := ck_some.1 h
             obtain ⟨c26, h⟩ := ck_some.1 h
             refine adops_cut 6 (fun K' hK24 => ?_)
             try dsimp only [List.drop_succ_cons, List.drop_zero, List.take_succ_cons, List.take_zero]
             simp only [go_sem, hb13, hb20, hb23]
             repeat with_reducible refine zN ?_
             refine hK24 _ ?_
             as_aux_lemma =>
              obtain ⟨c28, h⟩ := ck_some.1 h
              obtain ⟨c29, h⟩ := ck_some.1 h
              refine adops_cut 6 (fun K' hK27 => ?_)
              try dsimp only [List.drop_succ_cons, List.drop_zero, List.take_succ_cons, List.take_zero]
              simp only [go_sem, hb13, hb20, hb23]
              repeat with_reducible refine zN ?_
              refine hK27 _ ?_
              refine adops_nil ?_
              refine athen_n ?_
              refine zV [(5, .int .i64 (w.length : Int)), (6, .own 16), (9, .own 48), (10, .int .i64 st3.2), (12, .int .i64 (iandn .i64 st3.2 (ishl .i64 1 st4.2))), (57, .int .i64 (w.length : Int)), (58, .int .i64 st4.2), (80, .bool (decide ((iand .i64 (iandn .i64 st3.2 (ishl .i64 1 st4.2)) (b2_2.getD st4.2.toNat 0)) = (b2_2.getD st4.2.toNat 0))))] [(16, .arr 3 (.int .i64) b2_2), (48, .arr 3 (.int .i64) st4.1)] gt ?_
              as_aux_lemma =>
               refine zQ h (fun hb30 h => ?_) (fun hb30 h => ?_)
               ·refine AW.draw tab_ok mixed_ok [(10, [48])] [] (by decide) (lex_fast (by kernel_rfl)) ?_
                as_aux_lemma =>
                 obtain ⟨c32, h⟩ := ck_some.1 h
                 obtain ⟨c33, h⟩ := ck_some.1 h
                 refine adops_cut 6 (fun K' hK31 => ?_)
                 try dsimp only [List.drop_succ_cons, List.drop_zero, List.take_succ_cons, List.take_zero]
                 simp only [go_sem, hb13, hb20, hb23, hb30]
                 repeat with_reducible refine zN ?_
                 refine hK31 _ ?_
                 as_aux_lemma =>
                  obtain ⟨c35, h⟩ := ck_some.1 h
                  obtain ⟨c36, h⟩ := ck_some.1 h
                  obtain ⟨c37, h⟩ := ck_some.1 h
                  obtain ⟨c38, h⟩ := ck_some.1 h
                  obtain ⟨c39, h⟩ := ck_some.1 h
                  refine adops_cut 5 (fun K' hK34 => ?_)
                  try dsimp only [List.drop_succ_cons, List.drop_zero, List.take_succ_cons, List.take_zero]
                  simp only [go_sem, hb13, hb20, hb23, hb30]
                  repeat with_reducible refine zN ?_
                  refine hK34 _ ?_
                  refine adops_nil ?_
                  refine ablock_n ?_
                  refine athen_n ?_
                  refine zV [(5, .int .i64 (w.length : Int)), (6, .own 16), (9, .own 48), (10, .int .i64 st3.2), (57, .int .i64 (w.length : Int)), (58, .int .i64 st4.2)] [(16, .arr 3 (.int .i64) b2_2), (48, .arr 3 (.int .i64) (st4.1.set st3.2.toNat ((st4.1.getD st3.2.toNat 0) + (st4.1.getD (iandn .i64 st3.2 (ishl .i64 1 st4.2)).toNat 0))))] gt ?_
                  as_aux_lemma =>
                   refine AW.ops ?_
                   obtain ⟨c40, h⟩ := ck_some.1 h
                   refine zA [(5, .int .i64 (w.length : Int)), (6, .own 16), (9, .own 48), (10, .int .i64 st3.2), (57, .int .i64 (w.length : Int)), (58, .int .i64 (st4.2 + 1))] [(16, .arr 3 (.int .i64) b2_2), (48, .arr 3 (.int .i64) (st4.1.set st3.2.toNat ((st4.1.getD st3.2.toNat 0) + (st4.1.getD (iandn .i64 st3.2 (ishl .i64 1 st4.2)).toNat 0))))] ?_
                   obtain rfl := Option.some.inj h
                   exact ⟨_, rfl, zL [] [] []⟩
               ·refine zm ?_
                refine athen_n ?_
                refine AW.ops ?_
                obtain ⟨c41, h⟩ := ck_some.1 h
                refine zA [(5, .int .i64 (w.length : Int)), (6, .own 16), (9, .own 48), (10, .int .i64 st3.2), (57, .int .i64 (w.length : Int)), (58, .int .i64 (st4.2 + 1))] [(16, .arr 3 (.int .i64) b2_2), (48, .arr 3 (.int .i64) st4.1)] ?_
                obtain rfl := Option.some.inj h
                exact ⟨_, rfl, zL [] [] []⟩
           ·simp only [hb23]
            as_aux_lemma =>
             refine adops_cut 4 (fun K' hK42 => ?_)
             try dsimp only [List.drop_succ_cons, List.drop_zero, List.take_succ_cons, List.take_zero]
             simp only [go_sem, hb13, hb20, hb23]
             repeat with_reducible refine zN ?_
             refine hK42 _ ?_
             as_aux_lemma =>
              refine adops_cut 4 (fun K' hK43 => ?_)
              try dsimp only [List.drop_succ_cons, List.drop_zero, List.take_succ_cons, List.take_zero]
              simp only [go_sem, hb13, hb20, hb23]
              repeat with_reducible refine zN ?_
              refine hK43 _ ?_
              as_aux_lemma =>
               refine adops_cut 4 (fun K' hK44 => ?_)
               try dsimp only [List.drop_succ_cons, List.drop_zero, List.take_succ_cons, List.take_zero]
               simp only [go_sem, hb13, hb20, hb23]
               repeat with_reducible refine zN ?_
               refine hK44 _ ?_
               refine adops_nil ?_
               refine athen_n ?_
               refine zV [(5, .int .i64 (w.length : Int)), (6, .own 16), (9, .own 48), (10, .int .i64 st3.2), (12, .int .i64 (iandn .i64 st3.2 (ishl .i64 1 st4.2))), (57, .int .i64 (w.length : Int)), (58, .int .i64 st4.2), (80, .bool false)] [(16, .arr 3 (.int .i64) b2_2), (48, .arr 3 (.int .i64) st4.1)] gt ?_
               as_aux_lemma =>
                refine AW.cond (b := false) rfl (fun hb45 => by cases hb45) (fun _ => ?_)
                refine zm ?_
                refine athen_n ?_
                refine AW.ops ?_
                obtain ⟨c46, h⟩ := ck_some.1 h
                refine zA [(5, .int .i64 (w.length : Int)), (6, .own 16), (9, .own 48), (10, .int .i64 st3.2), (57, .int .i64 (w.length : Int)), (58, .int .i64 (st4.2 + 1))] [(16, .arr 3 (.int .i64) b2_2), (48, .arr 3 (.int .i64) st4.1)] ?_
                obtain rfl := Option.some.inj h
                exact ⟨_, rfl, zL [] [] []⟩
        ·refine AW.exit ?_
         refine athen_e ?_
         obtain rfl := Option.some.inj h
         rw [← hd17 _ rfl] at ho16
         have h := ho16
         refine athen_e ?_
         refine ablock_s ?_
         refine ablock_n ?_
         refine athen_n ?_
         exact AW.weaken (zL [] [] []) (hk_linealref03_sizes_k4 _ h)
     ·refine AW.exit ?_
      refine athen_e ?_
      obtain rfl := Option.some.inj h
      rw [← hd10 _ rfl] at ho9
      have h := ho9
      refine athen_e ?_
      refine ablock_s ?_
      refine athen_n ?_
      exact AW.weaken (zL [] [] []) (hk_linealref03_sizes_k3 _ h)
 ·refine AW.seq ?_
  refine zo ?_
  refine zB [(1, .sl (.int .i64) w), (2, .bp 2 0), (5, .int .i64 (w.length : Int)), (6, .own 16), (18, .int .i64 (w.length : Int)), (19, .int .i64 0)] [(2, .box 24 [.int .i64 l.1, .sl (.pair (.int .i64) (.int .i64)) l.2]), (16, .arr 3 (.int .i64) (List.replicate w.length (0 : Int)))] ?_
  refine AW.block ?_
  obtain ⟨rv51, hw47, ho48⟩ := Option.bind_eq_some_iff.1 h
  refine AW.loopO (linealref03_sizes_b1 l w) (fun st1 => ⟨fr [(1, .sl (.int .i64) w), (2, .bp 2 0), (5, .int .i64 (w.length : Int)), (6, .own 16), (18, .int .i64 (w.length : Int)), (19, .int .i64 st1.2)], hpGet [(2, .box 24 [.int .i64 l.1, .sl (.pair (.int .i64) (.int .i64)) l.2]), (16, .arr 3 (.int .i64) st1.1)], gt⟩) ((List.replicate w.length (0 : Int)), 0) hw47 (zL [] [] []) ?_
  as_aux_lemma =>
   intro st1 x50 h hd49
   unfold linealref03_sizes_b1 at h
   refine zo ?_
   refine zB [(1, .sl (.int .i64) w), (2, .bp 2 0), (5, .int .i64 (w.length : Int)), (6, .own 16), (18, .int .i64 (w.length : Int)), (19, .int .i64 st1.2), (20, .bool (decide (st1.2 < (w.length : Int))))] [(2, .box 24 [.int .i64 l.1, .sl (.pair (.int .i64) (.int .i64)) l.2]), (16, .arr 3 (.int .i64) st1.1)] ?_
   refine AW.seq ?_
   refine zQ h (fun hb52 h => ?_) (fun hb52 h => ?_)
   ·refine zk ?_
    refine AW.have1 (fun b2 : (List Int) => linealref03_sizes_k2 st1 b2 = some x50) (fun b2 => ⟨fr [(1, .sl (.int .i64) w), (2, .bp 2 0), (5, .int .i64 (w.length : Int)), (6, .own 16), (18, .int .i64 (w.length : Int)), (19, .int .i64 st1.2)], hpGet [(2, .box 24 [.int .i64 l.1, .sl (.pair (.int .i64) (.int .i64)) l.2]), (16, .arr 3 (.int .i64) b2)], gt⟩) (fun b2 h => ?_) (fun hk_linealref03_sizes_k2 => ?_)
    ·as_aux_lemma =>
      unfold linealref03_sizes_k2 at h
      refine AW.ops ?_
      obtain ⟨c53, h⟩ := ck_some.1 h
      refine zA [(1, .sl (.int .i64) w), (2, .bp 2 0), (5, .int .i64 (w.length : Int)), (6, .own 16), (18, .int .i64 (w.length : Int)), (19, .int .i64 (st1.2 + 1))] [(2, .box 24 [.int .i64 l.1, .sl (.pair (.int .i64) (.int .i64)) l.2]), (16, .arr 3 (.int .i64) b2)] ?_
      obtain rfl := Option.some.inj h
      exact ⟨_, rfl, zL [] [] []⟩
    ·refine AW.seq ?_
     refine AW.block ?_
     refine zo ?_
     refine zB [(1, .sl (.int .i64) w), (2, .bp 2 0), (5, .int .i64 (w.length : Int)), (6, .own 16), (7, .int .i64 st1.2), (18, .int .i64 (w.length : Int)), (19, .int .i64 st1.2)] [(2, .box 24 [.int .i64 l.1, .sl (.pair (.int .i64) (.int .i64)) l.2]), (16, .arr 3 (.int .i64) st1.1)] ?_
     refine zo ?_
     refine zB [(1, .sl (.int .i64) w), (2, .bp 2 0), (5, .int .i64 (w.length : Int)), (6, .own 16), (7, .int .i64 st1.2), (18, .int .i64 (w.length : Int)), (19, .int .i64 st1.2), (22, .int .i64 st1.2), (23, .int .i64 0)] [(2, .box 24 [.int .i64 l.1, .sl (.pair (.int .i64) (.int .i64)) l.2]), (16, .arr 3 (.int .i64) st1.1)] ?_
     refine AW.block ?_
     obtain ⟨rv58, hw54, ho55⟩ := Option.bind_eq_some_iff.1 h
     refine AW.loopO (linealref03_sizes_b2 l w st1) (fun st2 => ⟨fr [(1, .sl (.int .i64) w), (2, .bp 2 0), (5, .int .i64 (w.length : Int)), (6, .own 16), (7, .int .i64 st1.2), (18, .int .i64 (w.length : Int)), (19, .int .i64 st1.2), (22, .int .i64 st1.2), (23, .int .i64 st2.2)], hpGet [(2, .box 24 [.int .i64 l.1, .sl (.pair (.int .i64) (.int .i64)) l.2]), (16, .arr 3 (.int .i64) st2.1)], gt⟩) (st1.1, 0) hw54 (zL [] [] []) ?_
     as_aux_lemma =>
      intro st2 x57 h hd56
      unfold linealref03_sizes_b2 at h
      refine zo ?_
      refine zB [(1, .sl (.int .i64) w), (2, .bp 2 0), (5, .int .i64 (w.length : Int)), (6, .own 16), (7, .int .i64 st1.2), (18, .int .i64 (w.length : Int)), (19, .int .i64 st1.2), (22, .int .i64 st1.2), (23, .int .i64 st2.2), (24, .bool (decide (st2.2 < st1.2)))] [(2, .box 24 [.int .i64 l.1, .sl (.pair (.int .i64) (.int .i64)) l.2]), (16, .arr 3 (.int .i64) st2.1)] ?_
      refine AW.seq ?_
      refine zQ h (fun hb59 h => ?_) (fun hb59 h => ?_)
      ·refine zk ?_
       refine AW.seq ?_
       refine AW.block ?_
       refine zo ?_
       refine zB [(1, .sl (.int .i64) w), (2, .bp 2 0), (5, .int .i64 (w.length : Int)), (6, .own 16), (7, .int .i64 st1.2), (8, .int .i64 st2.2), (18, .int .i64 (w.length : Int)), (19, .int .i64 st1.2), (22, .int .i64 st1.2), (23, .int .i64 st2.2)] [(2, .box 24 [.int .i64 l.1, .sl (.pair (.int .i64) (.int .i64)) l.2]), (16, .arr 3 (.int .i64) st2.1)] ?_
       refine AW.seq ?_
       refine AW.draw tab_ok mixed_ok [] [] (by decide) (lex_fast (by kernel_rfl)) ?_
       as_aux_lemma =>
        obtain ⟨c61, h⟩ := ck_some.1 h
        obtain ⟨c62, h⟩ := ck_some.1 h
        refine adops_cut 6 (fun K' hK60 => ?_)
        try dsimp only [List.drop_succ_cons, List.drop_zero, List.take_succ_cons, List.take_zero]
        simp only [go_sem, hb52, hb59]
        repeat with_reducible refine zN ?_
        refine hK60 _ ?_
        as_aux_lemma =>
         obtain ⟨c64, h⟩ := ck_some.1 h
         obtain ⟨c65, h⟩ := ck_some.1 h
         refine adops_cut 3 (fun K' hK63 => ?_)
         try dsimp only [List.drop_succ_cons, List.drop_zero, List.take_succ_cons, List.take_zero]
         simp only [go_sem, hb52, hb59]
         repeat with_reducible refine zN ?_
         refine hK63 _ ?_
         as_aux_lemma =>
          obtain ⟨v0, hv66, h⟩ := Option.bind_eq_some_iff.1 h
          refine adops.call (by first | trivial | rfl) rfl rfl rfl (fun _ h => h) [] [] (hc_linealref03_depend l (w.getD st1.2.toNat 0) (w.getD st2.2.toNat 0) hv66) rfl (by (simp only [go_sem, hb52, hb59]) <;> (with_reducible and_intros) <;> first | assumption | rfl | omega | (unfold maxLen; omega)) (by (simp only [go_sem, hb52, hb59]) <;> (with_reducible and_intros) <;> first | assumption | rfl | omega | (unfold maxLen; omega)) rfl ?_
          refine adops_cut 0 (fun K' hK67 => ?_)
          try dsimp only [List.drop_succ_cons, List.drop_zero, List.take_succ_cons, List.take_zero]
          simp only [go_sem, hb52, hb59]
          repeat with_reducible refine zN ?_
          refine hK67 _ ?_
          refine adops_nil ?_
          refine athen_n ?_
          refine zV [(1, .sl (.int .i64) w), (2, .bp 2 0), (5, .int .i64 (w.length : Int)), (6, .own 16), (7, .int .i64 st1.2), (8, .int .i64 st2.2), (18, .int .i64 (w.length : Int)), (19, .int .i64 st1.2), (22, .int .i64 st1.2), (23, .int .i64 st2.2), (35, .bool v0)] [(2, .box 24 [.int .i64 l.1, .sl (.pair (.int .i64) (.int .i64)) l.2]), (16, .arr 3 (.int .i64) st2.1)] gt ?_
          as_aux_lemma =>
           refine zQ h (fun hb68 h => ?_) (fun hb68 h => ?_)
           ·refine AW.draw tab_ok mixed_ok [(8, [16])] [] (by decide) (lex_fast (by kernel_rfl)) ?_
            as_aux_lemma =>
             obtain ⟨c70, h⟩ := ck_some.1 h
             obtain ⟨c71, h⟩ := ck_some.1 h
             obtain ⟨c72, h⟩ := ck_some.1 h
             refine adops_cut 6 (fun K' hK69 => ?_)
             try dsimp only [List.drop_succ_cons, List.drop_zero, List.take_succ_cons, List.take_zero]
             simp only [go_sem, hb52, hb59, hb68]
             repeat with_reducible refine zN ?_
             refine hK69 _ ?_
             as_aux_lemma =>
              obtain ⟨c74, h⟩ := ck_some.1 h
              obtain ⟨c75, h⟩ := ck_some.1 h
              refine adops_cut 3 (fun K' hK73 => ?_)
              try dsimp only [List.drop_succ_cons, List.drop_zero, List.take_succ_cons, List.take_zero]
              simp only [go_sem, hb52, hb59, hb68]
              repeat with_reducible refine zN ?_
              refine hK73 _ ?_
              refine adops_nil ?_
              refine ablock_n ?_
              refine athen_n ?_
              refine zV [(1, .sl (.int .i64) w), (2, .bp 2 0), (5, .int .i64 (w.length : Int)), (6, .own 16), (7, .int .i64 st1.2), (18, .int .i64 (w.length : Int)), (19, .int .i64 st1.2), (22, .int .i64 st1.2), (23, .int .i64 st2.2)] [(2, .box 24 [.int .i64 l.1, .sl (.pair (.int .i64) (.int .i64)) l.2]), (16, .arr 3 (.int .i64) (st2.1.set st1.2.toNat (ior .i64 (st2.1.getD st1.2.toNat 0) (ishl .i64 1 st2.2))))] gt ?_
              as_aux_lemma =>
               refine AW.ops ?_
               obtain ⟨c76, h⟩ := ck_some.1 h
               refine zA [(1, .sl (.int .i64) w), (2, .bp 2 0), (5, .int .i64 (w.length : Int)), (6, .own 16), (7, .int .i64 st1.2), (18, .int .i64 (w.length : Int)), (19, .int .i64 st1.2), (22, .int .i64 st1.2), (23, .int .i64 (st2.2 + 1))] [(2, .box 24 [.int .i64 l.1, .sl (.pair (.int .i64) (.int .i64)) l.2]), (16, .arr 3 (.int .i64) (st2.1.set st1.2.toNat (ior .i64 (st2.1.getD st1.2.toNat 0) (ishl .i64 1 st2.2))))] ?_
               obtain rfl := Option.some.inj h
               exact ⟨_, rfl, zL [] [] []⟩
           ·refine zm ?_
            refine athen_n ?_
            refine AW.ops ?_
            obtain ⟨c77, h⟩ := ck_some.1 h
            refine zA [(1, .sl (.int .i64) w), (2, .bp 2 0), (5, .int .i64 (w.length : Int)), (6, .own 16), (7, .int .i64 st1.2), (18, .int .i64 (w.length : Int)), (19, .int .i64 st1.2), (22, .int .i64 st1.2), (23, .int .i64 (st2.2 + 1))] [(2, .box 24 [.int .i64 l.1, .sl (.pair (.int .i64) (.int .i64)) l.2]), (16, .arr 3 (.int .i64) st2.1)] ?_
            obtain rfl := Option.some.inj h
            exact ⟨_, rfl, zL [] [] []⟩
      ·refine AW.exit ?_
       refine athen_e ?_
       obtain rfl := Option.some.inj h
       rw [← hd56 _ rfl] at ho55
       have h := ho55
       refine athen_e ?_
       refine ablock_s ?_
       refine ablock_n ?_
       refine athen_n ?_
       exact AW.weaken (zL [] [] []) (hk_linealref03_sizes_k2 _ h)
   ·refine AW.exit ?_
    refine athen_e ?_
    obtain rfl := Option.some.inj h
    rw [← hd49 _ rfl] at ho48
    have h := ho48
    refine athen_e ?_
    refine ablock_s ?_
    refine athen_n ?_
    exact AW.weaken (zL [] [] []) (hk_linealref03_sizes_k1 _ h)

theorem hc_linealref03_Size (l : Int × (List (Int × Int))) (w : List Int) {r : Int × Int} (h : linealref03_Size l w = some r) : HC Try.prog 20 [] [.agg [.int .i64 l.1, .sl (.pair (.int .i64) (.int .i64)) l.2], .sl (.int .i64) w] [] (.tup [.int .i64 r.1, .int .i64 r.2]) := by
 unfold linealref03_Size at h
 refine zH Try.func20 [.tmp 4, .tmp 5] 16 ?_
 refine zo ?_
 refine zB [(1, .sl (.int .i64) w), (2, .bp 2 0)] [(2, .box 24 [.int .i64 l.1, .sl (.pair (.int .i64) (.int .i64)) l.2])] ?_
 refine AW.seq ?_
 refine zo ?_
 refine zS 2 [(1, .sl (.int .i64) w), (2, .bp 2 0), (7, .agg [.int .i64 l.1, .sl (.pair (.int .i64) (.int .i64)) l.2]), (8, .sl (.int .i64) w)] [(2, .box 24 [.int .i64 l.1, .sl (.pair (.int .i64) (.int .i64)) l.2])] ?_
 obtain ⟨v0, hv1, h⟩ := Option.bind_eq_some_iff.1 h
 refine zC [] [] (hc_linealref03_asked l w [] hv1) [(1, .sl (.int .i64) w), (2, .bp 2 0), (9, .int .i64 v0)] [(2, .box 24 [.int .i64 l.1, .sl (.pair (.int .i64) (.int .i64)) l.2])] ?_
 refine zB [(1, .sl (.int .i64) w), (2, .bp 2 0), (6, .int .i64 v0)] [(2, .box 24 [.int .i64 l.1, .sl (.pair (.int .i64) (.int .i64)) l.2])] ?_
 refine zo ?_
 refine zB [(1, .sl (.int .i64) w), (2, .bp 2 0), (6, .int .i64 v0), (11, .bool (!(decide (v0 = 0))))] [(2, .box 24 [.int .i64 l.1, .sl (.pair (.int .i64) (.int .i64)) l.2])] ?_
 refine zQ h (fun hb2 h => ?_) (fun hb2 h => ?_)
 ·refine zo ?_
  refine zB [(4, .int .i64 0), (5, .int .i64 v0)] [] ?_
  refine zr ?_
  obtain rfl := Option.some.inj h
  exact zR [] [] []
 ·refine zk ?_
  refine zo ?_
  refine zS 2 [(13, .agg [.int .i64 l.1, .sl (.pair (.int .i64) (.int .i64)) l.2]), (14, .sl (.int .i64) w)] [] ?_
  obtain ⟨v0_2, hv3, h⟩ := Option.bind_eq_some_iff.1 h
  refine zC [] [] (hc_linealref03_sizes l w hv3) [(15, .int .i64 v0_2)] [] ?_
  refine zB [(4, .int .i64 v0_2), (5, .int .i64 0)] [] ?_
  refine AW.ret ?_
  obtain rfl := Option.some.inj h
  exact zR [] [] []

theorem hc_lineallaw03_WeaveForms (l : Int × (List (Int × Int))) (w : List Int) {r : Bool} (h : lineallaw03_WeaveForms l w = some r) : HC Try.prog 3 [] [.agg [.int .i64 l.1, .sl (.pair (.int .i64) (.int .i64)) l.2], .sl (.int .i64) w] [] (.bool r) := by
 unfold lineallaw03_WeaveForms at h
 refine zH Try.func3 [.tmp 4] 128 ?_
 refine zo ?_
 refine zB [(1, .sl (.int .i64) w), (2, .bp 2 0)] [(2, .box 24 [.int .i64 l.1, .sl (.pair (.int .i64) (.int .i64)) l.2])] ?_
 refine AW.seq ?_
 refine zo ?_
 refine zS 3 [(1, .sl (.int .i64) w), (2, .bp 2 0), (15, .agg [.int .i64 l.1, .sl (.pair (.int .i64) (.int .i64)) l.2]), (17, .own 17)] [(2, .box 24 [.int .i64 l.1, .sl (.pair (.int .i64) (.int .i64)) l.2]), (17, .arr 25 (.sl (.int .i64)) [w])] ?_
 obtain ⟨v0, hv1, h⟩ := Option.bind_eq_some_iff.1 h
 refine zC [17] [] (hc_lineallaw03_Long l [w] hv1) [(1, .sl (.int .i64) w), (2, .bp 2 0), (18, .bool v0)] [(2, .box 24 [.int .i64 l.1, .sl (.pair (.int .i64) (.int .i64)) l.2])] ?_
 refine zB [(1, .sl (.int .i64) w), (2, .bp 2 0), (18, .bool v0)] [(2, .box 24 [.int .i64 l.1, .sl (.pair (.int .i64) (.int .i64)) l.2])] ?_
 refine zQ h (fun hb2 h => ?_) (fun hb2 h => ?_)
 ·refine zo ?_
  obtain ⟨v0_2, hv3, h⟩ := Option.bind_eq_some_iff.1 h
  refine zC [] [] (hc_lineallaw03_Awake hv3) [(19, .bool v0_2)] [] ?_
  refine zB [(4, .bool v0_2)] [] ?_
  refine zr ?_
  obtain rfl := Option.some.inj h
  exact zR [] [] []
 ·refine zk ?_
  refine zo ?_
  refine zS 2 [(1, .sl (.int .i64) w), (2, .bp 2 0), (21, .agg [.int .i64 l.1, .sl (.pair (.int .i64) (.int .i64)) l.2]), (22, .sl (.int .i64) w)] [(2, .box 24 [.int .i64 l.1, .sl (.pair (.int .i64) (.int .i64)) l.2])] ?_
  obtain ⟨v0_3, hv4, h⟩ := Option.bind_eq_some_iff.1 h
  refine zC [] [] (hc_weave_Layers l w hv4) [(1, .sl (.int .i64) w), (2, .bp 2 0), (23, .tup [.sl (.sl (.int .i64)) v0_3.1, .int .i64 v0_3.2])] [(2, .box 24 [.int .i64 l.1, .sl (.pair (.int .i64) (.int .i64)) l.2])] ?_
  refine zB [(1, .sl (.int .i64) w), (2, .bp 2 0), (5, .sl (.sl (.int .i64)) v0_3.1), (6, .int .i64 v0_3.2)] [(2, .box 24 [.int .i64 l.1, .sl (.pair (.int .i64) (.int .i64)) l.2])] ?_
  refine zo ?_
  refine zS 2 [(1, .sl (.int .i64) w), (2, .bp 2 0), (5, .sl (.sl (.int .i64)) v0_3.1), (6, .int .i64 v0_3.2), (27, .agg [.int .i64 l.1, .sl (.pair (.int .i64) (.int .i64)) l.2]), (28, .sl (.int .i64) w)] [(2, .box 24 [.int .i64 l.1, .sl (.pair (.int .i64) (.int .i64)) l.2])] ?_
  obtain ⟨v0_4, hv5, h⟩ := Option.bind_eq_some_iff.1 h
  refine zC [] [] (hc_linealref03_Layers l w hv5) [(1, .sl (.int .i64) w), (2, .bp 2 0), (5, .sl (.sl (.int .i64)) v0_3.1), (6, .int .i64 v0_3.2), (29, .tup [.own 39000, .int .i64 v0_4.2])] [(2, .box 24 [.int .i64 l.1, .sl (.pair (.int .i64) (.int .i64)) l.2]), (39000, .arr 25 (.sl (.int .i64)) v0_4.1)] ?_
  refine zB [(1, .sl (.int .i64) w), (2, .bp 2 0), (5, .sl (.sl (.int .i64)) v0_3.1), (6, .int .i64 v0_3.2), (7, .own 39000), (8, .int .i64 v0_4.2)] [(2, .box 24 [.int .i64 l.1, .sl (.pair (.int .i64) (.int .i64)) l.2]), (39000, .arr 25 (.sl (.int .i64)) v0_4.1)] ?_
  refine AW.seq ?_
  refine zo ?_
  refine zS 2 [(1, .sl (.int .i64) w), (2, .bp 2 0), (6, .int .i64 v0_3.2), (8, .int .i64 v0_4.2), (32, .sl (.sl (.int .i64)) v0_3.1), (33, .own 39000)] [(2, .box 24 [.int .i64 l.1, .sl (.pair (.int .i64) (.int .i64)) l.2]), (39000, .arr 25 (.sl (.int .i64)) v0_4.1)] ?_
  obtain ⟨v0_5, hv6, h⟩ := Option.bind_eq_some_iff.1 h
  refine zC [39000] [] (hc_linealref03_SameLists v0_3.1 v0_4.1 hv6) [(1, .sl (.int .i64) w), (2, .bp 2 0), (6, .int .i64 v0_3.2), (8, .int .i64 v0_4.2), (34, .bool v0_5)] [(2, .box 24 [.int .i64 l.1, .sl (.pair (.int .i64) (.int .i64)) l.2])] ?_
  refine zS 2 [(1, .sl (.int .i64) w), (2, .bp 2 0), (6, .int .i64 v0_3.2), (8, .int .i64 v0_4.2), (36, .bool (!v0_5))] [(2, .box 24 [.int .i64 l.1, .sl (.pair (.int .i64) (.int .i64)) l.2])] ?_
  rcases zI h with ⟨hb7, h⟩ | ⟨hb7, h⟩
  ·refine zB [(1, .sl (.int .i64) w), (2, .bp 2 0), (40, .bool true)] [(2, .box 24 [.int .i64 l.1, .sl (.pair (.int .i64) (.int .i64)) l.2])] ?_
   refine AW.cond (b := true) rfl (fun _ => ?_) (fun hb8 => by cases hb8)
   refine zo ?_
   refine zB [(4, .bool false)] [] ?_
   refine zr ?_
   obtain rfl := Option.some.inj h
   exact zR [] [] []
  ·refine zB [(1, .sl (.int .i64) w), (2, .bp 2 0), (40, .bool (!(decide (v0_3.2 = v0_4.2))))] [(2, .box 24 [.int .i64 l.1, .sl (.pair (.int .i64) (.int .i64)) l.2])] ?_
   refine zQ h (fun hb9 h => ?_) (fun hb9 h => ?_)
   ·refine zo ?_
    refine zB [(4, .bool false)] [] ?_
    refine zr ?_
    obtain rfl := Option.some.inj h
    exact zR [] [] []
   ·refine zk ?_
    refine zo ?_
    refine zS 2 [(1, .sl (.int .i64) w), (2, .bp 2 0), (42, .agg [.int .i64 l.1, .sl (.pair (.int .i64) (.int .i64)) l.2]), (43, .sl (.int .i64) w)] [(2, .box 24 [.int .i64 l.1, .sl (.pair (.int .i64) (.int .i64)) l.2])] ?_
    obtain ⟨v0_6, hv10, h⟩ := Option.bind_eq_some_iff.1 h
    refine zC [] [] (hc_weave_First l w hv10) [(1, .sl (.int .i64) w), (2, .bp 2 0), (44, .tup [.sl (.int .i64) v0_6.1, .int .i64 v0_6.2])] [(2, .box 24 [.int .i64 l.1, .sl (.pair (.int .i64) (.int .i64)) l.2])] ?_
    refine zB [(1, .sl (.int .i64) w), (2, .bp 2 0), (6, .int .i64 v0_6.2), (9, .sl (.int .i64) v0_6.1)] [(2, .box 24 [.int .i64 l.1, .sl (.pair (.int .i64) (.int .i64)) l.2])] ?_
    refine zo ?_
    refine zS 2 [(1, .sl (.int .i64) w), (2, .bp 2 0), (6, .int .i64 v0_6.2), (9, .sl (.int .i64) v0_6.1), (48, .agg [.int .i64 l.1, .sl (.pair (.int .i64) (.int .i64)) l.2]), (49, .sl (.int .i64) w)] [(2, .box 24 [.int .i64 l.1, .sl (.pair (.int .i64) (.int .i64)) l.2])] ?_
    obtain ⟨v0_7, hv11, h⟩ := Option.bind_eq_some_iff.1 h
    refine zC [] [] (hc_linealref03_First l w hv11) [(1, .sl (.int .i64) w), (2, .bp 2 0), (6, .int .i64 v0_6.2), (9, .sl (.int .i64) v0_6.1), (50, .tup [.own 60000, .int .i64 v0_7.2])] [(2, .box 24 [.int .i64 l.1, .sl (.pair (.int .i64) (.int .i64)) l.2]), (60000, .arr 3 (.int .i64) v0_7.1)] ?_
    refine zB [(1, .sl (.int .i64) w), (2, .bp 2 0), (6, .int .i64 v0_6.2), (8, .int .i64 v0_7.2), (9, .sl (.int .i64) v0_6.1), (10, .own 60000)] [(2, .box 24 [.int .i64 l.1, .sl (.pair (.int .i64) (.int .i64)) l.2]), (60000, .arr 3 (.int .i64) v0_7.1)] ?_
    refine AW.seq ?_
    refine zo ?_
    refine zS 2 [(1, .sl (.int .i64) w), (2, .bp 2 0), (6, .int .i64 v0_6.2), (8, .int .i64 v0_7.2), (53, .sl (.int .i64) v0_6.1), (54, .own 60000)] [(2, .box 24 [.int .i64 l.1, .sl (.pair (.int .i64) (.int .i64)) l.2]), (60000, .arr 3 (.int .i64) v0_7.1)] ?_
    obtain ⟨v0_8, hv12, h⟩ := Option.bind_eq_some_iff.1 h
    refine zC [60000] [] (hc_linealref03_SameInts v0_6.1 v0_7.1 hv12) [(1, .sl (.int .i64) w), (2, .bp 2 0), (6, .int .i64 v0_6.2), (8, .int .i64 v0_7.2), (55, .bool v0_8)] [(2, .box 24 [.int .i64 l.1, .sl (.pair (.int .i64) (.int .i64)) l.2])] ?_
    refine zS 2 [(1, .sl (.int .i64) w), (2, .bp 2 0), (6, .int .i64 v0_6.2), (8, .int .i64 v0_7.2), (57, .bool (!v0_8))] [(2, .box 24 [.int .i64 l.1, .sl (.pair (.int .i64) (.int .i64)) l.2])] ?_
    rcases zI h with ⟨hb13, h⟩ | ⟨hb13, h⟩
    ·refine zB [(1, .sl (.int .i64) w), (2, .bp 2 0), (61, .bool true)] [(2, .box 24 [.int .i64 l.1, .sl (.pair (.int .i64) (.int .i64)) l.2])] ?_
     refine AW.cond (b := true) rfl (fun _ => ?_) (fun hb14 => by cases hb14)
     refine zo ?_
     refine zB [(4, .bool false)] [] ?_
     refine zr ?_
     obtain rfl := Option.some.inj h
     exact zR [] [] []
    ·refine zB [(1, .sl (.int .i64) w), (2, .bp 2 0), (61, .bool (!(decide (v0_6.2 = v0_7.2))))] [(2, .box 24 [.int .i64 l.1, .sl (.pair (.int .i64) (.int .i64)) l.2])] ?_
     refine zQ h (fun hb15 h => ?_) (fun hb15 h => ?_)
     ·refine zo ?_
      refine zB [(4, .bool false)] [] ?_
      refine zr ?_
      obtain rfl := Option.some.inj h
      exact zR [] [] []
     ·refine zk ?_
      refine zo ?_
      refine zS 2 [(1, .sl (.int .i64) w), (2, .bp 2 0), (63, .agg [.int .i64 l.1, .sl (.pair (.int .i64) (.int .i64)) l.2]), (64, .sl (.int .i64) w)] [(2, .box 24 [.int .i64 l.1, .sl (.pair (.int .i64) (.int .i64)) l.2])] ?_
      obtain ⟨v0_9, hv16, h⟩ := Option.bind_eq_some_iff.1 h
      refine zC [] [] (hc_weave_Starts l w hv16) [(1, .sl (.int .i64) w), (2, .bp 2 0), (65, .tup [.own 75000, .int .i64 v0_9.2])] [(2, .box 24 [.int .i64 l.1, .sl (.pair (.int .i64) (.int .i64)) l.2]), (75000, .arr 3 (.int .i64) v0_9.1)] ?_
      refine zB [(1, .sl (.int .i64) w), (2, .bp 2 0), (6, .int .i64 v0_9.2), (9, .own 75000)] [(2, .box 24 [.int .i64 l.1, .sl (.pair (.int .i64) (.int .i64)) l.2]), (75000, .arr 3 (.int .i64) v0_9.1)] ?_
      refine zo ?_
      refine zS 2 [(1, .sl (.int .i64) w), (2, .bp 2 0), (6, .int .i64 v0_9.2), (9, .own 75000), (69, .agg [.int .i64 l.1, .sl (.pair (.int .i64) (.int .i64)) l.2]), (70, .sl (.int .i64) w)] [(2, .box 24 [.int .i64 l.1, .sl (.pair (.int .i64) (.int .i64)) l.2]), (75000, .arr 3 (.int .i64) v0_9.1)] ?_
      obtain ⟨v0_10, hv17, h⟩ := Option.bind_eq_some_iff.1 h
      refine zC [] [] (hc_linealref03_Starts l w hv17) [(1, .sl (.int .i64) w), (2, .bp 2 0), (6, .int .i64 v0_9.2), (9, .own 75000), (71, .tup [.own 81000, .int .i64 v0_10.2])] [(2, .box 24 [.int .i64 l.1, .sl (.pair (.int .i64) (.int .i64)) l.2]), (75000, .arr 3 (.int .i64) v0_9.1), (81000, .arr 3 (.int .i64) v0_10.1)] ?_
      refine zB [(1, .sl (.int .i64) w), (2, .bp 2 0), (6, .int .i64 v0_9.2), (8, .int .i64 v0_10.2), (9, .own 75000), (10, .own 81000)] [(2, .box 24 [.int .i64 l.1, .sl (.pair (.int .i64) (.int .i64)) l.2]), (75000, .arr 3 (.int .i64) v0_9.1), (81000, .arr 3 (.int .i64) v0_10.1)] ?_
      refine AW.seq ?_
      refine zo ?_
      refine zS 2 [(1, .sl (.int .i64) w), (2, .bp 2 0), (6, .int .i64 v0_9.2), (8, .int .i64 v0_10.2), (74, .own 75000), (75, .own 81000)] [(2, .box 24 [.int .i64 l.1, .sl (.pair (.int .i64) (.int .i64)) l.2]), (75000, .arr 3 (.int .i64) v0_9.1), (81000, .arr 3 (.int .i64) v0_10.1)] ?_
      obtain ⟨v0_11, hv18, h⟩ := Option.bind_eq_some_iff.1 h
      refine zC [75000, 81000] [] (hc_linealref03_SameInts v0_9.1 v0_10.1 hv18) [(1, .sl (.int .i64) w), (2, .bp 2 0), (6, .int .i64 v0_9.2), (8, .int .i64 v0_10.2), (76, .bool v0_11)] [(2, .box 24 [.int .i64 l.1, .sl (.pair (.int .i64) (.int .i64)) l.2])] ?_
      refine zS 2 [(1, .sl (.int .i64) w), (2, .bp 2 0), (6, .int .i64 v0_9.2), (8, .int .i64 v0_10.2), (78, .bool (!v0_11))] [(2, .box 24 [.int .i64 l.1, .sl (.pair (.int .i64) (.int .i64)) l.2])] ?_
      rcases zI h with ⟨hb19, h⟩ | ⟨hb19, h⟩
      ·refine zB [(1, .sl (.int .i64) w), (2, .bp 2 0), (82, .bool true)] [(2, .box 24 [.int .i64 l.1, .sl (.pair (.int .i64) (.int .i64)) l.2])] ?_
       refine AW.cond (b := true) rfl (fun _ => ?_) (fun hb20 => by cases hb20)
       refine zo ?_
       refine zB [(4, .bool false)] [] ?_
       refine zr ?_
       obtain rfl := Option.some.inj h
       exact zR [] [] []
      ·refine zB [(1, .sl (.int .i64) w), (2, .bp 2 0), (82, .bool (!(decide (v0_9.2 = v0_10.2))))] [(2, .box 24 [.int .i64 l.1, .sl (.pair (.int .i64) (.int .i64)) l.2])] ?_
       refine zQ h (fun hb21 h => ?_) (fun hb21 h => ?_)
       ·refine zo ?_
        refine zB [(4, .bool false)] [] ?_
        refine zr ?_
        obtain rfl := Option.some.inj h
        exact zR [] [] []
       ·refine zk ?_
        refine zo ?_
        refine zS 2 [(1, .sl (.int .i64) w), (2, .bp 2 0), (84, .agg [.int .i64 l.1, .sl (.pair (.int .i64) (.int .i64)) l.2]), (85, .sl (.int .i64) w)] [(2, .box 24 [.int .i64 l.1, .sl (.pair (.int .i64) (.int .i64)) l.2])] ?_
        obtain ⟨v0_12, hv22, h⟩ := Option.bind_eq_some_iff.1 h
        refine zC [] [] (hc_weave_Turned l w hv22) [(1, .sl (.int .i64) w), (2, .bp 2 0), (86, .tup [.sl (.int .i64) v0_12.1, .int .i64 v0_12.2])] [(2, .box 24 [.int .i64 l.1, .sl (.pair (.int .i64) (.int .i64)) l.2])] ?_
        refine zB [(1, .sl (.int .i64) w), (2, .bp 2 0), (6, .int .i64 v0_12.2), (9, .sl (.int .i64) v0_12.1)] [(2, .box 24 [.int .i64 l.1, .sl (.pair (.int .i64) (.int .i64)) l.2])] ?_
        refine zo ?_
        refine zS 2 [(1, .sl (.int .i64) w), (2, .bp 2 0), (6, .int .i64 v0_12.2), (9, .sl (.int .i64) v0_12.1), (90, .agg [.int .i64 l.1, .sl (.pair (.int .i64) (.int .i64)) l.2]), (91, .sl (.int .i64) w)] [(2, .box 24 [.int .i64 l.1, .sl (.pair (.int .i64) (.int .i64)) l.2])] ?_
        obtain ⟨v0_13, hv23, h⟩ := Option.bind_eq_some_iff.1 h
        refine zC [] [] (hc_linealref03_Turned l w hv23) [(1, .sl (.int .i64) w), (2, .bp 2 0), (6, .int .i64 v0_12.2), (9, .sl (.int .i64) v0_12.1), (92, .tup [.own 102000, .int .i64 v0_13.2])] [(2, .box 24 [.int .i64 l.1, .sl (.pair (.int .i64) (.int .i64)) l.2]), (102000, .arr 3 (.int .i64) v0_13.1)] ?_
        refine zB [(1, .sl (.int .i64) w), (2, .bp 2 0), (6, .int .i64 v0_12.2), (8, .int .i64 v0_13.2), (9, .sl (.int .i64) v0_12.1), (10, .own 102000)] [(2, .box 24 [.int .i64 l.1, .sl (.pair (.int .i64) (.int .i64)) l.2]), (102000, .arr 3 (.int .i64) v0_13.1)] ?_
        refine zo ?_
        refine zS 2 [(1, .sl (.int .i64) w), (2, .bp 2 0), (6, .int .i64 v0_12.2), (8, .int .i64 v0_13.2), (9, .sl (.int .i64) v0_12.1), (10, .own 102000), (96, .agg [.int .i64 l.1, .sl (.pair (.int .i64) (.int .i64)) l.2]), (97, .sl (.int .i64) w)] [(2, .box 24 [.int .i64 l.1, .sl (.pair (.int .i64) (.int .i64)) l.2]), (102000, .arr 3 (.int .i64) v0_13.1)] ?_
        obtain ⟨v0_14, hv24, h⟩ := Option.bind_eq_some_iff.1 h
        refine zC [] [] (hc_weave_Size l w hv24) [(1, .sl (.int .i64) w), (2, .bp 2 0), (6, .int .i64 v0_12.2), (8, .int .i64 v0_13.2), (9, .sl (.int .i64) v0_12.1), (10, .own 102000), (98, .tup [.int .i64 v0_14.1, .int .i64 v0_14.2])] [(2, .box 24 [.int .i64 l.1, .sl (.pair (.int .i64) (.int .i64)) l.2]), (102000, .arr 3 (.int .i64) v0_13.1)] ?_
        refine zB [(1, .sl (.int .i64) w), (2, .bp 2 0), (6, .int .i64 v0_12.2), (8, .int .i64 v0_13.2), (9, .sl (.int .i64) v0_12.1), (10, .own 102000), (11, .int .i64 v0_14.1), (12, .int .i64 v0_14.2)] [(2, .box 24 [.int .i64 l.1, .sl (.pair (.int .i64) (.int .i64)) l.2]), (102000, .arr 3 (.int .i64) v0_13.1)] ?_
        refine zo ?_
        refine zS 2 [(6, .int .i64 v0_12.2), (8, .int .i64 v0_13.2), (9, .sl (.int .i64) v0_12.1), (10, .own 102000), (11, .int .i64 v0_14.1), (12, .int .i64 v0_14.2), (102, .agg [.int .i64 l.1, .sl (.pair (.int .i64) (.int .i64)) l.2]), (103, .sl (.int .i64) w)] [(102000, .arr 3 (.int .i64) v0_13.1)] ?_
        obtain ⟨v0_15, hv25, h⟩ := Option.bind_eq_some_iff.1 h
        refine zC [] [] (hc_linealref03_Size l w hv25) [(6, .int .i64 v0_12.2), (8, .int .i64 v0_13.2), (9, .sl (.int .i64) v0_12.1), (10, .own 102000), (11, .int .i64 v0_14.1), (12, .int .i64 v0_14.2), (104, .tup [.int .i64 v0_15.1, .int .i64 v0_15.2])] [(102000, .arr 3 (.int .i64) v0_13.1)] ?_
        refine zB [(6, .int .i64 v0_12.2), (8, .int .i64 v0_13.2), (9, .sl (.int .i64) v0_12.1), (10, .own 102000), (11, .int .i64 v0_14.1), (12, .int .i64 v0_14.2), (13, .int .i64 v0_15.1), (14, .int .i64 v0_15.2)] [(102000, .arr 3 (.int .i64) v0_13.1)] ?_
        refine zo ?_
        refine zS 2 [(6, .int .i64 v0_12.2), (8, .int .i64 v0_13.2), (11, .int .i64 v0_14.1), (12, .int .i64 v0_14.2), (13, .int .i64 v0_15.1), (14, .int .i64 v0_15.2), (107, .sl (.int .i64) v0_12.1), (108, .own 102000)] [(102000, .arr 3 (.int .i64) v0_13.1)] ?_
        obtain ⟨v0_16, hv26, h⟩ := Option.bind_eq_some_iff.1 h
        refine zC [102000] [] (hc_linealref03_SameInts v0_12.1 v0_13.1 hv26) [(6, .int .i64 v0_12.2), (8, .int .i64 v0_13.2), (11, .int .i64 v0_14.1), (12, .int .i64 v0_14.2), (13, .int .i64 v0_15.1), (14, .int .i64 v0_15.2), (109, .bool v0_16)] [] ?_
        refine zS 1 [(6, .int .i64 v0_12.2), (8, .int .i64 v0_13.2), (11, .int .i64 v0_14.1), (12, .int .i64 v0_14.2), (13, .int .i64 v0_15.1), (14, .int .i64 v0_15.2), (110, .bool v0_16)] [] ?_
        rcases zI h with ⟨hb27, h⟩ | ⟨hb27, h⟩
        ·refine zS 5 [(11, .int .i64 v0_14.1), (12, .int .i64 v0_14.2), (13, .int .i64 v0_15.1), (14, .int .i64 v0_15.2), (115, .bool (decide (v0_12.2 = v0_13.2)))] [] ?_
         rcases zI h with ⟨hb28, h⟩ | ⟨hb28, h⟩
         ·refine zS 5 [(12, .int .i64 v0_14.2), (14, .int .i64 v0_15.2), (120, .bool (decide (v0_14.1 = v0_15.1)))] [] ?_
          rcases zI h with ⟨hb29, h⟩ | ⟨hb29, h⟩
          ·refine zS 5 [(125, .bool (decide (v0_14.2 = v0_15.2)))] [] ?_
           rcases zI h with ⟨hb30, h⟩ | ⟨hb30, h⟩
           ·refine zT [(125, .bool true)] [] gt ?_
            obtain ⟨v0_17, hv31, h⟩ := Option.bind_eq_some_iff.1 h
            refine zG [] [] (hc_lineallaw03_Awake hv31) [(125, .bool true), (126, .bool v0_17)] [] ?_
            refine zB [(4, .bool v0_17)] [] ?_
            refine AW.ret ?_
            obtain rfl := Option.some.inj h
            exact zR [] [] []
           ·refine zB [(4, .bool false)] [] ?_
            refine AW.ret ?_
            obtain rfl := Option.some.inj h
            exact zR [] [] []
          ·refine zS 5 [(125, .bool false)] [] ?_
           refine zB [(4, .bool false)] [] ?_
           refine AW.ret ?_
           obtain rfl := Option.some.inj h
           exact zR [] [] []
         ·refine zS 5 [(12, .int .i64 v0_14.2), (14, .int .i64 v0_15.2), (120, .bool false)] [] ?_
          refine zS 5 [(125, .bool false)] [] ?_
          refine zB [(4, .bool false)] [] ?_
          refine AW.ret ?_
          obtain rfl := Option.some.inj h
          exact zR [] [] []
        ·refine zS 5 [(11, .int .i64 v0_14.1), (12, .int .i64 v0_14.2), (13, .int .i64 v0_15.1), (14, .int .i64 v0_15.2), (115, .bool false)] [] ?_
         refine zS 5 [(12, .int .i64 v0_14.2), (14, .int .i64 v0_15.2), (120, .bool false)] [] ?_
         refine zS 5 [(125, .bool false)] [] ?_
         refine zB [(4, .bool false)] [] ?_
         refine AW.ret ?_
         obtain rfl := Option.some.inj h
         exact zR [] [] []

end Go.Proofs.Ytabchabbdnhjpaa
