/-
  Made by wip/tool/dc.py out of the print of the program: contracts.
-/
import Derived.Test.YteclokkdgmacpaaGrp
import Derived.Test.YteclokkdgmacpaaSh7
import Derived.Test.YteclokkdgmacpaaAvd
import Derived.Test.YteclokkdgmacpaaGec6
import Derived.Test.YteclokkdgmacpaaGec7
import Derived.Test.YteclokkdgmacpaaGec8
import Derived.Test.YteclokkdgmacpaaGec9
namespace Go.Proofs.Yteclokkdgmacpaa
open Go.RowKit

set_option linter.unusedSimpArgs false
set_option linter.unusedVariables false
set_option linter.constructorNameAsVariable false

set_option maxRecDepth 100000
set_option maxHeartbeats 2000000

theorem hc_linealref07_Prove (g : Int × (List (Int × Int × Int × Bool))) (claim : Int) (thread : Int) (l : List Int) {r : Bool × Int} (h : linealref07_Prove g claim thread l = some r) : HC Try.prog 34 [] [.agg [.int .i64 g.1, .sl (.pair (.int .i64) (.pair (.int .i64) (.pair (.int .i64) .bool))) g.2], .int .i64 claim, .int .i64 thread, .sl (.int .i64) l] [] (.tup [.bool r.1, .int .i64 r.2]) := by
 unfold linealref07_Prove at h
 refine zH Try.func34 [.tmp 8, .tmp 9] 83 ?_
 refine zo ?_
 refine zB [(1, .int .i64 claim), (2, .int .i64 thread), (3, .sl (.int .i64) l), (4, .bp 4 0)] [(4, .box 24 [.int .i64 g.1, .sl (.pair (.int .i64) (.pair (.int .i64) (.pair (.int .i64) .bool))) g.2])] ?_
 refine AW.seq ?_
 refine zo ?_
 refine zS 3 [(1, .int .i64 claim), (2, .int .i64 thread), (3, .sl (.int .i64) l), (4, .bp 4 0), (18, .agg [.int .i64 g.1, .sl (.pair (.int .i64) (.pair (.int .i64) (.pair (.int .i64) .bool))) g.2]), (19, .int .i64 claim), (20, .int .i64 thread)] [(4, .box 24 [.int .i64 g.1, .sl (.pair (.int .i64) (.pair (.int .i64) (.pair (.int .i64) .bool))) g.2])] ?_
 obtain ⟨v0, hv1, h⟩ := Option.bind_eq_some_iff.1 h
 refine zC [] [] (hc_linealref07_asked g claim thread hv1) [(1, .int .i64 claim), (2, .int .i64 thread), (3, .sl (.int .i64) l), (4, .bp 4 0), (21, .int .i64 v0)] [(4, .box 24 [.int .i64 g.1, .sl (.pair (.int .i64) (.pair (.int .i64) (.pair (.int .i64) .bool))) g.2])] ?_
 refine zB [(1, .int .i64 claim), (2, .int .i64 thread), (3, .sl (.int .i64) l), (4, .bp 4 0), (10, .int .i64 v0)] [(4, .box 24 [.int .i64 g.1, .sl (.pair (.int .i64) (.pair (.int .i64) (.pair (.int .i64) .bool))) g.2])] ?_
 refine zo ?_
 refine zB [(1, .int .i64 claim), (2, .int .i64 thread), (3, .sl (.int .i64) l), (4, .bp 4 0), (10, .int .i64 v0), (23, .bool (!(decide (v0 = 0))))] [(4, .box 24 [.int .i64 g.1, .sl (.pair (.int .i64) (.pair (.int .i64) (.pair (.int .i64) .bool))) g.2])] ?_
 refine zQ h (fun hb2 h => ?_) (fun hb2 h => ?_)
 ·refine zo ?_
  refine zB [(8, .bool false), (9, .int .i64 v0)] [] ?_
  refine zr ?_
  obtain rfl := Option.some.inj h
  exact zR [] [] []
 ·refine zk ?_
  refine AW.seq ?_
  refine zo ?_
  refine zB [(1, .int .i64 claim), (2, .int .i64 thread), (3, .sl (.int .i64) l), (4, .bp 4 0), (29, .bool (!(decide ((l.length : Int) = g.1))))] [(4, .box 24 [.int .i64 g.1, .sl (.pair (.int .i64) (.pair (.int .i64) (.pair (.int .i64) .bool))) g.2])] ?_
  refine zQ h (fun hb3 h => ?_) (fun hb3 h => ?_)
  ·refine zo ?_
   refine zB [(8, .bool false), (9, .int .i64 2)] [] ?_
   refine zr ?_
   obtain rfl := Option.some.inj h
   exact zR [] [] []
  ·refine zk ?_
   refine AW.have1 (fun _ : Unit => linealref07_Prove_k1 g claim thread l = some r) (fun _ => ⟨fr [(1, .int .i64 claim), (2, .int .i64 thread), (3, .sl (.int .i64) l), (4, .bp 4 0)], hpGet [(4, .box 24 [.int .i64 g.1, .sl (.pair (.int .i64) (.pair (.int .i64) (.pair (.int .i64) .bool))) g.2])], gt⟩) (fun _ h => ?_) (fun hk_linealref07_Prove_k1 => ?_)
   ·as_aux_lemma =>
     unfold linealref07_Prove_k1 at h
     refine zo ?_
     refine zS 1 [(1, .int .i64 claim), (2, .int .i64 thread), (3, .sl (.int .i64) l), (4, .bp 4 0), (43, .agg [.int .i64 g.1, .sl (.pair (.int .i64) (.pair (.int .i64) (.pair (.int .i64) .bool))) g.2])] [(4, .box 24 [.int .i64 g.1, .sl (.pair (.int .i64) (.pair (.int .i64) (.pair (.int .i64) .bool))) g.2])] ?_
     obtain ⟨v0_2, hv4, h⟩ := Option.bind_eq_some_iff.1 h
     refine zC [] [] (hc_linealref07_reached g hv4) [(1, .int .i64 claim), (2, .int .i64 thread), (3, .sl (.int .i64) l), (4, .bp 4 0), (44, .own 54000)] [(4, .box 24 [.int .i64 g.1, .sl (.pair (.int .i64) (.pair (.int .i64) (.pair (.int .i64) .bool))) g.2]), (54000, .arr 4 .bool v0_2)] ?_
     refine zB [(1, .int .i64 claim), (2, .int .i64 thread), (3, .sl (.int .i64) l), (4, .bp 4 0), (13, .own 54000)] [(4, .box 24 [.int .i64 g.1, .sl (.pair (.int .i64) (.pair (.int .i64) (.pair (.int .i64) .bool))) g.2]), (54000, .arr 4 .bool v0_2)] ?_
     refine AW.have1 (fun _ : Unit => linealref07_Prove_k2 = some r) (fun _ => ⟨fr [], hpGet [], gt⟩) (fun _ h => ?_) (fun hk_linealref07_Prove_k2 => ?_)
     ·as_aux_lemma =>
       unfold linealref07_Prove_k2 at h
       refine zo ?_
       refine zB [(8, .bool true), (9, .int .i64 0)] [] ?_
       refine AW.ret ?_
       obtain rfl := Option.some.inj h
       exact zR [] [] []
     ·refine AW.seq ?_
      refine zo ?_
      refine zB [(1, .int .i64 claim), (2, .int .i64 thread), (3, .sl (.int .i64) l), (13, .own 54000), (46, .sl (.pair (.int .i64) (.pair (.int .i64) (.pair (.int .i64) .bool))) g.2), (47, .int .i64 (g.2.length : Int)), (48, .int .i64 0)] [(54000, .arr 4 .bool v0_2)] ?_
      refine AW.block ?_
      obtain ⟨rv9, hw5, ho6⟩ := Option.bind_eq_some_iff.1 h
      refine AW.loopO (linealref07_Prove_b2 g claim thread l v0_2) (fun st2 => ⟨fr [(1, .int .i64 claim), (2, .int .i64 thread), (3, .sl (.int .i64) l), (13, .own 54000), (46, .sl (.pair (.int .i64) (.pair (.int .i64) (.pair (.int .i64) .bool))) g.2), (47, .int .i64 (g.2.length : Int)), (48, .int .i64 st2)], hpGet [(54000, .arr 4 .bool v0_2)], gt⟩) 0 hw5 (zL [] [] []) ?_
      as_aux_lemma =>
       intro st2 x8 h hd7
       unfold linealref07_Prove_b2 at h
       refine zo ?_
       refine zB [(1, .int .i64 claim), (2, .int .i64 thread), (3, .sl (.int .i64) l), (13, .own 54000), (46, .sl (.pair (.int .i64) (.pair (.int .i64) (.pair (.int .i64) .bool))) g.2), (47, .int .i64 (g.2.length : Int)), (48, .int .i64 st2), (49, .bool (decide (st2 < (g.2.length : Int))))] [(54000, .arr 4 .bool v0_2)] ?_
       refine AW.seq ?_
       refine zQ h (fun hb10 h => ?_) (fun hb10 h => ?_)
       ·refine zk ?_
        refine AW.seq ?_
        refine AW.block ?_
        refine zo ?_
        obtain ⟨c11, h⟩ := ck_some.1 h
        obtain ⟨c12, h⟩ := ck_some.1 h
        refine zB [(1, .int .i64 claim), (2, .int .i64 thread), (3, .sl (.int .i64) l), (13, .own 54000), (15, .bp 15 0), (46, .sl (.pair (.int .i64) (.pair (.int .i64) (.pair (.int .i64) .bool))) g.2), (47, .int .i64 (g.2.length : Int)), (48, .int .i64 st2)] [(15, .box 61 [.int .i64 (g.2.getD st2.toNat (0, 0, 0, false)).1, .int .i64 (g.2.getD st2.toNat (0, 0, 0, false)).2.1, .int .i64 (g.2.getD st2.toNat (0, 0, 0, false)).2.2.1, .bool (g.2.getD st2.toNat (0, 0, 0, false)).2.2.2]), (54000, .arr 4 .bool v0_2)] ?_
        refine zo ?_
        refine zS 3 [(1, .int .i64 claim), (2, .int .i64 thread), (3, .sl (.int .i64) l), (13, .own 54000), (15, .bp 15 0), (46, .sl (.pair (.int .i64) (.pair (.int .i64) (.pair (.int .i64) .bool))) g.2), (47, .int .i64 (g.2.length : Int)), (48, .int .i64 st2), (53, .agg [.int .i64 (g.2.getD st2.toNat (0, 0, 0, false)).1, .int .i64 (g.2.getD st2.toNat (0, 0, 0, false)).2.1, .int .i64 (g.2.getD st2.toNat (0, 0, 0, false)).2.2.1, .bool (g.2.getD st2.toNat (0, 0, 0, false)).2.2.2]), (54, .int .i64 claim), (55, .int .i64 thread)] [(15, .box 61 [.int .i64 (g.2.getD st2.toNat (0, 0, 0, false)).1, .int .i64 (g.2.getD st2.toNat (0, 0, 0, false)).2.1, .int .i64 (g.2.getD st2.toNat (0, 0, 0, false)).2.2.1, .bool (g.2.getD st2.toNat (0, 0, 0, false)).2.2.2]), (54000, .arr 4 .bool v0_2)] ?_
        obtain ⟨v0_3, hv13, h⟩ := Option.bind_eq_some_iff.1 h
        refine zC [] [] (hc_linealref07_falls (g.2.getD st2.toNat (0, 0, 0, false)) claim thread hv13) [(1, .int .i64 claim), (2, .int .i64 thread), (3, .sl (.int .i64) l), (13, .own 54000), (15, .bp 15 0), (46, .sl (.pair (.int .i64) (.pair (.int .i64) (.pair (.int .i64) .bool))) g.2), (47, .int .i64 (g.2.length : Int)), (48, .int .i64 st2), (56, .tup [.int .i64 v0_3.1, .bool v0_3.2])] [(15, .box 61 [.int .i64 (g.2.getD st2.toNat (0, 0, 0, false)).1, .int .i64 (g.2.getD st2.toNat (0, 0, 0, false)).2.1, .int .i64 (g.2.getD st2.toNat (0, 0, 0, false)).2.2.1, .bool (g.2.getD st2.toNat (0, 0, 0, false)).2.2.2]), (54000, .arr 4 .bool v0_2)] ?_
        refine zB [(1, .int .i64 claim), (2, .int .i64 thread), (3, .sl (.int .i64) l), (13, .own 54000), (15, .bp 15 0), (16, .int .i64 v0_3.1), (17, .bool v0_3.2), (46, .sl (.pair (.int .i64) (.pair (.int .i64) (.pair (.int .i64) .bool))) g.2), (47, .int .i64 (g.2.length : Int)), (48, .int .i64 st2)] [(15, .box 61 [.int .i64 (g.2.getD st2.toNat (0, 0, 0, false)).1, .int .i64 (g.2.getD st2.toNat (0, 0, 0, false)).2.1, .int .i64 (g.2.getD st2.toNat (0, 0, 0, false)).2.2.1, .bool (g.2.getD st2.toNat (0, 0, 0, false)).2.2.2]), (54000, .arr 4 .bool v0_2)] ?_
        refine AW.seq ?_
        refine AW.draw tab_ok mixed_ok [] [] (by decide) (lex_fast (by kernel_rfl)) ?_
        as_aux_lemma =>
         refine adops_cut 2 (fun K' hK14 => ?_)
         try dsimp only [List.drop_succ_cons, List.drop_zero, List.take_succ_cons, List.take_zero]
         simp only [go_sem, hb2, hb3, hb10]
         repeat with_reducible refine zN ?_
         refine hK14 _ ?_
         as_aux_lemma =>
          rcases zI h with ⟨hb15, h⟩ | ⟨hb15, h⟩
          ·simp only [hb15]
           as_aux_lemma =>
            obtain ⟨c17, h⟩ := ck_some.1 h
            obtain ⟨c18, h⟩ := ck_some.1 h
            refine adops_cut 6 (fun K' hK16 => ?_)
            try dsimp only [List.drop_succ_cons, List.drop_zero, List.take_succ_cons, List.take_zero]
            simp only [go_sem, hb2, hb3, hb10, hb15]
            repeat with_reducible refine zN ?_
            refine hK16 _ ?_
            as_aux_lemma =>
             refine adops_cut 1 (fun K' hK19 => ?_)
             try dsimp only [List.drop_succ_cons, List.drop_zero, List.take_succ_cons, List.take_zero]
             simp only [go_sem, hb2, hb3, hb10, hb15]
             repeat with_reducible refine zN ?_
             refine hK19 _ ?_
             as_aux_lemma =>
              rcases zI h with ⟨hb20, h⟩ | ⟨hb20, h⟩
              ·simp only [hb20]
               as_aux_lemma =>
                obtain ⟨c22, h⟩ := ck_some.1 h
                obtain ⟨c23, h⟩ := ck_some.1 h
                refine adops_cut 6 (fun K' hK21 => ?_)
                try dsimp only [List.drop_succ_cons, List.drop_zero, List.take_succ_cons, List.take_zero]
                simp only [go_sem, hb2, hb3, hb10, hb15, hb20]
                repeat with_reducible refine zN ?_
                refine hK21 _ ?_
                as_aux_lemma =>
                 obtain ⟨c25, h⟩ := ck_some.1 h
                 obtain ⟨c26, h⟩ := ck_some.1 h
                 obtain ⟨c27, h⟩ := ck_some.1 h
                 refine adops_cut 6 (fun K' hK24 => ?_)
                 try dsimp only [List.drop_succ_cons, List.drop_zero, List.take_succ_cons, List.take_zero]
                 simp only [go_sem, hb2, hb3, hb10, hb15, hb20]
                 repeat with_reducible refine zN ?_
                 refine hK24 _ ?_
                 as_aux_lemma =>
                  refine adops_cut 2 (fun K' hK28 => ?_)
                  try dsimp only [List.drop_succ_cons, List.drop_zero, List.take_succ_cons, List.take_zero]
                  simp only [go_sem, hb2, hb3, hb10, hb15, hb20]
                  repeat with_reducible refine zN ?_
                  refine hK28 _ ?_
                  refine adops_nil ?_
                  refine athen_n ?_
                  refine zV [(1, .int .i64 claim), (2, .int .i64 thread), (3, .sl (.int .i64) l), (13, .own 54000), (46, .sl (.pair (.int .i64) (.pair (.int .i64) (.pair (.int .i64) .bool))) g.2), (47, .int .i64 (g.2.length : Int)), (48, .int .i64 st2), (81, .bool (decide ((l.getD (g.2.getD st2.toNat (0, 0, 0, false)).1.toNat 0) < ((l.getD (g.2.getD st2.toNat (0, 0, 0, false)).2.2.1.toNat 0) + v0_3.1))))] [(54000, .arr 4 .bool v0_2)] gt ?_
                  as_aux_lemma =>
                   refine zQ h (fun hb29 h => ?_) (fun hb29 h => ?_)
                   ·refine zo ?_
                    refine zB [(8, .bool false), (9, .int .i64 0)] [] ?_
                    refine AW.ret ?_
                    refine ablock_r ?_
                    refine athen_r ?_
                    obtain rfl := Option.some.inj h
                    rw [← hd7 _ rfl] at ho6
                    have h := ho6
                    try simp only at h
                    refine athen_r ?_
                    refine ablock_r ?_
                    refine athen_r ?_
                    obtain rfl := Option.some.inj h
                    exact zR [] [] []
                   ·refine zm ?_
                    refine athen_n ?_
                    refine AW.ops ?_
                    obtain ⟨c30, h⟩ := ck_some.1 h
                    refine zA [(1, .int .i64 claim), (2, .int .i64 thread), (3, .sl (.int .i64) l), (13, .own 54000), (46, .sl (.pair (.int .i64) (.pair (.int .i64) (.pair (.int .i64) .bool))) g.2), (47, .int .i64 (g.2.length : Int)), (48, .int .i64 (st2 + 1))] [(54000, .arr 4 .bool v0_2)] ?_
                    obtain rfl := Option.some.inj h
                    exact ⟨_, rfl, zL [] [] []⟩
              ·simp only [hb20]
               as_aux_lemma =>
                refine adops_cut 4 (fun K' hK31 => ?_)
                try dsimp only [List.drop_succ_cons, List.drop_zero, List.take_succ_cons, List.take_zero]
                simp only [go_sem, hb2, hb3, hb10, hb15, hb20]
                repeat with_reducible refine zN ?_
                refine hK31 _ ?_
                as_aux_lemma =>
                 refine adops_cut 4 (fun K' hK32 => ?_)
                 try dsimp only [List.drop_succ_cons, List.drop_zero, List.take_succ_cons, List.take_zero]
                 simp only [go_sem, hb2, hb3, hb10, hb15, hb20]
                 repeat with_reducible refine zN ?_
                 refine hK32 _ ?_
                 as_aux_lemma =>
                  refine adops_cut 4 (fun K' hK33 => ?_)
                  try dsimp only [List.drop_succ_cons, List.drop_zero, List.take_succ_cons, List.take_zero]
                  simp only [go_sem, hb2, hb3, hb10, hb15, hb20]
                  repeat with_reducible refine zN ?_
                  refine hK33 _ ?_
                  as_aux_lemma =>
                   refine adops_cut 2 (fun K' hK34 => ?_)
                   try dsimp only [List.drop_succ_cons, List.drop_zero, List.take_succ_cons, List.take_zero]
                   simp only [go_sem, hb2, hb3, hb10, hb15, hb20]
                   repeat with_reducible refine zN ?_
                   refine hK34 _ ?_
                   refine adops_nil ?_
                   refine athen_n ?_
                   refine zV [(1, .int .i64 claim), (2, .int .i64 thread), (3, .sl (.int .i64) l), (13, .own 54000), (46, .sl (.pair (.int .i64) (.pair (.int .i64) (.pair (.int .i64) .bool))) g.2), (47, .int .i64 (g.2.length : Int)), (48, .int .i64 st2), (81, .bool false)] [(54000, .arr 4 .bool v0_2)] gt ?_
                   as_aux_lemma =>
                    refine AW.cond (b := false) rfl (fun hb35 => by cases hb35) (fun _ => ?_)
                    refine zm ?_
                    refine athen_n ?_
                    refine AW.ops ?_
                    obtain ⟨c36, h⟩ := ck_some.1 h
                    refine zA [(1, .int .i64 claim), (2, .int .i64 thread), (3, .sl (.int .i64) l), (13, .own 54000), (46, .sl (.pair (.int .i64) (.pair (.int .i64) (.pair (.int .i64) .bool))) g.2), (47, .int .i64 (g.2.length : Int)), (48, .int .i64 (st2 + 1))] [(54000, .arr 4 .bool v0_2)] ?_
                    obtain rfl := Option.some.inj h
                    exact ⟨_, rfl, zL [] [] []⟩
          ·simp only [hb15]
           as_aux_lemma =>
            refine adops_cut 4 (fun K' hK37 => ?_)
            try dsimp only [List.drop_succ_cons, List.drop_zero, List.take_succ_cons, List.take_zero]
            simp only [go_sem, hb2, hb3, hb10, hb15]
            repeat with_reducible refine zN ?_
            refine hK37 _ ?_
            as_aux_lemma =>
             refine adops_cut 6 (fun K' hK38 => ?_)
             try dsimp only [List.drop_succ_cons, List.drop_zero, List.take_succ_cons, List.take_zero]
             simp only [go_sem, hb2, hb3, hb10, hb15]
             repeat with_reducible refine zN ?_
             refine hK38 _ ?_
             as_aux_lemma =>
              refine adops_cut 4 (fun K' hK39 => ?_)
              try dsimp only [List.drop_succ_cons, List.drop_zero, List.take_succ_cons, List.take_zero]
              simp only [go_sem, hb2, hb3, hb10, hb15]
              repeat with_reducible refine zN ?_
              refine hK39 _ ?_
              as_aux_lemma =>
               refine adops_cut 4 (fun K' hK40 => ?_)
               try dsimp only [List.drop_succ_cons, List.drop_zero, List.take_succ_cons, List.take_zero]
               simp only [go_sem, hb2, hb3, hb10, hb15]
               repeat with_reducible refine zN ?_
               refine hK40 _ ?_
               as_aux_lemma =>
                refine adops_cut 3 (fun K' hK41 => ?_)
                try dsimp only [List.drop_succ_cons, List.drop_zero, List.take_succ_cons, List.take_zero]
                simp only [go_sem, hb2, hb3, hb10, hb15]
                repeat with_reducible refine zN ?_
                refine hK41 _ ?_
                refine adops_nil ?_
                refine athen_n ?_
                refine zV [(1, .int .i64 claim), (2, .int .i64 thread), (3, .sl (.int .i64) l), (13, .own 54000), (46, .sl (.pair (.int .i64) (.pair (.int .i64) (.pair (.int .i64) .bool))) g.2), (47, .int .i64 (g.2.length : Int)), (48, .int .i64 st2), (81, .bool false)] [(54000, .arr 4 .bool v0_2)] gt ?_
                as_aux_lemma =>
                 refine AW.cond (b := false) rfl (fun hb42 => by cases hb42) (fun _ => ?_)
                 refine zm ?_
                 refine athen_n ?_
                 refine AW.ops ?_
                 obtain ⟨c43, h⟩ := ck_some.1 h
                 refine zA [(1, .int .i64 claim), (2, .int .i64 thread), (3, .sl (.int .i64) l), (13, .own 54000), (46, .sl (.pair (.int .i64) (.pair (.int .i64) (.pair (.int .i64) .bool))) g.2), (47, .int .i64 (g.2.length : Int)), (48, .int .i64 (st2 + 1))] [(54000, .arr 4 .bool v0_2)] ?_
                 obtain rfl := Option.some.inj h
                 exact ⟨_, rfl, zL [] [] []⟩
       ·refine AW.exit ?_
        refine athen_e ?_
        obtain rfl := Option.some.inj h
        rw [← hd7 _ rfl] at ho6
        have h := ho6
        try simp only at h
        refine athen_e ?_
        refine ablock_s ?_
        refine athen_n ?_
        exact AW.weaken (zL [] [] []) (hk_linealref07_Prove_k2 () h)
   ·refine AW.seq ?_
    refine zo ?_
    refine zB [(1, .int .i64 claim), (2, .int .i64 thread), (3, .sl (.int .i64) l), (4, .bp 4 0), (30, .sl (.int .i64) l), (31, .int .i64 (l.length : Int)), (32, .int .i64 0)] [(4, .box 24 [.int .i64 g.1, .sl (.pair (.int .i64) (.pair (.int .i64) (.pair (.int .i64) .bool))) g.2])] ?_
    refine AW.block ?_
    obtain ⟨rv48, hw44, ho45⟩ := Option.bind_eq_some_iff.1 h
    refine AW.loopO (linealref07_Prove_b1 l) (fun st1 => ⟨fr [(1, .int .i64 claim), (2, .int .i64 thread), (3, .sl (.int .i64) l), (4, .bp 4 0), (30, .sl (.int .i64) l), (31, .int .i64 (l.length : Int)), (32, .int .i64 st1)], hpGet [(4, .box 24 [.int .i64 g.1, .sl (.pair (.int .i64) (.pair (.int .i64) (.pair (.int .i64) .bool))) g.2])], gt⟩) 0 hw44 (zL [] [] []) ?_
    as_aux_lemma =>
     intro st1 x47 h hd46
     unfold linealref07_Prove_b1 at h
     refine zo ?_
     refine zB [(1, .int .i64 claim), (2, .int .i64 thread), (3, .sl (.int .i64) l), (4, .bp 4 0), (30, .sl (.int .i64) l), (31, .int .i64 (l.length : Int)), (32, .int .i64 st1), (33, .bool (decide (st1 < (l.length : Int))))] [(4, .box 24 [.int .i64 g.1, .sl (.pair (.int .i64) (.pair (.int .i64) (.pair (.int .i64) .bool))) g.2])] ?_
     refine AW.seq ?_
     refine zQ h (fun hb49 h => ?_) (fun hb49 h => ?_)
     ·refine zk ?_
      refine AW.seq ?_
      refine AW.block ?_
      refine zo ?_
      obtain ⟨c50, h⟩ := ck_some.1 h
      obtain ⟨c51, h⟩ := ck_some.1 h
      refine zB [(1, .int .i64 claim), (2, .int .i64 thread), (3, .sl (.int .i64) l), (4, .bp 4 0), (12, .int .i64 (l.getD st1.toNat 0)), (30, .sl (.int .i64) l), (31, .int .i64 (l.length : Int)), (32, .int .i64 st1)] [(4, .box 24 [.int .i64 g.1, .sl (.pair (.int .i64) (.pair (.int .i64) (.pair (.int .i64) .bool))) g.2])] ?_
      refine zo ?_
      refine zS 3 [(1, .int .i64 claim), (2, .int .i64 thread), (3, .sl (.int .i64) l), (4, .bp 4 0), (12, .int .i64 (l.getD st1.toNat 0)), (30, .sl (.int .i64) l), (31, .int .i64 (l.length : Int)), (32, .int .i64 st1), (38, .bool (decide ((l.getD st1.toNat 0) < 0)))] [(4, .box 24 [.int .i64 g.1, .sl (.pair (.int .i64) (.pair (.int .i64) (.pair (.int .i64) .bool))) g.2])] ?_
      rcases zI h with ⟨hb52, h⟩ | ⟨hb52, h⟩
      ·refine zB [(1, .int .i64 claim), (2, .int .i64 thread), (3, .sl (.int .i64) l), (4, .bp 4 0), (30, .sl (.int .i64) l), (31, .int .i64 (l.length : Int)), (32, .int .i64 st1), (41, .bool true)] [(4, .box 24 [.int .i64 g.1, .sl (.pair (.int .i64) (.pair (.int .i64) (.pair (.int .i64) .bool))) g.2])] ?_
       refine AW.cond (b := true) rfl (fun _ => ?_) (fun hb53 => by cases hb53)
       refine zo ?_
       refine zB [(8, .bool false), (9, .int .i64 2)] [] ?_
       refine AW.ret ?_
       refine ablock_r ?_
       refine athen_r ?_
       obtain rfl := Option.some.inj h
       rw [← hd46 _ rfl] at ho45
       have h := ho45
       try simp only at h
       refine athen_r ?_
       refine ablock_r ?_
       refine athen_r ?_
       obtain rfl := Option.some.inj h
       exact zR [] [] []
      ·refine zB [(1, .int .i64 claim), (2, .int .i64 thread), (3, .sl (.int .i64) l), (4, .bp 4 0), (30, .sl (.int .i64) l), (31, .int .i64 (l.length : Int)), (32, .int .i64 st1), (41, .bool (decide (100 < (l.getD st1.toNat 0))))] [(4, .box 24 [.int .i64 g.1, .sl (.pair (.int .i64) (.pair (.int .i64) (.pair (.int .i64) .bool))) g.2])] ?_
       refine zQ h (fun hb54 h => ?_) (fun hb54 h => ?_)
       ·refine zo ?_
        refine zB [(8, .bool false), (9, .int .i64 2)] [] ?_
        refine AW.ret ?_
        refine ablock_r ?_
        refine athen_r ?_
        obtain rfl := Option.some.inj h
        rw [← hd46 _ rfl] at ho45
        have h := ho45
        try simp only at h
        refine athen_r ?_
        refine ablock_r ?_
        refine athen_r ?_
        obtain rfl := Option.some.inj h
        exact zR [] [] []
       ·refine zm ?_
        refine athen_n ?_
        refine AW.ops ?_
        obtain ⟨c55, h⟩ := ck_some.1 h
        refine zA [(1, .int .i64 claim), (2, .int .i64 thread), (3, .sl (.int .i64) l), (4, .bp 4 0), (30, .sl (.int .i64) l), (31, .int .i64 (l.length : Int)), (32, .int .i64 (st1 + 1))] [(4, .box 24 [.int .i64 g.1, .sl (.pair (.int .i64) (.pair (.int .i64) (.pair (.int .i64) .bool))) g.2])] ?_
        obtain rfl := Option.some.inj h
        exact ⟨_, rfl, zL [] [] []⟩
     ·refine AW.exit ?_
      refine athen_e ?_
      obtain rfl := Option.some.inj h
      rw [← hd46 _ rfl] at ho45
      have h := ho45
      try simp only at h
      refine athen_e ?_
      refine ablock_s ?_
      refine athen_n ?_
      exact AW.weaken (zL [] [] []) (hk_linealref07_Prove_k1 () h)

theorem hc_lineallaw07_ProgressRanks (g : Int × (List (Int × Int × Int × Bool))) (claim : Int) (thread : Int) (ranks : List Int) {r : Bool} (h : lineallaw07_ProgressRanks g claim thread ranks = some r) : HC Try.prog 4 [] [.agg [.int .i64 g.1, .sl (.pair (.int .i64) (.pair (.int .i64) (.pair (.int .i64) .bool))) g.2], .int .i64 claim, .int .i64 thread, .sl (.int .i64) ranks] [] (.bool r) := by
 unfold lineallaw07_ProgressRanks at h
 refine zH Try.func4 [.tmp 8] 98 ?_
 refine zo ?_
 refine zB [(1, .int .i64 claim), (2, .int .i64 thread), (3, .sl (.int .i64) ranks), (4, .bp 4 0)] [(4, .box 24 [.int .i64 g.1, .sl (.pair (.int .i64) (.pair (.int .i64) (.pair (.int .i64) .bool))) g.2])] ?_
 refine AW.seq ?_
 refine zo ?_
 refine zS 1 [(1, .int .i64 claim), (2, .int .i64 thread), (3, .sl (.int .i64) ranks), (4, .bp 4 0), (17, .agg [.int .i64 g.1, .sl (.pair (.int .i64) (.pair (.int .i64) (.pair (.int .i64) .bool))) g.2])] [(4, .box 24 [.int .i64 g.1, .sl (.pair (.int .i64) (.pair (.int .i64) (.pair (.int .i64) .bool))) g.2])] ?_
 obtain ⟨v0, hv1, h⟩ := Option.bind_eq_some_iff.1 h
 refine zC [] [] (hc_lineallaw07_Long g hv1) [(1, .int .i64 claim), (2, .int .i64 thread), (3, .sl (.int .i64) ranks), (4, .bp 4 0), (18, .bool (decide (100 < (g.2.length : Int))))] [(4, .box 24 [.int .i64 g.1, .sl (.pair (.int .i64) (.pair (.int .i64) (.pair (.int .i64) .bool))) g.2])] ?_
 refine zS 1 [(1, .int .i64 claim), (2, .int .i64 thread), (3, .sl (.int .i64) ranks), (4, .bp 4 0), (19, .bool (decide (100 < (g.2.length : Int))))] [(4, .box 24 [.int .i64 g.1, .sl (.pair (.int .i64) (.pair (.int .i64) (.pair (.int .i64) .bool))) g.2])] ?_
 rcases zI h with ⟨hb2, h⟩ | ⟨hb2, h⟩
 ·refine zB [(1, .int .i64 claim), (2, .int .i64 thread), (3, .sl (.int .i64) ranks), (4, .bp 4 0), (22, .bool true)] [(4, .box 24 [.int .i64 g.1, .sl (.pair (.int .i64) (.pair (.int .i64) (.pair (.int .i64) .bool))) g.2])] ?_
  refine AW.cond (b := true) rfl (fun _ => ?_) (fun hb3 => by cases hb3)
  refine zo ?_
  obtain ⟨v0_2, hv4, h⟩ := Option.bind_eq_some_iff.1 h
  refine zC [] [] (hc_lineallaw07_Awake hv4) [(23, .bool v0_2)] [] ?_
  refine zB [(8, .bool v0_2)] [] ?_
  refine zr ?_
  obtain rfl := Option.some.inj h
  exact zR [] [] []
 ·refine zS 1 [(1, .int .i64 claim), (2, .int .i64 thread), (3, .sl (.int .i64) ranks), (4, .bp 4 0), (19, .bool false), (20, .sl (.int .i64) ranks)] [(4, .box 24 [.int .i64 g.1, .sl (.pair (.int .i64) (.pair (.int .i64) (.pair (.int .i64) .bool))) g.2])] ?_
  obtain ⟨v0_3, hv5, h⟩ := Option.bind_eq_some_iff.1 h
  refine zG [] [] (hc_lineallaw07_many ranks hv5) [(1, .int .i64 claim), (2, .int .i64 thread), (3, .sl (.int .i64) ranks), (4, .bp 4 0), (19, .bool false), (21, .bool (decide (1100 < (ranks.length : Int))))] [(4, .box 24 [.int .i64 g.1, .sl (.pair (.int .i64) (.pair (.int .i64) (.pair (.int .i64) .bool))) g.2])] ?_
  refine zB [(1, .int .i64 claim), (2, .int .i64 thread), (3, .sl (.int .i64) ranks), (4, .bp 4 0), (22, .bool (decide (1100 < (ranks.length : Int))))] [(4, .box 24 [.int .i64 g.1, .sl (.pair (.int .i64) (.pair (.int .i64) (.pair (.int .i64) .bool))) g.2])] ?_
  refine zQ h (fun hb6 h => ?_) (fun hb6 h => ?_)
  ·refine zo ?_
   obtain ⟨v0_4, hv7, h⟩ := Option.bind_eq_some_iff.1 h
   refine zC [] [] (hc_lineallaw07_Awake hv7) [(23, .bool v0_4)] [] ?_
   refine zB [(8, .bool v0_4)] [] ?_
   refine zr ?_
   obtain rfl := Option.some.inj h
   exact zR [] [] []
  ·refine zk ?_
   refine zo ?_
   refine zS 3 [(1, .int .i64 claim), (2, .int .i64 thread), (3, .sl (.int .i64) ranks), (4, .bp 4 0), (25, .agg [.int .i64 g.1, .sl (.pair (.int .i64) (.pair (.int .i64) (.pair (.int .i64) .bool))) g.2]), (26, .int .i64 claim), (27, .int .i64 thread)] [(4, .box 24 [.int .i64 g.1, .sl (.pair (.int .i64) (.pair (.int .i64) (.pair (.int .i64) .bool))) g.2])] ?_
   obtain ⟨v0_5, hv8, h⟩ := Option.bind_eq_some_iff.1 h
   refine zC [] [] (hc_progress_Holds g claim thread hv8) [(1, .int .i64 claim), (2, .int .i64 thread), (3, .sl (.int .i64) ranks), (4, .bp 4 0), (28, .tup [.bool v0_5.1, .int .i64 v0_5.2])] [(4, .box 24 [.int .i64 g.1, .sl (.pair (.int .i64) (.pair (.int .i64) (.pair (.int .i64) .bool))) g.2])] ?_
   refine zB [(1, .int .i64 claim), (2, .int .i64 thread), (3, .sl (.int .i64) ranks), (4, .bp 4 0), (9, .bool v0_5.1), (10, .int .i64 v0_5.2)] [(4, .box 24 [.int .i64 g.1, .sl (.pair (.int .i64) (.pair (.int .i64) (.pair (.int .i64) .bool))) g.2])] ?_
   refine zo ?_
   refine zS 3 [(1, .int .i64 claim), (2, .int .i64 thread), (3, .sl (.int .i64) ranks), (4, .bp 4 0), (9, .bool v0_5.1), (10, .int .i64 v0_5.2), (32, .agg [.int .i64 g.1, .sl (.pair (.int .i64) (.pair (.int .i64) (.pair (.int .i64) .bool))) g.2]), (33, .int .i64 claim), (34, .int .i64 thread)] [(4, .box 24 [.int .i64 g.1, .sl (.pair (.int .i64) (.pair (.int .i64) (.pair (.int .i64) .bool))) g.2])] ?_
   obtain ⟨v0_6, hv9, h⟩ := Option.bind_eq_some_iff.1 h
   refine zC [] [] (hc_linealref07_Holds g claim thread hv9) [(1, .int .i64 claim), (2, .int .i64 thread), (3, .sl (.int .i64) ranks), (4, .bp 4 0), (9, .bool v0_5.1), (10, .int .i64 v0_5.2), (35, .tup [.bool v0_6.1, .int .i64 v0_6.2])] [(4, .box 24 [.int .i64 g.1, .sl (.pair (.int .i64) (.pair (.int .i64) (.pair (.int .i64) .bool))) g.2])] ?_
   refine zB [(1, .int .i64 claim), (2, .int .i64 thread), (3, .sl (.int .i64) ranks), (4, .bp 4 0), (9, .bool v0_5.1), (10, .int .i64 v0_5.2), (11, .bool v0_6.1), (12, .int .i64 v0_6.2)] [(4, .box 24 [.int .i64 g.1, .sl (.pair (.int .i64) (.pair (.int .i64) (.pair (.int .i64) .bool))) g.2])] ?_
   refine zo ?_
   refine zS 3 [(1, .int .i64 claim), (2, .int .i64 thread), (3, .sl (.int .i64) ranks), (4, .bp 4 0), (9, .bool v0_5.1), (10, .int .i64 v0_5.2), (11, .bool v0_6.1), (12, .int .i64 v0_6.2), (39, .agg [.int .i64 g.1, .sl (.pair (.int .i64) (.pair (.int .i64) (.pair (.int .i64) .bool))) g.2]), (40, .int .i64 claim), (41, .int .i64 thread)] [(4, .box 24 [.int .i64 g.1, .sl (.pair (.int .i64) (.pair (.int .i64) (.pair (.int .i64) .bool))) g.2])] ?_
   obtain ⟨v0_7, hv10, h⟩ := Option.bind_eq_some_iff.1 h
   refine zC [] [] (hc_progress_Ranks g claim thread hv10) [(1, .int .i64 claim), (2, .int .i64 thread), (3, .sl (.int .i64) ranks), (4, .bp 4 0), (9, .bool v0_5.1), (10, .int .i64 v0_5.2), (11, .bool v0_6.1), (12, .int .i64 v0_6.2), (42, .tup [.own 52000, .int .i64 v0_7.2])] [(4, .box 24 [.int .i64 g.1, .sl (.pair (.int .i64) (.pair (.int .i64) (.pair (.int .i64) .bool))) g.2]), (52000, .arr 3 (.int .i64) v0_7.1)] ?_
   refine zB [(1, .int .i64 claim), (2, .int .i64 thread), (3, .sl (.int .i64) ranks), (4, .bp 4 0), (9, .bool v0_5.1), (10, .int .i64 v0_5.2), (11, .bool v0_6.1), (12, .int .i64 v0_6.2), (13, .own 52000), (14, .int .i64 v0_7.2)] [(4, .box 24 [.int .i64 g.1, .sl (.pair (.int .i64) (.pair (.int .i64) (.pair (.int .i64) .bool))) g.2]), (52000, .arr 3 (.int .i64) v0_7.1)] ?_
   refine zo ?_
   refine zS 3 [(1, .int .i64 claim), (2, .int .i64 thread), (3, .sl (.int .i64) ranks), (4, .bp 4 0), (9, .bool v0_5.1), (10, .int .i64 v0_5.2), (11, .bool v0_6.1), (12, .int .i64 v0_6.2), (13, .own 52000), (14, .int .i64 v0_7.2), (46, .agg [.int .i64 g.1, .sl (.pair (.int .i64) (.pair (.int .i64) (.pair (.int .i64) .bool))) g.2]), (47, .int .i64 claim), (48, .int .i64 thread)] [(4, .box 24 [.int .i64 g.1, .sl (.pair (.int .i64) (.pair (.int .i64) (.pair (.int .i64) .bool))) g.2]), (52000, .arr 3 (.int .i64) v0_7.1)] ?_
   obtain ⟨v0_8, hv11, h⟩ := Option.bind_eq_some_iff.1 h
   refine zC [] [] (hc_linealref07_Ranks g claim thread hv11) [(1, .int .i64 claim), (2, .int .i64 thread), (3, .sl (.int .i64) ranks), (4, .bp 4 0), (9, .bool v0_5.1), (10, .int .i64 v0_5.2), (11, .bool v0_6.1), (12, .int .i64 v0_6.2), (13, .own 52000), (14, .int .i64 v0_7.2), (49, .tup [.own 59000, .int .i64 v0_8.2])] [(4, .box 24 [.int .i64 g.1, .sl (.pair (.int .i64) (.pair (.int .i64) (.pair (.int .i64) .bool))) g.2]), (52000, .arr 3 (.int .i64) v0_7.1), (59000, .arr 3 (.int .i64) v0_8.1)] ?_
   refine zB [(1, .int .i64 claim), (2, .int .i64 thread), (3, .sl (.int .i64) ranks), (4, .bp 4 0), (9, .bool v0_5.1), (10, .int .i64 v0_5.2), (11, .bool v0_6.1), (12, .int .i64 v0_6.2), (13, .own 52000), (14, .int .i64 v0_7.2), (15, .own 59000), (16, .int .i64 v0_8.2)] [(4, .box 24 [.int .i64 g.1, .sl (.pair (.int .i64) (.pair (.int .i64) (.pair (.int .i64) .bool))) g.2]), (52000, .arr 3 (.int .i64) v0_7.1), (59000, .arr 3 (.int .i64) v0_8.1)] ?_
   refine AW.seq ?_
   refine zo ?_
   refine zS 4 [(1, .int .i64 claim), (2, .int .i64 thread), (3, .sl (.int .i64) ranks), (4, .bp 4 0), (10, .int .i64 v0_5.2), (12, .int .i64 v0_6.2), (13, .own 52000), (14, .int .i64 v0_7.2), (15, .own 59000), (16, .int .i64 v0_8.2), (55, .bool ((v0_5.1 == v0_6.1) != true))] [(4, .box 24 [.int .i64 g.1, .sl (.pair (.int .i64) (.pair (.int .i64) (.pair (.int .i64) .bool))) g.2]), (52000, .arr 3 (.int .i64) v0_7.1), (59000, .arr 3 (.int .i64) v0_8.1)] ?_
   rcases zI h with ⟨hb12, h⟩ | ⟨hb12, h⟩
   ·refine zS 5 [(1, .int .i64 claim), (2, .int .i64 thread), (3, .sl (.int .i64) ranks), (4, .bp 4 0), (13, .own 52000), (14, .int .i64 v0_7.2), (15, .own 59000), (16, .int .i64 v0_8.2), (60, .bool true)] [(4, .box 24 [.int .i64 g.1, .sl (.pair (.int .i64) (.pair (.int .i64) (.pair (.int .i64) .bool))) g.2]), (52000, .arr 3 (.int .i64) v0_7.1), (59000, .arr 3 (.int .i64) v0_8.1)] ?_
    refine zS 4 [(1, .int .i64 claim), (2, .int .i64 thread), (3, .sl (.int .i64) ranks), (4, .bp 4 0), (14, .int .i64 v0_7.2), (16, .int .i64 v0_8.2), (60, .bool true), (64, .cv (undef))] [(4, .box 24 [.int .i64 g.1, .sl (.pair (.int .i64) (.pair (.int .i64) (.pair (.int .i64) .bool))) g.2])] ?_
    refine zS 5 [(1, .int .i64 claim), (2, .int .i64 thread), (3, .sl (.int .i64) ranks), (4, .bp 4 0), (66, .bool true), (69, .cv (undef))] [(4, .box 24 [.int .i64 g.1, .sl (.pair (.int .i64) (.pair (.int .i64) (.pair (.int .i64) .bool))) g.2])] ?_
    refine zB [(1, .int .i64 claim), (2, .int .i64 thread), (3, .sl (.int .i64) ranks), (4, .bp 4 0), (70, .bool true)] [(4, .box 24 [.int .i64 g.1, .sl (.pair (.int .i64) (.pair (.int .i64) (.pair (.int .i64) .bool))) g.2])] ?_
    refine AW.cond (b := true) rfl (fun _ => ?_) (fun hb13 => by cases hb13)
    refine zo ?_
    refine zB [(8, .bool false)] [] ?_
    refine zr ?_
    obtain rfl := Option.some.inj h
    exact zR [] [] []
   ·refine zS 5 [(1, .int .i64 claim), (2, .int .i64 thread), (3, .sl (.int .i64) ranks), (4, .bp 4 0), (13, .own 52000), (14, .int .i64 v0_7.2), (15, .own 59000), (16, .int .i64 v0_8.2), (60, .bool (!(decide (v0_5.2 = v0_6.2))))] [(4, .box 24 [.int .i64 g.1, .sl (.pair (.int .i64) (.pair (.int .i64) (.pair (.int .i64) .bool))) g.2]), (52000, .arr 3 (.int .i64) v0_7.1), (59000, .arr 3 (.int .i64) v0_8.1)] ?_
    rcases zI h with ⟨hb14, h⟩ | ⟨hb14, h⟩
    ·refine zS 4 [(1, .int .i64 claim), (2, .int .i64 thread), (3, .sl (.int .i64) ranks), (4, .bp 4 0), (14, .int .i64 v0_7.2), (16, .int .i64 v0_8.2), (60, .bool true), (64, .cv (undef))] [(4, .box 24 [.int .i64 g.1, .sl (.pair (.int .i64) (.pair (.int .i64) (.pair (.int .i64) .bool))) g.2])] ?_
     refine zS 5 [(1, .int .i64 claim), (2, .int .i64 thread), (3, .sl (.int .i64) ranks), (4, .bp 4 0), (66, .bool true), (69, .cv (undef))] [(4, .box 24 [.int .i64 g.1, .sl (.pair (.int .i64) (.pair (.int .i64) (.pair (.int .i64) .bool))) g.2])] ?_
     refine zB [(1, .int .i64 claim), (2, .int .i64 thread), (3, .sl (.int .i64) ranks), (4, .bp 4 0), (70, .bool true)] [(4, .box 24 [.int .i64 g.1, .sl (.pair (.int .i64) (.pair (.int .i64) (.pair (.int .i64) .bool))) g.2])] ?_
     refine AW.cond (b := true) rfl (fun _ => ?_) (fun hb15 => by cases hb15)
     refine zo ?_
     refine zB [(8, .bool false)] [] ?_
     refine zr ?_
     obtain rfl := Option.some.inj h
     exact zR [] [] []
    ·refine zS 2 [(1, .int .i64 claim), (2, .int .i64 thread), (3, .sl (.int .i64) ranks), (4, .bp 4 0), (14, .int .i64 v0_7.2), (16, .int .i64 v0_8.2), (60, .bool false), (61, .own 52000), (62, .own 59000)] [(4, .box 24 [.int .i64 g.1, .sl (.pair (.int .i64) (.pair (.int .i64) (.pair (.int .i64) .bool))) g.2]), (52000, .arr 3 (.int .i64) v0_7.1), (59000, .arr 3 (.int .i64) v0_8.1)] ?_
     obtain ⟨v0_9, hv16, h⟩ := Option.bind_eq_some_iff.1 h
     refine zG [52000, 59000] [] (hc_linealref07_SameInts v0_7.1 v0_8.1 hv16) [(1, .int .i64 claim), (2, .int .i64 thread), (3, .sl (.int .i64) ranks), (4, .bp 4 0), (14, .int .i64 v0_7.2), (16, .int .i64 v0_8.2), (60, .bool false), (63, .bool v0_9)] [(4, .box 24 [.int .i64 g.1, .sl (.pair (.int .i64) (.pair (.int .i64) (.pair (.int .i64) .bool))) g.2])] ?_
     refine zS 3 [(1, .int .i64 claim), (2, .int .i64 thread), (3, .sl (.int .i64) ranks), (4, .bp 4 0), (14, .int .i64 v0_7.2), (16, .int .i64 v0_8.2), (66, .bool (!v0_9))] [(4, .box 24 [.int .i64 g.1, .sl (.pair (.int .i64) (.pair (.int .i64) (.pair (.int .i64) .bool))) g.2])] ?_
     rcases zI h with ⟨hb17, h⟩ | ⟨hb17, h⟩
     ·refine zB [(1, .int .i64 claim), (2, .int .i64 thread), (3, .sl (.int .i64) ranks), (4, .bp 4 0), (70, .bool true)] [(4, .box 24 [.int .i64 g.1, .sl (.pair (.int .i64) (.pair (.int .i64) (.pair (.int .i64) .bool))) g.2])] ?_
      refine AW.cond (b := true) rfl (fun _ => ?_) (fun hb18 => by cases hb18)
      refine zo ?_
      refine zB [(8, .bool false)] [] ?_
      refine zr ?_
      obtain rfl := Option.some.inj h
      exact zR [] [] []
     ·refine zB [(1, .int .i64 claim), (2, .int .i64 thread), (3, .sl (.int .i64) ranks), (4, .bp 4 0), (70, .bool (!(decide (v0_7.2 = v0_8.2))))] [(4, .box 24 [.int .i64 g.1, .sl (.pair (.int .i64) (.pair (.int .i64) (.pair (.int .i64) .bool))) g.2])] ?_
      refine zQ h (fun hb19 h => ?_) (fun hb19 h => ?_)
      ·refine zo ?_
       refine zB [(8, .bool false)] [] ?_
       refine zr ?_
       obtain rfl := Option.some.inj h
       exact zR [] [] []
      ·refine zk ?_
       refine zo ?_
       refine zS 4 [(1, .int .i64 claim), (2, .int .i64 thread), (3, .sl (.int .i64) ranks), (4, .bp 4 0), (72, .agg [.int .i64 g.1, .sl (.pair (.int .i64) (.pair (.int .i64) (.pair (.int .i64) .bool))) g.2]), (73, .int .i64 claim), (74, .int .i64 thread), (75, .sl (.int .i64) ranks)] [(4, .box 24 [.int .i64 g.1, .sl (.pair (.int .i64) (.pair (.int .i64) (.pair (.int .i64) .bool))) g.2])] ?_
       obtain ⟨v0_10, hv20, h⟩ := Option.bind_eq_some_iff.1 h
       refine zC [] [] (hc_progress_Prove g claim thread ranks hv20) [(1, .int .i64 claim), (2, .int .i64 thread), (3, .sl (.int .i64) ranks), (4, .bp 4 0), (76, .tup [.bool v0_10.1, .int .i64 v0_10.2])] [(4, .box 24 [.int .i64 g.1, .sl (.pair (.int .i64) (.pair (.int .i64) (.pair (.int .i64) .bool))) g.2])] ?_
       refine zB [(1, .int .i64 claim), (2, .int .i64 thread), (3, .sl (.int .i64) ranks), (4, .bp 4 0), (9, .bool v0_10.1), (10, .int .i64 v0_10.2)] [(4, .box 24 [.int .i64 g.1, .sl (.pair (.int .i64) (.pair (.int .i64) (.pair (.int .i64) .bool))) g.2])] ?_
       refine zo ?_
       refine zS 4 [(9, .bool v0_10.1), (10, .int .i64 v0_10.2), (80, .agg [.int .i64 g.1, .sl (.pair (.int .i64) (.pair (.int .i64) (.pair (.int .i64) .bool))) g.2]), (81, .int .i64 claim), (82, .int .i64 thread), (83, .sl (.int .i64) ranks)] [] ?_
       obtain ⟨v0_11, hv21, h⟩ := Option.bind_eq_some_iff.1 h
       refine zC [] [] (hc_linealref07_Prove g claim thread ranks hv21) [(9, .bool v0_10.1), (10, .int .i64 v0_10.2), (84, .tup [.bool v0_11.1, .int .i64 v0_11.2])] [] ?_
       refine zB [(9, .bool v0_10.1), (10, .int .i64 v0_10.2), (11, .bool v0_11.1), (12, .int .i64 v0_11.2)] [] ?_
       refine zo ?_
       refine zS 4 [(10, .int .i64 v0_10.2), (12, .int .i64 v0_11.2), (90, .bool ((v0_10.1 == v0_11.1) != false))] [] ?_
       rcases zI h with ⟨hb22, h⟩ | ⟨hb22, h⟩
       ·refine zS 5 [(95, .bool (decide (v0_10.2 = v0_11.2)))] [] ?_
        rcases zI h with ⟨hb23, h⟩ | ⟨hb23, h⟩
        ·refine zT [(95, .bool true)] [] gt ?_
         obtain ⟨v0_12, hv24, h⟩ := Option.bind_eq_some_iff.1 h
         refine zG [] [] (hc_lineallaw07_Awake hv24) [(95, .bool true), (96, .bool v0_12)] [] ?_
         refine zB [(8, .bool v0_12)] [] ?_
         refine AW.ret ?_
         obtain rfl := Option.some.inj h
         exact zR [] [] []
        ·refine zB [(8, .bool false)] [] ?_
         refine AW.ret ?_
         obtain rfl := Option.some.inj h
         exact zR [] [] []
       ·refine zS 5 [(95, .bool false)] [] ?_
        refine zB [(8, .bool false)] [] ?_
        refine AW.ret ?_
        obtain rfl := Option.some.inj h
        exact zR [] [] []

end Go.Proofs.Yteclokkdgmacpaa
