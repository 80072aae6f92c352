/-
  Made by wip/tool/dc.py out of the print of the program: contracts.
-/
import Derived.Test.YteclokkdgmacpaaGrp
import Derived.Test.YteclokkdgmacpaaSh7
import Derived.Test.YteclokkdgmacpaaAvd
import Derived.Test.YteclokkdgmacpaaGac1
import Derived.Test.YteclokkdgmacpaaGac2
import Derived.Test.YteclokkdgmacpaaGac3
import Derived.Test.YteclokkdgmacpaaGac7
namespace Go.Proofs.Yteclokkdgmacpaa
open Go.RowKit

set_option linter.unusedSimpArgs false
set_option linter.unusedVariables false
set_option linter.constructorNameAsVariable false

set_option maxRecDepth 100000
set_option maxHeartbeats 2000000

theorem hc_linealref07_isPath (g : Int × (List (Int × Int × Int × Bool))) (path : List Int) {r : Bool} (h : linealref07_isPath g path = some r) : HC Try.prog 58 [] [.agg [.int .i64 g.1, .sl (.pair (.int .i64) (.pair (.int .i64) (.pair (.int .i64) .bool))) g.2], .sl (.int .i64) path] [] (.bool r) := by
 unfold linealref07_isPath at h
 refine zH Try.func58 [.tmp 4] 45 ?_
 refine zo ?_
 refine zB [(1, .sl (.int .i64) path), (2, .bp 2 0)] [(2, .box 24 [.int .i64 g.1, .sl (.pair (.int .i64) (.pair (.int .i64) (.pair (.int .i64) .bool))) g.2])] ?_
 refine AW.seq ?_
 refine zo ?_
 refine zB [(1, .sl (.int .i64) path), (2, .bp 2 0), (9, .bool (decide (1000 < (path.length : Int))))] [(2, .box 24 [.int .i64 g.1, .sl (.pair (.int .i64) (.pair (.int .i64) (.pair (.int .i64) .bool))) g.2])] ?_
 refine zQ h (fun hb1 h => ?_) (fun hb1 h => ?_)
 ·refine zo ?_
  refine zB [(4, .bool false)] [] ?_
  refine zr ?_
  obtain rfl := Option.some.inj h
  exact zR [] [] []
 ·refine zk ?_
  refine AW.have1 (fun _ : Unit => linealref07_isPath_k1 = some r) (fun _ => ⟨fr [], hpGet [], gt⟩) (fun _ h => ?_) (fun hk_linealref07_isPath_k1 => ?_)
  ·as_aux_lemma =>
    unfold linealref07_isPath_k1 at h
    refine zo ?_
    refine zB [(4, .bool true)] [] ?_
    refine AW.ret ?_
    obtain rfl := Option.some.inj h
    exact zR [] [] []
  ·refine AW.seq ?_
   refine zo ?_
   refine zB [(1, .sl (.int .i64) path), (2, .bp 2 0), (10, .sl (.int .i64) path), (11, .int .i64 (path.length : Int)), (12, .int .i64 0)] [(2, .box 24 [.int .i64 g.1, .sl (.pair (.int .i64) (.pair (.int .i64) (.pair (.int .i64) .bool))) g.2])] ?_
   refine AW.block ?_
   obtain ⟨rv6, hw2, ho3⟩ := Option.bind_eq_some_iff.1 h
   refine AW.loopO (linealref07_isPath_b1 g path) (fun st1 => ⟨fr [(1, .sl (.int .i64) path), (2, .bp 2 0), (10, .sl (.int .i64) path), (11, .int .i64 (path.length : Int)), (12, .int .i64 st1)], hpGet [(2, .box 24 [.int .i64 g.1, .sl (.pair (.int .i64) (.pair (.int .i64) (.pair (.int .i64) .bool))) g.2])], gt⟩) 0 hw2 (zL [] [] []) ?_
   as_aux_lemma =>
    intro st1 x5 h hd4
    unfold linealref07_isPath_b1 at h
    refine zo ?_
    refine zB [(1, .sl (.int .i64) path), (2, .bp 2 0), (10, .sl (.int .i64) path), (11, .int .i64 (path.length : Int)), (12, .int .i64 st1), (13, .bool (decide (st1 < (path.length : Int))))] [(2, .box 24 [.int .i64 g.1, .sl (.pair (.int .i64) (.pair (.int .i64) (.pair (.int .i64) .bool))) g.2])] ?_
    refine AW.seq ?_
    refine zQ h (fun hb7 h => ?_) (fun hb7 h => ?_)
    ·refine zk ?_
     refine AW.seq ?_
     refine AW.block ?_
     refine zo ?_
     obtain ⟨c8, h⟩ := ck_some.1 h
     obtain ⟨c9, h⟩ := ck_some.1 h
     refine zB [(1, .sl (.int .i64) path), (2, .bp 2 0), (5, .int .i64 st1), (6, .int .i64 (path.getD st1.toNat 0)), (10, .sl (.int .i64) path), (11, .int .i64 (path.length : Int)), (12, .int .i64 st1)] [(2, .box 24 [.int .i64 g.1, .sl (.pair (.int .i64) (.pair (.int .i64) (.pair (.int .i64) .bool))) g.2])] ?_
     refine AW.seq ?_
     refine AW.draw tab_ok mixed_ok [] [] (by decide) (lex_fast (by kernel_rfl)) ?_
     as_aux_lemma =>
      refine adops_cut 2 (fun K' hK10 => ?_)
      try dsimp only [List.drop_succ_cons, List.drop_zero, List.take_succ_cons, List.take_zero]
      simp only [go_sem, hb1, hb7]
      repeat with_reducible refine zN ?_
      refine hK10 _ ?_
      as_aux_lemma =>
       obtain ⟨v0, hv11, h⟩ := Option.bind_eq_some_iff.1 h
       refine adops.call (by first | trivial | rfl) rfl rfl rfl (fun _ h => h) [] [] (hc_linealref07_IsMove g (path.getD st1.toNat 0) hv11) rfl (by (simp only [go_sem, hb1, hb7]) <;> (with_reducible and_intros) <;> first | assumption | rfl | omega | (unfold maxLen; omega)) (by (simp only [go_sem, hb1, hb7]) <;> (with_reducible and_intros) <;> first | assumption | rfl | omega | (unfold maxLen; omega)) rfl ?_
       refine adops_cut 2 (fun K' hK12 => ?_)
       try dsimp only [List.drop_succ_cons, List.drop_zero, List.take_succ_cons, List.take_zero]
       simp only [go_sem, hb1, hb7]
       repeat with_reducible refine zN ?_
       refine hK12 _ ?_
       as_aux_lemma =>
        rcases zI h with ⟨hb13, h⟩ | ⟨hb13, h⟩
        ·simp only [hb13]
         as_aux_lemma =>
          refine adops_cut 4 (fun K' hK14 => ?_)
          try dsimp only [List.drop_succ_cons, List.drop_zero, List.take_succ_cons, List.take_zero]
          simp only [go_sem, hb1, hb7, hb13]
          repeat with_reducible refine zN ?_
          refine hK14 _ ?_
          as_aux_lemma =>
           refine adops_cut 4 (fun K' hK15 => ?_)
           try dsimp only [List.drop_succ_cons, List.drop_zero, List.take_succ_cons, List.take_zero]
           simp only [go_sem, hb1, hb7, hb13]
           repeat with_reducible refine zN ?_
           refine hK15 _ ?_
           as_aux_lemma =>
            refine adops_cut 4 (fun K' hK16 => ?_)
            try dsimp only [List.drop_succ_cons, List.drop_zero, List.take_succ_cons, List.take_zero]
            simp only [go_sem, hb1, hb7, hb13]
            repeat with_reducible refine zN ?_
            refine hK16 _ ?_
            as_aux_lemma =>
             refine adops_cut 4 (fun K' hK17 => ?_)
             try dsimp only [List.drop_succ_cons, List.drop_zero, List.take_succ_cons, List.take_zero]
             simp only [go_sem, hb1, hb7, hb13]
             repeat with_reducible refine zN ?_
             refine hK17 _ ?_
             as_aux_lemma =>
              refine adops_cut 4 (fun K' hK18 => ?_)
              try dsimp only [List.drop_succ_cons, List.drop_zero, List.take_succ_cons, List.take_zero]
              simp only [go_sem, hb1, hb7, hb13]
              repeat with_reducible refine zN ?_
              refine hK18 _ ?_
              as_aux_lemma =>
               refine adops_cut 2 (fun K' hK19 => ?_)
               try dsimp only [List.drop_succ_cons, List.drop_zero, List.take_succ_cons, List.take_zero]
               simp only [go_sem, hb1, hb7, hb13]
               repeat with_reducible refine zN ?_
               refine hK19 _ ?_
               refine adops_nil ?_
               refine athen_n ?_
               refine zV [(1, .sl (.int .i64) path), (2, .bp 2 0), (10, .sl (.int .i64) path), (11, .int .i64 (path.length : Int)), (12, .int .i64 st1), (43, .bool true)] [(2, .box 24 [.int .i64 g.1, .sl (.pair (.int .i64) (.pair (.int .i64) (.pair (.int .i64) .bool))) g.2])] gt ?_
               as_aux_lemma =>
                refine AW.cond (b := true) rfl (fun _ => ?_) (fun hb20 => by cases hb20)
                refine zo ?_
                refine zB [(4, .bool false)] [] ?_
                refine AW.ret ?_
                refine ablock_r ?_
                refine athen_r ?_
                obtain rfl := Option.some.inj h
                rw [← hd4 _ rfl] at ho3
                have h := ho3
                try simp only at h
                refine athen_r ?_
                refine ablock_r ?_
                refine athen_r ?_
                obtain rfl := Option.some.inj h
                exact zR [] [] []
        ·simp only [hb13]
         as_aux_lemma =>
          refine adops_cut 3 (fun K' hK21 => ?_)
          try dsimp only [List.drop_succ_cons, List.drop_zero, List.take_succ_cons, List.take_zero]
          simp only [go_sem, hb1, hb7, hb13]
          repeat with_reducible refine zN ?_
          refine hK21 _ ?_
          as_aux_lemma =>
           rcases zI h with ⟨hb22, h⟩ | ⟨hb22, h⟩
           ·simp only [hb22]
            as_aux_lemma =>
             obtain ⟨c24, h⟩ := ck_some.1 h
             obtain ⟨c25, h⟩ := ck_some.1 h
             obtain ⟨c26, h⟩ := ck_some.1 h
             refine adops_cut 6 (fun K' hK23 => ?_)
             try dsimp only [List.drop_succ_cons, List.drop_zero, List.take_succ_cons, List.take_zero]
             simp only [go_sem, hb1, hb7, hb13, hb22]
             repeat with_reducible refine zN ?_
             refine hK23 _ ?_
             as_aux_lemma =>
              obtain ⟨c28, h⟩ := ck_some.1 h
              obtain ⟨c29, h⟩ := ck_some.1 h
              refine adops_cut 6 (fun K' hK27 => ?_)
              try dsimp only [List.drop_succ_cons, List.drop_zero, List.take_succ_cons, List.take_zero]
              simp only [go_sem, hb1, hb7, hb13, hb22]
              repeat with_reducible refine zN ?_
              refine hK27 _ ?_
              as_aux_lemma =>
               obtain ⟨c31, h⟩ := ck_some.1 h
               obtain ⟨c32, h⟩ := ck_some.1 h
               refine adops_cut 6 (fun K' hK30 => ?_)
               try dsimp only [List.drop_succ_cons, List.drop_zero, List.take_succ_cons, List.take_zero]
               simp only [go_sem, hb1, hb7, hb13, hb22]
               repeat with_reducible refine zN ?_
               refine hK30 _ ?_
               as_aux_lemma =>
                refine adops_cut 1 (fun K' hK33 => ?_)
                try dsimp only [List.drop_succ_cons, List.drop_zero, List.take_succ_cons, List.take_zero]
                simp only [go_sem, hb1, hb7, hb13, hb22]
                repeat with_reducible refine zN ?_
                refine hK33 _ ?_
                refine adops_nil ?_
                refine athen_n ?_
                refine zV [(1, .sl (.int .i64) path), (2, .bp 2 0), (10, .sl (.int .i64) path), (11, .int .i64 (path.length : Int)), (12, .int .i64 st1), (43, .bool (!(decide ((g.2.getD (path.getD (st1 - 1).toNat 0).toNat (0, 0, 0, false)).2.2.1 = (g.2.getD (path.getD st1.toNat 0).toNat (0, 0, 0, false)).1))))] [(2, .box 24 [.int .i64 g.1, .sl (.pair (.int .i64) (.pair (.int .i64) (.pair (.int .i64) .bool))) g.2])] gt ?_
                as_aux_lemma =>
                 refine zQ h (fun hb34 h => ?_) (fun hb34 h => ?_)
                 ·refine zo ?_
                  refine zB [(4, .bool false)] [] ?_
                  refine AW.ret ?_
                  refine ablock_r ?_
                  refine athen_r ?_
                  obtain rfl := Option.some.inj h
                  rw [← hd4 _ rfl] at ho3
                  have h := ho3
                  try simp only at h
                  refine athen_r ?_
                  refine ablock_r ?_
                  refine athen_r ?_
                  obtain rfl := Option.some.inj h
                  exact zR [] [] []
                 ·refine zm ?_
                  refine athen_n ?_
                  refine AW.ops ?_
                  obtain ⟨c35, h⟩ := ck_some.1 h
                  refine zA [(1, .sl (.int .i64) path), (2, .bp 2 0), (10, .sl (.int .i64) path), (11, .int .i64 (path.length : Int)), (12, .int .i64 (st1 + 1))] [(2, .box 24 [.int .i64 g.1, .sl (.pair (.int .i64) (.pair (.int .i64) (.pair (.int .i64) .bool))) g.2])] ?_
                  obtain rfl := Option.some.inj h
                  exact ⟨_, rfl, zL [] [] []⟩
           ·simp only [hb22]
            as_aux_lemma =>
             refine adops_cut 4 (fun K' hK36 => ?_)
             try dsimp only [List.drop_succ_cons, List.drop_zero, List.take_succ_cons, List.take_zero]
             simp only [go_sem, hb1, hb7, hb13, hb22]
             repeat with_reducible refine zN ?_
             refine hK36 _ ?_
             as_aux_lemma =>
              refine adops_cut 4 (fun K' hK37 => ?_)
              try dsimp only [List.drop_succ_cons, List.drop_zero, List.take_succ_cons, List.take_zero]
              simp only [go_sem, hb1, hb7, hb13, hb22]
              repeat with_reducible refine zN ?_
              refine hK37 _ ?_
              as_aux_lemma =>
               refine adops_cut 4 (fun K' hK38 => ?_)
               try dsimp only [List.drop_succ_cons, List.drop_zero, List.take_succ_cons, List.take_zero]
               simp only [go_sem, hb1, hb7, hb13, hb22]
               repeat with_reducible refine zN ?_
               refine hK38 _ ?_
               as_aux_lemma =>
                refine adops_cut 4 (fun K' hK39 => ?_)
                try dsimp only [List.drop_succ_cons, List.drop_zero, List.take_succ_cons, List.take_zero]
                simp only [go_sem, hb1, hb7, hb13, hb22]
                repeat with_reducible refine zN ?_
                refine hK39 _ ?_
                as_aux_lemma =>
                 refine adops_cut 3 (fun K' hK40 => ?_)
                 try dsimp only [List.drop_succ_cons, List.drop_zero, List.take_succ_cons, List.take_zero]
                 simp only [go_sem, hb1, hb7, hb13, hb22]
                 repeat with_reducible refine zN ?_
                 refine hK40 _ ?_
                 refine adops_nil ?_
                 refine athen_n ?_
                 refine zV [(1, .sl (.int .i64) path), (2, .bp 2 0), (10, .sl (.int .i64) path), (11, .int .i64 (path.length : Int)), (12, .int .i64 st1), (43, .bool false)] [(2, .box 24 [.int .i64 g.1, .sl (.pair (.int .i64) (.pair (.int .i64) (.pair (.int .i64) .bool))) g.2])] gt ?_
                 as_aux_lemma =>
                  refine AW.cond (b := false) rfl (fun hb41 => by cases hb41) (fun _ => ?_)
                  refine zm ?_
                  refine athen_n ?_
                  refine AW.ops ?_
                  obtain ⟨c42, h⟩ := ck_some.1 h
                  refine zA [(1, .sl (.int .i64) path), (2, .bp 2 0), (10, .sl (.int .i64) path), (11, .int .i64 (path.length : Int)), (12, .int .i64 (st1 + 1))] [(2, .box 24 [.int .i64 g.1, .sl (.pair (.int .i64) (.pair (.int .i64) (.pair (.int .i64) .bool))) g.2])] ?_
                  obtain rfl := Option.some.inj h
                  exact ⟨_, rfl, zL [] [] []⟩
    ·refine AW.exit ?_
     refine athen_e ?_
     obtain rfl := Option.some.inj h
     rw [← hd4 _ rfl] at ho3
     have h := ho3
     try simp only at h
     refine athen_e ?_
     refine ablock_s ?_
     refine athen_n ?_
     exact AW.weaken (zL [] [] []) (hk_linealref07_isPath_k1 () h)

theorem hc_linealref07_IsPath (g : Int × (List (Int × Int × Int × Bool))) (path : List Int) {r : Bool × Int} (h : linealref07_IsPath g path = some r) : HC Try.prog 19 [] [.agg [.int .i64 g.1, .sl (.pair (.int .i64) (.pair (.int .i64) (.pair (.int .i64) .bool))) g.2], .sl (.int .i64) path] [] (.tup [.bool r.1, .int .i64 r.2]) := by
 unfold linealref07_IsPath at h
 refine zH Try.func19 [.tmp 4, .tmp 5] 12 ?_
 refine zo ?_
 refine zB [(1, .sl (.int .i64) path), (2, .bp 2 0)] [(2, .box 24 [.int .i64 g.1, .sl (.pair (.int .i64) (.pair (.int .i64) (.pair (.int .i64) .bool))) g.2])] ?_
 refine AW.seq ?_
 refine zo ?_
 refine zS 1 [(1, .sl (.int .i64) path), (2, .bp 2 0), (6, .agg [.int .i64 g.1, .sl (.pair (.int .i64) (.pair (.int .i64) (.pair (.int .i64) .bool))) g.2])] [(2, .box 24 [.int .i64 g.1, .sl (.pair (.int .i64) (.pair (.int .i64) (.pair (.int .i64) .bool))) g.2])] ?_
 obtain ⟨v0, hv1, h⟩ := Option.bind_eq_some_iff.1 h
 refine zC [] [] (hc_linealref07_Valid g hv1) [(1, .sl (.int .i64) path), (2, .bp 2 0), (7, .bool v0)] [(2, .box 24 [.int .i64 g.1, .sl (.pair (.int .i64) (.pair (.int .i64) (.pair (.int .i64) .bool))) g.2])] ?_
 refine zB [(1, .sl (.int .i64) path), (2, .bp 2 0), (8, .bool (!v0))] [(2, .box 24 [.int .i64 g.1, .sl (.pair (.int .i64) (.pair (.int .i64) (.pair (.int .i64) .bool))) g.2])] ?_
 refine zQ h (fun hb2 h => ?_) (fun hb2 h => ?_)
 ·refine zo ?_
  refine zB [(4, .bool false), (5, .int .i64 70)] [] ?_
  refine zr ?_
  obtain rfl := Option.some.inj h
  exact zR [] [] []
 ·refine zk ?_
  refine zo ?_
  refine zS 2 [(9, .agg [.int .i64 g.1, .sl (.pair (.int .i64) (.pair (.int .i64) (.pair (.int .i64) .bool))) g.2]), (10, .sl (.int .i64) path)] [] ?_
  obtain ⟨v0_2, hv3, h⟩ := Option.bind_eq_some_iff.1 h
  refine zC [] [] (hc_linealref07_isPath g path hv3) [(11, .bool v0_2)] [] ?_
  refine zB [(4, .bool v0_2), (5, .int .i64 0)] [] ?_
  refine AW.ret ?_
  obtain rfl := Option.some.inj h
  exact zR [] [] []

theorem hc_progress_Reached (g : Int × (List (Int × Int × Int × Bool))) {r : (List Int) × Int} (h : progress_Reached g = some r) : HC Try.prog 22 [] [.agg [.int .i64 g.1, .sl (.pair (.int .i64) (.pair (.int .i64) (.pair (.int .i64) .bool))) g.2]] [(2000, .arr 3 (.int .i64) r.1)] (.tup [.own 2000, .int .i64 r.2]) := by
 unfold progress_Reached at h
 refine zH Try.func22 [.tmp 2, .tmp 3] 16 ?_
 refine zo ?_
 refine zB [(1, .bp 1 0)] [(1, .box 24 [.int .i64 g.1, .sl (.pair (.int .i64) (.pair (.int .i64) (.pair (.int .i64) .bool))) g.2])] ?_
 refine zo ?_
 refine zS 1 [(7, .agg [.int .i64 g.1, .sl (.pair (.int .i64) (.pair (.int .i64) (.pair (.int .i64) .bool))) g.2])] [] ?_
 obtain ⟨v0, hv1, h⟩ := Option.bind_eq_some_iff.1 h
 refine zC [] [] (hc_progress_graphOf g hv1) [(8, .tup [.agg [.int .i64 v0.1, .sl (.pair (.int .i64) (.pair (.int .i64) (.pair (.int .i64) .bool))) v0.2.1], .int .i64 v0.2.2])] [] ?_
 refine zS 5 [(4, .bp 4 0), (10, .int .i64 v0.2.2)] [(4, .box 69 [.int .i64 v0.1, .sl (.pair (.int .i64) (.pair (.int .i64) (.pair (.int .i64) .bool))) v0.2.1])] ?_
 refine zB [(4, .bp 4 0), (5, .int .i64 v0.2.2)] [(4, .box 69 [.int .i64 v0.1, .sl (.pair (.int .i64) (.pair (.int .i64) (.pair (.int .i64) .bool))) v0.2.1])] ?_
 refine AW.seq ?_
 refine zo ?_
 refine zB [(4, .bp 4 0), (5, .int .i64 v0.2.2), (12, .bool (!(decide (v0.2.2 = 0))))] [(4, .box 69 [.int .i64 v0.1, .sl (.pair (.int .i64) (.pair (.int .i64) (.pair (.int .i64) .bool))) v0.2.1])] ?_
 refine zQ h (fun hb2 h => ?_) (fun hb2 h => ?_)
 ·refine zo ?_
  refine zB [(2, .cv (.slice none 0 0)), (3, .int .i64 v0.2.2)] [] ?_
  refine zr ?_
  obtain rfl := Option.some.inj h
  exact zR [] [2000] []
 ·refine zk ?_
  refine zo ?_
  refine zS 1 [(14, .agg [.int .i64 v0.1, .sl (.pair (.int .i64) (.pair (.int .i64) (.pair (.int .i64) .bool))) v0.2.1])] [] ?_
  obtain ⟨v0_2, hv3, h⟩ := Option.bind_eq_some_iff.1 h
  refine zC [] [] (hc_progress_graph_reached (v0.1, v0.2.1) hv3) [(15, .own 25000)] [(25000, .arr 3 (.int .i64) v0_2)] ?_
  refine zB [(2, .own 25000), (3, .int .i64 0)] [(25000, .arr 3 (.int .i64) v0_2)] ?_
  refine AW.ret ?_
  obtain rfl := Option.some.inj h
  exact zR [] [] [(2000, 25000)]

theorem hc_linealref07_reached (g : Int × (List (Int × Int × Int × Bool))) {r : (List Bool)} (h : linealref07_reached g = some r) : HC Try.prog 65 [] [.agg [.int .i64 g.1, .sl (.pair (.int .i64) (.pair (.int .i64) (.pair (.int .i64) .bool))) g.2]] [(2000, .arr 4 .bool r)] (.own 2000) := by
 unfold linealref07_reached at h
 refine zH Try.func65 [.tmp 2] 41 ?_
 refine zo ?_
 refine zB [(1, .bp 1 0)] [(1, .box 24 [.int .i64 g.1, .sl (.pair (.int .i64) (.pair (.int .i64) (.pair (.int .i64) .bool))) g.2])] ?_
 refine zo ?_
 obtain ⟨c1, h⟩ := ck_some.1 h
 obtain ⟨c2, h⟩ := ck_some.1 h
 refine zB [(1, .bp 1 0), (3, .own 8)] [(1, .box 24 [.int .i64 g.1, .sl (.pair (.int .i64) (.pair (.int .i64) (.pair (.int .i64) .bool))) g.2]), (8, .arr 4 .bool (List.replicate g.1.toNat (false : Bool)))] ?_
 refine zo ?_
 obtain ⟨c3, h⟩ := ck_some.1 h
 refine zB [(1, .bp 1 0), (3, .own 8)] [(1, .box 24 [.int .i64 g.1, .sl (.pair (.int .i64) (.pair (.int .i64) (.pair (.int .i64) .bool))) g.2]), (8, .arr 4 .bool ((List.replicate g.1.toNat (false : Bool)).set 0 true))] ?_
 refine AW.have1 (fun b2_2 : (List Bool) => linealref07_reached_k1 b2_2 = some r) (fun b2_2 => ⟨fr [(3, .own 8)], hpGet [(8, .arr 4 .bool b2_2)], gt⟩) (fun b2_2 h => ?_) (fun hk_linealref07_reached_k1 => ?_)
 ·as_aux_lemma =>
   unfold linealref07_reached_k1 at h
   refine zo ?_
   refine zB [(2, .own 8)] [(8, .arr 4 .bool b2_2)] ?_
   refine AW.ret ?_
   obtain rfl := Option.some.inj h
   exact zR [] [] [(2000, 8)]
 ·refine AW.seq ?_
  refine zo ?_
  refine zB [(1, .bp 1 0), (3, .own 8), (12, .int .i64 g.1), (13, .int .i64 0)] [(1, .box 24 [.int .i64 g.1, .sl (.pair (.int .i64) (.pair (.int .i64) (.pair (.int .i64) .bool))) g.2]), (8, .arr 4 .bool ((List.replicate g.1.toNat (false : Bool)).set 0 true))] ?_
  refine AW.block ?_
  obtain ⟨rv8, hw4, ho5⟩ := Option.bind_eq_some_iff.1 h
  refine AW.loopO (linealref07_reached_b1 g) (fun st1 => ⟨fr [(1, .bp 1 0), (3, .own 8), (12, .int .i64 g.1), (13, .int .i64 st1.2)], hpGet [(1, .box 24 [.int .i64 g.1, .sl (.pair (.int .i64) (.pair (.int .i64) (.pair (.int .i64) .bool))) g.2]), (8, .arr 4 .bool st1.1)], gt⟩) (((List.replicate g.1.toNat (false : Bool)).set 0 true), 0) hw4 (zL [] [] []) ?_
  as_aux_lemma =>
   intro st1 x7 h hd6
   unfold linealref07_reached_b1 at h
   refine zo ?_
   refine zB [(1, .bp 1 0), (3, .own 8), (12, .int .i64 g.1), (13, .int .i64 st1.2), (14, .bool (decide (st1.2 < g.1)))] [(1, .box 24 [.int .i64 g.1, .sl (.pair (.int .i64) (.pair (.int .i64) (.pair (.int .i64) .bool))) g.2]), (8, .arr 4 .bool st1.1)] ?_
   refine AW.seq ?_
   refine zQ h (fun hb9 h => ?_) (fun hb9 h => ?_)
   ·refine zk ?_
    refine AW.have1 (fun b2 : (List Bool) => linealref07_reached_k2 st1 b2 = some x7) (fun b2 => ⟨fr [(1, .bp 1 0), (3, .own 8), (12, .int .i64 g.1), (13, .int .i64 st1.2)], hpGet [(1, .box 24 [.int .i64 g.1, .sl (.pair (.int .i64) (.pair (.int .i64) (.pair (.int .i64) .bool))) g.2]), (8, .arr 4 .bool b2)], gt⟩) (fun b2 h => ?_) (fun hk_linealref07_reached_k2 => ?_)
    ·as_aux_lemma =>
      unfold linealref07_reached_k2 at h
      refine AW.ops ?_
      obtain ⟨c10, h⟩ := ck_some.1 h
      refine zA [(1, .bp 1 0), (3, .own 8), (12, .int .i64 g.1), (13, .int .i64 (st1.2 + 1))] [(1, .box 24 [.int .i64 g.1, .sl (.pair (.int .i64) (.pair (.int .i64) (.pair (.int .i64) .bool))) g.2]), (8, .arr 4 .bool b2)] ?_
      obtain rfl := Option.some.inj h
      exact ⟨_, rfl, zL [] [] []⟩
    ·refine AW.seq ?_
     refine AW.block ?_
     refine zo ?_
     refine zB [(1, .bp 1 0), (3, .own 8), (12, .int .i64 g.1), (13, .int .i64 st1.2), (16, .sl (.pair (.int .i64) (.pair (.int .i64) (.pair (.int .i64) .bool))) g.2), (17, .int .i64 (g.2.length : Int)), (18, .int .i64 0)] [(1, .box 24 [.int .i64 g.1, .sl (.pair (.int .i64) (.pair (.int .i64) (.pair (.int .i64) .bool))) g.2]), (8, .arr 4 .bool st1.1)] ?_
     refine AW.block ?_
     obtain ⟨rv15, hw11, ho12⟩ := Option.bind_eq_some_iff.1 h
     refine AW.loopO (linealref07_reached_b2 g) (fun st2 => ⟨fr [(1, .bp 1 0), (3, .own 8), (12, .int .i64 g.1), (13, .int .i64 st1.2), (16, .sl (.pair (.int .i64) (.pair (.int .i64) (.pair (.int .i64) .bool))) g.2), (17, .int .i64 (g.2.length : Int)), (18, .int .i64 st2.2)], hpGet [(1, .box 24 [.int .i64 g.1, .sl (.pair (.int .i64) (.pair (.int .i64) (.pair (.int .i64) .bool))) g.2]), (8, .arr 4 .bool st2.1)], gt⟩) (st1.1, 0) hw11 (zL [] [] []) ?_
     as_aux_lemma =>
      intro st2 x14 h hd13
      unfold linealref07_reached_b2 at h
      refine zo ?_
      refine zB [(1, .bp 1 0), (3, .own 8), (12, .int .i64 g.1), (13, .int .i64 st1.2), (16, .sl (.pair (.int .i64) (.pair (.int .i64) (.pair (.int .i64) .bool))) g.2), (17, .int .i64 (g.2.length : Int)), (18, .int .i64 st2.2), (19, .bool (decide (st2.2 < (g.2.length : Int))))] [(1, .box 24 [.int .i64 g.1, .sl (.pair (.int .i64) (.pair (.int .i64) (.pair (.int .i64) .bool))) g.2]), (8, .arr 4 .bool st2.1)] ?_
      refine AW.seq ?_
      refine zQ h (fun hb16 h => ?_) (fun hb16 h => ?_)
      ·refine zk ?_
       refine AW.seq ?_
       refine AW.block ?_
       refine zo ?_
       obtain ⟨c17, h⟩ := ck_some.1 h
       obtain ⟨c18, h⟩ := ck_some.1 h
       refine zB [(1, .bp 1 0), (3, .own 8), (5, .bp 5 0), (12, .int .i64 g.1), (13, .int .i64 st1.2), (16, .sl (.pair (.int .i64) (.pair (.int .i64) (.pair (.int .i64) .bool))) g.2), (17, .int .i64 (g.2.length : Int)), (18, .int .i64 st2.2)] [(1, .box 24 [.int .i64 g.1, .sl (.pair (.int .i64) (.pair (.int .i64) (.pair (.int .i64) .bool))) g.2]), (5, .box 61 [.int .i64 (g.2.getD st2.2.toNat (0, 0, 0, false)).1, .int .i64 (g.2.getD st2.2.toNat (0, 0, 0, false)).2.1, .int .i64 (g.2.getD st2.2.toNat (0, 0, 0, false)).2.2.1, .bool (g.2.getD st2.2.toNat (0, 0, 0, false)).2.2.2]), (8, .arr 4 .bool st2.1)] ?_
       refine AW.draw tab_ok mixed_ok [(16, [8])] [] (by decide) (lex_fast (by kernel_rfl)) ?_
       as_aux_lemma =>
        refine adops_cut 6 (fun K' hK19 => ?_)
        try dsimp only [List.drop_succ_cons, List.drop_zero, List.take_succ_cons, List.take_zero]
        simp only [go_sem, hb9, hb16]
        repeat with_reducible refine zN ?_
        refine hK19 _ ?_
        as_aux_lemma =>
         obtain ⟨c21, h⟩ := ck_some.1 h
         obtain ⟨c22, h⟩ := ck_some.1 h
         refine adops_cut 3 (fun K' hK20 => ?_)
         try dsimp only [List.drop_succ_cons, List.drop_zero, List.take_succ_cons, List.take_zero]
         simp only [go_sem, hb9, hb16]
         repeat with_reducible refine zN ?_
         refine hK20 _ ?_
         as_aux_lemma =>
          rcases zI h with ⟨hb23, h⟩ | ⟨hb23, h⟩
          ·simp only [hb23]
           as_aux_lemma =>
            refine adops_cut 4 (fun K' hK24 => ?_)
            try dsimp only [List.drop_succ_cons, List.drop_zero, List.take_succ_cons, List.take_zero]
            simp only [go_sem, hb9, hb16, hb23]
            repeat with_reducible refine zN ?_
            refine hK24 _ ?_
            as_aux_lemma =>
             obtain ⟨c26, h⟩ := ck_some.1 h
             obtain ⟨c27, h⟩ := ck_some.1 h
             refine adops_cut 4 (fun K' hK25 => ?_)
             try dsimp only [List.drop_succ_cons, List.drop_zero, List.take_succ_cons, List.take_zero]
             simp only [go_sem, hb9, hb16, hb23]
             repeat with_reducible refine zN ?_
             refine hK25 _ ?_
             refine adops_nil ?_
             refine ablock_n ?_
             refine athen_n ?_
             refine zV [(1, .bp 1 0), (3, .own 8), (12, .int .i64 g.1), (13, .int .i64 st1.2), (16, .sl (.pair (.int .i64) (.pair (.int .i64) (.pair (.int .i64) .bool))) g.2), (17, .int .i64 (g.2.length : Int)), (18, .int .i64 st2.2)] [(1, .box 24 [.int .i64 g.1, .sl (.pair (.int .i64) (.pair (.int .i64) (.pair (.int .i64) .bool))) g.2]), (8, .arr 4 .bool (st2.1.set (g.2.getD st2.2.toNat (0, 0, 0, false)).2.2.1.toNat true))] gt ?_
             as_aux_lemma =>
              refine AW.ops ?_
              obtain ⟨c28, h⟩ := ck_some.1 h
              refine zA [(1, .bp 1 0), (3, .own 8), (12, .int .i64 g.1), (13, .int .i64 st1.2), (16, .sl (.pair (.int .i64) (.pair (.int .i64) (.pair (.int .i64) .bool))) g.2), (17, .int .i64 (g.2.length : Int)), (18, .int .i64 (st2.2 + 1))] [(1, .box 24 [.int .i64 g.1, .sl (.pair (.int .i64) (.pair (.int .i64) (.pair (.int .i64) .bool))) g.2]), (8, .arr 4 .bool (st2.1.set (g.2.getD st2.2.toNat (0, 0, 0, false)).2.2.1.toNat true))] ?_
              obtain rfl := Option.some.inj h
              exact ⟨_, rfl, zL [] [] []⟩
          ·simp only [hb23]
           as_aux_lemma =>
            obtain ⟨c30, h⟩ := ck_some.1 h
            obtain ⟨c31, h⟩ := ck_some.1 h
            refine adops_cut 6 (fun K' hK29 => ?_)
            try dsimp only [List.drop_succ_cons, List.drop_zero, List.take_succ_cons, List.take_zero]
            simp only [go_sem, hb9, hb16, hb23]
            repeat with_reducible refine zN ?_
            refine hK29 _ ?_
            as_aux_lemma =>
             obtain ⟨c33, h⟩ := ck_some.1 h
             obtain ⟨c34, h⟩ := ck_some.1 h
             refine adops_cut 2 (fun K' hK32 => ?_)
             try dsimp only [List.drop_succ_cons, List.drop_zero, List.take_succ_cons, List.take_zero]
             simp only [go_sem, hb9, hb16, hb23]
             repeat with_reducible refine zN ?_
             refine hK32 _ ?_
             refine adops_nil ?_
             refine ablock_n ?_
             refine athen_n ?_
             refine zV [(1, .bp 1 0), (3, .own 8), (12, .int .i64 g.1), (13, .int .i64 st1.2), (16, .sl (.pair (.int .i64) (.pair (.int .i64) (.pair (.int .i64) .bool))) g.2), (17, .int .i64 (g.2.length : Int)), (18, .int .i64 st2.2)] [(1, .box 24 [.int .i64 g.1, .sl (.pair (.int .i64) (.pair (.int .i64) (.pair (.int .i64) .bool))) g.2]), (8, .arr 4 .bool (st2.1.set (g.2.getD st2.2.toNat (0, 0, 0, false)).2.2.1.toNat (st2.1.getD (g.2.getD st2.2.toNat (0, 0, 0, false)).1.toNat false)))] gt ?_
             as_aux_lemma =>
              refine AW.ops ?_
              obtain ⟨c35, h⟩ := ck_some.1 h
              refine zA [(1, .bp 1 0), (3, .own 8), (12, .int .i64 g.1), (13, .int .i64 st1.2), (16, .sl (.pair (.int .i64) (.pair (.int .i64) (.pair (.int .i64) .bool))) g.2), (17, .int .i64 (g.2.length : Int)), (18, .int .i64 (st2.2 + 1))] [(1, .box 24 [.int .i64 g.1, .sl (.pair (.int .i64) (.pair (.int .i64) (.pair (.int .i64) .bool))) g.2]), (8, .arr 4 .bool (st2.1.set (g.2.getD st2.2.toNat (0, 0, 0, false)).2.2.1.toNat (st2.1.getD (g.2.getD st2.2.toNat (0, 0, 0, false)).1.toNat false)))] ?_
              obtain rfl := Option.some.inj h
              exact ⟨_, rfl, zL [] [] []⟩
      ·refine AW.exit ?_
       refine athen_e ?_
       obtain rfl := Option.some.inj h
       rw [← hd13 _ rfl] at ho12
       have h := ho12
       refine athen_e ?_
       refine ablock_s ?_
       refine ablock_n ?_
       refine athen_n ?_
       exact AW.weaken (zL [] [] []) (hk_linealref07_reached_k2 _ h)
   ·refine AW.exit ?_
    refine athen_e ?_
    obtain rfl := Option.some.inj h
    rw [← hd6 _ rfl] at ho5
    have h := ho5
    refine athen_e ?_
    refine ablock_s ?_
    refine athen_n ?_
    exact AW.weaken (zL [] [] []) (hk_linealref07_reached_k1 _ h)

theorem hc_linealref07_Reached (g : Int × (List (Int × Int × Int × Bool))) {r : (List Int) × Int} (h : linealref07_Reached g = some r) : HC Try.prog 23 [] [.agg [.int .i64 g.1, .sl (.pair (.int .i64) (.pair (.int .i64) (.pair (.int .i64) .bool))) g.2]] [(2000, .arr 3 (.int .i64) r.1)] (.tup [.own 2000, .int .i64 r.2]) := by
 unfold linealref07_Reached at h
 refine zH Try.func23 [.tmp 2, .tmp 3] 25 ?_
 refine zo ?_
 refine zB [(1, .bp 1 0)] [(1, .box 24 [.int .i64 g.1, .sl (.pair (.int .i64) (.pair (.int .i64) (.pair (.int .i64) .bool))) g.2])] ?_
 refine AW.seq ?_
 refine zo ?_
 refine zS 1 [(1, .bp 1 0), (7, .agg [.int .i64 g.1, .sl (.pair (.int .i64) (.pair (.int .i64) (.pair (.int .i64) .bool))) g.2])] [(1, .box 24 [.int .i64 g.1, .sl (.pair (.int .i64) (.pair (.int .i64) (.pair (.int .i64) .bool))) g.2])] ?_
 obtain ⟨v0, hv1, h⟩ := Option.bind_eq_some_iff.1 h
 refine zC [] [] (hc_linealref07_Valid g hv1) [(1, .bp 1 0), (8, .bool v0)] [(1, .box 24 [.int .i64 g.1, .sl (.pair (.int .i64) (.pair (.int .i64) (.pair (.int .i64) .bool))) g.2])] ?_
 refine zB [(1, .bp 1 0), (9, .bool (!v0))] [(1, .box 24 [.int .i64 g.1, .sl (.pair (.int .i64) (.pair (.int .i64) (.pair (.int .i64) .bool))) g.2])] ?_
 refine zQ h (fun hb2 h => ?_) (fun hb2 h => ?_)
 ·refine zo ?_
  refine zB [(2, .cv (.slice none 0 0)), (3, .int .i64 70)] [] ?_
  refine zr ?_
  obtain rfl := Option.some.inj h
  exact zR [] [2000] []
 ·refine zk ?_
  refine zo ?_
  refine zB [(1, .bp 1 0), (4, .cv (.slice none 0 0))] [(1, .box 24 [.int .i64 g.1, .sl (.pair (.int .i64) (.pair (.int .i64) (.pair (.int .i64) .bool))) g.2])] ?_
  refine AW.have1 (fun b1 : (List Int) => linealref07_Reached_k1 b1 = some r) (fun b1 => ⟨fr [(4, .own 22)], hpGet [(22, .arr 3 (.int .i64) b1)], gt⟩) (fun b1 h => ?_) (fun hk_linealref07_Reached_k1 => ?_)
  ·as_aux_lemma =>
    unfold linealref07_Reached_k1 at h
    refine zo ?_
    refine zB [(2, .own 22), (3, .int .i64 0)] [(22, .arr 3 (.int .i64) b1)] ?_
    refine AW.ret ?_
    obtain rfl := Option.some.inj h
    exact zR [] [] [(2000, 22)]
  ·refine AW.seq ?_
   refine zo ?_
   refine zS 1 [(4, .cv (.slice none 0 0)), (10, .agg [.int .i64 g.1, .sl (.pair (.int .i64) (.pair (.int .i64) (.pair (.int .i64) .bool))) g.2])] [] ?_
   obtain ⟨v0_2, hv3, h⟩ := Option.bind_eq_some_iff.1 h
   refine zC [] [] (hc_linealref07_reached g hv3) [(4, .cv (.slice none 0 0)), (11, .own 21000)] [(21000, .arr 4 .bool v0_2)] ?_
   refine zB [(4, .cv (.slice none 0 0)), (11, .own 21000), (12, .int .i64 (v0_2.length : Int)), (13, .int .i64 0)] [(21000, .arr 4 .bool v0_2)] ?_
   refine AW.block ?_
   obtain ⟨rv8, hw4, ho5⟩ := Option.bind_eq_some_iff.1 h
   refine AW.loopO (linealref07_Reached_b1 v0_2) (fun st1 => ⟨fr [(4, .own 22), (11, .own 21000), (12, .int .i64 (v0_2.length : Int)), (13, .int .i64 st1.2)], hpGet [(22, .arr 3 (.int .i64) st1.1), (21000, .arr 4 .bool v0_2)], gt⟩) ([], 0) hw4 (zL [] [22] []) ?_
   as_aux_lemma =>
    intro st1 x7 h hd6
    unfold linealref07_Reached_b1 at h
    refine zo ?_
    refine zB [(4, .own 22), (11, .own 21000), (12, .int .i64 (v0_2.length : Int)), (13, .int .i64 st1.2), (14, .bool (decide (st1.2 < (v0_2.length : Int))))] [(22, .arr 3 (.int .i64) st1.1), (21000, .arr 4 .bool v0_2)] ?_
    refine AW.seq ?_
    refine zQ h (fun hb9 h => ?_) (fun hb9 h => ?_)
    ·refine zk ?_
     refine AW.seq ?_
     refine AW.block ?_
     refine zo ?_
     obtain ⟨c10, h⟩ := ck_some.1 h
     obtain ⟨c11, h⟩ := ck_some.1 h
     refine zB [(4, .own 22), (5, .int .i64 st1.2), (6, .bool (v0_2.getD st1.2.toNat false)), (11, .own 21000), (12, .int .i64 (v0_2.length : Int)), (13, .int .i64 st1.2)] [(22, .arr 3 (.int .i64) st1.1), (21000, .arr 4 .bool v0_2)] ?_
     refine zo ?_
     refine zB [(4, .own 22), (5, .int .i64 st1.2), (11, .own 21000), (12, .int .i64 (v0_2.length : Int)), (13, .int .i64 st1.2), (18, .bool (v0_2.getD st1.2.toNat false))] [(22, .arr 3 (.int .i64) st1.1), (21000, .arr 4 .bool v0_2)] ?_
     refine zQ h (fun hb12 h => ?_) (fun hb12 h => ?_)
     ·refine AW.ops ?_
      obtain ⟨c13, h⟩ := ck_some.1 h
      refine zA [(4, .own 22), (11, .own 21000), (12, .int .i64 (v0_2.length : Int)), (13, .int .i64 st1.2)] [(22, .arr 3 (.int .i64) (st1.1 ++ [st1.2])), (21000, .arr 4 .bool v0_2)] ?_
      refine ablock_n ?_
      refine athen_n ?_
      refine AW.ops ?_
      obtain ⟨c14, h⟩ := ck_some.1 h
      refine zA [(4, .own 22), (11, .own 21000), (12, .int .i64 (v0_2.length : Int)), (13, .int .i64 (st1.2 + 1))] [(22, .arr 3 (.int .i64) (st1.1 ++ [st1.2])), (21000, .arr 4 .bool v0_2)] ?_
      obtain rfl := Option.some.inj h
      exact ⟨_, rfl, zL [] [] []⟩
     ·refine zm ?_
      refine athen_n ?_
      refine AW.ops ?_
      obtain ⟨c15, h⟩ := ck_some.1 h
      refine zA [(4, .own 22), (11, .own 21000), (12, .int .i64 (v0_2.length : Int)), (13, .int .i64 (st1.2 + 1))] [(22, .arr 3 (.int .i64) st1.1), (21000, .arr 4 .bool v0_2)] ?_
      obtain rfl := Option.some.inj h
      exact ⟨_, rfl, zL [] [] []⟩
    ·refine AW.exit ?_
     refine athen_e ?_
     obtain rfl := Option.some.inj h
     rw [← hd6 _ rfl] at ho5
     have h := ho5
     refine athen_e ?_
     refine ablock_s ?_
     refine athen_n ?_
     exact AW.weaken (zL [] [] []) (hk_linealref07_Reached_k1 _ h)

theorem hc_progress_graph_way (g : Int × (List (Int × Int × Int × Bool))) (from0 : Int) (to0 : Int) {r : (List Int) × Bool} (h : progress_graph_way g from0 to0 = some r) : HC Try.prog 66 [] [.agg [.int .i64 g.1, .sl (.pair (.int .i64) (.pair (.int .i64) (.pair (.int .i64) .bool))) g.2], .int .i64 from0, .int .i64 to0, .fn (.func 67) [] []] [] (.tup [.sl (.int .i64) r.1, .bool r.2]) := by
 unfold progress_graph_way at h
 refine zH Try.func66 [.cell 8 25, .cell 9 4] 22 ?_
 refine zo ?_
 refine zB [(1, .int .i64 from0), (3, .fn (.func 67) [] []), (4, .bp 4 0), (6, .bp 6 0), (8, .bp 8 0), (9, .bp 9 0)] [(4, .box 69 [.int .i64 g.1, .sl (.pair (.int .i64) (.pair (.int .i64) (.pair (.int .i64) .bool))) g.2]), (6, .box 3 [.int .i64 to0]), (8, .box 25 [.cv (.slice none 0 0)]), (9, .box 4 [.bool false])] ?_
 refine AW.have1 (fun _ : Unit => progress_graph_way_k1 = some r) (fun _ => ⟨fr [(8, .bp 8 0), (9, .bp 9 0)], hpGet [(8, .box 25 [.cv (.slice none 0 0)]), (9, .box 4 [.bool false])], gt⟩) (fun _ h => ?_) (fun hk_progress_graph_way_k1 => ?_)
 ·as_aux_lemma =>
   unfold progress_graph_way_k1 at h
   refine zo ?_
   refine zB [(8, .bp 8 0), (9, .bp 9 0)] [(8, .box 25 [.cv (.slice none 0 0)]), (9, .box 4 [.bool false])] ?_
   refine AW.ret ?_
   obtain rfl := Option.some.inj h
   exact zR [] [] []
 ·refine AW.seq ?_
  refine zo ?_
  refine zS 3 [(6, .bp 6 0), (8, .bp 8 0), (9, .bp 9 0), (12, .agg [.int .i64 g.1, .sl (.pair (.int .i64) (.pair (.int .i64) (.pair (.int .i64) .bool))) g.2]), (13, .int .i64 from0), (14, .fn (.func 67) [] [])] [(6, .box 3 [.int .i64 to0]), (8, .box 25 [.cv (.slice none 0 0)]), (9, .box 4 [.bool false])] ?_
  obtain ⟨v0, hv1, h⟩ := Option.bind_eq_some_iff.1 h
  refine zC [] [] (hc_progress_graph_paths g from0 hv1) [(6, .bp 6 0), (8, .bp 8 0), (9, .bp 9 0), (15, .fn (.func 108) [] [.bp 25000 0, .bp 25001 0, .bp 25002 0])] [(6, .box 3 [.int .i64 to0]), (8, .box 25 [.cv (.slice none 0 0)]), (9, .box 4 [.bool false]), (25000, .box 3 [.int .i64 from0]), (25001, .box 69 [.int .i64 g.1, .sl (.pair (.int .i64) (.pair (.int .i64) (.pair (.int .i64) .bool))) g.2]), (25002, .box 81 [.fn (.func 67) [] []])] ?_
  refine zB [(6, .bp 6 0), (8, .bp 8 0), (9, .bp 9 0), (15, .fn (.func 108) [] [.bp 25000 0, .bp 25001 0, .bp 25002 0])] [(6, .box 3 [.int .i64 to0]), (8, .box 25 [.cv (.slice none 0 0)]), (9, .box 4 [.bool false]), (25000, .box 3 [.int .i64 from0]), (25001, .box 69 [.int .i64 g.1, .sl (.pair (.int .i64) (.pair (.int .i64) (.pair (.int .i64) .bool))) g.2]), (25002, .box 81 [.fn (.func 67) [] []])] ?_
  refine AW.block ?_
  obtain ⟨x2, hx3, h⟩ := Option.bind_eq_some_iff.1 h
  refine AW.weaken (s' := ⟨fr [(6, .bp 6 0), (8, .bp 8 0), (9, .bp 9 0), (15, .fn (.func 108) [] [.bp 25000 0, .bp 25001 0, .bp 25002 0])], hpGet ([(25000, .box 3 [.int .i64 from0]), (25001, .box 69 [.int .i64 g.1, .sl (.pair (.int .i64) (.pair (.int .i64) (.pair (.int .i64) .bool))) g.2]), (25002, .box 81 [.fn (.func 67) [] []])] ++ [(6, .box 3 [.int .i64 to0]), (8, .box 25 [.cv (.slice none 0 0)]), (9, .box 4 [.bool false])]), gt⟩) (zL [] [] []) ?_
  refine AW.rangeF (R := (List Int)) (l0 := [(6, .bp 6 0), (8, .bp 8 0), (9, .bp 9 0)]) (hI := [(25000, .box 3 [.int .i64 from0]), (25001, .box 69 [.int .i64 g.1, .sl (.pair (.int .i64) (.pair (.int .i64) (.pair (.int .i64) .bool))) g.2]), (25002, .box 81 [.fn (.func 67) [] []])]) (h0 := fun (st1 : Unit) => [(6, .box 3 [.int .i64 to0]), (8, .box 25 [.cv (.slice none 0 0)]), (9, .box 4 [.bool false])]) (gg := fun (st1 : Unit) => gt) (hx0 := (fun (r1 : (List Int)) => [(6, .box 3 [.int .i64 to0]), (8, .box 25 [.sl (.int .i64) r1]), (9, .box 4 [.bool true])])) (gx := (fun (r1 : (List Int)) => gt)) (ex := (fun (r1 : (List Int)) => Exit.ret)) () [(25000, 1000), (25001, 1001), (25002, 1002)] [(1000, 25000), (1001, 25001), (1002, 25002)] [(6, 1900), (8, 1901), (9, 1902)] [(1900, 6), (1901, 8), (1902, 9)] (by decide) rfl (by first | exact (ic_progress_graph_paths_1 from0 g (progress_graph_way_y1 to0) () hx3) | simpa only [go_sem] using (ic_progress_graph_paths_1 from0 g (progress_graph_way_y1 to0) () hx3)) (by (simp only [go_sem]) <;> (with_reducible and_intros) <;> first | assumption | rfl | omega | (unfold maxLen; omega)) rfl rfl rfl (fun _ => rfl) rfl (fun _ => rfl) rfl (fun _ => rfl) (fun _ => rfl) (fun _ => rfl) (fun _ => rfl) rfl (fun _ _ => by first | rfl | (exact (hΓ _).trans (hΓ _).symm) | (exact (hΓx _).trans (hΓ _).symm)) (fun _ _ => by first | rfl | (exact (hΓ _).trans (hΓ _).symm) | (exact (hΓx _).trans (hΓ _).symm)) ?_ ?_
  ·intro lpy1 y1 st1 x4 h
   unfold progress_graph_way_y1 at h
   refine zV [(6, .bp 1900 0), (8, .bp 1901 0), (9, .bp 1902 0), (16, .int .i64 y1.1), (17, .sl (.int .i64) y1.2)] [(1900, .box 3 [.int .i64 to0]), (1901, .box 25 [.cv (.slice none 0 0)]), (1902, .box 4 [.bool false])] gt ?_
   refine zo ?_
   refine zB [(6, .bp 1900 0), (8, .bp 1901 0), (9, .bp 1902 0), (10, .int .i64 y1.1), (17, .sl (.int .i64) y1.2)] [(1900, .box 3 [.int .i64 to0]), (1901, .box 25 [.cv (.slice none 0 0)]), (1902, .box 4 [.bool false])] ?_
   refine AW.ops ?_
   refine zA [(6, .bp 1900 0), (8, .bp 1901 0), (9, .bp 1902 0), (10, .int .i64 y1.1), (11, .sl (.int .i64) y1.2)] [(1900, .box 3 [.int .i64 to0]), (1901, .box 25 [.cv (.slice none 0 0)]), (1902, .box 4 [.bool false])] ?_
   refine And.intro rfl ?_
   refine AW.block ?_
   refine zo ?_
   refine zB [(6, .bp 1900 0), (8, .bp 1901 0), (9, .bp 1902 0), (11, .sl (.int .i64) y1.2), (20, .bool (decide (y1.1 = to0)))] [(1900, .box 3 [.int .i64 to0]), (1901, .box 25 [.cv (.slice none 0 0)]), (1902, .box 4 [.bool false])] ?_
   refine zQ h (fun hb5 h => ?_) (fun hb5 h => ?_)
   ·refine zo ?_
    refine zB [(6, .bp 1900 0), (8, .bp 1901 0), (9, .bp 1902 0)] [(1900, .box 3 [.int .i64 to0]), (1901, .box 25 [.sl (.int .i64) y1.2]), (1902, .box 4 [.bool true])] ?_
    refine AW.ret ?_
    refine ablock_r ?_
    obtain rfl := Option.some.inj h
    exact rpost_ret rfl rfl [] [] [] rfl (by (simp only [go_sem, hb5]) <;> (with_reducible and_intros) <;> first | assumption | rfl | omega | (unfold maxLen; omega))
   ·refine zm ?_
    obtain rfl := Option.some.inj h
    exact rpost_next rfl [] [] [] rfl (by (simp only [go_sem, hb5]) <;> (with_reducible and_intros) <;> first | assumption | rfl | omega | (unfold maxLen; omega))
  ·cases x2 with
   | inl st1_2 =>
    try simp only at h
    refine ablock_n ?_
    refine athen_n ?_
    exact AW.weaken (zL [] [] []) (hk_progress_graph_way_k1 () h)
   | inr r1 =>
    try simp only at h
    refine ablock_r ?_
    refine athen_r ?_
    obtain rfl := Option.some.inj h
    exact zR [] [] []

end Go.Proofs.Yteclokkdgmacpaa
