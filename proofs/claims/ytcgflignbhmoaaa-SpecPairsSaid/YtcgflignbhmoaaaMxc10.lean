/-
  Made by wip/tool/dc.py out of the print of the program: contracts.
-/
import Derived.Test.YtcgflignbhmoaaaQp
import Derived.Test.YtcgflignbhmoaaaShs
import Derived.Test.YtcgflignbhmoaaaAvd
import Derived.Test.YtcgflignbhmoaaaMxc9
namespace Go.Proofs.Ytcgflignbhmoaaa
open Go.RowKit

set_option linter.unusedSimpArgs false
set_option linter.unusedVariables false
set_option linter.constructorNameAsVariable false

set_option maxRecDepth 100000
set_option maxHeartbeats 2000000

theorem hc_linealref01_told (s : Int × Int × (List (List Int)) × (List (List Int))) (t : Int × Int × (List (List Int)) × (List (List Int))) (a : Int) (b : Int) {r : (List Int) × Bool} (h : linealref01_told s t a b = some r) : HC Try.prog 70 [] [.agg [.int .i64 s.1, .int .i64 s.2.1, .sl (.sl (.int .i64)) s.2.2.1, .sl (.sl (.int .i64)) s.2.2.2], .agg [.int .i64 t.1, .int .i64 t.2.1, .sl (.sl (.int .i64)) t.2.2.1, .sl (.sl (.int .i64)) t.2.2.2], .int .i64 a, .int .i64 b] [(2000, .arr 3 (.int .i64) r.1)] (.tup [.own 2000, .bool r.2]) := by
 unfold linealref01_told at h
 refine zH Try.func70 [.tmp 8, .tmp 9] 115 ?_
 refine zo ?_
 refine zB [(2, .int .i64 a), (3, .int .i64 b), (4, .bp 4 0), (5, .bp 5 0)] [(4, .box 24 [.int .i64 s.1, .int .i64 s.2.1, .sl (.sl (.int .i64)) s.2.2.1, .sl (.sl (.int .i64)) s.2.2.2]), (5, .box 24 [.int .i64 t.1, .int .i64 t.2.1, .sl (.sl (.int .i64)) t.2.2.1, .sl (.sl (.int .i64)) t.2.2.2])] ?_
 refine zo ?_
 refine zS 2 [(2, .int .i64 a), (3, .int .i64 b), (4, .bp 4 0), (5, .bp 5 0), (15, .agg [.int .i64 s.1, .int .i64 s.2.1, .sl (.sl (.int .i64)) s.2.2.1, .sl (.sl (.int .i64)) s.2.2.2]), (16, .agg [.int .i64 t.1, .int .i64 t.2.1, .sl (.sl (.int .i64)) t.2.2.1, .sl (.sl (.int .i64)) t.2.2.2])] [(4, .box 24 [.int .i64 s.1, .int .i64 s.2.1, .sl (.sl (.int .i64)) s.2.2.1, .sl (.sl (.int .i64)) s.2.2.2]), (5, .box 24 [.int .i64 t.1, .int .i64 t.2.1, .sl (.sl (.int .i64)) t.2.2.1, .sl (.sl (.int .i64)) t.2.2.2])] ?_
 obtain ⟨v0, hv1, h⟩ := Option.bind_eq_some_iff.1 h
 refine zC [] [] (hc_linealref01_far s t hv1) [(2, .int .i64 a), (3, .int .i64 b), (4, .bp 4 0), (5, .bp 5 0), (17, .sl (.sl (.int .i64)) v0)] [(4, .box 24 [.int .i64 s.1, .int .i64 s.2.1, .sl (.sl (.int .i64)) s.2.2.1, .sl (.sl (.int .i64)) s.2.2.2]), (5, .box 24 [.int .i64 t.1, .int .i64 t.2.1, .sl (.sl (.int .i64)) t.2.2.1, .sl (.sl (.int .i64)) t.2.2.2])] ?_
 refine zB [(2, .int .i64 a), (3, .int .i64 b), (4, .bp 4 0), (5, .bp 5 0), (10, .sl (.sl (.int .i64)) v0)] [(4, .box 24 [.int .i64 s.1, .int .i64 s.2.1, .sl (.sl (.int .i64)) s.2.2.1, .sl (.sl (.int .i64)) s.2.2.2]), (5, .box 24 [.int .i64 t.1, .int .i64 t.2.1, .sl (.sl (.int .i64)) t.2.2.1, .sl (.sl (.int .i64)) t.2.2.2])] ?_
 refine AW.seq ?_
 refine zo ?_
 obtain ⟨c2, h⟩ := ck_some.1 h
 obtain ⟨c3, h⟩ := ck_some.1 h
 obtain ⟨c4, h⟩ := ck_some.1 h
 obtain ⟨c5, h⟩ := ck_some.1 h
 refine zB [(2, .int .i64 a), (3, .int .i64 b), (4, .bp 4 0), (5, .bp 5 0), (10, .sl (.sl (.int .i64)) v0), (25, .bool (decide (((v0.getD a.toNat []).getD b.toNat 0) = 0)))] [(4, .box 24 [.int .i64 s.1, .int .i64 s.2.1, .sl (.sl (.int .i64)) s.2.2.1, .sl (.sl (.int .i64)) s.2.2.2]), (5, .box 24 [.int .i64 t.1, .int .i64 t.2.1, .sl (.sl (.int .i64)) t.2.2.1, .sl (.sl (.int .i64)) t.2.2.2])] ?_
 refine zQ h (fun hb6 h => ?_) (fun hb6 h => ?_)
 ·refine zo ?_
  refine zB [(8, .cv (.slice none 0 0)), (9, .bool false)] [] ?_
  refine zr ?_
  obtain rfl := Option.some.inj h
  exact zR [] [2000] []
 ·refine zk ?_
  refine zo ?_
  refine zB [(2, .int .i64 a), (3, .int .i64 b), (4, .bp 4 0), (5, .bp 5 0), (10, .sl (.sl (.int .i64)) v0), (11, .cv (.slice none 0 0))] [(4, .box 24 [.int .i64 s.1, .int .i64 s.2.1, .sl (.sl (.int .i64)) s.2.2.1, .sl (.sl (.int .i64)) s.2.2.2]), (5, .box 24 [.int .i64 t.1, .int .i64 t.2.1, .sl (.sl (.int .i64)) t.2.2.1, .sl (.sl (.int .i64)) t.2.2.2])] ?_
  refine AW.block ?_
  obtain ⟨rv11, hw7, ho8⟩ := Option.bind_eq_some_iff.1 h
  refine AW.loopO (linealref01_told_b1 s t v0) (fun st1 => ⟨fr [(2, .int .i64 st1.1), (3, .int .i64 st1.2.1), (4, .bp 4 0), (5, .bp 5 0), (10, .sl (.sl (.int .i64)) v0), (11, .own 95)], hpGet [(4, .box 24 [.int .i64 s.1, .int .i64 s.2.1, .sl (.sl (.int .i64)) s.2.2.1, .sl (.sl (.int .i64)) s.2.2.2]), (5, .box 24 [.int .i64 t.1, .int .i64 t.2.1, .sl (.sl (.int .i64)) t.2.2.1, .sl (.sl (.int .i64)) t.2.2.2]), (95, .arr 3 (.int .i64) st1.2.2)], gt⟩) (a, b, []) hw7 (zL [] [95] []) ?_
  as_aux_lemma =>
   intro st1 x10 h hd9
   unfold linealref01_told_b1 at h
   refine AW.block ?_
   refine zo ?_
   obtain ⟨c12, h⟩ := ck_some.1 h
   obtain ⟨c13, h⟩ := ck_some.1 h
   obtain ⟨c14, h⟩ := ck_some.1 h
   obtain ⟨c15, h⟩ := ck_some.1 h
   refine zB [(2, .int .i64 st1.1), (3, .int .i64 st1.2.1), (4, .bp 4 0), (5, .bp 5 0), (10, .sl (.sl (.int .i64)) v0), (11, .own 95), (12, .int .i64 ((v0.getD st1.1.toNat []).getD st1.2.1.toNat 0))] [(4, .box 24 [.int .i64 s.1, .int .i64 s.2.1, .sl (.sl (.int .i64)) s.2.2.1, .sl (.sl (.int .i64)) s.2.2.2]), (5, .box 24 [.int .i64 t.1, .int .i64 t.2.1, .sl (.sl (.int .i64)) t.2.2.1, .sl (.sl (.int .i64)) t.2.2.2]), (95, .arr 3 (.int .i64) st1.2.2)] ?_
   refine zo ?_
   refine zB [(2, .int .i64 st1.1), (3, .int .i64 st1.2.1), (4, .bp 4 0), (5, .bp 5 0), (10, .sl (.sl (.int .i64)) v0), (11, .own 95), (12, .int .i64 ((v0.getD st1.1.toNat []).getD st1.2.1.toNat 0)), (13, .int .i64 (-1))] [(4, .box 24 [.int .i64 s.1, .int .i64 s.2.1, .sl (.sl (.int .i64)) s.2.2.1, .sl (.sl (.int .i64)) s.2.2.2]), (5, .box 24 [.int .i64 t.1, .int .i64 t.2.1, .sl (.sl (.int .i64)) t.2.2.1, .sl (.sl (.int .i64)) t.2.2.2]), (95, .arr 3 (.int .i64) st1.2.2)] ?_
   refine AW.have1 (fun b1 : Int => linealref01_told_k1 s t v0 st1 b1 = some x10) (fun b1 => ⟨fr [(2, .int .i64 st1.1), (3, .int .i64 st1.2.1), (4, .bp 4 0), (5, .bp 5 0), (10, .sl (.sl (.int .i64)) v0), (11, .own 95), (12, .int .i64 ((v0.getD st1.1.toNat []).getD st1.2.1.toNat 0)), (13, .int .i64 b1)], hpGet [(4, .box 24 [.int .i64 s.1, .int .i64 s.2.1, .sl (.sl (.int .i64)) s.2.2.1, .sl (.sl (.int .i64)) s.2.2.2]), (5, .box 24 [.int .i64 t.1, .int .i64 t.2.1, .sl (.sl (.int .i64)) t.2.2.1, .sl (.sl (.int .i64)) t.2.2.2]), (95, .arr 3 (.int .i64) st1.2.2)], gt⟩) (fun b1 h => ?_) (fun hk_linealref01_told_k1 => ?_)
   ·as_aux_lemma =>
     unfold linealref01_told_k1 at h
     refine zo ?_
     obtain ⟨c16, h⟩ := ck_some.1 h
     refine zB [(2, .int .i64 st1.1), (3, .int .i64 st1.2.1), (4, .bp 4 0), (5, .bp 5 0), (10, .sl (.sl (.int .i64)) v0), (11, .own 95), (12, .int .i64 ((v0.getD st1.1.toNat []).getD st1.2.1.toNat 0)), (13, .int .i64 b1)] [(4, .box 24 [.int .i64 s.1, .int .i64 s.2.1, .sl (.sl (.int .i64)) s.2.2.1, .sl (.sl (.int .i64)) s.2.2.2]), (5, .box 24 [.int .i64 t.1, .int .i64 t.2.1, .sl (.sl (.int .i64)) t.2.2.1, .sl (.sl (.int .i64)) t.2.2.2]), (95, .arr 3 (.int .i64) (st1.2.2 ++ [b1]))] ?_
     refine AW.seq ?_
     refine zo ?_
     refine zB [(2, .int .i64 st1.1), (3, .int .i64 st1.2.1), (4, .bp 4 0), (5, .bp 5 0), (10, .sl (.sl (.int .i64)) v0), (11, .own 95), (13, .int .i64 b1), (97, .bool (decide (((v0.getD st1.1.toNat []).getD st1.2.1.toNat 0) = 1)))] [(4, .box 24 [.int .i64 s.1, .int .i64 s.2.1, .sl (.sl (.int .i64)) s.2.2.1, .sl (.sl (.int .i64)) s.2.2.2]), (5, .box 24 [.int .i64 t.1, .int .i64 t.2.1, .sl (.sl (.int .i64)) t.2.2.1, .sl (.sl (.int .i64)) t.2.2.2]), (95, .arr 3 (.int .i64) (st1.2.2 ++ [b1]))] ?_
     refine zQ h (fun hb17 h => ?_) (fun hb17 h => ?_)
     ·refine zo ?_
      refine zB [(8, .own 95), (9, .bool true)] [(95, .arr 3 (.int .i64) (st1.2.2 ++ [b1]))] ?_
      refine zr ?_
      refine ablock_r ?_
      obtain rfl := Option.some.inj h
      rw [← hd9 _ rfl] at ho8
      have h := ho8
      refine athen_r ?_
      refine ablock_r ?_
      obtain rfl := Option.some.inj h
      exact zR [] [] [(2000, 95)]
     ·refine zk ?_
      refine AW.draw tab_ok mixed_ok [] [] (by decide) (lex_fast (by kernel_rfl)) ?_
      as_aux_lemma =>
       obtain ⟨c19, h⟩ := ck_some.1 h
       obtain ⟨c20, h⟩ := ck_some.1 h
       refine adops_cut 6 (fun K' hK18 => ?_)
       try dsimp only [List.drop_succ_cons, List.drop_zero, List.take_succ_cons, List.take_zero]
       simp only [go_sem, hb6, hb17]
       repeat with_reducible refine zN ?_
       refine hK18 _ ?_
       as_aux_lemma =>
        obtain ⟨c22, h⟩ := ck_some.1 h
        obtain ⟨c23, h⟩ := ck_some.1 h
        obtain ⟨c24, h⟩ := ck_some.1 h
        obtain ⟨c25, h⟩ := ck_some.1 h
        refine adops_cut 6 (fun K' hK21 => ?_)
        try dsimp only [List.drop_succ_cons, List.drop_zero, List.take_succ_cons, List.take_zero]
        simp only [go_sem, hb6, hb17]
        repeat with_reducible refine zN ?_
        refine hK21 _ ?_
        as_aux_lemma =>
         obtain ⟨c27, h⟩ := ck_some.1 h
         obtain ⟨c28, h⟩ := ck_some.1 h
         refine adops_cut 6 (fun K' hK26 => ?_)
         try dsimp only [List.drop_succ_cons, List.drop_zero, List.take_succ_cons, List.take_zero]
         simp only [go_sem, hb6, hb17]
         repeat with_reducible refine zN ?_
         refine hK26 _ ?_
         refine adops_nil ?_
         refine ablock_n ?_
         obtain rfl := Option.some.inj h
         exact ⟨_, rfl, zL [] [] []⟩
   ·refine AW.seq ?_
    refine zo ?_
    obtain ⟨c29, h⟩ := ck_some.1 h
    refine zB [(2, .int .i64 st1.1), (3, .int .i64 st1.2.1), (4, .bp 4 0), (5, .bp 5 0), (10, .sl (.sl (.int .i64)) v0), (11, .own 95), (12, .int .i64 ((v0.getD st1.1.toNat []).getD st1.2.1.toNat 0)), (13, .int .i64 (-1)), (14, .int .i64 (s.2.1 - 1))] [(4, .box 24 [.int .i64 s.1, .int .i64 s.2.1, .sl (.sl (.int .i64)) s.2.2.1, .sl (.sl (.int .i64)) s.2.2.2]), (5, .box 24 [.int .i64 t.1, .int .i64 t.2.1, .sl (.sl (.int .i64)) t.2.2.1, .sl (.sl (.int .i64)) t.2.2.2]), (95, .arr 3 (.int .i64) st1.2.2)] ?_
    refine AW.block ?_
    obtain ⟨rv34, hw30, ho31⟩ := Option.bind_eq_some_iff.1 h
    refine AW.loopO (linealref01_told_b2 s t v0 st1) (fun st2 => ⟨fr [(2, .int .i64 st1.1), (3, .int .i64 st1.2.1), (4, .bp 4 0), (5, .bp 5 0), (10, .sl (.sl (.int .i64)) v0), (11, .own 95), (12, .int .i64 ((v0.getD st1.1.toNat []).getD st1.2.1.toNat 0)), (13, .int .i64 st2.1), (14, .int .i64 st2.2)], hpGet [(4, .box 24 [.int .i64 s.1, .int .i64 s.2.1, .sl (.sl (.int .i64)) s.2.2.1, .sl (.sl (.int .i64)) s.2.2.2]), (5, .box 24 [.int .i64 t.1, .int .i64 t.2.1, .sl (.sl (.int .i64)) t.2.2.1, .sl (.sl (.int .i64)) t.2.2.2]), (95, .arr 3 (.int .i64) st1.2.2)], gt⟩) ((-1), (s.2.1 - 1)) hw30 (zL [] [] []) ?_
    as_aux_lemma =>
     intro st2 x33 h hd32
     unfold linealref01_told_b2 at h
     refine AW.seq ?_
     refine zo ?_
     refine zB [(2, .int .i64 st1.1), (3, .int .i64 st1.2.1), (4, .bp 4 0), (5, .bp 5 0), (10, .sl (.sl (.int .i64)) v0), (11, .own 95), (12, .int .i64 ((v0.getD st1.1.toNat []).getD st1.2.1.toNat 0)), (13, .int .i64 st2.1), (14, .int .i64 st2.2), (37, .bool (decide (0 ≤ st2.2)))] [(4, .box 24 [.int .i64 s.1, .int .i64 s.2.1, .sl (.sl (.int .i64)) s.2.2.1, .sl (.sl (.int .i64)) s.2.2.2]), (5, .box 24 [.int .i64 t.1, .int .i64 t.2.1, .sl (.sl (.int .i64)) t.2.2.1, .sl (.sl (.int .i64)) t.2.2.2]), (95, .arr 3 (.int .i64) st1.2.2)] ?_
     refine zQ h (fun hb35 h => ?_) (fun hb35 h => ?_)
     ·refine zk ?_
      refine AW.seq ?_
      refine AW.block ?_
      refine AW.seq ?_
      refine AW.draw tab_ok mixed_ok [] [] (by decide) (lex_fast (by kernel_rfl)) ?_
      as_aux_lemma =>
       refine adops_cut 3 (fun K' hK36 => ?_)
       try dsimp only [List.drop_succ_cons, List.drop_zero, List.take_succ_cons, List.take_zero]
       simp only [go_sem, hb6, hb35]
       repeat with_reducible refine zN ?_
       refine hK36 _ ?_
       as_aux_lemma =>
        rcases zI h with ⟨hb37, h⟩ | ⟨hb37, h⟩
        ·simp only [hb37]
         as_aux_lemma =>
          obtain ⟨c39, h⟩ := ck_some.1 h
          obtain ⟨c40, h⟩ := ck_some.1 h
          refine adops_cut 6 (fun K' hK38 => ?_)
          try dsimp only [List.drop_succ_cons, List.drop_zero, List.take_succ_cons, List.take_zero]
          simp only [go_sem, hb6, hb35, hb37]
          repeat with_reducible refine zN ?_
          refine hK38 _ ?_
          as_aux_lemma =>
           obtain ⟨c42, h⟩ := ck_some.1 h
           obtain ⟨c43, h⟩ := ck_some.1 h
           obtain ⟨c44, h⟩ := ck_some.1 h
           obtain ⟨c45, h⟩ := ck_some.1 h
           refine adops_cut 6 (fun K' hK41 => ?_)
           try dsimp only [List.drop_succ_cons, List.drop_zero, List.take_succ_cons, List.take_zero]
           simp only [go_sem, hb6, hb35, hb37]
           repeat with_reducible refine zN ?_
           refine hK41 _ ?_
           as_aux_lemma =>
            obtain ⟨c47, h⟩ := ck_some.1 h
            obtain ⟨c48, h⟩ := ck_some.1 h
            refine adops_cut 6 (fun K' hK46 => ?_)
            try dsimp only [List.drop_succ_cons, List.drop_zero, List.take_succ_cons, List.take_zero]
            simp only [go_sem, hb6, hb35, hb37]
            repeat with_reducible refine zN ?_
            refine hK46 _ ?_
            as_aux_lemma =>
             refine adops_cut 1 (fun K' hK49 => ?_)
             try dsimp only [List.drop_succ_cons, List.drop_zero, List.take_succ_cons, List.take_zero]
             simp only [go_sem, hb6, hb35, hb37]
             repeat with_reducible refine zN ?_
             refine hK49 _ ?_
             as_aux_lemma =>
              rcases zI h with ⟨hb50, h⟩ | ⟨hb50, h⟩
              ·simp only [hb50]
               as_aux_lemma =>
                refine adops_cut 4 (fun K' hK51 => ?_)
                try dsimp only [List.drop_succ_cons, List.drop_zero, List.take_succ_cons, List.take_zero]
                simp only [go_sem, hb6, hb35, hb37, hb50]
                repeat with_reducible refine zN ?_
                refine hK51 _ ?_
                as_aux_lemma =>
                 refine adops_cut 4 (fun K' hK52 => ?_)
                 try dsimp only [List.drop_succ_cons, List.drop_zero, List.take_succ_cons, List.take_zero]
                 simp only [go_sem, hb6, hb35, hb37, hb50]
                 repeat with_reducible refine zN ?_
                 refine hK52 _ ?_
                 as_aux_lemma =>
                  refine adops_cut 4 (fun K' hK53 => ?_)
                  try dsimp only [List.drop_succ_cons, List.drop_zero, List.take_succ_cons, List.take_zero]
                  simp only [go_sem, hb6, hb35, hb37, hb50]
                  repeat with_reducible refine zN ?_
                  refine hK53 _ ?_
                  as_aux_lemma =>
                   refine adops_cut 4 (fun K' hK54 => ?_)
                   try dsimp only [List.drop_succ_cons, List.drop_zero, List.take_succ_cons, List.take_zero]
                   simp only [go_sem, hb6, hb35, hb37, hb50]
                   repeat with_reducible refine zN ?_
                   refine hK54 _ ?_
                   as_aux_lemma =>
                    refine adops_cut 4 (fun K' hK55 => ?_)
                    try dsimp only [List.drop_succ_cons, List.drop_zero, List.take_succ_cons, List.take_zero]
                    simp only [go_sem, hb6, hb35, hb37, hb50]
                    repeat with_reducible refine zN ?_
                    refine hK55 _ ?_
                    as_aux_lemma =>
                     refine adops_cut 4 (fun K' hK56 => ?_)
                     try dsimp only [List.drop_succ_cons, List.drop_zero, List.take_succ_cons, List.take_zero]
                     simp only [go_sem, hb6, hb35, hb37, hb50]
                     repeat with_reducible refine zN ?_
                     refine hK56 _ ?_
                     as_aux_lemma =>
                      refine adops_cut 4 (fun K' hK57 => ?_)
                      try dsimp only [List.drop_succ_cons, List.drop_zero, List.take_succ_cons, List.take_zero]
                      simp only [go_sem, hb6, hb35, hb37, hb50]
                      repeat with_reducible refine zN ?_
                      refine hK57 _ ?_
                      as_aux_lemma =>
                       refine adops_cut 1 (fun K' hK58 => ?_)
                       try dsimp only [List.drop_succ_cons, List.drop_zero, List.take_succ_cons, List.take_zero]
                       simp only [go_sem, hb6, hb35, hb37, hb50]
                       repeat with_reducible refine zN ?_
                       refine hK58 _ ?_
                       refine adops_nil ?_
                       refine athen_n ?_
                       refine zV [(2, .int .i64 st1.1), (3, .int .i64 st1.2.1), (4, .bp 4 0), (5, .bp 5 0), (10, .sl (.sl (.int .i64)) v0), (11, .own 95), (12, .int .i64 ((v0.getD st1.1.toNat []).getD st1.2.1.toNat 0)), (13, .int .i64 st2.1), (14, .int .i64 st2.2), (90, .bool true)] [(4, .box 24 [.int .i64 s.1, .int .i64 s.2.1, .sl (.sl (.int .i64)) s.2.2.1, .sl (.sl (.int .i64)) s.2.2.2]), (5, .box 24 [.int .i64 t.1, .int .i64 t.2.1, .sl (.sl (.int .i64)) t.2.2.1, .sl (.sl (.int .i64)) t.2.2.2]), (95, .arr 3 (.int .i64) st1.2.2)] gt ?_
                       as_aux_lemma =>
                        refine AW.cond (b := true) rfl (fun _ => ?_) (fun hb59 => by cases hb59)
                        refine AW.ops ?_
                        refine zA [(2, .int .i64 st1.1), (3, .int .i64 st1.2.1), (4, .bp 4 0), (5, .bp 5 0), (10, .sl (.sl (.int .i64)) v0), (11, .own 95), (12, .int .i64 ((v0.getD st1.1.toNat []).getD st1.2.1.toNat 0)), (13, .int .i64 st2.2), (14, .int .i64 st2.2)] [(4, .box 24 [.int .i64 s.1, .int .i64 s.2.1, .sl (.sl (.int .i64)) s.2.2.1, .sl (.sl (.int .i64)) s.2.2.2]), (5, .box 24 [.int .i64 t.1, .int .i64 t.2.1, .sl (.sl (.int .i64)) t.2.2.1, .sl (.sl (.int .i64)) t.2.2.2]), (95, .arr 3 (.int .i64) st1.2.2)] ?_
                        refine ablock_n ?_
                        refine athen_n ?_
                        refine AW.ops ?_
                        obtain ⟨c60, h⟩ := ck_some.1 h
                        refine zA [(2, .int .i64 st1.1), (3, .int .i64 st1.2.1), (4, .bp 4 0), (5, .bp 5 0), (10, .sl (.sl (.int .i64)) v0), (11, .own 95), (12, .int .i64 ((v0.getD st1.1.toNat []).getD st1.2.1.toNat 0)), (13, .int .i64 st2.2), (14, .int .i64 (st2.2 - 1))] [(4, .box 24 [.int .i64 s.1, .int .i64 s.2.1, .sl (.sl (.int .i64)) s.2.2.1, .sl (.sl (.int .i64)) s.2.2.2]), (5, .box 24 [.int .i64 t.1, .int .i64 t.2.1, .sl (.sl (.int .i64)) t.2.2.1, .sl (.sl (.int .i64)) t.2.2.2]), (95, .arr 3 (.int .i64) st1.2.2)] ?_
                        obtain rfl := Option.some.inj h
                        exact ⟨_, rfl, zL [] [] []⟩
              ·simp only [hb50]
               as_aux_lemma =>
                refine adops_cut 3 (fun K' hK61 => ?_)
                try dsimp only [List.drop_succ_cons, List.drop_zero, List.take_succ_cons, List.take_zero]
                simp only [go_sem, hb6, hb35, hb37, hb50]
                repeat with_reducible refine zN ?_
                refine hK61 _ ?_
                as_aux_lemma =>
                 rcases zI h with ⟨hb62, h⟩ | ⟨hb62, h⟩
                 ·simp only [hb62]
                  as_aux_lemma =>
                   obtain ⟨c64, h⟩ := ck_some.1 h
                   obtain ⟨c65, h⟩ := ck_some.1 h
                   refine adops_cut 6 (fun K' hK63 => ?_)
                   try dsimp only [List.drop_succ_cons, List.drop_zero, List.take_succ_cons, List.take_zero]
                   simp only [go_sem, hb6, hb35, hb37, hb50, hb62]
                   repeat with_reducible refine zN ?_
                   refine hK63 _ ?_
                   as_aux_lemma =>
                    obtain ⟨c67, h⟩ := ck_some.1 h
                    obtain ⟨c68, h⟩ := ck_some.1 h
                    obtain ⟨c69, h⟩ := ck_some.1 h
                    obtain ⟨c70, h⟩ := ck_some.1 h
                    refine adops_cut 6 (fun K' hK66 => ?_)
                    try dsimp only [List.drop_succ_cons, List.drop_zero, List.take_succ_cons, List.take_zero]
                    simp only [go_sem, hb6, hb35, hb37, hb50, hb62]
                    repeat with_reducible refine zN ?_
                    refine hK66 _ ?_
                    as_aux_lemma =>
                     obtain ⟨c72, h⟩ := ck_some.1 h
                     obtain ⟨c73, h⟩ := ck_some.1 h
                     obtain ⟨c74, h⟩ := ck_some.1 h
                     obtain ⟨c75, h⟩ := ck_some.1 h
                     refine adops_cut 6 (fun K' hK71 => ?_)
                     try dsimp only [List.drop_succ_cons, List.drop_zero, List.take_succ_cons, List.take_zero]
                     simp only [go_sem, hb6, hb35, hb37, hb50, hb62]
                     repeat with_reducible refine zN ?_
                     refine hK71 _ ?_
                     as_aux_lemma =>
                      obtain ⟨c77, h⟩ := ck_some.1 h
                      obtain ⟨c78, h⟩ := ck_some.1 h
                      obtain ⟨c79, h⟩ := ck_some.1 h
                      refine adops_cut 6 (fun K' hK76 => ?_)
                      try dsimp only [List.drop_succ_cons, List.drop_zero, List.take_succ_cons, List.take_zero]
                      simp only [go_sem, hb6, hb35, hb37, hb50, hb62]
                      repeat with_reducible refine zN ?_
                      refine hK76 _ ?_
                      as_aux_lemma =>
                       refine adops_cut 2 (fun K' hK80 => ?_)
                       try dsimp only [List.drop_succ_cons, List.drop_zero, List.take_succ_cons, List.take_zero]
                       simp only [go_sem, hb6, hb35, hb37, hb50, hb62]
                       repeat with_reducible refine zN ?_
                       refine hK80 _ ?_
                       refine adops_nil ?_
                       refine athen_n ?_
                       refine zV [(2, .int .i64 st1.1), (3, .int .i64 st1.2.1), (4, .bp 4 0), (5, .bp 5 0), (10, .sl (.sl (.int .i64)) v0), (11, .own 95), (12, .int .i64 ((v0.getD st1.1.toNat []).getD st1.2.1.toNat 0)), (13, .int .i64 st2.1), (14, .int .i64 st2.2), (90, .bool (decide (((v0.getD ((s.2.2.1.getD st1.1.toNat []).getD st2.2.toNat 0).toNat []).getD ((t.2.2.1.getD st1.2.1.toNat []).getD st2.2.toNat 0).toNat 0) = (((v0.getD st1.1.toNat []).getD st1.2.1.toNat 0) - 1))))] [(4, .box 24 [.int .i64 s.1, .int .i64 s.2.1, .sl (.sl (.int .i64)) s.2.2.1, .sl (.sl (.int .i64)) s.2.2.2]), (5, .box 24 [.int .i64 t.1, .int .i64 t.2.1, .sl (.sl (.int .i64)) t.2.2.1, .sl (.sl (.int .i64)) t.2.2.2]), (95, .arr 3 (.int .i64) st1.2.2)] gt ?_
                       as_aux_lemma =>
                        refine zQ h (fun hb81 h => ?_) (fun hb81 h => ?_)
                        ·refine AW.ops ?_
                         refine zA [(2, .int .i64 st1.1), (3, .int .i64 st1.2.1), (4, .bp 4 0), (5, .bp 5 0), (10, .sl (.sl (.int .i64)) v0), (11, .own 95), (12, .int .i64 ((v0.getD st1.1.toNat []).getD st1.2.1.toNat 0)), (13, .int .i64 st2.2), (14, .int .i64 st2.2)] [(4, .box 24 [.int .i64 s.1, .int .i64 s.2.1, .sl (.sl (.int .i64)) s.2.2.1, .sl (.sl (.int .i64)) s.2.2.2]), (5, .box 24 [.int .i64 t.1, .int .i64 t.2.1, .sl (.sl (.int .i64)) t.2.2.1, .sl (.sl (.int .i64)) t.2.2.2]), (95, .arr 3 (.int .i64) st1.2.2)] ?_
                         refine ablock_n ?_
                         refine athen_n ?_
                         refine AW.ops ?_
                         obtain ⟨c82, h⟩ := ck_some.1 h
                         refine zA [(2, .int .i64 st1.1), (3, .int .i64 st1.2.1), (4, .bp 4 0), (5, .bp 5 0), (10, .sl (.sl (.int .i64)) v0), (11, .own 95), (12, .int .i64 ((v0.getD st1.1.toNat []).getD st1.2.1.toNat 0)), (13, .int .i64 st2.2), (14, .int .i64 (st2.2 - 1))] [(4, .box 24 [.int .i64 s.1, .int .i64 s.2.1, .sl (.sl (.int .i64)) s.2.2.1, .sl (.sl (.int .i64)) s.2.2.2]), (5, .box 24 [.int .i64 t.1, .int .i64 t.2.1, .sl (.sl (.int .i64)) t.2.2.1, .sl (.sl (.int .i64)) t.2.2.2]), (95, .arr 3 (.int .i64) st1.2.2)] ?_
                         obtain rfl := Option.some.inj h
                         exact ⟨_, rfl, zL [] [] []⟩
                        ·refine zm ?_
                         refine athen_n ?_
                         refine AW.ops ?_
                         obtain ⟨c83, h⟩ := ck_some.1 h
                         refine zA [(2, .int .i64 st1.1), (3, .int .i64 st1.2.1), (4, .bp 4 0), (5, .bp 5 0), (10, .sl (.sl (.int .i64)) v0), (11, .own 95), (12, .int .i64 ((v0.getD st1.1.toNat []).getD st1.2.1.toNat 0)), (13, .int .i64 st2.1), (14, .int .i64 (st2.2 - 1))] [(4, .box 24 [.int .i64 s.1, .int .i64 s.2.1, .sl (.sl (.int .i64)) s.2.2.1, .sl (.sl (.int .i64)) s.2.2.2]), (5, .box 24 [.int .i64 t.1, .int .i64 t.2.1, .sl (.sl (.int .i64)) t.2.2.1, .sl (.sl (.int .i64)) t.2.2.2]), (95, .arr 3 (.int .i64) st1.2.2)] ?_
                         obtain rfl := Option.some.inj h
                         exact ⟨_, rfl, zL [] [] []⟩
                 ·simp only [hb62]
                  as_aux_lemma =>
                   refine adops_cut 4 (fun K' hK84 => ?_)
                   try dsimp only [List.drop_succ_cons, List.drop_zero, List.take_succ_cons, List.take_zero]
                   simp only [go_sem, hb6, hb35, hb37, hb50, hb62]
                   repeat with_reducible refine zN ?_
                   refine hK84 _ ?_
                   as_aux_lemma =>
                    refine adops_cut 4 (fun K' hK85 => ?_)
                    try dsimp only [List.drop_succ_cons, List.drop_zero, List.take_succ_cons, List.take_zero]
                    simp only [go_sem, hb6, hb35, hb37, hb50, hb62]
                    repeat with_reducible refine zN ?_
                    refine hK85 _ ?_
                    as_aux_lemma =>
                     refine adops_cut 4 (fun K' hK86 => ?_)
                     try dsimp only [List.drop_succ_cons, List.drop_zero, List.take_succ_cons, List.take_zero]
                     simp only [go_sem, hb6, hb35, hb37, hb50, hb62]
                     repeat with_reducible refine zN ?_
                     refine hK86 _ ?_
                     as_aux_lemma =>
                      refine adops_cut 4 (fun K' hK87 => ?_)
                      try dsimp only [List.drop_succ_cons, List.drop_zero, List.take_succ_cons, List.take_zero]
                      simp only [go_sem, hb6, hb35, hb37, hb50, hb62]
                      repeat with_reducible refine zN ?_
                      refine hK87 _ ?_
                      as_aux_lemma =>
                       refine adops_cut 4 (fun K' hK88 => ?_)
                       try dsimp only [List.drop_succ_cons, List.drop_zero, List.take_succ_cons, List.take_zero]
                       simp only [go_sem, hb6, hb35, hb37, hb50, hb62]
                       repeat with_reducible refine zN ?_
                       refine hK88 _ ?_
                       as_aux_lemma =>
                        refine adops_cut 4 (fun K' hK89 => ?_)
                        try dsimp only [List.drop_succ_cons, List.drop_zero, List.take_succ_cons, List.take_zero]
                        simp only [go_sem, hb6, hb35, hb37, hb50, hb62]
                        repeat with_reducible refine zN ?_
                        refine hK89 _ ?_
                        as_aux_lemma =>
                         refine adops_cut 2 (fun K' hK90 => ?_)
                         try dsimp only [List.drop_succ_cons, List.drop_zero, List.take_succ_cons, List.take_zero]
                         simp only [go_sem, hb6, hb35, hb37, hb50, hb62]
                         repeat with_reducible refine zN ?_
                         refine hK90 _ ?_
                         refine adops_nil ?_
                         refine athen_n ?_
                         refine zV [(2, .int .i64 st1.1), (3, .int .i64 st1.2.1), (4, .bp 4 0), (5, .bp 5 0), (10, .sl (.sl (.int .i64)) v0), (11, .own 95), (12, .int .i64 ((v0.getD st1.1.toNat []).getD st1.2.1.toNat 0)), (13, .int .i64 st2.1), (14, .int .i64 st2.2), (90, .bool false)] [(4, .box 24 [.int .i64 s.1, .int .i64 s.2.1, .sl (.sl (.int .i64)) s.2.2.1, .sl (.sl (.int .i64)) s.2.2.2]), (5, .box 24 [.int .i64 t.1, .int .i64 t.2.1, .sl (.sl (.int .i64)) t.2.2.1, .sl (.sl (.int .i64)) t.2.2.2]), (95, .arr 3 (.int .i64) st1.2.2)] gt ?_
                         as_aux_lemma =>
                          refine AW.cond (b := false) rfl (fun hb91 => by cases hb91) (fun _ => ?_)
                          refine zm ?_
                          refine athen_n ?_
                          refine AW.ops ?_
                          obtain ⟨c92, h⟩ := ck_some.1 h
                          refine zA [(2, .int .i64 st1.1), (3, .int .i64 st1.2.1), (4, .bp 4 0), (5, .bp 5 0), (10, .sl (.sl (.int .i64)) v0), (11, .own 95), (12, .int .i64 ((v0.getD st1.1.toNat []).getD st1.2.1.toNat 0)), (13, .int .i64 st2.1), (14, .int .i64 (st2.2 - 1))] [(4, .box 24 [.int .i64 s.1, .int .i64 s.2.1, .sl (.sl (.int .i64)) s.2.2.1, .sl (.sl (.int .i64)) s.2.2.2]), (5, .box 24 [.int .i64 t.1, .int .i64 t.2.1, .sl (.sl (.int .i64)) t.2.2.1, .sl (.sl (.int .i64)) t.2.2.2]), (95, .arr 3 (.int .i64) st1.2.2)] ?_
                          obtain rfl := Option.some.inj h
                          exact ⟨_, rfl, zL [] [] []⟩
        ·simp only [hb37]
         as_aux_lemma =>
          refine adops_cut 4 (fun K' hK93 => ?_)
          try dsimp only [List.drop_succ_cons, List.drop_zero, List.take_succ_cons, List.take_zero]
          simp only [go_sem, hb6, hb35, hb37]
          repeat with_reducible refine zN ?_
          refine hK93 _ ?_
          as_aux_lemma =>
           refine adops_cut 4 (fun K' hK94 => ?_)
           try dsimp only [List.drop_succ_cons, List.drop_zero, List.take_succ_cons, List.take_zero]
           simp only [go_sem, hb6, hb35, hb37]
           repeat with_reducible refine zN ?_
           refine hK94 _ ?_
           as_aux_lemma =>
            refine adops_cut 4 (fun K' hK95 => ?_)
            try dsimp only [List.drop_succ_cons, List.drop_zero, List.take_succ_cons, List.take_zero]
            simp only [go_sem, hb6, hb35, hb37]
            repeat with_reducible refine zN ?_
            refine hK95 _ ?_
            as_aux_lemma =>
             refine adops_cut 4 (fun K' hK96 => ?_)
             try dsimp only [List.drop_succ_cons, List.drop_zero, List.take_succ_cons, List.take_zero]
             simp only [go_sem, hb6, hb35, hb37]
             repeat with_reducible refine zN ?_
             refine hK96 _ ?_
             as_aux_lemma =>
              refine adops_cut 6 (fun K' hK97 => ?_)
              try dsimp only [List.drop_succ_cons, List.drop_zero, List.take_succ_cons, List.take_zero]
              simp only [go_sem, hb6, hb35, hb37]
              repeat with_reducible refine zN ?_
              refine hK97 _ ?_
              as_aux_lemma =>
               rcases zI h with ⟨hb98, h⟩ | ⟨hb98, h⟩
               ·simp only [hb98]
                as_aux_lemma =>
                 obtain ⟨c100, h⟩ := ck_some.1 h
                 obtain ⟨c101, h⟩ := ck_some.1 h
                 refine adops_cut 6 (fun K' hK99 => ?_)
                 try dsimp only [List.drop_succ_cons, List.drop_zero, List.take_succ_cons, List.take_zero]
                 simp only [go_sem, hb6, hb35, hb37, hb98]
                 repeat with_reducible refine zN ?_
                 refine hK99 _ ?_
                 as_aux_lemma =>
                  obtain ⟨c103, h⟩ := ck_some.1 h
                  obtain ⟨c104, h⟩ := ck_some.1 h
                  obtain ⟨c105, h⟩ := ck_some.1 h
                  obtain ⟨c106, h⟩ := ck_some.1 h
                  refine adops_cut 6 (fun K' hK102 => ?_)
                  try dsimp only [List.drop_succ_cons, List.drop_zero, List.take_succ_cons, List.take_zero]
                  simp only [go_sem, hb6, hb35, hb37, hb98]
                  repeat with_reducible refine zN ?_
                  refine hK102 _ ?_
                  as_aux_lemma =>
                   obtain ⟨c108, h⟩ := ck_some.1 h
                   obtain ⟨c109, h⟩ := ck_some.1 h
                   obtain ⟨c110, h⟩ := ck_some.1 h
                   obtain ⟨c111, h⟩ := ck_some.1 h
                   refine adops_cut 6 (fun K' hK107 => ?_)
                   try dsimp only [List.drop_succ_cons, List.drop_zero, List.take_succ_cons, List.take_zero]
                   simp only [go_sem, hb6, hb35, hb37, hb98]
                   repeat with_reducible refine zN ?_
                   refine hK107 _ ?_
                   as_aux_lemma =>
                    obtain ⟨c113, h⟩ := ck_some.1 h
                    obtain ⟨c114, h⟩ := ck_some.1 h
                    obtain ⟨c115, h⟩ := ck_some.1 h
                    refine adops_cut 6 (fun K' hK112 => ?_)
                    try dsimp only [List.drop_succ_cons, List.drop_zero, List.take_succ_cons, List.take_zero]
                    simp only [go_sem, hb6, hb35, hb37, hb98]
                    repeat with_reducible refine zN ?_
                    refine hK112 _ ?_
                    as_aux_lemma =>
                     refine adops_cut 2 (fun K' hK116 => ?_)
                     try dsimp only [List.drop_succ_cons, List.drop_zero, List.take_succ_cons, List.take_zero]
                     simp only [go_sem, hb6, hb35, hb37, hb98]
                     repeat with_reducible refine zN ?_
                     refine hK116 _ ?_
                     refine adops_nil ?_
                     refine athen_n ?_
                     refine zV [(2, .int .i64 st1.1), (3, .int .i64 st1.2.1), (4, .bp 4 0), (5, .bp 5 0), (10, .sl (.sl (.int .i64)) v0), (11, .own 95), (12, .int .i64 ((v0.getD st1.1.toNat []).getD st1.2.1.toNat 0)), (13, .int .i64 st2.1), (14, .int .i64 st2.2), (90, .bool (decide (((v0.getD ((s.2.2.1.getD st1.1.toNat []).getD st2.2.toNat 0).toNat []).getD ((t.2.2.1.getD st1.2.1.toNat []).getD st2.2.toNat 0).toNat 0) = (((v0.getD st1.1.toNat []).getD st1.2.1.toNat 0) - 1))))] [(4, .box 24 [.int .i64 s.1, .int .i64 s.2.1, .sl (.sl (.int .i64)) s.2.2.1, .sl (.sl (.int .i64)) s.2.2.2]), (5, .box 24 [.int .i64 t.1, .int .i64 t.2.1, .sl (.sl (.int .i64)) t.2.2.1, .sl (.sl (.int .i64)) t.2.2.2]), (95, .arr 3 (.int .i64) st1.2.2)] gt ?_
                     as_aux_lemma =>
                      refine zQ h (fun hb117 h => ?_) (fun hb117 h => ?_)
                      ·refine AW.ops ?_
                       refine zA [(2, .int .i64 st1.1), (3, .int .i64 st1.2.1), (4, .bp 4 0), (5, .bp 5 0), (10, .sl (.sl (.int .i64)) v0), (11, .own 95), (12, .int .i64 ((v0.getD st1.1.toNat []).getD st1.2.1.toNat 0)), (13, .int .i64 st2.2), (14, .int .i64 st2.2)] [(4, .box 24 [.int .i64 s.1, .int .i64 s.2.1, .sl (.sl (.int .i64)) s.2.2.1, .sl (.sl (.int .i64)) s.2.2.2]), (5, .box 24 [.int .i64 t.1, .int .i64 t.2.1, .sl (.sl (.int .i64)) t.2.2.1, .sl (.sl (.int .i64)) t.2.2.2]), (95, .arr 3 (.int .i64) st1.2.2)] ?_
                       refine ablock_n ?_
                       refine athen_n ?_
                       refine AW.ops ?_
                       obtain ⟨c118, h⟩ := ck_some.1 h
                       refine zA [(2, .int .i64 st1.1), (3, .int .i64 st1.2.1), (4, .bp 4 0), (5, .bp 5 0), (10, .sl (.sl (.int .i64)) v0), (11, .own 95), (12, .int .i64 ((v0.getD st1.1.toNat []).getD st1.2.1.toNat 0)), (13, .int .i64 st2.2), (14, .int .i64 (st2.2 - 1))] [(4, .box 24 [.int .i64 s.1, .int .i64 s.2.1, .sl (.sl (.int .i64)) s.2.2.1, .sl (.sl (.int .i64)) s.2.2.2]), (5, .box 24 [.int .i64 t.1, .int .i64 t.2.1, .sl (.sl (.int .i64)) t.2.2.1, .sl (.sl (.int .i64)) t.2.2.2]), (95, .arr 3 (.int .i64) st1.2.2)] ?_
                       obtain rfl := Option.some.inj h
                       exact ⟨_, rfl, zL [] [] []⟩
                      ·refine zm ?_
                       refine athen_n ?_
                       refine AW.ops ?_
                       obtain ⟨c119, h⟩ := ck_some.1 h
                       refine zA [(2, .int .i64 st1.1), (3, .int .i64 st1.2.1), (4, .bp 4 0), (5, .bp 5 0), (10, .sl (.sl (.int .i64)) v0), (11, .own 95), (12, .int .i64 ((v0.getD st1.1.toNat []).getD st1.2.1.toNat 0)), (13, .int .i64 st2.1), (14, .int .i64 (st2.2 - 1))] [(4, .box 24 [.int .i64 s.1, .int .i64 s.2.1, .sl (.sl (.int .i64)) s.2.2.1, .sl (.sl (.int .i64)) s.2.2.2]), (5, .box 24 [.int .i64 t.1, .int .i64 t.2.1, .sl (.sl (.int .i64)) t.2.2.1, .sl (.sl (.int .i64)) t.2.2.2]), (95, .arr 3 (.int .i64) st1.2.2)] ?_
                       obtain rfl := Option.some.inj h
                       exact ⟨_, rfl, zL [] [] []⟩
               ·simp only [hb98]
                as_aux_lemma =>
                 refine adops_cut 4 (fun K' hK120 => ?_)
                 try dsimp only [List.drop_succ_cons, List.drop_zero, List.take_succ_cons, List.take_zero]
                 simp only [go_sem, hb6, hb35, hb37, hb98]
                 repeat with_reducible refine zN ?_
                 refine hK120 _ ?_
                 as_aux_lemma =>
                  refine adops_cut 4 (fun K' hK121 => ?_)
                  try dsimp only [List.drop_succ_cons, List.drop_zero, List.take_succ_cons, List.take_zero]
                  simp only [go_sem, hb6, hb35, hb37, hb98]
                  repeat with_reducible refine zN ?_
                  refine hK121 _ ?_
                  as_aux_lemma =>
                   refine adops_cut 4 (fun K' hK122 => ?_)
                   try dsimp only [List.drop_succ_cons, List.drop_zero, List.take_succ_cons, List.take_zero]
                   simp only [go_sem, hb6, hb35, hb37, hb98]
                   repeat with_reducible refine zN ?_
                   refine hK122 _ ?_
                   as_aux_lemma =>
                    refine adops_cut 4 (fun K' hK123 => ?_)
                    try dsimp only [List.drop_succ_cons, List.drop_zero, List.take_succ_cons, List.take_zero]
                    simp only [go_sem, hb6, hb35, hb37, hb98]
                    repeat with_reducible refine zN ?_
                    refine hK123 _ ?_
                    as_aux_lemma =>
                     refine adops_cut 4 (fun K' hK124 => ?_)
                     try dsimp only [List.drop_succ_cons, List.drop_zero, List.take_succ_cons, List.take_zero]
                     simp only [go_sem, hb6, hb35, hb37, hb98]
                     repeat with_reducible refine zN ?_
                     refine hK124 _ ?_
                     as_aux_lemma =>
                      refine adops_cut 4 (fun K' hK125 => ?_)
                      try dsimp only [List.drop_succ_cons, List.drop_zero, List.take_succ_cons, List.take_zero]
                      simp only [go_sem, hb6, hb35, hb37, hb98]
                      repeat with_reducible refine zN ?_
                      refine hK125 _ ?_
                      as_aux_lemma =>
                       refine adops_cut 2 (fun K' hK126 => ?_)
                       try dsimp only [List.drop_succ_cons, List.drop_zero, List.take_succ_cons, List.take_zero]
                       simp only [go_sem, hb6, hb35, hb37, hb98]
                       repeat with_reducible refine zN ?_
                       refine hK126 _ ?_
                       refine adops_nil ?_
                       refine athen_n ?_
                       refine zV [(2, .int .i64 st1.1), (3, .int .i64 st1.2.1), (4, .bp 4 0), (5, .bp 5 0), (10, .sl (.sl (.int .i64)) v0), (11, .own 95), (12, .int .i64 ((v0.getD st1.1.toNat []).getD st1.2.1.toNat 0)), (13, .int .i64 st2.1), (14, .int .i64 st2.2), (90, .bool false)] [(4, .box 24 [.int .i64 s.1, .int .i64 s.2.1, .sl (.sl (.int .i64)) s.2.2.1, .sl (.sl (.int .i64)) s.2.2.2]), (5, .box 24 [.int .i64 t.1, .int .i64 t.2.1, .sl (.sl (.int .i64)) t.2.2.1, .sl (.sl (.int .i64)) t.2.2.2]), (95, .arr 3 (.int .i64) st1.2.2)] gt ?_
                       as_aux_lemma =>
                        refine AW.cond (b := false) rfl (fun hb127 => by cases hb127) (fun _ => ?_)
                        refine zm ?_
                        refine athen_n ?_
                        refine AW.ops ?_
                        obtain ⟨c128, h⟩ := ck_some.1 h
                        refine zA [(2, .int .i64 st1.1), (3, .int .i64 st1.2.1), (4, .bp 4 0), (5, .bp 5 0), (10, .sl (.sl (.int .i64)) v0), (11, .own 95), (12, .int .i64 ((v0.getD st1.1.toNat []).getD st1.2.1.toNat 0)), (13, .int .i64 st2.1), (14, .int .i64 (st2.2 - 1))] [(4, .box 24 [.int .i64 s.1, .int .i64 s.2.1, .sl (.sl (.int .i64)) s.2.2.1, .sl (.sl (.int .i64)) s.2.2.2]), (5, .box 24 [.int .i64 t.1, .int .i64 t.2.1, .sl (.sl (.int .i64)) t.2.2.1, .sl (.sl (.int .i64)) t.2.2.2]), (95, .arr 3 (.int .i64) st1.2.2)] ?_
                        obtain rfl := Option.some.inj h
                        exact ⟨_, rfl, zL [] [] []⟩
     ·refine AW.exit ?_
      refine athen_e ?_
      obtain rfl := Option.some.inj h
      rw [← hd32 _ rfl] at ho31
      have h := ho31
      refine athen_e ?_
      refine ablock_s ?_
      refine athen_n ?_
      exact AW.weaken (zL [] [] []) (hk_linealref01_told_k1 _ h)

end Go.Proofs.Ytcgflignbhmoaaa
