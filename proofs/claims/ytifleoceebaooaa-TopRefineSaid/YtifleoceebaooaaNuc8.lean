/-
  Made by wip/tool/dc.py out of the print of the program: contracts.
-/
import Derived.Test.YtifleoceebaooaaRfp
import Derived.Test.YtifleoceebaooaaShr
import Derived.Test.YtifleoceebaooaaAvd
import Derived.Test.YtifleoceebaooaaNuc2
import Derived.Test.YtifleoceebaooaaNuc5
namespace Go.Proofs.Ytifleoceebaooaa
open Go.RowKit

set_option linter.unusedSimpArgs false
set_option linter.unusedVariables false
set_option linter.constructorNameAsVariable false

set_option maxRecDepth 100000
set_option maxHeartbeats 2000000

theorem hc_linealref05_isRelation (r0 : List (Int × Int)) (m : Int) (n : Int) {r : Bool} (h : linealref05_isRelation r0 m n = some r) : HC Try.prog 89 [] [.sl (.pair (.int .i64) (.int .i64)) r0, .int .i64 m, .int .i64 n] [] (.bool r) := by
 unfold linealref05_isRelation at h
 refine zH Try.func89 [.tmp 6] 72 ?_
 refine zo ?_
 refine zB [(0, .sl (.pair (.int .i64) (.int .i64)) r0), (1, .int .i64 m), (2, .int .i64 n)] [] ?_
 refine AW.have1 (fun _ : Unit => linealref05_isRelation_k1 = some r) (fun _ => ⟨fr [], hpGet [], gt⟩) (fun _ h => ?_) (fun hk_linealref05_isRelation_k1 => ?_)
 ·as_aux_lemma =>
   unfold linealref05_isRelation_k1 at h
   refine zo ?_
   refine zB [(6, .bool true)] [] ?_
   refine AW.ret ?_
   obtain rfl := Option.some.inj h
   exact zR [] [] []
 ·refine AW.seq ?_
  refine zo ?_
  refine zB [(0, .sl (.pair (.int .i64) (.int .i64)) r0), (1, .int .i64 m), (2, .int .i64 n), (9, .sl (.pair (.int .i64) (.int .i64)) r0), (10, .int .i64 (r0.length : Int)), (11, .int .i64 0)] [] ?_
  refine AW.block ?_
  obtain ⟨rv5, hw1, ho2⟩ := Option.bind_eq_some_iff.1 h
  refine AW.loopO (linealref05_isRelation_b1 r0 m n) (fun st1 => ⟨fr [(0, .sl (.pair (.int .i64) (.int .i64)) r0), (1, .int .i64 m), (2, .int .i64 n), (9, .sl (.pair (.int .i64) (.int .i64)) r0), (10, .int .i64 (r0.length : Int)), (11, .int .i64 st1)], hpGet [], gt⟩) 0 hw1 (zL [] [] []) ?_
  as_aux_lemma =>
   intro st1 x4 h hd3
   unfold linealref05_isRelation_b1 at h
   refine zo ?_
   refine zB [(0, .sl (.pair (.int .i64) (.int .i64)) r0), (1, .int .i64 m), (2, .int .i64 n), (9, .sl (.pair (.int .i64) (.int .i64)) r0), (10, .int .i64 (r0.length : Int)), (11, .int .i64 st1), (12, .bool (decide (st1 < (r0.length : Int))))] [] ?_
   refine AW.seq ?_
   refine zQ h (fun hb6 h => ?_) (fun hb6 h => ?_)
   ·refine zk ?_
    refine AW.seq ?_
    refine AW.block ?_
    refine zo ?_
    obtain ⟨c7, h⟩ := ck_some.1 h
    obtain ⟨c8, h⟩ := ck_some.1 h
    refine zS 5 [(0, .sl (.pair (.int .i64) (.int .i64)) r0), (1, .int .i64 m), (2, .int .i64 n), (7, .int .i64 st1), (8, .bp 8 0), (9, .sl (.pair (.int .i64) (.int .i64)) r0), (10, .int .i64 (r0.length : Int)), (11, .int .i64 st1), (15, .agg [.int .i64 (r0.getD st1.toNat (0, 0)).1, .int .i64 (r0.getD st1.toNat (0, 0)).2])] [(8, .box 58 [.int .i64 0, .int .i64 0])] ?_
    refine zB [(0, .sl (.pair (.int .i64) (.int .i64)) r0), (1, .int .i64 m), (2, .int .i64 n), (7, .int .i64 st1), (8, .bp 8 0), (9, .sl (.pair (.int .i64) (.int .i64)) r0), (10, .int .i64 (r0.length : Int)), (11, .int .i64 st1)] [(8, .box 58 [.int .i64 (r0.getD st1.toNat (0, 0)).1, .int .i64 (r0.getD st1.toNat (0, 0)).2])] ?_
    refine AW.seq ?_
    refine zo ?_
    refine zS 4 [(0, .sl (.pair (.int .i64) (.int .i64)) r0), (1, .int .i64 m), (2, .int .i64 n), (7, .int .i64 st1), (8, .bp 8 0), (9, .sl (.pair (.int .i64) (.int .i64)) r0), (10, .int .i64 (r0.length : Int)), (11, .int .i64 st1), (19, .bool (decide ((r0.getD st1.toNat (0, 0)).1 < 0)))] [(8, .box 58 [.int .i64 (r0.getD st1.toNat (0, 0)).1, .int .i64 (r0.getD st1.toNat (0, 0)).2])] ?_
    rcases zI h with ⟨hb9, h⟩ | ⟨hb9, h⟩
    ·refine zS 4 [(0, .sl (.pair (.int .i64) (.int .i64)) r0), (1, .int .i64 m), (2, .int .i64 n), (7, .int .i64 st1), (8, .bp 8 0), (9, .sl (.pair (.int .i64) (.int .i64)) r0), (10, .int .i64 (r0.length : Int)), (11, .int .i64 st1), (19, .bool true), (23, .cv (undef))] [(8, .box 58 [.int .i64 (r0.getD st1.toNat (0, 0)).1, .int .i64 (r0.getD st1.toNat (0, 0)).2])] ?_
     refine zS 5 [(0, .sl (.pair (.int .i64) (.int .i64)) r0), (1, .int .i64 m), (2, .int .i64 n), (7, .int .i64 st1), (8, .bp 8 0), (9, .sl (.pair (.int .i64) (.int .i64)) r0), (10, .int .i64 (r0.length : Int)), (11, .int .i64 st1), (25, .bool true), (28, .cv (undef))] [(8, .box 58 [.int .i64 (r0.getD st1.toNat (0, 0)).1, .int .i64 (r0.getD st1.toNat (0, 0)).2])] ?_
     refine zS 5 [(0, .sl (.pair (.int .i64) (.int .i64)) r0), (1, .int .i64 m), (2, .int .i64 n), (7, .int .i64 st1), (8, .bp 8 0), (9, .sl (.pair (.int .i64) (.int .i64)) r0), (10, .int .i64 (r0.length : Int)), (11, .int .i64 st1), (30, .bool true), (32, .cv (undef)), (33, .cv (undef))] [(8, .box 58 [.int .i64 (r0.getD st1.toNat (0, 0)).1, .int .i64 (r0.getD st1.toNat (0, 0)).2])] ?_
     refine zB [(0, .sl (.pair (.int .i64) (.int .i64)) r0), (1, .int .i64 m), (2, .int .i64 n), (7, .int .i64 st1), (8, .bp 8 0), (9, .sl (.pair (.int .i64) (.int .i64)) r0), (10, .int .i64 (r0.length : Int)), (11, .int .i64 st1), (35, .bool true)] [(8, .box 58 [.int .i64 (r0.getD st1.toNat (0, 0)).1, .int .i64 (r0.getD st1.toNat (0, 0)).2])] ?_
     refine AW.cond (b := true) rfl (fun _ => ?_) (fun hb10 => by cases hb10)
     refine zo ?_
     refine zB [(6, .bool false)] [] ?_
     refine zr ?_
     refine ablock_r ?_
     refine athen_r ?_
     obtain rfl := Option.some.inj h
     rw [← hd3 _ rfl] at ho2
     have h := ho2
     try simp only at h
     refine athen_r ?_
     refine ablock_r ?_
     refine athen_r ?_
     obtain rfl := Option.some.inj h
     exact zR [] [] []
    ·refine zS 5 [(0, .sl (.pair (.int .i64) (.int .i64)) r0), (1, .int .i64 m), (2, .int .i64 n), (7, .int .i64 st1), (8, .bp 8 0), (9, .sl (.pair (.int .i64) (.int .i64)) r0), (10, .int .i64 (r0.length : Int)), (11, .int .i64 st1), (24, .bool (decide (m ≤ (r0.getD st1.toNat (0, 0)).1)))] [(8, .box 58 [.int .i64 (r0.getD st1.toNat (0, 0)).1, .int .i64 (r0.getD st1.toNat (0, 0)).2])] ?_
     refine zS 1 [(0, .sl (.pair (.int .i64) (.int .i64)) r0), (1, .int .i64 m), (2, .int .i64 n), (7, .int .i64 st1), (8, .bp 8 0), (9, .sl (.pair (.int .i64) (.int .i64)) r0), (10, .int .i64 (r0.length : Int)), (11, .int .i64 st1), (25, .bool (decide (m ≤ (r0.getD st1.toNat (0, 0)).1)))] [(8, .box 58 [.int .i64 (r0.getD st1.toNat (0, 0)).1, .int .i64 (r0.getD st1.toNat (0, 0)).2])] ?_
     rcases zI h with ⟨hb11, h⟩ | ⟨hb11, h⟩
     ·refine zS 5 [(0, .sl (.pair (.int .i64) (.int .i64)) r0), (1, .int .i64 m), (2, .int .i64 n), (7, .int .i64 st1), (8, .bp 8 0), (9, .sl (.pair (.int .i64) (.int .i64)) r0), (10, .int .i64 (r0.length : Int)), (11, .int .i64 st1), (30, .bool true)] [(8, .box 58 [.int .i64 (r0.getD st1.toNat (0, 0)).1, .int .i64 (r0.getD st1.toNat (0, 0)).2])] ?_
      refine zS 4 [(0, .sl (.pair (.int .i64) (.int .i64)) r0), (1, .int .i64 m), (2, .int .i64 n), (7, .int .i64 st1), (8, .bp 8 0), (9, .sl (.pair (.int .i64) (.int .i64)) r0), (10, .int .i64 (r0.length : Int)), (11, .int .i64 st1), (30, .bool true), (34, .cv (undef))] [(8, .box 58 [.int .i64 (r0.getD st1.toNat (0, 0)).1, .int .i64 (r0.getD st1.toNat (0, 0)).2])] ?_
      refine zB [(0, .sl (.pair (.int .i64) (.int .i64)) r0), (1, .int .i64 m), (2, .int .i64 n), (7, .int .i64 st1), (8, .bp 8 0), (9, .sl (.pair (.int .i64) (.int .i64)) r0), (10, .int .i64 (r0.length : Int)), (11, .int .i64 st1), (35, .bool true)] [(8, .box 58 [.int .i64 (r0.getD st1.toNat (0, 0)).1, .int .i64 (r0.getD st1.toNat (0, 0)).2])] ?_
      refine AW.cond (b := true) rfl (fun _ => ?_) (fun hb12 => by cases hb12)
      refine zo ?_
      refine zB [(6, .bool false)] [] ?_
      refine zr ?_
      refine ablock_r ?_
      refine athen_r ?_
      obtain rfl := Option.some.inj h
      rw [← hd3 _ rfl] at ho2
      have h := ho2
      try simp only at h
      refine athen_r ?_
      refine ablock_r ?_
      refine athen_r ?_
      obtain rfl := Option.some.inj h
      exact zR [] [] []
     ·refine zS 5 [(0, .sl (.pair (.int .i64) (.int .i64)) r0), (1, .int .i64 m), (2, .int .i64 n), (7, .int .i64 st1), (8, .bp 8 0), (9, .sl (.pair (.int .i64) (.int .i64)) r0), (10, .int .i64 (r0.length : Int)), (11, .int .i64 st1), (30, .bool (decide ((r0.getD st1.toNat (0, 0)).2 < 0)))] [(8, .box 58 [.int .i64 (r0.getD st1.toNat (0, 0)).1, .int .i64 (r0.getD st1.toNat (0, 0)).2])] ?_
      rcases zI h with ⟨hb13, h⟩ | ⟨hb13, h⟩
      ·refine zS 4 [(0, .sl (.pair (.int .i64) (.int .i64)) r0), (1, .int .i64 m), (2, .int .i64 n), (7, .int .i64 st1), (8, .bp 8 0), (9, .sl (.pair (.int .i64) (.int .i64)) r0), (10, .int .i64 (r0.length : Int)), (11, .int .i64 st1), (30, .bool true), (34, .cv (undef))] [(8, .box 58 [.int .i64 (r0.getD st1.toNat (0, 0)).1, .int .i64 (r0.getD st1.toNat (0, 0)).2])] ?_
       refine zB [(0, .sl (.pair (.int .i64) (.int .i64)) r0), (1, .int .i64 m), (2, .int .i64 n), (7, .int .i64 st1), (8, .bp 8 0), (9, .sl (.pair (.int .i64) (.int .i64)) r0), (10, .int .i64 (r0.length : Int)), (11, .int .i64 st1), (35, .bool true)] [(8, .box 58 [.int .i64 (r0.getD st1.toNat (0, 0)).1, .int .i64 (r0.getD st1.toNat (0, 0)).2])] ?_
       refine AW.cond (b := true) rfl (fun _ => ?_) (fun hb14 => by cases hb14)
       refine zo ?_
       refine zB [(6, .bool false)] [] ?_
       refine zr ?_
       refine ablock_r ?_
       refine athen_r ?_
       obtain rfl := Option.some.inj h
       rw [← hd3 _ rfl] at ho2
       have h := ho2
       try simp only at h
       refine athen_r ?_
       refine ablock_r ?_
       refine athen_r ?_
       obtain rfl := Option.some.inj h
       exact zR [] [] []
      ·refine zB [(0, .sl (.pair (.int .i64) (.int .i64)) r0), (1, .int .i64 m), (2, .int .i64 n), (7, .int .i64 st1), (8, .bp 8 0), (9, .sl (.pair (.int .i64) (.int .i64)) r0), (10, .int .i64 (r0.length : Int)), (11, .int .i64 st1), (35, .bool (decide (n ≤ (r0.getD st1.toNat (0, 0)).2)))] [(8, .box 58 [.int .i64 (r0.getD st1.toNat (0, 0)).1, .int .i64 (r0.getD st1.toNat (0, 0)).2])] ?_
       refine zQ h (fun hb15 h => ?_) (fun hb15 h => ?_)
       ·refine zo ?_
        refine zB [(6, .bool false)] [] ?_
        refine zr ?_
        refine ablock_r ?_
        refine athen_r ?_
        obtain rfl := Option.some.inj h
        rw [← hd3 _ rfl] at ho2
        have h := ho2
        try simp only at h
        refine athen_r ?_
        refine ablock_r ?_
        refine athen_r ?_
        obtain rfl := Option.some.inj h
        exact zR [] [] []
       ·refine zk ?_
        refine AW.seq ?_
        refine AW.draw tab_ok mixed_ok [] [] (by decide) (lex_fast (by kernel_rfl)) ?_
        as_aux_lemma =>
         refine adops_cut 3 (fun K' hK16 => ?_)
         try dsimp only [List.drop_succ_cons, List.drop_zero, List.take_succ_cons, List.take_zero]
         simp only [go_sem, hb6, hb9, hb11, hb13, hb15]
         repeat with_reducible refine zN ?_
         refine hK16 _ ?_
         as_aux_lemma =>
          rcases zI h with ⟨hb17, h⟩ | ⟨hb17, h⟩
          ·simp only [hb17]
           as_aux_lemma =>
            obtain ⟨c19, h⟩ := ck_some.1 h
            obtain ⟨c20, h⟩ := ck_some.1 h
            obtain ⟨c21, h⟩ := ck_some.1 h
            refine adops_cut 6 (fun K' hK18 => ?_)
            try dsimp only [List.drop_succ_cons, List.drop_zero, List.take_succ_cons, List.take_zero]
            simp only [go_sem, hb6, hb9, hb11, hb13, hb15, hb17]
            repeat with_reducible refine zN ?_
            refine hK18 _ ?_
            as_aux_lemma =>
             refine adops_cut 4 (fun K' hK22 => ?_)
             try dsimp only [List.drop_succ_cons, List.drop_zero, List.take_succ_cons, List.take_zero]
             simp only [go_sem, hb6, hb9, hb11, hb13, hb15, hb17]
             repeat with_reducible refine zN ?_
             refine hK22 _ ?_
             as_aux_lemma =>
              rcases zI h with ⟨hb23, h⟩ | ⟨hb23, h⟩
              ·simp only [hb23]
               as_aux_lemma =>
                refine adops_cut 4 (fun K' hK24 => ?_)
                try dsimp only [List.drop_succ_cons, List.drop_zero, List.take_succ_cons, List.take_zero]
                simp only [go_sem, hb6, hb9, hb11, hb13, hb15, hb17, hb23]
                repeat with_reducible refine zN ?_
                refine hK24 _ ?_
                as_aux_lemma =>
                 refine adops_cut 4 (fun K' hK25 => ?_)
                 try dsimp only [List.drop_succ_cons, List.drop_zero, List.take_succ_cons, List.take_zero]
                 simp only [go_sem, hb6, hb9, hb11, hb13, hb15, hb17, hb23]
                 repeat with_reducible refine zN ?_
                 refine hK25 _ ?_
                 as_aux_lemma =>
                  refine adops_cut 4 (fun K' hK26 => ?_)
                  try dsimp only [List.drop_succ_cons, List.drop_zero, List.take_succ_cons, List.take_zero]
                  simp only [go_sem, hb6, hb9, hb11, hb13, hb15, hb17, hb23]
                  repeat with_reducible refine zN ?_
                  refine hK26 _ ?_
                  as_aux_lemma =>
                   refine adops_cut 4 (fun K' hK27 => ?_)
                   try dsimp only [List.drop_succ_cons, List.drop_zero, List.take_succ_cons, List.take_zero]
                   simp only [go_sem, hb6, hb9, hb11, hb13, hb15, hb17, hb23]
                   repeat with_reducible refine zN ?_
                   refine hK27 _ ?_
                   as_aux_lemma =>
                    refine adops_cut 4 (fun K' hK28 => ?_)
                    try dsimp only [List.drop_succ_cons, List.drop_zero, List.take_succ_cons, List.take_zero]
                    simp only [go_sem, hb6, hb9, hb11, hb13, hb15, hb17, hb23]
                    repeat with_reducible refine zN ?_
                    refine hK28 _ ?_
                    as_aux_lemma =>
                     refine adops_cut 2 (fun K' hK29 => ?_)
                     try dsimp only [List.drop_succ_cons, List.drop_zero, List.take_succ_cons, List.take_zero]
                     simp only [go_sem, hb6, hb9, hb11, hb13, hb15, hb17, hb23]
                     repeat with_reducible refine zN ?_
                     refine hK29 _ ?_
                     refine adops_nil ?_
                     refine athen_n ?_
                     refine zV [(0, .sl (.pair (.int .i64) (.int .i64)) r0), (1, .int .i64 m), (2, .int .i64 n), (9, .sl (.pair (.int .i64) (.int .i64)) r0), (10, .int .i64 (r0.length : Int)), (11, .int .i64 st1), (70, .bool true)] [] gt ?_
                     as_aux_lemma =>
                      refine AW.cond (b := true) rfl (fun _ => ?_) (fun hb30 => by cases hb30)
                      refine zo ?_
                      refine zB [(6, .bool false)] [] ?_
                      refine AW.ret ?_
                      refine ablock_r ?_
                      refine athen_r ?_
                      obtain rfl := Option.some.inj h
                      rw [← hd3 _ rfl] at ho2
                      have h := ho2
                      try simp only at h
                      refine athen_r ?_
                      refine ablock_r ?_
                      refine athen_r ?_
                      obtain rfl := Option.some.inj h
                      exact zR [] [] []
              ·simp only [hb23]
               as_aux_lemma =>
                obtain ⟨c32, h⟩ := ck_some.1 h
                obtain ⟨c33, h⟩ := ck_some.1 h
                obtain ⟨c34, h⟩ := ck_some.1 h
                refine adops_cut 6 (fun K' hK31 => ?_)
                try dsimp only [List.drop_succ_cons, List.drop_zero, List.take_succ_cons, List.take_zero]
                simp only [go_sem, hb6, hb9, hb11, hb13, hb15, hb17, hb23]
                repeat with_reducible refine zN ?_
                refine hK31 _ ?_
                as_aux_lemma =>
                 refine adops_cut 4 (fun K' hK35 => ?_)
                 try dsimp only [List.drop_succ_cons, List.drop_zero, List.take_succ_cons, List.take_zero]
                 simp only [go_sem, hb6, hb9, hb11, hb13, hb15, hb17, hb23]
                 repeat with_reducible refine zN ?_
                 refine hK35 _ ?_
                 as_aux_lemma =>
                  rcases zI h with ⟨hb36, h⟩ | ⟨hb36, h⟩
                  ·simp only [hb36]
                   as_aux_lemma =>
                    obtain ⟨c38, h⟩ := ck_some.1 h
                    obtain ⟨c39, h⟩ := ck_some.1 h
                    obtain ⟨c40, h⟩ := ck_some.1 h
                    refine adops_cut 6 (fun K' hK37 => ?_)
                    try dsimp only [List.drop_succ_cons, List.drop_zero, List.take_succ_cons, List.take_zero]
                    simp only [go_sem, hb6, hb9, hb11, hb13, hb15, hb17, hb23, hb36]
                    repeat with_reducible refine zN ?_
                    refine hK37 _ ?_
                    as_aux_lemma =>
                     refine adops_cut 6 (fun K' hK41 => ?_)
                     try dsimp only [List.drop_succ_cons, List.drop_zero, List.take_succ_cons, List.take_zero]
                     simp only [go_sem, hb6, hb9, hb11, hb13, hb15, hb17, hb23, hb36]
                     repeat with_reducible refine zN ?_
                     refine hK41 _ ?_
                     refine adops_nil ?_
                     refine athen_n ?_
                     refine zV [(0, .sl (.pair (.int .i64) (.int .i64)) r0), (1, .int .i64 m), (2, .int .i64 n), (9, .sl (.pair (.int .i64) (.int .i64)) r0), (10, .int .i64 (r0.length : Int)), (11, .int .i64 st1), (70, .bool (decide ((r0.getD st1.toNat (0, 0)).2 ≤ (r0.getD (st1 - 1).toNat (0, 0)).2)))] [] gt ?_
                     as_aux_lemma =>
                      refine zQ h (fun hb42 h => ?_) (fun hb42 h => ?_)
                      ·refine zo ?_
                       refine zB [(6, .bool false)] [] ?_
                       refine AW.ret ?_
                       refine ablock_r ?_
                       refine athen_r ?_
                       obtain rfl := Option.some.inj h
                       rw [← hd3 _ rfl] at ho2
                       have h := ho2
                       try simp only at h
                       refine athen_r ?_
                       refine ablock_r ?_
                       refine athen_r ?_
                       obtain rfl := Option.some.inj h
                       exact zR [] [] []
                      ·refine zm ?_
                       refine athen_n ?_
                       refine AW.ops ?_
                       obtain ⟨c43, h⟩ := ck_some.1 h
                       refine zA [(0, .sl (.pair (.int .i64) (.int .i64)) r0), (1, .int .i64 m), (2, .int .i64 n), (9, .sl (.pair (.int .i64) (.int .i64)) r0), (10, .int .i64 (r0.length : Int)), (11, .int .i64 (st1 + 1))] [] ?_
                       obtain rfl := Option.some.inj h
                       exact ⟨_, rfl, zL [] [] []⟩
                  ·simp only [hb36]
                   as_aux_lemma =>
                    refine adops_cut 4 (fun K' hK44 => ?_)
                    try dsimp only [List.drop_succ_cons, List.drop_zero, List.take_succ_cons, List.take_zero]
                    simp only [go_sem, hb6, hb9, hb11, hb13, hb15, hb17, hb23, hb36]
                    repeat with_reducible refine zN ?_
                    refine hK44 _ ?_
                    as_aux_lemma =>
                     refine adops_cut 4 (fun K' hK45 => ?_)
                     try dsimp only [List.drop_succ_cons, List.drop_zero, List.take_succ_cons, List.take_zero]
                     simp only [go_sem, hb6, hb9, hb11, hb13, hb15, hb17, hb23, hb36]
                     repeat with_reducible refine zN ?_
                     refine hK45 _ ?_
                     as_aux_lemma =>
                      refine adops_cut 4 (fun K' hK46 => ?_)
                      try dsimp only [List.drop_succ_cons, List.drop_zero, List.take_succ_cons, List.take_zero]
                      simp only [go_sem, hb6, hb9, hb11, hb13, hb15, hb17, hb23, hb36]
                      repeat with_reducible refine zN ?_
                      refine hK46 _ ?_
                      refine adops_nil ?_
                      refine athen_n ?_
                      refine zV [(0, .sl (.pair (.int .i64) (.int .i64)) r0), (1, .int .i64 m), (2, .int .i64 n), (9, .sl (.pair (.int .i64) (.int .i64)) r0), (10, .int .i64 (r0.length : Int)), (11, .int .i64 st1), (70, .bool false)] [] gt ?_
                      as_aux_lemma =>
                       refine AW.cond (b := false) rfl (fun hb47 => by cases hb47) (fun _ => ?_)
                       refine zm ?_
                       refine athen_n ?_
                       refine AW.ops ?_
                       obtain ⟨c48, h⟩ := ck_some.1 h
                       refine zA [(0, .sl (.pair (.int .i64) (.int .i64)) r0), (1, .int .i64 m), (2, .int .i64 n), (9, .sl (.pair (.int .i64) (.int .i64)) r0), (10, .int .i64 (r0.length : Int)), (11, .int .i64 (st1 + 1))] [] ?_
                       obtain rfl := Option.some.inj h
                       exact ⟨_, rfl, zL [] [] []⟩
          ·simp only [hb17]
           as_aux_lemma =>
            refine adops_cut 4 (fun K' hK49 => ?_)
            try dsimp only [List.drop_succ_cons, List.drop_zero, List.take_succ_cons, List.take_zero]
            simp only [go_sem, hb6, hb9, hb11, hb13, hb15, hb17]
            repeat with_reducible refine zN ?_
            refine hK49 _ ?_
            as_aux_lemma =>
             refine adops_cut 4 (fun K' hK50 => ?_)
             try dsimp only [List.drop_succ_cons, List.drop_zero, List.take_succ_cons, List.take_zero]
             simp only [go_sem, hb6, hb9, hb11, hb13, hb15, hb17]
             repeat with_reducible refine zN ?_
             refine hK50 _ ?_
             as_aux_lemma =>
              refine adops_cut 4 (fun K' hK51 => ?_)
              try dsimp only [List.drop_succ_cons, List.drop_zero, List.take_succ_cons, List.take_zero]
              simp only [go_sem, hb6, hb9, hb11, hb13, hb15, hb17]
              repeat with_reducible refine zN ?_
              refine hK51 _ ?_
              as_aux_lemma =>
               refine adops_cut 4 (fun K' hK52 => ?_)
               try dsimp only [List.drop_succ_cons, List.drop_zero, List.take_succ_cons, List.take_zero]
               simp only [go_sem, hb6, hb9, hb11, hb13, hb15, hb17]
               repeat with_reducible refine zN ?_
               refine hK52 _ ?_
               as_aux_lemma =>
                refine adops_cut 4 (fun K' hK53 => ?_)
                try dsimp only [List.drop_succ_cons, List.drop_zero, List.take_succ_cons, List.take_zero]
                simp only [go_sem, hb6, hb9, hb11, hb13, hb15, hb17]
                repeat with_reducible refine zN ?_
                refine hK53 _ ?_
                as_aux_lemma =>
                 refine adops_cut 4 (fun K' hK54 => ?_)
                 try dsimp only [List.drop_succ_cons, List.drop_zero, List.take_succ_cons, List.take_zero]
                 simp only [go_sem, hb6, hb9, hb11, hb13, hb15, hb17]
                 repeat with_reducible refine zN ?_
                 refine hK54 _ ?_
                 as_aux_lemma =>
                  refine adops_cut 4 (fun K' hK55 => ?_)
                  try dsimp only [List.drop_succ_cons, List.drop_zero, List.take_succ_cons, List.take_zero]
                  simp only [go_sem, hb6, hb9, hb11, hb13, hb15, hb17]
                  repeat with_reducible refine zN ?_
                  refine hK55 _ ?_
                  as_aux_lemma =>
                   refine adops_cut 4 (fun K' hK56 => ?_)
                   try dsimp only [List.drop_succ_cons, List.drop_zero, List.take_succ_cons, List.take_zero]
                   simp only [go_sem, hb6, hb9, hb11, hb13, hb15, hb17]
                   repeat with_reducible refine zN ?_
                   refine hK56 _ ?_
                   refine adops_nil ?_
                   refine athen_n ?_
                   refine zV [(0, .sl (.pair (.int .i64) (.int .i64)) r0), (1, .int .i64 m), (2, .int .i64 n), (9, .sl (.pair (.int .i64) (.int .i64)) r0), (10, .int .i64 (r0.length : Int)), (11, .int .i64 st1), (70, .bool false)] [] gt ?_
                   as_aux_lemma =>
                    refine AW.cond (b := false) rfl (fun hb57 => by cases hb57) (fun _ => ?_)
                    refine zm ?_
                    refine athen_n ?_
                    refine AW.ops ?_
                    obtain ⟨c58, h⟩ := ck_some.1 h
                    refine zA [(0, .sl (.pair (.int .i64) (.int .i64)) r0), (1, .int .i64 m), (2, .int .i64 n), (9, .sl (.pair (.int .i64) (.int .i64)) r0), (10, .int .i64 (r0.length : Int)), (11, .int .i64 (st1 + 1))] [] ?_
                    obtain rfl := Option.some.inj h
                    exact ⟨_, rfl, zL [] [] []⟩
   ·refine AW.exit ?_
    refine athen_e ?_
    obtain rfl := Option.some.inj h
    rw [← hd3 _ rfl] at ho2
    have h := ho2
    try simp only at h
    refine athen_e ?_
    refine ablock_s ?_
    refine athen_n ?_
    exact AW.weaken (zL [] [] []) (hk_linealref05_isRelation_k1 () h)

theorem hc_refine_Best (c : Int × (List (Int × Int × Int))) (a : Int × (List (Int × Int × Int))) {r : (List (Int × Int)) × Int} (h : refine_Best c a = some r) : HC Try.prog 32 [] [.agg [.int .i64 c.1, .sl Y0 c.2], .agg [.int .i64 a.1, .sl Y0 a.2]] [(2000, .arr 58 (.pair (.int .i64) (.int .i64)) r.1)] (.tup [.own 2000, .int .i64 r.2]) := by
 unfold refine_Best at h
 refine zH Try.func32 [.tmp 4, .tmp 5] 20 ?_
 refine zo ?_
 refine zB [(2, .bp 2 0), (3, .bp 3 0)] [(2, .box 24 [.int .i64 c.1, .sl Y0 c.2]), (3, .box 24 [.int .i64 a.1, .sl Y0 a.2])] ?_
 refine zo ?_
 refine zS 2 [(9, .agg [.int .i64 c.1, .sl Y0 c.2]), (10, .agg [.int .i64 a.1, .sl Y0 a.2])] [] ?_
 obtain ⟨v0, hv1, h⟩ := Option.bind_eq_some_iff.1 h
 refine zC [] [] (hc_refine_twoOf c a hv1) [(11, .tup [.agg (.int .i64 v0.1 :: (.sl Y0 v0.2.1 :: (cellsX T69 v0.2.2.1 ++ (.int .i64 v0.2.2.2.1 :: (.sl Y0 v0.2.2.2.2.1 :: (cellsX T69 v0.2.2.2.2.2.1)))))), .int .i64 v0.2.2.2.2.2.2])] [] ?_
 refine zS 5 [(6, .bp 6 0), (13, .int .i64 v0.2.2.2.2.2.2)] [(6, .box 90 (.int .i64 v0.1 :: (.sl Y0 v0.2.1 :: (cellsX T69 v0.2.2.1 ++ (.int .i64 v0.2.2.2.1 :: (.sl Y0 v0.2.2.2.2.1 :: (cellsX T69 v0.2.2.2.2.2.1)))))))] ?_
 refine zB [(6, .bp 6 0), (7, .int .i64 v0.2.2.2.2.2.2)] [(6, .box 90 (.int .i64 v0.1 :: (.sl Y0 v0.2.1 :: (cellsX T69 v0.2.2.1 ++ (.int .i64 v0.2.2.2.1 :: (.sl Y0 v0.2.2.2.2.1 :: (cellsX T69 v0.2.2.2.2.2.1)))))))] ?_
 refine AW.seq ?_
 refine zo ?_
 refine zB [(6, .bp 6 0), (7, .int .i64 v0.2.2.2.2.2.2), (15, .bool (!(decide (v0.2.2.2.2.2.2 = 0))))] [(6, .box 90 (.int .i64 v0.1 :: (.sl Y0 v0.2.1 :: (cellsX T69 v0.2.2.1 ++ (.int .i64 v0.2.2.2.1 :: (.sl Y0 v0.2.2.2.2.1 :: (cellsX T69 v0.2.2.2.2.2.1)))))))] ?_
 refine zQ h (fun hb2 h => ?_) (fun hb2 h => ?_)
 ·refine zo ?_
  refine zB [(4, .cv (.slice none 0 0)), (5, .int .i64 v0.2.2.2.2.2.2)] [] ?_
  refine zr ?_
  obtain rfl := Option.some.inj h
  exact zR [] [2000] []
 ·refine zk ?_
  refine zo ?_
  refine zS 1 [(17, .agg (.int .i64 v0.1 :: (.sl Y0 v0.2.1 :: (cellsX T69 v0.2.2.1 ++ (.int .i64 v0.2.2.2.1 :: (.sl Y0 v0.2.2.2.2.1 :: (cellsX T69 v0.2.2.2.2.2.1)))))))] [] ?_
  obtain ⟨v0_2, hv3, h⟩ := Option.bind_eq_some_iff.1 h
  refine zC [] [] (hc_refine_two_best (((v0.1, v0.2.1), v0.2.2.1), (v0.2.2.2.1, v0.2.2.2.2.1), v0.2.2.2.2.2.1) hv3) [(18, .agg (cellsX T94 v0_2))] [] ?_
  obtain ⟨v0_3, hv4, h⟩ := Option.bind_eq_some_iff.1 h
  refine zC [] [] (hc_refine_relation_list v0_2 hv4) [(19, .own 29000)] [(29000, .arr 58 (.pair (.int .i64) (.int .i64)) v0_3)] ?_
  refine zB [(4, .own 29000), (5, .int .i64 0)] [(29000, .arr 58 (.pair (.int .i64) (.int .i64)) v0_3)] ?_
  refine AW.ret ?_
  obtain rfl := Option.some.inj h
  exact zR [] [] [(2000, 29000)]

theorem hc_math_bits_TrailingZeros8 (x0 : Int) {r : Unit} (h : math_bits_TrailingZeros8 x0 = some r) : HC Try.prog 129 [] [.int .u8 x0] [] (.int .i64 (strAt strL0 x0.toNat)) := by
 unfold math_bits_TrailingZeros8 at h
 refine zH Try.func129 [.tmp 2] 6 ?_
 refine zo ?_
 refine zB [(0, .int .u8 x0)] [] ?_
 refine zo ?_
 refine zS 1 [(3, .int .u8 x0)] [] ?_
 obtain ⟨c1, h⟩ := ck_some.1 h
 obtain ⟨c2, h⟩ := ck_some.1 h
 refine AO.idxStr (by decide) rfl rfl strL0 256 (by kernel_rfl) (by kernel_rfl) (by kernel_rfl) rfl (by first | assumption | omega | (simp only [go_sem]) <;> (with_reducible and_intros) <;> first | assumption | rfl | omega | (unfold maxLen; omega)) (by first | assumption | omega | (simp only [go_sem]) <;> (with_reducible and_intros) <;> first | assumption | rfl | omega | (unfold maxLen; omega)) ?_
 refine zT [(4, .int .u8 (strAt strL0 x0.toNat))] [] gt ?_
 obtain ⟨c3, h⟩ := ck_some.1 h
 refine zB [(2, .int .i64 (strAt strL0 x0.toNat))] [] ?_
 refine AW.ret ?_
 obtain rfl := Option.some.inj h
 exact zR [] [] []

theorem hc_refine_set_least (s : Int) {r : Unit} (h : refine_set_least s = some r) : HC Try.prog 114 [] [.int .u8 s] [] (.int .i64 (strAt strL0 s.toNat)) := by
 unfold refine_set_least at h
 refine zH Try.func114 [.tmp 2] 5 ?_
 refine zo ?_
 refine zB [(0, .int .u8 s)] [] ?_
 refine zo ?_
 refine zS 1 [(3, .int .u8 s)] [] ?_
 obtain ⟨v0, hv1, h⟩ := Option.bind_eq_some_iff.1 h
 refine zC [] [] (hc_math_bits_TrailingZeros8 s hv1) [(4, .int .i64 (strAt strL0 s.toNat))] [] ?_
 refine zB [(2, .int .i64 (strAt strL0 s.toNat))] [] ?_
 refine AW.ret ?_
 obtain rfl := Option.some.inj h
 exact zR [] [] []

end Go.Proofs.Ytifleoceebaooaa
