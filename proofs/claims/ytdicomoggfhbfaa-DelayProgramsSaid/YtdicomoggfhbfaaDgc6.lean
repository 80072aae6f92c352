/-
  Made by wip/tool/dc.py out of the print of the program: contracts.
-/
import Derived.Test.YtdicomoggfhbfaaDlp
import Derived.Test.YtdicomoggfhbfaaShd
import Derived.Test.YtdicomoggfhbfaaAvd
import Derived.Test.YtdicomoggfhbfaaDgc3
namespace Go.Proofs.Ytdicomoggfhbfaa
open Go.RowKit

set_option linter.unusedSimpArgs false
set_option linter.unusedVariables false
set_option linter.constructorNameAsVariable false

set_option maxRecDepth 100000
set_option maxHeartbeats 40000000

theorem hc_linealref09_areFences (x0 : List (List (Int × Bool))) (l : List (Int × Int)) {r : Bool} (h : linealref09_areFences x0 l = some r) : HC Try.prog 120 [] [.sl (.sl (.pair (.int .i64) .bool)) x0, .sl (.pair (.int .i64) (.int .i64)) l] [] (.bool r) := by
 unfold linealref09_areFences at h
 refine zH Try.func120 [.tmp 4] 69 ?_
 refine zo ?_
 refine zB [(0, .sl (.sl (.pair (.int .i64) .bool)) x0), (1, .sl (.pair (.int .i64) (.int .i64)) l)] [] ?_
 refine AW.have1 (fun _ : Unit => linealref09_areFences_k1 = some r) (fun _ => ⟨fr [], hpGet [], gt⟩) (fun _ h => ?_) (fun hk_linealref09_areFences_k1 => ?_)
 ·as_aux_lemma =>
   unfold linealref09_areFences_k1 at h
   refine zo ?_
   refine zB [(4, .bool true)] [] ?_
   refine AW.ret ?_
   obtain rfl := Option.some.inj h
   exact zR [] [] []
 ·refine AW.seq ?_
  refine zo ?_
  refine zB [(0, .sl (.sl (.pair (.int .i64) .bool)) x0), (1, .sl (.pair (.int .i64) (.int .i64)) l), (7, .sl (.pair (.int .i64) (.int .i64)) l), (8, .int .i64 (l.length : Int)), (9, .int .i64 0)] [] ?_
  refine AW.block ?_
  obtain ⟨rv5, hw1, ho2⟩ := Option.bind_eq_some_iff.1 h
  refine AW.loopO (linealref09_areFences_b1 x0 l) (fun st1 => ⟨fr [(0, .sl (.sl (.pair (.int .i64) .bool)) x0), (1, .sl (.pair (.int .i64) (.int .i64)) l), (7, .sl (.pair (.int .i64) (.int .i64)) l), (8, .int .i64 (l.length : Int)), (9, .int .i64 st1)], hpGet [], gt⟩) 0 hw1 (zL [] [] []) ?_
  as_aux_lemma =>
   intro st1 x4 h hd3
   unfold linealref09_areFences_b1 at h
   refine zo ?_
   refine zB [(0, .sl (.sl (.pair (.int .i64) .bool)) x0), (1, .sl (.pair (.int .i64) (.int .i64)) l), (7, .sl (.pair (.int .i64) (.int .i64)) l), (8, .int .i64 (l.length : Int)), (9, .int .i64 st1), (10, .bool (decide (st1 < (l.length : Int))))] [] ?_
   refine AW.seq ?_
   refine zQ h (fun hb6 h => ?_) (fun hb6 h => ?_)
   ·refine zk ?_
    refine AW.seq ?_
    refine AW.block ?_
    refine zo ?_
    obtain ⟨c7, h⟩ := ck_some.1 h
    obtain ⟨c8, h⟩ := ck_some.1 h
    refine zS 5 [(0, .sl (.sl (.pair (.int .i64) .bool)) x0), (1, .sl (.pair (.int .i64) (.int .i64)) l), (5, .int .i64 st1), (6, .bp 6 0), (7, .sl (.pair (.int .i64) (.int .i64)) l), (8, .int .i64 (l.length : Int)), (9, .int .i64 st1), (13, .agg [.int .i64 (l.getD st1.toNat (0, 0)).1, .int .i64 (l.getD st1.toNat (0, 0)).2])] [(6, .box 110 [.int .i64 0, .int .i64 0])] ?_
    refine zB [(0, .sl (.sl (.pair (.int .i64) .bool)) x0), (1, .sl (.pair (.int .i64) (.int .i64)) l), (5, .int .i64 st1), (6, .bp 6 0), (7, .sl (.pair (.int .i64) (.int .i64)) l), (8, .int .i64 (l.length : Int)), (9, .int .i64 st1)] [(6, .box 110 [.int .i64 (l.getD st1.toNat (0, 0)).1, .int .i64 (l.getD st1.toNat (0, 0)).2])] ?_
    refine AW.seq ?_
    refine AW.seq ?_
    refine AW.draw tab_ok mixed_ok [] [] (by decide) (lex_fast (by kernel_rfl)) ?_
    as_aux_lemma =>
     refine adops_cut 5 (fun K' hK9 => ?_)
     try dsimp only [List.drop_succ_cons, List.drop_zero, List.take_succ_cons, List.take_zero]
     simp only [go_sem, hb6]
     repeat with_reducible refine zN ?_
     refine hK9 _ ?_
     as_aux_lemma =>
      obtain ⟨v0, hv10, h⟩ := Option.bind_eq_some_iff.1 h
      refine adops.call (by first | trivial | rfl) rfl rfl rfl (fun _ h => h) [] [] (hc_linealref09_IsAccess x0 (l.getD st1.toNat (0, 0)).1 (l.getD st1.toNat (0, 0)).2 hv10) rfl (by (simp only [go_sem, hb6]) <;> (with_reducible and_intros) <;> first | assumption | rfl | omega | (unfold maxLen; omega)) (by (simp only [go_sem, hb6]) <;> (with_reducible and_intros) <;> first | assumption | rfl | omega | (unfold maxLen; omega)) rfl ?_
      refine adops_cut 2 (fun K' hK11 => ?_)
      try dsimp only [List.drop_succ_cons, List.drop_zero, List.take_succ_cons, List.take_zero]
      simp only [go_sem, hb6]
      repeat with_reducible refine zN ?_
      refine hK11 _ ?_
      as_aux_lemma =>
       rcases zI h with ⟨hb12, h⟩ | ⟨hb12, h⟩
       ·simp only [hb12]
        as_aux_lemma =>
         refine adops_cut 4 (fun K' hK13 => ?_)
         try dsimp only [List.drop_succ_cons, List.drop_zero, List.take_succ_cons, List.take_zero]
         simp only [go_sem, hb6, hb12]
         repeat with_reducible refine zN ?_
         refine hK13 _ ?_
         as_aux_lemma =>
          refine adops_cut 4 (fun K' hK14 => ?_)
          try dsimp only [List.drop_succ_cons, List.drop_zero, List.take_succ_cons, List.take_zero]
          simp only [go_sem, hb6, hb12]
          repeat with_reducible refine zN ?_
          refine hK14 _ ?_
          as_aux_lemma =>
           refine adops_cut 3 (fun K' hK15 => ?_)
           try dsimp only [List.drop_succ_cons, List.drop_zero, List.take_succ_cons, List.take_zero]
           simp only [go_sem, hb6, hb12]
           repeat with_reducible refine zN ?_
           refine hK15 _ ?_
           refine adops_nil ?_
           refine athen_n ?_
           refine zV [(0, .sl (.sl (.pair (.int .i64) .bool)) x0), (1, .sl (.pair (.int .i64) (.int .i64)) l), (5, .int .i64 st1), (6, .bp 6 0), (7, .sl (.pair (.int .i64) (.int .i64)) l), (8, .int .i64 (l.length : Int)), (9, .int .i64 st1), (32, .bool true)] [(6, .box 110 [.int .i64 (l.getD st1.toNat (0, 0)).1, .int .i64 (l.getD st1.toNat (0, 0)).2])] gt ?_
           as_aux_lemma =>
            refine AW.cond (b := true) rfl (fun _ => ?_) (fun hb16 => by cases hb16)
            refine zo ?_
            refine zB [(4, .bool false)] [] ?_
            refine zr ?_
            refine ablock_r ?_
            refine athen_r ?_
            obtain rfl := Option.some.inj h
            try rw [← hd3 _ rfl] at ho2
            have h := ho2
            try simp only at h
            refine athen_r ?_
            refine ablock_r ?_
            refine athen_r ?_
            obtain rfl := Option.some.inj h
            exact zR [] [] []
       ·simp only [hb12]
        as_aux_lemma =>
         obtain ⟨c18, h⟩ := ck_some.1 h
         obtain ⟨c19, h⟩ := ck_some.1 h
         refine adops_cut 6 (fun K' hK17 => ?_)
         try dsimp only [List.drop_succ_cons, List.drop_zero, List.take_succ_cons, List.take_zero]
         simp only [go_sem, hb6, hb12]
         repeat with_reducible refine zN ?_
         refine hK17 _ ?_
         as_aux_lemma =>
          obtain ⟨c21, h⟩ := ck_some.1 h
          refine adops_cut 5 (fun K' hK20 => ?_)
          try dsimp only [List.drop_succ_cons, List.drop_zero, List.take_succ_cons, List.take_zero]
          simp only [go_sem, hb6, hb12]
          repeat with_reducible refine zN ?_
          refine hK20 _ ?_
          refine adops_nil ?_
          refine athen_n ?_
          refine zV [(0, .sl (.sl (.pair (.int .i64) .bool)) x0), (1, .sl (.pair (.int .i64) (.int .i64)) l), (5, .int .i64 st1), (6, .bp 6 0), (7, .sl (.pair (.int .i64) (.int .i64)) l), (8, .int .i64 (l.length : Int)), (9, .int .i64 st1), (32, .bool (decide ((l.getD st1.toNat (0, 0)).2 = (((x0.getD (l.getD st1.toNat (0, 0)).1.toNat []).length : Int) - 1))))] [(6, .box 110 [.int .i64 (l.getD st1.toNat (0, 0)).1, .int .i64 (l.getD st1.toNat (0, 0)).2])] gt ?_
          as_aux_lemma =>
           refine zQ h (fun hb22 h => ?_) (fun hb22 h => ?_)
           ·refine zo ?_
            refine zB [(4, .bool false)] [] ?_
            refine zr ?_
            refine ablock_r ?_
            refine athen_r ?_
            obtain rfl := Option.some.inj h
            try rw [← hd3 _ rfl] at ho2
            have h := ho2
            try simp only at h
            refine athen_r ?_
            refine ablock_r ?_
            refine athen_r ?_
            obtain rfl := Option.some.inj h
            exact zR [] [] []
           ·refine zk ?_
            refine AW.seq ?_
            refine AW.draw tab_ok mixed_ok [] [] (by decide) (lex_fast (by kernel_rfl)) ?_
            as_aux_lemma =>
             refine adops_cut 3 (fun K' hK23 => ?_)
             try dsimp only [List.drop_succ_cons, List.drop_zero, List.take_succ_cons, List.take_zero]
             simp only [go_sem, hb6, hb12, hb22]
             repeat with_reducible refine zN ?_
             refine hK23 _ ?_
             as_aux_lemma =>
              rcases zI h with ⟨hb24, h⟩ | ⟨hb24, h⟩
              ·simp only [hb24]
               as_aux_lemma =>
                obtain ⟨c26, h⟩ := ck_some.1 h
                obtain ⟨c27, h⟩ := ck_some.1 h
                obtain ⟨c28, h⟩ := ck_some.1 h
                refine adops_cut 6 (fun K' hK25 => ?_)
                try dsimp only [List.drop_succ_cons, List.drop_zero, List.take_succ_cons, List.take_zero]
                simp only [go_sem, hb6, hb12, hb22, hb24]
                repeat with_reducible refine zN ?_
                refine hK25 _ ?_
                as_aux_lemma =>
                 refine adops_cut 4 (fun K' hK29 => ?_)
                 try dsimp only [List.drop_succ_cons, List.drop_zero, List.take_succ_cons, List.take_zero]
                 simp only [go_sem, hb6, hb12, hb22, hb24]
                 repeat with_reducible refine zN ?_
                 refine hK29 _ ?_
                 as_aux_lemma =>
                  rcases zI h with ⟨hb30, h⟩ | ⟨hb30, h⟩
                  ·simp only [hb30]
                   as_aux_lemma =>
                    refine adops_cut 4 (fun K' hK31 => ?_)
                    try dsimp only [List.drop_succ_cons, List.drop_zero, List.take_succ_cons, List.take_zero]
                    simp only [go_sem, hb6, hb12, hb22, hb24, hb30]
                    repeat with_reducible refine zN ?_
                    refine hK31 _ ?_
                    as_aux_lemma =>
                     refine adops_cut 4 (fun K' hK32 => ?_)
                     try dsimp only [List.drop_succ_cons, List.drop_zero, List.take_succ_cons, List.take_zero]
                     simp only [go_sem, hb6, hb12, hb22, hb24, hb30]
                     repeat with_reducible refine zN ?_
                     refine hK32 _ ?_
                     as_aux_lemma =>
                      refine adops_cut 4 (fun K' hK33 => ?_)
                      try dsimp only [List.drop_succ_cons, List.drop_zero, List.take_succ_cons, List.take_zero]
                      simp only [go_sem, hb6, hb12, hb22, hb24, hb30]
                      repeat with_reducible refine zN ?_
                      refine hK33 _ ?_
                      as_aux_lemma =>
                       refine adops_cut 4 (fun K' hK34 => ?_)
                       try dsimp only [List.drop_succ_cons, List.drop_zero, List.take_succ_cons, List.take_zero]
                       simp only [go_sem, hb6, hb12, hb22, hb24, hb30]
                       repeat with_reducible refine zN ?_
                       refine hK34 _ ?_
                       as_aux_lemma =>
                        refine adops_cut 4 (fun K' hK35 => ?_)
                        try dsimp only [List.drop_succ_cons, List.drop_zero, List.take_succ_cons, List.take_zero]
                        simp only [go_sem, hb6, hb12, hb22, hb24, hb30]
                        repeat with_reducible refine zN ?_
                        refine hK35 _ ?_
                        as_aux_lemma =>
                         refine adops_cut 2 (fun K' hK36 => ?_)
                         try dsimp only [List.drop_succ_cons, List.drop_zero, List.take_succ_cons, List.take_zero]
                         simp only [go_sem, hb6, hb12, hb22, hb24, hb30]
                         repeat with_reducible refine zN ?_
                         refine hK36 _ ?_
                         refine adops_nil ?_
                         refine athen_n ?_
                         refine zV [(0, .sl (.sl (.pair (.int .i64) .bool)) x0), (1, .sl (.pair (.int .i64) (.int .i64)) l), (7, .sl (.pair (.int .i64) (.int .i64)) l), (8, .int .i64 (l.length : Int)), (9, .int .i64 st1), (67, .bool true)] [] gt ?_
                         as_aux_lemma =>
                          refine AW.cond (b := true) rfl (fun _ => ?_) (fun hb37 => by cases hb37)
                          refine zo ?_
                          refine zB [(4, .bool false)] [] ?_
                          refine AW.ret ?_
                          refine ablock_r ?_
                          refine athen_r ?_
                          obtain rfl := Option.some.inj h
                          try rw [← hd3 _ rfl] at ho2
                          have h := ho2
                          try simp only at h
                          refine athen_r ?_
                          refine ablock_r ?_
                          refine athen_r ?_
                          obtain rfl := Option.some.inj h
                          exact zR [] [] []
                  ·simp only [hb30]
                   as_aux_lemma =>
                    obtain ⟨c39, h⟩ := ck_some.1 h
                    obtain ⟨c40, h⟩ := ck_some.1 h
                    obtain ⟨c41, h⟩ := ck_some.1 h
                    refine adops_cut 6 (fun K' hK38 => ?_)
                    try dsimp only [List.drop_succ_cons, List.drop_zero, List.take_succ_cons, List.take_zero]
                    simp only [go_sem, hb6, hb12, hb22, hb24, hb30]
                    repeat with_reducible refine zN ?_
                    refine hK38 _ ?_
                    as_aux_lemma =>
                     refine adops_cut 4 (fun K' hK42 => ?_)
                     try dsimp only [List.drop_succ_cons, List.drop_zero, List.take_succ_cons, List.take_zero]
                     simp only [go_sem, hb6, hb12, hb22, hb24, hb30]
                     repeat with_reducible refine zN ?_
                     refine hK42 _ ?_
                     as_aux_lemma =>
                      rcases zI h with ⟨hb43, h⟩ | ⟨hb43, h⟩
                      ·simp only [hb43]
                       as_aux_lemma =>
                        obtain ⟨c45, h⟩ := ck_some.1 h
                        obtain ⟨c46, h⟩ := ck_some.1 h
                        obtain ⟨c47, h⟩ := ck_some.1 h
                        refine adops_cut 6 (fun K' hK44 => ?_)
                        try dsimp only [List.drop_succ_cons, List.drop_zero, List.take_succ_cons, List.take_zero]
                        simp only [go_sem, hb6, hb12, hb22, hb24, hb30, hb43]
                        repeat with_reducible refine zN ?_
                        refine hK44 _ ?_
                        as_aux_lemma =>
                         refine adops_cut 6 (fun K' hK48 => ?_)
                         try dsimp only [List.drop_succ_cons, List.drop_zero, List.take_succ_cons, List.take_zero]
                         simp only [go_sem, hb6, hb12, hb22, hb24, hb30, hb43]
                         repeat with_reducible refine zN ?_
                         refine hK48 _ ?_
                         refine adops_nil ?_
                         refine athen_n ?_
                         refine zV [(0, .sl (.sl (.pair (.int .i64) .bool)) x0), (1, .sl (.pair (.int .i64) (.int .i64)) l), (7, .sl (.pair (.int .i64) (.int .i64)) l), (8, .int .i64 (l.length : Int)), (9, .int .i64 st1), (67, .bool (decide ((l.getD st1.toNat (0, 0)).2 ≤ (l.getD (st1 - 1).toNat (0, 0)).2)))] [] gt ?_
                         as_aux_lemma =>
                          refine zQ h (fun hb49 h => ?_) (fun hb49 h => ?_)
                          ·refine zo ?_
                           refine zB [(4, .bool false)] [] ?_
                           refine AW.ret ?_
                           refine ablock_r ?_
                           refine athen_r ?_
                           obtain rfl := Option.some.inj h
                           try rw [← hd3 _ rfl] at ho2
                           have h := ho2
                           try simp only at h
                           refine athen_r ?_
                           refine ablock_r ?_
                           refine athen_r ?_
                           obtain rfl := Option.some.inj h
                           exact zR [] [] []
                          ·refine zm ?_
                           refine athen_n ?_
                           refine AW.ops ?_
                           obtain ⟨c50, h⟩ := ck_some.1 h
                           refine zA [(0, .sl (.sl (.pair (.int .i64) .bool)) x0), (1, .sl (.pair (.int .i64) (.int .i64)) l), (7, .sl (.pair (.int .i64) (.int .i64)) l), (8, .int .i64 (l.length : Int)), (9, .int .i64 (st1 + 1))] [] ?_
                           obtain rfl := Option.some.inj h
                           exact ⟨_, rfl, zL [] [] []⟩
                      ·simp only [hb43]
                       as_aux_lemma =>
                        refine adops_cut 4 (fun K' hK51 => ?_)
                        try dsimp only [List.drop_succ_cons, List.drop_zero, List.take_succ_cons, List.take_zero]
                        simp only [go_sem, hb6, hb12, hb22, hb24, hb30, hb43]
                        repeat with_reducible refine zN ?_
                        refine hK51 _ ?_
                        as_aux_lemma =>
                         refine adops_cut 4 (fun K' hK52 => ?_)
                         try dsimp only [List.drop_succ_cons, List.drop_zero, List.take_succ_cons, List.take_zero]
                         simp only [go_sem, hb6, hb12, hb22, hb24, hb30, hb43]
                         repeat with_reducible refine zN ?_
                         refine hK52 _ ?_
                         as_aux_lemma =>
                          refine adops_cut 4 (fun K' hK53 => ?_)
                          try dsimp only [List.drop_succ_cons, List.drop_zero, List.take_succ_cons, List.take_zero]
                          simp only [go_sem, hb6, hb12, hb22, hb24, hb30, hb43]
                          repeat with_reducible refine zN ?_
                          refine hK53 _ ?_
                          refine adops_nil ?_
                          refine athen_n ?_
                          refine zV [(0, .sl (.sl (.pair (.int .i64) .bool)) x0), (1, .sl (.pair (.int .i64) (.int .i64)) l), (7, .sl (.pair (.int .i64) (.int .i64)) l), (8, .int .i64 (l.length : Int)), (9, .int .i64 st1), (67, .bool false)] [] gt ?_
                          as_aux_lemma =>
                           refine AW.cond (b := false) rfl (fun hb54 => by cases hb54) (fun _ => ?_)
                           refine zm ?_
                           refine athen_n ?_
                           refine AW.ops ?_
                           obtain ⟨c55, h⟩ := ck_some.1 h
                           refine zA [(0, .sl (.sl (.pair (.int .i64) .bool)) x0), (1, .sl (.pair (.int .i64) (.int .i64)) l), (7, .sl (.pair (.int .i64) (.int .i64)) l), (8, .int .i64 (l.length : Int)), (9, .int .i64 (st1 + 1))] [] ?_
                           obtain rfl := Option.some.inj h
                           exact ⟨_, rfl, zL [] [] []⟩
              ·simp only [hb24]
               as_aux_lemma =>
                refine adops_cut 4 (fun K' hK56 => ?_)
                try dsimp only [List.drop_succ_cons, List.drop_zero, List.take_succ_cons, List.take_zero]
                simp only [go_sem, hb6, hb12, hb22, hb24]
                repeat with_reducible refine zN ?_
                refine hK56 _ ?_
                as_aux_lemma =>
                 refine adops_cut 4 (fun K' hK57 => ?_)
                 try dsimp only [List.drop_succ_cons, List.drop_zero, List.take_succ_cons, List.take_zero]
                 simp only [go_sem, hb6, hb12, hb22, hb24]
                 repeat with_reducible refine zN ?_
                 refine hK57 _ ?_
                 as_aux_lemma =>
                  refine adops_cut 4 (fun K' hK58 => ?_)
                  try dsimp only [List.drop_succ_cons, List.drop_zero, List.take_succ_cons, List.take_zero]
                  simp only [go_sem, hb6, hb12, hb22, hb24]
                  repeat with_reducible refine zN ?_
                  refine hK58 _ ?_
                  as_aux_lemma =>
                   refine adops_cut 4 (fun K' hK59 => ?_)
                   try dsimp only [List.drop_succ_cons, List.drop_zero, List.take_succ_cons, List.take_zero]
                   simp only [go_sem, hb6, hb12, hb22, hb24]
                   repeat with_reducible refine zN ?_
                   refine hK59 _ ?_
                   as_aux_lemma =>
                    refine adops_cut 4 (fun K' hK60 => ?_)
                    try dsimp only [List.drop_succ_cons, List.drop_zero, List.take_succ_cons, List.take_zero]
                    simp only [go_sem, hb6, hb12, hb22, hb24]
                    repeat with_reducible refine zN ?_
                    refine hK60 _ ?_
                    as_aux_lemma =>
                     refine adops_cut 4 (fun K' hK61 => ?_)
                     try dsimp only [List.drop_succ_cons, List.drop_zero, List.take_succ_cons, List.take_zero]
                     simp only [go_sem, hb6, hb12, hb22, hb24]
                     repeat with_reducible refine zN ?_
                     refine hK61 _ ?_
                     as_aux_lemma =>
                      refine adops_cut 4 (fun K' hK62 => ?_)
                      try dsimp only [List.drop_succ_cons, List.drop_zero, List.take_succ_cons, List.take_zero]
                      simp only [go_sem, hb6, hb12, hb22, hb24]
                      repeat with_reducible refine zN ?_
                      refine hK62 _ ?_
                      as_aux_lemma =>
                       refine adops_cut 4 (fun K' hK63 => ?_)
                       try dsimp only [List.drop_succ_cons, List.drop_zero, List.take_succ_cons, List.take_zero]
                       simp only [go_sem, hb6, hb12, hb22, hb24]
                       repeat with_reducible refine zN ?_
                       refine hK63 _ ?_
                       refine adops_nil ?_
                       refine athen_n ?_
                       refine zV [(0, .sl (.sl (.pair (.int .i64) .bool)) x0), (1, .sl (.pair (.int .i64) (.int .i64)) l), (7, .sl (.pair (.int .i64) (.int .i64)) l), (8, .int .i64 (l.length : Int)), (9, .int .i64 st1), (67, .bool false)] [] gt ?_
                       as_aux_lemma =>
                        refine AW.cond (b := false) rfl (fun hb64 => by cases hb64) (fun _ => ?_)
                        refine zm ?_
                        refine athen_n ?_
                        refine AW.ops ?_
                        obtain ⟨c65, h⟩ := ck_some.1 h
                        refine zA [(0, .sl (.sl (.pair (.int .i64) .bool)) x0), (1, .sl (.pair (.int .i64) (.int .i64)) l), (7, .sl (.pair (.int .i64) (.int .i64)) l), (8, .int .i64 (l.length : Int)), (9, .int .i64 (st1 + 1))] [] ?_
                        obtain rfl := Option.some.inj h
                        exact ⟨_, rfl, zL [] [] []⟩
   ·refine AW.exit ?_
    refine athen_e ?_
    obtain rfl := Option.some.inj h
    try rw [← hd3 _ rfl] at ho2
    have h := ho2
    try simp only at h
    refine athen_e ?_
    refine ablock_s ?_
    refine athen_n ?_
    exact AW.weaken (zL [] [] []) (hk_linealref09_areFences_k1 () h)

theorem hc_linealref09_fenced (x0 : List (List (Int × Bool))) (l : List (Int × Int)) {r : Int} (h : linealref09_fenced x0 l = some r) : HC Try.prog 83 [] [.sl (.sl (.pair (.int .i64) .bool)) x0, .sl (.pair (.int .i64) (.int .i64)) l] [] (.int .i64 r) := by
 unfold linealref09_fenced at h
 refine zH Try.func83 [.tmp 4] 12 ?_
 refine zo ?_
 refine zB [(0, .sl (.sl (.pair (.int .i64) .bool)) x0), (1, .sl (.pair (.int .i64) (.int .i64)) l)] [] ?_
 refine AW.seq ?_
 refine zo ?_
 refine zS 1 [(0, .sl (.sl (.pair (.int .i64) .bool)) x0), (1, .sl (.pair (.int .i64) (.int .i64)) l), (5, .sl (.sl (.pair (.int .i64) .bool)) x0)] [] ?_
 obtain ⟨v0, hv1, h⟩ := Option.bind_eq_some_iff.1 h
 refine zC [] [] (hc_linealref09_Valid x0 hv1) [(0, .sl (.sl (.pair (.int .i64) .bool)) x0), (1, .sl (.pair (.int .i64) (.int .i64)) l), (6, .bool v0)] [] ?_
 refine zB [(0, .sl (.sl (.pair (.int .i64) .bool)) x0), (1, .sl (.pair (.int .i64) (.int .i64)) l), (7, .bool (!v0))] [] ?_
 refine zQ h (fun hb2 h => ?_) (fun hb2 h => ?_)
 ·refine zo ?_
  refine zB [(4, .int .i64 90)] [] ?_
  refine zr ?_
  obtain rfl := Option.some.inj h
  exact zR [] [] []
 ·refine zk ?_
  refine AW.seq ?_
  refine zo ?_
  refine zS 2 [(8, .sl (.sl (.pair (.int .i64) .bool)) x0), (9, .sl (.pair (.int .i64) (.int .i64)) l)] [] ?_
  obtain ⟨v0_2, hv3, h⟩ := Option.bind_eq_some_iff.1 h
  refine zC [] [] (hc_linealref09_areFences x0 l hv3) [(10, .bool v0_2)] [] ?_
  refine zB [(11, .bool (!v0_2))] [] ?_
  refine zQ h (fun hb4 h => ?_) (fun hb4 h => ?_)
  ·refine zo ?_
   refine zB [(4, .int .i64 2)] [] ?_
   refine zr ?_
   obtain rfl := Option.some.inj h
   exact zR [] [] []
  ·refine zk ?_
   refine zo ?_
   refine zB [(4, .int .i64 0)] [] ?_
   refine AW.ret ?_
   obtain rfl := Option.some.inj h
   exact zR [] [] []

end Go.Proofs.Ytdicomoggfhbfaa
