/-
  Made by wip/tool/dc.py out of the print of the program: contracts.
-/
import Derived.Test.YtdicomoggfhbfaaDlp
import Derived.Test.YtdicomoggfhbfaaShd
import Derived.Test.YtdicomoggfhbfaaAvd
namespace Go.Proofs.Ytdicomoggfhbfaa
open Go.RowKit

set_option linter.unusedSimpArgs false
set_option linter.unusedVariables false
set_option linter.constructorNameAsVariable false

set_option maxRecDepth 100000
set_option maxHeartbeats 40000000

theorem hc_linealref09_Valid (x0 : List (List (Int × Bool))) {r : Bool} (h : linealref09_Valid x0 = some r) : HC Try.prog 18 [] [.sl (.sl (.pair (.int .i64) .bool)) x0] [] (.bool r) := by
 unfold linealref09_Valid at h
 refine zH Try.func18 [.tmp 2] 40 ?_
 refine zo ?_
 refine zB [(0, .sl (.sl (.pair (.int .i64) .bool)) x0)] [] ?_
 refine AW.have1 (fun _ : Unit => linealref09_Valid_k1 x0 = some r) (fun _ => ⟨fr [(0, .sl (.sl (.pair (.int .i64) .bool)) x0)], hpGet [], gt⟩) (fun _ h => ?_) (fun hk_linealref09_Valid_k1 => ?_)
 ·as_aux_lemma =>
   unfold linealref09_Valid_k1 at h
   refine zo ?_
   refine zS 4 [(0, .sl (.sl (.pair (.int .i64) .bool)) x0), (35, .bool (decide (1 ≤ (x0.length : Int))))] [] ?_
   rcases zI h with ⟨hb1, h⟩ | ⟨hb1, h⟩
   ·refine zB [(2, .bool (decide ((x0.length : Int) ≤ 3)))] [] ?_
    refine AW.ret ?_
    obtain rfl := Option.some.inj h
    exact zR [] [] []
   ·refine zB [(2, .bool false)] [] ?_
    refine AW.ret ?_
    obtain rfl := Option.some.inj h
    exact zR [] [] []
 ·refine AW.seq ?_
  refine zo ?_
  refine zB [(0, .sl (.sl (.pair (.int .i64) .bool)) x0), (7, .sl (.sl (.pair (.int .i64) .bool)) x0), (8, .int .i64 (x0.length : Int)), (9, .int .i64 0)] [] ?_
  refine AW.block ?_
  obtain ⟨rv6, hw2, ho3⟩ := Option.bind_eq_some_iff.1 h
  refine AW.loopO (linealref09_Valid_b1 x0) (fun st1 => ⟨fr [(0, .sl (.sl (.pair (.int .i64) .bool)) x0), (7, .sl (.sl (.pair (.int .i64) .bool)) x0), (8, .int .i64 (x0.length : Int)), (9, .int .i64 st1)], hpGet [], gt⟩) 0 hw2 (zL [] [] []) ?_
  as_aux_lemma =>
   intro st1 x5 h hd4
   unfold linealref09_Valid_b1 at h
   refine zo ?_
   refine zB [(0, .sl (.sl (.pair (.int .i64) .bool)) x0), (7, .sl (.sl (.pair (.int .i64) .bool)) x0), (8, .int .i64 (x0.length : Int)), (9, .int .i64 st1), (10, .bool (decide (st1 < (x0.length : Int))))] [] ?_
   refine AW.seq ?_
   refine zQ h (fun hb7 h => ?_) (fun hb7 h => ?_)
   ·refine zk ?_
    refine AW.have1 (fun _ : Unit => linealref09_Valid_k2 st1 = some x5) (fun _ => ⟨fr [(0, .sl (.sl (.pair (.int .i64) .bool)) x0), (7, .sl (.sl (.pair (.int .i64) .bool)) x0), (8, .int .i64 (x0.length : Int)), (9, .int .i64 st1)], hpGet [], gt⟩) (fun _ h => ?_) (fun hk_linealref09_Valid_k2 => ?_)
    ·as_aux_lemma =>
      unfold linealref09_Valid_k2 at h
      refine AW.ops ?_
      obtain ⟨c8, h⟩ := ck_some.1 h
      refine zA [(0, .sl (.sl (.pair (.int .i64) .bool)) x0), (7, .sl (.sl (.pair (.int .i64) .bool)) x0), (8, .int .i64 (x0.length : Int)), (9, .int .i64 (st1 + 1))] [] ?_
      obtain rfl := Option.some.inj h
      exact ⟨_, rfl, zL [] [] []⟩
    ·refine AW.seq ?_
     refine AW.block ?_
     refine zo ?_
     obtain ⟨c9, h⟩ := ck_some.1 h
     obtain ⟨c10, h⟩ := ck_some.1 h
     refine zB [(0, .sl (.sl (.pair (.int .i64) .bool)) x0), (4, .sl (.pair (.int .i64) .bool) (x0.getD st1.toNat [])), (7, .sl (.sl (.pair (.int .i64) .bool)) x0), (8, .int .i64 (x0.length : Int)), (9, .int .i64 st1)] [] ?_
     refine AW.seq ?_
     refine zo ?_
     refine zB [(0, .sl (.sl (.pair (.int .i64) .bool)) x0), (4, .sl (.pair (.int .i64) .bool) (x0.getD st1.toNat [])), (7, .sl (.sl (.pair (.int .i64) .bool)) x0), (8, .int .i64 (x0.length : Int)), (9, .int .i64 st1), (15, .bool (decide (4 < ((x0.getD st1.toNat []).length : Int))))] [] ?_
     refine zQ h (fun hb11 h => ?_) (fun hb11 h => ?_)
     ·refine zo ?_
      refine zB [(2, .bool false)] [] ?_
      refine zr ?_
      refine ablock_r ?_
      refine athen_r ?_
      obtain rfl := Option.some.inj h
      try rw [← hd4 _ rfl] at ho3
      have h := ho3
      try simp only at h
      refine athen_r ?_
      refine ablock_r ?_
      refine athen_r ?_
      obtain rfl := Option.some.inj h
      exact zR [] [] []
     ·refine zk ?_
      refine zo ?_
      refine zB [(0, .sl (.sl (.pair (.int .i64) .bool)) x0), (7, .sl (.sl (.pair (.int .i64) .bool)) x0), (8, .int .i64 (x0.length : Int)), (9, .int .i64 st1), (16, .sl (.pair (.int .i64) .bool) (x0.getD st1.toNat [])), (17, .int .i64 ((x0.getD st1.toNat []).length : Int)), (18, .int .i64 0)] [] ?_
      refine AW.block ?_
      obtain ⟨rv16, hw12, ho13⟩ := Option.bind_eq_some_iff.1 h
      refine AW.loopO (linealref09_Valid_b2 x0 st1) (fun st2 => ⟨fr [(0, .sl (.sl (.pair (.int .i64) .bool)) x0), (7, .sl (.sl (.pair (.int .i64) .bool)) x0), (8, .int .i64 (x0.length : Int)), (9, .int .i64 st1), (16, .sl (.pair (.int .i64) .bool) (x0.getD st1.toNat [])), (17, .int .i64 ((x0.getD st1.toNat []).length : Int)), (18, .int .i64 st2)], hpGet [], gt⟩) 0 hw12 (zL [] [] []) ?_
      as_aux_lemma =>
       intro st2 x15 h hd14
       unfold linealref09_Valid_b2 at h
       refine zo ?_
       refine zB [(0, .sl (.sl (.pair (.int .i64) .bool)) x0), (7, .sl (.sl (.pair (.int .i64) .bool)) x0), (8, .int .i64 (x0.length : Int)), (9, .int .i64 st1), (16, .sl (.pair (.int .i64) .bool) (x0.getD st1.toNat [])), (17, .int .i64 ((x0.getD st1.toNat []).length : Int)), (18, .int .i64 st2), (19, .bool (decide (st2 < ((x0.getD st1.toNat []).length : Int))))] [] ?_
       refine AW.seq ?_
       refine zQ h (fun hb17 h => ?_) (fun hb17 h => ?_)
       ·refine zk ?_
        refine AW.seq ?_
        refine AW.block ?_
        refine zo ?_
        obtain ⟨c18, h⟩ := ck_some.1 h
        obtain ⟨c19, h⟩ := ck_some.1 h
        refine zB [(0, .sl (.sl (.pair (.int .i64) .bool)) x0), (6, .bp 6 0), (7, .sl (.sl (.pair (.int .i64) .bool)) x0), (8, .int .i64 (x0.length : Int)), (9, .int .i64 st1), (16, .sl (.pair (.int .i64) .bool) (x0.getD st1.toNat [])), (17, .int .i64 ((x0.getD st1.toNat []).length : Int)), (18, .int .i64 st2)] [(6, .box 76 [.int .i64 ((x0.getD st1.toNat []).getD st2.toNat (0, false)).1, .bool ((x0.getD st1.toNat []).getD st2.toNat (0, false)).2])] ?_
        refine zo ?_
        refine zS 4 [(0, .sl (.sl (.pair (.int .i64) .bool)) x0), (6, .bp 6 0), (7, .sl (.sl (.pair (.int .i64) .bool)) x0), (8, .int .i64 (x0.length : Int)), (9, .int .i64 st1), (16, .sl (.pair (.int .i64) .bool) (x0.getD st1.toNat [])), (17, .int .i64 ((x0.getD st1.toNat []).length : Int)), (18, .int .i64 st2), (25, .bool (decide (((x0.getD st1.toNat []).getD st2.toNat (0, false)).1 < 0)))] [(6, .box 76 [.int .i64 ((x0.getD st1.toNat []).getD st2.toNat (0, false)).1, .bool ((x0.getD st1.toNat []).getD st2.toNat (0, false)).2])] ?_
        rcases zI h with ⟨hb20, h⟩ | ⟨hb20, h⟩
        ·refine zB [(0, .sl (.sl (.pair (.int .i64) .bool)) x0), (7, .sl (.sl (.pair (.int .i64) .bool)) x0), (8, .int .i64 (x0.length : Int)), (9, .int .i64 st1), (16, .sl (.pair (.int .i64) .bool) (x0.getD st1.toNat [])), (17, .int .i64 ((x0.getD st1.toNat []).length : Int)), (18, .int .i64 st2), (29, .bool true)] [] ?_
         refine AW.cond (b := true) rfl (fun _ => ?_) (fun hb21 => by cases hb21)
         refine zo ?_
         refine zB [(2, .bool false)] [] ?_
         refine AW.ret ?_
         refine ablock_r ?_
         refine athen_r ?_
         obtain rfl := Option.some.inj h
         try rw [← hd14 _ rfl] at ho13
         have h := ho13
         try simp only at h
         refine athen_r ?_
         refine ablock_r ?_
         refine ablock_r ?_
         refine athen_r ?_
         obtain rfl := Option.some.inj h
         try rw [← hd4 _ rfl] at ho3
         have h := ho3
         try simp only at h
         refine athen_r ?_
         refine ablock_r ?_
         refine athen_r ?_
         obtain rfl := Option.some.inj h
         exact zR [] [] []
        ·refine zB [(0, .sl (.sl (.pair (.int .i64) .bool)) x0), (7, .sl (.sl (.pair (.int .i64) .bool)) x0), (8, .int .i64 (x0.length : Int)), (9, .int .i64 st1), (16, .sl (.pair (.int .i64) .bool) (x0.getD st1.toNat [])), (17, .int .i64 ((x0.getD st1.toNat []).length : Int)), (18, .int .i64 st2), (29, .bool (decide (3 ≤ ((x0.getD st1.toNat []).getD st2.toNat (0, false)).1)))] [] ?_
         refine zQ h (fun hb22 h => ?_) (fun hb22 h => ?_)
         ·refine zo ?_
          refine zB [(2, .bool false)] [] ?_
          refine AW.ret ?_
          refine ablock_r ?_
          refine athen_r ?_
          obtain rfl := Option.some.inj h
          try rw [← hd14 _ rfl] at ho13
          have h := ho13
          try simp only at h
          refine athen_r ?_
          refine ablock_r ?_
          refine ablock_r ?_
          refine athen_r ?_
          obtain rfl := Option.some.inj h
          try rw [← hd4 _ rfl] at ho3
          have h := ho3
          try simp only at h
          refine athen_r ?_
          refine ablock_r ?_
          refine athen_r ?_
          obtain rfl := Option.some.inj h
          exact zR [] [] []
         ·refine zm ?_
          refine athen_n ?_
          refine AW.ops ?_
          obtain ⟨c23, h⟩ := ck_some.1 h
          refine zA [(0, .sl (.sl (.pair (.int .i64) .bool)) x0), (7, .sl (.sl (.pair (.int .i64) .bool)) x0), (8, .int .i64 (x0.length : Int)), (9, .int .i64 st1), (16, .sl (.pair (.int .i64) .bool) (x0.getD st1.toNat [])), (17, .int .i64 ((x0.getD st1.toNat []).length : Int)), (18, .int .i64 (st2 + 1))] [] ?_
          obtain rfl := Option.some.inj h
          exact ⟨_, rfl, zL [] [] []⟩
       ·refine AW.exit ?_
        refine athen_e ?_
        obtain rfl := Option.some.inj h
        try rw [← hd14 _ rfl] at ho13
        have h := ho13
        try simp only at h
        refine athen_e ?_
        refine ablock_s ?_
        refine ablock_n ?_
        refine athen_n ?_
        exact AW.weaken (zL [] [] []) (hk_linealref09_Valid_k2 () h)
   ·refine AW.exit ?_
    refine athen_e ?_
    obtain rfl := Option.some.inj h
    try rw [← hd4 _ rfl] at ho3
    have h := ho3
    try simp only at h
    refine athen_e ?_
    refine ablock_s ?_
    refine athen_n ?_
    exact AW.weaken (zL [] [] []) (hk_linealref09_Valid_k1 () h)

theorem hc_linealref09_IsAccess (x0 : List (List (Int × Bool))) (t : Int) (a : Int) {r : Bool} (h : linealref09_IsAccess x0 t a = some r) : HC Try.prog 64 [] [.sl (.sl (.pair (.int .i64) .bool)) x0, .int .i64 t, .int .i64 a] [] (.bool r) := by
 unfold linealref09_IsAccess at h
 refine zH Try.func64 [.tmp 6] 28 ?_
 refine zo ?_
 refine zB [(0, .sl (.sl (.pair (.int .i64) .bool)) x0), (1, .int .i64 t), (2, .int .i64 a)] [] ?_
 refine zo ?_
 refine zS 3 [(0, .sl (.sl (.pair (.int .i64) .bool)) x0), (1, .int .i64 t), (2, .int .i64 a), (9, .bool (decide (0 ≤ t)))] [] ?_
 rcases zI h with ⟨hb1, h⟩ | ⟨hb1, h⟩
 ·refine zS 5 [(0, .sl (.sl (.pair (.int .i64) .bool)) x0), (1, .int .i64 t), (2, .int .i64 a), (14, .bool (decide (t < (x0.length : Int))))] [] ?_
  refine zS 1 [(0, .sl (.sl (.pair (.int .i64) .bool)) x0), (1, .int .i64 t), (2, .int .i64 a), (15, .bool (decide (t < (x0.length : Int))))] [] ?_
  rcases zI h with ⟨hb2, h⟩ | ⟨hb2, h⟩
  ·refine zS 4 [(0, .sl (.sl (.pair (.int .i64) .bool)) x0), (1, .int .i64 t), (2, .int .i64 a), (19, .bool (decide (0 ≤ a)))] [] ?_
   rcases zI h with ⟨hb3, h⟩ | ⟨hb3, h⟩
   ·obtain ⟨c4, h⟩ := ck_some.1 h
    obtain ⟨c5, h⟩ := ck_some.1 h
    refine zS 5 [(19, .bool true), (20, .int .i64 a), (24, .sl (.pair (.int .i64) .bool) (x0.getD t.toNat []))] [] ?_
    refine zB [(6, .bool (decide (a < ((x0.getD t.toNat []).length : Int))))] [] ?_
    refine AW.ret ?_
    obtain rfl := Option.some.inj h
    exact zR [] [] []
   ·refine zS 4 [(19, .bool false), (20, .cv (undef)), (23, .cv (undef))] [] ?_
    refine zB [(6, .bool false)] [] ?_
    refine AW.ret ?_
    obtain rfl := Option.some.inj h
    exact zR [] [] []
  ·refine zS 5 [(0, .sl (.sl (.pair (.int .i64) .bool)) x0), (1, .int .i64 t), (19, .bool false), (20, .cv (undef))] [] ?_
   refine zS 4 [(19, .bool false), (20, .cv (undef)), (24, .cv (undef))] [] ?_
   refine zB [(6, .bool false)] [] ?_
   refine AW.ret ?_
   obtain rfl := Option.some.inj h
   exact zR [] [] []
 ·refine zS 4 [(0, .sl (.sl (.pair (.int .i64) .bool)) x0), (1, .int .i64 t), (2, .int .i64 a), (9, .bool false), (13, .cv (undef))] [] ?_
  refine zS 5 [(0, .sl (.sl (.pair (.int .i64) .bool)) x0), (1, .int .i64 t), (2, .int .i64 a), (18, .bool false)] [] ?_
  refine zS 5 [(19, .bool false), (20, .cv (undef)), (23, .cv (undef))] [] ?_
  refine zB [(6, .bool false)] [] ?_
  refine AW.ret ?_
  obtain rfl := Option.some.inj h
  exact zR [] [] []

theorem hc_linealref09_conflict (x0 : List (List (Int × Bool))) (t : Int) (a : Int) (u : Int) (b : Int) {r : Bool} (h : linealref09_conflict x0 t a u b = some r) : HC Try.prog 65 [] [.sl (.sl (.pair (.int .i64) .bool)) x0, .int .i64 t, .int .i64 a, .int .i64 u, .int .i64 b] [] (.bool r) := by
 unfold linealref09_conflict at h
 refine zH Try.func65 [.tmp 10] 53 ?_
 refine zo ?_
 refine zB [(0, .sl (.sl (.pair (.int .i64) .bool)) x0), (1, .int .i64 t), (2, .int .i64 a), (3, .int .i64 u), (4, .int .i64 b)] [] ?_
 refine AW.seq ?_
 refine AW.draw tab_ok mixed_ok [] [] (by decide) (lex_fast (by kernel_rfl)) ?_
 as_aux_lemma =>
  refine adops_cut 4 (fun K' hK1 => ?_)
  try dsimp only [List.drop_succ_cons, List.drop_zero, List.take_succ_cons, List.take_zero]
  simp only [go_sem]
  repeat with_reducible refine zN ?_
  refine hK1 _ ?_
  as_aux_lemma =>
   rcases zI h with ⟨hb2, h⟩ | ⟨hb2, h⟩
   ·simp only [hb2]
    as_aux_lemma =>
     obtain ⟨c4, h⟩ := ck_some.1 h
     obtain ⟨c5, h⟩ := ck_some.1 h
     obtain ⟨c6, h⟩ := ck_some.1 h
     obtain ⟨c7, h⟩ := ck_some.1 h
     refine adops_cut 6 (fun K' hK3 => ?_)
     try dsimp only [List.drop_succ_cons, List.drop_zero, List.take_succ_cons, List.take_zero]
     simp only [go_sem, hb2]
     repeat with_reducible refine zN ?_
     refine hK3 _ ?_
     as_aux_lemma =>
      obtain ⟨c9, h⟩ := ck_some.1 h
      obtain ⟨c10, h⟩ := ck_some.1 h
      refine adops_cut 6 (fun K' hK8 => ?_)
      try dsimp only [List.drop_succ_cons, List.drop_zero, List.take_succ_cons, List.take_zero]
      simp only [go_sem, hb2]
      repeat with_reducible refine zN ?_
      refine hK8 _ ?_
      as_aux_lemma =>
       obtain ⟨c12, h⟩ := ck_some.1 h
       obtain ⟨c13, h⟩ := ck_some.1 h
       refine adops_cut 6 (fun K' hK11 => ?_)
       try dsimp only [List.drop_succ_cons, List.drop_zero, List.take_succ_cons, List.take_zero]
       simp only [go_sem, hb2]
       repeat with_reducible refine zN ?_
       refine hK11 _ ?_
       as_aux_lemma =>
        refine adops_cut 1 (fun K' hK14 => ?_)
        try dsimp only [List.drop_succ_cons, List.drop_zero, List.take_succ_cons, List.take_zero]
        simp only [go_sem, hb2]
        repeat with_reducible refine zN ?_
        refine hK14 _ ?_
        as_aux_lemma =>
         rcases zI h with ⟨hb15, h⟩ | ⟨hb15, h⟩
         ·simp only [hb15]
          as_aux_lemma =>
           obtain ⟨c17, h⟩ := ck_some.1 h
           obtain ⟨c18, h⟩ := ck_some.1 h
           obtain ⟨c19, h⟩ := ck_some.1 h
           obtain ⟨c20, h⟩ := ck_some.1 h
           refine adops_cut 6 (fun K' hK16 => ?_)
           try dsimp only [List.drop_succ_cons, List.drop_zero, List.take_succ_cons, List.take_zero]
           simp only [go_sem, hb2, hb15]
           repeat with_reducible refine zN ?_
           refine hK16 _ ?_
           as_aux_lemma =>
            refine adops_cut 3 (fun K' hK21 => ?_)
            try dsimp only [List.drop_succ_cons, List.drop_zero, List.take_succ_cons, List.take_zero]
            simp only [go_sem, hb2, hb15]
            repeat with_reducible refine zN ?_
            refine hK21 _ ?_
            as_aux_lemma =>
             rcases zI h with ⟨hb22, h⟩ | ⟨hb22, h⟩
             ·simp only [hb22]
              as_aux_lemma =>
               refine adops_cut 4 (fun K' hK23 => ?_)
               try dsimp only [List.drop_succ_cons, List.drop_zero, List.take_succ_cons, List.take_zero]
               simp only [go_sem, hb2, hb15, hb22]
               repeat with_reducible refine zN ?_
               refine hK23 _ ?_
               as_aux_lemma =>
                refine adops_cut 4 (fun K' hK24 => ?_)
                try dsimp only [List.drop_succ_cons, List.drop_zero, List.take_succ_cons, List.take_zero]
                simp only [go_sem, hb2, hb15, hb22]
                repeat with_reducible refine zN ?_
                refine hK24 _ ?_
                as_aux_lemma =>
                 refine adops_cut 3 (fun K' hK25 => ?_)
                 try dsimp only [List.drop_succ_cons, List.drop_zero, List.take_succ_cons, List.take_zero]
                 simp only [go_sem, hb2, hb15, hb22]
                 repeat with_reducible refine zN ?_
                 refine hK25 _ ?_
                 refine adops_nil ?_
                 refine athen_n ?_
                 refine zV [(10, .bool true)] [] gt ?_
                 as_aux_lemma =>
                  refine AW.ret ?_
                  obtain rfl := Option.some.inj h
                  exact zR [] [] []
             ·simp only [hb22]
              as_aux_lemma =>
               obtain ⟨c27, h⟩ := ck_some.1 h
               obtain ⟨c28, h⟩ := ck_some.1 h
               obtain ⟨c29, h⟩ := ck_some.1 h
               obtain ⟨c30, h⟩ := ck_some.1 h
               refine adops_cut 6 (fun K' hK26 => ?_)
               try dsimp only [List.drop_succ_cons, List.drop_zero, List.take_succ_cons, List.take_zero]
               simp only [go_sem, hb2, hb15, hb22]
               repeat with_reducible refine zN ?_
               refine hK26 _ ?_
               as_aux_lemma =>
                refine adops_cut 5 (fun K' hK31 => ?_)
                try dsimp only [List.drop_succ_cons, List.drop_zero, List.take_succ_cons, List.take_zero]
                simp only [go_sem, hb2, hb15, hb22]
                repeat with_reducible refine zN ?_
                refine hK31 _ ?_
                refine adops_nil ?_
                refine athen_n ?_
                refine zV [(10, .bool ((x0.getD u.toNat []).getD b.toNat (0, false)).2)] [] gt ?_
                as_aux_lemma =>
                 refine AW.ret ?_
                 obtain rfl := Option.some.inj h
                 exact zR [] [] []
         ·simp only [hb15]
          as_aux_lemma =>
           refine adops_cut 4 (fun K' hK32 => ?_)
           try dsimp only [List.drop_succ_cons, List.drop_zero, List.take_succ_cons, List.take_zero]
           simp only [go_sem, hb2, hb15]
           repeat with_reducible refine zN ?_
           refine hK32 _ ?_
           as_aux_lemma =>
            refine adops_cut 4 (fun K' hK33 => ?_)
            try dsimp only [List.drop_succ_cons, List.drop_zero, List.take_succ_cons, List.take_zero]
            simp only [go_sem, hb2, hb15]
            repeat with_reducible refine zN ?_
            refine hK33 _ ?_
            as_aux_lemma =>
             refine adops_cut 4 (fun K' hK34 => ?_)
             try dsimp only [List.drop_succ_cons, List.drop_zero, List.take_succ_cons, List.take_zero]
             simp only [go_sem, hb2, hb15]
             repeat with_reducible refine zN ?_
             refine hK34 _ ?_
             as_aux_lemma =>
              refine adops_cut 4 (fun K' hK35 => ?_)
              try dsimp only [List.drop_succ_cons, List.drop_zero, List.take_succ_cons, List.take_zero]
              simp only [go_sem, hb2, hb15]
              repeat with_reducible refine zN ?_
              refine hK35 _ ?_
              as_aux_lemma =>
               refine adops_cut 4 (fun K' hK36 => ?_)
               try dsimp only [List.drop_succ_cons, List.drop_zero, List.take_succ_cons, List.take_zero]
               simp only [go_sem, hb2, hb15]
               repeat with_reducible refine zN ?_
               refine hK36 _ ?_
               refine adops_nil ?_
               refine athen_n ?_
               refine zV [(10, .bool false)] [] gt ?_
               as_aux_lemma =>
                refine AW.ret ?_
                obtain rfl := Option.some.inj h
                exact zR [] [] []
   ·simp only [hb2]
    as_aux_lemma =>
     refine adops_cut 4 (fun K' hK37 => ?_)
     try dsimp only [List.drop_succ_cons, List.drop_zero, List.take_succ_cons, List.take_zero]
     simp only [go_sem, hb2]
     repeat with_reducible refine zN ?_
     refine hK37 _ ?_
     as_aux_lemma =>
      refine adops_cut 4 (fun K' hK38 => ?_)
      try dsimp only [List.drop_succ_cons, List.drop_zero, List.take_succ_cons, List.take_zero]
      simp only [go_sem, hb2]
      repeat with_reducible refine zN ?_
      refine hK38 _ ?_
      as_aux_lemma =>
       refine adops_cut 4 (fun K' hK39 => ?_)
       try dsimp only [List.drop_succ_cons, List.drop_zero, List.take_succ_cons, List.take_zero]
       simp only [go_sem, hb2]
       repeat with_reducible refine zN ?_
       refine hK39 _ ?_
       as_aux_lemma =>
        refine adops_cut 4 (fun K' hK40 => ?_)
        try dsimp only [List.drop_succ_cons, List.drop_zero, List.take_succ_cons, List.take_zero]
        simp only [go_sem, hb2]
        repeat with_reducible refine zN ?_
        refine hK40 _ ?_
        as_aux_lemma =>
         refine adops_cut 6 (fun K' hK41 => ?_)
         try dsimp only [List.drop_succ_cons, List.drop_zero, List.take_succ_cons, List.take_zero]
         simp only [go_sem, hb2]
         repeat with_reducible refine zN ?_
         refine hK41 _ ?_
         as_aux_lemma =>
          refine adops_cut 4 (fun K' hK42 => ?_)
          try dsimp only [List.drop_succ_cons, List.drop_zero, List.take_succ_cons, List.take_zero]
          simp only [go_sem, hb2]
          repeat with_reducible refine zN ?_
          refine hK42 _ ?_
          as_aux_lemma =>
           refine adops_cut 4 (fun K' hK43 => ?_)
           try dsimp only [List.drop_succ_cons, List.drop_zero, List.take_succ_cons, List.take_zero]
           simp only [go_sem, hb2]
           repeat with_reducible refine zN ?_
           refine hK43 _ ?_
           as_aux_lemma =>
            refine adops_cut 4 (fun K' hK44 => ?_)
            try dsimp only [List.drop_succ_cons, List.drop_zero, List.take_succ_cons, List.take_zero]
            simp only [go_sem, hb2]
            repeat with_reducible refine zN ?_
            refine hK44 _ ?_
            as_aux_lemma =>
             refine adops_cut 5 (fun K' hK45 => ?_)
             try dsimp only [List.drop_succ_cons, List.drop_zero, List.take_succ_cons, List.take_zero]
             simp only [go_sem, hb2]
             repeat with_reducible refine zN ?_
             refine hK45 _ ?_
             refine adops_nil ?_
             refine athen_n ?_
             refine zV [(10, .bool false)] [] gt ?_
             as_aux_lemma =>
              refine AW.ret ?_
              obtain rfl := Option.some.inj h
              exact zR [] [] []

theorem hc_linealref09_Conflict (x0 : List (List (Int × Bool))) (t : Int) (a : Int) (u : Int) (b : Int) {r : Bool × Int} (h : linealref09_Conflict x0 t a u b = some r) : HC Try.prog 16 [] [.sl (.sl (.pair (.int .i64) .bool)) x0, .int .i64 t, .int .i64 a, .int .i64 u, .int .i64 b] [] (.tup [.bool r.1, .int .i64 r.2]) := by
 unfold linealref09_Conflict at h
 refine zH Try.func16 [.tmp 10, .tmp 11] 33 ?_
 refine zo ?_
 refine zB [(0, .sl (.sl (.pair (.int .i64) .bool)) x0), (1, .int .i64 t), (2, .int .i64 a), (3, .int .i64 u), (4, .int .i64 b)] [] ?_
 refine AW.seq ?_
 refine zo ?_
 refine zS 1 [(0, .sl (.sl (.pair (.int .i64) .bool)) x0), (1, .int .i64 t), (2, .int .i64 a), (3, .int .i64 u), (4, .int .i64 b), (12, .sl (.sl (.pair (.int .i64) .bool)) x0)] [] ?_
 obtain ⟨v0, hv1, h⟩ := Option.bind_eq_some_iff.1 h
 refine zC [] [] (hc_linealref09_Valid x0 hv1) [(0, .sl (.sl (.pair (.int .i64) .bool)) x0), (1, .int .i64 t), (2, .int .i64 a), (3, .int .i64 u), (4, .int .i64 b), (13, .bool v0)] [] ?_
 refine zB [(0, .sl (.sl (.pair (.int .i64) .bool)) x0), (1, .int .i64 t), (2, .int .i64 a), (3, .int .i64 u), (4, .int .i64 b), (14, .bool (!v0))] [] ?_
 refine zQ h (fun hb2 h => ?_) (fun hb2 h => ?_)
 ·refine zo ?_
  refine zB [(10, .bool false), (11, .int .i64 90)] [] ?_
  refine zr ?_
  obtain rfl := Option.some.inj h
  exact zR [] [] []
 ·refine zk ?_
  refine AW.seq ?_
  refine zo ?_
  refine zS 3 [(0, .sl (.sl (.pair (.int .i64) .bool)) x0), (1, .int .i64 t), (2, .int .i64 a), (3, .int .i64 u), (4, .int .i64 b), (15, .sl (.sl (.pair (.int .i64) .bool)) x0), (16, .int .i64 t), (17, .int .i64 a)] [] ?_
  obtain ⟨v0_2, hv3, h⟩ := Option.bind_eq_some_iff.1 h
  refine zC [] [] (hc_linealref09_IsAccess x0 t a hv3) [(0, .sl (.sl (.pair (.int .i64) .bool)) x0), (1, .int .i64 t), (2, .int .i64 a), (3, .int .i64 u), (4, .int .i64 b), (18, .bool v0_2)] [] ?_
  refine zS 2 [(0, .sl (.sl (.pair (.int .i64) .bool)) x0), (1, .int .i64 t), (2, .int .i64 a), (3, .int .i64 u), (4, .int .i64 b), (20, .bool (!v0_2))] [] ?_
  rcases zI h with ⟨hb4, h⟩ | ⟨hb4, h⟩
  ·refine zS 4 [(0, .sl (.sl (.pair (.int .i64) .bool)) x0), (1, .int .i64 t), (2, .int .i64 a), (3, .int .i64 u), (4, .int .i64 b), (20, .bool true), (24, .cv (undef))] [] ?_
   refine zB [(0, .sl (.sl (.pair (.int .i64) .bool)) x0), (1, .int .i64 t), (2, .int .i64 a), (3, .int .i64 u), (4, .int .i64 b), (26, .bool true)] [] ?_
   refine AW.cond (b := true) rfl (fun _ => ?_) (fun hb5 => by cases hb5)
   refine zo ?_
   refine zB [(10, .bool false), (11, .int .i64 2)] [] ?_
   refine zr ?_
   obtain rfl := Option.some.inj h
   exact zR [] [] []
  ·refine zS 3 [(0, .sl (.sl (.pair (.int .i64) .bool)) x0), (1, .int .i64 t), (2, .int .i64 a), (3, .int .i64 u), (4, .int .i64 b), (20, .bool false), (21, .sl (.sl (.pair (.int .i64) .bool)) x0), (22, .int .i64 u), (23, .int .i64 b)] [] ?_
   obtain ⟨v0_3, hv6, h⟩ := Option.bind_eq_some_iff.1 h
   refine zG [] [] (hc_linealref09_IsAccess x0 u b hv6) [(0, .sl (.sl (.pair (.int .i64) .bool)) x0), (1, .int .i64 t), (2, .int .i64 a), (3, .int .i64 u), (4, .int .i64 b), (20, .bool false), (24, .bool v0_3)] [] ?_
   refine zB [(0, .sl (.sl (.pair (.int .i64) .bool)) x0), (1, .int .i64 t), (2, .int .i64 a), (3, .int .i64 u), (4, .int .i64 b), (26, .bool (!v0_3))] [] ?_
   refine zQ h (fun hb7 h => ?_) (fun hb7 h => ?_)
   ·refine zo ?_
    refine zB [(10, .bool false), (11, .int .i64 2)] [] ?_
    refine zr ?_
    obtain rfl := Option.some.inj h
    exact zR [] [] []
   ·refine zk ?_
    refine zo ?_
    refine zS 5 [(27, .sl (.sl (.pair (.int .i64) .bool)) x0), (28, .int .i64 t), (29, .int .i64 a), (30, .int .i64 u), (31, .int .i64 b)] [] ?_
    obtain ⟨v0_4, hv8, h⟩ := Option.bind_eq_some_iff.1 h
    refine zC [] [] (hc_linealref09_conflict x0 t a u b hv8) [(32, .bool v0_4)] [] ?_
    refine zB [(10, .bool v0_4), (11, .int .i64 0)] [] ?_
    refine AW.ret ?_
    obtain rfl := Option.some.inj h
    exact zR [] [] []

end Go.Proofs.Ytdicomoggfhbfaa
