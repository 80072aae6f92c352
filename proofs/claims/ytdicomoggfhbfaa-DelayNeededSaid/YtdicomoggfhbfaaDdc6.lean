/-
  Made by wip/tool/dc.py out of the print of the program: contracts.
-/
import Derived.Test.YtdicomoggfhbfaaDlp
import Derived.Test.YtdicomoggfhbfaaShd
import Derived.Test.YtdicomoggfhbfaaDdc5
namespace Go.Proofs.Ytdicomoggfhbfaa
open Go.RowKit

set_option linter.unusedSimpArgs false
set_option linter.unusedVariables false
set_option linter.constructorNameAsVariable false

set_option maxRecDepth 100000
set_option maxHeartbeats 40000000

theorem hc_lineallaw09_all (pairs : List (Int × Int × Int)) (circle : List (Int × Int × Int)) {r : Bool} (h : lineallaw09_all pairs circle = some r) : HC Try.prog 57 [] [.sl (.pair (.int .i64) (.pair (.int .i64) (.int .i64))) pairs, .sl (.pair (.int .i64) (.pair (.int .i64) (.int .i64))) circle] [] (.bool r) := by
 unfold lineallaw09_all at h
 refine zH Try.func57 [.tmp 4] 25 ?_
 refine zo ?_
 refine zB [(0, .sl (.pair (.int .i64) (.pair (.int .i64) (.int .i64))) pairs), (1, .sl (.pair (.int .i64) (.pair (.int .i64) (.int .i64))) circle)] [] ?_
 refine AW.have1 (fun _ : Unit => lineallaw09_all_k1 = some r) (fun _ => ⟨fr [], hpGet [], gt⟩) (fun _ h => ?_) (fun hk_lineallaw09_all_k1 => ?_)
 ·as_aux_lemma =>
   unfold lineallaw09_all_k1 at h
   refine zo ?_
   refine zB [(4, .bool true)] [] ?_
   refine AW.ret ?_
   obtain rfl := Option.some.inj h
   exact zR [] [] []
 ·refine AW.seq ?_
  refine zo ?_
  refine zB [(0, .sl (.pair (.int .i64) (.pair (.int .i64) (.int .i64))) pairs), (7, .sl (.pair (.int .i64) (.pair (.int .i64) (.int .i64))) circle), (8, .int .i64 (circle.length : Int)), (9, .int .i64 0)] [] ?_
  refine AW.block ?_
  obtain ⟨rv5, hw1, ho2⟩ := Option.bind_eq_some_iff.1 h
  refine AW.loopO (lineallaw09_all_b1 pairs circle) (fun st1 => ⟨fr [(0, .sl (.pair (.int .i64) (.pair (.int .i64) (.int .i64))) pairs), (7, .sl (.pair (.int .i64) (.pair (.int .i64) (.int .i64))) circle), (8, .int .i64 (circle.length : Int)), (9, .int .i64 st1)], hpGet [], gt⟩) 0 hw1 (zL [] [] []) ?_
  as_aux_lemma =>
   intro st1 x4 h hd3
   unfold lineallaw09_all_b1 at h
   refine zo ?_
   refine zB [(0, .sl (.pair (.int .i64) (.pair (.int .i64) (.int .i64))) pairs), (7, .sl (.pair (.int .i64) (.pair (.int .i64) (.int .i64))) circle), (8, .int .i64 (circle.length : Int)), (9, .int .i64 st1), (10, .bool (decide (st1 < (circle.length : Int))))] [] ?_
   refine AW.seq ?_
   refine zQ h (fun hb6 h => ?_) (fun hb6 h => ?_)
   ·refine zk ?_
    refine AW.seq ?_
    refine AW.block ?_
    refine zo ?_
    obtain ⟨c7, h⟩ := ck_some.1 h
    obtain ⟨c8, h⟩ := ck_some.1 h
    refine zB [(0, .sl (.pair (.int .i64) (.pair (.int .i64) (.int .i64))) pairs), (6, .bp 6 0), (7, .sl (.pair (.int .i64) (.pair (.int .i64) (.int .i64))) circle), (8, .int .i64 (circle.length : Int)), (9, .int .i64 st1)] [(6, .box 35 [.int .i64 (circle.getD st1.toNat (0, 0, 0)).1, .int .i64 (circle.getD st1.toNat (0, 0, 0)).2.1, .int .i64 (circle.getD st1.toNat (0, 0, 0)).2.2])] ?_
    refine zo ?_
    refine zS 5 [(0, .sl (.pair (.int .i64) (.pair (.int .i64) (.int .i64))) pairs), (6, .bp 6 0), (7, .sl (.pair (.int .i64) (.pair (.int .i64) (.int .i64))) circle), (8, .int .i64 (circle.length : Int)), (9, .int .i64 st1), (17, .bool (!(decide ((circle.getD st1.toNat (0, 0, 0)).2.1 = (circle.getD st1.toNat (0, 0, 0)).2.2))))] [(6, .box 35 [.int .i64 (circle.getD st1.toNat (0, 0, 0)).1, .int .i64 (circle.getD st1.toNat (0, 0, 0)).2.1, .int .i64 (circle.getD st1.toNat (0, 0, 0)).2.2])] ?_
    refine zS 1 [(0, .sl (.pair (.int .i64) (.pair (.int .i64) (.int .i64))) pairs), (6, .bp 6 0), (7, .sl (.pair (.int .i64) (.pair (.int .i64) (.int .i64))) circle), (8, .int .i64 (circle.length : Int)), (9, .int .i64 st1), (18, .bool (!(decide ((circle.getD st1.toNat (0, 0, 0)).2.1 = (circle.getD st1.toNat (0, 0, 0)).2.2))))] [(6, .box 35 [.int .i64 (circle.getD st1.toNat (0, 0, 0)).1, .int .i64 (circle.getD st1.toNat (0, 0, 0)).2.1, .int .i64 (circle.getD st1.toNat (0, 0, 0)).2.2])] ?_
    rcases zI h with ⟨hb9, h⟩ | ⟨hb9, h⟩
    ·refine zS 2 [(0, .sl (.pair (.int .i64) (.pair (.int .i64) (.int .i64))) pairs), (7, .sl (.pair (.int .i64) (.pair (.int .i64) (.int .i64))) circle), (8, .int .i64 (circle.length : Int)), (9, .int .i64 st1), (18, .bool true), (19, .sl (.pair (.int .i64) (.pair (.int .i64) (.int .i64))) pairs), (20, .agg [.int .i64 (circle.getD st1.toNat (0, 0, 0)).1, .int .i64 (circle.getD st1.toNat (0, 0, 0)).2.1, .int .i64 (circle.getD st1.toNat (0, 0, 0)).2.2])] [] ?_
     obtain ⟨v0, hv10, h⟩ := Option.bind_eq_some_iff.1 h
     refine zG [] [] (hc_lineallaw09_in pairs (circle.getD st1.toNat (0, 0, 0)) hv10) [(0, .sl (.pair (.int .i64) (.pair (.int .i64) (.int .i64))) pairs), (7, .sl (.pair (.int .i64) (.pair (.int .i64) (.int .i64))) circle), (8, .int .i64 (circle.length : Int)), (9, .int .i64 st1), (18, .bool true), (21, .bool v0)] [] ?_
     refine zB [(0, .sl (.pair (.int .i64) (.pair (.int .i64) (.int .i64))) pairs), (7, .sl (.pair (.int .i64) (.pair (.int .i64) (.int .i64))) circle), (8, .int .i64 (circle.length : Int)), (9, .int .i64 st1), (23, .bool (!v0))] [] ?_
     refine zQ h (fun hb11 h => ?_) (fun hb11 h => ?_)
     ·refine zo ?_
      refine zB [(4, .bool false)] [] ?_
      refine AW.ret ?_
      refine ablock_r ?_
      refine athen_r ?_
      obtain rfl := Option.some.inj h
      try rw [← hd3 _ rfl] at ho2
      have h := ho2
      try simp only at h
      refine athen_r ?_
      refine ablock_r ?_
      refine athen_r ?_
      obtain rfl := Option.some.inj h
      exact zR [] [] []
     ·refine zm ?_
      refine athen_n ?_
      refine AW.ops ?_
      obtain ⟨c12, h⟩ := ck_some.1 h
      refine zA [(0, .sl (.pair (.int .i64) (.pair (.int .i64) (.int .i64))) pairs), (7, .sl (.pair (.int .i64) (.pair (.int .i64) (.int .i64))) circle), (8, .int .i64 (circle.length : Int)), (9, .int .i64 (st1 + 1))] [] ?_
      obtain rfl := Option.some.inj h
      exact ⟨_, rfl, zL [] [] []⟩
    ·refine zS 4 [(0, .sl (.pair (.int .i64) (.pair (.int .i64) (.int .i64))) pairs), (7, .sl (.pair (.int .i64) (.pair (.int .i64) (.int .i64))) circle), (8, .int .i64 (circle.length : Int)), (9, .int .i64 st1), (18, .bool false), (22, .cv (undef))] [] ?_
     refine zB [(0, .sl (.pair (.int .i64) (.pair (.int .i64) (.int .i64))) pairs), (7, .sl (.pair (.int .i64) (.pair (.int .i64) (.int .i64))) circle), (8, .int .i64 (circle.length : Int)), (9, .int .i64 st1), (23, .bool false)] [] ?_
     refine AW.cond (b := false) rfl (fun hb13 => by cases hb13) (fun _ => ?_)
     refine zm ?_
     refine athen_n ?_
     refine AW.ops ?_
     obtain ⟨c14, h⟩ := ck_some.1 h
     refine zA [(0, .sl (.pair (.int .i64) (.pair (.int .i64) (.int .i64))) pairs), (7, .sl (.pair (.int .i64) (.pair (.int .i64) (.int .i64))) circle), (8, .int .i64 (circle.length : Int)), (9, .int .i64 (st1 + 1))] [] ?_
     obtain rfl := Option.some.inj h
     exact ⟨_, rfl, zL [] [] []⟩
   ·refine AW.exit ?_
    refine athen_e ?_
    obtain rfl := Option.some.inj h
    try rw [← hd3 _ rfl] at ho2
    have h := ho2
    try simp only at h
    refine athen_e ?_
    refine ablock_s ?_
    refine athen_n ?_
    exact AW.weaken (zL [] [] []) (hk_lineallaw09_all_k1 () h)

theorem hc_lineallaw09_earlier (r0 : Int × Int × Int) (s : Int × Int × Int) {r : Bool} (h : lineallaw09_earlier r0 s = some r) : HC Try.prog 56 [] [.agg [.int .i64 r0.1, .int .i64 r0.2.1, .int .i64 r0.2.2], .agg [.int .i64 s.1, .int .i64 s.2.1, .int .i64 s.2.2]] [] (.bool r) := by
 unfold lineallaw09_earlier at h
 refine zH Try.func56 [.tmp 4] 24 ?_
 refine zo ?_
 refine zB [(2, .bp 2 0), (3, .bp 3 0)] [(2, .box 35 [.int .i64 r0.1, .int .i64 r0.2.1, .int .i64 r0.2.2]), (3, .box 35 [.int .i64 s.1, .int .i64 s.2.1, .int .i64 s.2.2])] ?_
 refine AW.have1 (fun _ : Unit => lineallaw09_earlier_k1 = some r) (fun _ => ⟨fr [], hpGet [], gt⟩) (fun _ h => ?_) (fun hk_lineallaw09_earlier_k1 => ?_)
 ·as_aux_lemma =>
   unfold lineallaw09_earlier_k1 at h
   refine zo ?_
   refine zB [(4, .bool false)] [] ?_
   refine AW.ret ?_
   obtain rfl := Option.some.inj h
   exact zR [] [] []
 ·refine AW.seq ?_
  refine zo ?_
  refine zB [(2, .bp 2 0), (3, .bp 3 0), (6, .int .i64 0)] [(2, .box 35 [.int .i64 r0.1, .int .i64 r0.2.1, .int .i64 r0.2.2]), (3, .box 35 [.int .i64 s.1, .int .i64 s.2.1, .int .i64 s.2.2])] ?_
  refine AW.block ?_
  obtain ⟨rv5, hw1, ho2⟩ := Option.bind_eq_some_iff.1 h
  refine AW.loopO (lineallaw09_earlier_b1 r0 s) (fun st1 => ⟨fr [(2, .bp 2 0), (3, .bp 3 0), (6, .int .i64 st1)], hpGet [(2, .box 35 [.int .i64 r0.1, .int .i64 r0.2.1, .int .i64 r0.2.2]), (3, .box 35 [.int .i64 s.1, .int .i64 s.2.1, .int .i64 s.2.2])], gt⟩) 0 hw1 (zL [] [] []) ?_
  as_aux_lemma =>
   intro st1 x4 h hd3
   unfold lineallaw09_earlier_b1 at h
   refine zo ?_
   refine zB [(2, .bp 2 0), (3, .bp 3 0), (6, .int .i64 st1), (7, .bool (decide (st1 < 3)))] [(2, .box 35 [.int .i64 r0.1, .int .i64 r0.2.1, .int .i64 r0.2.2]), (3, .box 35 [.int .i64 s.1, .int .i64 s.2.1, .int .i64 s.2.2])] ?_
   refine AW.seq ?_
   refine zQ h (fun hb6 h => ?_) (fun hb6 h => ?_)
   ·refine zk ?_
    refine AW.seq ?_
    refine AW.block ?_
    refine zo ?_
    refine zB [(2, .bp 2 0), (3, .bp 3 0), (5, .int .i64 st1), (6, .int .i64 st1)] [(2, .box 35 [.int .i64 r0.1, .int .i64 r0.2.1, .int .i64 r0.2.2]), (3, .box 35 [.int .i64 s.1, .int .i64 s.2.1, .int .i64 s.2.2])] ?_
    refine AW.seq ?_
    refine AW.draw tab_ok mixed_ok [] [] (by decide) (by kernel_rfl) ?_
    as_aux_lemma =>
     obtain ⟨c8, h⟩ := ck_some.1 h
     obtain ⟨c9, h⟩ := ck_some.1 h
     refine adops_cut 1 (fun K' hK7 => ?_)
     try dsimp only [List.drop_succ_cons, List.drop_zero, List.take_succ_cons, List.take_zero]
     simp only [go_sem, hb6]
     repeat with_reducible refine zN ?_
     refine hK7 _ ?_
     as_aux_lemma =>
      rcases Bool.eq_false_or_eq_true (decide (st1 = 0)) with hb10 | hb10
      ·rw [if_pos hb10] at h
       have hz11 : st1 = 0 := by simpa using hb10
       refine adops_cut 6 (fun K' hK12 => ?_)
       try dsimp only [List.drop_succ_cons, List.drop_zero, List.take_succ_cons, List.take_zero]
       simp only [go_sem, hb6, hb10, hz11]
       repeat with_reducible refine zN ?_
       refine hK12 _ ?_
       refine adops_nil ?_
       refine athen_n ?_
       refine zV [(2, .bp 2 0), (3, .bp 3 0), (5, .int .i64 0), (6, .int .i64 0), (15, .bool (!(decide (r0.1 = s.1))))] [(2, .box 35 [.int .i64 r0.1, .int .i64 r0.2.1, .int .i64 r0.2.2]), (3, .box 35 [.int .i64 s.1, .int .i64 s.2.1, .int .i64 s.2.2])] gt ?_
       as_aux_lemma =>
        refine zQ h (fun hb13 h => ?_) (fun hb13 h => ?_)
        ·refine AW.seq ?_
         refine AW.draw tab_ok mixed_ok [] [] (by decide) (by kernel_rfl) ?_
         as_aux_lemma =>
          refine adops_cut 6 (fun K' hK14 => ?_)
          try dsimp only [List.drop_succ_cons, List.drop_zero, List.take_succ_cons, List.take_zero]
          simp only [go_sem, hb6, hb10, hz11, hb13]
          repeat with_reducible refine zN ?_
          refine hK14 _ ?_
          as_aux_lemma =>
           refine adops_cut 2 (fun K' hK15 => ?_)
           try dsimp only [List.drop_succ_cons, List.drop_zero, List.take_succ_cons, List.take_zero]
           simp only [go_sem, hb6, hb10, hz11, hb13]
           repeat with_reducible refine zN ?_
           refine hK15 _ ?_
           refine adops_nil ?_
           refine athen_n ?_
           refine zV [(4, .bool (decide (r0.1 < s.1)))] [] gt ?_
           as_aux_lemma =>
            refine AW.ret ?_
            refine ablock_r ?_
            refine athen_r ?_
            obtain rfl := Option.some.inj h
            rw [← hd3 _ rfl] at ho2
            have h := ho2
            try simp only at h
            refine athen_r ?_
            refine ablock_r ?_
            refine athen_r ?_
            obtain rfl := Option.some.inj h
            exact zR [] [] []
        ·refine zm ?_
         refine athen_n ?_
         refine AW.ops ?_
         obtain ⟨c16, h⟩ := ck_some.1 h
         refine zA [(2, .bp 2 0), (3, .bp 3 0), (6, .int .i64 (0 + 1))] [(2, .box 35 [.int .i64 r0.1, .int .i64 r0.2.1, .int .i64 r0.2.2]), (3, .box 35 [.int .i64 s.1, .int .i64 s.2.1, .int .i64 s.2.2])] ?_
         obtain rfl := Option.some.inj h
         exact ⟨_, rfl, zL [] [] []⟩
      ·rw [if_neg (Bool.eq_false_iff.1 hb10)] at h
       rcases Bool.eq_false_or_eq_true (decide (st1 = 1)) with hb17 | hb17
       ·rw [if_pos hb17] at h
        have hz18 : st1 = 1 := by simpa using hb17
        refine adops_cut 6 (fun K' hK19 => ?_)
        try dsimp only [List.drop_succ_cons, List.drop_zero, List.take_succ_cons, List.take_zero]
        simp only [go_sem, hb6, hb10, hb17, hz18]
        repeat with_reducible refine zN ?_
        refine hK19 _ ?_
        refine adops_nil ?_
        refine athen_n ?_
        refine zV [(2, .bp 2 0), (3, .bp 3 0), (5, .int .i64 1), (6, .int .i64 1), (15, .bool (!(decide (r0.2.1 = s.2.1))))] [(2, .box 35 [.int .i64 r0.1, .int .i64 r0.2.1, .int .i64 r0.2.2]), (3, .box 35 [.int .i64 s.1, .int .i64 s.2.1, .int .i64 s.2.2])] gt ?_
        as_aux_lemma =>
         refine zQ h (fun hb20 h => ?_) (fun hb20 h => ?_)
         ·refine AW.seq ?_
          refine AW.draw tab_ok mixed_ok [] [] (by decide) (by kernel_rfl) ?_
          as_aux_lemma =>
           refine adops_cut 6 (fun K' hK21 => ?_)
           try dsimp only [List.drop_succ_cons, List.drop_zero, List.take_succ_cons, List.take_zero]
           simp only [go_sem, hb6, hb10, hb17, hz18, hb20]
           repeat with_reducible refine zN ?_
           refine hK21 _ ?_
           as_aux_lemma =>
            refine adops_cut 2 (fun K' hK22 => ?_)
            try dsimp only [List.drop_succ_cons, List.drop_zero, List.take_succ_cons, List.take_zero]
            simp only [go_sem, hb6, hb10, hb17, hz18, hb20]
            repeat with_reducible refine zN ?_
            refine hK22 _ ?_
            refine adops_nil ?_
            refine athen_n ?_
            refine zV [(4, .bool (decide (r0.2.1 < s.2.1)))] [] gt ?_
            as_aux_lemma =>
             refine AW.ret ?_
             refine ablock_r ?_
             refine athen_r ?_
             obtain rfl := Option.some.inj h
             rw [← hd3 _ rfl] at ho2
             have h := ho2
             try simp only at h
             refine athen_r ?_
             refine ablock_r ?_
             refine athen_r ?_
             obtain rfl := Option.some.inj h
             exact zR [] [] []
         ·refine zm ?_
          refine athen_n ?_
          refine AW.ops ?_
          obtain ⟨c23, h⟩ := ck_some.1 h
          refine zA [(2, .bp 2 0), (3, .bp 3 0), (6, .int .i64 (1 + 1))] [(2, .box 35 [.int .i64 r0.1, .int .i64 r0.2.1, .int .i64 r0.2.2]), (3, .box 35 [.int .i64 s.1, .int .i64 s.2.1, .int .i64 s.2.2])] ?_
          obtain rfl := Option.some.inj h
          exact ⟨_, rfl, zL [] [] []⟩
       ·rw [if_neg (Bool.eq_false_iff.1 hb17)] at h
        have hz18 : st1 = 2 := by have := of_decide_eq_false hb10; have := of_decide_eq_false hb17; omega
        refine adops_cut 6 (fun K' hK24 => ?_)
        try dsimp only [List.drop_succ_cons, List.drop_zero, List.take_succ_cons, List.take_zero]
        simp only [go_sem, hb6, hb10, hb17, hz18]
        repeat with_reducible refine zN ?_
        refine hK24 _ ?_
        refine adops_nil ?_
        refine athen_n ?_
        refine zV [(2, .bp 2 0), (3, .bp 3 0), (5, .int .i64 2), (6, .int .i64 2), (15, .bool (!(decide (r0.2.2 = s.2.2))))] [(2, .box 35 [.int .i64 r0.1, .int .i64 r0.2.1, .int .i64 r0.2.2]), (3, .box 35 [.int .i64 s.1, .int .i64 s.2.1, .int .i64 s.2.2])] gt ?_
        as_aux_lemma =>
         refine zQ h (fun hb25 h => ?_) (fun hb25 h => ?_)
         ·refine AW.seq ?_
          refine AW.draw tab_ok mixed_ok [] [] (by decide) (by kernel_rfl) ?_
          as_aux_lemma =>
           refine adops_cut 6 (fun K' hK26 => ?_)
           try dsimp only [List.drop_succ_cons, List.drop_zero, List.take_succ_cons, List.take_zero]
           simp only [go_sem, hb6, hb10, hb17, hz18, hb25]
           repeat with_reducible refine zN ?_
           refine hK26 _ ?_
           as_aux_lemma =>
            refine adops_cut 2 (fun K' hK27 => ?_)
            try dsimp only [List.drop_succ_cons, List.drop_zero, List.take_succ_cons, List.take_zero]
            simp only [go_sem, hb6, hb10, hb17, hz18, hb25]
            repeat with_reducible refine zN ?_
            refine hK27 _ ?_
            refine adops_nil ?_
            refine athen_n ?_
            refine zV [(4, .bool (decide (r0.2.2 < s.2.2)))] [] gt ?_
            as_aux_lemma =>
             refine AW.ret ?_
             refine ablock_r ?_
             refine athen_r ?_
             obtain rfl := Option.some.inj h
             rw [← hd3 _ rfl] at ho2
             have h := ho2
             try simp only at h
             refine athen_r ?_
             refine ablock_r ?_
             refine athen_r ?_
             obtain rfl := Option.some.inj h
             exact zR [] [] []
         ·refine zm ?_
          refine athen_n ?_
          refine AW.ops ?_
          obtain ⟨c28, h⟩ := ck_some.1 h
          refine zA [(2, .bp 2 0), (3, .bp 3 0), (6, .int .i64 (2 + 1))] [(2, .box 35 [.int .i64 r0.1, .int .i64 r0.2.1, .int .i64 r0.2.2]), (3, .box 35 [.int .i64 s.1, .int .i64 s.2.1, .int .i64 s.2.2])] ?_
          obtain rfl := Option.some.inj h
          exact ⟨_, rfl, zL [] [] []⟩
   ·refine AW.exit ?_
    refine athen_e ?_
    obtain rfl := Option.some.inj h
    try rw [← hd3 _ rfl] at ho2
    have h := ho2
    try simp only at h
    refine athen_e ?_
    refine ablock_s ?_
    refine athen_n ?_
    exact AW.weaken (zL [] [] []) (hk_lineallaw09_earlier_k1 () h)

end Go.Proofs.Ytdicomoggfhbfaa
