/-
  Made by wip/tool/dc.py out of the print of the program: contracts.
-/
import Derived.Test.YteclokkdgmacpaaGrp
import Derived.Test.YteclokkdgmacpaaSh7
import Derived.Test.YteclokkdgmacpaaAvd
import Derived.Test.YteclokkdgmacpaaGdc6
import Derived.Test.YteclokkdgmacpaaGdc7
namespace Go.Proofs.Yteclokkdgmacpaa
open Go.RowKit

set_option linter.unusedSimpArgs false
set_option linter.unusedVariables false
set_option linter.constructorNameAsVariable false

set_option maxRecDepth 100000
set_option maxHeartbeats 2000000

theorem hc_lineallaw07_in (l : List Int) (n : Int) {r : Bool} (h : lineallaw07_in l n = some r) : HC Try.prog 53 [] [.sl (.int .i64) l, .int .i64 n] [] (.bool r) := by
 unfold lineallaw07_in at h
 refine zH Try.func53 [.tmp 4] 17 ?_
 refine zo ?_
 refine zB [(0, .sl (.int .i64) l), (1, .int .i64 n)] [] ?_
 refine AW.have1 (fun _ : Unit => lineallaw07_in_k1 = some r) (fun _ => ⟨fr [], hpGet [], gt⟩) (fun _ h => ?_) (fun hk_lineallaw07_in_k1 => ?_)
 ·as_aux_lemma =>
   unfold lineallaw07_in_k1 at h
   refine zo ?_
   refine zB [(4, .bool false)] [] ?_
   refine AW.ret ?_
   obtain rfl := Option.some.inj h
   exact zR [] [] []
 ·refine AW.seq ?_
  refine zo ?_
  refine zB [(1, .int .i64 n), (7, .sl (.int .i64) l), (8, .int .i64 (l.length : Int)), (9, .int .i64 0)] [] ?_
  refine AW.block ?_
  obtain ⟨rv5, hw1, ho2⟩ := Option.bind_eq_some_iff.1 h
  refine AW.loopO (lineallaw07_in_b1 l n) (fun st1 => ⟨fr [(1, .int .i64 n), (7, .sl (.int .i64) l), (8, .int .i64 (l.length : Int)), (9, .int .i64 st1)], hpGet [], gt⟩) 0 hw1 (zL [] [] []) ?_
  as_aux_lemma =>
   intro st1 x4 h hd3
   unfold lineallaw07_in_b1 at h
   refine zo ?_
   refine zB [(1, .int .i64 n), (7, .sl (.int .i64) l), (8, .int .i64 (l.length : Int)), (9, .int .i64 st1), (10, .bool (decide (st1 < (l.length : Int))))] [] ?_
   refine AW.seq ?_
   refine zQ h (fun hb6 h => ?_) (fun hb6 h => ?_)
   ·refine zk ?_
    refine AW.seq ?_
    refine AW.block ?_
    refine zo ?_
    obtain ⟨c7, h⟩ := ck_some.1 h
    obtain ⟨c8, h⟩ := ck_some.1 h
    refine zB [(1, .int .i64 n), (6, .int .i64 (l.getD st1.toNat 0)), (7, .sl (.int .i64) l), (8, .int .i64 (l.length : Int)), (9, .int .i64 st1)] [] ?_
    refine zo ?_
    refine zB [(1, .int .i64 n), (7, .sl (.int .i64) l), (8, .int .i64 (l.length : Int)), (9, .int .i64 st1), (15, .bool (decide ((l.getD st1.toNat 0) = n)))] [] ?_
    refine zQ h (fun hb9 h => ?_) (fun hb9 h => ?_)
    ·refine zo ?_
     refine zB [(4, .bool true)] [] ?_
     refine AW.ret ?_
     refine ablock_r ?_
     refine athen_r ?_
     obtain rfl := Option.some.inj h
     rw [← hd3 _ rfl] at ho2
     have h := ho2
     try simp only at h
     refine athen_r ?_
     refine ablock_r ?_
     refine athen_r ?_
     obtain rfl := Option.some.inj h
     exact zR [] [] []
    ·refine zm ?_
     refine athen_n ?_
     refine AW.ops ?_
     obtain ⟨c10, h⟩ := ck_some.1 h
     refine zA [(1, .int .i64 n), (7, .sl (.int .i64) l), (8, .int .i64 (l.length : Int)), (9, .int .i64 (st1 + 1))] [] ?_
     obtain rfl := Option.some.inj h
     exact ⟨_, rfl, zL [] [] []⟩
   ·refine AW.exit ?_
    refine athen_e ?_
    obtain rfl := Option.some.inj h
    rw [← hd3 _ rfl] at ho2
    have h := ho2
    try simp only at h
    refine athen_e ?_
    refine ablock_s ?_
    refine athen_n ?_
    exact AW.weaken (zL [] [] []) (hk_lineallaw07_in_k1 () h)

theorem hc_lineallaw07_leads (g : Int × (List (Int × Int × Int × Bool))) (path : List Int) (place : Int) {r : Bool} (h : lineallaw07_leads g path place = some r) : HC Try.prog 55 [] [.agg [.int .i64 g.1, .sl (.pair (.int .i64) (.pair (.int .i64) (.pair (.int .i64) .bool))) g.2], .sl (.int .i64) path, .int .i64 place] [] (.bool r) := by
 unfold lineallaw07_leads at h
 refine zH Try.func55 [.tmp 6] 49 ?_
 refine zo ?_
 refine zB [(1, .sl (.int .i64) path), (2, .int .i64 place), (3, .bp 3 0)] [(3, .box 24 [.int .i64 g.1, .sl (.pair (.int .i64) (.pair (.int .i64) (.pair (.int .i64) .bool))) g.2])] ?_
 refine AW.seq ?_
 refine zo ?_
 refine zB [(1, .sl (.int .i64) path), (2, .int .i64 place), (3, .bp 3 0), (11, .bool (decide ((path.length : Int) = 0)))] [(3, .box 24 [.int .i64 g.1, .sl (.pair (.int .i64) (.pair (.int .i64) (.pair (.int .i64) .bool))) g.2])] ?_
 refine zQ h (fun hb1 h => ?_) (fun hb1 h => ?_)
 ·refine zo ?_
  refine zB [(6, .bool (decide (place = 0)))] [] ?_
  refine zr ?_
  obtain rfl := Option.some.inj h
  exact zR [] [] []
 ·refine zk ?_
  refine AW.have1 (fun _ : Unit => lineallaw07_leads_k1 g path place = some r) (fun _ => ⟨fr [(1, .sl (.int .i64) path), (2, .int .i64 place), (3, .bp 3 0)], hpGet [(3, .box 24 [.int .i64 g.1, .sl (.pair (.int .i64) (.pair (.int .i64) (.pair (.int .i64) .bool))) g.2])], gt⟩) (fun _ h => ?_) (fun hk_lineallaw07_leads_k1 => ?_)
  ·as_aux_lemma =>
    unfold lineallaw07_leads_k1 at h
    refine AW.seq ?_
    refine AW.draw tab_ok mixed_ok [] [] (by decide) (lex_fast (by kernel_rfl)) ?_
    as_aux_lemma =>
     obtain ⟨c3, h⟩ := ck_some.1 h
     obtain ⟨c4, h⟩ := ck_some.1 h
     obtain ⟨c5, h⟩ := ck_some.1 h
     refine adops_cut 6 (fun K' hK2 => ?_)
     try dsimp only [List.drop_succ_cons, List.drop_zero, List.take_succ_cons, List.take_zero]
     simp only [go_sem, hb1]
     repeat with_reducible refine zN ?_
     refine hK2 _ ?_
     as_aux_lemma =>
      refine adops_cut 4 (fun K' hK6 => ?_)
      try dsimp only [List.drop_succ_cons, List.drop_zero, List.take_succ_cons, List.take_zero]
      simp only [go_sem, hb1]
      repeat with_reducible refine zN ?_
      refine hK6 _ ?_
      as_aux_lemma =>
       rcases zI h with ⟨hb7, h⟩ | ⟨hb7, h⟩
       ·simp only [hb7]
        as_aux_lemma =>
         obtain ⟨c9, h⟩ := ck_some.1 h
         refine adops_cut 6 (fun K' hK8 => ?_)
         try dsimp only [List.drop_succ_cons, List.drop_zero, List.take_succ_cons, List.take_zero]
         simp only [go_sem, hb1, hb7]
         repeat with_reducible refine zN ?_
         refine hK8 _ ?_
         as_aux_lemma =>
          obtain ⟨c11, h⟩ := ck_some.1 h
          obtain ⟨c12, h⟩ := ck_some.1 h
          obtain ⟨c13, h⟩ := ck_some.1 h
          obtain ⟨c14, h⟩ := ck_some.1 h
          refine adops_cut 6 (fun K' hK10 => ?_)
          try dsimp only [List.drop_succ_cons, List.drop_zero, List.take_succ_cons, List.take_zero]
          simp only [go_sem, hb1, hb7]
          repeat with_reducible refine zN ?_
          refine hK10 _ ?_
          as_aux_lemma =>
           refine adops_cut 3 (fun K' hK15 => ?_)
           try dsimp only [List.drop_succ_cons, List.drop_zero, List.take_succ_cons, List.take_zero]
           simp only [go_sem, hb1, hb7]
           repeat with_reducible refine zN ?_
           refine hK15 _ ?_
           refine adops_nil ?_
           refine athen_n ?_
           refine zV [(6, .bool (decide ((g.2.getD (path.getD ((path.length : Int) - 1).toNat 0).toNat (0, 0, 0, false)).2.2.1 = place)))] [] gt ?_
           as_aux_lemma =>
            refine AW.ret ?_
            obtain rfl := Option.some.inj h
            exact zR [] [] []
       ·simp only [hb7]
        as_aux_lemma =>
         refine adops_cut 4 (fun K' hK16 => ?_)
         try dsimp only [List.drop_succ_cons, List.drop_zero, List.take_succ_cons, List.take_zero]
         simp only [go_sem, hb1, hb7]
         repeat with_reducible refine zN ?_
         refine hK16 _ ?_
         as_aux_lemma =>
          refine adops_cut 4 (fun K' hK17 => ?_)
          try dsimp only [List.drop_succ_cons, List.drop_zero, List.take_succ_cons, List.take_zero]
          simp only [go_sem, hb1, hb7]
          repeat with_reducible refine zN ?_
          refine hK17 _ ?_
          as_aux_lemma =>
           refine adops_cut 4 (fun K' hK18 => ?_)
           try dsimp only [List.drop_succ_cons, List.drop_zero, List.take_succ_cons, List.take_zero]
           simp only [go_sem, hb1, hb7]
           repeat with_reducible refine zN ?_
           refine hK18 _ ?_
           as_aux_lemma =>
            refine adops_cut 3 (fun K' hK19 => ?_)
            try dsimp only [List.drop_succ_cons, List.drop_zero, List.take_succ_cons, List.take_zero]
            simp only [go_sem, hb1, hb7]
            repeat with_reducible refine zN ?_
            refine hK19 _ ?_
            refine adops_nil ?_
            refine athen_n ?_
            refine zV [(6, .bool false)] [] gt ?_
            as_aux_lemma =>
             refine AW.ret ?_
             obtain rfl := Option.some.inj h
             exact zR [] [] []
  ·refine AW.seq ?_
   refine zo ?_
   refine zB [(1, .sl (.int .i64) path), (2, .int .i64 place), (3, .bp 3 0), (14, .sl (.int .i64) path), (15, .int .i64 (path.length : Int)), (16, .int .i64 0)] [(3, .box 24 [.int .i64 g.1, .sl (.pair (.int .i64) (.pair (.int .i64) (.pair (.int .i64) .bool))) g.2])] ?_
   refine AW.block ?_
   obtain ⟨rv24, hw20, ho21⟩ := Option.bind_eq_some_iff.1 h
   refine AW.loopO (lineallaw07_leads_b1 g path) (fun st1 => ⟨fr [(1, .sl (.int .i64) path), (2, .int .i64 place), (3, .bp 3 0), (14, .sl (.int .i64) path), (15, .int .i64 (path.length : Int)), (16, .int .i64 st1)], hpGet [(3, .box 24 [.int .i64 g.1, .sl (.pair (.int .i64) (.pair (.int .i64) (.pair (.int .i64) .bool))) g.2])], gt⟩) 0 hw20 (zL [] [] []) ?_
   as_aux_lemma =>
    intro st1 x23 h hd22
    unfold lineallaw07_leads_b1 at h
    refine zo ?_
    refine zB [(1, .sl (.int .i64) path), (2, .int .i64 place), (3, .bp 3 0), (14, .sl (.int .i64) path), (15, .int .i64 (path.length : Int)), (16, .int .i64 st1), (17, .bool (decide (st1 < (path.length : Int))))] [(3, .box 24 [.int .i64 g.1, .sl (.pair (.int .i64) (.pair (.int .i64) (.pair (.int .i64) .bool))) g.2])] ?_
    refine AW.seq ?_
    refine zQ h (fun hb25 h => ?_) (fun hb25 h => ?_)
    ·refine zk ?_
     refine AW.seq ?_
     refine AW.block ?_
     refine zo ?_
     obtain ⟨c26, h⟩ := ck_some.1 h
     obtain ⟨c27, h⟩ := ck_some.1 h
     refine zB [(1, .sl (.int .i64) path), (2, .int .i64 place), (3, .bp 3 0), (8, .int .i64 (path.getD st1.toNat 0)), (14, .sl (.int .i64) path), (15, .int .i64 (path.length : Int)), (16, .int .i64 st1)] [(3, .box 24 [.int .i64 g.1, .sl (.pair (.int .i64) (.pair (.int .i64) (.pair (.int .i64) .bool))) g.2])] ?_
     refine zo ?_
     refine zS 2 [(1, .sl (.int .i64) path), (2, .int .i64 place), (3, .bp 3 0), (14, .sl (.int .i64) path), (15, .int .i64 (path.length : Int)), (16, .int .i64 st1), (20, .agg [.int .i64 g.1, .sl (.pair (.int .i64) (.pair (.int .i64) (.pair (.int .i64) .bool))) g.2]), (21, .int .i64 (path.getD st1.toNat 0))] [(3, .box 24 [.int .i64 g.1, .sl (.pair (.int .i64) (.pair (.int .i64) (.pair (.int .i64) .bool))) g.2])] ?_
     obtain ⟨v0, hv28, h⟩ := Option.bind_eq_some_iff.1 h
     refine zC [] [] (hc_linealref07_IsMove g (path.getD st1.toNat 0) hv28) [(1, .sl (.int .i64) path), (2, .int .i64 place), (3, .bp 3 0), (14, .sl (.int .i64) path), (15, .int .i64 (path.length : Int)), (16, .int .i64 st1), (22, .bool v0)] [(3, .box 24 [.int .i64 g.1, .sl (.pair (.int .i64) (.pair (.int .i64) (.pair (.int .i64) .bool))) g.2])] ?_
     refine zB [(1, .sl (.int .i64) path), (2, .int .i64 place), (3, .bp 3 0), (14, .sl (.int .i64) path), (15, .int .i64 (path.length : Int)), (16, .int .i64 st1), (23, .bool (!v0))] [(3, .box 24 [.int .i64 g.1, .sl (.pair (.int .i64) (.pair (.int .i64) (.pair (.int .i64) .bool))) g.2])] ?_
     refine zQ h (fun hb29 h => ?_) (fun hb29 h => ?_)
     ·refine zo ?_
      refine zB [(6, .bool false)] [] ?_
      refine AW.ret ?_
      refine ablock_r ?_
      refine athen_r ?_
      obtain rfl := Option.some.inj h
      rw [← hd22 _ rfl] at ho21
      have h := ho21
      try simp only at h
      refine athen_r ?_
      refine ablock_r ?_
      refine athen_r ?_
      obtain rfl := Option.some.inj h
      exact zR [] [] []
     ·refine zm ?_
      refine athen_n ?_
      refine AW.ops ?_
      obtain ⟨c30, h⟩ := ck_some.1 h
      refine zA [(1, .sl (.int .i64) path), (2, .int .i64 place), (3, .bp 3 0), (14, .sl (.int .i64) path), (15, .int .i64 (path.length : Int)), (16, .int .i64 (st1 + 1))] [(3, .box 24 [.int .i64 g.1, .sl (.pair (.int .i64) (.pair (.int .i64) (.pair (.int .i64) .bool))) g.2])] ?_
      obtain rfl := Option.some.inj h
      exact ⟨_, rfl, zL [] [] []⟩
    ·refine AW.exit ?_
     refine athen_e ?_
     obtain rfl := Option.some.inj h
     rw [← hd22 _ rfl] at ho21
     have h := ho21
     try simp only at h
     refine athen_e ?_
     refine ablock_s ?_
     refine athen_n ?_
     exact AW.weaken (zL [] [] []) (hk_lineallaw07_leads_k1 () h)

theorem hc_lineallaw07_ProgressWays (g : Int × (List (Int × Int × Int × Bool))) (place : Int) (path : List Int) {r : Bool} (h : lineallaw07_ProgressWays g place path = some r) : HC Try.prog 13 [] [.agg [.int .i64 g.1, .sl (.pair (.int .i64) (.pair (.int .i64) (.pair (.int .i64) .bool))) g.2], .int .u8 place, .sl (.int .i64) path] [] (.bool r) := by
 unfold lineallaw07_ProgressWays at h
 refine zH Try.func13 [.tmp 6] 123 ?_
 refine zo ?_
 refine zB [(1, .int .u8 place), (2, .sl (.int .i64) path), (3, .bp 3 0)] [(3, .box 24 [.int .i64 g.1, .sl (.pair (.int .i64) (.pair (.int .i64) (.pair (.int .i64) .bool))) g.2])] ?_
 refine AW.seq ?_
 refine zo ?_
 refine zS 1 [(1, .int .u8 place), (2, .sl (.int .i64) path), (3, .bp 3 0), (14, .agg [.int .i64 g.1, .sl (.pair (.int .i64) (.pair (.int .i64) (.pair (.int .i64) .bool))) g.2])] [(3, .box 24 [.int .i64 g.1, .sl (.pair (.int .i64) (.pair (.int .i64) (.pair (.int .i64) .bool))) g.2])] ?_
 obtain ⟨v0, hv1, h⟩ := Option.bind_eq_some_iff.1 h
 refine zC [] [] (hc_lineallaw07_Long g hv1) [(1, .int .u8 place), (2, .sl (.int .i64) path), (3, .bp 3 0), (15, .bool (decide (100 < (g.2.length : Int))))] [(3, .box 24 [.int .i64 g.1, .sl (.pair (.int .i64) (.pair (.int .i64) (.pair (.int .i64) .bool))) g.2])] ?_
 refine zS 1 [(1, .int .u8 place), (2, .sl (.int .i64) path), (3, .bp 3 0), (16, .bool (decide (100 < (g.2.length : Int))))] [(3, .box 24 [.int .i64 g.1, .sl (.pair (.int .i64) (.pair (.int .i64) (.pair (.int .i64) .bool))) g.2])] ?_
 rcases zI h with ⟨hb2, h⟩ | ⟨hb2, h⟩
 ·refine zS 5 [(1, .int .u8 place), (2, .sl (.int .i64) path), (3, .bp 3 0), (21, .bool true)] [(3, .box 24 [.int .i64 g.1, .sl (.pair (.int .i64) (.pair (.int .i64) (.pair (.int .i64) .bool))) g.2])] ?_
  refine zB [(1, .int .u8 place), (2, .sl (.int .i64) path), (3, .bp 3 0), (24, .bool true)] [(3, .box 24 [.int .i64 g.1, .sl (.pair (.int .i64) (.pair (.int .i64) (.pair (.int .i64) .bool))) g.2])] ?_
  refine AW.cond (b := true) rfl (fun _ => ?_) (fun hb3 => by cases hb3)
  refine zo ?_
  obtain ⟨v0_2, hv4, h⟩ := Option.bind_eq_some_iff.1 h
  refine zC [] [] (hc_lineallaw07_Awake hv4) [(25, .bool v0_2)] [] ?_
  refine zB [(6, .bool v0_2)] [] ?_
  refine zr ?_
  obtain rfl := Option.some.inj h
  exact zR [] [] []
 ·refine zS 1 [(1, .int .u8 place), (2, .sl (.int .i64) path), (3, .bp 3 0), (16, .bool false), (17, .agg [.int .i64 g.1, .sl (.pair (.int .i64) (.pair (.int .i64) (.pair (.int .i64) .bool))) g.2])] [(3, .box 24 [.int .i64 g.1, .sl (.pair (.int .i64) (.pair (.int .i64) (.pair (.int .i64) .bool))) g.2])] ?_
  obtain ⟨v0_3, hv5, h⟩ := Option.bind_eq_some_iff.1 h
  refine zG [] [] (hc_linealref07_Valid g hv5) [(1, .int .u8 place), (2, .sl (.int .i64) path), (3, .bp 3 0), (16, .bool false), (18, .bool v0_3)] [(3, .box 24 [.int .i64 g.1, .sl (.pair (.int .i64) (.pair (.int .i64) (.pair (.int .i64) .bool))) g.2])] ?_
  refine zS 3 [(1, .int .u8 place), (2, .sl (.int .i64) path), (3, .bp 3 0), (21, .bool (!v0_3))] [(3, .box 24 [.int .i64 g.1, .sl (.pair (.int .i64) (.pair (.int .i64) (.pair (.int .i64) .bool))) g.2])] ?_
  rcases zI h with ⟨hb6, h⟩ | ⟨hb6, h⟩
  ·refine zB [(1, .int .u8 place), (2, .sl (.int .i64) path), (3, .bp 3 0), (24, .bool true)] [(3, .box 24 [.int .i64 g.1, .sl (.pair (.int .i64) (.pair (.int .i64) (.pair (.int .i64) .bool))) g.2])] ?_
   refine AW.cond (b := true) rfl (fun _ => ?_) (fun hb7 => by cases hb7)
   refine zo ?_
   obtain ⟨v0_4, hv8, h⟩ := Option.bind_eq_some_iff.1 h
   refine zC [] [] (hc_lineallaw07_Awake hv8) [(25, .bool v0_4)] [] ?_
   refine zB [(6, .bool v0_4)] [] ?_
   refine zr ?_
   obtain rfl := Option.some.inj h
   exact zR [] [] []
  ·refine zS 1 [(1, .int .u8 place), (2, .sl (.int .i64) path), (3, .bp 3 0), (21, .bool false), (22, .sl (.int .i64) path)] [(3, .box 24 [.int .i64 g.1, .sl (.pair (.int .i64) (.pair (.int .i64) (.pair (.int .i64) .bool))) g.2])] ?_
   obtain ⟨v0_5, hv9, h⟩ := Option.bind_eq_some_iff.1 h
   refine zG [] [] (hc_lineallaw07_many path hv9) [(1, .int .u8 place), (2, .sl (.int .i64) path), (3, .bp 3 0), (21, .bool false), (23, .bool (decide (1100 < (path.length : Int))))] [(3, .box 24 [.int .i64 g.1, .sl (.pair (.int .i64) (.pair (.int .i64) (.pair (.int .i64) .bool))) g.2])] ?_
   refine zB [(1, .int .u8 place), (2, .sl (.int .i64) path), (3, .bp 3 0), (24, .bool (decide (1100 < (path.length : Int))))] [(3, .box 24 [.int .i64 g.1, .sl (.pair (.int .i64) (.pair (.int .i64) (.pair (.int .i64) .bool))) g.2])] ?_
   refine zQ h (fun hb10 h => ?_) (fun hb10 h => ?_)
   ·refine zo ?_
    obtain ⟨v0_6, hv11, h⟩ := Option.bind_eq_some_iff.1 h
    refine zC [] [] (hc_lineallaw07_Awake hv11) [(25, .bool v0_6)] [] ?_
    refine zB [(6, .bool v0_6)] [] ?_
    refine zr ?_
    obtain rfl := Option.some.inj h
    exact zR [] [] []
   ·refine zk ?_
    refine zo ?_
    obtain ⟨c12, h⟩ := ck_some.1 h
    obtain ⟨c13, h⟩ := ck_some.1 h
    obtain ⟨c14, h⟩ := ck_some.1 h
    refine zS 5 [(2, .sl (.int .i64) path), (3, .bp 3 0), (30, .int .i64 (place % g.1))] [(3, .box 24 [.int .i64 g.1, .sl (.pair (.int .i64) (.pair (.int .i64) (.pair (.int .i64) .bool))) g.2])] ?_
    refine zB [(2, .sl (.int .i64) path), (3, .bp 3 0), (7, .int .i64 (place % g.1))] [(3, .box 24 [.int .i64 g.1, .sl (.pair (.int .i64) (.pair (.int .i64) (.pair (.int .i64) .bool))) g.2])] ?_
    refine zo ?_
    refine zS 2 [(2, .sl (.int .i64) path), (3, .bp 3 0), (7, .int .i64 (place % g.1)), (32, .agg [.int .i64 g.1, .sl (.pair (.int .i64) (.pair (.int .i64) (.pair (.int .i64) .bool))) g.2]), (33, .int .i64 (place % g.1))] [(3, .box 24 [.int .i64 g.1, .sl (.pair (.int .i64) (.pair (.int .i64) (.pair (.int .i64) .bool))) g.2])] ?_
    obtain ⟨v0_7, hv15, h⟩ := Option.bind_eq_some_iff.1 h
    refine zC [] [] (hc_progress_Way g (place % g.1) hv15) [(2, .sl (.int .i64) path), (3, .bp 3 0), (7, .int .i64 (place % g.1)), (34, .tup [.sl (.int .i64) v0_7.1, .int .i64 v0_7.2])] [(3, .box 24 [.int .i64 g.1, .sl (.pair (.int .i64) (.pair (.int .i64) (.pair (.int .i64) .bool))) g.2])] ?_
    refine zB [(2, .sl (.int .i64) path), (3, .bp 3 0), (7, .int .i64 (place % g.1)), (8, .sl (.int .i64) v0_7.1), (9, .int .i64 v0_7.2)] [(3, .box 24 [.int .i64 g.1, .sl (.pair (.int .i64) (.pair (.int .i64) (.pair (.int .i64) .bool))) g.2])] ?_
    refine zo ?_
    refine zS 1 [(2, .sl (.int .i64) path), (3, .bp 3 0), (7, .int .i64 (place % g.1)), (8, .sl (.int .i64) v0_7.1), (9, .int .i64 v0_7.2), (38, .agg [.int .i64 g.1, .sl (.pair (.int .i64) (.pair (.int .i64) (.pair (.int .i64) .bool))) g.2])] [(3, .box 24 [.int .i64 g.1, .sl (.pair (.int .i64) (.pair (.int .i64) (.pair (.int .i64) .bool))) g.2])] ?_
    obtain ⟨v0_8, hv16, h⟩ := Option.bind_eq_some_iff.1 h
    refine zC [] [] (hc_progress_Reached g hv16) [(2, .sl (.int .i64) path), (3, .bp 3 0), (7, .int .i64 (place % g.1)), (8, .sl (.int .i64) v0_7.1), (9, .int .i64 v0_7.2), (39, .tup [.own 49000, .int .i64 v0_8.2])] [(3, .box 24 [.int .i64 g.1, .sl (.pair (.int .i64) (.pair (.int .i64) (.pair (.int .i64) .bool))) g.2]), (49000, .arr 3 (.int .i64) v0_8.1)] ?_
    refine zB [(2, .sl (.int .i64) path), (3, .bp 3 0), (7, .int .i64 (place % g.1)), (8, .sl (.int .i64) v0_7.1), (9, .int .i64 v0_7.2), (10, .own 49000), (11, .int .i64 v0_8.2)] [(3, .box 24 [.int .i64 g.1, .sl (.pair (.int .i64) (.pair (.int .i64) (.pair (.int .i64) .bool))) g.2]), (49000, .arr 3 (.int .i64) v0_8.1)] ?_
    refine zo ?_
    refine zS 2 [(2, .sl (.int .i64) path), (3, .bp 3 0), (7, .int .i64 (place % g.1)), (8, .sl (.int .i64) v0_7.1), (9, .int .i64 v0_7.2), (10, .own 49000), (11, .int .i64 v0_8.2), (43, .agg [.int .i64 g.1, .sl (.pair (.int .i64) (.pair (.int .i64) (.pair (.int .i64) .bool))) g.2]), (44, .sl (.int .i64) path)] [(3, .box 24 [.int .i64 g.1, .sl (.pair (.int .i64) (.pair (.int .i64) (.pair (.int .i64) .bool))) g.2]), (49000, .arr 3 (.int .i64) v0_8.1)] ?_
    obtain ⟨v0_9, hv17, h⟩ := Option.bind_eq_some_iff.1 h
    refine zC [] [] (hc_progress_IsPath g path hv17) [(2, .sl (.int .i64) path), (3, .bp 3 0), (7, .int .i64 (place % g.1)), (8, .sl (.int .i64) v0_7.1), (9, .int .i64 v0_7.2), (10, .own 49000), (11, .int .i64 v0_8.2), (45, .tup [.bool v0_9.1, .int .i64 v0_9.2])] [(3, .box 24 [.int .i64 g.1, .sl (.pair (.int .i64) (.pair (.int .i64) (.pair (.int .i64) .bool))) g.2]), (49000, .arr 3 (.int .i64) v0_8.1)] ?_
    refine zB [(2, .sl (.int .i64) path), (3, .bp 3 0), (7, .int .i64 (place % g.1)), (8, .sl (.int .i64) v0_7.1), (9, .int .i64 v0_7.2), (10, .own 49000), (11, .int .i64 v0_8.2), (12, .bool v0_9.1), (13, .int .i64 v0_9.2)] [(3, .box 24 [.int .i64 g.1, .sl (.pair (.int .i64) (.pair (.int .i64) (.pair (.int .i64) .bool))) g.2]), (49000, .arr 3 (.int .i64) v0_8.1)] ?_
    refine AW.have1 (fun _ : Unit => lineallaw07_ProgressWays_k1 g place path v0_7 v0_9 = some r) (fun _ => ⟨fr [(2, .sl (.int .i64) path), (3, .bp 3 0), (7, .int .i64 (place % g.1)), (8, .sl (.int .i64) v0_7.1), (9, .int .i64 v0_7.2), (12, .bool v0_9.1)], hpGet [(3, .box 24 [.int .i64 g.1, .sl (.pair (.int .i64) (.pair (.int .i64) (.pair (.int .i64) .bool))) g.2])], gt⟩) (fun _ h => ?_) (fun hk_lineallaw07_ProgressWays_k1 => ?_)
    ·as_aux_lemma =>
      unfold lineallaw07_ProgressWays_k1 at h
      refine AW.have1 (fun _ : Unit => lineallaw07_ProgressWays_k2 g place v0_7 = some r) (fun _ => ⟨fr [(3, .bp 3 0), (7, .int .i64 (place % g.1)), (8, .sl (.int .i64) v0_7.1), (9, .int .i64 v0_7.2)], hpGet [(3, .box 24 [.int .i64 g.1, .sl (.pair (.int .i64) (.pair (.int .i64) (.pair (.int .i64) .bool))) g.2])], gt⟩) (fun _ h => ?_) (fun hk_lineallaw07_ProgressWays_k2 => ?_)
      ·as_aux_lemma =>
        unfold lineallaw07_ProgressWays_k2 at h
        refine AW.seq ?_
        refine zo ?_
        refine zB [(3, .bp 3 0), (7, .int .i64 (place % g.1)), (8, .sl (.int .i64) v0_7.1), (89, .bool (!(decide (v0_7.2 = 0))))] [(3, .box 24 [.int .i64 g.1, .sl (.pair (.int .i64) (.pair (.int .i64) (.pair (.int .i64) .bool))) g.2])] ?_
        refine zQ h (fun hb18 h => ?_) (fun hb18 h => ?_)
        ·refine zo ?_
         refine zS 4 [(93, .bool (decide ((v0_7.1.length : Int) = 0)))] [] ?_
         rcases zI h with ⟨hb19, h⟩ | ⟨hb19, h⟩
         ·refine zT [(93, .bool true)] [] gt ?_
          obtain ⟨v0_12, hv20, h⟩ := Option.bind_eq_some_iff.1 h
          refine zG [] [] (hc_lineallaw07_Awake hv20) [(93, .bool true), (94, .bool v0_12)] [] ?_
          refine zB [(6, .bool v0_12)] [] ?_
          refine zr ?_
          obtain rfl := Option.some.inj h
          exact zR [] [] []
         ·refine zB [(6, .bool false)] [] ?_
          refine zr ?_
          obtain rfl := Option.some.inj h
          exact zR [] [] []
        ·refine zk ?_
         refine zo ?_
         refine zS 2 [(3, .bp 3 0), (7, .int .i64 (place % g.1)), (8, .sl (.int .i64) v0_7.1), (97, .agg [.int .i64 g.1, .sl (.pair (.int .i64) (.pair (.int .i64) (.pair (.int .i64) .bool))) g.2]), (98, .sl (.int .i64) v0_7.1)] [(3, .box 24 [.int .i64 g.1, .sl (.pair (.int .i64) (.pair (.int .i64) (.pair (.int .i64) .bool))) g.2])] ?_
         obtain ⟨v0_13, hv21, h⟩ := Option.bind_eq_some_iff.1 h
         refine zC [] [] (hc_progress_IsPath g v0_7.1 hv21) [(3, .bp 3 0), (7, .int .i64 (place % g.1)), (8, .sl (.int .i64) v0_7.1), (99, .tup [.bool v0_13.1, .int .i64 v0_13.2])] [(3, .box 24 [.int .i64 g.1, .sl (.pair (.int .i64) (.pair (.int .i64) (.pair (.int .i64) .bool))) g.2])] ?_
         refine zB [(3, .bp 3 0), (7, .int .i64 (place % g.1)), (8, .sl (.int .i64) v0_7.1), (12, .bool v0_13.1), (13, .int .i64 v0_13.2)] [(3, .box 24 [.int .i64 g.1, .sl (.pair (.int .i64) (.pair (.int .i64) (.pair (.int .i64) .bool))) g.2])] ?_
         refine zo ?_
         refine zS 3 [(3, .bp 3 0), (7, .int .i64 (place % g.1)), (8, .sl (.int .i64) v0_7.1), (12, .bool v0_13.1), (104, .bool (decide (v0_13.2 = 0)))] [(3, .box 24 [.int .i64 g.1, .sl (.pair (.int .i64) (.pair (.int .i64) (.pair (.int .i64) .bool))) g.2])] ?_
         rcases zI h with ⟨hb22, h⟩ | ⟨hb22, h⟩
         ·refine zS 3 [(3, .bp 3 0), (7, .int .i64 (place % g.1)), (8, .sl (.int .i64) v0_7.1), (107, .bool v0_13.1)] [(3, .box 24 [.int .i64 g.1, .sl (.pair (.int .i64) (.pair (.int .i64) (.pair (.int .i64) .bool))) g.2])] ?_
          rcases zI h with ⟨hb23, h⟩ | ⟨hb23, h⟩
          ·refine zS 5 [(3, .bp 3 0), (7, .int .i64 (place % g.1)), (8, .sl (.int .i64) v0_7.1), (107, .bool true), (112, .bool (decide ((v0_7.1.length : Int) < g.1)))] [(3, .box 24 [.int .i64 g.1, .sl (.pair (.int .i64) (.pair (.int .i64) (.pair (.int .i64) .bool))) g.2])] ?_
           refine zS 2 [(3, .bp 3 0), (7, .int .i64 (place % g.1)), (8, .sl (.int .i64) v0_7.1), (114, .bool (decide ((v0_7.1.length : Int) < g.1)))] [(3, .box 24 [.int .i64 g.1, .sl (.pair (.int .i64) (.pair (.int .i64) (.pair (.int .i64) .bool))) g.2])] ?_
           rcases zI h with ⟨hb24, h⟩ | ⟨hb24, h⟩
           ·refine zS 3 [(114, .bool true), (115, .agg [.int .i64 g.1, .sl (.pair (.int .i64) (.pair (.int .i64) (.pair (.int .i64) .bool))) g.2]), (116, .sl (.int .i64) v0_7.1), (117, .int .i64 (place % g.1))] [] ?_
            obtain ⟨v0_14, hv25, h⟩ := Option.bind_eq_some_iff.1 h
            refine zG [] [] (hc_lineallaw07_leads g v0_7.1 (place % g.1) hv25) [(114, .bool true), (118, .bool v0_14)] [] ?_
            refine zS 2 [(120, .bool v0_14)] [] ?_
            rcases zI h with ⟨hb26, h⟩ | ⟨hb26, h⟩
            ·refine zT [(120, .bool true)] [] gt ?_
             obtain ⟨v0_15, hv27, h⟩ := Option.bind_eq_some_iff.1 h
             refine zG [] [] (hc_lineallaw07_Awake hv27) [(120, .bool true), (121, .bool v0_15)] [] ?_
             refine zB [(6, .bool v0_15)] [] ?_
             refine AW.ret ?_
             obtain rfl := Option.some.inj h
             exact zR [] [] []
            ·refine zB [(6, .bool false)] [] ?_
             refine AW.ret ?_
             obtain rfl := Option.some.inj h
             exact zR [] [] []
           ·refine zS 4 [(114, .bool false), (118, .cv (undef))] [] ?_
            refine zB [(6, .bool false)] [] ?_
            refine AW.ret ?_
            obtain rfl := Option.some.inj h
            exact zR [] [] []
          ·refine zS 4 [(3, .bp 3 0), (7, .int .i64 (place % g.1)), (8, .sl (.int .i64) v0_7.1), (107, .bool false), (109, .cv (undef)), (111, .cv (undef))] [(3, .box 24 [.int .i64 g.1, .sl (.pair (.int .i64) (.pair (.int .i64) (.pair (.int .i64) .bool))) g.2])] ?_
           refine zS 5 [(7, .int .i64 (place % g.1)), (114, .bool false), (115, .cv (undef)), (116, .cv (undef))] [] ?_
           refine zS 5 [(120, .bool false), (121, .cv (undef))] [] ?_
           refine zB [(6, .bool false)] [] ?_
           refine AW.ret ?_
           obtain rfl := Option.some.inj h
           exact zR [] [] []
         ·refine zS 5 [(3, .bp 3 0), (7, .int .i64 (place % g.1)), (8, .sl (.int .i64) v0_7.1), (107, .bool false), (109, .cv (undef))] [(3, .box 24 [.int .i64 g.1, .sl (.pair (.int .i64) (.pair (.int .i64) (.pair (.int .i64) .bool))) g.2])] ?_
          refine zS 5 [(3, .bp 3 0), (7, .int .i64 (place % g.1)), (8, .sl (.int .i64) v0_7.1), (114, .bool false)] [(3, .box 24 [.int .i64 g.1, .sl (.pair (.int .i64) (.pair (.int .i64) (.pair (.int .i64) .bool))) g.2])] ?_
          refine zS 4 [(114, .bool false), (118, .cv (undef))] [] ?_
          refine zB [(6, .bool false)] [] ?_
          refine AW.ret ?_
          obtain rfl := Option.some.inj h
          exact zR [] [] []
      ·refine AW.seq ?_
       refine zo ?_
       refine zS 2 [(2, .sl (.int .i64) path), (3, .bp 3 0), (7, .int .i64 (place % g.1)), (8, .sl (.int .i64) v0_7.1), (9, .int .i64 v0_7.2), (71, .bool v0_9.1)] [(3, .box 24 [.int .i64 g.1, .sl (.pair (.int .i64) (.pair (.int .i64) (.pair (.int .i64) .bool))) g.2])] ?_
       rcases zI h with ⟨hb28, h⟩ | ⟨hb28, h⟩
       ·refine zS 3 [(2, .sl (.int .i64) path), (3, .bp 3 0), (7, .int .i64 (place % g.1)), (8, .sl (.int .i64) v0_7.1), (9, .int .i64 v0_7.2), (71, .bool true), (72, .agg [.int .i64 g.1, .sl (.pair (.int .i64) (.pair (.int .i64) (.pair (.int .i64) .bool))) g.2]), (73, .sl (.int .i64) path), (74, .int .i64 (place % g.1))] [(3, .box 24 [.int .i64 g.1, .sl (.pair (.int .i64) (.pair (.int .i64) (.pair (.int .i64) .bool))) g.2])] ?_
        obtain ⟨v0_11, hv29, h⟩ := Option.bind_eq_some_iff.1 h
        refine zG [] [] (hc_lineallaw07_leads g path (place % g.1) hv29) [(2, .sl (.int .i64) path), (3, .bp 3 0), (7, .int .i64 (place % g.1)), (8, .sl (.int .i64) v0_7.1), (9, .int .i64 v0_7.2), (71, .bool true), (75, .bool v0_11)] [(3, .box 24 [.int .i64 g.1, .sl (.pair (.int .i64) (.pair (.int .i64) (.pair (.int .i64) .bool))) g.2])] ?_
        refine zS 2 [(2, .sl (.int .i64) path), (3, .bp 3 0), (7, .int .i64 (place % g.1)), (8, .sl (.int .i64) v0_7.1), (9, .int .i64 v0_7.2), (77, .bool v0_11)] [(3, .box 24 [.int .i64 g.1, .sl (.pair (.int .i64) (.pair (.int .i64) (.pair (.int .i64) .bool))) g.2])] ?_
        rcases zI h with ⟨hb30, h⟩ | ⟨hb30, h⟩
        ·refine zS 3 [(2, .sl (.int .i64) path), (3, .bp 3 0), (7, .int .i64 (place % g.1)), (8, .sl (.int .i64) v0_7.1), (9, .int .i64 v0_7.2), (77, .bool true), (80, .bool (!(decide (v0_7.2 = 0))))] [(3, .box 24 [.int .i64 g.1, .sl (.pair (.int .i64) (.pair (.int .i64) (.pair (.int .i64) .bool))) g.2])] ?_
         rcases zI h with ⟨hb31, h⟩ | ⟨hb31, h⟩
         ·refine zS 4 [(3, .bp 3 0), (7, .int .i64 (place % g.1)), (8, .sl (.int .i64) v0_7.1), (9, .int .i64 v0_7.2), (77, .bool true), (80, .bool true), (82, .cv (undef)), (84, .cv (undef))] [(3, .box 24 [.int .i64 g.1, .sl (.pair (.int .i64) (.pair (.int .i64) (.pair (.int .i64) .bool))) g.2])] ?_
          refine zB [(3, .bp 3 0), (7, .int .i64 (place % g.1)), (8, .sl (.int .i64) v0_7.1), (9, .int .i64 v0_7.2), (87, .bool true)] [(3, .box 24 [.int .i64 g.1, .sl (.pair (.int .i64) (.pair (.int .i64) (.pair (.int .i64) .bool))) g.2])] ?_
          refine AW.cond (b := true) rfl (fun _ => ?_) (fun hb32 => by cases hb32)
          refine zo ?_
          refine zB [(6, .bool false)] [] ?_
          refine zr ?_
          obtain rfl := Option.some.inj h
          exact zR [] [] []
         ·refine zS 5 [(3, .bp 3 0), (7, .int .i64 (place % g.1)), (8, .sl (.int .i64) v0_7.1), (9, .int .i64 v0_7.2), (77, .bool true), (80, .bool false), (85, .bool (decide ((path.length : Int) < (v0_7.1.length : Int))))] [(3, .box 24 [.int .i64 g.1, .sl (.pair (.int .i64) (.pair (.int .i64) (.pair (.int .i64) .bool))) g.2])] ?_
          refine zB [(3, .bp 3 0), (7, .int .i64 (place % g.1)), (8, .sl (.int .i64) v0_7.1), (9, .int .i64 v0_7.2), (87, .bool (decide ((path.length : Int) < (v0_7.1.length : Int))))] [(3, .box 24 [.int .i64 g.1, .sl (.pair (.int .i64) (.pair (.int .i64) (.pair (.int .i64) .bool))) g.2])] ?_
          refine zQ h (fun hb33 h => ?_) (fun hb33 h => ?_)
          ·refine zo ?_
           refine zB [(6, .bool false)] [] ?_
           refine zr ?_
           obtain rfl := Option.some.inj h
           exact zR [] [] []
          ·refine zk ?_
           exact AW.weaken (zL [] [] []) (hk_lineallaw07_ProgressWays_k2 () h)
        ·refine zS 4 [(3, .bp 3 0), (7, .int .i64 (place % g.1)), (8, .sl (.int .i64) v0_7.1), (9, .int .i64 v0_7.2), (77, .bool false), (80, .cv (undef)), (81, .cv (undef))] [(3, .box 24 [.int .i64 g.1, .sl (.pair (.int .i64) (.pair (.int .i64) (.pair (.int .i64) .bool))) g.2])] ?_
         refine zS 4 [(3, .bp 3 0), (7, .int .i64 (place % g.1)), (8, .sl (.int .i64) v0_7.1), (9, .int .i64 v0_7.2), (77, .bool false), (80, .cv (undef)), (85, .cv (undef))] [(3, .box 24 [.int .i64 g.1, .sl (.pair (.int .i64) (.pair (.int .i64) (.pair (.int .i64) .bool))) g.2])] ?_
         refine zB [(3, .bp 3 0), (7, .int .i64 (place % g.1)), (8, .sl (.int .i64) v0_7.1), (9, .int .i64 v0_7.2), (87, .bool false)] [(3, .box 24 [.int .i64 g.1, .sl (.pair (.int .i64) (.pair (.int .i64) (.pair (.int .i64) .bool))) g.2])] ?_
         refine AW.cond (b := false) rfl (fun hb34 => by cases hb34) (fun _ => ?_)
         refine zk ?_
         exact AW.weaken (zL [] [] []) (hk_lineallaw07_ProgressWays_k2 () h)
       ·refine zS 4 [(2, .sl (.int .i64) path), (3, .bp 3 0), (7, .int .i64 (place % g.1)), (8, .sl (.int .i64) v0_7.1), (9, .int .i64 v0_7.2), (71, .bool false), (75, .cv (undef))] [(3, .box 24 [.int .i64 g.1, .sl (.pair (.int .i64) (.pair (.int .i64) (.pair (.int .i64) .bool))) g.2])] ?_
        refine zS 5 [(2, .sl (.int .i64) path), (3, .bp 3 0), (7, .int .i64 (place % g.1)), (8, .sl (.int .i64) v0_7.1), (9, .int .i64 v0_7.2), (77, .bool false), (80, .cv (undef))] [(3, .box 24 [.int .i64 g.1, .sl (.pair (.int .i64) (.pair (.int .i64) (.pair (.int .i64) .bool))) g.2])] ?_
        refine zS 4 [(3, .bp 3 0), (7, .int .i64 (place % g.1)), (8, .sl (.int .i64) v0_7.1), (9, .int .i64 v0_7.2), (77, .bool false), (80, .cv (undef)), (82, .cv (undef)), (84, .cv (undef))] [(3, .box 24 [.int .i64 g.1, .sl (.pair (.int .i64) (.pair (.int .i64) (.pair (.int .i64) .bool))) g.2])] ?_
        refine zB [(3, .bp 3 0), (7, .int .i64 (place % g.1)), (8, .sl (.int .i64) v0_7.1), (9, .int .i64 v0_7.2), (87, .bool false)] [(3, .box 24 [.int .i64 g.1, .sl (.pair (.int .i64) (.pair (.int .i64) (.pair (.int .i64) .bool))) g.2])] ?_
        refine AW.cond (b := false) rfl (fun hb35 => by cases hb35) (fun _ => ?_)
        refine zk ?_
        exact AW.weaken (zL [] [] []) (hk_lineallaw07_ProgressWays_k2 () h)
    ·refine AW.seq ?_
     refine zo ?_
     refine zS 3 [(2, .sl (.int .i64) path), (3, .bp 3 0), (7, .int .i64 (place % g.1)), (8, .sl (.int .i64) v0_7.1), (9, .int .i64 v0_7.2), (10, .own 49000), (12, .bool v0_9.1), (13, .int .i64 v0_9.2), (50, .bool (!(decide (v0_8.2 = 0))))] [(3, .box 24 [.int .i64 g.1, .sl (.pair (.int .i64) (.pair (.int .i64) (.pair (.int .i64) .bool))) g.2]), (49000, .arr 3 (.int .i64) v0_8.1)] ?_
     rcases zI h with ⟨hb36, h⟩ | ⟨hb36, h⟩
     ·refine zS 5 [(2, .sl (.int .i64) path), (3, .bp 3 0), (7, .int .i64 (place % g.1)), (8, .sl (.int .i64) v0_7.1), (9, .int .i64 v0_7.2), (10, .own 49000), (12, .bool v0_9.1), (54, .bool true), (55, .cv (undef))] [(3, .box 24 [.int .i64 g.1, .sl (.pair (.int .i64) (.pair (.int .i64) (.pair (.int .i64) .bool))) g.2]), (49000, .arr 3 (.int .i64) v0_8.1)] ?_
      refine zS 4 [(2, .sl (.int .i64) path), (3, .bp 3 0), (7, .int .i64 (place % g.1)), (8, .sl (.int .i64) v0_7.1), (9, .int .i64 v0_7.2), (12, .bool v0_9.1), (54, .bool true), (56, .cv (undef)), (59, .cv (undef))] [(3, .box 24 [.int .i64 g.1, .sl (.pair (.int .i64) (.pair (.int .i64) (.pair (.int .i64) .bool))) g.2])] ?_
      refine zS 5 [(2, .sl (.int .i64) path), (3, .bp 3 0), (7, .int .i64 (place % g.1)), (8, .sl (.int .i64) v0_7.1), (9, .int .i64 v0_7.2), (12, .bool v0_9.1), (62, .bool true), (64, .cv (undef))] [(3, .box 24 [.int .i64 g.1, .sl (.pair (.int .i64) (.pair (.int .i64) (.pair (.int .i64) .bool))) g.2])] ?_
      refine zS 4 [(2, .sl (.int .i64) path), (3, .bp 3 0), (7, .int .i64 (place % g.1)), (8, .sl (.int .i64) v0_7.1), (9, .int .i64 v0_7.2), (12, .bool v0_9.1), (62, .bool true), (68, .cv (undef))] [(3, .box 24 [.int .i64 g.1, .sl (.pair (.int .i64) (.pair (.int .i64) (.pair (.int .i64) .bool))) g.2])] ?_
      refine zB [(2, .sl (.int .i64) path), (3, .bp 3 0), (7, .int .i64 (place % g.1)), (8, .sl (.int .i64) v0_7.1), (9, .int .i64 v0_7.2), (12, .bool v0_9.1), (69, .bool true)] [(3, .box 24 [.int .i64 g.1, .sl (.pair (.int .i64) (.pair (.int .i64) (.pair (.int .i64) .bool))) g.2])] ?_
      refine AW.cond (b := true) rfl (fun _ => ?_) (fun hb37 => by cases hb37)
      refine zo ?_
      refine zB [(6, .bool false)] [] ?_
      refine zr ?_
      obtain rfl := Option.some.inj h
      exact zR [] [] []
     ·refine zS 4 [(2, .sl (.int .i64) path), (3, .bp 3 0), (7, .int .i64 (place % g.1)), (8, .sl (.int .i64) v0_7.1), (9, .int .i64 v0_7.2), (10, .own 49000), (12, .bool v0_9.1), (54, .bool (!(decide (v0_9.2 = 0))))] [(3, .box 24 [.int .i64 g.1, .sl (.pair (.int .i64) (.pair (.int .i64) (.pair (.int .i64) .bool))) g.2]), (49000, .arr 3 (.int .i64) v0_8.1)] ?_
      rcases zI h with ⟨hb38, h⟩ | ⟨hb38, h⟩
      ·refine zS 4 [(2, .sl (.int .i64) path), (3, .bp 3 0), (7, .int .i64 (place % g.1)), (8, .sl (.int .i64) v0_7.1), (9, .int .i64 v0_7.2), (12, .bool v0_9.1), (54, .bool true), (56, .cv (undef)), (57, .cv (undef)), (58, .cv (undef))] [(3, .box 24 [.int .i64 g.1, .sl (.pair (.int .i64) (.pair (.int .i64) (.pair (.int .i64) .bool))) g.2])] ?_
       refine zS 5 [(2, .sl (.int .i64) path), (3, .bp 3 0), (7, .int .i64 (place % g.1)), (8, .sl (.int .i64) v0_7.1), (9, .int .i64 v0_7.2), (12, .bool v0_9.1), (62, .bool true), (63, .cv (undef))] [(3, .box 24 [.int .i64 g.1, .sl (.pair (.int .i64) (.pair (.int .i64) (.pair (.int .i64) .bool))) g.2])] ?_
       refine zS 4 [(2, .sl (.int .i64) path), (3, .bp 3 0), (7, .int .i64 (place % g.1)), (8, .sl (.int .i64) v0_7.1), (9, .int .i64 v0_7.2), (12, .bool v0_9.1), (62, .bool true), (65, .cv (undef)), (67, .cv (undef))] [(3, .box 24 [.int .i64 g.1, .sl (.pair (.int .i64) (.pair (.int .i64) (.pair (.int .i64) .bool))) g.2])] ?_
       refine zB [(2, .sl (.int .i64) path), (3, .bp 3 0), (7, .int .i64 (place % g.1)), (8, .sl (.int .i64) v0_7.1), (9, .int .i64 v0_7.2), (12, .bool v0_9.1), (69, .bool true)] [(3, .box 24 [.int .i64 g.1, .sl (.pair (.int .i64) (.pair (.int .i64) (.pair (.int .i64) .bool))) g.2])] ?_
       refine AW.cond (b := true) rfl (fun _ => ?_) (fun hb39 => by cases hb39)
       refine zo ?_
       refine zB [(6, .bool false)] [] ?_
       refine zr ?_
       obtain rfl := Option.some.inj h
       exact zR [] [] []
      ·refine zS 4 [(2, .sl (.int .i64) path), (3, .bp 3 0), (7, .int .i64 (place % g.1)), (8, .sl (.int .i64) v0_7.1), (9, .int .i64 v0_7.2), (12, .bool v0_9.1), (54, .bool false), (56, .bool (decide (v0_7.2 = 0))), (57, .own 49000), (58, .int .i64 (place % g.1))] [(3, .box 24 [.int .i64 g.1, .sl (.pair (.int .i64) (.pair (.int .i64) (.pair (.int .i64) .bool))) g.2]), (49000, .arr 3 (.int .i64) v0_8.1)] ?_
       obtain ⟨v0_10, hv40, h⟩ := Option.bind_eq_some_iff.1 h
       refine zG [49000] [] (hc_lineallaw07_in v0_8.1 (place % g.1) hv40) [(2, .sl (.int .i64) path), (3, .bp 3 0), (7, .int .i64 (place % g.1)), (8, .sl (.int .i64) v0_7.1), (9, .int .i64 v0_7.2), (12, .bool v0_9.1), (54, .bool false), (56, .bool (decide (v0_7.2 = 0))), (59, .bool v0_10)] [(3, .box 24 [.int .i64 g.1, .sl (.pair (.int .i64) (.pair (.int .i64) (.pair (.int .i64) .bool))) g.2])] ?_
       refine zS 3 [(2, .sl (.int .i64) path), (3, .bp 3 0), (7, .int .i64 (place % g.1)), (8, .sl (.int .i64) v0_7.1), (9, .int .i64 v0_7.2), (12, .bool v0_9.1), (62, .bool (((decide (v0_7.2 = 0)) == v0_10) != true))] [(3, .box 24 [.int .i64 g.1, .sl (.pair (.int .i64) (.pair (.int .i64) (.pair (.int .i64) .bool))) g.2])] ?_
       rcases zI h with ⟨hb41, h⟩ | ⟨hb41, h⟩
       ·refine zS 4 [(2, .sl (.int .i64) path), (3, .bp 3 0), (7, .int .i64 (place % g.1)), (8, .sl (.int .i64) v0_7.1), (9, .int .i64 v0_7.2), (12, .bool v0_9.1), (62, .bool true), (65, .cv (undef)), (66, .cv (undef))] [(3, .box 24 [.int .i64 g.1, .sl (.pair (.int .i64) (.pair (.int .i64) (.pair (.int .i64) .bool))) g.2])] ?_
        refine zB [(2, .sl (.int .i64) path), (3, .bp 3 0), (7, .int .i64 (place % g.1)), (8, .sl (.int .i64) v0_7.1), (9, .int .i64 v0_7.2), (12, .bool v0_9.1), (69, .bool true)] [(3, .box 24 [.int .i64 g.1, .sl (.pair (.int .i64) (.pair (.int .i64) (.pair (.int .i64) .bool))) g.2])] ?_
        refine AW.cond (b := true) rfl (fun _ => ?_) (fun hb42 => by cases hb42)
        refine zo ?_
        refine zB [(6, .bool false)] [] ?_
        refine zr ?_
        obtain rfl := Option.some.inj h
        exact zR [] [] []
       ·refine zS 3 [(2, .sl (.int .i64) path), (3, .bp 3 0), (7, .int .i64 (place % g.1)), (8, .sl (.int .i64) v0_7.1), (9, .int .i64 v0_7.2), (12, .bool v0_9.1), (62, .bool false), (65, .bool (!(decide (v0_7.2 = 0))))] [(3, .box 24 [.int .i64 g.1, .sl (.pair (.int .i64) (.pair (.int .i64) (.pair (.int .i64) .bool))) g.2])] ?_
        rcases zI h with ⟨hb43, h⟩ | ⟨hb43, h⟩
        ·refine zB [(2, .sl (.int .i64) path), (3, .bp 3 0), (7, .int .i64 (place % g.1)), (8, .sl (.int .i64) v0_7.1), (9, .int .i64 v0_7.2), (12, .bool v0_9.1), (69, .bool (!(decide (v0_7.2 = 5))))] [(3, .box 24 [.int .i64 g.1, .sl (.pair (.int .i64) (.pair (.int .i64) (.pair (.int .i64) .bool))) g.2])] ?_
         refine zQ h (fun hb44 h => ?_) (fun hb44 h => ?_)
         ·refine zo ?_
          refine zB [(6, .bool false)] [] ?_
          refine zr ?_
          obtain rfl := Option.some.inj h
          exact zR [] [] []
         ·refine zk ?_
          exact AW.weaken (zL [] [] []) (hk_lineallaw07_ProgressWays_k1 () h)
        ·refine zB [(2, .sl (.int .i64) path), (3, .bp 3 0), (7, .int .i64 (place % g.1)), (8, .sl (.int .i64) v0_7.1), (9, .int .i64 v0_7.2), (12, .bool v0_9.1), (69, .bool false)] [(3, .box 24 [.int .i64 g.1, .sl (.pair (.int .i64) (.pair (.int .i64) (.pair (.int .i64) .bool))) g.2])] ?_
         refine AW.cond (b := false) rfl (fun hb45 => by cases hb45) (fun _ => ?_)
         refine zk ?_
         exact AW.weaken (zL [] [] []) (hk_lineallaw07_ProgressWays_k1 () h)

end Go.Proofs.Yteclokkdgmacpaa
