/-
  Made by wip/tool/dc.py out of the print of the program: contracts.
-/
import Derived.Test.YtdicomoggfhbfaaDlp
import Derived.Test.YtdicomoggfhbfaaShd
import Derived.Test.YtdicomoggfhbfaaAvd
import Derived.Test.YtdicomoggfhbfaaDgc1
import Derived.Test.YtdicomoggfhbfaaDgc3
namespace Go.Proofs.Ytdicomoggfhbfaa
open Go.RowKit

set_option linter.unusedSimpArgs false
set_option linter.unusedVariables false
set_option linter.constructorNameAsVariable false

set_option maxRecDepth 100000
set_option maxHeartbeats 40000000

theorem hc_linealref09_SameActs (p : List (List (Int × Int × Int))) (q : List (List (Int × Int × Int))) {r : Bool} (h : linealref09_SameActs p q = some r) : HC Try.prog 50 [] [.sl (.sl (.pair (.int .i64) (.pair (.int .i64) (.int .i64)))) p, .sl (.sl (.pair (.int .i64) (.pair (.int .i64) (.int .i64)))) q] [] (.bool r) := by
 unfold linealref09_SameActs at h
 refine zH Try.func50 [.tmp 4] 53 ?_
 refine zo ?_
 refine zB [(0, .sl (.sl (.pair (.int .i64) (.pair (.int .i64) (.int .i64)))) p), (1, .sl (.sl (.pair (.int .i64) (.pair (.int .i64) (.int .i64)))) q)] [] ?_
 refine AW.seq ?_
 refine zo ?_
 refine zB [(0, .sl (.sl (.pair (.int .i64) (.pair (.int .i64) (.int .i64)))) p), (1, .sl (.sl (.pair (.int .i64) (.pair (.int .i64) (.int .i64)))) q), (11, .bool (!(decide ((p.length : Int) = (q.length : Int)))))] [] ?_
 refine zQ h (fun hb1 h => ?_) (fun hb1 h => ?_)
 ·refine zo ?_
  refine zB [(4, .bool false)] [] ?_
  refine zr ?_
  obtain rfl := Option.some.inj h
  exact zR [] [] []
 ·refine zk ?_
  refine AW.have1 (fun _ : Unit => linealref09_SameActs_k1 = some r) (fun _ => ⟨fr [], hpGet [], gt⟩) (fun _ h => ?_) (fun hk_linealref09_SameActs_k1 => ?_)
  ·as_aux_lemma =>
    unfold linealref09_SameActs_k1 at h
    refine zo ?_
    refine zB [(4, .bool true)] [] ?_
    refine AW.ret ?_
    obtain rfl := Option.some.inj h
    exact zR [] [] []
  ·refine AW.seq ?_
   refine zo ?_
   refine zB [(0, .sl (.sl (.pair (.int .i64) (.pair (.int .i64) (.int .i64)))) p), (1, .sl (.sl (.pair (.int .i64) (.pair (.int .i64) (.int .i64)))) q), (13, .int .i64 (p.length : Int)), (14, .int .i64 0)] [] ?_
   refine AW.block ?_
   obtain ⟨rv6, hw2, ho3⟩ := Option.bind_eq_some_iff.1 h
   refine AW.loopO (linealref09_SameActs_b1 p q) (fun st1 => ⟨fr [(0, .sl (.sl (.pair (.int .i64) (.pair (.int .i64) (.int .i64)))) p), (1, .sl (.sl (.pair (.int .i64) (.pair (.int .i64) (.int .i64)))) q), (13, .int .i64 (p.length : Int)), (14, .int .i64 st1)], hpGet [], gt⟩) 0 hw2 (zL [] [] []) ?_
   as_aux_lemma =>
    intro st1 x5 h hd4
    unfold linealref09_SameActs_b1 at h
    refine zo ?_
    refine zB [(0, .sl (.sl (.pair (.int .i64) (.pair (.int .i64) (.int .i64)))) p), (1, .sl (.sl (.pair (.int .i64) (.pair (.int .i64) (.int .i64)))) q), (13, .int .i64 (p.length : Int)), (14, .int .i64 st1), (15, .bool (decide (st1 < (p.length : Int))))] [] ?_
    refine AW.seq ?_
    refine zQ h (fun hb7 h => ?_) (fun hb7 h => ?_)
    ·refine zk ?_
     refine AW.have1 (fun _ : Unit => linealref09_SameActs_k2 st1 = some x5) (fun _ => ⟨fr [(0, .sl (.sl (.pair (.int .i64) (.pair (.int .i64) (.int .i64)))) p), (1, .sl (.sl (.pair (.int .i64) (.pair (.int .i64) (.int .i64)))) q), (13, .int .i64 (p.length : Int)), (14, .int .i64 st1)], hpGet [], gt⟩) (fun _ h => ?_) (fun hk_linealref09_SameActs_k2 => ?_)
     ·as_aux_lemma =>
       unfold linealref09_SameActs_k2 at h
       refine AW.ops ?_
       obtain ⟨c8, h⟩ := ck_some.1 h
       refine zA [(0, .sl (.sl (.pair (.int .i64) (.pair (.int .i64) (.int .i64)))) p), (1, .sl (.sl (.pair (.int .i64) (.pair (.int .i64) (.int .i64)))) q), (13, .int .i64 (p.length : Int)), (14, .int .i64 (st1 + 1))] [] ?_
       obtain rfl := Option.some.inj h
       exact ⟨_, rfl, zL [] [] []⟩
     ·refine AW.seq ?_
      refine AW.block ?_
      refine zo ?_
      refine zB [(0, .sl (.sl (.pair (.int .i64) (.pair (.int .i64) (.int .i64)))) p), (1, .sl (.sl (.pair (.int .i64) (.pair (.int .i64) (.int .i64)))) q), (5, .int .i64 st1), (13, .int .i64 (p.length : Int)), (14, .int .i64 st1)] [] ?_
      refine AW.seq ?_
      refine AW.seq ?_
      refine AW.draw tab_ok mixed_ok [] [] (by decide) (lex_fast (by kernel_rfl)) ?_
      as_aux_lemma =>
       obtain ⟨c10, h⟩ := ck_some.1 h
       obtain ⟨c11, h⟩ := ck_some.1 h
       refine adops_cut 6 (fun K' hK9 => ?_)
       try dsimp only [List.drop_succ_cons, List.drop_zero, List.take_succ_cons, List.take_zero]
       simp only [go_sem, hb1, hb7]
       repeat with_reducible refine zN ?_
       refine hK9 _ ?_
       as_aux_lemma =>
        obtain ⟨c13, h⟩ := ck_some.1 h
        obtain ⟨c14, h⟩ := ck_some.1 h
        refine adops_cut 5 (fun K' hK12 => ?_)
        try dsimp only [List.drop_succ_cons, List.drop_zero, List.take_succ_cons, List.take_zero]
        simp only [go_sem, hb1, hb7]
        repeat with_reducible refine zN ?_
        refine hK12 _ ?_
        refine adops_nil ?_
        refine athen_n ?_
        refine zV [(0, .sl (.sl (.pair (.int .i64) (.pair (.int .i64) (.int .i64)))) p), (1, .sl (.sl (.pair (.int .i64) (.pair (.int .i64) (.int .i64)))) q), (5, .int .i64 st1), (13, .int .i64 (p.length : Int)), (14, .int .i64 st1), (27, .bool (!(decide (((p.getD st1.toNat []).length : Int) = ((q.getD st1.toNat []).length : Int)))))] [] gt ?_
        as_aux_lemma =>
         refine zQ h (fun hb15 h => ?_) (fun hb15 h => ?_)
         ·refine zo ?_
          refine zB [(4, .bool false)] [] ?_
          refine zr ?_
          refine ablock_r ?_
          refine athen_r ?_
          obtain rfl := Option.some.inj h
          try rw [← hd4 _ rfl] at ho3
          have h := ho3
          try simp only at h
          refine athen_r ?_
          refine ablock_r ?_
          refine athen_r ?_
          obtain rfl := Option.some.inj h
          exact zR [] [] []
         ·refine zk ?_
          refine zo ?_
          obtain ⟨c16, h⟩ := ck_some.1 h
          obtain ⟨c17, h⟩ := ck_some.1 h
          refine zS 5 [(0, .sl (.sl (.pair (.int .i64) (.pair (.int .i64) (.int .i64)))) p), (1, .sl (.sl (.pair (.int .i64) (.pair (.int .i64) (.int .i64)))) q), (5, .int .i64 st1), (13, .int .i64 (p.length : Int)), (14, .int .i64 st1), (32, .int .i64 ((p.getD st1.toNat []).length : Int))] [] ?_
          refine zB [(0, .sl (.sl (.pair (.int .i64) (.pair (.int .i64) (.int .i64)))) p), (1, .sl (.sl (.pair (.int .i64) (.pair (.int .i64) (.int .i64)))) q), (5, .int .i64 st1), (13, .int .i64 (p.length : Int)), (14, .int .i64 st1), (32, .int .i64 ((p.getD st1.toNat []).length : Int)), (33, .int .i64 0)] [] ?_
          refine AW.block ?_
          obtain ⟨rv22, hw18, ho19⟩ := Option.bind_eq_some_iff.1 h
          refine AW.loopO (linealref09_SameActs_b2 p q st1) (fun st2 => ⟨fr [(0, .sl (.sl (.pair (.int .i64) (.pair (.int .i64) (.int .i64)))) p), (1, .sl (.sl (.pair (.int .i64) (.pair (.int .i64) (.int .i64)))) q), (5, .int .i64 st1), (13, .int .i64 (p.length : Int)), (14, .int .i64 st1), (32, .int .i64 ((p.getD st1.toNat []).length : Int)), (33, .int .i64 st2)], hpGet [], gt⟩) 0 hw18 (zL [] [] []) ?_
          as_aux_lemma =>
           intro st2 x21 h hd20
           unfold linealref09_SameActs_b2 at h
           refine zo ?_
           refine zB [(0, .sl (.sl (.pair (.int .i64) (.pair (.int .i64) (.int .i64)))) p), (1, .sl (.sl (.pair (.int .i64) (.pair (.int .i64) (.int .i64)))) q), (5, .int .i64 st1), (13, .int .i64 (p.length : Int)), (14, .int .i64 st1), (32, .int .i64 ((p.getD st1.toNat []).length : Int)), (33, .int .i64 st2), (34, .bool (decide (st2 < ((p.getD st1.toNat []).length : Int))))] [] ?_
           refine AW.seq ?_
           refine zQ h (fun hb23 h => ?_) (fun hb23 h => ?_)
           ·refine zk ?_
            refine AW.seq ?_
            refine AW.block ?_
            refine zo ?_
            refine zB [(0, .sl (.sl (.pair (.int .i64) (.pair (.int .i64) (.int .i64)))) p), (1, .sl (.sl (.pair (.int .i64) (.pair (.int .i64) (.int .i64)))) q), (5, .int .i64 st1), (6, .int .i64 st2), (13, .int .i64 (p.length : Int)), (14, .int .i64 st1), (32, .int .i64 ((p.getD st1.toNat []).length : Int)), (33, .int .i64 st2)] [] ?_
            refine AW.seq ?_
            refine AW.drawTail tab_ok mixed_ok 14 [] [] (by decide) (by kernel_rfl) (by kernel_rfl) (by decide) ?_
            dsimp only [List.take_succ_cons, List.take_zero]
            obtain ⟨c25, h⟩ := ck_some.1 h
            obtain ⟨c26, h⟩ := ck_some.1 h
            obtain ⟨c27, h⟩ := ck_some.1 h
            obtain ⟨c28, h⟩ := ck_some.1 h
            refine adops_cut 6 (fun K' hK24 => ?_)
            try dsimp only [List.drop_succ_cons, List.drop_zero, List.take_succ_cons, List.take_zero]
            simp only [go_sem, hb1, hb7, hb15, hb23]
            repeat with_reducible refine zN ?_
            refine hK24 _ ?_
            as_aux_lemma =>
             obtain ⟨c30, h⟩ := ck_some.1 h
             obtain ⟨c31, h⟩ := ck_some.1 h
             refine adops_cut 6 (fun K' hK29 => ?_)
             try dsimp only [List.drop_succ_cons, List.drop_zero, List.take_succ_cons, List.take_zero]
             simp only [go_sem, hb1, hb7, hb15, hb23]
             repeat with_reducible refine zN ?_
             refine hK29 _ ?_
             as_aux_lemma =>
              obtain ⟨c33, h⟩ := ck_some.1 h
              obtain ⟨c34, h⟩ := ck_some.1 h
              refine adops_cut 2 (fun K' hK32 => ?_)
              try dsimp only [List.drop_succ_cons, List.drop_zero, List.take_succ_cons, List.take_zero]
              simp only [go_sem, hb1, hb7, hb15, hb23]
              repeat with_reducible refine zN ?_
              refine hK32 _ ?_
              refine adops_nil ?_
              refine zT [(0, .sl (.sl (.pair (.int .i64) (.pair (.int .i64) (.int .i64)))) p), (1, .sl (.sl (.pair (.int .i64) (.pair (.int .i64) (.int .i64)))) q), (5, .int .i64 st1), (13, .int .i64 (p.length : Int)), (14, .int .i64 st1), (32, .int .i64 ((p.getD st1.toNat []).length : Int)), (33, .int .i64 st2), (42, .agg [.int .i64 ((p.getD st1.toNat []).getD st2.toNat (0, 0, 0)).1, .int .i64 ((p.getD st1.toNat []).getD st2.toNat (0, 0, 0)).2.1, .int .i64 ((p.getD st1.toNat []).getD st2.toNat (0, 0, 0)).2.2]), (49, .agg [.int .i64 ((q.getD st1.toNat []).getD st2.toNat (0, 0, 0)).1, .int .i64 ((q.getD st1.toNat []).getD st2.toNat (0, 0, 0)).2.1, .int .i64 ((q.getD st1.toNat []).getD st2.toNat (0, 0, 0)).2.2])] [] gt ?_
              obtain ⟨c35, h⟩ := ck_some.1 h
              obtain ⟨c36, h⟩ := ck_some.1 h
              obtain ⟨c37, h⟩ := ck_some.1 h
              obtain ⟨c38, h⟩ := ck_some.1 h
              obtain ⟨c39, h⟩ := ck_some.1 h
              obtain ⟨c40, h⟩ := ck_some.1 h
              refine AO.aggEq (neg := true) eqty_119 (by decide) rfl rfl (lx := [.int .i64 ((p.getD st1.toNat []).getD st2.toNat (0, 0, 0)).1, .int .i64 ((p.getD st1.toNat []).getD st2.toNat (0, 0, 0)).2.1, .int .i64 ((p.getD st1.toNat []).getD st2.toNat (0, 0, 0)).2.2]) (ly := [.int .i64 ((q.getD st1.toNat []).getD st2.toNat (0, 0, 0)).1, .int .i64 ((q.getD st1.toNat []).getD st2.toNat (0, 0, 0)).2.1, .int .i64 ((q.getD st1.toNat []).getD st2.toNat (0, 0, 0)).2.2]) (by first | rfl | (simp only [go_sem, hb1, hb7, hb15, hb23]) <;> (with_reducible and_intros) <;> first | assumption | rfl | omega | (unfold maxLen; omega)) (by first | rfl | (simp only [go_sem, hb1, hb7, hb15, hb23]) <;> (with_reducible and_intros) <;> first | assumption | rfl | omega | (unfold maxLen; omega)) (by first | rfl | (simp only [go_sem, hb1, hb7, hb15, hb23]) <;> (with_reducible and_intros) <;> first | assumption | rfl | omega | (unfold maxLen; omega)) (by first | rfl | (simp only [go_sem, hb1, hb7, hb15, hb23]) <;> (with_reducible and_intros) <;> first | assumption | rfl | omega | (unfold maxLen; omega)) (by first | assumption | omega | (simp only [go_sem, hb1, hb7, hb15, hb23]) <;> (with_reducible and_intros) <;> first | assumption | rfl | omega | (unfold maxLen; omega)) (by first | assumption | omega | (simp only [go_sem, hb1, hb7, hb15, hb23]) <;> (with_reducible and_intros) <;> first | assumption | rfl | omega | (unfold maxLen; omega)) ?_
              refine zT [(0, .sl (.sl (.pair (.int .i64) (.pair (.int .i64) (.int .i64)))) p), (1, .sl (.sl (.pair (.int .i64) (.pair (.int .i64) (.int .i64)))) q), (5, .int .i64 st1), (13, .int .i64 (p.length : Int)), (14, .int .i64 st1), (32, .int .i64 ((p.getD st1.toNat []).length : Int)), (33, .int .i64 st2), (50, .bool (!(decide (((p.getD st1.toNat []).getD st2.toNat (0, 0, 0)) = ((q.getD st1.toNat []).getD st2.toNat (0, 0, 0))))))] [] gt ?_
              refine zB [(0, .sl (.sl (.pair (.int .i64) (.pair (.int .i64) (.int .i64)))) p), (1, .sl (.sl (.pair (.int .i64) (.pair (.int .i64) (.int .i64)))) q), (5, .int .i64 st1), (13, .int .i64 (p.length : Int)), (14, .int .i64 st1), (32, .int .i64 ((p.getD st1.toNat []).length : Int)), (33, .int .i64 st2), (50, .bool (!(decide (((p.getD st1.toNat []).getD st2.toNat (0, 0, 0)) = ((q.getD st1.toNat []).getD st2.toNat (0, 0, 0))))))] [] ?_
              refine zQ h (fun hb41 h => ?_) (fun hb41 h => ?_)
              ·refine zo ?_
               refine zB [(4, .bool false)] [] ?_
               refine AW.ret ?_
               refine ablock_r ?_
               refine athen_r ?_
               obtain rfl := Option.some.inj h
               try rw [← hd20 _ rfl] at ho19
               have h := ho19
               try simp only at h
               refine athen_r ?_
               refine ablock_r ?_
               refine ablock_r ?_
               refine athen_r ?_
               obtain rfl := Option.some.inj h
               try rw [← hd4 _ rfl] at ho3
               have h := ho3
               try simp only at h
               refine athen_r ?_
               refine ablock_r ?_
               refine athen_r ?_
               obtain rfl := Option.some.inj h
               exact zR [] [] []
              ·refine zm ?_
               refine athen_n ?_
               refine AW.ops ?_
               obtain ⟨c42, h⟩ := ck_some.1 h
               refine zA [(0, .sl (.sl (.pair (.int .i64) (.pair (.int .i64) (.int .i64)))) p), (1, .sl (.sl (.pair (.int .i64) (.pair (.int .i64) (.int .i64)))) q), (5, .int .i64 st1), (13, .int .i64 (p.length : Int)), (14, .int .i64 st1), (32, .int .i64 ((p.getD st1.toNat []).length : Int)), (33, .int .i64 (st2 + 1))] [] ?_
               obtain rfl := Option.some.inj h
               exact ⟨_, rfl, zL [] [] []⟩
           ·refine AW.exit ?_
            refine athen_e ?_
            obtain rfl := Option.some.inj h
            try rw [← hd20 _ rfl] at ho19
            have h := ho19
            try simp only at h
            refine athen_e ?_
            refine ablock_s ?_
            refine ablock_n ?_
            refine athen_n ?_
            exact AW.weaken (zL [] [] []) (hk_linealref09_SameActs_k2 () h)
    ·refine AW.exit ?_
     refine athen_e ?_
     obtain rfl := Option.some.inj h
     try rw [← hd4 _ rfl] at ho3
     have h := ho3
     try simp only at h
     refine athen_e ?_
     refine ablock_s ?_
     refine athen_n ?_
     exact AW.weaken (zL [] [] []) (hk_linealref09_SameActs_k1 () h)

theorem hc_slices_Clone (s : List (Int × Bool)) {r : (List (Int × Bool))} (h : slices_Clone s = some r) : HC Try.prog 102 [] [.sl (.pair (.int .i64) .bool) s] [(2000, .arr 76 (.pair (.int .i64) .bool) r)] (.own 2000) := by
 unfold slices_Clone at h
 refine zH Try.func102 [.tmp 2] 8 ?_
 refine zo ?_
 refine zB [(0, .sl (.pair (.int .i64) .bool) s)] [] ?_
 refine AW.seq ?_
 refine zo ?_
 refine zS 1 [(0, .sl (.pair (.int .i64) .bool) s), (3, .sl (.pair (.int .i64) .bool) s)] [] ?_
 refine AO.nilEq (neg := false) tab_ok (by decide) rfl rfl tab_68 rfl rfl rfl (fun hnil1 => ?_) ?_
 ·have h : (some []) = some r := by
   first | (simp only [hnil1] at h ⊢; simpa [ck] using h) | (simp [hnil1, ck] at h ⊢; first | done | exact h)
  refine zT [(0, .sl (.pair (.int .i64) .bool) s), (4, .bool true)] [] gt ?_
  refine zB [(0, .sl (.pair (.int .i64) .bool) s), (4, .bool true)] [] ?_
  refine AW.cond (b := true) rfl (fun _ => ?_) (fun hb2 => by cases hb2)
  refine zo ?_
  refine zB [(2, .cv (.slice none 0 0))] [] ?_
  refine zr ?_
  obtain rfl := Option.some.inj h
  exact zR [] [2000] []
 ·refine zT [(0, .sl (.pair (.int .i64) .bool) s), (4, .bool false)] [] gt ?_
  refine zB [(0, .sl (.pair (.int .i64) .bool) s), (4, .bool false)] [] ?_
  refine AW.cond (b := false) rfl (fun hb3 => by cases hb3) (fun _ => ?_)
  refine zk ?_
  refine zo ?_
  obtain ⟨c4, h⟩ := ck_some.1 h
  refine zB [(2, .own 7)] [(7, .arr 76 (.pair (.int .i64) .bool) s)] ?_
  refine AW.ret ?_
  obtain rfl := Option.some.inj h
  exact zR [] [] [(2000, 7)]

theorem hc_slices_Reverse (s : List (Int × Bool)) {r : (List (Int × Bool))} (h : slices_Reverse s = some r) : HC Try.prog 103 [(1000, .arr 76 (.pair (.int .i64) .bool) s)] [.own 1000] [(1000, .arr 76 (.pair (.int .i64) .bool) r)] (.tup []) := by
 unfold slices_Reverse at h
 refine zH Try.func103 [] 28 ?_
 refine zo ?_
 obtain ⟨c1, h⟩ := ck_some.1 h
 refine zB [(0, .own 1000), (2, .int .i64 0), (3, .int .i64 ((s.length : Int) - 1))] [(1000, .arr 76 (.pair (.int .i64) .bool) s)] ?_
 refine AW.block ?_
 obtain ⟨rv6, hw2, ho3⟩ := Option.bind_eq_some_iff.1 h
 refine AW.loopO (slices_Reverse_b1) (fun st1 => ⟨fr [(0, .own 1000), (2, .int .i64 st1.2.1), (3, .int .i64 st1.2.2)], hpGet [(1000, .arr 76 (.pair (.int .i64) .bool) st1.1)], gt⟩) (s, 0, ((s.length : Int) - 1)) hw2 (zL [] [] []) ?_
 as_aux_lemma =>
  intro st1 x5 h hd4
  unfold slices_Reverse_b1 at h
  refine AW.seq ?_
  refine zo ?_
  refine zB [(0, .own 1000), (2, .int .i64 st1.2.1), (3, .int .i64 st1.2.2), (9, .bool (decide (st1.2.1 < st1.2.2)))] [(1000, .arr 76 (.pair (.int .i64) .bool) st1.1)] ?_
  refine zQ h (fun hb7 h => ?_) (fun hb7 h => ?_)
  ·refine zk ?_
   refine AW.seq ?_
   refine AW.block ?_
   refine AW.draw tab_ok mixed_ok [(13, [1000]), (15, [1000])] [(2, [1000]), (3, []), (100013, []), (100015, [])] (by decide) (lex_fast (by kernel_rfl)) ?_
   as_aux_lemma =>
    refine adops_cut 6 (fun K' hK8 => ?_)
    try dsimp only [List.drop_succ_cons, List.drop_zero, List.take_succ_cons, List.take_zero]
    simp only [go_sem, hb7]
    repeat with_reducible refine zN ?_
    refine hK8 _ ?_
    as_aux_lemma =>
     obtain ⟨c10, h⟩ := ck_some.1 h
     obtain ⟨c11, h⟩ := ck_some.1 h
     obtain ⟨c12, h⟩ := ck_some.1 h
     obtain ⟨c13, h⟩ := ck_some.1 h
     refine adops_cut 6 (fun K' hK9 => ?_)
     try dsimp only [List.drop_succ_cons, List.drop_zero, List.take_succ_cons, List.take_zero]
     simp only [go_sem, hb7]
     repeat with_reducible refine zN ?_
     refine hK9 _ ?_
     as_aux_lemma =>
      obtain ⟨c15, h⟩ := ck_some.1 h
      obtain ⟨c16, h⟩ := ck_some.1 h
      obtain ⟨c17, h⟩ := ck_some.1 h
      obtain ⟨c18, h⟩ := ck_some.1 h
      refine adops_cut 4 (fun K' hK14 => ?_)
      try dsimp only [List.drop_succ_cons, List.drop_zero, List.take_succ_cons, List.take_zero]
      simp only [go_sem, hb7]
      repeat with_reducible refine zN ?_
      refine hK14 _ ?_
      refine adops_nil ?_
      refine ablock_n ?_
      refine athen_n ?_
      refine zV [(0, .own 1000), (2, .int .i64 st1.2.1), (3, .int .i64 st1.2.2)] [(1000, .arr 76 (.pair (.int .i64) .bool) ((st1.1.set st1.2.1.toNat (st1.1.getD st1.2.2.toNat (0, false))).set st1.2.2.toNat (st1.1.getD st1.2.1.toNat (0, false))))] gt ?_
      as_aux_lemma =>
       refine AW.ops ?_
       obtain ⟨c19, h⟩ := ck_some.1 h
       obtain ⟨c20, h⟩ := ck_some.1 h
       refine zS 5 [(0, .own 1000), (2, .int .i64 (st1.2.1 + 1)), (13, .int .i64 (st1.2.2 - 1))] [(1000, .arr 76 (.pair (.int .i64) .bool) ((st1.1.set st1.2.1.toNat (st1.1.getD st1.2.2.toNat (0, false))).set st1.2.2.toNat (st1.1.getD st1.2.1.toNat (0, false))))] ?_
       refine zA [(0, .own 1000), (2, .int .i64 (st1.2.1 + 1)), (3, .int .i64 (st1.2.2 - 1))] [(1000, .arr 76 (.pair (.int .i64) .bool) ((st1.1.set st1.2.1.toNat (st1.1.getD st1.2.2.toNat (0, false))).set st1.2.2.toNat (st1.1.getD st1.2.1.toNat (0, false))))] ?_
       obtain rfl := Option.some.inj h
       exact ⟨_, rfl, zL [] [] []⟩
  ·refine AW.exit ?_
   refine athen_e ?_
   obtain rfl := Option.some.inj h
   rw [← hd4 _ rfl] at ho3
   have h := ho3
   refine athen_e ?_
   refine ablock_s ?_
   obtain rfl := Option.some.inj h
   exact zR [] [] []

theorem hc_delay_Turned (x0 : List (List (Int × Bool))) {r : (List (List (Int × Bool))) × Int} (h : delay_Turned x0 = some r) : HC Try.prog 51 [] [.sl (.sl (.pair (.int .i64) .bool)) x0] [(2000, .arr 68 (.sl (.pair (.int .i64) .bool)) r.1)] (.tup [.own 2000, .int .i64 r.2]) := by
 unfold delay_Turned at h
 refine zH Try.func51 [.tmp 2, .tmp 3] 26 ?_
 refine zo ?_
 refine zB [(0, .sl (.sl (.pair (.int .i64) .bool)) x0)] [] ?_
 refine AW.seq ?_
 refine zo ?_
 refine zS 1 [(0, .sl (.sl (.pair (.int .i64) .bool)) x0), (7, .sl (.sl (.pair (.int .i64) .bool)) x0)] [] ?_
 obtain ⟨v0, hv1, h⟩ := Option.bind_eq_some_iff.1 h
 refine zC [] [] (hc_delay_Valid x0 hv1) [(0, .sl (.sl (.pair (.int .i64) .bool)) x0), (8, .bool v0)] [] ?_
 refine zB [(0, .sl (.sl (.pair (.int .i64) .bool)) x0), (9, .bool (!v0))] [] ?_
 refine zQ h (fun hb2 h => ?_) (fun hb2 h => ?_)
 ·refine zo ?_
  refine zB [(2, .cv (.slice none 0 0)), (3, .int .i64 90)] [] ?_
  refine zr ?_
  obtain rfl := Option.some.inj h
  exact zR [] [2000] []
 ·refine zk ?_
  refine zo ?_
  refine zB [(0, .sl (.sl (.pair (.int .i64) .bool)) x0), (4, .cv (.slice none 0 0))] [] ?_
  refine AW.have1 (fun b1 : (List (List (Int × Bool))) => delay_Turned_k1 b1 = some r) (fun b1 => ⟨fr [(4, .own 23)], hpGet [(23, .arr 68 (.sl (.pair (.int .i64) .bool)) b1)], gt⟩) (fun b1 h => ?_) (fun hk_delay_Turned_k1 => ?_)
  ·as_aux_lemma =>
    unfold delay_Turned_k1 at h
    refine zo ?_
    refine zB [(2, .own 23), (3, .int .i64 0)] [(23, .arr 68 (.sl (.pair (.int .i64) .bool)) b1)] ?_
    refine AW.ret ?_
    obtain rfl := Option.some.inj h
    exact zR [] [] [(2000, 23)]
  ·refine AW.seq ?_
   refine zo ?_
   refine zB [(4, .cv (.slice none 0 0)), (10, .sl (.sl (.pair (.int .i64) .bool)) x0), (11, .int .i64 (x0.length : Int)), (12, .int .i64 0)] [] ?_
   refine AW.block ?_
   obtain ⟨rv7, hw3, ho4⟩ := Option.bind_eq_some_iff.1 h
   refine AW.loopO (delay_Turned_b1 x0) (fun st1 => ⟨fr [(4, .own 23), (10, .sl (.sl (.pair (.int .i64) .bool)) x0), (11, .int .i64 (x0.length : Int)), (12, .int .i64 st1.2)], hpGet [(23, .arr 68 (.sl (.pair (.int .i64) .bool)) st1.1)], gt⟩) ([], 0) hw3 (zL [] [23] []) ?_
   as_aux_lemma =>
    intro st1 x6 h hd5
    unfold delay_Turned_b1 at h
    refine zo ?_
    refine zB [(4, .own 23), (10, .sl (.sl (.pair (.int .i64) .bool)) x0), (11, .int .i64 (x0.length : Int)), (12, .int .i64 st1.2), (13, .bool (decide (st1.2 < (x0.length : Int))))] [(23, .arr 68 (.sl (.pair (.int .i64) .bool)) st1.1)] ?_
    refine AW.seq ?_
    refine zQ h (fun hb8 h => ?_) (fun hb8 h => ?_)
    ·refine zk ?_
     refine AW.seq ?_
     refine AW.block ?_
     refine zo ?_
     obtain ⟨c9, h⟩ := ck_some.1 h
     obtain ⟨c10, h⟩ := ck_some.1 h
     refine zB [(4, .own 23), (6, .sl (.pair (.int .i64) .bool) (x0.getD st1.2.toNat [])), (10, .sl (.sl (.pair (.int .i64) .bool)) x0), (11, .int .i64 (x0.length : Int)), (12, .int .i64 st1.2)] [(23, .arr 68 (.sl (.pair (.int .i64) .bool)) st1.1)] ?_
     refine zo ?_
     refine zS 1 [(4, .own 23), (10, .sl (.sl (.pair (.int .i64) .bool)) x0), (11, .int .i64 (x0.length : Int)), (12, .int .i64 st1.2), (16, .sl (.pair (.int .i64) .bool) (x0.getD st1.2.toNat []))] [(23, .arr 68 (.sl (.pair (.int .i64) .bool)) st1.1)] ?_
     obtain ⟨v0_2, hv11, h⟩ := Option.bind_eq_some_iff.1 h
     refine zC [] [] (hc_slices_Clone (x0.getD st1.2.toNat []) hv11) [(4, .own 23), (10, .sl (.sl (.pair (.int .i64) .bool)) x0), (11, .int .i64 (x0.length : Int)), (12, .int .i64 st1.2), (17, .own 27000)] [(23, .arr 68 (.sl (.pair (.int .i64) .bool)) st1.1), (27000, .arr 76 (.pair (.int .i64) .bool) v0_2)] ?_
     refine zB [(4, .own 23), (6, .own 27000), (10, .sl (.sl (.pair (.int .i64) .bool)) x0), (11, .int .i64 (x0.length : Int)), (12, .int .i64 st1.2)] [(23, .arr 68 (.sl (.pair (.int .i64) .bool)) st1.1), (27000, .arr 76 (.pair (.int .i64) .bool) v0_2)] ?_
     refine zo ?_
     refine zS 1 [(4, .own 23), (6, .own 27000), (10, .sl (.sl (.pair (.int .i64) .bool)) x0), (11, .int .i64 (x0.length : Int)), (12, .int .i64 st1.2), (18, .own 27000)] [(23, .arr 68 (.sl (.pair (.int .i64) .bool)) st1.1), (27000, .arr 76 (.pair (.int .i64) .bool) v0_2)] ?_
     obtain ⟨v0_3, hv12, h⟩ := Option.bind_eq_some_iff.1 h
     refine zC [] [(1000, 27000)] (hc_slices_Reverse v0_2 hv12) [(4, .own 23), (6, .own 27000), (10, .sl (.sl (.pair (.int .i64) .bool)) x0), (11, .int .i64 (x0.length : Int)), (12, .int .i64 st1.2)] [(23, .arr 68 (.sl (.pair (.int .i64) .bool)) st1.1), (27000, .arr 76 (.pair (.int .i64) .bool) v0_3)] ?_
     refine zB [(4, .own 23), (6, .own 27000), (10, .sl (.sl (.pair (.int .i64) .bool)) x0), (11, .int .i64 (x0.length : Int)), (12, .int .i64 st1.2)] [(23, .arr 68 (.sl (.pair (.int .i64) .bool)) st1.1), (27000, .arr 76 (.pair (.int .i64) .bool) v0_3)] ?_
     refine AW.ops ?_
     obtain ⟨c13, h⟩ := ck_some.1 h
     refine zA [(4, .own 23), (10, .sl (.sl (.pair (.int .i64) .bool)) x0), (11, .int .i64 (x0.length : Int)), (12, .int .i64 st1.2)] [(23, .arr 68 (.sl (.pair (.int .i64) .bool)) (st1.1 ++ [v0_3]))] ?_
     refine ablock_n ?_
     refine athen_n ?_
     refine AW.ops ?_
     obtain ⟨c14, h⟩ := ck_some.1 h
     refine zA [(4, .own 23), (10, .sl (.sl (.pair (.int .i64) .bool)) x0), (11, .int .i64 (x0.length : Int)), (12, .int .i64 (st1.2 + 1))] [(23, .arr 68 (.sl (.pair (.int .i64) .bool)) (st1.1 ++ [v0_3]))] ?_
     obtain rfl := Option.some.inj h
     exact ⟨_, rfl, zL [] [] []⟩
    ·refine AW.exit ?_
     refine athen_e ?_
     obtain rfl := Option.some.inj h
     rw [← hd5 _ rfl] at ho4
     have h := ho4
     refine athen_e ?_
     refine ablock_s ?_
     refine athen_n ?_
     exact AW.weaken (zL [] [] []) (hk_delay_Turned_k1 _ h)

theorem hc_linealref09_Turned (x0 : List (List (Int × Bool))) {r : (List (List (Int × Bool))) × Int} (h : linealref09_Turned x0 = some r) : HC Try.prog 52 [] [.sl (.sl (.pair (.int .i64) .bool)) x0] [(2000, .arr 68 (.sl (.pair (.int .i64) .bool)) r.1)] (.tup [.own 2000, .int .i64 r.2]) := by
 unfold linealref09_Turned at h
 refine zH Try.func52 [.tmp 2, .tmp 3] 38 ?_
 refine zo ?_
 refine zB [(0, .sl (.sl (.pair (.int .i64) .bool)) x0)] [] ?_
 refine AW.seq ?_
 refine zo ?_
 refine zS 1 [(0, .sl (.sl (.pair (.int .i64) .bool)) x0), (9, .sl (.sl (.pair (.int .i64) .bool)) x0)] [] ?_
 obtain ⟨v0, hv1, h⟩ := Option.bind_eq_some_iff.1 h
 refine zC [] [] (hc_linealref09_Valid x0 hv1) [(0, .sl (.sl (.pair (.int .i64) .bool)) x0), (10, .bool v0)] [] ?_
 refine zB [(0, .sl (.sl (.pair (.int .i64) .bool)) x0), (11, .bool (!v0))] [] ?_
 refine zQ h (fun hb2 h => ?_) (fun hb2 h => ?_)
 ·refine zo ?_
  refine zB [(2, .cv (.slice none 0 0)), (3, .int .i64 90)] [] ?_
  refine zr ?_
  obtain rfl := Option.some.inj h
  exact zR [] [2000] []
 ·refine zk ?_
  refine zo ?_
  refine zB [(0, .sl (.sl (.pair (.int .i64) .bool)) x0), (4, .cv (.slice none 0 0))] [] ?_
  refine AW.have1 (fun b3_3 : (List (List (Int × Bool))) => linealref09_Turned_k1 b3_3 = some r) (fun b3_3 => ⟨fr [(4, .own 35)], hpGet [(35, .arr 68 (.sl (.pair (.int .i64) .bool)) b3_3)], gt⟩) (fun b3_3 h => ?_) (fun hk_linealref09_Turned_k1 => ?_)
  ·as_aux_lemma =>
    unfold linealref09_Turned_k1 at h
    refine zo ?_
    refine zB [(2, .own 35), (3, .int .i64 0)] [(35, .arr 68 (.sl (.pair (.int .i64) .bool)) b3_3)] ?_
    refine AW.ret ?_
    obtain rfl := Option.some.inj h
    exact zR [] [] [(2000, 35)]
  ·refine AW.seq ?_
   refine zo ?_
   refine zB [(4, .cv (.slice none 0 0)), (12, .sl (.sl (.pair (.int .i64) .bool)) x0), (13, .int .i64 (x0.length : Int)), (14, .int .i64 0)] [] ?_
   refine AW.block ?_
   obtain ⟨rv7, hw3, ho4⟩ := Option.bind_eq_some_iff.1 h
   refine AW.loopO (linealref09_Turned_b1 x0) (fun st1 => ⟨fr [(4, .own 35), (12, .sl (.sl (.pair (.int .i64) .bool)) x0), (13, .int .i64 (x0.length : Int)), (14, .int .i64 st1.2)], hpGet [(35, .arr 68 (.sl (.pair (.int .i64) .bool)) st1.1)], gt⟩) ([], 0) hw3 (zL [] [35] []) ?_
   as_aux_lemma =>
    intro st1 x6 h hd5
    unfold linealref09_Turned_b1 at h
    refine zo ?_
    refine zB [(4, .own 35), (12, .sl (.sl (.pair (.int .i64) .bool)) x0), (13, .int .i64 (x0.length : Int)), (14, .int .i64 st1.2), (15, .bool (decide (st1.2 < (x0.length : Int))))] [(35, .arr 68 (.sl (.pair (.int .i64) .bool)) st1.1)] ?_
    refine AW.seq ?_
    refine zQ h (fun hb8 h => ?_) (fun hb8 h => ?_)
    ·refine zk ?_
     refine AW.have1 (fun b3_2 : (List (List (Int × Bool))) => linealref09_Turned_k2 st1 b3_2 = some x6) (fun b3_2 => ⟨fr [(4, .own 35), (12, .sl (.sl (.pair (.int .i64) .bool)) x0), (13, .int .i64 (x0.length : Int)), (14, .int .i64 st1.2)], hpGet [(35, .arr 68 (.sl (.pair (.int .i64) .bool)) b3_2)], gt⟩) (fun b3_2 h => ?_) (fun hk_linealref09_Turned_k2 => ?_)
     ·as_aux_lemma =>
       unfold linealref09_Turned_k2 at h
       refine AW.ops ?_
       obtain ⟨c9, h⟩ := ck_some.1 h
       refine zA [(4, .own 35), (12, .sl (.sl (.pair (.int .i64) .bool)) x0), (13, .int .i64 (x0.length : Int)), (14, .int .i64 (st1.2 + 1))] [(35, .arr 68 (.sl (.pair (.int .i64) .bool)) b3_2)] ?_
       obtain rfl := Option.some.inj h
       exact ⟨_, rfl, zL [] [] []⟩
     ·refine AW.seq ?_
      refine AW.block ?_
      refine zo ?_
      obtain ⟨c10, h⟩ := ck_some.1 h
      obtain ⟨c11, h⟩ := ck_some.1 h
      refine zB [(4, .own 35), (6, .sl (.pair (.int .i64) .bool) (x0.getD st1.2.toNat [])), (12, .sl (.sl (.pair (.int .i64) .bool)) x0), (13, .int .i64 (x0.length : Int)), (14, .int .i64 st1.2)] [(35, .arr 68 (.sl (.pair (.int .i64) .bool)) st1.1)] ?_
      refine zo ?_
      refine zB [(4, .own 35), (6, .sl (.pair (.int .i64) .bool) (x0.getD st1.2.toNat [])), (7, .cv (.slice none 0 0)), (12, .sl (.sl (.pair (.int .i64) .bool)) x0), (13, .int .i64 (x0.length : Int)), (14, .int .i64 st1.2)] [(35, .arr 68 (.sl (.pair (.int .i64) .bool)) st1.1)] ?_
      refine AW.have1 (fun b3 : (List (Int × Bool)) => linealref09_Turned_k3 st1 b3 = some x6) (fun b3 => ⟨fr [(4, .own 35), (7, .own 31), (12, .sl (.sl (.pair (.int .i64) .bool)) x0), (13, .int .i64 (x0.length : Int)), (14, .int .i64 st1.2)], hpGet [(31, .arr 76 (.pair (.int .i64) .bool) b3), (35, .arr 68 (.sl (.pair (.int .i64) .bool)) st1.1)], gt⟩) (fun b3 h => ?_) (fun hk_linealref09_Turned_k3 => ?_)
      ·as_aux_lemma =>
        unfold linealref09_Turned_k3 at h
        refine AW.ops ?_
        obtain ⟨c12, h⟩ := ck_some.1 h
        refine zA [(4, .own 35), (12, .sl (.sl (.pair (.int .i64) .bool)) x0), (13, .int .i64 (x0.length : Int)), (14, .int .i64 st1.2)] [(35, .arr 68 (.sl (.pair (.int .i64) .bool)) (st1.1 ++ [b3]))] ?_
        refine ablock_n ?_
        refine athen_n ?_
        exact AW.weaken (zL [] [] []) (hk_linealref09_Turned_k2 _ h)
      ·refine AW.seq ?_
       refine zo ?_
       obtain ⟨c13, h⟩ := ck_some.1 h
       refine zB [(4, .own 35), (6, .sl (.pair (.int .i64) .bool) (x0.getD st1.2.toNat [])), (7, .cv (.slice none 0 0)), (8, .int .i64 (((x0.getD st1.2.toNat []).length : Int) - 1)), (12, .sl (.sl (.pair (.int .i64) .bool)) x0), (13, .int .i64 (x0.length : Int)), (14, .int .i64 st1.2)] [(35, .arr 68 (.sl (.pair (.int .i64) .bool)) st1.1)] ?_
       refine AW.block ?_
       obtain ⟨rv18, hw14, ho15⟩ := Option.bind_eq_some_iff.1 h
       refine AW.loopO (linealref09_Turned_b2 x0 st1) (fun st2 => ⟨fr [(4, .own 35), (6, .sl (.pair (.int .i64) .bool) (x0.getD st1.2.toNat [])), (7, .own 31), (8, .int .i64 st2.2), (12, .sl (.sl (.pair (.int .i64) .bool)) x0), (13, .int .i64 (x0.length : Int)), (14, .int .i64 st1.2)], hpGet [(31, .arr 76 (.pair (.int .i64) .bool) st2.1), (35, .arr 68 (.sl (.pair (.int .i64) .bool)) st1.1)], gt⟩) ([], (((x0.getD st1.2.toNat []).length : Int) - 1)) hw14 (zL [] [31] []) ?_
       as_aux_lemma =>
        intro st2 x17 h hd16
        unfold linealref09_Turned_b2 at h
        refine AW.seq ?_
        refine zo ?_
        refine zB [(4, .own 35), (6, .sl (.pair (.int .i64) .bool) (x0.getD st1.2.toNat [])), (7, .own 31), (8, .int .i64 st2.2), (12, .sl (.sl (.pair (.int .i64) .bool)) x0), (13, .int .i64 (x0.length : Int)), (14, .int .i64 st1.2), (22, .bool (decide (0 ≤ st2.2)))] [(31, .arr 76 (.pair (.int .i64) .bool) st2.1), (35, .arr 68 (.sl (.pair (.int .i64) .bool)) st1.1)] ?_
        refine zQ h (fun hb19 h => ?_) (fun hb19 h => ?_)
        ·refine zk ?_
         refine AW.seq ?_
         refine AW.block ?_
         refine AW.ops ?_
         obtain ⟨c20, h⟩ := ck_some.1 h
         obtain ⟨c21, h⟩ := ck_some.1 h
         refine zS 5 [(4, .own 35), (6, .sl (.pair (.int .i64) .bool) (x0.getD st1.2.toNat [])), (8, .int .i64 st2.2), (12, .sl (.sl (.pair (.int .i64) .bool)) x0), (13, .int .i64 (x0.length : Int)), (14, .int .i64 st1.2), (25, .own 31), (29, .agg [.int .i64 ((x0.getD st1.2.toNat []).getD st2.2.toNat (0, false)).1, .bool ((x0.getD st1.2.toNat []).getD st2.2.toNat (0, false)).2])] [(31, .arr 76 (.pair (.int .i64) .bool) st2.1), (35, .arr 68 (.sl (.pair (.int .i64) .bool)) st1.1)] ?_
         obtain ⟨c22, h⟩ := ck_some.1 h
         refine zA [(4, .own 35), (6, .sl (.pair (.int .i64) .bool) (x0.getD st1.2.toNat [])), (7, .own 31), (8, .int .i64 st2.2), (12, .sl (.sl (.pair (.int .i64) .bool)) x0), (13, .int .i64 (x0.length : Int)), (14, .int .i64 st1.2)] [(31, .arr 76 (.pair (.int .i64) .bool) (st2.1 ++ [((x0.getD st1.2.toNat []).getD st2.2.toNat (0, false))])), (35, .arr 68 (.sl (.pair (.int .i64) .bool)) st1.1)] ?_
         refine ablock_n ?_
         refine athen_n ?_
         refine AW.ops ?_
         obtain ⟨c23, h⟩ := ck_some.1 h
         refine zA [(4, .own 35), (6, .sl (.pair (.int .i64) .bool) (x0.getD st1.2.toNat [])), (7, .own 31), (8, .int .i64 (st2.2 - 1)), (12, .sl (.sl (.pair (.int .i64) .bool)) x0), (13, .int .i64 (x0.length : Int)), (14, .int .i64 st1.2)] [(31, .arr 76 (.pair (.int .i64) .bool) (st2.1 ++ [((x0.getD st1.2.toNat []).getD st2.2.toNat (0, false))])), (35, .arr 68 (.sl (.pair (.int .i64) .bool)) st1.1)] ?_
         obtain rfl := Option.some.inj h
         exact ⟨_, rfl, zL [] [] []⟩
        ·refine AW.exit ?_
         refine athen_e ?_
         obtain rfl := Option.some.inj h
         rw [← hd16 _ rfl] at ho15
         have h := ho15
         refine athen_e ?_
         refine ablock_s ?_
         refine athen_n ?_
         exact AW.weaken (zL [] [] []) (hk_linealref09_Turned_k3 _ h)
    ·refine AW.exit ?_
     refine athen_e ?_
     obtain rfl := Option.some.inj h
     rw [← hd5 _ rfl] at ho4
     have h := ho4
     refine athen_e ?_
     refine ablock_s ?_
     refine athen_n ?_
     exact AW.weaken (zL [] [] []) (hk_linealref09_Turned_k1 _ h)

end Go.Proofs.Ytdicomoggfhbfaa
