/-
  Made by wip/tool/dc.py out of the print of the program: contracts.
-/
import Derived.Test.YtdicomoggfhbfaaDlp
import Derived.Test.YtdicomoggfhbfaaShd
import Derived.Test.YtdicomoggfhbfaaAvd
import Derived.Test.YtdicomoggfhbfaaDgc1
import Derived.Test.YtdicomoggfhbfaaDgc3
import Derived.Test.YtdicomoggfhbfaaDgc8
namespace Go.Proofs.Ytdicomoggfhbfaa
open Go.RowKit

set_option linter.unusedSimpArgs false
set_option linter.unusedVariables false
set_option linter.constructorNameAsVariable false

set_option maxRecDepth 100000
set_option maxHeartbeats 40000000

theorem hc_linealref09_SameAccesses (x0 : List (List (Int × Bool))) (y : List (List (Int × Bool))) {r : Bool} (h : linealref09_SameAccesses x0 y = some r) : HC Try.prog 53 [] [.sl (.sl (.pair (.int .i64) .bool)) x0, .sl (.sl (.pair (.int .i64) .bool)) y] [] (.bool r) := by
 unfold linealref09_SameAccesses at h
 refine zH Try.func53 [.tmp 4] 53 ?_
 refine zo ?_
 refine zB [(0, .sl (.sl (.pair (.int .i64) .bool)) x0), (1, .sl (.sl (.pair (.int .i64) .bool)) y)] [] ?_
 refine AW.seq ?_
 refine zo ?_
 refine zB [(0, .sl (.sl (.pair (.int .i64) .bool)) x0), (1, .sl (.sl (.pair (.int .i64) .bool)) y), (11, .bool (!(decide ((x0.length : Int) = (y.length : Int)))))] [] ?_
 refine zQ h (fun hb1 h => ?_) (fun hb1 h => ?_)
 ·refine zo ?_
  refine zB [(4, .bool false)] [] ?_
  refine zr ?_
  obtain rfl := Option.some.inj h
  exact zR [] [] []
 ·refine zk ?_
  refine AW.have1 (fun _ : Unit => linealref09_SameAccesses_k1 = some r) (fun _ => ⟨fr [], hpGet [], gt⟩) (fun _ h => ?_) (fun hk_linealref09_SameAccesses_k1 => ?_)
  ·as_aux_lemma =>
    unfold linealref09_SameAccesses_k1 at h
    refine zo ?_
    refine zB [(4, .bool true)] [] ?_
    refine AW.ret ?_
    obtain rfl := Option.some.inj h
    exact zR [] [] []
  ·refine AW.seq ?_
   refine zo ?_
   refine zB [(0, .sl (.sl (.pair (.int .i64) .bool)) x0), (1, .sl (.sl (.pair (.int .i64) .bool)) y), (13, .int .i64 (x0.length : Int)), (14, .int .i64 0)] [] ?_
   refine AW.block ?_
   obtain ⟨rv6, hw2, ho3⟩ := Option.bind_eq_some_iff.1 h
   refine AW.loopO (linealref09_SameAccesses_b1 x0 y) (fun st1 => ⟨fr [(0, .sl (.sl (.pair (.int .i64) .bool)) x0), (1, .sl (.sl (.pair (.int .i64) .bool)) y), (13, .int .i64 (x0.length : Int)), (14, .int .i64 st1)], hpGet [], gt⟩) 0 hw2 (zL [] [] []) ?_
   as_aux_lemma =>
    intro st1 x5 h hd4
    unfold linealref09_SameAccesses_b1 at h
    refine zo ?_
    refine zB [(0, .sl (.sl (.pair (.int .i64) .bool)) x0), (1, .sl (.sl (.pair (.int .i64) .bool)) y), (13, .int .i64 (x0.length : Int)), (14, .int .i64 st1), (15, .bool (decide (st1 < (x0.length : Int))))] [] ?_
    refine AW.seq ?_
    refine zQ h (fun hb7 h => ?_) (fun hb7 h => ?_)
    ·refine zk ?_
     refine AW.have1 (fun _ : Unit => linealref09_SameAccesses_k2 st1 = some x5) (fun _ => ⟨fr [(0, .sl (.sl (.pair (.int .i64) .bool)) x0), (1, .sl (.sl (.pair (.int .i64) .bool)) y), (13, .int .i64 (x0.length : Int)), (14, .int .i64 st1)], hpGet [], gt⟩) (fun _ h => ?_) (fun hk_linealref09_SameAccesses_k2 => ?_)
     ·as_aux_lemma =>
       unfold linealref09_SameAccesses_k2 at h
       refine AW.ops ?_
       obtain ⟨c8, h⟩ := ck_some.1 h
       refine zA [(0, .sl (.sl (.pair (.int .i64) .bool)) x0), (1, .sl (.sl (.pair (.int .i64) .bool)) y), (13, .int .i64 (x0.length : Int)), (14, .int .i64 (st1 + 1))] [] ?_
       obtain rfl := Option.some.inj h
       exact ⟨_, rfl, zL [] [] []⟩
     ·refine AW.seq ?_
      refine AW.block ?_
      refine zo ?_
      refine zB [(0, .sl (.sl (.pair (.int .i64) .bool)) x0), (1, .sl (.sl (.pair (.int .i64) .bool)) y), (5, .int .i64 st1), (13, .int .i64 (x0.length : Int)), (14, .int .i64 st1)] [] ?_
      refine AW.seq ?_
      refine AW.seq ?_
      refine AW.draw tab_ok mixed_ok [] [] (by decide) (lex_fast (by kernel_rfl)) ?_
      as_aux_lemma =>
       obtain ⟨c10, h⟩ := ck_some.1 h
       obtain ⟨c11, h⟩ := ck_some.1 h
       refine adops_cut 6 (fun K' hK9 => ?_)
       try dsimp only [List.drop_succ_cons, List.drop_zero, List.take_succ_cons, List.take_zero]
       simp only [go_sem, hb1, hb7]
       repeat with_reducible refine zN ?_
       refine hK9 _ ?_
       as_aux_lemma =>
        obtain ⟨c13, h⟩ := ck_some.1 h
        obtain ⟨c14, h⟩ := ck_some.1 h
        refine adops_cut 5 (fun K' hK12 => ?_)
        try dsimp only [List.drop_succ_cons, List.drop_zero, List.take_succ_cons, List.take_zero]
        simp only [go_sem, hb1, hb7]
        repeat with_reducible refine zN ?_
        refine hK12 _ ?_
        refine adops_nil ?_
        refine athen_n ?_
        refine zV [(0, .sl (.sl (.pair (.int .i64) .bool)) x0), (1, .sl (.sl (.pair (.int .i64) .bool)) y), (5, .int .i64 st1), (13, .int .i64 (x0.length : Int)), (14, .int .i64 st1), (27, .bool (!(decide (((x0.getD st1.toNat []).length : Int) = ((y.getD st1.toNat []).length : Int)))))] [] gt ?_
        as_aux_lemma =>
         refine zQ h (fun hb15 h => ?_) (fun hb15 h => ?_)
         ·refine zo ?_
          refine zB [(4, .bool false)] [] ?_
          refine zr ?_
          refine ablock_r ?_
          refine athen_r ?_
          obtain rfl := Option.some.inj h
          try rw [← hd4 _ rfl] at ho3
          have h := ho3
          try simp only at h
          refine athen_r ?_
          refine ablock_r ?_
          refine athen_r ?_
          obtain rfl := Option.some.inj h
          exact zR [] [] []
         ·refine zk ?_
          refine zo ?_
          obtain ⟨c16, h⟩ := ck_some.1 h
          obtain ⟨c17, h⟩ := ck_some.1 h
          refine zS 5 [(0, .sl (.sl (.pair (.int .i64) .bool)) x0), (1, .sl (.sl (.pair (.int .i64) .bool)) y), (5, .int .i64 st1), (13, .int .i64 (x0.length : Int)), (14, .int .i64 st1), (32, .int .i64 ((x0.getD st1.toNat []).length : Int))] [] ?_
          refine zB [(0, .sl (.sl (.pair (.int .i64) .bool)) x0), (1, .sl (.sl (.pair (.int .i64) .bool)) y), (5, .int .i64 st1), (13, .int .i64 (x0.length : Int)), (14, .int .i64 st1), (32, .int .i64 ((x0.getD st1.toNat []).length : Int)), (33, .int .i64 0)] [] ?_
          refine AW.block ?_
          obtain ⟨rv22, hw18, ho19⟩ := Option.bind_eq_some_iff.1 h
          refine AW.loopO (linealref09_SameAccesses_b2 x0 y st1) (fun st2 => ⟨fr [(0, .sl (.sl (.pair (.int .i64) .bool)) x0), (1, .sl (.sl (.pair (.int .i64) .bool)) y), (5, .int .i64 st1), (13, .int .i64 (x0.length : Int)), (14, .int .i64 st1), (32, .int .i64 ((x0.getD st1.toNat []).length : Int)), (33, .int .i64 st2)], hpGet [], gt⟩) 0 hw18 (zL [] [] []) ?_
          as_aux_lemma =>
           intro st2 x21 h hd20
           unfold linealref09_SameAccesses_b2 at h
           refine zo ?_
           refine zB [(0, .sl (.sl (.pair (.int .i64) .bool)) x0), (1, .sl (.sl (.pair (.int .i64) .bool)) y), (5, .int .i64 st1), (13, .int .i64 (x0.length : Int)), (14, .int .i64 st1), (32, .int .i64 ((x0.getD st1.toNat []).length : Int)), (33, .int .i64 st2), (34, .bool (decide (st2 < ((x0.getD st1.toNat []).length : Int))))] [] ?_
           refine AW.seq ?_
           refine zQ h (fun hb23 h => ?_) (fun hb23 h => ?_)
           ·refine zk ?_
            refine AW.seq ?_
            refine AW.block ?_
            refine zo ?_
            refine zB [(0, .sl (.sl (.pair (.int .i64) .bool)) x0), (1, .sl (.sl (.pair (.int .i64) .bool)) y), (5, .int .i64 st1), (6, .int .i64 st2), (13, .int .i64 (x0.length : Int)), (14, .int .i64 st1), (32, .int .i64 ((x0.getD st1.toNat []).length : Int)), (33, .int .i64 st2)] [] ?_
            refine AW.seq ?_
            refine AW.drawTail tab_ok mixed_ok 14 [] [] (by decide) (by kernel_rfl) (by kernel_rfl) (by decide) ?_
            dsimp only [List.take_succ_cons, List.take_zero]
            obtain ⟨c25, h⟩ := ck_some.1 h
            obtain ⟨c26, h⟩ := ck_some.1 h
            obtain ⟨c27, h⟩ := ck_some.1 h
            obtain ⟨c28, h⟩ := ck_some.1 h
            refine adops_cut 6 (fun K' hK24 => ?_)
            try dsimp only [List.drop_succ_cons, List.drop_zero, List.take_succ_cons, List.take_zero]
            simp only [go_sem, hb1, hb7, hb15, hb23]
            repeat with_reducible refine zN ?_
            refine hK24 _ ?_
            as_aux_lemma =>
             obtain ⟨c30, h⟩ := ck_some.1 h
             obtain ⟨c31, h⟩ := ck_some.1 h
             refine adops_cut 6 (fun K' hK29 => ?_)
             try dsimp only [List.drop_succ_cons, List.drop_zero, List.take_succ_cons, List.take_zero]
             simp only [go_sem, hb1, hb7, hb15, hb23]
             repeat with_reducible refine zN ?_
             refine hK29 _ ?_
             as_aux_lemma =>
              obtain ⟨c33, h⟩ := ck_some.1 h
              obtain ⟨c34, h⟩ := ck_some.1 h
              refine adops_cut 2 (fun K' hK32 => ?_)
              try dsimp only [List.drop_succ_cons, List.drop_zero, List.take_succ_cons, List.take_zero]
              simp only [go_sem, hb1, hb7, hb15, hb23]
              repeat with_reducible refine zN ?_
              refine hK32 _ ?_
              refine adops_nil ?_
              refine zT [(0, .sl (.sl (.pair (.int .i64) .bool)) x0), (1, .sl (.sl (.pair (.int .i64) .bool)) y), (5, .int .i64 st1), (13, .int .i64 (x0.length : Int)), (14, .int .i64 st1), (32, .int .i64 ((x0.getD st1.toNat []).length : Int)), (33, .int .i64 st2), (42, .agg [.int .i64 ((x0.getD st1.toNat []).getD st2.toNat (0, false)).1, .bool ((x0.getD st1.toNat []).getD st2.toNat (0, false)).2]), (49, .agg [.int .i64 ((y.getD st1.toNat []).getD st2.toNat (0, false)).1, .bool ((y.getD st1.toNat []).getD st2.toNat (0, false)).2])] [] gt ?_
              obtain ⟨c35, h⟩ := ck_some.1 h
              obtain ⟨c36, h⟩ := ck_some.1 h
              refine AO.aggEq (neg := true) eqty_76 (by decide) rfl rfl (lx := [.int .i64 ((x0.getD st1.toNat []).getD st2.toNat (0, false)).1, .bool ((x0.getD st1.toNat []).getD st2.toNat (0, false)).2]) (ly := [.int .i64 ((y.getD st1.toNat []).getD st2.toNat (0, false)).1, .bool ((y.getD st1.toNat []).getD st2.toNat (0, false)).2]) (by first | rfl | (simp only [go_sem, hb1, hb7, hb15, hb23]) <;> (with_reducible and_intros) <;> first | assumption | rfl | omega | (unfold maxLen; omega)) (by first | rfl | (simp only [go_sem, hb1, hb7, hb15, hb23]) <;> (with_reducible and_intros) <;> first | assumption | rfl | omega | (unfold maxLen; omega)) (by first | rfl | (simp only [go_sem, hb1, hb7, hb15, hb23]) <;> (with_reducible and_intros) <;> first | assumption | rfl | omega | (unfold maxLen; omega)) (by first | rfl | (simp only [go_sem, hb1, hb7, hb15, hb23]) <;> (with_reducible and_intros) <;> first | assumption | rfl | omega | (unfold maxLen; omega)) (by first | assumption | omega | (simp only [go_sem, hb1, hb7, hb15, hb23]) <;> (with_reducible and_intros) <;> first | assumption | rfl | omega | (unfold maxLen; omega)) (by first | assumption | omega | (simp only [go_sem, hb1, hb7, hb15, hb23]) <;> (with_reducible and_intros) <;> first | assumption | rfl | omega | (unfold maxLen; omega)) ?_
              refine zT [(0, .sl (.sl (.pair (.int .i64) .bool)) x0), (1, .sl (.sl (.pair (.int .i64) .bool)) y), (5, .int .i64 st1), (13, .int .i64 (x0.length : Int)), (14, .int .i64 st1), (32, .int .i64 ((x0.getD st1.toNat []).length : Int)), (33, .int .i64 st2), (50, .bool (!(decide (((x0.getD st1.toNat []).getD st2.toNat (0, false)) = ((y.getD st1.toNat []).getD st2.toNat (0, false))))))] [] gt ?_
              refine zB [(0, .sl (.sl (.pair (.int .i64) .bool)) x0), (1, .sl (.sl (.pair (.int .i64) .bool)) y), (5, .int .i64 st1), (13, .int .i64 (x0.length : Int)), (14, .int .i64 st1), (32, .int .i64 ((x0.getD st1.toNat []).length : Int)), (33, .int .i64 st2), (50, .bool (!(decide (((x0.getD st1.toNat []).getD st2.toNat (0, false)) = ((y.getD st1.toNat []).getD st2.toNat (0, false))))))] [] ?_
              refine zQ h (fun hb37 h => ?_) (fun hb37 h => ?_)
              ·refine zo ?_
               refine zB [(4, .bool false)] [] ?_
               refine AW.ret ?_
               refine ablock_r ?_
               refine athen_r ?_
               obtain rfl := Option.some.inj h
               try rw [← hd20 _ rfl] at ho19
               have h := ho19
               try simp only at h
               refine athen_r ?_
               refine ablock_r ?_
               refine ablock_r ?_
               refine athen_r ?_
               obtain rfl := Option.some.inj h
               try rw [← hd4 _ rfl] at ho3
               have h := ho3
               try simp only at h
               refine athen_r ?_
               refine ablock_r ?_
               refine athen_r ?_
               obtain rfl := Option.some.inj h
               exact zR [] [] []
              ·refine zm ?_
               refine athen_n ?_
               refine AW.ops ?_
               obtain ⟨c38, h⟩ := ck_some.1 h
               refine zA [(0, .sl (.sl (.pair (.int .i64) .bool)) x0), (1, .sl (.sl (.pair (.int .i64) .bool)) y), (5, .int .i64 st1), (13, .int .i64 (x0.length : Int)), (14, .int .i64 st1), (32, .int .i64 ((x0.getD st1.toNat []).length : Int)), (33, .int .i64 (st2 + 1))] [] ?_
               obtain rfl := Option.some.inj h
               exact ⟨_, rfl, zL [] [] []⟩
           ·refine AW.exit ?_
            refine athen_e ?_
            obtain rfl := Option.some.inj h
            try rw [← hd20 _ rfl] at ho19
            have h := ho19
            try simp only at h
            refine athen_e ?_
            refine ablock_s ?_
            refine ablock_n ?_
            refine athen_n ?_
            exact AW.weaken (zL [] [] []) (hk_linealref09_SameAccesses_k2 () h)
    ·refine AW.exit ?_
     refine athen_e ?_
     obtain rfl := Option.some.inj h
     try rw [← hd4 _ rfl] at ho3
     have h := ho3
     try simp only at h
     refine athen_e ?_
     refine ablock_s ?_
     refine athen_n ?_
     exact AW.weaken (zL [] [] []) (hk_linealref09_SameAccesses_k1 () h)

theorem hc_slices_Index_2 (s : List Int) (v0 : Int) {r : Int} (h : slices_Index_2 s v0 = some r) : HC Try.prog 150 [] [.sl (.int .i64) s, .int .i64 v0] [] (.int .i64 r) := by
 unfold slices_Index_2 at h
 refine zH Try.func150 [.tmp 4] 19 ?_
 refine zo ?_
 refine zB [(0, .sl (.int .i64) s), (1, .int .i64 v0)] [] ?_
 refine AW.have1 (fun _ : Unit => slices_Index_2_k1 = some r) (fun _ => ⟨fr [], hpGet [], gt⟩) (fun _ h => ?_) (fun hk_slices_Index_2_k1 => ?_)
 ·as_aux_lemma =>
   unfold slices_Index_2_k1 at h
   refine zo ?_
   refine zB [(4, .int .i64 (-1))] [] ?_
   refine AW.ret ?_
   obtain rfl := Option.some.inj h
   exact zR [] [] []
 ·refine AW.seq ?_
  refine zo ?_
  refine zB [(0, .sl (.int .i64) s), (1, .int .i64 v0), (7, .int .i64 (s.length : Int)), (8, .int .i64 0)] [] ?_
  refine AW.block ?_
  obtain ⟨rv5, hw1, ho2⟩ := Option.bind_eq_some_iff.1 h
  refine AW.loopO (slices_Index_2_b1 s v0) (fun st1 => ⟨fr [(0, .sl (.int .i64) s), (1, .int .i64 v0), (7, .int .i64 (s.length : Int)), (8, .int .i64 st1)], hpGet [], gt⟩) 0 hw1 (zL [] [] []) ?_
  as_aux_lemma =>
   intro st1 x4 h hd3
   unfold slices_Index_2_b1 at h
   refine zo ?_
   refine zB [(0, .sl (.int .i64) s), (1, .int .i64 v0), (7, .int .i64 (s.length : Int)), (8, .int .i64 st1), (9, .bool (decide (st1 < (s.length : Int))))] [] ?_
   refine AW.seq ?_
   refine zQ h (fun hb6 h => ?_) (fun hb6 h => ?_)
   ·refine zk ?_
    refine AW.seq ?_
    refine AW.block ?_
    refine zo ?_
    refine zB [(0, .sl (.int .i64) s), (1, .int .i64 v0), (5, .int .i64 st1), (7, .int .i64 (s.length : Int)), (8, .int .i64 st1)] [] ?_
    refine zo ?_
    obtain ⟨c7, h⟩ := ck_some.1 h
    obtain ⟨c8, h⟩ := ck_some.1 h
    refine zS 5 [(0, .sl (.int .i64) s), (1, .int .i64 v0), (5, .int .i64 st1), (7, .int .i64 (s.length : Int)), (8, .int .i64 st1), (11, .int .i64 v0), (15, .int .i64 (s.getD st1.toNat 0))] [] ?_
    refine zB [(0, .sl (.int .i64) s), (1, .int .i64 v0), (5, .int .i64 st1), (7, .int .i64 (s.length : Int)), (8, .int .i64 st1), (16, .bool (decide (v0 = (s.getD st1.toNat 0))))] [] ?_
    refine zQ h (fun hb9 h => ?_) (fun hb9 h => ?_)
    ·refine zo ?_
     refine zB [(4, .int .i64 st1)] [] ?_
     refine AW.ret ?_
     refine ablock_r ?_
     refine athen_r ?_
     obtain rfl := Option.some.inj h
     rw [← hd3 _ rfl] at ho2
     have h := ho2
     try simp only at h
     refine athen_r ?_
     refine ablock_r ?_
     refine athen_r ?_
     obtain rfl := Option.some.inj h
     exact zR [] [] []
    ·refine zm ?_
     refine athen_n ?_
     refine AW.ops ?_
     obtain ⟨c10, h⟩ := ck_some.1 h
     refine zA [(0, .sl (.int .i64) s), (1, .int .i64 v0), (7, .int .i64 (s.length : Int)), (8, .int .i64 (st1 + 1))] [] ?_
     obtain rfl := Option.some.inj h
     exact ⟨_, rfl, zL [] [] []⟩
   ·refine AW.exit ?_
    refine athen_e ?_
    obtain rfl := Option.some.inj h
    try rw [← hd3 _ rfl] at ho2
    have h := ho2
    try simp only at h
    refine athen_e ?_
    refine ablock_s ?_
    refine athen_n ?_
    exact AW.weaken (zL [] [] []) (hk_slices_Index_2_k1 () h)

theorem hc_slices_Contains_2 (s : List Int) (v0 : Int) {r : Bool} (h : slices_Contains_2 s v0 = some r) : HC Try.prog 139 [] [.sl (.int .i64) s, .int .i64 v0] [] (.bool r) := by
 unfold slices_Contains_2 at h
 refine zH Try.func139 [.tmp 4] 9 ?_
 refine zo ?_
 refine zB [(0, .sl (.int .i64) s), (1, .int .i64 v0)] [] ?_
 refine zo ?_
 refine zS 2 [(5, .sl (.int .i64) s), (6, .int .i64 v0)] [] ?_
 obtain ⟨v0_2, hv1, h⟩ := Option.bind_eq_some_iff.1 h
 refine zC [] [] (hc_slices_Index_2 s v0 hv1) [(7, .int .i64 v0_2)] [] ?_
 refine zB [(4, .bool (decide (0 ≤ v0_2)))] [] ?_
 refine AW.ret ?_
 obtain rfl := Option.some.inj h
 exact zR [] [] []

theorem hc_delay_isEach (list : List Int) (n : Int) {r : Bool} (h : delay_isEach list n = some r) : HC Try.prog 104 [] [.sl (.int .i64) list, .int .i64 n] [] (.bool r) := by
 unfold delay_isEach at h
 refine zH Try.func104 [.tmp 4] 19 ?_
 refine zo ?_
 refine zB [(0, .sl (.int .i64) list), (1, .int .i64 n)] [] ?_
 refine AW.have1 (fun _ : Unit => delay_isEach_k1 list n = some r) (fun _ => ⟨fr [(0, .sl (.int .i64) list), (1, .int .i64 n)], hpGet [], gt⟩) (fun _ h => ?_) (fun hk_delay_isEach_k1 => ?_)
 ·as_aux_lemma =>
   unfold delay_isEach_k1 at h
   refine zo ?_
   refine zB [(4, .bool (decide ((list.length : Int) = n)))] [] ?_
   refine AW.ret ?_
   obtain rfl := Option.some.inj h
   exact zR [] [] []
 ·refine AW.seq ?_
  refine zo ?_
  refine zB [(0, .sl (.int .i64) list), (1, .int .i64 n), (6, .int .i64 n), (7, .int .i64 0)] [] ?_
  refine AW.block ?_
  obtain ⟨rv5, hw1, ho2⟩ := Option.bind_eq_some_iff.1 h
  refine AW.loopO (delay_isEach_b1 list n) (fun st1 => ⟨fr [(0, .sl (.int .i64) list), (1, .int .i64 n), (6, .int .i64 n), (7, .int .i64 st1)], hpGet [], gt⟩) 0 hw1 (zL [] [] []) ?_
  as_aux_lemma =>
   intro st1 x4 h hd3
   unfold delay_isEach_b1 at h
   refine zo ?_
   refine zB [(0, .sl (.int .i64) list), (1, .int .i64 n), (6, .int .i64 n), (7, .int .i64 st1), (8, .bool (decide (st1 < n)))] [] ?_
   refine AW.seq ?_
   refine zQ h (fun hb6 h => ?_) (fun hb6 h => ?_)
   ·refine zk ?_
    refine AW.seq ?_
    refine AW.block ?_
    refine zo ?_
    refine zB [(0, .sl (.int .i64) list), (1, .int .i64 n), (5, .int .i64 st1), (6, .int .i64 n), (7, .int .i64 st1)] [] ?_
    refine zo ?_
    refine zS 2 [(0, .sl (.int .i64) list), (1, .int .i64 n), (6, .int .i64 n), (7, .int .i64 st1), (10, .sl (.int .i64) list), (11, .int .i64 st1)] [] ?_
    obtain ⟨v0, hv7, h⟩ := Option.bind_eq_some_iff.1 h
    refine zC [] [] (hc_slices_Contains_2 list st1 hv7) [(0, .sl (.int .i64) list), (1, .int .i64 n), (6, .int .i64 n), (7, .int .i64 st1), (12, .bool v0)] [] ?_
    refine zB [(0, .sl (.int .i64) list), (1, .int .i64 n), (6, .int .i64 n), (7, .int .i64 st1), (13, .bool (!v0))] [] ?_
    refine zQ h (fun hb8 h => ?_) (fun hb8 h => ?_)
    ·refine zo ?_
     refine zB [(4, .bool false)] [] ?_
     refine AW.ret ?_
     refine ablock_r ?_
     refine athen_r ?_
     obtain rfl := Option.some.inj h
     try rw [← hd3 _ rfl] at ho2
     have h := ho2
     try simp only at h
     refine athen_r ?_
     refine ablock_r ?_
     refine athen_r ?_
     obtain rfl := Option.some.inj h
     exact zR [] [] []
    ·refine zm ?_
     refine athen_n ?_
     refine AW.ops ?_
     obtain ⟨c9, h⟩ := ck_some.1 h
     refine zA [(0, .sl (.int .i64) list), (1, .int .i64 n), (6, .int .i64 n), (7, .int .i64 (st1 + 1))] [] ?_
     obtain rfl := Option.some.inj h
     exact ⟨_, rfl, zL [] [] []⟩
   ·refine AW.exit ?_
    refine athen_e ?_
    obtain rfl := Option.some.inj h
    try rw [← hd3 _ rfl] at ho2
    have h := ho2
    try simp only at h
    refine athen_e ?_
    refine ablock_s ?_
    refine athen_n ?_
    exact AW.weaken (zL [] [] []) (hk_delay_isEach_k1 () h)

theorem hc_delay_Renamed (x0 : List (List (Int × Bool))) (threads : List Int) {r : (List (List (Int × Bool))) × Int} (h : delay_Renamed x0 threads = some r) : HC Try.prog 54 [] [.sl (.sl (.pair (.int .i64) .bool)) x0, .sl (.int .i64) threads] [(2000, .arr 68 (.sl (.pair (.int .i64) .bool)) r.1)] (.tup [.own 2000, .int .i64 r.2]) := by
 unfold delay_Renamed at h
 refine zH Try.func54 [.tmp 4, .tmp 5] 33 ?_
 refine zo ?_
 refine zB [(0, .sl (.sl (.pair (.int .i64) .bool)) x0), (1, .sl (.int .i64) threads)] [] ?_
 refine AW.seq ?_
 refine zo ?_
 refine zS 1 [(0, .sl (.sl (.pair (.int .i64) .bool)) x0), (1, .sl (.int .i64) threads), (9, .sl (.sl (.pair (.int .i64) .bool)) x0)] [] ?_
 obtain ⟨v0, hv1, h⟩ := Option.bind_eq_some_iff.1 h
 refine zC [] [] (hc_delay_Valid x0 hv1) [(0, .sl (.sl (.pair (.int .i64) .bool)) x0), (1, .sl (.int .i64) threads), (10, .bool v0)] [] ?_
 refine zB [(0, .sl (.sl (.pair (.int .i64) .bool)) x0), (1, .sl (.int .i64) threads), (11, .bool (!v0))] [] ?_
 refine zQ h (fun hb2 h => ?_) (fun hb2 h => ?_)
 ·refine zo ?_
  refine zB [(4, .cv (.slice none 0 0)), (5, .int .i64 90)] [] ?_
  refine zr ?_
  obtain rfl := Option.some.inj h
  exact zR [] [2000] []
 ·refine zk ?_
  refine AW.seq ?_
  refine zo ?_
  refine zS 3 [(0, .sl (.sl (.pair (.int .i64) .bool)) x0), (1, .sl (.int .i64) threads), (12, .sl (.int .i64) threads), (14, .int .i64 (x0.length : Int))] [] ?_
  obtain ⟨v0_2, hv3, h⟩ := Option.bind_eq_some_iff.1 h
  refine zC [] [] (hc_delay_isEach threads (x0.length : Int) hv3) [(0, .sl (.sl (.pair (.int .i64) .bool)) x0), (1, .sl (.int .i64) threads), (15, .bool v0_2)] [] ?_
  refine zB [(0, .sl (.sl (.pair (.int .i64) .bool)) x0), (1, .sl (.int .i64) threads), (16, .bool (!v0_2))] [] ?_
  refine zQ h (fun hb4 h => ?_) (fun hb4 h => ?_)
  ·refine zo ?_
   refine zB [(4, .cv (.slice none 0 0)), (5, .int .i64 2)] [] ?_
   refine zr ?_
   obtain rfl := Option.some.inj h
   exact zR [] [2000] []
  ·refine zk ?_
   refine zo ?_
   refine zB [(0, .sl (.sl (.pair (.int .i64) .bool)) x0), (1, .sl (.int .i64) threads), (6, .cv (.slice none 0 0))] [] ?_
   refine AW.have1 (fun b1 : (List (List (Int × Bool))) => delay_Renamed_k1 b1 = some r) (fun b1 => ⟨fr [(6, .own 30)], hpGet [(30, .arr 68 (.sl (.pair (.int .i64) .bool)) b1)], gt⟩) (fun b1 h => ?_) (fun hk_delay_Renamed_k1 => ?_)
   ·as_aux_lemma =>
     unfold delay_Renamed_k1 at h
     refine zo ?_
     refine zB [(4, .own 30), (5, .int .i64 0)] [(30, .arr 68 (.sl (.pair (.int .i64) .bool)) b1)] ?_
     refine AW.ret ?_
     obtain rfl := Option.some.inj h
     exact zR [] [] [(2000, 30)]
   ·refine AW.seq ?_
    refine zo ?_
    refine zB [(0, .sl (.sl (.pair (.int .i64) .bool)) x0), (6, .cv (.slice none 0 0)), (17, .sl (.int .i64) threads), (18, .int .i64 (threads.length : Int)), (19, .int .i64 0)] [] ?_
    refine AW.block ?_
    obtain ⟨rv9, hw5, ho6⟩ := Option.bind_eq_some_iff.1 h
    refine AW.loopO (delay_Renamed_b1 x0 threads) (fun st1 => ⟨fr [(0, .sl (.sl (.pair (.int .i64) .bool)) x0), (6, .own 30), (17, .sl (.int .i64) threads), (18, .int .i64 (threads.length : Int)), (19, .int .i64 st1.2)], hpGet [(30, .arr 68 (.sl (.pair (.int .i64) .bool)) st1.1)], gt⟩) ([], 0) hw5 (zL [] [30] []) ?_
    as_aux_lemma =>
     intro st1 x8 h hd7
     unfold delay_Renamed_b1 at h
     refine zo ?_
     refine zB [(0, .sl (.sl (.pair (.int .i64) .bool)) x0), (6, .own 30), (17, .sl (.int .i64) threads), (18, .int .i64 (threads.length : Int)), (19, .int .i64 st1.2), (20, .bool (decide (st1.2 < (threads.length : Int))))] [(30, .arr 68 (.sl (.pair (.int .i64) .bool)) st1.1)] ?_
     refine AW.seq ?_
     refine zQ h (fun hb10 h => ?_) (fun hb10 h => ?_)
     ·refine zk ?_
      refine AW.seq ?_
      refine AW.block ?_
      refine zo ?_
      obtain ⟨c11, h⟩ := ck_some.1 h
      obtain ⟨c12, h⟩ := ck_some.1 h
      refine zB [(0, .sl (.sl (.pair (.int .i64) .bool)) x0), (6, .own 30), (8, .int .i64 (threads.getD st1.2.toNat 0)), (17, .sl (.int .i64) threads), (18, .int .i64 (threads.length : Int)), (19, .int .i64 st1.2)] [(30, .arr 68 (.sl (.pair (.int .i64) .bool)) st1.1)] ?_
      refine AW.ops ?_
      obtain ⟨c13, h⟩ := ck_some.1 h
      obtain ⟨c14, h⟩ := ck_some.1 h
      refine zS 5 [(0, .sl (.sl (.pair (.int .i64) .bool)) x0), (17, .sl (.int .i64) threads), (18, .int .i64 (threads.length : Int)), (19, .int .i64 st1.2), (23, .own 30), (27, .sl (.pair (.int .i64) .bool) (x0.getD (threads.getD st1.2.toNat 0).toNat []))] [(30, .arr 68 (.sl (.pair (.int .i64) .bool)) st1.1)] ?_
      obtain ⟨v0_3, hv15, h⟩ := Option.bind_eq_some_iff.1 h
      refine zC [] [] (hc_slices_Clone (x0.getD (threads.getD st1.2.toNat 0).toNat []) hv15) [(0, .sl (.sl (.pair (.int .i64) .bool)) x0), (17, .sl (.int .i64) threads), (18, .int .i64 (threads.length : Int)), (19, .int .i64 st1.2), (23, .own 30), (28, .own 38000)] [(30, .arr 68 (.sl (.pair (.int .i64) .bool)) st1.1), (38000, .arr 76 (.pair (.int .i64) .bool) v0_3)] ?_
      obtain ⟨c16, h⟩ := ck_some.1 h
      refine zA [(0, .sl (.sl (.pair (.int .i64) .bool)) x0), (6, .own 30), (17, .sl (.int .i64) threads), (18, .int .i64 (threads.length : Int)), (19, .int .i64 st1.2)] [(30, .arr 68 (.sl (.pair (.int .i64) .bool)) (st1.1 ++ [v0_3]))] ?_
      refine ablock_n ?_
      refine athen_n ?_
      refine AW.ops ?_
      obtain ⟨c17, h⟩ := ck_some.1 h
      refine zA [(0, .sl (.sl (.pair (.int .i64) .bool)) x0), (6, .own 30), (17, .sl (.int .i64) threads), (18, .int .i64 (threads.length : Int)), (19, .int .i64 (st1.2 + 1))] [(30, .arr 68 (.sl (.pair (.int .i64) .bool)) (st1.1 ++ [v0_3]))] ?_
      obtain rfl := Option.some.inj h
      exact ⟨_, rfl, zL [] [] []⟩
     ·refine AW.exit ?_
      refine athen_e ?_
      obtain rfl := Option.some.inj h
      rw [← hd7 _ rfl] at ho6
      have h := ho6
      refine athen_e ?_
      refine ablock_s ?_
      refine athen_n ?_
      exact AW.weaken (zL [] [] []) (hk_delay_Renamed_k1 _ h)

theorem hc_linealref09_AreThreads (n : Int) (l : List Int) {r : Bool} (h : linealref09_AreThreads n l = some r) : HC Try.prog 60 [] [.int .i64 n, .sl (.int .i64) l] [] (.bool r) := by
 unfold linealref09_AreThreads at h
 refine zH Try.func60 [.tmp 4] 40 ?_
 refine zo ?_
 refine zB [(0, .int .i64 n), (1, .sl (.int .i64) l)] [] ?_
 refine AW.have1 (fun _ : Unit => linealref09_AreThreads_k1 n l = some r) (fun _ => ⟨fr [(0, .int .i64 n), (1, .sl (.int .i64) l)], hpGet [], gt⟩) (fun _ h => ?_) (fun hk_linealref09_AreThreads_k1 => ?_)
 ·as_aux_lemma =>
   unfold linealref09_AreThreads_k1 at h
   refine zo ?_
   refine zB [(4, .bool (decide ((l.length : Int) = n)))] [] ?_
   refine AW.ret ?_
   obtain rfl := Option.some.inj h
   exact zR [] [] []
 ·refine AW.seq ?_
  refine zo ?_
  refine zB [(0, .int .i64 n), (1, .sl (.int .i64) l), (9, .sl (.int .i64) l), (10, .int .i64 (l.length : Int)), (11, .int .i64 0)] [] ?_
  refine AW.block ?_
  obtain ⟨rv5, hw1, ho2⟩ := Option.bind_eq_some_iff.1 h
  refine AW.loopO (linealref09_AreThreads_b1 n l) (fun st1 => ⟨fr [(0, .int .i64 n), (1, .sl (.int .i64) l), (9, .sl (.int .i64) l), (10, .int .i64 (l.length : Int)), (11, .int .i64 st1)], hpGet [], gt⟩) 0 hw1 (zL [] [] []) ?_
  as_aux_lemma =>
   intro st1 x4 h hd3
   unfold linealref09_AreThreads_b1 at h
   refine zo ?_
   refine zB [(0, .int .i64 n), (1, .sl (.int .i64) l), (9, .sl (.int .i64) l), (10, .int .i64 (l.length : Int)), (11, .int .i64 st1), (12, .bool (decide (st1 < (l.length : Int))))] [] ?_
   refine AW.seq ?_
   refine zQ h (fun hb6 h => ?_) (fun hb6 h => ?_)
   ·refine zk ?_
    refine AW.have1 (fun _ : Unit => linealref09_AreThreads_k2 st1 = some x4) (fun _ => ⟨fr [(0, .int .i64 n), (1, .sl (.int .i64) l), (9, .sl (.int .i64) l), (10, .int .i64 (l.length : Int)), (11, .int .i64 st1)], hpGet [], gt⟩) (fun _ h => ?_) (fun hk_linealref09_AreThreads_k2 => ?_)
    ·as_aux_lemma =>
      unfold linealref09_AreThreads_k2 at h
      refine AW.ops ?_
      obtain ⟨c7, h⟩ := ck_some.1 h
      refine zA [(0, .int .i64 n), (1, .sl (.int .i64) l), (9, .sl (.int .i64) l), (10, .int .i64 (l.length : Int)), (11, .int .i64 (st1 + 1))] [] ?_
      obtain rfl := Option.some.inj h
      exact ⟨_, rfl, zL [] [] []⟩
    ·refine AW.seq ?_
     refine AW.block ?_
     refine zo ?_
     obtain ⟨c8, h⟩ := ck_some.1 h
     obtain ⟨c9, h⟩ := ck_some.1 h
     refine zB [(0, .int .i64 n), (1, .sl (.int .i64) l), (5, .int .i64 st1), (6, .int .i64 (l.getD st1.toNat 0)), (9, .sl (.int .i64) l), (10, .int .i64 (l.length : Int)), (11, .int .i64 st1)] [] ?_
     refine AW.seq ?_
     refine zo ?_
     refine zS 3 [(0, .int .i64 n), (1, .sl (.int .i64) l), (5, .int .i64 st1), (6, .int .i64 (l.getD st1.toNat 0)), (9, .sl (.int .i64) l), (10, .int .i64 (l.length : Int)), (11, .int .i64 st1), (18, .bool (decide ((l.getD st1.toNat 0) < 0)))] [] ?_
     rcases zI h with ⟨hb10, h⟩ | ⟨hb10, h⟩
     ·refine zB [(0, .int .i64 n), (1, .sl (.int .i64) l), (5, .int .i64 st1), (6, .int .i64 (l.getD st1.toNat 0)), (9, .sl (.int .i64) l), (10, .int .i64 (l.length : Int)), (11, .int .i64 st1), (22, .bool true)] [] ?_
      refine AW.cond (b := true) rfl (fun _ => ?_) (fun hb11 => by cases hb11)
      refine zo ?_
      refine zB [(4, .bool false)] [] ?_
      refine zr ?_
      refine ablock_r ?_
      refine athen_r ?_
      obtain rfl := Option.some.inj h
      try rw [← hd3 _ rfl] at ho2
      have h := ho2
      try simp only at h
      refine athen_r ?_
      refine ablock_r ?_
      refine athen_r ?_
      obtain rfl := Option.some.inj h
      exact zR [] [] []
     ·refine zB [(0, .int .i64 n), (1, .sl (.int .i64) l), (5, .int .i64 st1), (6, .int .i64 (l.getD st1.toNat 0)), (9, .sl (.int .i64) l), (10, .int .i64 (l.length : Int)), (11, .int .i64 st1), (22, .bool (decide (n ≤ (l.getD st1.toNat 0))))] [] ?_
      refine zQ h (fun hb12 h => ?_) (fun hb12 h => ?_)
      ·refine zo ?_
       refine zB [(4, .bool false)] [] ?_
       refine zr ?_
       refine ablock_r ?_
       refine athen_r ?_
       obtain rfl := Option.some.inj h
       try rw [← hd3 _ rfl] at ho2
       have h := ho2
       try simp only at h
       refine athen_r ?_
       refine ablock_r ?_
       refine athen_r ?_
       obtain rfl := Option.some.inj h
       exact zR [] [] []
      ·refine zk ?_
       refine zo ?_
       obtain ⟨c13, h⟩ := ck_some.1 h
       obtain ⟨c14, h⟩ := ck_some.1 h
       refine zB [(0, .int .i64 n), (1, .sl (.int .i64) l), (6, .int .i64 (l.getD st1.toNat 0)), (9, .sl (.int .i64) l), (10, .int .i64 (l.length : Int)), (11, .int .i64 st1), (25, .sl (.int .i64) (l.take st1.toNat)), (26, .int .i64 ((l.take st1.toNat).length : Int)), (27, .int .i64 0)] [] ?_
       refine AW.block ?_
       obtain ⟨rv19, hw15, ho16⟩ := Option.bind_eq_some_iff.1 h
       refine AW.loopO (linealref09_AreThreads_b2 l st1) (fun st2 => ⟨fr [(0, .int .i64 n), (1, .sl (.int .i64) l), (6, .int .i64 (l.getD st1.toNat 0)), (9, .sl (.int .i64) l), (10, .int .i64 (l.length : Int)), (11, .int .i64 st1), (25, .sl (.int .i64) (l.take st1.toNat)), (26, .int .i64 ((l.take st1.toNat).length : Int)), (27, .int .i64 st2)], hpGet [], gt⟩) 0 hw15 (zL [] [] []) ?_
       as_aux_lemma =>
        intro st2 x18 h hd17
        unfold linealref09_AreThreads_b2 at h
        refine zo ?_
        refine zB [(0, .int .i64 n), (1, .sl (.int .i64) l), (6, .int .i64 (l.getD st1.toNat 0)), (9, .sl (.int .i64) l), (10, .int .i64 (l.length : Int)), (11, .int .i64 st1), (25, .sl (.int .i64) (l.take st1.toNat)), (26, .int .i64 ((l.take st1.toNat).length : Int)), (27, .int .i64 st2), (28, .bool (decide (st2 < ((l.take st1.toNat).length : Int))))] [] ?_
        refine AW.seq ?_
        refine zQ h (fun hb20 h => ?_) (fun hb20 h => ?_)
        ·refine zk ?_
         refine AW.seq ?_
         refine AW.block ?_
         refine zo ?_
         obtain ⟨c21, h⟩ := ck_some.1 h
         obtain ⟨c22, h⟩ := ck_some.1 h
         refine zB [(0, .int .i64 n), (1, .sl (.int .i64) l), (6, .int .i64 (l.getD st1.toNat 0)), (8, .int .i64 ((l.take st1.toNat).getD st2.toNat 0)), (9, .sl (.int .i64) l), (10, .int .i64 (l.length : Int)), (11, .int .i64 st1), (25, .sl (.int .i64) (l.take st1.toNat)), (26, .int .i64 ((l.take st1.toNat).length : Int)), (27, .int .i64 st2)] [] ?_
         refine zo ?_
         refine zB [(0, .int .i64 n), (1, .sl (.int .i64) l), (6, .int .i64 (l.getD st1.toNat 0)), (9, .sl (.int .i64) l), (10, .int .i64 (l.length : Int)), (11, .int .i64 st1), (25, .sl (.int .i64) (l.take st1.toNat)), (26, .int .i64 ((l.take st1.toNat).length : Int)), (27, .int .i64 st2), (33, .bool (decide ((l.getD st1.toNat 0) = ((l.take st1.toNat).getD st2.toNat 0))))] [] ?_
         refine zQ h (fun hb23 h => ?_) (fun hb23 h => ?_)
         ·refine zo ?_
          refine zB [(4, .bool false)] [] ?_
          refine AW.ret ?_
          refine ablock_r ?_
          refine athen_r ?_
          obtain rfl := Option.some.inj h
          try rw [← hd17 _ rfl] at ho16
          have h := ho16
          try simp only at h
          refine athen_r ?_
          refine ablock_r ?_
          refine ablock_r ?_
          refine athen_r ?_
          obtain rfl := Option.some.inj h
          try rw [← hd3 _ rfl] at ho2
          have h := ho2
          try simp only at h
          refine athen_r ?_
          refine ablock_r ?_
          refine athen_r ?_
          obtain rfl := Option.some.inj h
          exact zR [] [] []
         ·refine zm ?_
          refine athen_n ?_
          refine AW.ops ?_
          obtain ⟨c24, h⟩ := ck_some.1 h
          refine zA [(0, .int .i64 n), (1, .sl (.int .i64) l), (6, .int .i64 (l.getD st1.toNat 0)), (9, .sl (.int .i64) l), (10, .int .i64 (l.length : Int)), (11, .int .i64 st1), (25, .sl (.int .i64) (l.take st1.toNat)), (26, .int .i64 ((l.take st1.toNat).length : Int)), (27, .int .i64 (st2 + 1))] [] ?_
          obtain rfl := Option.some.inj h
          exact ⟨_, rfl, zL [] [] []⟩
        ·refine AW.exit ?_
         refine athen_e ?_
         obtain rfl := Option.some.inj h
         try rw [← hd17 _ rfl] at ho16
         have h := ho16
         try simp only at h
         refine athen_e ?_
         refine ablock_s ?_
         refine ablock_n ?_
         refine athen_n ?_
         exact AW.weaken (zL [] [] []) (hk_linealref09_AreThreads_k2 () h)
   ·refine AW.exit ?_
    refine athen_e ?_
    obtain rfl := Option.some.inj h
    try rw [← hd3 _ rfl] at ho2
    have h := ho2
    try simp only at h
    refine athen_e ?_
    refine ablock_s ?_
    refine athen_n ?_
    exact AW.weaken (zL [] [] []) (hk_linealref09_AreThreads_k1 () h)

theorem hc_linealref09_Renamed (x0 : List (List (Int × Bool))) (threads : List Int) {r : (List (List (Int × Bool))) × Int} (h : linealref09_Renamed x0 threads = some r) : HC Try.prog 55 [] [.sl (.sl (.pair (.int .i64) .bool)) x0, .sl (.int .i64) threads] [(2000, .arr 68 (.sl (.pair (.int .i64) .bool)) r.1)] (.tup [.own 2000, .int .i64 r.2]) := by
 unfold linealref09_Renamed at h
 refine zH Try.func55 [.tmp 4, .tmp 5] 34 ?_
 refine zo ?_
 refine zB [(0, .sl (.sl (.pair (.int .i64) .bool)) x0), (1, .sl (.int .i64) threads)] [] ?_
 refine AW.seq ?_
 refine zo ?_
 refine zS 1 [(0, .sl (.sl (.pair (.int .i64) .bool)) x0), (1, .sl (.int .i64) threads), (9, .sl (.sl (.pair (.int .i64) .bool)) x0)] [] ?_
 obtain ⟨v0, hv1, h⟩ := Option.bind_eq_some_iff.1 h
 refine zC [] [] (hc_linealref09_Valid x0 hv1) [(0, .sl (.sl (.pair (.int .i64) .bool)) x0), (1, .sl (.int .i64) threads), (10, .bool v0)] [] ?_
 refine zB [(0, .sl (.sl (.pair (.int .i64) .bool)) x0), (1, .sl (.int .i64) threads), (11, .bool (!v0))] [] ?_
 refine zQ h (fun hb2 h => ?_) (fun hb2 h => ?_)
 ·refine zo ?_
  refine zB [(4, .cv (.slice none 0 0)), (5, .int .i64 90)] [] ?_
  refine zr ?_
  obtain rfl := Option.some.inj h
  exact zR [] [2000] []
 ·refine zk ?_
  refine AW.seq ?_
  refine zo ?_
  refine zS 3 [(0, .sl (.sl (.pair (.int .i64) .bool)) x0), (1, .sl (.int .i64) threads), (13, .int .i64 (x0.length : Int)), (14, .sl (.int .i64) threads)] [] ?_
  obtain ⟨v0_2, hv3, h⟩ := Option.bind_eq_some_iff.1 h
  refine zC [] [] (hc_linealref09_AreThreads (x0.length : Int) threads hv3) [(0, .sl (.sl (.pair (.int .i64) .bool)) x0), (1, .sl (.int .i64) threads), (15, .bool v0_2)] [] ?_
  refine zB [(0, .sl (.sl (.pair (.int .i64) .bool)) x0), (1, .sl (.int .i64) threads), (16, .bool (!v0_2))] [] ?_
  refine zQ h (fun hb4 h => ?_) (fun hb4 h => ?_)
  ·refine zo ?_
   refine zB [(4, .cv (.slice none 0 0)), (5, .int .i64 2)] [] ?_
   refine zr ?_
   obtain rfl := Option.some.inj h
   exact zR [] [2000] []
  ·refine zk ?_
   refine zo ?_
   refine zB [(0, .sl (.sl (.pair (.int .i64) .bool)) x0), (1, .sl (.int .i64) threads), (6, .cv (.slice none 0 0))] [] ?_
   refine AW.have1 (fun b1 : (List (List (Int × Bool))) => linealref09_Renamed_k1 b1 = some r) (fun b1 => ⟨fr [(6, .own 31)], hpGet [(31, .arr 68 (.sl (.pair (.int .i64) .bool)) b1)], gt⟩) (fun b1 h => ?_) (fun hk_linealref09_Renamed_k1 => ?_)
   ·as_aux_lemma =>
     unfold linealref09_Renamed_k1 at h
     refine zo ?_
     refine zB [(4, .own 31), (5, .int .i64 0)] [(31, .arr 68 (.sl (.pair (.int .i64) .bool)) b1)] ?_
     refine AW.ret ?_
     obtain rfl := Option.some.inj h
     exact zR [] [] [(2000, 31)]
   ·refine AW.seq ?_
    refine zo ?_
    refine zB [(0, .sl (.sl (.pair (.int .i64) .bool)) x0), (6, .cv (.slice none 0 0)), (17, .sl (.int .i64) threads), (18, .int .i64 (threads.length : Int)), (19, .int .i64 0)] [] ?_
    refine AW.block ?_
    obtain ⟨rv9, hw5, ho6⟩ := Option.bind_eq_some_iff.1 h
    refine AW.loopO (linealref09_Renamed_b1 x0 threads) (fun st1 => ⟨fr [(0, .sl (.sl (.pair (.int .i64) .bool)) x0), (6, .own 31), (17, .sl (.int .i64) threads), (18, .int .i64 (threads.length : Int)), (19, .int .i64 st1.2)], hpGet [(31, .arr 68 (.sl (.pair (.int .i64) .bool)) st1.1)], gt⟩) ([], 0) hw5 (zL [] [31] []) ?_
    as_aux_lemma =>
     intro st1 x8 h hd7
     unfold linealref09_Renamed_b1 at h
     refine zo ?_
     refine zB [(0, .sl (.sl (.pair (.int .i64) .bool)) x0), (6, .own 31), (17, .sl (.int .i64) threads), (18, .int .i64 (threads.length : Int)), (19, .int .i64 st1.2), (20, .bool (decide (st1.2 < (threads.length : Int))))] [(31, .arr 68 (.sl (.pair (.int .i64) .bool)) st1.1)] ?_
     refine AW.seq ?_
     refine zQ h (fun hb10 h => ?_) (fun hb10 h => ?_)
     ·refine zk ?_
      refine AW.seq ?_
      refine AW.block ?_
      refine zo ?_
      obtain ⟨c11, h⟩ := ck_some.1 h
      obtain ⟨c12, h⟩ := ck_some.1 h
      refine zB [(0, .sl (.sl (.pair (.int .i64) .bool)) x0), (6, .own 31), (8, .int .i64 (threads.getD st1.2.toNat 0)), (17, .sl (.int .i64) threads), (18, .int .i64 (threads.length : Int)), (19, .int .i64 st1.2)] [(31, .arr 68 (.sl (.pair (.int .i64) .bool)) st1.1)] ?_
      refine AW.ops ?_
      obtain ⟨c13, h⟩ := ck_some.1 h
      obtain ⟨c14, h⟩ := ck_some.1 h
      refine zS 5 [(0, .sl (.sl (.pair (.int .i64) .bool)) x0), (17, .sl (.int .i64) threads), (18, .int .i64 (threads.length : Int)), (19, .int .i64 st1.2), (23, .own 31), (24, .own 24), (27, .dp (.sl (.pair (.int .i64) .bool)) (x0.getD (threads.getD st1.2.toNat 0).toNat []) 0)] [(24, .arr 76 (.pair (.int .i64) .bool) []), (31, .arr 68 (.sl (.pair (.int .i64) .bool)) st1.1)] ?_
      obtain ⟨c15, h⟩ := ck_some.1 h
      obtain ⟨c16, h⟩ := ck_some.1 h
      refine zA [(0, .sl (.sl (.pair (.int .i64) .bool)) x0), (6, .own 31), (17, .sl (.int .i64) threads), (18, .int .i64 (threads.length : Int)), (19, .int .i64 st1.2)] [(31, .arr 68 (.sl (.pair (.int .i64) .bool)) (st1.1 ++ [(x0.getD (threads.getD st1.2.toNat 0).toNat [])]))] ?_
      refine ablock_n ?_
      refine athen_n ?_
      refine AW.ops ?_
      obtain ⟨c17, h⟩ := ck_some.1 h
      refine zA [(0, .sl (.sl (.pair (.int .i64) .bool)) x0), (6, .own 31), (17, .sl (.int .i64) threads), (18, .int .i64 (threads.length : Int)), (19, .int .i64 (st1.2 + 1))] [(31, .arr 68 (.sl (.pair (.int .i64) .bool)) (st1.1 ++ [(x0.getD (threads.getD st1.2.toNat 0).toNat [])]))] ?_
      obtain rfl := Option.some.inj h
      exact ⟨_, rfl, zL [] [] []⟩
     ·refine AW.exit ?_
      refine athen_e ?_
      obtain rfl := Option.some.inj h
      rw [← hd7 _ rfl] at ho6
      have h := ho6
      refine athen_e ?_
      refine ablock_s ?_
      refine athen_n ?_
      exact AW.weaken (zL [] [] []) (hk_linealref09_Renamed_k1 _ h)

end Go.Proofs.Ytdicomoggfhbfaa
