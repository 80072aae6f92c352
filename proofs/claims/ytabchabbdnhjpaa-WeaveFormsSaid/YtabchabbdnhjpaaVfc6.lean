/-
  Made by wip/tool/dc.py out of the print of the program: contracts.
-/
import Derived.Test.YtabchabbdnhjpaaVp
import Derived.Test.YtabchabbdnhjpaaSh6
import Derived.Test.YtabchabbdnhjpaaAvd
import Derived.Test.YtabchabbdnhjpaaVfc1
import Derived.Test.YtabchabbdnhjpaaVfc2
import Derived.Test.YtabchabbdnhjpaaVfc5
namespace Go.Proofs.Ytabchabbdnhjpaa
open Go.RowKit

set_option linter.unusedSimpArgs false
set_option linter.unusedVariables false
set_option linter.constructorNameAsVariable false

set_option maxRecDepth 100000
set_option maxHeartbeats 2000000

theorem hc_linealref03_SameInts (a : List Int) (b : List Int) {r : Bool} (h : linealref03_SameInts a b = some r) : HC Try.prog 14 [] [.sl (.int .i64) a, .sl (.int .i64) b] [] (.bool r) := by
 unfold linealref03_SameInts at h
 refine zH Try.func14 [.tmp 4] 26 ?_
 refine zo ?_
 refine zB [(0, .sl (.int .i64) a), (1, .sl (.int .i64) b)] [] ?_
 refine AW.seq ?_
 refine zo ?_
 refine zB [(0, .sl (.int .i64) a), (1, .sl (.int .i64) b), (10, .bool (!(decide ((a.length : Int) = (b.length : Int)))))] [] ?_
 refine zQ h (fun hb1 h => ?_) (fun hb1 h => ?_)
 ·refine zo ?_
  refine zB [(4, .bool false)] [] ?_
  refine zr ?_
  obtain rfl := Option.some.inj h
  exact zR [] [] []
 ·refine zk ?_
  refine AW.have1 (fun _ : Unit => linealref03_SameInts_k1 = some r) (fun _ => ⟨fr [], hpGet [], gt⟩) (fun _ h => ?_) (fun hk_linealref03_SameInts_k1 => ?_)
  ·as_aux_lemma =>
    unfold linealref03_SameInts_k1 at h
    refine zo ?_
    refine zB [(4, .bool true)] [] ?_
    refine AW.ret ?_
    obtain rfl := Option.some.inj h
    exact zR [] [] []
  ·refine AW.seq ?_
   refine zo ?_
   refine zB [(0, .sl (.int .i64) a), (1, .sl (.int .i64) b), (12, .int .i64 (a.length : Int)), (13, .int .i64 0)] [] ?_
   refine AW.block ?_
   obtain ⟨rv6, hw2, ho3⟩ := Option.bind_eq_some_iff.1 h
   refine AW.loopO (linealref03_SameInts_b1 a b) (fun st1 => ⟨fr [(0, .sl (.int .i64) a), (1, .sl (.int .i64) b), (12, .int .i64 (a.length : Int)), (13, .int .i64 st1)], hpGet [], gt⟩) 0 hw2 (zL [] [] []) ?_
   as_aux_lemma =>
    intro st1 x5 h hd4
    unfold linealref03_SameInts_b1 at h
    refine zo ?_
    refine zB [(0, .sl (.int .i64) a), (1, .sl (.int .i64) b), (12, .int .i64 (a.length : Int)), (13, .int .i64 st1), (14, .bool (decide (st1 < (a.length : Int))))] [] ?_
    refine AW.seq ?_
    refine zQ h (fun hb7 h => ?_) (fun hb7 h => ?_)
    ·refine zk ?_
     refine AW.seq ?_
     refine AW.block ?_
     refine zo ?_
     refine zB [(0, .sl (.int .i64) a), (1, .sl (.int .i64) b), (5, .int .i64 st1), (12, .int .i64 (a.length : Int)), (13, .int .i64 st1)] [] ?_
     refine AW.seq ?_
     refine AW.draw tab_ok mixed_ok [] [] (by decide) (lex_fast (by kernel_rfl)) ?_
     as_aux_lemma =>
      obtain ⟨c9, h⟩ := ck_some.1 h
      obtain ⟨c10, h⟩ := ck_some.1 h
      refine adops_cut 6 (fun K' hK8 => ?_)
      try dsimp only [List.drop_succ_cons, List.drop_zero, List.take_succ_cons, List.take_zero]
      simp only [go_sem, hb1, hb7]
      repeat with_reducible refine zN ?_
      refine hK8 _ ?_
      as_aux_lemma =>
       obtain ⟨c12, h⟩ := ck_some.1 h
       obtain ⟨c13, h⟩ := ck_some.1 h
       refine adops_cut 3 (fun K' hK11 => ?_)
       try dsimp only [List.drop_succ_cons, List.drop_zero, List.take_succ_cons, List.take_zero]
       simp only [go_sem, hb1, hb7]
       repeat with_reducible refine zN ?_
       refine hK11 _ ?_
       refine adops_nil ?_
       refine athen_n ?_
       refine zV [(0, .sl (.int .i64) a), (1, .sl (.int .i64) b), (12, .int .i64 (a.length : Int)), (13, .int .i64 st1), (24, .bool (!(decide ((a.getD st1.toNat 0) = (b.getD st1.toNat 0)))))] [] gt ?_
       as_aux_lemma =>
        refine zQ h (fun hb14 h => ?_) (fun hb14 h => ?_)
        ·refine zo ?_
         refine zB [(4, .bool false)] [] ?_
         refine AW.ret ?_
         refine ablock_r ?_
         refine athen_r ?_
         obtain rfl := Option.some.inj h
         rw [← hd4 _ rfl] at ho3
         have h := ho3
         try simp only at h
         refine athen_r ?_
         refine ablock_r ?_
         refine athen_r ?_
         obtain rfl := Option.some.inj h
         exact zR [] [] []
        ·refine zm ?_
         refine athen_n ?_
         refine AW.ops ?_
         obtain ⟨c15, h⟩ := ck_some.1 h
         refine zA [(0, .sl (.int .i64) a), (1, .sl (.int .i64) b), (12, .int .i64 (a.length : Int)), (13, .int .i64 (st1 + 1))] [] ?_
         obtain rfl := Option.some.inj h
         exact ⟨_, rfl, zL [] [] []⟩
    ·refine AW.exit ?_
     refine athen_e ?_
     obtain rfl := Option.some.inj h
     rw [← hd4 _ rfl] at ho3
     have h := ho3
     try simp only at h
     refine athen_e ?_
     refine ablock_s ?_
     refine athen_n ?_
     exact AW.weaken (zL [] [] []) (hk_linealref03_SameInts_k1 () h)

theorem hc_linealref03_SameLists (a : List (List Int)) (b : List (List Int)) {r : Bool} (h : linealref03_SameLists a b = some r) : HC Try.prog 11 [] [.sl (.sl (.int .i64)) a, .sl (.sl (.int .i64)) b] [] (.bool r) := by
 unfold linealref03_SameLists at h
 refine zH Try.func11 [.tmp 4] 27 ?_
 refine zo ?_
 refine zB [(0, .sl (.sl (.int .i64)) a), (1, .sl (.sl (.int .i64)) b)] [] ?_
 refine AW.seq ?_
 refine zo ?_
 refine zB [(0, .sl (.sl (.int .i64)) a), (1, .sl (.sl (.int .i64)) b), (10, .bool (!(decide ((a.length : Int) = (b.length : Int)))))] [] ?_
 refine zQ h (fun hb1 h => ?_) (fun hb1 h => ?_)
 ·refine zo ?_
  refine zB [(4, .bool false)] [] ?_
  refine zr ?_
  obtain rfl := Option.some.inj h
  exact zR [] [] []
 ·refine zk ?_
  refine AW.have1 (fun _ : Unit => linealref03_SameLists_k1 = some r) (fun _ => ⟨fr [], hpGet [], gt⟩) (fun _ h => ?_) (fun hk_linealref03_SameLists_k1 => ?_)
  ·as_aux_lemma =>
    unfold linealref03_SameLists_k1 at h
    refine zo ?_
    refine zB [(4, .bool true)] [] ?_
    refine AW.ret ?_
    obtain rfl := Option.some.inj h
    exact zR [] [] []
  ·refine AW.seq ?_
   refine zo ?_
   refine zB [(0, .sl (.sl (.int .i64)) a), (1, .sl (.sl (.int .i64)) b), (12, .int .i64 (a.length : Int)), (13, .int .i64 0)] [] ?_
   refine AW.block ?_
   obtain ⟨rv6, hw2, ho3⟩ := Option.bind_eq_some_iff.1 h
   refine AW.loopO (linealref03_SameLists_b1 a b) (fun st1 => ⟨fr [(0, .sl (.sl (.int .i64)) a), (1, .sl (.sl (.int .i64)) b), (12, .int .i64 (a.length : Int)), (13, .int .i64 st1)], hpGet [], gt⟩) 0 hw2 (zL [] [] []) ?_
   as_aux_lemma =>
    intro st1 x5 h hd4
    unfold linealref03_SameLists_b1 at h
    refine zo ?_
    refine zB [(0, .sl (.sl (.int .i64)) a), (1, .sl (.sl (.int .i64)) b), (12, .int .i64 (a.length : Int)), (13, .int .i64 st1), (14, .bool (decide (st1 < (a.length : Int))))] [] ?_
    refine AW.seq ?_
    refine zQ h (fun hb7 h => ?_) (fun hb7 h => ?_)
    ·refine zk ?_
     refine AW.seq ?_
     refine AW.block ?_
     refine zo ?_
     refine zB [(0, .sl (.sl (.int .i64)) a), (1, .sl (.sl (.int .i64)) b), (5, .int .i64 st1), (12, .int .i64 (a.length : Int)), (13, .int .i64 st1)] [] ?_
     refine AW.seq ?_
     refine AW.draw tab_ok mixed_ok [] [] (by decide) (lex_fast (by kernel_rfl)) ?_
     as_aux_lemma =>
      obtain ⟨c9, h⟩ := ck_some.1 h
      obtain ⟨c10, h⟩ := ck_some.1 h
      refine adops_cut 6 (fun K' hK8 => ?_)
      try dsimp only [List.drop_succ_cons, List.drop_zero, List.take_succ_cons, List.take_zero]
      simp only [go_sem, hb1, hb7]
      repeat with_reducible refine zN ?_
      refine hK8 _ ?_
      as_aux_lemma =>
       obtain ⟨c12, h⟩ := ck_some.1 h
       obtain ⟨c13, h⟩ := ck_some.1 h
       refine adops_cut 2 (fun K' hK11 => ?_)
       try dsimp only [List.drop_succ_cons, List.drop_zero, List.take_succ_cons, List.take_zero]
       simp only [go_sem, hb1, hb7]
       repeat with_reducible refine zN ?_
       refine hK11 _ ?_
       as_aux_lemma =>
        obtain ⟨v0, hv14, h⟩ := Option.bind_eq_some_iff.1 h
        refine adops.call (by first | trivial | rfl) rfl rfl rfl (fun _ h => h) [] [] (hc_linealref03_SameInts (a.getD st1.toNat []) (b.getD st1.toNat []) hv14) rfl (by (simp only [go_sem, hb1, hb7]) <;> (with_reducible and_intros) <;> first | assumption | rfl | omega | (unfold maxLen; omega)) (by (simp only [go_sem, hb1, hb7]) <;> (with_reducible and_intros) <;> first | assumption | rfl | omega | (unfold maxLen; omega)) rfl ?_
        refine adops_cut 1 (fun K' hK15 => ?_)
        try dsimp only [List.drop_succ_cons, List.drop_zero, List.take_succ_cons, List.take_zero]
        simp only [go_sem, hb1, hb7]
        repeat with_reducible refine zN ?_
        refine hK15 _ ?_
        refine adops_nil ?_
        refine athen_n ?_
        refine zV [(0, .sl (.sl (.int .i64)) a), (1, .sl (.sl (.int .i64)) b), (12, .int .i64 (a.length : Int)), (13, .int .i64 st1), (25, .bool (!v0))] [] gt ?_
        as_aux_lemma =>
         refine zQ h (fun hb16 h => ?_) (fun hb16 h => ?_)
         ·refine zo ?_
          refine zB [(4, .bool false)] [] ?_
          refine AW.ret ?_
          refine ablock_r ?_
          refine athen_r ?_
          obtain rfl := Option.some.inj h
          rw [← hd4 _ rfl] at ho3
          have h := ho3
          try simp only at h
          refine athen_r ?_
          refine ablock_r ?_
          refine athen_r ?_
          obtain rfl := Option.some.inj h
          exact zR [] [] []
         ·refine zm ?_
          refine athen_n ?_
          refine AW.ops ?_
          obtain ⟨c17, h⟩ := ck_some.1 h
          refine zA [(0, .sl (.sl (.int .i64)) a), (1, .sl (.sl (.int .i64)) b), (12, .int .i64 (a.length : Int)), (13, .int .i64 (st1 + 1))] [] ?_
          obtain rfl := Option.some.inj h
          exact ⟨_, rfl, zL [] [] []⟩
    ·refine AW.exit ?_
     refine athen_e ?_
     obtain rfl := Option.some.inj h
     rw [← hd4 _ rfl] at ho3
     have h := ho3
     try simp only at h
     refine athen_e ?_
     refine ablock_s ?_
     refine athen_n ?_
     exact AW.weaken (zL [] [] []) (hk_linealref03_SameLists_k1 () h)

theorem hc_weave_First (l : Int × (List (Int × Int))) (w : List Int) {r : (List Int) × Int} (h : weave_First l w = some r) : HC Try.prog 12 [] [.agg [.int .i64 l.1, .sl (.pair (.int .i64) (.int .i64)) l.2], .sl (.int .i64) w] [] (.tup [.sl (.int .i64) r.1, .int .i64 r.2]) := by
 unfold weave_First at h
 refine zH Try.func12 [.tmp 4, .tmp 5] 21 ?_
 refine zo ?_
 refine zB [(1, .sl (.int .i64) w), (2, .bp 2 0)] [(2, .box 24 [.int .i64 l.1, .sl (.pair (.int .i64) (.int .i64)) l.2])] ?_
 refine zo ?_
 refine zS 3 [(1, .sl (.int .i64) w), (9, .agg [.int .i64 l.1, .sl (.pair (.int .i64) (.int .i64)) l.2]), (11, .own 11)] [(11, .arr 25 (.sl (.int .i64)) [w])] ?_
 obtain ⟨v0, hv1, h⟩ := Option.bind_eq_some_iff.1 h
 refine zC [11] [] (hc_weave_checked l [w] hv1) [(1, .sl (.int .i64) w), (12, .tup [.agg (cellsX T53 v0.1), .int .i64 v0.2])] [] ?_
 refine zS 5 [(1, .sl (.int .i64) w), (6, .bp 6 0), (14, .int .i64 v0.2)] [(6, .box 53 (cellsX T53 v0.1))] ?_
 refine zB [(1, .sl (.int .i64) w), (6, .bp 6 0), (7, .int .i64 v0.2)] [(6, .box 53 (cellsX T53 v0.1))] ?_
 refine AW.seq ?_
 refine zo ?_
 refine zB [(1, .sl (.int .i64) w), (6, .bp 6 0), (7, .int .i64 v0.2), (16, .bool (!(decide (v0.2 = 0))))] [(6, .box 53 (cellsX T53 v0.1))] ?_
 refine zQ h (fun hb2 h => ?_) (fun hb2 h => ?_)
 ·refine zo ?_
  refine zB [(4, .cv (.slice none 0 0)), (5, .int .i64 v0.2)] [] ?_
  refine zr ?_
  obtain rfl := Option.some.inj h
  exact zR [] [] []
 ·refine zk ?_
  refine zo ?_
  refine zS 2 [(18, .agg (cellsX T53 v0.1)), (19, .sl (.int .i64) w)] [] ?_
  obtain ⟨v0_2, hv3, h⟩ := Option.bind_eq_some_iff.1 h
  refine zC [] [] (hc_weave_ties_first v0.1 w hv3) [(20, .sl (.int .i64) v0_2)] [] ?_
  refine zB [(4, .sl (.int .i64) v0_2), (5, .int .i64 0)] [] ?_
  refine AW.ret ?_
  obtain rfl := Option.some.inj h
  exact zR [] [] []

theorem hc_linealref03_FirstForm (l : Int × (List (Int × Int))) (w : List Int) {r : (List Int)} (h : linealref03_FirstForm l w = some r) : HC Try.prog 41 [] [.agg [.int .i64 l.1, .sl (.pair (.int .i64) (.int .i64)) l.2], .sl (.int .i64) w] [(2000, .arr 3 (.int .i64) r)] (.own 2000) := by
 unfold linealref03_FirstForm at h
 refine zH Try.func41 [.tmp 4] 28 ?_
 refine zo ?_
 refine zB [(1, .sl (.int .i64) w), (2, .bp 2 0)] [(2, .box 24 [.int .i64 l.1, .sl (.pair (.int .i64) (.int .i64)) l.2])] ?_
 refine zo ?_
 refine zB [(1, .sl (.int .i64) w), (2, .bp 2 0), (5, .cv (.slice none 0 0))] [(2, .box 24 [.int .i64 l.1, .sl (.pair (.int .i64) (.int .i64)) l.2])] ?_
 refine AW.have1 (fun b1 : (List Int) => linealref03_FirstForm_k1 b1 = some r) (fun b1 => ⟨fr [(5, .own 20)], hpGet [(20, .arr 3 (.int .i64) b1)], gt⟩) (fun b1 h => ?_) (fun hk_linealref03_FirstForm_k1 => ?_)
 ·as_aux_lemma =>
   unfold linealref03_FirstForm_k1 at h
   refine zo ?_
   refine zB [(4, .own 20)] [(20, .arr 3 (.int .i64) b1)] ?_
   refine AW.ret ?_
   obtain rfl := Option.some.inj h
   exact zR [] [] [(2000, 20)]
 ·refine AW.seq ?_
  refine zo ?_
  refine zB [(2, .bp 2 0), (5, .cv (.slice none 0 0)), (6, .sl (.int .i64) w)] [(2, .box 24 [.int .i64 l.1, .sl (.pair (.int .i64) (.int .i64)) l.2])] ?_
  refine AW.block ?_
  obtain ⟨rv5, hw1, ho2⟩ := Option.bind_eq_some_iff.1 h
  refine AW.loopO (linealref03_FirstForm_b1 l) (fun st1 => ⟨fr [(2, .bp 2 0), (5, .own 20), (6, .sl (.int .i64) st1.2)], hpGet [(2, .box 24 [.int .i64 l.1, .sl (.pair (.int .i64) (.int .i64)) l.2]), (20, .arr 3 (.int .i64) st1.1)], gt⟩) ([], w) hw1 (zL [] [20] []) ?_
  as_aux_lemma =>
   intro st1 x4 h hd3
   unfold linealref03_FirstForm_b1 at h
   refine AW.seq ?_
   refine zo ?_
   refine zB [(2, .bp 2 0), (5, .own 20), (6, .sl (.int .i64) st1.2), (11, .bool (decide (0 < (st1.2.length : Int))))] [(2, .box 24 [.int .i64 l.1, .sl (.pair (.int .i64) (.int .i64)) l.2]), (20, .arr 3 (.int .i64) st1.1)] ?_
   refine zQ h (fun hb6 h => ?_) (fun hb6 h => ?_)
   ·refine zk ?_
    refine AW.block ?_
    refine zo ?_
    refine zS 2 [(2, .bp 2 0), (5, .own 20), (6, .sl (.int .i64) st1.2), (12, .agg [.int .i64 l.1, .sl (.pair (.int .i64) (.int .i64)) l.2]), (13, .sl (.int .i64) st1.2)] [(2, .box 24 [.int .i64 l.1, .sl (.pair (.int .i64) (.int .i64)) l.2]), (20, .arr 3 (.int .i64) st1.1)] ?_
    obtain ⟨v0, hv7, h⟩ := Option.bind_eq_some_iff.1 h
    refine zC [] [] (hc_linealref03_starts l st1.2 hv7) [(2, .bp 2 0), (5, .own 20), (6, .sl (.int .i64) st1.2), (14, .own 24000)] [(2, .box 24 [.int .i64 l.1, .sl (.pair (.int .i64) (.int .i64)) l.2]), (20, .arr 3 (.int .i64) st1.1), (24000, .arr 3 (.int .i64) v0)] ?_
    obtain ⟨c8, h⟩ := ck_some.1 h
    refine zB [(2, .bp 2 0), (5, .own 20), (6, .sl (.int .i64) st1.2), (7, .int .i64 (v0.getD 0 0))] [(2, .box 24 [.int .i64 l.1, .sl (.pair (.int .i64) (.int .i64)) l.2]), (20, .arr 3 (.int .i64) st1.1)] ?_
    refine zo ?_
    obtain ⟨c9, h⟩ := ck_some.1 h
    refine zB [(2, .bp 2 0), (5, .own 20), (6, .sl (.int .i64) st1.2), (7, .int .i64 (v0.getD 0 0))] [(2, .box 24 [.int .i64 l.1, .sl (.pair (.int .i64) (.int .i64)) l.2]), (20, .arr 3 (.int .i64) (st1.1 ++ [(v0.getD 0 0)]))] ?_
    refine AW.ops ?_
    refine zS 4 [(2, .bp 2 0), (5, .own 20), (21, .sl (.int .i64) st1.2), (22, .agg [.int .i64 l.1, .sl (.pair (.int .i64) (.int .i64)) l.2]), (23, .sl (.int .i64) st1.2), (24, .int .i64 (v0.getD 0 0))] [(2, .box 24 [.int .i64 l.1, .sl (.pair (.int .i64) (.int .i64)) l.2]), (20, .arr 3 (.int .i64) (st1.1 ++ [(v0.getD 0 0)]))] ?_
    obtain ⟨v0_2, hv10, h⟩ := Option.bind_eq_some_iff.1 h
    refine zC [] [] (hc_linealref03_free l st1.2 (v0.getD 0 0) hv10) [(2, .bp 2 0), (5, .own 20), (21, .sl (.int .i64) st1.2), (25, .int .i64 v0_2)] [(2, .box 24 [.int .i64 l.1, .sl (.pair (.int .i64) (.int .i64)) l.2]), (20, .arr 3 (.int .i64) (st1.1 ++ [(v0.getD 0 0)]))] ?_
    obtain ⟨v0_3, hv11, h⟩ := Option.bind_eq_some_iff.1 h
    refine zC [] [] (hc_linealref03_without st1.2 v0_2 hv11) [(2, .bp 2 0), (5, .own 20), (26, .own 36000)] [(2, .box 24 [.int .i64 l.1, .sl (.pair (.int .i64) (.int .i64)) l.2]), (20, .arr 3 (.int .i64) (st1.1 ++ [(v0.getD 0 0)])), (36000, .arr 3 (.int .i64) ((st1.2.take v0_2.toNat) ++ (st1.2.drop (v0_2 + 1).toNat)))] ?_
    refine zA [(2, .bp 2 0), (5, .own 20), (6, .own 36000)] [(2, .box 24 [.int .i64 l.1, .sl (.pair (.int .i64) (.int .i64)) l.2]), (20, .arr 3 (.int .i64) (st1.1 ++ [(v0.getD 0 0)])), (36000, .arr 3 (.int .i64) ((st1.2.take v0_2.toNat) ++ (st1.2.drop (v0_2 + 1).toNat)))] ?_
    refine ablock_n ?_
    obtain rfl := Option.some.inj h
    exact ⟨_, rfl, zL [36000] [] []⟩
   ·refine AW.exit ?_
    refine athen_e ?_
    obtain rfl := Option.some.inj h
    rw [← hd3 _ rfl] at ho2
    have h := ho2
    refine athen_e ?_
    refine ablock_s ?_
    refine athen_n ?_
    exact AW.weaken (zL [] [] []) (hk_linealref03_FirstForm_k1 _ h)

theorem hc_linealref03_First (l : Int × (List (Int × Int))) (w : List Int) {r : (List Int) × Int} (h : linealref03_First l w = some r) : HC Try.prog 13 [] [.agg [.int .i64 l.1, .sl (.pair (.int .i64) (.int .i64)) l.2], .sl (.int .i64) w] [(2000, .arr 3 (.int .i64) r.1)] (.tup [.own 2000, .int .i64 r.2]) := by
 unfold linealref03_First at h
 refine zH Try.func13 [.tmp 4, .tmp 5] 16 ?_
 refine zo ?_
 refine zB [(1, .sl (.int .i64) w), (2, .bp 2 0)] [(2, .box 24 [.int .i64 l.1, .sl (.pair (.int .i64) (.int .i64)) l.2])] ?_
 refine AW.seq ?_
 refine zo ?_
 refine zS 2 [(1, .sl (.int .i64) w), (2, .bp 2 0), (7, .agg [.int .i64 l.1, .sl (.pair (.int .i64) (.int .i64)) l.2]), (8, .sl (.int .i64) w)] [(2, .box 24 [.int .i64 l.1, .sl (.pair (.int .i64) (.int .i64)) l.2])] ?_
 obtain ⟨v0, hv1, h⟩ := Option.bind_eq_some_iff.1 h
 refine zC [] [] (hc_linealref03_asked l w [] hv1) [(1, .sl (.int .i64) w), (2, .bp 2 0), (9, .int .i64 v0)] [(2, .box 24 [.int .i64 l.1, .sl (.pair (.int .i64) (.int .i64)) l.2])] ?_
 refine zB [(1, .sl (.int .i64) w), (2, .bp 2 0), (6, .int .i64 v0)] [(2, .box 24 [.int .i64 l.1, .sl (.pair (.int .i64) (.int .i64)) l.2])] ?_
 refine zo ?_
 refine zB [(1, .sl (.int .i64) w), (2, .bp 2 0), (6, .int .i64 v0), (11, .bool (!(decide (v0 = 0))))] [(2, .box 24 [.int .i64 l.1, .sl (.pair (.int .i64) (.int .i64)) l.2])] ?_
 refine zQ h (fun hb2 h => ?_) (fun hb2 h => ?_)
 ·refine zo ?_
  refine zB [(4, .cv (.slice none 0 0)), (5, .int .i64 v0)] [] ?_
  refine zr ?_
  obtain rfl := Option.some.inj h
  exact zR [] [2000] []
 ·refine zk ?_
  refine zo ?_
  refine zS 2 [(13, .agg [.int .i64 l.1, .sl (.pair (.int .i64) (.int .i64)) l.2]), (14, .sl (.int .i64) w)] [] ?_
  obtain ⟨v0_2, hv3, h⟩ := Option.bind_eq_some_iff.1 h
  refine zC [] [] (hc_linealref03_FirstForm l w hv3) [(15, .own 25000)] [(25000, .arr 3 (.int .i64) v0_2)] ?_
  refine zB [(4, .own 25000), (5, .int .i64 0)] [(25000, .arr 3 (.int .i64) v0_2)] ?_
  refine AW.ret ?_
  obtain rfl := Option.some.inj h
  exact zR [] [] [(2000, 25000)]

theorem hc_weave_Starts (l : Int × (List (Int × Int))) (w : List Int) {r : (List Int) × Int} (h : weave_Starts l w = some r) : HC Try.prog 15 [] [.agg [.int .i64 l.1, .sl (.pair (.int .i64) (.int .i64)) l.2], .sl (.int .i64) w] [(2000, .arr 3 (.int .i64) r.1)] (.tup [.own 2000, .int .i64 r.2]) := by
 unfold weave_Starts at h
 refine zH Try.func15 [.tmp 4, .tmp 5] 30 ?_
 refine zo ?_
 refine zB [(1, .sl (.int .i64) w), (2, .bp 2 0)] [(2, .box 24 [.int .i64 l.1, .sl (.pair (.int .i64) (.int .i64)) l.2])] ?_
 refine zo ?_
 refine zS 3 [(1, .sl (.int .i64) w), (11, .agg [.int .i64 l.1, .sl (.pair (.int .i64) (.int .i64)) l.2]), (13, .own 13)] [(13, .arr 25 (.sl (.int .i64)) [w])] ?_
 obtain ⟨v0, hv1, h⟩ := Option.bind_eq_some_iff.1 h
 refine zC [13] [] (hc_weave_checked l [w] hv1) [(1, .sl (.int .i64) w), (14, .tup [.agg (cellsX T53 v0.1), .int .i64 v0.2])] [] ?_
 refine zS 5 [(1, .sl (.int .i64) w), (6, .bp 6 0), (16, .int .i64 v0.2)] [(6, .box 53 (cellsX T53 v0.1))] ?_
 refine zB [(1, .sl (.int .i64) w), (6, .bp 6 0), (7, .int .i64 v0.2)] [(6, .box 53 (cellsX T53 v0.1))] ?_
 refine AW.seq ?_
 refine zo ?_
 refine zB [(1, .sl (.int .i64) w), (6, .bp 6 0), (7, .int .i64 v0.2), (18, .bool (!(decide (v0.2 = 0))))] [(6, .box 53 (cellsX T53 v0.1))] ?_
 refine zQ h (fun hb2 h => ?_) (fun hb2 h => ?_)
 ·refine zo ?_
  refine zB [(4, .cv (.slice none 0 0)), (5, .int .i64 v0.2)] [] ?_
  refine zr ?_
  obtain rfl := Option.some.inj h
  exact zR [] [2000] []
 ·refine zk ?_
  refine zo ?_
  refine zB [(1, .sl (.int .i64) w), (6, .bp 6 0), (8, .bp 8 0)] [(6, .box 53 (cellsX T53 v0.1)), (8, .box 25 [.cv (.slice none 0 0)])] ?_
  refine AW.have1 (fun b1 : (List Int) => weave_Starts_k1 b1 = some r) (fun b1 => ⟨fr [(8, .bp 8 0)], hpGet [(8, .box 25 [.own 28]), (28, .arr 3 (.int .i64) b1)], gt⟩) (fun b1 h => ?_) (fun hk_weave_Starts_k1 => ?_)
  ·as_aux_lemma =>
    unfold weave_Starts_k1 at h
    refine zo ?_
    refine zB [(4, .own 28), (5, .int .i64 0)] [(28, .arr 3 (.int .i64) b1)] ?_
    refine AW.ret ?_
    obtain rfl := Option.some.inj h
    exact zR [] [] [(2000, 28)]
  ·refine AW.seq ?_
   refine zo ?_
   refine zS 2 [(8, .bp 8 0), (20, .agg (cellsX T53 v0.1)), (21, .sl (.int .i64) w)] [(8, .box 25 [.cv (.slice none 0 0)])] ?_
   obtain ⟨v0_2, hv3, h⟩ := Option.bind_eq_some_iff.1 h
   refine zC [] [] (hc_weave_ties_starts v0.1 w hv3) [(8, .bp 8 0), (22, .fn (.func 62) [] [.bp 32000 0, .bp 32001 0])] [(8, .box 25 [.cv (.slice none 0 0)]), (32000, .box 53 (cellsX T53 v0.1)), (32001, .box 25 [.sl (.int .i64) w])] ?_
   refine zB [(8, .bp 8 0), (22, .fn (.func 62) [] [.bp 32000 0, .bp 32001 0])] [(8, .box 25 [.cv (.slice none 0 0)]), (32000, .box 53 (cellsX T53 v0.1)), (32001, .box 25 [.sl (.int .i64) w])] ?_
   refine AW.block ?_
   obtain ⟨x4, hx5, h⟩ := Option.bind_eq_some_iff.1 h
   refine AW.weaken (s' := ⟨fr [(8, .bp 8 0), (22, .fn (.func 62) [] [.bp 32000 0, .bp 32001 0])], hpGet ([(32000, .box 53 (cellsX T53 v0.1)), (32001, .box 25 [.sl (.int .i64) w])] ++ [(8, .box 25 [.own 28]), (28, .arr 3 (.int .i64) [])]), gt⟩) (zL [] [28] []) ?_
   refine AW.rangeF (R := Empty) (l0 := [(8, .bp 8 0)]) (hI := [(32000, .box 53 (cellsX T53 v0.1)), (32001, .box 25 [.sl (.int .i64) w])]) (h0 := fun (st1 : (List Int)) => [(8, .box 25 [.own 28]), (28, .arr 3 (.int .i64) st1)]) (gg := fun (st1 : (List Int)) => gt) (hx0 := (fun (r : Empty) => r.elim)) (gx := (fun (r : Empty) => r.elim)) (ex := (fun (r : Empty) => r.elim)) [] [(32000, 1000), (32001, 1001)] [(1000, 32000), (1001, 32001)] [(8, 1900)] [(1900, 8)] (by decide) rfl (by first | exact (ic_weave_ties_starts_1 v0.1 w (weave_Starts_y1) [] hx5) | simpa only [go_sem] using (ic_weave_ties_starts_1 v0.1 w (weave_Starts_y1) [] hx5)) (by (simp only [go_sem, hb2]) <;> (with_reducible and_intros) <;> first | assumption | rfl | omega | (unfold maxLen; omega)) rfl rfl rfl (fun _ => rfl) rfl (fun r => r.elim) rfl (fun r => r.elim) (fun r => r.elim) (fun _ => rfl) (fun _ => rfl) rfl (fun _ _ => by first | rfl | (exact (hΓ _).trans (hΓ _).symm) | (exact (hΓx _).trans (hΓ _).symm)) (fun _ r => r.elim) ?_ ?_
   ·intro lpy1 y1 st1 x6 h
    unfold weave_Starts_y1 at h
    refine zV [(8, .bp 1900 0), (23, .int .i64 y1.1), (24, .sl (.int .i64) y1.2)] [(28, .arr 3 (.int .i64) st1), (1900, .box 25 [.own 28])] gt ?_
    refine AW.ops ?_
    refine zA [(8, .bp 1900 0), (9, .int .i64 y1.1)] [(28, .arr 3 (.int .i64) st1), (1900, .box 25 [.own 28])] ?_
    refine And.intro rfl ?_
    refine AW.block ?_
    refine AW.ops ?_
    obtain ⟨c7, h⟩ := ck_some.1 h
    refine zA [(8, .bp 1900 0)] [(28, .arr 3 (.int .i64) (st1 ++ [y1.1])), (1900, .box 25 [.own 28])] ?_
    refine ablock_n ?_
    obtain rfl := Option.some.inj h
    exact rpost_next rfl [] [] [] rfl (by (simp only [go_sem, hb2]) <;> (with_reducible and_intros) <;> first | assumption | rfl | omega | (unfold maxLen; omega))
   ·cases x4 with
    | inl st1_2 =>
     try simp only at h
     refine ablock_n ?_
     refine athen_n ?_
     exact AW.weaken (zL [] [] []) (hk_weave_Starts_k1 _ h)
    | inr rx =>
     exact rx.elim

theorem hc_linealref03_Starts (l : Int × (List (Int × Int))) (w : List Int) {r : (List Int) × Int} (h : linealref03_Starts l w = some r) : HC Try.prog 16 [] [.agg [.int .i64 l.1, .sl (.pair (.int .i64) (.int .i64)) l.2], .sl (.int .i64) w] [(2000, .arr 3 (.int .i64) r.1)] (.tup [.own 2000, .int .i64 r.2]) := by
 unfold linealref03_Starts at h
 refine zH Try.func16 [.tmp 4, .tmp 5] 16 ?_
 refine zo ?_
 refine zB [(1, .sl (.int .i64) w), (2, .bp 2 0)] [(2, .box 24 [.int .i64 l.1, .sl (.pair (.int .i64) (.int .i64)) l.2])] ?_
 refine AW.seq ?_
 refine zo ?_
 refine zS 2 [(1, .sl (.int .i64) w), (2, .bp 2 0), (7, .agg [.int .i64 l.1, .sl (.pair (.int .i64) (.int .i64)) l.2]), (8, .sl (.int .i64) w)] [(2, .box 24 [.int .i64 l.1, .sl (.pair (.int .i64) (.int .i64)) l.2])] ?_
 obtain ⟨v0, hv1, h⟩ := Option.bind_eq_some_iff.1 h
 refine zC [] [] (hc_linealref03_asked l w [] hv1) [(1, .sl (.int .i64) w), (2, .bp 2 0), (9, .int .i64 v0)] [(2, .box 24 [.int .i64 l.1, .sl (.pair (.int .i64) (.int .i64)) l.2])] ?_
 refine zB [(1, .sl (.int .i64) w), (2, .bp 2 0), (6, .int .i64 v0)] [(2, .box 24 [.int .i64 l.1, .sl (.pair (.int .i64) (.int .i64)) l.2])] ?_
 refine zo ?_
 refine zB [(1, .sl (.int .i64) w), (2, .bp 2 0), (6, .int .i64 v0), (11, .bool (!(decide (v0 = 0))))] [(2, .box 24 [.int .i64 l.1, .sl (.pair (.int .i64) (.int .i64)) l.2])] ?_
 refine zQ h (fun hb2 h => ?_) (fun hb2 h => ?_)
 ·refine zo ?_
  refine zB [(4, .cv (.slice none 0 0)), (5, .int .i64 v0)] [] ?_
  refine zr ?_
  obtain rfl := Option.some.inj h
  exact zR [] [2000] []
 ·refine zk ?_
  refine zo ?_
  refine zS 2 [(13, .agg [.int .i64 l.1, .sl (.pair (.int .i64) (.int .i64)) l.2]), (14, .sl (.int .i64) w)] [] ?_
  obtain ⟨v0_2, hv3, h⟩ := Option.bind_eq_some_iff.1 h
  refine zC [] [] (hc_linealref03_starts l w hv3) [(15, .own 25000)] [(25000, .arr 3 (.int .i64) v0_2)] ?_
  refine zB [(4, .own 25000), (5, .int .i64 0)] [(25000, .arr 3 (.int .i64) v0_2)] ?_
  refine AW.ret ?_
  obtain rfl := Option.some.inj h
  exact zR [] [] [(2000, 25000)]

theorem hc_slices_Clone (s : List Int) {r : (List Int)} (h : slices_Clone s = some r) : HC Try.prog 43 [] [.sl (.int .i64) s] [(2000, .arr 3 (.int .i64) r)] (.own 2000) := by
 unfold slices_Clone at h
 refine zH Try.func43 [.tmp 2] 8 ?_
 refine zo ?_
 refine zB [(0, .sl (.int .i64) s)] [] ?_
 refine AW.seq ?_
 refine zo ?_
 refine zS 1 [(0, .sl (.int .i64) s), (3, .sl (.int .i64) s)] [] ?_
 refine AO.nilEq (neg := false) tab_ok (by decide) rfl rfl tab_25 rfl rfl rfl (fun hnil1 => ?_) ?_
 ·have h : (some []) = some r := by
   first | (simp only [hnil1] at h ⊢; simpa [ck] using h) | (simp [hnil1, ck] at h ⊢; first | done | exact h)
  refine zT [(0, .sl (.int .i64) s), (4, .bool true)] [] gt ?_
  refine zB [(0, .sl (.int .i64) s), (4, .bool true)] [] ?_
  refine AW.cond (b := true) rfl (fun _ => ?_) (fun hb2 => by cases hb2)
  refine zo ?_
  refine zB [(2, .cv (.slice none 0 0))] [] ?_
  refine zr ?_
  obtain rfl := Option.some.inj h
  exact zR [] [2000] []
 ·refine zT [(0, .sl (.int .i64) s), (4, .bool false)] [] gt ?_
  refine zB [(0, .sl (.int .i64) s), (4, .bool false)] [] ?_
  refine AW.cond (b := false) rfl (fun hb3 => by cases hb3) (fun _ => ?_)
  refine zk ?_
  refine zo ?_
  obtain ⟨c4, h⟩ := ck_some.1 h
  refine zB [(2, .own 7)] [(7, .arr 3 (.int .i64) s)] ?_
  refine AW.ret ?_
  obtain rfl := Option.some.inj h
  exact zR [] [] [(2000, 7)]

theorem hc_slices_Reverse (s : List Int) {r : (List Int)} (h : slices_Reverse s = some r) : HC Try.prog 44 [(1000, .arr 3 (.int .i64) s)] [.own 1000] [(1000, .arr 3 (.int .i64) r)] (.tup []) := by
 unfold slices_Reverse at h
 refine zH Try.func44 [] 28 ?_
 refine zo ?_
 obtain ⟨c1, h⟩ := ck_some.1 h
 refine zB [(0, .own 1000), (2, .int .i64 0), (3, .int .i64 ((s.length : Int) - 1))] [(1000, .arr 3 (.int .i64) s)] ?_
 refine AW.block ?_
 obtain ⟨rv6, hw2, ho3⟩ := Option.bind_eq_some_iff.1 h
 refine AW.loopO (slices_Reverse_b1) (fun st1 => ⟨fr [(0, .own 1000), (2, .int .i64 st1.2.1), (3, .int .i64 st1.2.2)], hpGet [(1000, .arr 3 (.int .i64) st1.1)], gt⟩) (s, 0, ((s.length : Int) - 1)) hw2 (zL [] [] []) ?_
 as_aux_lemma =>
  intro st1 x5 h hd4
  unfold slices_Reverse_b1 at h
  refine AW.seq ?_
  refine zo ?_
  refine zB [(0, .own 1000), (2, .int .i64 st1.2.1), (3, .int .i64 st1.2.2), (9, .bool (decide (st1.2.1 < st1.2.2)))] [(1000, .arr 3 (.int .i64) st1.1)] ?_
  refine zQ h (fun hb7 h => ?_) (fun hb7 h => ?_)
  ·refine zk ?_
   refine AW.seq ?_
   refine AW.block ?_
   refine AW.draw tab_ok mixed_ok [(13, [1000]), (15, [1000])] [(2, [1000]), (3, []), (100013, []), (100015, [])] (by decide) (lex_fast (by kernel_rfl)) ?_
   as_aux_lemma =>
    refine adops_cut 6 (fun K' hK8 => ?_)
    try dsimp only [List.drop_succ_cons, List.drop_zero, List.take_succ_cons, List.take_zero]
    simp only [go_sem, hb7]
    repeat with_reducible refine zN ?_
    refine hK8 _ ?_
    as_aux_lemma =>
     obtain ⟨c10, h⟩ := ck_some.1 h
     obtain ⟨c11, h⟩ := ck_some.1 h
     obtain ⟨c12, h⟩ := ck_some.1 h
     obtain ⟨c13, h⟩ := ck_some.1 h
     refine adops_cut 6 (fun K' hK9 => ?_)
     try dsimp only [List.drop_succ_cons, List.drop_zero, List.take_succ_cons, List.take_zero]
     simp only [go_sem, hb7]
     repeat with_reducible refine zN ?_
     refine hK9 _ ?_
     as_aux_lemma =>
      obtain ⟨c15, h⟩ := ck_some.1 h
      obtain ⟨c16, h⟩ := ck_some.1 h
      obtain ⟨c17, h⟩ := ck_some.1 h
      obtain ⟨c18, h⟩ := ck_some.1 h
      refine adops_cut 4 (fun K' hK14 => ?_)
      try dsimp only [List.drop_succ_cons, List.drop_zero, List.take_succ_cons, List.take_zero]
      simp only [go_sem, hb7]
      repeat with_reducible refine zN ?_
      refine hK14 _ ?_
      refine adops_nil ?_
      refine ablock_n ?_
      refine athen_n ?_
      refine zV [(0, .own 1000), (2, .int .i64 st1.2.1), (3, .int .i64 st1.2.2)] [(1000, .arr 3 (.int .i64) ((st1.1.set st1.2.1.toNat (st1.1.getD st1.2.2.toNat 0)).set st1.2.2.toNat (st1.1.getD st1.2.1.toNat 0)))] gt ?_
      as_aux_lemma =>
       refine AW.ops ?_
       obtain ⟨c19, h⟩ := ck_some.1 h
       obtain ⟨c20, h⟩ := ck_some.1 h
       refine zS 5 [(0, .own 1000), (2, .int .i64 (st1.2.1 + 1)), (13, .int .i64 (st1.2.2 - 1))] [(1000, .arr 3 (.int .i64) ((st1.1.set st1.2.1.toNat (st1.1.getD st1.2.2.toNat 0)).set st1.2.2.toNat (st1.1.getD st1.2.1.toNat 0)))] ?_
       refine zA [(0, .own 1000), (2, .int .i64 (st1.2.1 + 1)), (3, .int .i64 (st1.2.2 - 1))] [(1000, .arr 3 (.int .i64) ((st1.1.set st1.2.1.toNat (st1.1.getD st1.2.2.toNat 0)).set st1.2.2.toNat (st1.1.getD st1.2.1.toNat 0)))] ?_
       obtain rfl := Option.some.inj h
       exact ⟨_, rfl, zL [] [] []⟩
  ·refine AW.exit ?_
   refine athen_e ?_
   obtain rfl := Option.some.inj h
   rw [← hd4 _ rfl] at ho3
   have h := ho3
   refine athen_e ?_
   refine ablock_s ?_
   obtain rfl := Option.some.inj h
   exact zR [] [] []

theorem hc_weave_Turned (l : Int × (List (Int × Int))) (w : List Int) {r : (List Int) × Int} (h : weave_Turned l w = some r) : HC Try.prog 17 [] [.agg [.int .i64 l.1, .sl (.pair (.int .i64) (.int .i64)) l.2], .sl (.int .i64) w] [] (.tup [.sl (.int .i64) r.1, .int .i64 r.2]) := by
 unfold weave_Turned at h
 refine zH Try.func17 [.tmp 4, .tmp 5] 26 ?_
 refine zo ?_
 refine zB [(1, .sl (.int .i64) w), (2, .bp 2 0)] [(2, .box 24 [.int .i64 l.1, .sl (.pair (.int .i64) (.int .i64)) l.2])] ?_
 refine zo ?_
 refine zS 3 [(1, .sl (.int .i64) w), (10, .agg [.int .i64 l.1, .sl (.pair (.int .i64) (.int .i64)) l.2]), (12, .own 12)] [(12, .arr 25 (.sl (.int .i64)) [w])] ?_
 obtain ⟨v0, hv1, h⟩ := Option.bind_eq_some_iff.1 h
 refine zC [12] [] (hc_weave_checked l [w] hv1) [(1, .sl (.int .i64) w), (13, .tup [.agg (cellsX T53 v0.1), .int .i64 v0.2])] [] ?_
 refine zS 5 [(1, .sl (.int .i64) w), (6, .bp 6 0), (15, .int .i64 v0.2)] [(6, .box 53 (cellsX T53 v0.1))] ?_
 refine zB [(1, .sl (.int .i64) w), (6, .bp 6 0), (7, .int .i64 v0.2)] [(6, .box 53 (cellsX T53 v0.1))] ?_
 refine AW.seq ?_
 refine zo ?_
 refine zB [(1, .sl (.int .i64) w), (6, .bp 6 0), (7, .int .i64 v0.2), (17, .bool (!(decide (v0.2 = 0))))] [(6, .box 53 (cellsX T53 v0.1))] ?_
 refine zQ h (fun hb2 h => ?_) (fun hb2 h => ?_)
 ·refine zo ?_
  refine zB [(4, .cv (.slice none 0 0)), (5, .int .i64 v0.2)] [] ?_
  refine zr ?_
  obtain rfl := Option.some.inj h
  exact zR [] [] []
 ·refine zk ?_
  refine zo ?_
  refine zS 1 [(6, .bp 6 0), (19, .sl (.int .i64) w)] [(6, .box 53 (cellsX T53 v0.1))] ?_
  obtain ⟨v0_2, hv3, h⟩ := Option.bind_eq_some_iff.1 h
  refine zC [] [] (hc_slices_Clone w hv3) [(6, .bp 6 0), (20, .own 30000)] [(6, .box 53 (cellsX T53 v0.1)), (30000, .arr 3 (.int .i64) v0_2)] ?_
  refine zB [(6, .bp 6 0), (8, .own 30000)] [(6, .box 53 (cellsX T53 v0.1)), (30000, .arr 3 (.int .i64) v0_2)] ?_
  refine zo ?_
  refine zS 1 [(6, .bp 6 0), (8, .own 30000), (21, .own 30000)] [(6, .box 53 (cellsX T53 v0.1)), (30000, .arr 3 (.int .i64) v0_2)] ?_
  obtain ⟨v0_3, hv4, h⟩ := Option.bind_eq_some_iff.1 h
  refine zC [] [(1000, 30000)] (hc_slices_Reverse v0_2 hv4) [(6, .bp 6 0), (8, .own 30000)] [(6, .box 53 (cellsX T53 v0.1)), (30000, .arr 3 (.int .i64) v0_3)] ?_
  refine zB [(6, .bp 6 0), (8, .own 30000)] [(6, .box 53 (cellsX T53 v0.1)), (30000, .arr 3 (.int .i64) v0_3)] ?_
  refine zo ?_
  refine zS 2 [(23, .agg (cellsX T53 v0.1)), (24, .own 30000)] [(30000, .arr 3 (.int .i64) v0_3)] ?_
  obtain ⟨v0_4, hv5, h⟩ := Option.bind_eq_some_iff.1 h
  refine zC [30000] [] (hc_weave_ties_first v0.1 v0_3 hv5) [(25, .sl (.int .i64) v0_4)] [] ?_
  refine zB [(4, .sl (.int .i64) v0_4), (5, .int .i64 0)] [] ?_
  refine AW.ret ?_
  obtain rfl := Option.some.inj h
  exact zR [] [] []

theorem hc_linealref03_Turned (l : Int × (List (Int × Int))) (w : List Int) {r : (List Int) × Int} (h : linealref03_Turned l w = some r) : HC Try.prog 18 [] [.agg [.int .i64 l.1, .sl (.pair (.int .i64) (.int .i64)) l.2], .sl (.int .i64) w] [(2000, .arr 3 (.int .i64) r.1)] (.tup [.own 2000, .int .i64 r.2]) := by
 unfold linealref03_Turned at h
 refine zH Try.func18 [.tmp 4, .tmp 5] 32 ?_
 refine zo ?_
 refine zB [(1, .sl (.int .i64) w), (2, .bp 2 0)] [(2, .box 24 [.int .i64 l.1, .sl (.pair (.int .i64) (.int .i64)) l.2])] ?_
 refine AW.seq ?_
 refine zo ?_
 refine zS 2 [(1, .sl (.int .i64) w), (2, .bp 2 0), (9, .agg [.int .i64 l.1, .sl (.pair (.int .i64) (.int .i64)) l.2]), (10, .sl (.int .i64) w)] [(2, .box 24 [.int .i64 l.1, .sl (.pair (.int .i64) (.int .i64)) l.2])] ?_
 obtain ⟨v0, hv1, h⟩ := Option.bind_eq_some_iff.1 h
 refine zC [] [] (hc_linealref03_asked l w [] hv1) [(1, .sl (.int .i64) w), (2, .bp 2 0), (11, .int .i64 v0)] [(2, .box 24 [.int .i64 l.1, .sl (.pair (.int .i64) (.int .i64)) l.2])] ?_
 refine zB [(1, .sl (.int .i64) w), (2, .bp 2 0), (6, .int .i64 v0)] [(2, .box 24 [.int .i64 l.1, .sl (.pair (.int .i64) (.int .i64)) l.2])] ?_
 refine zo ?_
 refine zB [(1, .sl (.int .i64) w), (2, .bp 2 0), (6, .int .i64 v0), (13, .bool (!(decide (v0 = 0))))] [(2, .box 24 [.int .i64 l.1, .sl (.pair (.int .i64) (.int .i64)) l.2])] ?_
 refine zQ h (fun hb2 h => ?_) (fun hb2 h => ?_)
 ·refine zo ?_
  refine zB [(4, .cv (.slice none 0 0)), (5, .int .i64 v0)] [] ?_
  refine zr ?_
  obtain rfl := Option.some.inj h
  exact zR [] [2000] []
 ·refine zk ?_
  refine zo ?_
  refine zB [(1, .sl (.int .i64) w), (2, .bp 2 0), (7, .cv (.slice none 0 0))] [(2, .box 24 [.int .i64 l.1, .sl (.pair (.int .i64) (.int .i64)) l.2])] ?_
  refine AW.have1 (fun b1 : (List Int) => linealref03_Turned_k1 l b1 = some r) (fun b1 => ⟨fr [(2, .bp 2 0), (7, .own 28)], hpGet [(2, .box 24 [.int .i64 l.1, .sl (.pair (.int .i64) (.int .i64)) l.2]), (28, .arr 3 (.int .i64) b1)], gt⟩) (fun b1 h => ?_) (fun hk_linealref03_Turned_k1 => ?_)
  ·as_aux_lemma =>
    unfold linealref03_Turned_k1 at h
    refine zo ?_
    refine zS 2 [(29, .agg [.int .i64 l.1, .sl (.pair (.int .i64) (.int .i64)) l.2]), (30, .own 28)] [(28, .arr 3 (.int .i64) b1)] ?_
    obtain ⟨v0_2, hv3, h⟩ := Option.bind_eq_some_iff.1 h
    refine zC [28] [] (hc_linealref03_FirstForm l b1 hv3) [(31, .own 41000)] [(41000, .arr 3 (.int .i64) v0_2)] ?_
    refine zB [(4, .own 41000), (5, .int .i64 0)] [(41000, .arr 3 (.int .i64) v0_2)] ?_
    refine AW.ret ?_
    obtain rfl := Option.some.inj h
    exact zR [] [] [(2000, 41000)]
  ·refine AW.seq ?_
   refine zo ?_
   obtain ⟨c4, h⟩ := ck_some.1 h
   refine zB [(1, .sl (.int .i64) w), (2, .bp 2 0), (7, .cv (.slice none 0 0)), (8, .int .i64 ((w.length : Int) - 1))] [(2, .box 24 [.int .i64 l.1, .sl (.pair (.int .i64) (.int .i64)) l.2])] ?_
   refine AW.block ?_
   obtain ⟨rv9, hw5, ho6⟩ := Option.bind_eq_some_iff.1 h
   refine AW.loopO (linealref03_Turned_b1 w) (fun st1 => ⟨fr [(1, .sl (.int .i64) w), (2, .bp 2 0), (7, .own 28), (8, .int .i64 st1.2)], hpGet [(2, .box 24 [.int .i64 l.1, .sl (.pair (.int .i64) (.int .i64)) l.2]), (28, .arr 3 (.int .i64) st1.1)], gt⟩) ([], ((w.length : Int) - 1)) hw5 (zL [] [28] []) ?_
   as_aux_lemma =>
    intro st1 x8 h hd7
    unfold linealref03_Turned_b1 at h
    refine AW.seq ?_
    refine zo ?_
    refine zB [(1, .sl (.int .i64) w), (2, .bp 2 0), (7, .own 28), (8, .int .i64 st1.2), (19, .bool (decide (0 ≤ st1.2)))] [(2, .box 24 [.int .i64 l.1, .sl (.pair (.int .i64) (.int .i64)) l.2]), (28, .arr 3 (.int .i64) st1.1)] ?_
    refine zQ h (fun hb10 h => ?_) (fun hb10 h => ?_)
    ·refine zk ?_
     refine AW.seq ?_
     refine AW.block ?_
     refine AW.ops ?_
     obtain ⟨c11, h⟩ := ck_some.1 h
     obtain ⟨c12, h⟩ := ck_some.1 h
     refine zS 5 [(1, .sl (.int .i64) w), (2, .bp 2 0), (8, .int .i64 st1.2), (22, .own 28), (26, .int .i64 (w.getD st1.2.toNat 0))] [(2, .box 24 [.int .i64 l.1, .sl (.pair (.int .i64) (.int .i64)) l.2]), (28, .arr 3 (.int .i64) st1.1)] ?_
     obtain ⟨c13, h⟩ := ck_some.1 h
     refine zA [(1, .sl (.int .i64) w), (2, .bp 2 0), (7, .own 28), (8, .int .i64 st1.2)] [(2, .box 24 [.int .i64 l.1, .sl (.pair (.int .i64) (.int .i64)) l.2]), (28, .arr 3 (.int .i64) (st1.1 ++ [(w.getD st1.2.toNat 0)]))] ?_
     refine ablock_n ?_
     refine athen_n ?_
     refine AW.ops ?_
     obtain ⟨c14, h⟩ := ck_some.1 h
     refine zA [(1, .sl (.int .i64) w), (2, .bp 2 0), (7, .own 28), (8, .int .i64 (st1.2 - 1))] [(2, .box 24 [.int .i64 l.1, .sl (.pair (.int .i64) (.int .i64)) l.2]), (28, .arr 3 (.int .i64) (st1.1 ++ [(w.getD st1.2.toNat 0)]))] ?_
     obtain rfl := Option.some.inj h
     exact ⟨_, rfl, zL [] [] []⟩
    ·refine AW.exit ?_
     refine athen_e ?_
     obtain rfl := Option.some.inj h
     rw [← hd7 _ rfl] at ho6
     have h := ho6
     refine athen_e ?_
     refine ablock_s ?_
     refine athen_n ?_
     exact AW.weaken (zL [] [] []) (hk_linealref03_Turned_k1 _ h)

end Go.Proofs.Ytabchabbdnhjpaa
