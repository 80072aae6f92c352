/-
  Made by wip/tool/dc.py out of the print of the program: contracts.
-/
import Derived.Test.YtabchabbdnhjpaaVp
import Derived.Test.YtabchabbdnhjpaaSh6
import Derived.Test.YtabchabbdnhjpaaAvd
import Derived.Test.YtabchabbdnhjpaaVuc1
import Derived.Test.YtabchabbdnhjpaaVuc2
import Derived.Test.YtabchabbdnhjpaaVuc4
import Derived.Test.YtabchabbdnhjpaaVuc5
namespace Go.Proofs.Ytabchabbdnhjpaa
open Go.RowKit

set_option linter.unusedSimpArgs false
set_option linter.unusedVariables false
set_option linter.constructorNameAsVariable false

set_option maxRecDepth 100000
set_option maxHeartbeats 2000000

theorem hc_weave_ties_path (t : (El T53)) (from0 : List Int) (to0 : List Int) {r : (List Int) × Bool} (h : weave_ties_path t from0 to0 = some r) : HC Try.prog 50 [] [.agg (cellsX T53 t), .sl (.int .i64) from0, .sl (.int .i64) to0] [(2000, .arr 3 (.int .i64) r.1)] (.tup [.own 2000, .bool r.2]) := by
 unfold weave_ties_path at h
 refine zH Try.func50 [.tmp 6, .tmp 7] 55 ?_
 refine zo ?_
 refine zB [(1, .sl (.int .i64) from0), (2, .sl (.int .i64) to0), (3, .bp 3 0)] [(3, .box 53 (cellsX T53 t))] ?_
 refine AW.seq ?_
 refine zo ?_
 refine zB [(1, .sl (.int .i64) from0), (2, .sl (.int .i64) to0), (3, .bp 3 0), (18, .bool (!(decide ((from0.length : Int) = (to0.length : Int)))))] [(3, .box 53 (cellsX T53 t))] ?_
 refine zQ h (fun hb1 h => ?_) (fun hb1 h => ?_)
 ·refine zo ?_
  refine zB [(6, .cv (.slice none 0 0)), (7, .bool false)] [] ?_
  refine zr ?_
  obtain rfl := Option.some.inj h
  exact zR [] [2000] []
 ·refine zk ?_
  refine zo ?_
  refine zS 1 [(2, .sl (.int .i64) to0), (3, .bp 3 0), (19, .sl (.int .i64) from0)] [(3, .box 53 (cellsX T53 t))] ?_
  obtain ⟨v0, hv2, h⟩ := Option.bind_eq_some_iff.1 h
  refine zC [] [] (hc_slices_Clone from0 hv2) [(2, .sl (.int .i64) to0), (3, .bp 3 0), (20, .own 30000)] [(3, .box 53 (cellsX T53 t)), (30000, .arr 3 (.int .i64) v0)] ?_
  refine zB [(2, .sl (.int .i64) to0), (3, .bp 3 0), (8, .own 30000)] [(3, .box 53 (cellsX T53 t)), (30000, .arr 3 (.int .i64) v0)] ?_
  refine zo ?_
  refine zB [(2, .sl (.int .i64) to0), (3, .bp 3 0), (8, .own 30000), (9, .cv (.slice none 0 0))] [(3, .box 53 (cellsX T53 t)), (30000, .arr 3 (.int .i64) v0)] ?_
  refine AW.have1 (fun b2_2 : (List Int) => weave_ties_path_k1 b2_2 = some r) (fun b2_2 => ⟨fr [(9, .own 52)], hpGet [(52, .arr 3 (.int .i64) b2_2)], gt⟩) (fun b2_2 h => ?_) (fun hk_weave_ties_path_k1 => ?_)
  ·as_aux_lemma =>
    unfold weave_ties_path_k1 at h
    refine zo ?_
    refine zB [(6, .own 52), (7, .bool true)] [(52, .arr 3 (.int .i64) b2_2)] ?_
    refine AW.ret ?_
    obtain rfl := Option.some.inj h
    exact zR [] [] [(2000, 52)]
  ·refine AW.seq ?_
   refine zo ?_
   refine zB [(3, .bp 3 0), (8, .own 30000), (9, .cv (.slice none 0 0)), (21, .sl (.int .i64) to0), (22, .int .i64 (to0.length : Int)), (23, .int .i64 0)] [(3, .box 53 (cellsX T53 t)), (30000, .arr 3 (.int .i64) v0)] ?_
   refine AW.block ?_
   obtain ⟨rv7, hw3, ho4⟩ := Option.bind_eq_some_iff.1 h
   refine AW.loopO (weave_ties_path_b1 t to0) (fun st1 => ⟨fr [(3, .bp 3 0), (8, .own 30000), (9, .own 52), (21, .sl (.int .i64) to0), (22, .int .i64 (to0.length : Int)), (23, .int .i64 st1.2.2)], hpGet [(3, .box 53 (cellsX T53 t)), (52, .arr 3 (.int .i64) st1.2.1), (30000, .arr 3 (.int .i64) st1.1)], gt⟩) (v0, [], 0) hw3 (zL [] [52] []) ?_
   as_aux_lemma =>
    intro st1 x6 h hd5
    unfold weave_ties_path_b1 at h
    refine zo ?_
    refine zB [(3, .bp 3 0), (8, .own 30000), (9, .own 52), (21, .sl (.int .i64) to0), (22, .int .i64 (to0.length : Int)), (23, .int .i64 st1.2.2), (24, .bool (decide (st1.2.2 < (to0.length : Int))))] [(3, .box 53 (cellsX T53 t)), (52, .arr 3 (.int .i64) st1.2.1), (30000, .arr 3 (.int .i64) st1.1)] ?_
    refine AW.seq ?_
    refine zQ h (fun hb8 h => ?_) (fun hb8 h => ?_)
    ·refine zk ?_
     refine AW.have1 (fun b2 : (List Int) × (List Int) => weave_ties_path_k2 st1 b2 = some x6) (fun b2 => ⟨fr [(3, .bp 3 0), (8, .own 30000), (9, .own 52), (21, .sl (.int .i64) to0), (22, .int .i64 (to0.length : Int)), (23, .int .i64 st1.2.2)], hpGet [(3, .box 53 (cellsX T53 t)), (52, .arr 3 (.int .i64) b2.2), (30000, .arr 3 (.int .i64) b2.1)], gt⟩) (fun b2 h => ?_) (fun hk_weave_ties_path_k2 => ?_)
     ·as_aux_lemma =>
       unfold weave_ties_path_k2 at h
       refine AW.ops ?_
       obtain ⟨c9, h⟩ := ck_some.1 h
       refine zA [(3, .bp 3 0), (8, .own 30000), (9, .own 52), (21, .sl (.int .i64) to0), (22, .int .i64 (to0.length : Int)), (23, .int .i64 (st1.2.2 + 1))] [(3, .box 53 (cellsX T53 t)), (52, .arr 3 (.int .i64) b2.2), (30000, .arr 3 (.int .i64) b2.1)] ?_
       obtain rfl := Option.some.inj h
       exact ⟨_, rfl, zL [] [] []⟩
     ·refine AW.seq ?_
      refine AW.block ?_
      refine zo ?_
      obtain ⟨c10, h⟩ := ck_some.1 h
      obtain ⟨c11, h⟩ := ck_some.1 h
      refine zB [(3, .bp 3 0), (8, .own 30000), (9, .own 52), (10, .int .i64 st1.2.2), (11, .int .i64 (to0.getD st1.2.2.toNat 0)), (21, .sl (.int .i64) to0), (22, .int .i64 (to0.length : Int)), (23, .int .i64 st1.2.2)] [(3, .box 53 (cellsX T53 t)), (52, .arr 3 (.int .i64) st1.2.1), (30000, .arr 3 (.int .i64) st1.1)] ?_
      refine zo ?_
      refine zS 2 [(3, .bp 3 0), (8, .own 30000), (9, .own 52), (10, .int .i64 st1.2.2), (11, .int .i64 (to0.getD st1.2.2.toNat 0)), (21, .sl (.int .i64) to0), (22, .int .i64 (to0.length : Int)), (23, .int .i64 st1.2.2), (28, .own 30000), (29, .int .i64 st1.2.2)] [(3, .box 53 (cellsX T53 t)), (52, .arr 3 (.int .i64) st1.2.1), (30000, .arr 3 (.int .i64) st1.1)] ?_
      obtain ⟨c12, h⟩ := ck_some.1 h
      obtain ⟨c13, h⟩ := ck_some.1 h
      refine AO.sliceView tab_ok (by decide) rfl rfl tab_25 rfl tab_3 rfl rfl rfl (st1.2.2) ((st1.1.length : Int)) (by first | assumption | omega | (simp only [go_sem, hb1, hb8]) <;> (with_reducible and_intros) <;> first | assumption | rfl | omega | (unfold maxLen; omega)) (by first | assumption | omega | (simp only [go_sem, hb1, hb8]) <;> (with_reducible and_intros) <;> first | assumption | rfl | omega | (unfold maxLen; omega)) (by first | assumption | omega | (simp only [go_sem, hb1, hb8]) <;> (with_reducible and_intros) <;> first | assumption | rfl | omega | (unfold maxLen; omega)) (.inr ⟨_, _, rfl, rfl⟩) (.inl ⟨rfl, rfl⟩) ?_
      refine zT [(3, .bp 3 0), (8, .own 30000), (9, .own 52), (10, .int .i64 st1.2.2), (11, .int .i64 (to0.getD st1.2.2.toNat 0)), (21, .sl (.int .i64) to0), (22, .int .i64 (to0.length : Int)), (23, .int .i64 st1.2.2), (30, .vw 30000 1 st1.2.2.toNat ((st1.1.length : Int) - st1.2.2).toNat)] [(3, .box 53 (cellsX T53 t)), (52, .arr 3 (.int .i64) st1.2.1), (30000, .arr 3 (.int .i64) st1.1)] gt ?_
      refine zS 1 [(3, .bp 3 0), (8, .own 30000), (9, .own 52), (10, .int .i64 st1.2.2), (21, .sl (.int .i64) to0), (22, .int .i64 (to0.length : Int)), (23, .int .i64 st1.2.2), (30, .vw 30000 1 st1.2.2.toNat ((st1.1.length : Int) - st1.2.2).toNat), (31, .int .i64 (to0.getD st1.2.2.toNat 0))] [(3, .box 53 (cellsX T53 t)), (52, .arr 3 (.int .i64) st1.2.1), (30000, .arr 3 (.int .i64) st1.1)] ?_
      obtain ⟨v0_2, hv14, h⟩ := Option.bind_eq_some_iff.1 h
      refine zC [30000] [] (hc_slices_Index ((st1.1.drop st1.2.2.toNat).take ((st1.1.length : Int) - st1.2.2).toNat) (to0.getD st1.2.2.toNat 0) hv14) [(3, .bp 3 0), (8, .own 30000), (9, .own 52), (10, .int .i64 st1.2.2), (21, .sl (.int .i64) to0), (22, .int .i64 (to0.length : Int)), (23, .int .i64 st1.2.2), (32, .int .i64 v0_2)] [(3, .box 53 (cellsX T53 t)), (52, .arr 3 (.int .i64) st1.2.1), (30000, .arr 3 (.int .i64) st1.1)] ?_
      refine zB [(3, .bp 3 0), (8, .own 30000), (9, .own 52), (10, .int .i64 st1.2.2), (12, .int .i64 v0_2), (21, .sl (.int .i64) to0), (22, .int .i64 (to0.length : Int)), (23, .int .i64 st1.2.2)] [(3, .box 53 (cellsX T53 t)), (52, .arr 3 (.int .i64) st1.2.1), (30000, .arr 3 (.int .i64) st1.1)] ?_
      refine AW.seq ?_
      refine zo ?_
      refine zB [(3, .bp 3 0), (8, .own 30000), (9, .own 52), (10, .int .i64 st1.2.2), (12, .int .i64 v0_2), (21, .sl (.int .i64) to0), (22, .int .i64 (to0.length : Int)), (23, .int .i64 st1.2.2), (34, .bool (decide (v0_2 < 0)))] [(3, .box 53 (cellsX T53 t)), (52, .arr 3 (.int .i64) st1.2.1), (30000, .arr 3 (.int .i64) st1.1)] ?_
      refine zQ h (fun hb15 h => ?_) (fun hb15 h => ?_)
      ·refine zo ?_
       refine zB [(6, .cv (.slice none 0 0)), (7, .bool false)] [] ?_
       refine zr ?_
       refine ablock_r ?_
       refine athen_r ?_
       obtain rfl := Option.some.inj h
       rw [← hd5 _ rfl] at ho4
       have h := ho4
       try simp only at h
       refine athen_r ?_
       refine ablock_r ?_
       refine athen_r ?_
       obtain rfl := Option.some.inj h
       exact zR [] [2000] []
      ·refine zk ?_
       refine zo ?_
       obtain ⟨c16, h⟩ := ck_some.1 h
       obtain ⟨c17, h⟩ := ck_some.1 h
       refine zB [(3, .bp 3 0), (8, .own 30000), (9, .own 52), (10, .int .i64 st1.2.2), (13, .int .i64 ((st1.2.2 + v0_2) - 1)), (21, .sl (.int .i64) to0), (22, .int .i64 (to0.length : Int)), (23, .int .i64 st1.2.2)] [(3, .box 53 (cellsX T53 t)), (52, .arr 3 (.int .i64) st1.2.1), (30000, .arr 3 (.int .i64) st1.1)] ?_
       refine AW.block ?_
       obtain ⟨rv22, hw18, ho19⟩ := Option.bind_eq_some_iff.1 h
       refine AW.loopO (weave_ties_path_b2 t st1) (fun st2 => ⟨fr [(3, .bp 3 0), (8, .own 30000), (9, .own 52), (10, .int .i64 st1.2.2), (13, .int .i64 st2.2.2), (21, .sl (.int .i64) to0), (22, .int .i64 (to0.length : Int)), (23, .int .i64 st1.2.2)], hpGet [(3, .box 53 (cellsX T53 t)), (52, .arr 3 (.int .i64) st2.2.1), (30000, .arr 3 (.int .i64) st2.1)], gt⟩) (st1.1, st1.2.1, ((st1.2.2 + v0_2) - 1)) hw18 (zL [] [] []) ?_
       as_aux_lemma =>
        intro st2 x21 h hd20
        unfold weave_ties_path_b2 at h
        refine AW.seq ?_
        refine zo ?_
        refine zB [(3, .bp 3 0), (8, .own 30000), (9, .own 52), (10, .int .i64 st1.2.2), (13, .int .i64 st2.2.2), (21, .sl (.int .i64) to0), (22, .int .i64 (to0.length : Int)), (23, .int .i64 st1.2.2), (41, .bool (decide (st1.2.2 ≤ st2.2.2)))] [(3, .box 53 (cellsX T53 t)), (52, .arr 3 (.int .i64) st2.2.1), (30000, .arr 3 (.int .i64) st2.1)] ?_
        refine zQ h (fun hb23 h => ?_) (fun hb23 h => ?_)
        ·refine zk ?_
         refine AW.seq ?_
         refine AW.block ?_
         refine AW.seq ?_
         refine zo ?_
         refine zS 3 [(3, .bp 3 0), (8, .own 30000), (9, .own 52), (10, .int .i64 st1.2.2), (13, .int .i64 st2.2.2), (21, .sl (.int .i64) to0), (22, .int .i64 (to0.length : Int)), (23, .int .i64 st1.2.2), (44, .agg (cellsX T53 t)), (45, .own 30000), (46, .int .i64 st2.2.2)] [(3, .box 53 (cellsX T53 t)), (52, .arr 3 (.int .i64) st2.2.1), (30000, .arr 3 (.int .i64) st2.1)] ?_
         obtain ⟨v0_3, hv24, h⟩ := Option.bind_eq_some_iff.1 h
         refine zC [] [(1000, 30000)] (hc_weave_ties_exchange t st2.2.2 st2.1 hv24) [(3, .bp 3 0), (8, .own 30000), (9, .own 52), (10, .int .i64 st1.2.2), (13, .int .i64 st2.2.2), (21, .sl (.int .i64) to0), (22, .int .i64 (to0.length : Int)), (23, .int .i64 st1.2.2), (47, .bool v0_3.1)] [(3, .box 53 (cellsX T53 t)), (52, .arr 3 (.int .i64) st2.2.1), (30000, .arr 3 (.int .i64) v0_3.2)] ?_
         refine zB [(3, .bp 3 0), (8, .own 30000), (9, .own 52), (10, .int .i64 st1.2.2), (13, .int .i64 st2.2.2), (21, .sl (.int .i64) to0), (22, .int .i64 (to0.length : Int)), (23, .int .i64 st1.2.2), (48, .bool (!v0_3.1))] [(3, .box 53 (cellsX T53 t)), (52, .arr 3 (.int .i64) st2.2.1), (30000, .arr 3 (.int .i64) v0_3.2)] ?_
         refine zQ h (fun hb25 h => ?_) (fun hb25 h => ?_)
         ·refine zo ?_
          refine zB [(6, .cv (.slice none 0 0)), (7, .bool false)] [] ?_
          refine zr ?_
          refine ablock_r ?_
          refine athen_r ?_
          obtain rfl := Option.some.inj h
          rw [← hd20 _ rfl] at ho19
          have h := ho19
          try simp only at h
          refine athen_r ?_
          refine ablock_r ?_
          refine ablock_r ?_
          refine athen_r ?_
          obtain rfl := Option.some.inj h
          rw [← hd5 _ rfl] at ho4
          have h := ho4
          try simp only at h
          refine athen_r ?_
          refine ablock_r ?_
          refine athen_r ?_
          obtain rfl := Option.some.inj h
          exact zR [] [2000] []
         ·refine zk ?_
          refine AW.ops ?_
          obtain ⟨c26, h⟩ := ck_some.1 h
          refine zA [(3, .bp 3 0), (8, .own 30000), (9, .own 52), (10, .int .i64 st1.2.2), (13, .int .i64 st2.2.2), (21, .sl (.int .i64) to0), (22, .int .i64 (to0.length : Int)), (23, .int .i64 st1.2.2)] [(3, .box 53 (cellsX T53 t)), (52, .arr 3 (.int .i64) (st2.2.1 ++ [st2.2.2])), (30000, .arr 3 (.int .i64) v0_3.2)] ?_
          refine ablock_n ?_
          refine athen_n ?_
          refine AW.ops ?_
          obtain ⟨c27, h⟩ := ck_some.1 h
          refine zA [(3, .bp 3 0), (8, .own 30000), (9, .own 52), (10, .int .i64 st1.2.2), (13, .int .i64 (st2.2.2 - 1)), (21, .sl (.int .i64) to0), (22, .int .i64 (to0.length : Int)), (23, .int .i64 st1.2.2)] [(3, .box 53 (cellsX T53 t)), (52, .arr 3 (.int .i64) (st2.2.1 ++ [st2.2.2])), (30000, .arr 3 (.int .i64) v0_3.2)] ?_
          obtain rfl := Option.some.inj h
          exact ⟨_, rfl, zL [] [] []⟩
        ·refine AW.exit ?_
         refine athen_e ?_
         obtain rfl := Option.some.inj h
         rw [← hd20 _ rfl] at ho19
         have h := ho19
         try simp only at h
         refine athen_e ?_
         refine ablock_s ?_
         refine ablock_n ?_
         refine athen_n ?_
         exact AW.weaken (zL [] [] []) (hk_weave_ties_path_k2 _ h)
    ·refine AW.exit ?_
     refine athen_e ?_
     obtain rfl := Option.some.inj h
     rw [← hd5 _ rfl] at ho4
     have h := ho4
     try simp only at h
     refine athen_e ?_
     refine ablock_s ?_
     refine athen_n ?_
     exact AW.weaken (zL [] [] []) (hk_weave_ties_path_k1 _ h)

theorem hc_weave_Path (l : Int × (List (Int × Int))) (w : List Int) (v0 : List Int) {r : (List Int) × Int} (h : weave_Path l w v0 = some r) : HC Try.prog 28 [] [.agg [.int .i64 l.1, .sl (.pair (.int .i64) (.int .i64)) l.2], .sl (.int .i64) w, .sl (.int .i64) v0] [(2000, .arr 3 (.int .i64) r.1)] (.tup [.own 2000, .int .i64 r.2]) := by
 unfold weave_Path at h
 refine zH Try.func28 [.tmp 6, .tmp 7] 33 ?_
 refine zo ?_
 refine zB [(1, .sl (.int .i64) w), (2, .sl (.int .i64) v0), (3, .bp 3 0)] [(3, .box 24 [.int .i64 l.1, .sl (.pair (.int .i64) (.int .i64)) l.2])] ?_
 refine zo ?_
 refine zS 4 [(1, .sl (.int .i64) w), (2, .sl (.int .i64) v0), (13, .agg [.int .i64 l.1, .sl (.pair (.int .i64) (.int .i64)) l.2]), (16, .own 16)] [(16, .arr 25 (.sl (.int .i64)) [w, v0])] ?_
 obtain ⟨v0_2, hv1, h⟩ := Option.bind_eq_some_iff.1 h
 refine zC [16] [] (hc_weave_checked l [w, v0] hv1) [(1, .sl (.int .i64) w), (2, .sl (.int .i64) v0), (17, .tup [.agg (cellsX T53 v0_2.1), .int .i64 v0_2.2])] [] ?_
 refine zS 5 [(1, .sl (.int .i64) w), (2, .sl (.int .i64) v0), (8, .bp 8 0), (19, .int .i64 v0_2.2)] [(8, .box 53 (cellsX T53 v0_2.1))] ?_
 refine zB [(1, .sl (.int .i64) w), (2, .sl (.int .i64) v0), (8, .bp 8 0), (9, .int .i64 v0_2.2)] [(8, .box 53 (cellsX T53 v0_2.1))] ?_
 refine AW.seq ?_
 refine zo ?_
 refine zB [(1, .sl (.int .i64) w), (2, .sl (.int .i64) v0), (8, .bp 8 0), (9, .int .i64 v0_2.2), (21, .bool (!(decide (v0_2.2 = 0))))] [(8, .box 53 (cellsX T53 v0_2.1))] ?_
 refine zQ h (fun hb2 h => ?_) (fun hb2 h => ?_)
 ·refine zo ?_
  refine zB [(6, .cv (.slice none 0 0)), (7, .int .i64 v0_2.2)] [] ?_
  refine zr ?_
  obtain rfl := Option.some.inj h
  exact zR [] [2000] []
 ·refine zk ?_
  refine zo ?_
  refine zS 3 [(24, .agg (cellsX T53 v0_2.1)), (25, .sl (.int .i64) w), (26, .sl (.int .i64) v0)] [] ?_
  obtain ⟨v0_3, hv3, h⟩ := Option.bind_eq_some_iff.1 h
  refine zC [] [] (hc_weave_ties_path v0_2.1 w v0 hv3) [(27, .tup [.own 37000, .bool v0_3.2])] [(37000, .arr 3 (.int .i64) v0_3.1)] ?_
  refine zB [(10, .own 37000), (11, .bool v0_3.2)] [(37000, .arr 3 (.int .i64) v0_3.1)] ?_
  refine AW.seq ?_
  refine zo ?_
  refine zB [(10, .own 37000), (31, .bool (!v0_3.2))] [(37000, .arr 3 (.int .i64) v0_3.1)] ?_
  refine zQ h (fun hb4 h => ?_) (fun hb4 h => ?_)
  ·refine zo ?_
   refine zB [(6, .cv (.slice none 0 0)), (7, .int .i64 5)] [] ?_
   refine zr ?_
   obtain rfl := Option.some.inj h
   exact zR [] [2000] []
  ·refine zk ?_
   refine zo ?_
   refine zB [(6, .own 37000), (7, .int .i64 0)] [(37000, .arr 3 (.int .i64) v0_3.1)] ?_
   refine AW.ret ?_
   obtain rfl := Option.some.inj h
   exact zR [] [] [(2000, 37000)]

theorem hc_weave_Class (l : Int × (List (Int × Int))) (w : List Int) (most : Int) {r : (List (List Int)) × Int} (h : weave_Class l w most = some r) : HC Try.prog 29 [] [.agg [.int .i64 l.1, .sl (.pair (.int .i64) (.int .i64)) l.2], .sl (.int .i64) w, .int .i64 most] [(2000, .arr 25 (.sl (.int .i64)) r.1)] (.tup [.own 2000, .int .i64 r.2]) := by
 unfold weave_Class at h
 refine zH Try.func29 [.tmp 6, .tmp 7] 41 ?_
 refine zo ?_
 refine zB [(1, .sl (.int .i64) w), (3, .bp 3 0), (5, .bp 5 0)] [(3, .box 24 [.int .i64 l.1, .sl (.pair (.int .i64) (.int .i64)) l.2]), (5, .box 3 [.int .i64 most])] ?_
 refine zo ?_
 refine zS 3 [(1, .sl (.int .i64) w), (5, .bp 5 0), (13, .agg [.int .i64 l.1, .sl (.pair (.int .i64) (.int .i64)) l.2]), (15, .own 15)] [(5, .box 3 [.int .i64 most]), (15, .arr 25 (.sl (.int .i64)) [w])] ?_
 obtain ⟨v0, hv1, h⟩ := Option.bind_eq_some_iff.1 h
 refine zC [15] [] (hc_weave_checked l [w] hv1) [(1, .sl (.int .i64) w), (5, .bp 5 0), (16, .tup [.agg (cellsX T53 v0.1), .int .i64 v0.2])] [(5, .box 3 [.int .i64 most])] ?_
 refine zS 5 [(1, .sl (.int .i64) w), (5, .bp 5 0), (8, .bp 8 0), (18, .int .i64 v0.2)] [(5, .box 3 [.int .i64 most]), (8, .box 53 (cellsX T53 v0.1))] ?_
 refine zB [(1, .sl (.int .i64) w), (5, .bp 5 0), (8, .bp 8 0), (9, .int .i64 v0.2)] [(5, .box 3 [.int .i64 most]), (8, .box 53 (cellsX T53 v0.1))] ?_
 refine AW.seq ?_
 refine zo ?_
 refine zB [(1, .sl (.int .i64) w), (5, .bp 5 0), (8, .bp 8 0), (9, .int .i64 v0.2), (20, .bool (!(decide (v0.2 = 0))))] [(5, .box 3 [.int .i64 most]), (8, .box 53 (cellsX T53 v0.1))] ?_
 refine zQ h (fun hb2 h => ?_) (fun hb2 h => ?_)
 ·refine zo ?_
  refine zB [(6, .cv (.slice none 0 0)), (7, .int .i64 v0.2)] [] ?_
  refine zr ?_
  obtain rfl := Option.some.inj h
  exact zR [] [2000] []
 ·refine zk ?_
  refine AW.seq ?_
  refine zo ?_
  refine zS 3 [(1, .sl (.int .i64) w), (5, .bp 5 0), (8, .bp 8 0), (24, .bool (decide (most < 0)))] [(5, .box 3 [.int .i64 most]), (8, .box 53 (cellsX T53 v0.1))] ?_
  rcases zI h with ⟨hb3, h⟩ | ⟨hb3, h⟩
  ·refine zB [(1, .sl (.int .i64) w), (5, .bp 5 0), (8, .bp 8 0), (27, .bool true)] [(5, .box 3 [.int .i64 most]), (8, .box 53 (cellsX T53 v0.1))] ?_
   refine AW.cond (b := true) rfl (fun _ => ?_) (fun hb4 => by cases hb4)
   refine zo ?_
   refine zB [(6, .cv (.slice none 0 0)), (7, .int .i64 2)] [] ?_
   refine zr ?_
   obtain rfl := Option.some.inj h
   exact zR [] [2000] []
  ·refine zB [(1, .sl (.int .i64) w), (5, .bp 5 0), (8, .bp 8 0), (27, .bool (decide (1000 < most)))] [(5, .box 3 [.int .i64 most]), (8, .box 53 (cellsX T53 v0.1))] ?_
   refine zQ h (fun hb5 h => ?_) (fun hb5 h => ?_)
   ·refine zo ?_
    refine zB [(6, .cv (.slice none 0 0)), (7, .int .i64 2)] [] ?_
    refine zr ?_
    obtain rfl := Option.some.inj h
    exact zR [] [2000] []
   ·refine zk ?_
    refine zo ?_
    refine zB [(1, .sl (.int .i64) w), (5, .bp 5 0), (8, .bp 8 0), (10, .bp 10 0)] [(5, .box 3 [.int .i64 most]), (8, .box 53 (cellsX T53 v0.1)), (10, .box 28 [.cv (.slice none 0 0)])] ?_
    refine AW.have1 (fun b1 : (List (List Int)) => weave_Class_k1 b1 = some r) (fun b1 => ⟨fr [(10, .bp 10 0)], hpGet [(10, .box 28 [.own 39]), (39, .arr 25 (.sl (.int .i64)) b1)], gt⟩) (fun b1 h => ?_) (fun hk_weave_Class_k1 => ?_)
    ·as_aux_lemma =>
      unfold weave_Class_k1 at h
      refine zo ?_
      refine zB [(6, .own 39), (7, .int .i64 0)] [(39, .arr 25 (.sl (.int .i64)) b1)] ?_
      refine AW.ret ?_
      obtain rfl := Option.some.inj h
      exact zR [] [] [(2000, 39)]
    ·refine AW.seq ?_
     refine zo ?_
     refine zS 2 [(5, .bp 5 0), (10, .bp 10 0), (28, .agg (cellsX T53 v0.1)), (29, .sl (.int .i64) w)] [(5, .box 3 [.int .i64 most]), (10, .box 28 [.cv (.slice none 0 0)])] ?_
     obtain ⟨v0_2, hv6, h⟩ := Option.bind_eq_some_iff.1 h
     refine zC [] [] (hc_weave_ties_class v0.1 w hv6) [(5, .bp 5 0), (10, .bp 10 0), (30, .fn (.func 67) [] [.bp 40000 0, .bp 40001 0])] [(5, .box 3 [.int .i64 most]), (10, .box 28 [.cv (.slice none 0 0)]), (40000, .box 25 [.sl (.int .i64) w]), (40001, .box 53 (cellsX T53 v0.1))] ?_
     refine zB [(5, .bp 5 0), (10, .bp 10 0), (30, .fn (.func 67) [] [.bp 40000 0, .bp 40001 0])] [(5, .box 3 [.int .i64 most]), (10, .box 28 [.cv (.slice none 0 0)]), (40000, .box 25 [.sl (.int .i64) w]), (40001, .box 53 (cellsX T53 v0.1))] ?_
     refine AW.block ?_
     obtain ⟨x7, hx8, h⟩ := Option.bind_eq_some_iff.1 h
     refine AW.weaken (s' := ⟨fr [(5, .bp 5 0), (10, .bp 10 0), (30, .fn (.func 67) [] [.bp 40000 0, .bp 40001 0])], hpGet ([(40000, .box 25 [.sl (.int .i64) w]), (40001, .box 53 (cellsX T53 v0.1))] ++ [(5, .box 3 [.int .i64 most]), (10, .box 28 [.own 39]), (39, .arr 25 (.sl (.int .i64)) [])]), gt⟩) (zL [] [39] []) ?_
     refine AW.rangeF (R := (List (List Int))) (l0 := [(5, .bp 5 0), (10, .bp 10 0)]) (hI := [(40000, .box 25 [.sl (.int .i64) w]), (40001, .box 53 (cellsX T53 v0.1))]) (h0 := fun (st1 : (List (List Int))) => [(5, .box 3 [.int .i64 most]), (10, .box 28 [.own 39]), (39, .arr 25 (.sl (.int .i64)) st1)]) (gg := fun (st1 : (List (List Int))) => gt) (hx0 := (fun (r1 : (List (List Int))) => [(5, .box 3 [.int .i64 most]), (10, .box 28 [.own 39]), (39, .arr 25 (.sl (.int .i64)) r1)])) (gx := (fun (r1 : (List (List Int))) => gt)) (ex := (fun (r1 : (List (List Int))) => Exit.exit 0)) [] [(40000, 1000), (40001, 1001)] [(1000, 40000), (1001, 40001)] [(5, 1900), (10, 1901)] [(1900, 5), (1901, 10)] (by decide) rfl (by first | exact (ic_weave_ties_class_1 fuel w v0.1 (weave_Class_y1 most) [] hx8) | simpa only [go_sem] using (ic_weave_ties_class_1 fuel w v0.1 (weave_Class_y1 most) [] hx8)) (by (simp only [go_sem, hb2, hb3, hb5]) <;> (with_reducible and_intros) <;> first | assumption | rfl | omega | (unfold maxLen; omega)) rfl rfl rfl (fun _ => rfl) rfl (fun _ => rfl) rfl (fun _ => rfl) (fun _ => rfl) (fun _ => rfl) (fun _ => rfl) rfl (fun _ _ => by first | rfl | (exact (hΓ _).trans (hΓ _).symm) | (exact (hΓx _).trans (hΓ _).symm)) (fun _ _ => by first | rfl | (exact (hΓ _).trans (hΓ _).symm) | (exact (hΓx _).trans (hΓ _).symm)) ?_ ?_
     ·intro lpy1 y1 st1 x9 h
      unfold weave_Class_y1 at h
      refine zV [(5, .bp 1900 0), (10, .bp 1901 0), (31, .sl (.int .i64) y1)] [(39, .arr 25 (.sl (.int .i64)) st1), (1900, .box 3 [.int .i64 most]), (1901, .box 28 [.own 39])] gt ?_
      refine AW.ops ?_
      refine zA [(5, .bp 1900 0), (10, .bp 1901 0), (11, .sl (.int .i64) y1)] [(39, .arr 25 (.sl (.int .i64)) st1), (1900, .box 3 [.int .i64 most]), (1901, .box 28 [.own 39])] ?_
      refine And.intro rfl ?_
      refine AW.block ?_
      refine AW.seq ?_
      refine zo ?_
      refine zB [(5, .bp 1900 0), (10, .bp 1901 0), (11, .sl (.int .i64) y1), (35, .bool (decide ((st1.length : Int) = most)))] [(39, .arr 25 (.sl (.int .i64)) st1), (1900, .box 3 [.int .i64 most]), (1901, .box 28 [.own 39])] ?_
      refine zQ h (fun hb10 h => ?_) (fun hb10 h => ?_)
      ·refine AW.exit ?_
       refine athen_e ?_
       refine ablock_o (by decide) ?_
       obtain rfl := Option.some.inj h
       exact rpost_exit rfl rfl [] [] [] rfl (by (simp only [go_sem, hb2, hb3, hb5, hb10]) <;> (with_reducible and_intros) <;> first | assumption | rfl | omega | (unfold maxLen; omega))
      ·refine zk ?_
       refine AW.ops ?_
       obtain ⟨c11, h⟩ := ck_some.1 h
       refine zA [(5, .bp 1900 0), (10, .bp 1901 0)] [(39, .arr 25 (.sl (.int .i64)) (st1 ++ [y1])), (1900, .box 3 [.int .i64 most]), (1901, .box 28 [.own 39])] ?_
       refine ablock_n ?_
       obtain rfl := Option.some.inj h
       exact rpost_next rfl [] [] [] rfl (by (simp only [go_sem, hb2, hb3, hb5, hb10]) <;> (with_reducible and_intros) <;> first | assumption | rfl | omega | (unfold maxLen; omega))
     ·cases x7 with
      | inl st1_2 =>
       try simp only at h
       refine ablock_n ?_
       refine athen_n ?_
       exact AW.weaken (zL [] [] []) (hk_weave_Class_k1 _ h)
      | inr r1 =>
       try simp only at h
       refine ablock_s ?_
       refine athen_n ?_
       exact AW.weaken (zL [] [] []) (hk_weave_Class_k1 _ h)

theorem hc_weave_IsPath (l : Int × (List (Int × Int))) (w : List Int) (v0 : List Int) (path : List Int) {r : Bool × Int} (h : weave_IsPath l w v0 path = some r) : HC Try.prog 30 [] [.agg [.int .i64 l.1, .sl (.pair (.int .i64) (.int .i64)) l.2], .sl (.int .i64) w, .sl (.int .i64) v0, .sl (.int .i64) path] [] (.tup [.bool r.1, .int .i64 r.2]) := by
 unfold weave_IsPath at h
 refine zH Try.func30 [.tmp 8, .tmp 9] 46 ?_
 refine zo ?_
 refine zB [(1, .sl (.int .i64) w), (2, .sl (.int .i64) v0), (3, .sl (.int .i64) path), (4, .bp 4 0)] [(4, .box 24 [.int .i64 l.1, .sl (.pair (.int .i64) (.int .i64)) l.2])] ?_
 refine zo ?_
 refine zS 4 [(1, .sl (.int .i64) w), (2, .sl (.int .i64) v0), (3, .sl (.int .i64) path), (16, .agg [.int .i64 l.1, .sl (.pair (.int .i64) (.int .i64)) l.2]), (19, .own 19)] [(19, .arr 25 (.sl (.int .i64)) [w, v0])] ?_
 obtain ⟨v0_2, hv1, h⟩ := Option.bind_eq_some_iff.1 h
 refine zC [19] [] (hc_weave_checked l [w, v0] hv1) [(1, .sl (.int .i64) w), (2, .sl (.int .i64) v0), (3, .sl (.int .i64) path), (20, .tup [.agg (cellsX T53 v0_2.1), .int .i64 v0_2.2])] [] ?_
 refine zS 5 [(1, .sl (.int .i64) w), (2, .sl (.int .i64) v0), (3, .sl (.int .i64) path), (10, .bp 10 0), (22, .int .i64 v0_2.2)] [(10, .box 53 (cellsX T53 v0_2.1))] ?_
 refine zB [(1, .sl (.int .i64) w), (2, .sl (.int .i64) v0), (3, .sl (.int .i64) path), (10, .bp 10 0), (11, .int .i64 v0_2.2)] [(10, .box 53 (cellsX T53 v0_2.1))] ?_
 refine AW.seq ?_
 refine zo ?_
 refine zB [(1, .sl (.int .i64) w), (2, .sl (.int .i64) v0), (3, .sl (.int .i64) path), (10, .bp 10 0), (11, .int .i64 v0_2.2), (24, .bool (!(decide (v0_2.2 = 0))))] [(10, .box 53 (cellsX T53 v0_2.1))] ?_
 refine zQ h (fun hb2 h => ?_) (fun hb2 h => ?_)
 ·refine zo ?_
  refine zB [(8, .bool false), (9, .int .i64 v0_2.2)] [] ?_
  refine zr ?_
  obtain rfl := Option.some.inj h
  exact zR [] [] []
 ·refine zk ?_
  refine AW.seq ?_
  refine zo ?_
  refine zB [(1, .sl (.int .i64) w), (2, .sl (.int .i64) v0), (3, .sl (.int .i64) path), (10, .bp 10 0), (28, .bool (decide (1000 < (path.length : Int))))] [(10, .box 53 (cellsX T53 v0_2.1))] ?_
  refine zQ h (fun hb3 h => ?_) (fun hb3 h => ?_)
  ·refine zo ?_
   refine zB [(8, .bool false), (9, .int .i64 0)] [] ?_
   refine zr ?_
   obtain rfl := Option.some.inj h
   exact zR [] [] []
  ·refine zk ?_
   refine zo ?_
   refine zS 1 [(2, .sl (.int .i64) v0), (3, .sl (.int .i64) path), (10, .bp 10 0), (29, .sl (.int .i64) w)] [(10, .box 53 (cellsX T53 v0_2.1))] ?_
   obtain ⟨v0_3, hv4, h⟩ := Option.bind_eq_some_iff.1 h
   refine zC [] [] (hc_slices_Clone w hv4) [(2, .sl (.int .i64) v0), (3, .sl (.int .i64) path), (10, .bp 10 0), (30, .own 40000)] [(10, .box 53 (cellsX T53 v0_2.1)), (40000, .arr 3 (.int .i64) v0_3)] ?_
   refine zB [(2, .sl (.int .i64) v0), (3, .sl (.int .i64) path), (10, .bp 10 0), (12, .own 40000)] [(10, .box 53 (cellsX T53 v0_2.1)), (40000, .arr 3 (.int .i64) v0_3)] ?_
   refine AW.have1 (fun b1 : (List Int) => weave_IsPath_k1 v0 b1 = some r) (fun b1 => ⟨fr [(2, .sl (.int .i64) v0), (12, .own 40000)], hpGet [(40000, .arr 3 (.int .i64) b1)], gt⟩) (fun b1 h => ?_) (fun hk_weave_IsPath_k1 => ?_)
   ·as_aux_lemma =>
     unfold weave_IsPath_k1 at h
     refine zo ?_
     refine zS 2 [(43, .own 40000), (44, .sl (.int .i64) v0)] [(40000, .arr 3 (.int .i64) b1)] ?_
     obtain ⟨v0_5, hv5, h⟩ := Option.bind_eq_some_iff.1 h
     refine zC [40000] [] (hc_slices_Equal b1 v0 hv5) [(45, .bool v0_5)] [] ?_
     refine zB [(8, .bool v0_5), (9, .int .i64 0)] [] ?_
     refine AW.ret ?_
     obtain rfl := Option.some.inj h
     exact zR [] [] []
   ·refine AW.seq ?_
    refine zo ?_
    refine zB [(2, .sl (.int .i64) v0), (10, .bp 10 0), (12, .own 40000), (31, .sl (.int .i64) path), (32, .int .i64 (path.length : Int)), (33, .int .i64 0)] [(10, .box 53 (cellsX T53 v0_2.1)), (40000, .arr 3 (.int .i64) v0_3)] ?_
    refine AW.block ?_
    obtain ⟨rv10, hw6, ho7⟩ := Option.bind_eq_some_iff.1 h
    refine AW.loopO (weave_IsPath_b1 path v0_2) (fun st1 => ⟨fr [(2, .sl (.int .i64) v0), (10, .bp 10 0), (12, .own 40000), (31, .sl (.int .i64) path), (32, .int .i64 (path.length : Int)), (33, .int .i64 st1.2)], hpGet [(10, .box 53 (cellsX T53 v0_2.1)), (40000, .arr 3 (.int .i64) st1.1)], gt⟩) (v0_3, 0) hw6 (zL [] [] []) ?_
    as_aux_lemma =>
     intro st1 x9 h hd8
     unfold weave_IsPath_b1 at h
     refine zo ?_
     refine zB [(2, .sl (.int .i64) v0), (10, .bp 10 0), (12, .own 40000), (31, .sl (.int .i64) path), (32, .int .i64 (path.length : Int)), (33, .int .i64 st1.2), (34, .bool (decide (st1.2 < (path.length : Int))))] [(10, .box 53 (cellsX T53 v0_2.1)), (40000, .arr 3 (.int .i64) st1.1)] ?_
     refine AW.seq ?_
     refine zQ h (fun hb11 h => ?_) (fun hb11 h => ?_)
     ·refine zk ?_
      refine AW.seq ?_
      refine AW.block ?_
      refine zo ?_
      obtain ⟨c12, h⟩ := ck_some.1 h
      obtain ⟨c13, h⟩ := ck_some.1 h
      refine zB [(2, .sl (.int .i64) v0), (10, .bp 10 0), (12, .own 40000), (14, .int .i64 (path.getD st1.2.toNat 0)), (31, .sl (.int .i64) path), (32, .int .i64 (path.length : Int)), (33, .int .i64 st1.2)] [(10, .box 53 (cellsX T53 v0_2.1)), (40000, .arr 3 (.int .i64) st1.1)] ?_
      refine zo ?_
      refine zS 3 [(2, .sl (.int .i64) v0), (10, .bp 10 0), (12, .own 40000), (31, .sl (.int .i64) path), (32, .int .i64 (path.length : Int)), (33, .int .i64 st1.2), (37, .agg (cellsX T53 v0_2.1)), (38, .own 40000), (39, .int .i64 (path.getD st1.2.toNat 0))] [(10, .box 53 (cellsX T53 v0_2.1)), (40000, .arr 3 (.int .i64) st1.1)] ?_
      obtain ⟨v0_4, hv14, h⟩ := Option.bind_eq_some_iff.1 h
      refine zC [] [(1000, 40000)] (hc_weave_ties_exchange v0_2.1 (path.getD st1.2.toNat 0) st1.1 hv14) [(2, .sl (.int .i64) v0), (10, .bp 10 0), (12, .own 40000), (31, .sl (.int .i64) path), (32, .int .i64 (path.length : Int)), (33, .int .i64 st1.2), (40, .bool v0_4.1)] [(10, .box 53 (cellsX T53 v0_2.1)), (40000, .arr 3 (.int .i64) v0_4.2)] ?_
      refine zB [(2, .sl (.int .i64) v0), (10, .bp 10 0), (12, .own 40000), (31, .sl (.int .i64) path), (32, .int .i64 (path.length : Int)), (33, .int .i64 st1.2), (41, .bool (!v0_4.1))] [(10, .box 53 (cellsX T53 v0_2.1)), (40000, .arr 3 (.int .i64) v0_4.2)] ?_
      refine zQ h (fun hb15 h => ?_) (fun hb15 h => ?_)
      ·refine zo ?_
       refine zB [(8, .bool false), (9, .int .i64 0)] [] ?_
       refine AW.ret ?_
       refine ablock_r ?_
       refine athen_r ?_
       obtain rfl := Option.some.inj h
       rw [← hd8 _ rfl] at ho7
       have h := ho7
       try simp only at h
       refine athen_r ?_
       refine ablock_r ?_
       refine athen_r ?_
       obtain rfl := Option.some.inj h
       exact zR [] [] []
      ·refine zm ?_
       refine athen_n ?_
       refine AW.ops ?_
       obtain ⟨c16, h⟩ := ck_some.1 h
       refine zA [(2, .sl (.int .i64) v0), (10, .bp 10 0), (12, .own 40000), (31, .sl (.int .i64) path), (32, .int .i64 (path.length : Int)), (33, .int .i64 (st1.2 + 1))] [(10, .box 53 (cellsX T53 v0_2.1)), (40000, .arr 3 (.int .i64) v0_4.2)] ?_
       obtain rfl := Option.some.inj h
       exact ⟨_, rfl, zL [] [] []⟩
     ·refine AW.exit ?_
      refine athen_e ?_
      obtain rfl := Option.some.inj h
      rw [← hd8 _ rfl] at ho7
      have h := ho7
      try simp only at h
      refine athen_e ?_
      refine ablock_s ?_
      refine athen_n ?_
      exact AW.weaken (zL [] [] []) (hk_weave_IsPath_k1 _ h)

theorem hc_weave_ties_splitF (slf : ((El T53)) → (List Int) → (List Int) → Option ((List Int) × (List Int) × (List Int))) (hc_slf : ∀ (t : (El T53)) (w : List Int) (v0 : List Int) {r : (List Int) × (List Int) × (List Int)}, slf t w v0 = some r → HC Try.prog 53 [] [.agg (cellsX T53 t), .sl (.int .i64) w, .sl (.int .i64) v0] [(2000, .arr 3 (.int .i64) r.1)] (.tup [.own 2000, .sl (.int .i64) r.2.1, .sl (.int .i64) r.2.2])) (t : (El T53)) (w : List Int) (v0 : List Int) {r : (List Int) × (List Int) × (List Int)} (h : weave_ties_splitF slf t w v0 = some r) : HC Try.prog 53 [] [.agg (cellsX T53 t), .sl (.int .i64) w, .sl (.int .i64) v0] [(2000, .arr 3 (.int .i64) r.1)] (.tup [.own 2000, .sl (.int .i64) r.2.1, .sl (.int .i64) r.2.2]) := by
 unfold weave_ties_splitF at h
 refine zH Try.func53 [.cell 6 25, .cell 7 25, .cell 8 25] 42 ?_
 refine zo ?_
 refine zB [(1, .sl (.int .i64) w), (3, .bp 3 0), (5, .bp 5 0), (6, .bp 6 0), (7, .bp 7 0), (8, .bp 8 0)] [(3, .box 53 (cellsX T53 t)), (5, .box 25 [.sl (.int .i64) v0]), (6, .box 25 [.cv (.slice none 0 0)]), (7, .box 25 [.cv (.slice none 0 0)]), (8, .box 25 [.cv (.slice none 0 0)])] ?_
 refine AW.have1 (fun _ : Unit => weave_ties_split_k1 w v0 = some r) (fun _ => ⟨fr [(1, .sl (.int .i64) w), (5, .bp 5 0), (6, .bp 6 0), (7, .bp 7 0), (8, .bp 8 0)], hpGet [(5, .box 25 [.sl (.int .i64) v0]), (6, .box 25 [.cv (.slice none 0 0)]), (7, .box 25 [.cv (.slice none 0 0)]), (8, .box 25 [.cv (.slice none 0 0)])], gt⟩) (fun _ h => ?_) (fun hk_weave_ties_split_k1 => ?_)
 ·as_aux_lemma =>
   unfold weave_ties_split_k1 at h
   refine AW.seq ?_
   refine AW.draw tab_ok mixed_ok [(2, [6]), (3, [7]), (4, [8])] [(0, []), (1, [5]), (100002, []), (100003, []), (100004, [])] (by decide) (by kernel_rfl) ?_
   as_aux_lemma =>
    refine adops_cut 5 (fun K' hK1 => ?_)
    try dsimp only [List.drop_succ_cons, List.drop_zero, List.take_succ_cons, List.take_zero]
    simp only [go_sem]
    repeat with_reducible refine zN ?_
    refine hK1 _ ?_
    refine adops_nil ?_
    refine athen_n ?_
    refine zV [(6, .bp 6 0), (7, .bp 7 0), (8, .bp 8 0)] [(6, .box 25 [.cv (.slice none 0 0)]), (7, .box 25 [.sl (.int .i64) w]), (8, .box 25 [.sl (.int .i64) v0])] gt ?_
    as_aux_lemma =>
     refine AW.ret ?_
     obtain rfl := Option.some.inj h
     exact zR [] [2000] []
 ·refine AW.seq ?_
  refine zo ?_
  refine zS 2 [(1, .sl (.int .i64) w), (3, .bp 3 0), (5, .bp 5 0), (6, .bp 6 0), (7, .bp 7 0), (8, .bp 8 0), (13, .agg (cellsX T53 t)), (14, .sl (.int .i64) w)] [(3, .box 53 (cellsX T53 t)), (5, .box 25 [.sl (.int .i64) v0]), (6, .box 25 [.cv (.slice none 0 0)]), (7, .box 25 [.cv (.slice none 0 0)]), (8, .box 25 [.cv (.slice none 0 0)])] ?_
  obtain ⟨v0_2, hv2, h⟩ := Option.bind_eq_some_iff.1 h
  refine zC [] [] (hc_weave_ties_starts t w hv2) [(1, .sl (.int .i64) w), (3, .bp 3 0), (5, .bp 5 0), (6, .bp 6 0), (7, .bp 7 0), (8, .bp 8 0), (15, .fn (.func 62) [] [.bp 25000 0, .bp 25001 0])] [(3, .box 53 (cellsX T53 t)), (5, .box 25 [.sl (.int .i64) v0]), (6, .box 25 [.cv (.slice none 0 0)]), (7, .box 25 [.cv (.slice none 0 0)]), (8, .box 25 [.cv (.slice none 0 0)]), (25000, .box 53 (cellsX T53 t)), (25001, .box 25 [.sl (.int .i64) w])] ?_
  refine zB [(1, .sl (.int .i64) w), (3, .bp 3 0), (5, .bp 5 0), (6, .bp 6 0), (7, .bp 7 0), (8, .bp 8 0), (15, .fn (.func 62) [] [.bp 25000 0, .bp 25001 0])] [(3, .box 53 (cellsX T53 t)), (5, .box 25 [.sl (.int .i64) v0]), (6, .box 25 [.cv (.slice none 0 0)]), (7, .box 25 [.cv (.slice none 0 0)]), (8, .box 25 [.cv (.slice none 0 0)]), (25000, .box 53 (cellsX T53 t)), (25001, .box 25 [.sl (.int .i64) w])] ?_
  refine AW.block ?_
  obtain ⟨x3, hx4, h⟩ := Option.bind_eq_some_iff.1 h
  refine AW.weaken (s' := ⟨fr [(1, .sl (.int .i64) w), (3, .bp 3 0), (5, .bp 5 0), (6, .bp 6 0), (7, .bp 7 0), (8, .bp 8 0), (15, .fn (.func 62) [] [.bp 25000 0, .bp 25001 0])], hpGet ([(25000, .box 53 (cellsX T53 t)), (25001, .box 25 [.sl (.int .i64) w])] ++ [(3, .box 53 (cellsX T53 t)), (5, .box 25 [.sl (.int .i64) v0]), (6, .box 25 [.cv (.slice none 0 0)]), (7, .box 25 [.cv (.slice none 0 0)]), (8, .box 25 [.cv (.slice none 0 0)])]), gt⟩) (zL [] [] []) ?_
  refine AW.rangeF (R := (List Int) × (List Int) × (List Int)) (l0 := [(1, .sl (.int .i64) w), (3, .bp 3 0), (5, .bp 5 0), (6, .bp 6 0), (7, .bp 7 0), (8, .bp 8 0)]) (hI := [(25000, .box 53 (cellsX T53 t)), (25001, .box 25 [.sl (.int .i64) w])]) (h0 := fun (st1 : Unit) => [(3, .box 53 (cellsX T53 t)), (5, .box 25 [.sl (.int .i64) v0]), (6, .box 25 [.cv (.slice none 0 0)]), (7, .box 25 [.cv (.slice none 0 0)]), (8, .box 25 [.cv (.slice none 0 0)])]) (gg := fun (st1 : Unit) => gt) (hx0 := (fun (r1 : (List Int) × (List Int) × (List Int)) => [(3, .box 53 (cellsX T53 t)), (5, .box 25 [.sl (.int .i64) v0]), (6, .box 25 [.own 37]), (7, .box 25 [.sl (.int .i64) r1.2.1]), (8, .box 25 [.sl (.int .i64) r1.2.2]), (37, .arr 3 (.int .i64) r1.1)])) (gx := (fun (r1 : (List Int) × (List Int) × (List Int)) => gt)) (ex := (fun (r1 : (List Int) × (List Int) × (List Int)) => Exit.ret)) () [(25000, 1000), (25001, 1001)] [(1000, 25000), (1001, 25001)] [(3, 1900), (5, 1901), (6, 1902), (7, 1903), (8, 1904)] [(1900, 3), (1901, 5), (1902, 6), (1903, 7), (1904, 8)] (by decide) rfl (by first | exact (ic_weave_ties_starts_1 t w (weave_ties_split_y1 slf t v0) () hx4) | simpa only [go_sem] using (ic_weave_ties_starts_1 t w (weave_ties_split_y1 slf t v0) () hx4)) (by (simp only [go_sem]) <;> (with_reducible and_intros) <;> first | assumption | rfl | omega | (unfold maxLen; omega)) rfl rfl rfl (fun _ => rfl) rfl (fun _ => rfl) rfl (fun _ => rfl) (fun _ => rfl) (fun _ => rfl) (fun _ => rfl) rfl (fun _ _ => by first | rfl | (exact (hΓ _).trans (hΓ _).symm) | (exact (hΓx _).trans (hΓ _).symm)) (fun _ _ => by first | rfl | (exact (hΓ _).trans (hΓ _).symm) | (exact (hΓx _).trans (hΓ _).symm)) ?_ ?_
  ·intro lpy1 y1 st1 x5 h
   unfold weave_ties_split_y1 at h
   refine zV [(1, .sl (.int .i64) w), (3, .bp 1900 0), (5, .bp 1901 0), (6, .bp 1902 0), (7, .bp 1903 0), (8, .bp 1904 0), (16, .int .i64 y1.1), (17, .sl (.int .i64) y1.2)] [(1900, .box 53 (cellsX T53 t)), (1901, .box 25 [.sl (.int .i64) v0]), (1902, .box 25 [.cv (.slice none 0 0)]), (1903, .box 25 [.cv (.slice none 0 0)]), (1904, .box 25 [.cv (.slice none 0 0)])] gt ?_
   refine zo ?_
   refine zB [(1, .sl (.int .i64) w), (3, .bp 1900 0), (5, .bp 1901 0), (6, .bp 1902 0), (7, .bp 1903 0), (8, .bp 1904 0), (9, .int .i64 y1.1), (17, .sl (.int .i64) y1.2)] [(1900, .box 53 (cellsX T53 t)), (1901, .box 25 [.sl (.int .i64) v0]), (1902, .box 25 [.cv (.slice none 0 0)]), (1903, .box 25 [.cv (.slice none 0 0)]), (1904, .box 25 [.cv (.slice none 0 0)])] ?_
   refine AW.ops ?_
   refine zA [(1, .sl (.int .i64) w), (3, .bp 1900 0), (5, .bp 1901 0), (6, .bp 1902 0), (7, .bp 1903 0), (8, .bp 1904 0), (9, .int .i64 y1.1), (10, .sl (.int .i64) y1.2)] [(1900, .box 53 (cellsX T53 t)), (1901, .box 25 [.sl (.int .i64) v0]), (1902, .box 25 [.cv (.slice none 0 0)]), (1903, .box 25 [.cv (.slice none 0 0)]), (1904, .box 25 [.cv (.slice none 0 0)])] ?_
   refine And.intro rfl ?_
   refine AW.block ?_
   refine zo ?_
   refine zS 3 [(1, .sl (.int .i64) w), (3, .bp 1900 0), (5, .bp 1901 0), (6, .bp 1902 0), (7, .bp 1903 0), (8, .bp 1904 0), (9, .int .i64 y1.1), (10, .sl (.int .i64) y1.2), (19, .agg (cellsX T53 t)), (20, .sl (.int .i64) v0), (21, .int .i64 y1.1)] [(1900, .box 53 (cellsX T53 t)), (1901, .box 25 [.sl (.int .i64) v0]), (1902, .box 25 [.cv (.slice none 0 0)]), (1903, .box 25 [.cv (.slice none 0 0)]), (1904, .box 25 [.cv (.slice none 0 0)])] ?_
   obtain ⟨v0_3, hv6, h⟩ := Option.bind_eq_some_iff.1 h
   refine zC [] [] (hc_weave_ties_without t v0 y1.1 hv6) [(1, .sl (.int .i64) w), (3, .bp 1900 0), (5, .bp 1901 0), (6, .bp 1902 0), (7, .bp 1903 0), (8, .bp 1904 0), (9, .int .i64 y1.1), (10, .sl (.int .i64) y1.2), (22, .tup [.own 32000, .bool v0_3.2])] [(1900, .box 53 (cellsX T53 t)), (1901, .box 25 [.sl (.int .i64) v0]), (1902, .box 25 [.cv (.slice none 0 0)]), (1903, .box 25 [.cv (.slice none 0 0)]), (1904, .box 25 [.cv (.slice none 0 0)]), (32000, .arr 3 (.int .i64) v0_3.1)] ?_
   refine zB [(1, .sl (.int .i64) w), (3, .bp 1900 0), (5, .bp 1901 0), (6, .bp 1902 0), (7, .bp 1903 0), (8, .bp 1904 0), (9, .int .i64 y1.1), (10, .sl (.int .i64) y1.2), (11, .own 32000), (12, .bool v0_3.2)] [(1900, .box 53 (cellsX T53 t)), (1901, .box 25 [.sl (.int .i64) v0]), (1902, .box 25 [.cv (.slice none 0 0)]), (1903, .box 25 [.cv (.slice none 0 0)]), (1904, .box 25 [.cv (.slice none 0 0)]), (32000, .arr 3 (.int .i64) v0_3.1)] ?_
   refine zo ?_
   refine zB [(1, .sl (.int .i64) w), (3, .bp 1900 0), (5, .bp 1901 0), (6, .bp 1902 0), (7, .bp 1903 0), (8, .bp 1904 0), (9, .int .i64 y1.1), (10, .sl (.int .i64) y1.2), (11, .own 32000), (25, .bool v0_3.2)] [(1900, .box 53 (cellsX T53 t)), (1901, .box 25 [.sl (.int .i64) v0]), (1902, .box 25 [.cv (.slice none 0 0)]), (1903, .box 25 [.cv (.slice none 0 0)]), (1904, .box 25 [.cv (.slice none 0 0)]), (32000, .arr 3 (.int .i64) v0_3.1)] ?_
   refine zQ h (fun hb7 h => ?_) (fun hb7 h => ?_)
   ·refine zo ?_
    refine zS 3 [(1, .sl (.int .i64) w), (3, .bp 1900 0), (5, .bp 1901 0), (6, .bp 1902 0), (7, .bp 1903 0), (8, .bp 1904 0), (9, .int .i64 y1.1), (27, .agg (cellsX T53 t)), (28, .sl (.int .i64) y1.2), (29, .own 32000)] [(1900, .box 53 (cellsX T53 t)), (1901, .box 25 [.sl (.int .i64) v0]), (1902, .box 25 [.cv (.slice none 0 0)]), (1903, .box 25 [.cv (.slice none 0 0)]), (1904, .box 25 [.cv (.slice none 0 0)]), (32000, .arr 3 (.int .i64) v0_3.1)] ?_
    obtain ⟨v0_4, hv8, h⟩ := Option.bind_eq_some_iff.1 h
    refine zC [32000] [] (hc_slf t y1.2 v0_3.1 hv8) [(1, .sl (.int .i64) w), (3, .bp 1900 0), (5, .bp 1901 0), (6, .bp 1902 0), (7, .bp 1903 0), (8, .bp 1904 0), (9, .int .i64 y1.1), (30, .tup [.own 40000, .sl (.int .i64) v0_4.2.1, .sl (.int .i64) v0_4.2.2])] [(1900, .box 53 (cellsX T53 t)), (1901, .box 25 [.sl (.int .i64) v0]), (1902, .box 25 [.cv (.slice none 0 0)]), (1903, .box 25 [.cv (.slice none 0 0)]), (1904, .box 25 [.cv (.slice none 0 0)]), (40000, .arr 3 (.int .i64) v0_4.1)] ?_
    refine zS 5 [(1, .sl (.int .i64) w), (3, .bp 1900 0), (5, .bp 1901 0), (6, .bp 1902 0), (7, .bp 1903 0), (8, .bp 1904 0), (9, .int .i64 y1.1), (32, .sl (.int .i64) v0_4.2.1), (33, .sl (.int .i64) v0_4.2.2)] [(1900, .box 53 (cellsX T53 t)), (1901, .box 25 [.sl (.int .i64) v0]), (1902, .box 25 [.own 40000]), (1903, .box 25 [.cv (.slice none 0 0)]), (1904, .box 25 [.cv (.slice none 0 0)]), (40000, .arr 3 (.int .i64) v0_4.1)] ?_
    refine zB [(1, .sl (.int .i64) w), (3, .bp 1900 0), (5, .bp 1901 0), (6, .bp 1902 0), (7, .bp 1903 0), (8, .bp 1904 0), (9, .int .i64 y1.1)] [(1900, .box 53 (cellsX T53 t)), (1901, .box 25 [.sl (.int .i64) v0]), (1902, .box 25 [.own 40000]), (1903, .box 25 [.sl (.int .i64) v0_4.2.1]), (1904, .box 25 [.sl (.int .i64) v0_4.2.2]), (40000, .arr 3 (.int .i64) v0_4.1)] ?_
    refine AW.seq ?_
    refine AW.draw tab_ok mixed_ok [(1, [35]), (3, [35, 37]), (6, [1902]), (7, [1903]), (8, [1904])] [(2, [1902, 40000, 1000040000]), (4, [1903]), (5, [1904]), (100006, []), (100007, []), (100008, [])] (by decide) (lex_fast (by kernel_rfl)) ?_
    as_aux_lemma =>
     obtain ⟨c10, h⟩ := ck_some.1 h
     refine adops_cut 6 (fun K' hK9 => ?_)
     try dsimp only [List.drop_succ_cons, List.drop_zero, List.take_succ_cons, List.take_zero]
     simp only [go_sem, hb7]
     repeat with_reducible refine zN ?_
     refine hK9 _ ?_
     as_aux_lemma =>
      refine adops_cut 3 (fun K' hK11 => ?_)
      try dsimp only [List.drop_succ_cons, List.drop_zero, List.take_succ_cons, List.take_zero]
      simp only [go_sem, hb7]
      repeat with_reducible refine zN ?_
      refine hK11 _ ?_
      refine adops_nil ?_
      refine athen_n ?_
      refine zV [(1, .sl (.int .i64) w), (3, .bp 1900 0), (5, .bp 1901 0), (6, .bp 1902 0), (7, .bp 1903 0), (8, .bp 1904 0)] [(37, .arr 3 (.int .i64) (y1.1 :: v0_4.1)), (1900, .box 53 (cellsX T53 t)), (1901, .box 25 [.sl (.int .i64) v0]), (1902, .box 25 [.own 37]), (1903, .box 25 [.sl (.int .i64) v0_4.2.1]), (1904, .box 25 [.sl (.int .i64) v0_4.2.2])] gt ?_
      as_aux_lemma =>
       refine AW.ret ?_
       refine ablock_r ?_
       obtain rfl := Option.some.inj h
       exact rpost_ret rfl rfl [] [] [] rfl (by (simp only [go_sem, hb7]) <;> (with_reducible and_intros) <;> first | assumption | rfl | omega | (unfold maxLen; omega))
   ·refine zm ?_
    obtain rfl := Option.some.inj h
    exact rpost_next rfl [] [] [] rfl (by (simp only [go_sem, hb7]) <;> (with_reducible and_intros) <;> first | assumption | rfl | omega | (unfold maxLen; omega))
  ·cases x3 with
   | inl st1_2 =>
    try simp only at h
    refine ablock_n ?_
    refine athen_n ?_
    exact AW.weaken (zL [] [] []) (hk_weave_ties_split_k1 () h)
   | inr r1 =>
    try simp only at h
    refine ablock_r ?_
    refine athen_r ?_
    obtain rfl := Option.some.inj h
    exact zR [] [] [(2000, 37)]

theorem hc_weave_ties_split : ∀ (n : Nat) (t : (El T53)) (w : List Int) (v0 : List Int) {r : (List Int) × (List Int) × (List Int)}, weave_ties_split n t w v0 = some r → HC Try.prog 53 [] [.agg (cellsX T53 t), .sl (.int .i64) w, .sl (.int .i64) v0] [(2000, .arr 3 (.int .i64) r.1)] (.tup [.own 2000, .sl (.int .i64) r.2.1, .sl (.int .i64) r.2.2]) := by
 intro n
 induction n with
 | zero => intro t w v0 r h; cases h
 | succ n ih => intro t w v0 r h; exact hc_weave_ties_splitF (weave_ties_split n) ih t w v0 h

end Go.Proofs.Ytabchabbdnhjpaa
