/-
  Made by wip/tool/dc.py out of the print of the program: contracts.
-/
import Derived.Test.YtifleoceebaooaaRfp
import Derived.Test.YtifleoceebaooaaShr
import Derived.Test.YtifleoceebaooaaNnc1
import Derived.Test.YtifleoceebaooaaNnc2
import Derived.Test.YtifleoceebaooaaNnc5
namespace Go.Proofs.Ytifleoceebaooaa
open Go.RowKit

set_option linter.unusedSimpArgs false
set_option linter.unusedVariables false
set_option linter.constructorNameAsVariable false

set_option maxRecDepth 100000
set_option maxHeartbeats 2000000

theorem hc_refine_two_best (t : ((Int × (List (Int × Int × Int))) × (El T69)) × (Int × (List (Int × Int × Int))) × (El T69)) {r : (El T94)} (h : refine_two_best t = some r) : HC Try.prog 81 [] [.agg (.int .i64 t.1.1.1 :: (.sl (.pair (.int .i64) (.pair (.int .i64) (.int .i64))) t.1.1.2 :: (cellsX T69 t.1.2 ++ (.int .i64 t.2.1.1 :: (.sl (.pair (.int .i64) (.pair (.int .i64) (.int .i64))) t.2.1.2 :: (cellsX T69 t.2.2))))))] [] (.agg (cellsX T94 r)) := by
 unfold refine_two_best at h
 refine zH Try.func81 [.cell 2 94] 34 ?_
 refine zo ?_
 refine zB [(1, .bp 1 0), (2, .bp 2 0)] [(1, .box 90 (.int .i64 t.1.1.1 :: (.sl (.pair (.int .i64) (.pair (.int .i64) (.int .i64))) t.1.1.2 :: (cellsX T69 t.1.2 ++ (.int .i64 t.2.1.1 :: (.sl (.pair (.int .i64) (.pair (.int .i64) (.int .i64))) t.2.1.2 :: (cellsX T69 t.2.2))))))), (2, .box 94 (cellsX T94 (Ty.dflt T94)))] ?_
 refine zo ?_
 refine zB [(1, .bp 1 0), (2, .bp 2 0), (3, .bp 3 0)] [(1, .box 90 (.int .i64 t.1.1.1 :: (.sl (.pair (.int .i64) (.pair (.int .i64) (.int .i64))) t.1.1.2 :: (cellsX T69 t.1.2 ++ (.int .i64 t.2.1.1 :: (.sl (.pair (.int .i64) (.pair (.int .i64) (.int .i64))) t.2.1.2 :: (cellsX T69 t.2.2))))))), (2, .box 94 (cellsX T94 (Ty.dflt T94))), (3, .box 94 (cellsX T94 (Ty.dflt T94)))] ?_
 refine AW.have1 (fun b1 : (El T94) => refine_two_best_k1 t b1 = some r) (fun b1 => ⟨fr [(1, .bp 1 0), (2, .bp 2 0), (3, .bp 3 0)], hpGet [(1, .box 90 (.int .i64 t.1.1.1 :: (.sl (.pair (.int .i64) (.pair (.int .i64) (.int .i64))) t.1.1.2 :: (cellsX T69 t.1.2 ++ (.int .i64 t.2.1.1 :: (.sl (.pair (.int .i64) (.pair (.int .i64) (.int .i64))) t.2.1.2 :: (cellsX T69 t.2.2))))))), (2, .box 94 (cellsX T94 (Ty.dflt T94))), (3, .box 94 (cellsX T94 b1))], gt⟩) (fun b1 h => ?_) (fun hk_refine_two_best_k1 => ?_)
 ·as_aux_lemma =>
   unfold refine_two_best_k1 at h
   refine AW.have1 (fun b2 : (El T94) => refine_two_best_k2 b2 = some r) (fun b2 => ⟨fr [(2, .bp 2 0), (3, .bp 3 0)], hpGet [(2, .box 94 (cellsX T94 (Ty.dflt T94))), (3, .box 94 (cellsX T94 b2))], gt⟩) (fun b2 h => ?_) (fun hk_refine_two_best_k2 => ?_)
   ·as_aux_lemma =>
     unfold refine_two_best_k2 at h
     refine zo ?_
     refine zB [(2, .bp 2 0)] [(2, .box 94 (cellsX T94 b2))] ?_
     refine AW.ret ?_
     obtain rfl := Option.some.inj h
     exact zR [] [] []
   ·refine AW.seq ?_
    refine zo ?_
    refine zS 2 [(1, .bp 1 0), (2, .bp 2 0), (3, .bp 3 0), (22, .agg (.int .i64 t.1.1.1 :: (.sl (.pair (.int .i64) (.pair (.int .i64) (.int .i64))) t.1.1.2 :: (cellsX T69 t.1.2 ++ (.int .i64 t.2.1.1 :: (.sl (.pair (.int .i64) (.pair (.int .i64) (.int .i64))) t.2.1.2 :: (cellsX T69 t.2.2))))))), (23, .agg (cellsX T94 b1))] [(1, .box 90 (.int .i64 t.1.1.1 :: (.sl (.pair (.int .i64) (.pair (.int .i64) (.int .i64))) t.1.1.2 :: (cellsX T69 t.1.2 ++ (.int .i64 t.2.1.1 :: (.sl (.pair (.int .i64) (.pair (.int .i64) (.int .i64))) t.2.1.2 :: (cellsX T69 t.2.2))))))), (2, .box 94 (cellsX T94 (Ty.dflt T94))), (3, .box 94 (cellsX T94 b1))] ?_
    obtain ⟨v0, hv1, h⟩ := Option.bind_eq_some_iff.1 h
    refine zC [] [] (hc_refine_two_held t b1 hv1) [(1, .bp 1 0), (2, .bp 2 0), (3, .bp 3 0), (24, .agg (cellsX T94 v0))] [(1, .box 90 (.int .i64 t.1.1.1 :: (.sl (.pair (.int .i64) (.pair (.int .i64) (.int .i64))) t.1.1.2 :: (cellsX T69 t.1.2 ++ (.int .i64 t.2.1.1 :: (.sl (.pair (.int .i64) (.pair (.int .i64) (.int .i64))) t.2.1.2 :: (cellsX T69 t.2.2))))))), (2, .box 94 (cellsX T94 (Ty.dflt T94))), (3, .box 94 (cellsX T94 b1))] ?_
    refine zB [(1, .bp 1 0), (2, .bp 2 0), (3, .bp 3 0), (5, .bp 5 0)] [(1, .box 90 (.int .i64 t.1.1.1 :: (.sl (.pair (.int .i64) (.pair (.int .i64) (.int .i64))) t.1.1.2 :: (cellsX T69 t.1.2 ++ (.int .i64 t.2.1.1 :: (.sl (.pair (.int .i64) (.pair (.int .i64) (.int .i64))) t.2.1.2 :: (cellsX T69 t.2.2))))))), (2, .box 94 (cellsX T94 (Ty.dflt T94))), (3, .box 94 (cellsX T94 b1)), (5, .box 94 (cellsX T94 v0))] ?_
    refine AW.block ?_
    obtain ⟨rv6, hw2, ho3⟩ := Option.bind_eq_some_iff.1 h
    refine AW.loopO (refine_two_best_b2 t) (fun st2 => ⟨fr [(1, .bp 1 0), (2, .bp 2 0), (3, .bp 3 0), (5, .bp 5 0)], hpGet [(1, .box 90 (.int .i64 t.1.1.1 :: (.sl (.pair (.int .i64) (.pair (.int .i64) (.int .i64))) t.1.1.2 :: (cellsX T69 t.1.2 ++ (.int .i64 t.2.1.1 :: (.sl (.pair (.int .i64) (.pair (.int .i64) (.int .i64))) t.2.1.2 :: (cellsX T69 t.2.2))))))), (2, .box 94 (cellsX T94 (Ty.dflt T94))), (3, .box 94 (cellsX T94 st2.1)), (5, .box 94 (cellsX T94 st2.2))], gt⟩) (b1, v0) hw2 (zL [] [] []) ?_
    as_aux_lemma =>
     intro st2 x5 h hd4
     unfold refine_two_best_b2 at h
     refine AW.seq ?_
     refine zo ?_
     refine zS 2 [(1, .bp 1 0), (2, .bp 2 0), (3, .bp 3 0), (5, .bp 5 0), (25, .agg (cellsX T94 st2.2)), (26, .agg (cellsX T94 st2.1))] [(1, .box 90 (.int .i64 t.1.1.1 :: (.sl (.pair (.int .i64) (.pair (.int .i64) (.int .i64))) t.1.1.2 :: (cellsX T69 t.1.2 ++ (.int .i64 t.2.1.1 :: (.sl (.pair (.int .i64) (.pair (.int .i64) (.int .i64))) t.2.1.2 :: (cellsX T69 t.2.2))))))), (2, .box 94 (cellsX T94 (Ty.dflt T94))), (3, .box 94 (cellsX T94 st2.1)), (5, .box 94 (cellsX T94 st2.2))] ?_
     obtain ⟨c7, h⟩ := ck_some.1 h
     obtain ⟨c8, h⟩ := ck_some.1 h
     refine AO.aggEq (neg := true) eqty_94 (by decide) rfl rfl (lx := (cellsX T94 st2.2)) (ly := (cellsX T94 st2.1)) (by first | rfl | (simp only [go_sem]) <;> (with_reducible and_intros) <;> first | assumption | rfl | omega | (unfold maxLen; omega)) (by first | rfl | (simp only [go_sem]) <;> (with_reducible and_intros) <;> first | assumption | rfl | omega | (unfold maxLen; omega)) (by first | rfl | (simp only [go_sem]) <;> (with_reducible and_intros) <;> first | assumption | rfl | omega | (unfold maxLen; omega)) (by first | rfl | (simp only [go_sem]) <;> (with_reducible and_intros) <;> first | assumption | rfl | omega | (unfold maxLen; omega)) (by first | assumption | omega | (simp only [go_sem]) <;> (with_reducible and_intros) <;> first | assumption | rfl | omega | (unfold maxLen; omega)) (by first | assumption | omega | (simp only [go_sem]) <;> (with_reducible and_intros) <;> first | assumption | rfl | omega | (unfold maxLen; omega)) ?_
     refine zT [(1, .bp 1 0), (2, .bp 2 0), (3, .bp 3 0), (5, .bp 5 0), (27, .bool (!(decide (st2.2 = st2.1))))] [(1, .box 90 (.int .i64 t.1.1.1 :: (.sl (.pair (.int .i64) (.pair (.int .i64) (.int .i64))) t.1.1.2 :: (cellsX T69 t.1.2 ++ (.int .i64 t.2.1.1 :: (.sl (.pair (.int .i64) (.pair (.int .i64) (.int .i64))) t.2.1.2 :: (cellsX T69 t.2.2))))))), (2, .box 94 (cellsX T94 (Ty.dflt T94))), (3, .box 94 (cellsX T94 st2.1)), (5, .box 94 (cellsX T94 st2.2))] gt ?_
     refine zB [(1, .bp 1 0), (2, .bp 2 0), (3, .bp 3 0), (5, .bp 5 0), (27, .bool (!(decide (st2.2 = st2.1))))] [(1, .box 90 (.int .i64 t.1.1.1 :: (.sl (.pair (.int .i64) (.pair (.int .i64) (.int .i64))) t.1.1.2 :: (cellsX T69 t.1.2 ++ (.int .i64 t.2.1.1 :: (.sl (.pair (.int .i64) (.pair (.int .i64) (.int .i64))) t.2.1.2 :: (cellsX T69 t.2.2))))))), (2, .box 94 (cellsX T94 (Ty.dflt T94))), (3, .box 94 (cellsX T94 st2.1)), (5, .box 94 (cellsX T94 st2.2))] ?_
     refine zQ h (fun hb9 h => ?_) (fun hb9 h => ?_)
     ·refine zk ?_
      refine AW.seq ?_
      refine AW.block ?_
      refine AW.ops ?_
      refine zA [(1, .bp 1 0), (2, .bp 2 0), (3, .bp 3 0), (5, .bp 5 0)] [(1, .box 90 (.int .i64 t.1.1.1 :: (.sl (.pair (.int .i64) (.pair (.int .i64) (.int .i64))) t.1.1.2 :: (cellsX T69 t.1.2 ++ (.int .i64 t.2.1.1 :: (.sl (.pair (.int .i64) (.pair (.int .i64) (.int .i64))) t.2.1.2 :: (cellsX T69 t.2.2))))))), (2, .box 94 (cellsX T94 (Ty.dflt T94))), (3, .box 94 (cellsX T94 st2.2)), (5, .box 94 (cellsX T94 st2.2))] ?_
      refine ablock_n ?_
      refine athen_n ?_
      refine AW.seq ?_
      refine zo ?_
      refine zB [(1, .bp 1 0), (2, .bp 2 0), (3, .bp 3 0), (32, .agg (cellsX T94 st2.2))] [(1, .box 90 (.int .i64 t.1.1.1 :: (.sl (.pair (.int .i64) (.pair (.int .i64) (.int .i64))) t.1.1.2 :: (cellsX T69 t.1.2 ++ (.int .i64 t.2.1.1 :: (.sl (.pair (.int .i64) (.pair (.int .i64) (.int .i64))) t.2.1.2 :: (cellsX T69 t.2.2))))))), (2, .box 94 (cellsX T94 (Ty.dflt T94))), (3, .box 94 (cellsX T94 st2.2))] ?_
      refine AW.ops ?_
      refine zB [(1, .bp 1 0), (2, .bp 2 0), (3, .bp 3 0), (5, .bp 5 0)] [(1, .box 90 (.int .i64 t.1.1.1 :: (.sl (.pair (.int .i64) (.pair (.int .i64) (.int .i64))) t.1.1.2 :: (cellsX T69 t.1.2 ++ (.int .i64 t.2.1.1 :: (.sl (.pair (.int .i64) (.pair (.int .i64) (.int .i64))) t.2.1.2 :: (cellsX T69 t.2.2))))))), (2, .box 94 (cellsX T94 (Ty.dflt T94))), (3, .box 94 (cellsX T94 st2.2)), (5, .box 94 (cellsX T94 st2.2))] ?_
      refine AW.ops ?_
      refine zS 2 [(1, .bp 1 0), (2, .bp 2 0), (3, .bp 3 0), (5, .bp 5 0), (28, .agg (.int .i64 t.1.1.1 :: (.sl (.pair (.int .i64) (.pair (.int .i64) (.int .i64))) t.1.1.2 :: (cellsX T69 t.1.2 ++ (.int .i64 t.2.1.1 :: (.sl (.pair (.int .i64) (.pair (.int .i64) (.int .i64))) t.2.1.2 :: (cellsX T69 t.2.2))))))), (29, .agg (cellsX T94 st2.2))] [(1, .box 90 (.int .i64 t.1.1.1 :: (.sl (.pair (.int .i64) (.pair (.int .i64) (.int .i64))) t.1.1.2 :: (cellsX T69 t.1.2 ++ (.int .i64 t.2.1.1 :: (.sl (.pair (.int .i64) (.pair (.int .i64) (.int .i64))) t.2.1.2 :: (cellsX T69 t.2.2))))))), (2, .box 94 (cellsX T94 (Ty.dflt T94))), (3, .box 94 (cellsX T94 st2.2)), (5, .box 94 (cellsX T94 st2.2))] ?_
      obtain ⟨v0_2, hv10, h⟩ := Option.bind_eq_some_iff.1 h
      refine zC [] [] (hc_refine_two_held t st2.2 hv10) [(1, .bp 1 0), (2, .bp 2 0), (3, .bp 3 0), (5, .bp 5 0), (30, .agg (cellsX T94 v0_2))] [(1, .box 90 (.int .i64 t.1.1.1 :: (.sl (.pair (.int .i64) (.pair (.int .i64) (.int .i64))) t.1.1.2 :: (cellsX T69 t.1.2 ++ (.int .i64 t.2.1.1 :: (.sl (.pair (.int .i64) (.pair (.int .i64) (.int .i64))) t.2.1.2 :: (cellsX T69 t.2.2))))))), (2, .box 94 (cellsX T94 (Ty.dflt T94))), (3, .box 94 (cellsX T94 st2.2)), (5, .box 94 (cellsX T94 st2.2))] ?_
      refine zA [(1, .bp 1 0), (2, .bp 2 0), (3, .bp 3 0), (5, .bp 5 0)] [(1, .box 90 (.int .i64 t.1.1.1 :: (.sl (.pair (.int .i64) (.pair (.int .i64) (.int .i64))) t.1.1.2 :: (cellsX T69 t.1.2 ++ (.int .i64 t.2.1.1 :: (.sl (.pair (.int .i64) (.pair (.int .i64) (.int .i64))) t.2.1.2 :: (cellsX T69 t.2.2))))))), (2, .box 94 (cellsX T94 (Ty.dflt T94))), (3, .box 94 (cellsX T94 st2.2)), (5, .box 94 (cellsX T94 v0_2))] ?_
      obtain rfl := Option.some.inj h
      exact ⟨_, rfl, zL [] [] []⟩
     ·refine AW.exit ?_
      refine athen_e ?_
      obtain rfl := Option.some.inj h
      rw [← hd4 _ rfl] at ho3
      have h := ho3
      refine athen_e ?_
      refine ablock_s ?_
      refine athen_n ?_
      exact AW.weaken (zL [] [] []) (hk_refine_two_best_k2 _ h)
 ·refine AW.seq ?_
  refine zo ?_
  refine zB [(1, .bp 1 0), (2, .bp 2 0), (3, .bp 3 0), (9, .int .i64 t.1.1.1), (10, .int .i64 0)] [(1, .box 90 (.int .i64 t.1.1.1 :: (.sl (.pair (.int .i64) (.pair (.int .i64) (.int .i64))) t.1.1.2 :: (cellsX T69 t.1.2 ++ (.int .i64 t.2.1.1 :: (.sl (.pair (.int .i64) (.pair (.int .i64) (.int .i64))) t.2.1.2 :: (cellsX T69 t.2.2))))))), (2, .box 94 (cellsX T94 (Ty.dflt T94))), (3, .box 94 (cellsX T94 (Ty.dflt T94)))] ?_
  refine AW.block ?_
  obtain ⟨rv15, hw11, ho12⟩ := Option.bind_eq_some_iff.1 h
  refine AW.loopO (refine_two_best_b1 t) (fun st1 => ⟨fr [(1, .bp 1 0), (2, .bp 2 0), (3, .bp 3 0), (9, .int .i64 t.1.1.1), (10, .int .i64 st1.2)], hpGet [(1, .box 90 (.int .i64 t.1.1.1 :: (.sl (.pair (.int .i64) (.pair (.int .i64) (.int .i64))) t.1.1.2 :: (cellsX T69 t.1.2 ++ (.int .i64 t.2.1.1 :: (.sl (.pair (.int .i64) (.pair (.int .i64) (.int .i64))) t.2.1.2 :: (cellsX T69 t.2.2))))))), (2, .box 94 (cellsX T94 (Ty.dflt T94))), (3, .box 94 (cellsX T94 st1.1))], gt⟩) ((Ty.dflt T94), 0) hw11 (zL [] [] []) ?_
  as_aux_lemma =>
   intro st1 x14 h hd13
   unfold refine_two_best_b1 at h
   refine zo ?_
   refine zB [(1, .bp 1 0), (2, .bp 2 0), (3, .bp 3 0), (9, .int .i64 t.1.1.1), (10, .int .i64 st1.2), (11, .bool (decide (st1.2 < t.1.1.1)))] [(1, .box 90 (.int .i64 t.1.1.1 :: (.sl (.pair (.int .i64) (.pair (.int .i64) (.int .i64))) t.1.1.2 :: (cellsX T69 t.1.2 ++ (.int .i64 t.2.1.1 :: (.sl (.pair (.int .i64) (.pair (.int .i64) (.int .i64))) t.2.1.2 :: (cellsX T69 t.2.2))))))), (2, .box 94 (cellsX T94 (Ty.dflt T94))), (3, .box 94 (cellsX T94 st1.1))] ?_
   refine AW.seq ?_
   refine zQ h (fun hb16 h => ?_) (fun hb16 h => ?_)
   ·refine zk ?_
    refine AW.seq ?_
    refine AW.block ?_
    refine zo ?_
    refine zB [(1, .bp 1 0), (2, .bp 2 0), (3, .bp 3 0), (4, .int .i64 st1.2), (9, .int .i64 t.1.1.1), (10, .int .i64 st1.2)] [(1, .box 90 (.int .i64 t.1.1.1 :: (.sl (.pair (.int .i64) (.pair (.int .i64) (.int .i64))) t.1.1.2 :: (cellsX T69 t.1.2 ++ (.int .i64 t.2.1.1 :: (.sl (.pair (.int .i64) (.pair (.int .i64) (.int .i64))) t.2.1.2 :: (cellsX T69 t.2.2))))))), (2, .box 94 (cellsX T94 (Ty.dflt T94))), (3, .box 94 (cellsX T94 st1.1))] ?_
    refine AW.ops ?_
    refine zS 5 [(1, .bp 1 0), (2, .bp 2 0), (3, .bp 3 0), (9, .int .i64 t.1.1.1), (10, .int .i64 st1.2), (13, .int .i64 st1.2), (17, .int .i64 t.2.1.1)] [(1, .box 90 (.int .i64 t.1.1.1 :: (.sl (.pair (.int .i64) (.pair (.int .i64) (.int .i64))) t.1.1.2 :: (cellsX T69 t.1.2 ++ (.int .i64 t.2.1.1 :: (.sl (.pair (.int .i64) (.pair (.int .i64) (.int .i64))) t.2.1.2 :: (cellsX T69 t.2.2))))))), (2, .box 94 (cellsX T94 (Ty.dflt T94))), (3, .box 94 (cellsX T94 st1.1))] ?_
    obtain ⟨c17, h⟩ := ck_some.1 h
    obtain ⟨c18, h⟩ := ck_some.1 h
    obtain ⟨c19, h⟩ := ck_some.1 h
    obtain ⟨c20, h⟩ := ck_some.1 h
    have hx21 : (0 + st1.2.toNat * 1) < 6 := by omega
    refine zA [(1, .bp 1 0), (2, .bp 2 0), (3, .bp 3 0), (9, .int .i64 t.1.1.1), (10, .int .i64 st1.2)] [(1, .box 90 (.int .i64 t.1.1.1 :: (.sl (.pair (.int .i64) (.pair (.int .i64) (.int .i64))) t.1.1.2 :: (cellsX T69 t.1.2 ++ (.int .i64 t.2.1.1 :: (.sl (.pair (.int .i64) (.pair (.int .i64) (.int .i64))) t.2.1.2 :: (cellsX T69 t.2.2))))))), (2, .box 94 (cellsX T94 (Ty.dflt T94))), (3, .box 94 (cellsX T94 (setInt T94 st1.1 (0 + st1.2.toNat * 1) ((ishl .u8 1 t.2.1.1) - 1))))] ?_
    refine ablock_n ?_
    refine athen_n ?_
    refine AW.ops ?_
    obtain ⟨c22, h⟩ := ck_some.1 h
    refine zA [(1, .bp 1 0), (2, .bp 2 0), (3, .bp 3 0), (9, .int .i64 t.1.1.1), (10, .int .i64 (st1.2 + 1))] [(1, .box 90 (.int .i64 t.1.1.1 :: (.sl (.pair (.int .i64) (.pair (.int .i64) (.int .i64))) t.1.1.2 :: (cellsX T69 t.1.2 ++ (.int .i64 t.2.1.1 :: (.sl (.pair (.int .i64) (.pair (.int .i64) (.int .i64))) t.2.1.2 :: (cellsX T69 t.2.2))))))), (2, .box 94 (cellsX T94 (Ty.dflt T94))), (3, .box 94 (cellsX T94 (setInt T94 st1.1 (0 + st1.2.toNat * 1) ((ishl .u8 1 t.2.1.1) - 1))))] ?_
    obtain rfl := Option.some.inj h
    exact ⟨_, rfl, zL [] [] []⟩
   ·refine AW.exit ?_
    refine athen_e ?_
    obtain rfl := Option.some.inj h
    rw [← hd13 _ rfl] at ho12
    have h := ho12
    refine athen_e ?_
    refine ablock_s ?_
    refine athen_n ?_
    exact AW.weaken (zL [] [] []) (hk_refine_two_best_k1 _ h)

theorem hc_refine_Refines (c : Int × (List (Int × Int × Int))) (a : Int × (List (Int × Int × Int))) {r : Bool × Int} (h : refine_Refines c a = some r) : HC Try.prog 39 [] [.agg [.int .i64 c.1, .sl (.pair (.int .i64) (.pair (.int .i64) (.int .i64))) c.2], .agg [.int .i64 a.1, .sl (.pair (.int .i64) (.pair (.int .i64) (.int .i64))) a.2]] [] (.tup [.bool r.1, .int .i64 r.2]) := by
 unfold refine_Refines at h
 refine zH Try.func39 [.tmp 4, .tmp 5] 21 ?_
 refine zo ?_
 refine zB [(2, .bp 2 0), (3, .bp 3 0)] [(2, .box 24 [.int .i64 c.1, .sl (.pair (.int .i64) (.pair (.int .i64) (.int .i64))) c.2]), (3, .box 24 [.int .i64 a.1, .sl (.pair (.int .i64) (.pair (.int .i64) (.int .i64))) a.2])] ?_
 refine zo ?_
 refine zS 2 [(9, .agg [.int .i64 c.1, .sl (.pair (.int .i64) (.pair (.int .i64) (.int .i64))) c.2]), (10, .agg [.int .i64 a.1, .sl (.pair (.int .i64) (.pair (.int .i64) (.int .i64))) a.2])] [] ?_
 obtain ⟨v0, hv1, h⟩ := Option.bind_eq_some_iff.1 h
 refine zC [] [] (hc_refine_twoOf c a hv1) [(11, .tup [.agg (.int .i64 v0.1 :: (.sl (.pair (.int .i64) (.pair (.int .i64) (.int .i64))) v0.2.1 :: (cellsX T69 v0.2.2.1 ++ (.int .i64 v0.2.2.2.1 :: (.sl (.pair (.int .i64) (.pair (.int .i64) (.int .i64))) v0.2.2.2.2.1 :: (cellsX T69 v0.2.2.2.2.2.1)))))), .int .i64 v0.2.2.2.2.2.2])] [] ?_
 refine zS 5 [(6, .bp 6 0), (13, .int .i64 v0.2.2.2.2.2.2)] [(6, .box 90 (.int .i64 v0.1 :: (.sl (.pair (.int .i64) (.pair (.int .i64) (.int .i64))) v0.2.1 :: (cellsX T69 v0.2.2.1 ++ (.int .i64 v0.2.2.2.1 :: (.sl (.pair (.int .i64) (.pair (.int .i64) (.int .i64))) v0.2.2.2.2.1 :: (cellsX T69 v0.2.2.2.2.2.1)))))))] ?_
 refine zB [(6, .bp 6 0), (7, .int .i64 v0.2.2.2.2.2.2)] [(6, .box 90 (.int .i64 v0.1 :: (.sl (.pair (.int .i64) (.pair (.int .i64) (.int .i64))) v0.2.1 :: (cellsX T69 v0.2.2.1 ++ (.int .i64 v0.2.2.2.1 :: (.sl (.pair (.int .i64) (.pair (.int .i64) (.int .i64))) v0.2.2.2.2.1 :: (cellsX T69 v0.2.2.2.2.2.1)))))))] ?_
 refine AW.seq ?_
 refine zo ?_
 refine zB [(6, .bp 6 0), (7, .int .i64 v0.2.2.2.2.2.2), (15, .bool (!(decide (v0.2.2.2.2.2.2 = 0))))] [(6, .box 90 (.int .i64 v0.1 :: (.sl (.pair (.int .i64) (.pair (.int .i64) (.int .i64))) v0.2.1 :: (cellsX T69 v0.2.2.1 ++ (.int .i64 v0.2.2.2.1 :: (.sl (.pair (.int .i64) (.pair (.int .i64) (.int .i64))) v0.2.2.2.2.1 :: (cellsX T69 v0.2.2.2.2.2.1)))))))] ?_
 refine zQ h (fun hb2 h => ?_) (fun hb2 h => ?_)
 ·refine zo ?_
  refine zB [(4, .bool false), (5, .int .i64 v0.2.2.2.2.2.2)] [] ?_
  refine zr ?_
  obtain rfl := Option.some.inj h
  exact zR [] [] []
 ·refine zk ?_
  refine zo ?_
  refine zS 1 [(17, .agg (.int .i64 v0.1 :: (.sl (.pair (.int .i64) (.pair (.int .i64) (.int .i64))) v0.2.1 :: (cellsX T69 v0.2.2.1 ++ (.int .i64 v0.2.2.2.1 :: (.sl (.pair (.int .i64) (.pair (.int .i64) (.int .i64))) v0.2.2.2.2.1 :: (cellsX T69 v0.2.2.2.2.2.1)))))))] [] ?_
  obtain ⟨v0_2, hv3, h⟩ := Option.bind_eq_some_iff.1 h
  refine zC [] [] (hc_refine_two_best (((v0.1, v0.2.1), v0.2.2.1), (v0.2.2.2.1, v0.2.2.2.2.1), v0.2.2.2.2.2.1) hv3) [(18, .agg (cellsX T94 v0_2))] [] ?_
  have hx4 : 0 < 6 := by omega
  refine AO.idxA tab_ok (by decide) rfl rfl tab_94 rfl tab_67 rfl rfl (by first | assumption | omega | (simp only [go_sem, hb2, hx4]) <;> (with_reducible and_intros) <;> first | assumption | rfl | omega | (unfold maxLen; omega)) (by first | assumption | omega | (simp only [go_sem, hb2, hx4]) <;> (with_reducible and_intros) <;> first | assumption | rfl | omega | (unfold maxLen; omega)) (by first | assumption | omega | (simp only [go_sem, hb2, hx4]) <;> (with_reducible and_intros) <;> first | assumption | rfl | omega | (unfold maxLen; omega)) (.inr rfl) (v := .int .u8 (intAt T94 v0_2 0)) (by first | assumption | omega | (simp only [go_sem, hb2, hx4]) <;> (with_reducible and_intros) <;> first | assumption | rfl | omega | (unfold maxLen; omega)) ?_
  refine zT [(19, .int .u8 (intAt T94 v0_2 0))] [] gt ?_
  obtain ⟨v0_3, hv5, h⟩ := Option.bind_eq_some_iff.1 h
  refine zC [] [] (hc_refine_set_has (intAt T94 v0_2 0) 0 hv5) [(20, .bool (decide ((iand .u8 (ishr .u8 (intAt T94 v0_2 0) 0) 1) = 1)))] [] ?_
  refine zB [(4, .bool (decide ((iand .u8 (ishr .u8 (intAt T94 v0_2 0) 0) 1) = 1))), (5, .int .i64 0)] [] ?_
  refine AW.ret ?_
  obtain rfl := Option.some.inj h
  exact zR [] [] []

theorem hc_cmp_isNaN (x0 : Int) {r : Unit} (h : cmp_isNaN x0 = some r) : HC Try.prog 134 [] [.int .i64 x0] [] (.bool false) := by
 unfold cmp_isNaN at h
 refine zH Try.func134 [.tmp 2] 6 ?_
 refine zo ?_
 refine zB [(0, .int .i64 x0)] [] ?_
 refine zo ?_
 refine zB [(2, .bool false)] [] ?_
 refine AW.ret ?_
 obtain rfl := Option.some.inj h
 exact zR [] [] []

theorem hc_cmp_Compare (x0 : Int) (y : Int) {r : Int} (h : cmp_Compare x0 y = some r) : HC Try.prog 130 [] [.int .i64 x0, .int .i64 y] [] (.int .i64 r) := by
 unfold cmp_Compare at h
 refine zH Try.func130 [.tmp 4] 20 ?_
 refine zo ?_
 refine zB [(0, .int .i64 x0), (1, .int .i64 y)] [] ?_
 refine zo ?_
 refine zS 1 [(0, .int .i64 x0), (1, .int .i64 y), (7, .int .i64 x0)] [] ?_
 obtain ⟨v0, hv1, h⟩ := Option.bind_eq_some_iff.1 h
 refine zC [] [] (hc_cmp_isNaN x0 hv1) [(0, .int .i64 x0), (1, .int .i64 y), (8, .bool false)] [] ?_
 refine zB [(0, .int .i64 x0), (1, .int .i64 y), (5, .bool false)] [] ?_
 refine zo ?_
 refine zS 1 [(0, .int .i64 x0), (1, .int .i64 y), (5, .bool false), (9, .int .i64 y)] [] ?_
 obtain ⟨v0_2, hv2, h⟩ := Option.bind_eq_some_iff.1 h
 refine zC [] [] (hc_cmp_isNaN y hv2) [(0, .int .i64 x0), (1, .int .i64 y), (5, .bool false), (10, .bool false)] [] ?_
 refine zB [(0, .int .i64 x0), (1, .int .i64 y), (5, .bool false), (6, .bool false)] [] ?_
 refine AW.seq ?_
 refine zo ?_
 refine zB [(0, .int .i64 x0), (1, .int .i64 y), (6, .bool false), (11, .bool false)] [] ?_
 refine AW.cond (b := false) rfl (fun hb3 => by cases hb3) (fun _ => ?_)
 refine zk ?_
 refine AW.seq ?_
 refine zo ?_
 refine zB [(0, .int .i64 x0), (1, .int .i64 y), (13, .bool false)] [] ?_
 refine AW.cond (b := false) rfl (fun hb4 => by cases hb4) (fun _ => ?_)
 refine zk ?_
 refine AW.seq ?_
 refine zo ?_
 refine zB [(0, .int .i64 x0), (1, .int .i64 y), (16, .bool (decide (x0 < y)))] [] ?_
 refine zQ h (fun hb5 h => ?_) (fun hb5 h => ?_)
 ·refine zo ?_
  refine zB [(4, .int .i64 (-1))] [] ?_
  refine zr ?_
  obtain rfl := Option.some.inj h
  exact zR [] [] []
 ·refine zk ?_
  refine AW.seq ?_
  refine zo ?_
  refine zB [(19, .bool (decide (y < x0)))] [] ?_
  refine zQ h (fun hb6 h => ?_) (fun hb6 h => ?_)
  ·refine zo ?_
   refine zB [(4, .int .i64 1)] [] ?_
   refine zr ?_
   obtain rfl := Option.some.inj h
   exact zR [] [] []
  ·refine zk ?_
   refine zo ?_
   refine zB [(4, .int .i64 0)] [] ?_
   refine AW.ret ?_
   obtain rfl := Option.some.inj h
   exact zR [] [] []

theorem hc_slices_Compare (s1 : List Int) (s2 : Int × Int) {r : Int} (h : slices_Compare s1 s2 = some r) : HC Try.prog 115 [(1000, .box 58 [.int .i64 s2.1, .int .i64 s2.2])] [.sl (.int .i64) s1, .vw 1000 1 0 2] [(1000, .box 58 [.int .i64 s2.1, .int .i64 s2.2])] (.int .i64 r) := by
 unfold slices_Compare at h
 refine zH Try.func115 [.tmp 4] 36 ?_
 refine zo ?_
 refine zB [(0, .sl (.int .i64) s1), (1, .vw 1000 1 0 2)] [(1000, .box 58 [.int .i64 s2.1, .int .i64 s2.2])] ?_
 refine AW.have1 (fun _ : Unit => slices_Compare_k1 s1 = some r) (fun _ => ⟨fr [(0, .sl (.int .i64) s1), (1, .vw 1000 1 0 2)], hpGet [(1000, .box 58 [.int .i64 s2.1, .int .i64 s2.2])], gt⟩) (fun _ h => ?_) (fun hk_slices_Compare_k1 => ?_)
 ·as_aux_lemma =>
   unfold slices_Compare_k1 at h
   refine AW.seq ?_
   refine zo ?_
   refine zB [(35, .bool (decide ((s1.length : Int) < 2)))] [(1000, .box 58 [.int .i64 s2.1, .int .i64 s2.2])] ?_
   refine zQ h (fun hb1 h => ?_) (fun hb1 h => ?_)
   ·refine zo ?_
    refine zB [(4, .int .i64 (-1))] [(1000, .box 58 [.int .i64 s2.1, .int .i64 s2.2])] ?_
    refine zr ?_
    obtain rfl := Option.some.inj h
    exact zR [] [] []
   ·refine zk ?_
    refine zo ?_
    refine zB [(4, .int .i64 0)] [(1000, .box 58 [.int .i64 s2.1, .int .i64 s2.2])] ?_
    refine AW.ret ?_
    obtain rfl := Option.some.inj h
    exact zR [] [] []
 ·refine AW.seq ?_
  refine zo ?_
  refine zB [(0, .sl (.int .i64) s1), (1, .vw 1000 1 0 2), (9, .sl (.int .i64) s1), (10, .int .i64 (s1.length : Int)), (11, .int .i64 0)] [(1000, .box 58 [.int .i64 s2.1, .int .i64 s2.2])] ?_
  refine AW.block ?_
  obtain ⟨rv6, hw2, ho3⟩ := Option.bind_eq_some_iff.1 h
  refine AW.loopO (slices_Compare_b1 s1 s2) (fun st1 => ⟨fr [(0, .sl (.int .i64) s1), (1, .vw 1000 1 0 2), (9, .sl (.int .i64) s1), (10, .int .i64 (s1.length : Int)), (11, .int .i64 st1)], hpGet [(1000, .box 58 [.int .i64 s2.1, .int .i64 s2.2])], gt⟩) 0 hw2 (zL [] [] []) ?_
  as_aux_lemma =>
   intro st1 x5 h hd4
   unfold slices_Compare_b1 at h
   refine zo ?_
   refine zB [(0, .sl (.int .i64) s1), (1, .vw 1000 1 0 2), (9, .sl (.int .i64) s1), (10, .int .i64 (s1.length : Int)), (11, .int .i64 st1), (12, .bool (decide (st1 < (s1.length : Int))))] [(1000, .box 58 [.int .i64 s2.1, .int .i64 s2.2])] ?_
   refine AW.seq ?_
   refine zQ h (fun hb7 h => ?_) (fun hb7 h => ?_)
   ·refine zk ?_
    refine AW.seq ?_
    refine AW.block ?_
    refine zo ?_
    obtain ⟨c8, h⟩ := ck_some.1 h
    obtain ⟨c9, h⟩ := ck_some.1 h
    refine zB [(0, .sl (.int .i64) s1), (1, .vw 1000 1 0 2), (5, .int .i64 st1), (6, .int .i64 (s1.getD st1.toNat 0)), (9, .sl (.int .i64) s1), (10, .int .i64 (s1.length : Int)), (11, .int .i64 st1)] [(1000, .box 58 [.int .i64 s2.1, .int .i64 s2.2])] ?_
    refine AW.seq ?_
    refine zo ?_
    refine zB [(0, .sl (.int .i64) s1), (1, .vw 1000 1 0 2), (5, .int .i64 st1), (6, .int .i64 (s1.getD st1.toNat 0)), (9, .sl (.int .i64) s1), (10, .int .i64 (s1.length : Int)), (11, .int .i64 st1), (19, .bool (decide (2 ≤ st1)))] [(1000, .box 58 [.int .i64 s2.1, .int .i64 s2.2])] ?_
    refine zQ h (fun hb10 h => ?_) (fun hb10 h => ?_)
    ·refine zo ?_
     refine zB [(4, .int .i64 1)] [(1000, .box 58 [.int .i64 s2.1, .int .i64 s2.2])] ?_
     refine zr ?_
     refine ablock_r ?_
     refine athen_r ?_
     obtain rfl := Option.some.inj h
     rw [← hd4 _ rfl] at ho3
     have h := ho3
     try simp only at h
     refine athen_r ?_
     refine ablock_r ?_
     refine athen_r ?_
     obtain rfl := Option.some.inj h
     exact zR [] [] []
    ·refine zk ?_
     refine AW.have1 (fun b2 : Int × Int × Int => slices_Compare_k2 b2 = some x5) (fun b2 => ⟨fr [(0, .sl (.int .i64) s1), (1, .vw 1000 1 0 2), (6, .int .i64 b2.1), (7, .int .i64 b2.2.1), (9, .sl (.int .i64) s1), (10, .int .i64 (s1.length : Int)), (11, .int .i64 b2.2.2)], hpGet [(1000, .box 58 [.int .i64 s2.1, .int .i64 s2.2])], gt⟩) (fun b2 h => ?_) (fun hk_slices_Compare_k2 => ?_)
     ·as_aux_lemma =>
       unfold slices_Compare_k2 at h
       refine zo ?_
       refine zS 2 [(0, .sl (.int .i64) s1), (1, .vw 1000 1 0 2), (9, .sl (.int .i64) s1), (10, .int .i64 (s1.length : Int)), (11, .int .i64 b2.2.2), (24, .int .i64 b2.1), (25, .int .i64 b2.2.1)] [(1000, .box 58 [.int .i64 s2.1, .int .i64 s2.2])] ?_
       obtain ⟨v0, hv11, h⟩ := Option.bind_eq_some_iff.1 h
       refine zC [] [] (hc_cmp_Compare b2.1 b2.2.1 hv11) [(0, .sl (.int .i64) s1), (1, .vw 1000 1 0 2), (9, .sl (.int .i64) s1), (10, .int .i64 (s1.length : Int)), (11, .int .i64 b2.2.2), (26, .int .i64 v0)] [(1000, .box 58 [.int .i64 s2.1, .int .i64 s2.2])] ?_
       refine zB [(0, .sl (.int .i64) s1), (1, .vw 1000 1 0 2), (8, .int .i64 v0), (9, .sl (.int .i64) s1), (10, .int .i64 (s1.length : Int)), (11, .int .i64 b2.2.2)] [(1000, .box 58 [.int .i64 s2.1, .int .i64 s2.2])] ?_
       refine zo ?_
       refine zB [(0, .sl (.int .i64) s1), (1, .vw 1000 1 0 2), (8, .int .i64 v0), (9, .sl (.int .i64) s1), (10, .int .i64 (s1.length : Int)), (11, .int .i64 b2.2.2), (28, .bool (!(decide (v0 = 0))))] [(1000, .box 58 [.int .i64 s2.1, .int .i64 s2.2])] ?_
       refine zQ h (fun hb12 h => ?_) (fun hb12 h => ?_)
       ·refine zo ?_
        refine zB [(4, .int .i64 v0)] [(1000, .box 58 [.int .i64 s2.1, .int .i64 s2.2])] ?_
        refine AW.ret ?_
        refine ablock_r ?_
        refine athen_r ?_
        obtain rfl := Option.some.inj h
        rw [← hd4 _ rfl] at ho3
        have h := ho3
        try simp only at h
        refine athen_r ?_
        refine ablock_r ?_
        refine athen_r ?_
        obtain rfl := Option.some.inj h
        exact zR [] [] []
       ·refine zm ?_
        refine athen_n ?_
        refine AW.ops ?_
        obtain ⟨c13, h⟩ := ck_some.1 h
        refine zA [(0, .sl (.int .i64) s1), (1, .vw 1000 1 0 2), (9, .sl (.int .i64) s1), (10, .int .i64 (s1.length : Int)), (11, .int .i64 (b2.2.2 + 1))] [(1000, .box 58 [.int .i64 s2.1, .int .i64 s2.2])] ?_
        obtain rfl := Option.some.inj h
        exact ⟨_, rfl, zL [] [] []⟩
     ·refine zo ?_
      obtain ⟨c14, h⟩ := ck_some.1 h
      obtain ⟨c15, h⟩ := ck_some.1 h
      refine zS 2 [(0, .sl (.int .i64) s1), (1, .vw 1000 1 0 2), (6, .int .i64 (s1.getD st1.toNat 0)), (9, .sl (.int .i64) s1), (10, .int .i64 (s1.length : Int)), (11, .int .i64 st1), (20, .vw 1000 1 0 2), (21, .int .i64 st1)] [(1000, .box 58 [.int .i64 s2.1, .int .i64 s2.2])] ?_
      rcases Bool.eq_false_or_eq_true (decide (st1 = 0)) with hb16 | hb16
      ·rw [if_pos hb16] at h
       have hz17 : st1 = 0 := by simpa using hb16
       refine zT [(0, .sl (.int .i64) s1), (1, .vw 1000 1 0 2), (6, .int .i64 (s1.getD 0 0)), (9, .sl (.int .i64) s1), (10, .int .i64 (s1.length : Int)), (11, .int .i64 0), (20, .vw 1000 1 0 2), (21, .int .i64 0)] [(1000, .box 58 [.int .i64 s2.1, .int .i64 s2.2])] gt ?_
       refine zB [(0, .sl (.int .i64) s1), (1, .vw 1000 1 0 2), (6, .int .i64 (s1.getD 0 0)), (7, .int .i64 s2.1), (9, .sl (.int .i64) s1), (10, .int .i64 (s1.length : Int)), (11, .int .i64 0)] [(1000, .box 58 [.int .i64 s2.1, .int .i64 s2.2])] ?_
       exact AW.weaken (zL [] [] []) (hk_slices_Compare_k2 _ h)
      ·rw [if_neg (Bool.eq_false_iff.1 hb16)] at h
       have hz17 : st1 = 1 := by have := of_decide_eq_false hb16; omega
       refine zT [(0, .sl (.int .i64) s1), (1, .vw 1000 1 0 2), (6, .int .i64 (s1.getD 1 0)), (9, .sl (.int .i64) s1), (10, .int .i64 (s1.length : Int)), (11, .int .i64 1), (20, .vw 1000 1 0 2), (21, .int .i64 1)] [(1000, .box 58 [.int .i64 s2.1, .int .i64 s2.2])] gt ?_
       refine zB [(0, .sl (.int .i64) s1), (1, .vw 1000 1 0 2), (6, .int .i64 (s1.getD 1 0)), (7, .int .i64 s2.2), (9, .sl (.int .i64) s1), (10, .int .i64 (s1.length : Int)), (11, .int .i64 1)] [(1000, .box 58 [.int .i64 s2.1, .int .i64 s2.2])] ?_
       exact AW.weaken (zL [] [] []) (hk_slices_Compare_k2 _ h)
   ·refine AW.exit ?_
    refine athen_e ?_
    obtain rfl := Option.some.inj h
    rw [← hd4 _ rfl] at ho3
    have h := ho3
    try simp only at h
    refine athen_e ?_
    refine ablock_s ?_
    refine athen_n ?_
    exact AW.weaken (zL [] [] []) (hk_slices_Compare_k1 () h)

end Go.Proofs.Ytifleoceebaooaa
