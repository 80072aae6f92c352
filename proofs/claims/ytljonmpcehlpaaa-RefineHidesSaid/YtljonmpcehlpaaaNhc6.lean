/-
  Made by wip/tool/dc.py out of the print of the program: contracts.
-/
import Derived.Test.YtljonmpcehlpaaaRfp
import Derived.Test.YtljonmpcehlpaaaShr
import Derived.Test.YtljonmpcehlpaaaNhc1
import Derived.Test.YtljonmpcehlpaaaNhc2
import Derived.Test.YtljonmpcehlpaaaNhc5
namespace Go.Proofs.Ytljonmpcehlpaaa
open Go.RowKit

set_option linter.unusedSimpArgs false
set_option linter.unusedVariables false
set_option linter.constructorNameAsVariable false

set_option maxRecDepth 100000
set_option maxHeartbeats 2000000

theorem hc_refine_two_best (t : ((Int × (List (Int × Int × Int))) × (El T69)) × (Int × (List (Int × Int × Int))) × (El T69)) {r : (El T94)} (h : refine_two_best t = some r) : HC Try.prog 81 [] [.agg (.int .i64 t.1.1.1 :: (.sl (.pair (.int .i64) (.pair (.int .i64) (.int .i64))) t.1.1.2 :: (cellsX T69 t.1.2 ++ (.int .i64 t.2.1.1 :: (.sl (.pair (.int .i64) (.pair (.int .i64) (.int .i64))) t.2.1.2 :: (cellsX T69 t.2.2))))))] [] (.agg (cellsX T94 r)) := by
 unfold refine_two_best at h
 refine zH Try.func81 [.cell 2 94] 34 ?_
 refine zo ?_
 refine zB [(1, .bp 1 0), (2, .bp 2 0)] [(1, .box 90 (.int .i64 t.1.1.1 :: (.sl (.pair (.int .i64) (.pair (.int .i64) (.int .i64))) t.1.1.2 :: (cellsX T69 t.1.2 ++ (.int .i64 t.2.1.1 :: (.sl (.pair (.int .i64) (.pair (.int .i64) (.int .i64))) t.2.1.2 :: (cellsX T69 t.2.2))))))), (2, .box 94 (cellsX T94 (Ty.dflt T94)))] ?_
 refine zo ?_
 refine zB [(1, .bp 1 0), (2, .bp 2 0), (3, .bp 3 0)] [(1, .box 90 (.int .i64 t.1.1.1 :: (.sl (.pair (.int .i64) (.pair (.int .i64) (.int .i64))) t.1.1.2 :: (cellsX T69 t.1.2 ++ (.int .i64 t.2.1.1 :: (.sl (.pair (.int .i64) (.pair (.int .i64) (.int .i64))) t.2.1.2 :: (cellsX T69 t.2.2))))))), (2, .box 94 (cellsX T94 (Ty.dflt T94))), (3, .box 94 (cellsX T94 (Ty.dflt T94)))] ?_
 refine AW.have1 (fun b1 : (El T94) => refine_two_best_k1 t b1 = some r) (fun b1 => ⟨fr [(1, .bp 1 0), (2, .bp 2 0), (3, .bp 3 0)], hpGet [(1, .box 90 (.int .i64 t.1.1.1 :: (.sl (.pair (.int .i64) (.pair (.int .i64) (.int .i64))) t.1.1.2 :: (cellsX T69 t.1.2 ++ (.int .i64 t.2.1.1 :: (.sl (.pair (.int .i64) (.pair (.int .i64) (.int .i64))) t.2.1.2 :: (cellsX T69 t.2.2))))))), (2, .box 94 (cellsX T94 (Ty.dflt T94))), (3, .box 94 (cellsX T94 b1))], gt⟩) (fun b1 h => ?_) (fun hk_refine_two_best_k1 => ?_)
 ·as_aux_lemma =>
   unfold refine_two_best_k1 at h
   refine AW.have1 (fun b2 : (El T94) => refine_two_best_k2 b2 = some r) (fun b2 => ⟨fr [(2, .bp 2 0), (3, .bp 3 0)], hpGet [(2, .box 94 (cellsX T94 (Ty.dflt T94))), (3, .box 94 (cellsX T94 b2))], gt⟩) (fun b2 h => ?_) (fun hk_refine_two_best_k2 => ?_)
   ·as_aux_lemma =>
     unfold refine_two_best_k2 at h
     refine zo ?_
     refine zB [(2, .bp 2 0)] [(2, .box 94 (cellsX T94 b2))] ?_
     refine AW.ret ?_
     obtain rfl := Option.some.inj h
     exact zR [] [] []
   ·refine AW.seq ?_
    refine zo ?_
    refine zS 2 [(1, .bp 1 0), (2, .bp 2 0), (3, .bp 3 0), (22, .agg (.int .i64 t.1.1.1 :: (.sl (.pair (.int .i64) (.pair (.int .i64) (.int .i64))) t.1.1.2 :: (cellsX T69 t.1.2 ++ (.int .i64 t.2.1.1 :: (.sl (.pair (.int .i64) (.pair (.int .i64) (.int .i64))) t.2.1.2 :: (cellsX T69 t.2.2))))))), (23, .agg (cellsX T94 b1))] [(1, .box 90 (.int .i64 t.1.1.1 :: (.sl (.pair (.int .i64) (.pair (.int .i64) (.int .i64))) t.1.1.2 :: (cellsX T69 t.1.2 ++ (.int .i64 t.2.1.1 :: (.sl (.pair (.int .i64) (.pair (.int .i64) (.int .i64))) t.2.1.2 :: (cellsX T69 t.2.2))))))), (2, .box 94 (cellsX T94 (Ty.dflt T94))), (3, .box 94 (cellsX T94 b1))] ?_
    obtain ⟨v0, hv1, h⟩ := Option.bind_eq_some_iff.1 h
    refine zC [] [] (hc_refine_two_held t b1 hv1) [(1, .bp 1 0), (2, .bp 2 0), (3, .bp 3 0), (24, .agg (cellsX T94 v0))] [(1, .box 90 (.int .i64 t.1.1.1 :: (.sl (.pair (.int .i64) (.pair (.int .i64) (.int .i64))) t.1.1.2 :: (cellsX T69 t.1.2 ++ (.int .i64 t.2.1.1 :: (.sl (.pair (.int .i64) (.pair (.int .i64) (.int .i64))) t.2.1.2 :: (cellsX T69 t.2.2))))))), (2, .box 94 (cellsX T94 (Ty.dflt T94))), (3, .box 94 (cellsX T94 b1))] ?_
    refine zB [(1, .bp 1 0), (2, .bp 2 0), (3, .bp 3 0), (5, .bp 5 0)] [(1, .box 90 (.int .i64 t.1.1.1 :: (.sl (.pair (.int .i64) (.pair (.int .i64) (.int .i64))) t.1.1.2 :: (cellsX T69 t.1.2 ++ (.int .i64 t.2.1.1 :: (.sl (.pair (.int .i64) (.pair (.int .i64) (.int .i64))) t.2.1.2 :: (cellsX T69 t.2.2))))))), (2, .box 94 (cellsX T94 (Ty.dflt T94))), (3, .box 94 (cellsX T94 b1)), (5, .box 94 (cellsX T94 v0))] ?_
    refine AW.block ?_
    obtain ⟨rv6, hw2, ho3⟩ := Option.bind_eq_some_iff.1 h
    refine AW.loopO (refine_two_best_b2 t) (fun st2 => ⟨fr [(1, .bp 1 0), (2, .bp 2 0), (3, .bp 3 0), (5, .bp 5 0)], hpGet [(1, .box 90 (.int .i64 t.1.1.1 :: (.sl (.pair (.int .i64) (.pair (.int .i64) (.int .i64))) t.1.1.2 :: (cellsX T69 t.1.2 ++ (.int .i64 t.2.1.1 :: (.sl (.pair (.int .i64) (.pair (.int .i64) (.int .i64))) t.2.1.2 :: (cellsX T69 t.2.2))))))), (2, .box 94 (cellsX T94 (Ty.dflt T94))), (3, .box 94 (cellsX T94 st2.1)), (5, .box 94 (cellsX T94 st2.2))], gt⟩) (b1, v0) hw2 (zL [] [] []) ?_
    as_aux_lemma =>
     intro st2 x5 h hd4
     unfold refine_two_best_b2 at h
     refine AW.seq ?_
     refine zo ?_
     refine zS 2 [(1, .bp 1 0), (2, .bp 2 0), (3, .bp 3 0), (5, .bp 5 0), (25, .agg (cellsX T94 st2.2)), (26, .agg (cellsX T94 st2.1))] [(1, .box 90 (.int .i64 t.1.1.1 :: (.sl (.pair (.int .i64) (.pair (.int .i64) (.int .i64))) t.1.1.2 :: (cellsX T69 t.1.2 ++ (.int .i64 t.2.1.1 :: (.sl (.pair (.int .i64) (.pair (.int .i64) (.int .i64))) t.2.1.2 :: (cellsX T69 t.2.2))))))), (2, .box 94 (cellsX T94 (Ty.dflt T94))), (3, .box 94 (cellsX T94 st2.1)), (5, .box 94 (cellsX T94 st2.2))] ?_
     obtain ⟨c7, h⟩ := ck_some.1 h
     obtain ⟨c8, h⟩ := ck_some.1 h
     refine AO.aggEq (neg := true) eqty_94 (by decide) rfl rfl (lx := (cellsX T94 st2.2)) (ly := (cellsX T94 st2.1)) (by first | rfl | (simp only [go_sem]) <;> (with_reducible and_intros) <;> first | assumption | rfl | omega | (unfold maxLen; omega)) (by first | rfl | (simp only [go_sem]) <;> (with_reducible and_intros) <;> first | assumption | rfl | omega | (unfold maxLen; omega)) (by first | rfl | (simp only [go_sem]) <;> (with_reducible and_intros) <;> first | assumption | rfl | omega | (unfold maxLen; omega)) (by first | rfl | (simp only [go_sem]) <;> (with_reducible and_intros) <;> first | assumption | rfl | omega | (unfold maxLen; omega)) (by first | assumption | omega | (simp only [go_sem]) <;> (with_reducible and_intros) <;> first | assumption | rfl | omega | (unfold maxLen; omega)) (by first | assumption | omega | (simp only [go_sem]) <;> (with_reducible and_intros) <;> first | assumption | rfl | omega | (unfold maxLen; omega)) ?_
     refine zT [(1, .bp 1 0), (2, .bp 2 0), (3, .bp 3 0), (5, .bp 5 0), (27, .bool (!(decide (st2.2 = st2.1))))] [(1, .box 90 (.int .i64 t.1.1.1 :: (.sl (.pair (.int .i64) (.pair (.int .i64) (.int .i64))) t.1.1.2 :: (cellsX T69 t.1.2 ++ (.int .i64 t.2.1.1 :: (.sl (.pair (.int .i64) (.pair (.int .i64) (.int .i64))) t.2.1.2 :: (cellsX T69 t.2.2))))))), (2, .box 94 (cellsX T94 (Ty.dflt T94))), (3, .box 94 (cellsX T94 st2.1)), (5, .box 94 (cellsX T94 st2.2))] gt ?_
     refine zB [(1, .bp 1 0), (2, .bp 2 0), (3, .bp 3 0), (5, .bp 5 0), (27, .bool (!(decide (st2.2 = st2.1))))] [(1, .box 90 (.int .i64 t.1.1.1 :: (.sl (.pair (.int .i64) (.pair (.int .i64) (.int .i64))) t.1.1.2 :: (cellsX T69 t.1.2 ++ (.int .i64 t.2.1.1 :: (.sl (.pair (.int .i64) (.pair (.int .i64) (.int .i64))) t.2.1.2 :: (cellsX T69 t.2.2))))))), (2, .box 94 (cellsX T94 (Ty.dflt T94))), (3, .box 94 (cellsX T94 st2.1)), (5, .box 94 (cellsX T94 st2.2))] ?_
     refine zQ h (fun hb9 h => ?_) (fun hb9 h => ?_)
     ·refine zk ?_
      refine AW.seq ?_
      refine AW.block ?_
      refine AW.ops ?_
      refine zA [(1, .bp 1 0), (2, .bp 2 0), (3, .bp 3 0), (5, .bp 5 0)] [(1, .box 90 (.int .i64 t.1.1.1 :: (.sl (.pair (.int .i64) (.pair (.int .i64) (.int .i64))) t.1.1.2 :: (cellsX T69 t.1.2 ++ (.int .i64 t.2.1.1 :: (.sl (.pair (.int .i64) (.pair (.int .i64) (.int .i64))) t.2.1.2 :: (cellsX T69 t.2.2))))))), (2, .box 94 (cellsX T94 (Ty.dflt T94))), (3, .box 94 (cellsX T94 st2.2)), (5, .box 94 (cellsX T94 st2.2))] ?_
      refine ablock_n ?_
      refine athen_n ?_
      refine AW.seq ?_
      refine zo ?_
      refine zB [(1, .bp 1 0), (2, .bp 2 0), (3, .bp 3 0), (32, .agg (cellsX T94 st2.2))] [(1, .box 90 (.int .i64 t.1.1.1 :: (.sl (.pair (.int .i64) (.pair (.int .i64) (.int .i64))) t.1.1.2 :: (cellsX T69 t.1.2 ++ (.int .i64 t.2.1.1 :: (.sl (.pair (.int .i64) (.pair (.int .i64) (.int .i64))) t.2.1.2 :: (cellsX T69 t.2.2))))))), (2, .box 94 (cellsX T94 (Ty.dflt T94))), (3, .box 94 (cellsX T94 st2.2))] ?_
      refine AW.ops ?_
      refine zB [(1, .bp 1 0), (2, .bp 2 0), (3, .bp 3 0), (5, .bp 5 0)] [(1, .box 90 (.int .i64 t.1.1.1 :: (.sl (.pair (.int .i64) (.pair (.int .i64) (.int .i64))) t.1.1.2 :: (cellsX T69 t.1.2 ++ (.int .i64 t.2.1.1 :: (.sl (.pair (.int .i64) (.pair (.int .i64) (.int .i64))) t.2.1.2 :: (cellsX T69 t.2.2))))))), (2, .box 94 (cellsX T94 (Ty.dflt T94))), (3, .box 94 (cellsX T94 st2.2)), (5, .box 94 (cellsX T94 st2.2))] ?_
      refine AW.ops ?_
      refine zS 2 [(1, .bp 1 0), (2, .bp 2 0), (3, .bp 3 0), (5, .bp 5 0), (28, .agg (.int .i64 t.1.1.1 :: (.sl (.pair (.int .i64) (.pair (.int .i64) (.int .i64))) t.1.1.2 :: (cellsX T69 t.1.2 ++ (.int .i64 t.2.1.1 :: (.sl (.pair (.int .i64) (.pair (.int .i64) (.int .i64))) t.2.1.2 :: (cellsX T69 t.2.2))))))), (29, .agg (cellsX T94 st2.2))] [(1, .box 90 (.int .i64 t.1.1.1 :: (.sl (.pair (.int .i64) (.pair (.int .i64) (.int .i64))) t.1.1.2 :: (cellsX T69 t.1.2 ++ (.int .i64 t.2.1.1 :: (.sl (.pair (.int .i64) (.pair (.int .i64) (.int .i64))) t.2.1.2 :: (cellsX T69 t.2.2))))))), (2, .box 94 (cellsX T94 (Ty.dflt T94))), (3, .box 94 (cellsX T94 st2.2)), (5, .box 94 (cellsX T94 st2.2))] ?_
      obtain ⟨v0_2, hv10, h⟩ := Option.bind_eq_some_iff.1 h
      refine zC [] [] (hc_refine_two_held t st2.2 hv10) [(1, .bp 1 0), (2, .bp 2 0), (3, .bp 3 0), (5, .bp 5 0), (30, .agg (cellsX T94 v0_2))] [(1, .box 90 (.int .i64 t.1.1.1 :: (.sl (.pair (.int .i64) (.pair (.int .i64) (.int .i64))) t.1.1.2 :: (cellsX T69 t.1.2 ++ (.int .i64 t.2.1.1 :: (.sl (.pair (.int .i64) (.pair (.int .i64) (.int .i64))) t.2.1.2 :: (cellsX T69 t.2.2))))))), (2, .box 94 (cellsX T94 (Ty.dflt T94))), (3, .box 94 (cellsX T94 st2.2)), (5, .box 94 (cellsX T94 st2.2))] ?_
      refine zA [(1, .bp 1 0), (2, .bp 2 0), (3, .bp 3 0), (5, .bp 5 0)] [(1, .box 90 (.int .i64 t.1.1.1 :: (.sl (.pair (.int .i64) (.pair (.int .i64) (.int .i64))) t.1.1.2 :: (cellsX T69 t.1.2 ++ (.int .i64 t.2.1.1 :: (.sl (.pair (.int .i64) (.pair (.int .i64) (.int .i64))) t.2.1.2 :: (cellsX T69 t.2.2))))))), (2, .box 94 (cellsX T94 (Ty.dflt T94))), (3, .box 94 (cellsX T94 st2.2)), (5, .box 94 (cellsX T94 v0_2))] ?_
      obtain rfl := Option.some.inj h
      exact ⟨_, rfl, zL [] [] []⟩
     ·refine AW.exit ?_
      refine athen_e ?_
      obtain rfl := Option.some.inj h
      rw [← hd4 _ rfl] at ho3
      have h := ho3
      refine athen_e ?_
      refine ablock_s ?_
      refine athen_n ?_
      exact AW.weaken (zL [] [] []) (hk_refine_two_best_k2 _ h)
 ·refine AW.seq ?_
  refine zo ?_
  refine zB [(1, .bp 1 0), (2, .bp 2 0), (3, .bp 3 0), (9, .int .i64 t.1.1.1), (10, .int .i64 0)] [(1, .box 90 (.int .i64 t.1.1.1 :: (.sl (.pair (.int .i64) (.pair (.int .i64) (.int .i64))) t.1.1.2 :: (cellsX T69 t.1.2 ++ (.int .i64 t.2.1.1 :: (.sl (.pair (.int .i64) (.pair (.int .i64) (.int .i64))) t.2.1.2 :: (cellsX T69 t.2.2))))))), (2, .box 94 (cellsX T94 (Ty.dflt T94))), (3, .box 94 (cellsX T94 (Ty.dflt T94)))] ?_
  refine AW.block ?_
  obtain ⟨rv15, hw11, ho12⟩ := Option.bind_eq_some_iff.1 h
  refine AW.loopO (refine_two_best_b1 t) (fun st1 => ⟨fr [(1, .bp 1 0), (2, .bp 2 0), (3, .bp 3 0), (9, .int .i64 t.1.1.1), (10, .int .i64 st1.2)], hpGet [(1, .box 90 (.int .i64 t.1.1.1 :: (.sl (.pair (.int .i64) (.pair (.int .i64) (.int .i64))) t.1.1.2 :: (cellsX T69 t.1.2 ++ (.int .i64 t.2.1.1 :: (.sl (.pair (.int .i64) (.pair (.int .i64) (.int .i64))) t.2.1.2 :: (cellsX T69 t.2.2))))))), (2, .box 94 (cellsX T94 (Ty.dflt T94))), (3, .box 94 (cellsX T94 st1.1))], gt⟩) ((Ty.dflt T94), 0) hw11 (zL [] [] []) ?_
  as_aux_lemma =>
   intro st1 x14 h hd13
   unfold refine_two_best_b1 at h
   refine zo ?_
   refine zB [(1, .bp 1 0), (2, .bp 2 0), (3, .bp 3 0), (9, .int .i64 t.1.1.1), (10, .int .i64 st1.2), (11, .bool (decide (st1.2 < t.1.1.1)))] [(1, .box 90 (.int .i64 t.1.1.1 :: (.sl (.pair (.int .i64) (.pair (.int .i64) (.int .i64))) t.1.1.2 :: (cellsX T69 t.1.2 ++ (.int .i64 t.2.1.1 :: (.sl (.pair (.int .i64) (.pair (.int .i64) (.int .i64))) t.2.1.2 :: (cellsX T69 t.2.2))))))), (2, .box 94 (cellsX T94 (Ty.dflt T94))), (3, .box 94 (cellsX T94 st1.1))] ?_
   refine AW.seq ?_
   refine zQ h (fun hb16 h => ?_) (fun hb16 h => ?_)
   ·refine zk ?_
    refine AW.seq ?_
    refine AW.block ?_
    refine zo ?_
    refine zB [(1, .bp 1 0), (2, .bp 2 0), (3, .bp 3 0), (4, .int .i64 st1.2), (9, .int .i64 t.1.1.1), (10, .int .i64 st1.2)] [(1, .box 90 (.int .i64 t.1.1.1 :: (.sl (.pair (.int .i64) (.pair (.int .i64) (.int .i64))) t.1.1.2 :: (cellsX T69 t.1.2 ++ (.int .i64 t.2.1.1 :: (.sl (.pair (.int .i64) (.pair (.int .i64) (.int .i64))) t.2.1.2 :: (cellsX T69 t.2.2))))))), (2, .box 94 (cellsX T94 (Ty.dflt T94))), (3, .box 94 (cellsX T94 st1.1))] ?_
    refine AW.ops ?_
    refine zS 5 [(1, .bp 1 0), (2, .bp 2 0), (3, .bp 3 0), (9, .int .i64 t.1.1.1), (10, .int .i64 st1.2), (13, .int .i64 st1.2), (17, .int .i64 t.2.1.1)] [(1, .box 90 (.int .i64 t.1.1.1 :: (.sl (.pair (.int .i64) (.pair (.int .i64) (.int .i64))) t.1.1.2 :: (cellsX T69 t.1.2 ++ (.int .i64 t.2.1.1 :: (.sl (.pair (.int .i64) (.pair (.int .i64) (.int .i64))) t.2.1.2 :: (cellsX T69 t.2.2))))))), (2, .box 94 (cellsX T94 (Ty.dflt T94))), (3, .box 94 (cellsX T94 st1.1))] ?_
    obtain ⟨c17, h⟩ := ck_some.1 h
    obtain ⟨c18, h⟩ := ck_some.1 h
    obtain ⟨c19, h⟩ := ck_some.1 h
    obtain ⟨c20, h⟩ := ck_some.1 h
    have hx21 : (0 + st1.2.toNat * 1) < 6 := by omega
    refine zA [(1, .bp 1 0), (2, .bp 2 0), (3, .bp 3 0), (9, .int .i64 t.1.1.1), (10, .int .i64 st1.2)] [(1, .box 90 (.int .i64 t.1.1.1 :: (.sl (.pair (.int .i64) (.pair (.int .i64) (.int .i64))) t.1.1.2 :: (cellsX T69 t.1.2 ++ (.int .i64 t.2.1.1 :: (.sl (.pair (.int .i64) (.pair (.int .i64) (.int .i64))) t.2.1.2 :: (cellsX T69 t.2.2))))))), (2, .box 94 (cellsX T94 (Ty.dflt T94))), (3, .box 94 (cellsX T94 (setInt T94 st1.1 (0 + st1.2.toNat * 1) ((ishl .u8 1 t.2.1.1) - 1))))] ?_
    refine ablock_n ?_
    refine athen_n ?_
    refine AW.ops ?_
    obtain ⟨c22, h⟩ := ck_some.1 h
    refine zA [(1, .bp 1 0), (2, .bp 2 0), (3, .bp 3 0), (9, .int .i64 t.1.1.1), (10, .int .i64 (st1.2 + 1))] [(1, .box 90 (.int .i64 t.1.1.1 :: (.sl (.pair (.int .i64) (.pair (.int .i64) (.int .i64))) t.1.1.2 :: (cellsX T69 t.1.2 ++ (.int .i64 t.2.1.1 :: (.sl (.pair (.int .i64) (.pair (.int .i64) (.int .i64))) t.2.1.2 :: (cellsX T69 t.2.2))))))), (2, .box 94 (cellsX T94 (Ty.dflt T94))), (3, .box 94 (cellsX T94 (setInt T94 st1.1 (0 + st1.2.toNat * 1) ((ishl .u8 1 t.2.1.1) - 1))))] ?_
    obtain rfl := Option.some.inj h
    exact ⟨_, rfl, zL [] [] []⟩
   ·refine AW.exit ?_
    refine athen_e ?_
    obtain rfl := Option.some.inj h
    rw [← hd13 _ rfl] at ho12
    have h := ho12
    refine athen_e ?_
    refine ablock_s ?_
    refine athen_n ?_
    exact AW.weaken (zL [] [] []) (hk_refine_two_best_k1 _ h)

theorem hc_refine_Refines (c : Int × (List (Int × Int × Int))) (a : Int × (List (Int × Int × Int))) {r : Bool × Int} (h : refine_Refines c a = some r) : HC Try.prog 39 [] [.agg [.int .i64 c.1, .sl (.pair (.int .i64) (.pair (.int .i64) (.int .i64))) c.2], .agg [.int .i64 a.1, .sl (.pair (.int .i64) (.pair (.int .i64) (.int .i64))) a.2]] [] (.tup [.bool r.1, .int .i64 r.2]) := by
 unfold refine_Refines at h
 refine zH Try.func39 [.tmp 4, .tmp 5] 21 ?_
 refine zo ?_
 refine zB [(2, .bp 2 0), (3, .bp 3 0)] [(2, .box 24 [.int .i64 c.1, .sl (.pair (.int .i64) (.pair (.int .i64) (.int .i64))) c.2]), (3, .box 24 [.int .i64 a.1, .sl (.pair (.int .i64) (.pair (.int .i64) (.int .i64))) a.2])] ?_
 refine zo ?_
 refine zS 2 [(9, .agg [.int .i64 c.1, .sl (.pair (.int .i64) (.pair (.int .i64) (.int .i64))) c.2]), (10, .agg [.int .i64 a.1, .sl (.pair (.int .i64) (.pair (.int .i64) (.int .i64))) a.2])] [] ?_
 obtain ⟨v0, hv1, h⟩ := Option.bind_eq_some_iff.1 h
 refine zC [] [] (hc_refine_twoOf c a hv1) [(11, .tup [.agg (.int .i64 v0.1 :: (.sl (.pair (.int .i64) (.pair (.int .i64) (.int .i64))) v0.2.1 :: (cellsX T69 v0.2.2.1 ++ (.int .i64 v0.2.2.2.1 :: (.sl (.pair (.int .i64) (.pair (.int .i64) (.int .i64))) v0.2.2.2.2.1 :: (cellsX T69 v0.2.2.2.2.2.1)))))), .int .i64 v0.2.2.2.2.2.2])] [] ?_
 refine zS 5 [(6, .bp 6 0), (13, .int .i64 v0.2.2.2.2.2.2)] [(6, .box 90 (.int .i64 v0.1 :: (.sl (.pair (.int .i64) (.pair (.int .i64) (.int .i64))) v0.2.1 :: (cellsX T69 v0.2.2.1 ++ (.int .i64 v0.2.2.2.1 :: (.sl (.pair (.int .i64) (.pair (.int .i64) (.int .i64))) v0.2.2.2.2.1 :: (cellsX T69 v0.2.2.2.2.2.1)))))))] ?_
 refine zB [(6, .bp 6 0), (7, .int .i64 v0.2.2.2.2.2.2)] [(6, .box 90 (.int .i64 v0.1 :: (.sl (.pair (.int .i64) (.pair (.int .i64) (.int .i64))) v0.2.1 :: (cellsX T69 v0.2.2.1 ++ (.int .i64 v0.2.2.2.1 :: (.sl (.pair (.int .i64) (.pair (.int .i64) (.int .i64))) v0.2.2.2.2.1 :: (cellsX T69 v0.2.2.2.2.2.1)))))))] ?_
 refine AW.seq ?_
 refine zo ?_
 refine zB [(6, .bp 6 0), (7, .int .i64 v0.2.2.2.2.2.2), (15, .bool (!(decide (v0.2.2.2.2.2.2 = 0))))] [(6, .box 90 (.int .i64 v0.1 :: (.sl (.pair (.int .i64) (.pair (.int .i64) (.int .i64))) v0.2.1 :: (cellsX T69 v0.2.2.1 ++ (.int .i64 v0.2.2.2.1 :: (.sl (.pair (.int .i64) (.pair (.int .i64) (.int .i64))) v0.2.2.2.2.1 :: (cellsX T69 v0.2.2.2.2.2.1)))))))] ?_
 refine zQ h (fun hb2 h => ?_) (fun hb2 h => ?_)
 ·refine zo ?_
  refine zB [(4, .bool false), (5, .int .i64 v0.2.2.2.2.2.2)] [] ?_
  refine zr ?_
  obtain rfl := Option.some.inj h
  exact zR [] [] []
 ·refine zk ?_
  refine zo ?_
  refine zS 1 [(17, .agg (.int .i64 v0.1 :: (.sl (.pair (.int .i64) (.pair (.int .i64) (.int .i64))) v0.2.1 :: (cellsX T69 v0.2.2.1 ++ (.int .i64 v0.2.2.2.1 :: (.sl (.pair (.int .i64) (.pair (.int .i64) (.int .i64))) v0.2.2.2.2.1 :: (cellsX T69 v0.2.2.2.2.2.1)))))))] [] ?_
  obtain ⟨v0_2, hv3, h⟩ := Option.bind_eq_some_iff.1 h
  refine zC [] [] (hc_refine_two_best (((v0.1, v0.2.1), v0.2.2.1), (v0.2.2.2.1, v0.2.2.2.2.1), v0.2.2.2.2.2.1) hv3) [(18, .agg (cellsX T94 v0_2))] [] ?_
  have hx4 : 0 < 6 := by omega
  refine AO.idxA tab_ok (by decide) rfl rfl tab_94 rfl tab_67 rfl rfl (by first | assumption | omega | (simp only [go_sem, hb2, hx4]) <;> (with_reducible and_intros) <;> first | assumption | rfl | omega | (unfold maxLen; omega)) (by first | assumption | omega | (simp only [go_sem, hb2, hx4]) <;> (with_reducible and_intros) <;> first | assumption | rfl | omega | (unfold maxLen; omega)) (by first | assumption | omega | (simp only [go_sem, hb2, hx4]) <;> (with_reducible and_intros) <;> first | assumption | rfl | omega | (unfold maxLen; omega)) (.inr rfl) (v := .int .u8 (intAt T94 v0_2 0)) (by first | assumption | omega | (simp only [go_sem, hb2, hx4]) <;> (with_reducible and_intros) <;> first | assumption | rfl | omega | (unfold maxLen; omega)) ?_
  refine zT [(19, .int .u8 (intAt T94 v0_2 0))] [] gt ?_
  obtain ⟨v0_3, hv5, h⟩ := Option.bind_eq_some_iff.1 h
  refine zC [] [] (hc_refine_set_has (intAt T94 v0_2 0) 0 hv5) [(20, .bool (decide ((iand .u8 (ishr .u8 (intAt T94 v0_2 0) 0) 1) = 1)))] [] ?_
  refine zB [(4, .bool (decide ((iand .u8 (ishr .u8 (intAt T94 v0_2 0) 0) 1) = 1))), (5, .int .i64 0)] [] ?_
  refine AW.ret ?_
  obtain rfl := Option.some.inj h
  exact zR [] [] []

theorem hc_linealref05_Same (a : Int × (List (Int × Int × Int))) (b : Int × (List (Int × Int × Int))) {r : Bool} (h : linealref05_Same a b = some r) : HC Try.prog 47 [] [.agg [.int .i64 a.1, .sl (.pair (.int .i64) (.pair (.int .i64) (.int .i64))) a.2], .agg [.int .i64 b.1, .sl (.pair (.int .i64) (.pair (.int .i64) (.int .i64))) b.2]] [] (.bool r) := by
 unfold linealref05_Same at h
 refine zH Try.func47 [.tmp 4] 38 ?_
 refine zo ?_
 refine zB [(2, .bp 2 0), (3, .bp 3 0)] [(2, .box 24 [.int .i64 a.1, .sl (.pair (.int .i64) (.pair (.int .i64) (.int .i64))) a.2]), (3, .box 24 [.int .i64 b.1, .sl (.pair (.int .i64) (.pair (.int .i64) (.int .i64))) b.2])] ?_
 refine AW.seq ?_
 refine zo ?_
 refine zS 5 [(2, .bp 2 0), (3, .bp 3 0), (10, .bool (!(decide (a.1 = b.1))))] [(2, .box 24 [.int .i64 a.1, .sl (.pair (.int .i64) (.pair (.int .i64) (.int .i64))) a.2]), (3, .box 24 [.int .i64 b.1, .sl (.pair (.int .i64) (.pair (.int .i64) (.int .i64))) b.2])] ?_
 refine zS 1 [(2, .bp 2 0), (3, .bp 3 0), (11, .bool (!(decide (a.1 = b.1))))] [(2, .box 24 [.int .i64 a.1, .sl (.pair (.int .i64) (.pair (.int .i64) (.int .i64))) a.2]), (3, .box 24 [.int .i64 b.1, .sl (.pair (.int .i64) (.pair (.int .i64) (.int .i64))) b.2])] ?_
 rcases zI h with ⟨hb1, h⟩ | ⟨hb1, h⟩
 ·refine zS 4 [(2, .bp 2 0), (3, .bp 3 0), (11, .bool true), (14, .cv (undef)), (15, .cv (undef))] [(2, .box 24 [.int .i64 a.1, .sl (.pair (.int .i64) (.pair (.int .i64) (.int .i64))) a.2]), (3, .box 24 [.int .i64 b.1, .sl (.pair (.int .i64) (.pair (.int .i64) (.int .i64))) b.2])] ?_
  refine zB [(2, .bp 2 0), (3, .bp 3 0), (19, .bool true)] [(2, .box 24 [.int .i64 a.1, .sl (.pair (.int .i64) (.pair (.int .i64) (.int .i64))) a.2]), (3, .box 24 [.int .i64 b.1, .sl (.pair (.int .i64) (.pair (.int .i64) (.int .i64))) b.2])] ?_
  refine AW.cond (b := true) rfl (fun _ => ?_) (fun hb2 => by cases hb2)
  refine zo ?_
  refine zB [(4, .bool false)] [] ?_
  refine zr ?_
  obtain rfl := Option.some.inj h
  exact zR [] [] []
 ·refine zS 5 [(2, .bp 2 0), (3, .bp 3 0), (11, .bool false), (14, .int .i64 (a.2.length : Int)), (16, .sl (.pair (.int .i64) (.pair (.int .i64) (.int .i64))) b.2)] [(2, .box 24 [.int .i64 a.1, .sl (.pair (.int .i64) (.pair (.int .i64) (.int .i64))) a.2]), (3, .box 24 [.int .i64 b.1, .sl (.pair (.int .i64) (.pair (.int .i64) (.int .i64))) b.2])] ?_
  refine zB [(2, .bp 2 0), (3, .bp 3 0), (19, .bool (!(decide ((a.2.length : Int) = (b.2.length : Int)))))] [(2, .box 24 [.int .i64 a.1, .sl (.pair (.int .i64) (.pair (.int .i64) (.int .i64))) a.2]), (3, .box 24 [.int .i64 b.1, .sl (.pair (.int .i64) (.pair (.int .i64) (.int .i64))) b.2])] ?_
  refine zQ h (fun hb3 h => ?_) (fun hb3 h => ?_)
  ·refine zo ?_
   refine zB [(4, .bool false)] [] ?_
   refine zr ?_
   obtain rfl := Option.some.inj h
   exact zR [] [] []
  ·refine zk ?_
   refine AW.have1 (fun _ : Unit => linealref05_Same_k1 = some r) (fun _ => ⟨fr [], hpGet [], gt⟩) (fun _ h => ?_) (fun hk_linealref05_Same_k1 => ?_)
   ·as_aux_lemma =>
     unfold linealref05_Same_k1 at h
     refine zo ?_
     refine zB [(4, .bool true)] [] ?_
     refine AW.ret ?_
     obtain rfl := Option.some.inj h
     exact zR [] [] []
   ·refine AW.seq ?_
    refine zo ?_
    refine zB [(2, .bp 2 0), (3, .bp 3 0), (22, .int .i64 (a.2.length : Int)), (23, .int .i64 0)] [(2, .box 24 [.int .i64 a.1, .sl (.pair (.int .i64) (.pair (.int .i64) (.int .i64))) a.2]), (3, .box 24 [.int .i64 b.1, .sl (.pair (.int .i64) (.pair (.int .i64) (.int .i64))) b.2])] ?_
    refine AW.block ?_
    obtain ⟨rv8, hw4, ho5⟩ := Option.bind_eq_some_iff.1 h
    refine AW.loopO (linealref05_Same_b1 a b) (fun st1 => ⟨fr [(2, .bp 2 0), (3, .bp 3 0), (22, .int .i64 (a.2.length : Int)), (23, .int .i64 st1)], hpGet [(2, .box 24 [.int .i64 a.1, .sl (.pair (.int .i64) (.pair (.int .i64) (.int .i64))) a.2]), (3, .box 24 [.int .i64 b.1, .sl (.pair (.int .i64) (.pair (.int .i64) (.int .i64))) b.2])], gt⟩) 0 hw4 (zL [] [] []) ?_
    as_aux_lemma =>
     intro st1 x7 h hd6
     unfold linealref05_Same_b1 at h
     refine zo ?_
     refine zB [(2, .bp 2 0), (3, .bp 3 0), (22, .int .i64 (a.2.length : Int)), (23, .int .i64 st1), (24, .bool (decide (st1 < (a.2.length : Int))))] [(2, .box 24 [.int .i64 a.1, .sl (.pair (.int .i64) (.pair (.int .i64) (.int .i64))) a.2]), (3, .box 24 [.int .i64 b.1, .sl (.pair (.int .i64) (.pair (.int .i64) (.int .i64))) b.2])] ?_
     refine AW.seq ?_
     refine zQ h (fun hb9 h => ?_) (fun hb9 h => ?_)
     ·refine zk ?_
      refine AW.seq ?_
      refine AW.block ?_
      refine zo ?_
      refine zB [(2, .bp 2 0), (3, .bp 3 0), (5, .int .i64 st1), (22, .int .i64 (a.2.length : Int)), (23, .int .i64 st1)] [(2, .box 24 [.int .i64 a.1, .sl (.pair (.int .i64) (.pair (.int .i64) (.int .i64))) a.2]), (3, .box 24 [.int .i64 b.1, .sl (.pair (.int .i64) (.pair (.int .i64) (.int .i64))) b.2])] ?_
      refine AW.seq ?_
      refine AW.drawTail tab_ok mixed_ok 10 [] [] (by decide) (by kernel_rfl) (by kernel_rfl) (by decide) ?_
      dsimp only [List.take_succ_cons, List.take_zero]
      obtain ⟨c11, h⟩ := ck_some.1 h
      obtain ⟨c12, h⟩ := ck_some.1 h
      refine adops_cut 6 (fun K' hK10 => ?_)
      try dsimp only [List.drop_succ_cons, List.drop_zero, List.take_succ_cons, List.take_zero]
      simp only [go_sem, hb1, hb3, hb9]
      repeat with_reducible refine zN ?_
      refine hK10 _ ?_
      as_aux_lemma =>
       obtain ⟨c14, h⟩ := ck_some.1 h
       obtain ⟨c15, h⟩ := ck_some.1 h
       refine adops_cut 4 (fun K' hK13 => ?_)
       try dsimp only [List.drop_succ_cons, List.drop_zero, List.take_succ_cons, List.take_zero]
       simp only [go_sem, hb1, hb3, hb9]
       repeat with_reducible refine zN ?_
       refine hK13 _ ?_
       refine adops_nil ?_
       refine zT [(2, .bp 2 0), (3, .bp 3 0), (22, .int .i64 (a.2.length : Int)), (23, .int .i64 st1), (30, .agg [.int .i64 (a.2.getD st1.toNat (0, 0, 0)).1, .int .i64 (a.2.getD st1.toNat (0, 0, 0)).2.1, .int .i64 (a.2.getD st1.toNat (0, 0, 0)).2.2]), (35, .agg [.int .i64 (b.2.getD st1.toNat (0, 0, 0)).1, .int .i64 (b.2.getD st1.toNat (0, 0, 0)).2.1, .int .i64 (b.2.getD st1.toNat (0, 0, 0)).2.2])] [(2, .box 24 [.int .i64 a.1, .sl (.pair (.int .i64) (.pair (.int .i64) (.int .i64))) a.2]), (3, .box 24 [.int .i64 b.1, .sl (.pair (.int .i64) (.pair (.int .i64) (.int .i64))) b.2])] gt ?_
       obtain ⟨c16, h⟩ := ck_some.1 h
       obtain ⟨c17, h⟩ := ck_some.1 h
       obtain ⟨c18, h⟩ := ck_some.1 h
       obtain ⟨c19, h⟩ := ck_some.1 h
       obtain ⟨c20, h⟩ := ck_some.1 h
       obtain ⟨c21, h⟩ := ck_some.1 h
       refine AO.aggEq (neg := true) eqty_66 (by decide) rfl rfl (lx := [.int .i64 (a.2.getD st1.toNat (0, 0, 0)).1, .int .i64 (a.2.getD st1.toNat (0, 0, 0)).2.1, .int .i64 (a.2.getD st1.toNat (0, 0, 0)).2.2]) (ly := [.int .i64 (b.2.getD st1.toNat (0, 0, 0)).1, .int .i64 (b.2.getD st1.toNat (0, 0, 0)).2.1, .int .i64 (b.2.getD st1.toNat (0, 0, 0)).2.2]) (by first | rfl | (simp only [go_sem, hb1, hb3, hb9]) <;> (with_reducible and_intros) <;> first | assumption | rfl | omega | (unfold maxLen; omega)) (by first | rfl | (simp only [go_sem, hb1, hb3, hb9]) <;> (with_reducible and_intros) <;> first | assumption | rfl | omega | (unfold maxLen; omega)) (by first | rfl | (simp only [go_sem, hb1, hb3, hb9]) <;> (with_reducible and_intros) <;> first | assumption | rfl | omega | (unfold maxLen; omega)) (by first | rfl | (simp only [go_sem, hb1, hb3, hb9]) <;> (with_reducible and_intros) <;> first | assumption | rfl | omega | (unfold maxLen; omega)) (by first | assumption | omega | (simp only [go_sem, hb1, hb3, hb9]) <;> (with_reducible and_intros) <;> first | assumption | rfl | omega | (unfold maxLen; omega)) (by first | assumption | omega | (simp only [go_sem, hb1, hb3, hb9]) <;> (with_reducible and_intros) <;> first | assumption | rfl | omega | (unfold maxLen; omega)) ?_
       refine zT [(2, .bp 2 0), (3, .bp 3 0), (22, .int .i64 (a.2.length : Int)), (23, .int .i64 st1), (36, .bool (!(decide ((a.2.getD st1.toNat (0, 0, 0)) = (b.2.getD st1.toNat (0, 0, 0))))))] [(2, .box 24 [.int .i64 a.1, .sl (.pair (.int .i64) (.pair (.int .i64) (.int .i64))) a.2]), (3, .box 24 [.int .i64 b.1, .sl (.pair (.int .i64) (.pair (.int .i64) (.int .i64))) b.2])] gt ?_
       refine zB [(2, .bp 2 0), (3, .bp 3 0), (22, .int .i64 (a.2.length : Int)), (23, .int .i64 st1), (36, .bool (!(decide ((a.2.getD st1.toNat (0, 0, 0)) = (b.2.getD st1.toNat (0, 0, 0))))))] [(2, .box 24 [.int .i64 a.1, .sl (.pair (.int .i64) (.pair (.int .i64) (.int .i64))) a.2]), (3, .box 24 [.int .i64 b.1, .sl (.pair (.int .i64) (.pair (.int .i64) (.int .i64))) b.2])] ?_
       refine zQ h (fun hb22 h => ?_) (fun hb22 h => ?_)
       ·refine zo ?_
        refine zB [(4, .bool false)] [] ?_
        refine AW.ret ?_
        refine ablock_r ?_
        refine athen_r ?_
        obtain rfl := Option.some.inj h
        rw [← hd6 _ rfl] at ho5
        have h := ho5
        try simp only at h
        refine athen_r ?_
        refine ablock_r ?_
        refine athen_r ?_
        obtain rfl := Option.some.inj h
        exact zR [] [] []
       ·refine zm ?_
        refine athen_n ?_
        refine AW.ops ?_
        obtain ⟨c23, h⟩ := ck_some.1 h
        refine zA [(2, .bp 2 0), (3, .bp 3 0), (22, .int .i64 (a.2.length : Int)), (23, .int .i64 (st1 + 1))] [(2, .box 24 [.int .i64 a.1, .sl (.pair (.int .i64) (.pair (.int .i64) (.int .i64))) a.2]), (3, .box 24 [.int .i64 b.1, .sl (.pair (.int .i64) (.pair (.int .i64) (.int .i64))) b.2])] ?_
        obtain rfl := Option.some.inj h
        exact ⟨_, rfl, zL [] [] []⟩
     ·refine AW.exit ?_
      refine athen_e ?_
      obtain rfl := Option.some.inj h
      rw [← hd6 _ rfl] at ho5
      have h := ho5
      try simp only at h
      refine athen_e ?_
      refine ablock_s ?_
      refine athen_n ?_
      exact AW.weaken (zL [] [] []) (hk_linealref05_Same_k1 () h)

theorem hc_slices_Grow (n : Int) {r : Unit} (h : slices_Grow n = some r) : HC Try.prog 120 [] [.cv (.slice none 0 0), .int .i64 n] [(2000, .arr 66 (.pair (.int .i64) (.pair (.int .i64) (.int .i64))) [])] (.own 2000) := by
 unfold slices_Grow at h
 refine zH Try.func120 [.tmp 4] 27 ?_
 refine zo ?_
 refine zB [(0, .cv (.slice none 0 0)), (1, .int .i64 n)] [] ?_
 refine AW.seq ?_
 refine zo ?_
 refine zB [(0, .cv (.slice none 0 0)), (1, .int .i64 n), (6, .bool (decide (n < 0)))] [] ?_
 refine zQ h (fun hb1 h => ?_) (fun hb1 h => ?_)
 ·refine AW.ops ?_
  cases h
 ·refine zk ?_
  refine AW.seq ?_
  refine zo ?_
  refine zS 2 [(0, .cv (.slice none 0 0)), (8, .int .i64 n), (9, .cv (.slice none 0 0))] [] ?_
  refine AO.capNil tab_ok (by decide) rfl rfl rfl rfl rfl tab_22 rfl rfl ?_
  refine zT [(0, .cv (.slice none 0 0)), (8, .int .i64 n), (10, .int .i64 0)] [] gt ?_
  obtain ⟨c2, h⟩ := ck_some.1 h
  obtain ⟨c3, h⟩ := ck_some.1 h
  refine zB [(0, .cv (.slice none 0 0)), (1, .int .i64 (n - (0 - 0)))] [] ?_
  refine zo ?_
  refine zB [(0, .cv (.slice none 0 0)), (1, .int .i64 (n - (0 - 0))), (16, .bool (decide (0 < (n - (0 - 0)))))] [] ?_
  refine zQ h (fun hb4 h => ?_) (fun hb4 h => ?_)
  ·refine AW.ops ?_
   refine zS 2 [(0, .cv (.slice none 0 0)), (1, .int .i64 (n - (0 - 0))), (17, .cv (.slice none 0 0)), (18, .cv (.slice none 0 0))] [] ?_
   refine AO.capNil tab_ok (by decide) rfl rfl rfl rfl rfl tab_22 rfl rfl ?_
   refine zT [(0, .cv (.slice none 0 0)), (1, .int .i64 (n - (0 - 0))), (17, .cv (.slice none 0 0)), (19, .int .i64 0)] [] gt ?_
   refine AO.sliceNil tab_ok (by decide) rfl rfl tab_22 rfl tab_66 rfl rfl ?_
   refine zT [(0, .cv (.slice none 0 0)), (1, .int .i64 (n - (0 - 0))), (20, .cv (.slice none 0 0))] [] gt ?_
   refine zS 1 [(0, .cv (.slice none 0 0)), (20, .cv (.slice none 0 0)), (21, .int .i64 (n - (0 - 0)))] [] ?_
   obtain ⟨c5, h⟩ := ck_some.1 h
   obtain ⟨c6, h⟩ := ck_some.1 h
   obtain ⟨c7, h⟩ := ck_some.1 h
   refine AO.appendZeros tab_ok (by decide) (by decide) rfl rfl rfl rfl rfl tab_22 rfl tab_66 rfl tab_3 rfl rfl rfl (by first | assumption | omega | (simp only [go_sem, hb1, hb4]) <;> (with_reducible and_intros) <;> first | assumption | rfl | omega | (unfold maxLen; omega)) (by first | assumption | omega | (simp only [go_sem, hb1, hb4]) <;> (with_reducible and_intros) <;> first | assumption | rfl | omega | (unfold maxLen; omega)) (by first | assumption | omega | (simp only [go_sem, hb1, hb4]) <;> (with_reducible and_intros) <;> first | assumption | rfl | omega | (unfold maxLen; omega)) ?_
   refine zT [(0, .cv (.slice none 0 0)), (22, .own 22)] [(22, .arr 66 (.pair (.int .i64) (.pair (.int .i64) (.int .i64))) (List.replicate (n - (0 - 0)).toNat ((0, 0, 0) : Int × Int × Int)))] gt ?_
   refine zS 2 [(22, .own 22), (24, .int .i64 0)] [(22, .arr 66 (.pair (.int .i64) (.pair (.int .i64) (.int .i64))) (List.replicate (n - (0 - 0)).toNat ((0, 0, 0) : Int × Int × Int)))] ?_
   obtain ⟨c8, h⟩ := ck_some.1 h
   obtain ⟨c9, h⟩ := ck_some.1 h
   refine AO.sliceOwn tab_ok (by decide) (by decide) rfl rfl tab_22 rfl tab_66 rfl rfl rfl rfl (by first | assumption | omega | (simp only [go_sem, hb1, hb4]) <;> (with_reducible and_intros) <;> first | assumption | rfl | omega | (unfold maxLen; omega)) (by first | assumption | omega | (simp only [go_sem, hb1, hb4]) <;> (with_reducible and_intros) <;> first | assumption | rfl | omega | (unfold maxLen; omega)) ?_
   refine zT [(25, .own 25)] [(25, .arr 66 (.pair (.int .i64) (.pair (.int .i64) (.int .i64))) [])] gt ?_
   refine zB [(0, .own 25)] [(25, .arr 66 (.pair (.int .i64) (.pair (.int .i64) (.int .i64))) [])] ?_
   refine zo ?_
   refine zB [(4, .own 25)] [(25, .arr 66 (.pair (.int .i64) (.pair (.int .i64) (.int .i64))) [])] ?_
   refine AW.ret ?_
   obtain rfl := Option.some.inj h
   exact zR [] [] [(2000, 25)]
  ·refine zk ?_
   refine zo ?_
   refine zB [(4, .cv (.slice none 0 0))] [] ?_
   refine AW.ret ?_
   obtain rfl := Option.some.inj h
   exact zR [] [2000] []

theorem hc_slices_Concat (slices : List (List (Int × Int × Int))) {r : (List (Int × Int × Int))} (h : slices_Concat slices = some r) : HC Try.prog 98 [] [.sl (.sl (.pair (.int .i64) (.pair (.int .i64) (.int .i64)))) slices] [(2000, .arr 66 (.pair (.int .i64) (.pair (.int .i64) (.int .i64))) r)] (.own 2000) := by
 unfold slices_Concat at h
 refine zH Try.func98 [.tmp 2] 36 ?_
 refine zo ?_
 refine zB [(0, .sl (.sl (.pair (.int .i64) (.pair (.int .i64) (.int .i64)))) slices)] [] ?_
 refine zo ?_
 refine zB [(0, .sl (.sl (.pair (.int .i64) (.pair (.int .i64) (.int .i64)))) slices), (3, .int .i64 0)] [] ?_
 refine AW.have1 (fun b1 : Int => slices_Concat_k1 slices b1 = some r) (fun b1 => ⟨fr [(0, .sl (.sl (.pair (.int .i64) (.pair (.int .i64) (.int .i64)))) slices), (3, .int .i64 b1)], hpGet [], gt⟩) (fun b1 h => ?_) (fun hk_slices_Concat_k1 => ?_)
 ·as_aux_lemma =>
   unfold slices_Concat_k1 at h
   refine zo ?_
   refine zS 1 [(0, .sl (.sl (.pair (.int .i64) (.pair (.int .i64) (.int .i64)))) slices), (23, .int .i64 b1)] [] ?_
   obtain ⟨v0, hv1, h⟩ := Option.bind_eq_some_iff.1 h
   refine zC [] [] (hc_slices_Grow b1 hv1) [(0, .sl (.sl (.pair (.int .i64) (.pair (.int .i64) (.int .i64)))) slices), (24, .own 34000)] [(34000, .arr 66 (.pair (.int .i64) (.pair (.int .i64) (.int .i64))) [])] ?_
   refine zB [(0, .sl (.sl (.pair (.int .i64) (.pair (.int .i64) (.int .i64)))) slices), (6, .own 34000)] [(34000, .arr 66 (.pair (.int .i64) (.pair (.int .i64) (.int .i64))) [])] ?_
   refine AW.have1 (fun b2 : (List (Int × Int × Int)) => slices_Concat_k2 b2 = some r) (fun b2 => ⟨fr [(6, .own 34000)], hpGet [(34000, .arr 66 (.pair (.int .i64) (.pair (.int .i64) (.int .i64))) b2)], gt⟩) (fun b2 h => ?_) (fun hk_slices_Concat_k2 => ?_)
   ·as_aux_lemma =>
     unfold slices_Concat_k2 at h
     refine zo ?_
     refine zB [(2, .own 34000)] [(34000, .arr 66 (.pair (.int .i64) (.pair (.int .i64) (.int .i64))) b2)] ?_
     refine AW.ret ?_
     obtain rfl := Option.some.inj h
     exact zR [] [] [(2000, 34000)]
   ·refine AW.seq ?_
    refine zo ?_
    refine zB [(6, .own 34000), (25, .sl (.sl (.pair (.int .i64) (.pair (.int .i64) (.int .i64)))) slices), (26, .int .i64 (slices.length : Int)), (27, .int .i64 0)] [(34000, .arr 66 (.pair (.int .i64) (.pair (.int .i64) (.int .i64))) [])] ?_
    refine AW.block ?_
    obtain ⟨rv6, hw2, ho3⟩ := Option.bind_eq_some_iff.1 h
    refine AW.loopO (slices_Concat_b2 slices) (fun st2 => ⟨fr [(6, .own 34000), (25, .sl (.sl (.pair (.int .i64) (.pair (.int .i64) (.int .i64)))) slices), (26, .int .i64 (slices.length : Int)), (27, .int .i64 st2.2)], hpGet [(34000, .arr 66 (.pair (.int .i64) (.pair (.int .i64) (.int .i64))) st2.1)], gt⟩) ([], 0) hw2 (zL [] [] []) ?_
    as_aux_lemma =>
     intro st2 x5 h hd4
     unfold slices_Concat_b2 at h
     refine zo ?_
     refine zB [(6, .own 34000), (25, .sl (.sl (.pair (.int .i64) (.pair (.int .i64) (.int .i64)))) slices), (26, .int .i64 (slices.length : Int)), (27, .int .i64 st2.2), (28, .bool (decide (st2.2 < (slices.length : Int))))] [(34000, .arr 66 (.pair (.int .i64) (.pair (.int .i64) (.int .i64))) st2.1)] ?_
     refine AW.seq ?_
     refine zQ h (fun hb7 h => ?_) (fun hb7 h => ?_)
     ·refine zk ?_
      refine AW.seq ?_
      refine AW.block ?_
      refine zo ?_
      obtain ⟨c8, h⟩ := ck_some.1 h
      obtain ⟨c9, h⟩ := ck_some.1 h
      refine zB [(6, .own 34000), (8, .sl (.pair (.int .i64) (.pair (.int .i64) (.int .i64))) (slices.getD st2.2.toNat [])), (25, .sl (.sl (.pair (.int .i64) (.pair (.int .i64) (.int .i64)))) slices), (26, .int .i64 (slices.length : Int)), (27, .int .i64 st2.2)] [(34000, .arr 66 (.pair (.int .i64) (.pair (.int .i64) (.int .i64))) st2.1)] ?_
      refine AW.ops ?_
      obtain ⟨c10, h⟩ := ck_some.1 h
      refine zA [(6, .own 33), (25, .sl (.sl (.pair (.int .i64) (.pair (.int .i64) (.int .i64)))) slices), (26, .int .i64 (slices.length : Int)), (27, .int .i64 st2.2)] [(33, .arr 66 (.pair (.int .i64) (.pair (.int .i64) (.int .i64))) (st2.1 ++ (slices.getD st2.2.toNat [])))] ?_
      refine ablock_n ?_
      refine athen_n ?_
      refine AW.ops ?_
      obtain ⟨c11, h⟩ := ck_some.1 h
      refine zA [(6, .own 33), (25, .sl (.sl (.pair (.int .i64) (.pair (.int .i64) (.int .i64)))) slices), (26, .int .i64 (slices.length : Int)), (27, .int .i64 (st2.2 + 1))] [(33, .arr 66 (.pair (.int .i64) (.pair (.int .i64) (.int .i64))) (st2.1 ++ (slices.getD st2.2.toNat [])))] ?_
      obtain rfl := Option.some.inj h
      exact ⟨_, rfl, zL [] [] [(34000, 33)]⟩
     ·refine AW.exit ?_
      refine athen_e ?_
      obtain rfl := Option.some.inj h
      rw [← hd4 _ rfl] at ho3
      have h := ho3
      refine athen_e ?_
      refine ablock_s ?_
      refine athen_n ?_
      exact AW.weaken (zL [] [] []) (hk_slices_Concat_k2 _ h)
 ·refine AW.seq ?_
  refine zo ?_
  refine zB [(0, .sl (.sl (.pair (.int .i64) (.pair (.int .i64) (.int .i64)))) slices), (3, .int .i64 0), (9, .sl (.sl (.pair (.int .i64) (.pair (.int .i64) (.int .i64)))) slices), (10, .int .i64 (slices.length : Int)), (11, .int .i64 0)] [] ?_
  refine AW.block ?_
  obtain ⟨rv16, hw12, ho13⟩ := Option.bind_eq_some_iff.1 h
  refine AW.loopO (slices_Concat_b1 slices) (fun st1 => ⟨fr [(0, .sl (.sl (.pair (.int .i64) (.pair (.int .i64) (.int .i64)))) slices), (3, .int .i64 st1.1), (9, .sl (.sl (.pair (.int .i64) (.pair (.int .i64) (.int .i64)))) slices), (10, .int .i64 (slices.length : Int)), (11, .int .i64 st1.2)], hpGet [], gt⟩) (0, 0) hw12 (zL [] [] []) ?_
  as_aux_lemma =>
   intro st1 x15 h hd14
   unfold slices_Concat_b1 at h
   refine zo ?_
   refine zB [(0, .sl (.sl (.pair (.int .i64) (.pair (.int .i64) (.int .i64)))) slices), (3, .int .i64 st1.1), (9, .sl (.sl (.pair (.int .i64) (.pair (.int .i64) (.int .i64)))) slices), (10, .int .i64 (slices.length : Int)), (11, .int .i64 st1.2), (12, .bool (decide (st1.2 < (slices.length : Int))))] [] ?_
   refine AW.seq ?_
   refine zQ h (fun hb17 h => ?_) (fun hb17 h => ?_)
   ·refine zk ?_
    refine AW.seq ?_
    refine AW.block ?_
    refine zo ?_
    obtain ⟨c18, h⟩ := ck_some.1 h
    obtain ⟨c19, h⟩ := ck_some.1 h
    refine zB [(0, .sl (.sl (.pair (.int .i64) (.pair (.int .i64) (.int .i64)))) slices), (3, .int .i64 st1.1), (5, .sl (.pair (.int .i64) (.pair (.int .i64) (.int .i64))) (slices.getD st1.2.toNat [])), (9, .sl (.sl (.pair (.int .i64) (.pair (.int .i64) (.int .i64)))) slices), (10, .int .i64 (slices.length : Int)), (11, .int .i64 st1.2)] [] ?_
    refine zo ?_
    obtain ⟨c20, h⟩ := ck_some.1 h
    refine zB [(0, .sl (.sl (.pair (.int .i64) (.pair (.int .i64) (.int .i64)))) slices), (3, .int .i64 (st1.1 + ((slices.getD st1.2.toNat []).length : Int))), (9, .sl (.sl (.pair (.int .i64) (.pair (.int .i64) (.int .i64)))) slices), (10, .int .i64 (slices.length : Int)), (11, .int .i64 st1.2)] [] ?_
    refine zo ?_
    refine zB [(0, .sl (.sl (.pair (.int .i64) (.pair (.int .i64) (.int .i64)))) slices), (3, .int .i64 (st1.1 + ((slices.getD st1.2.toNat []).length : Int))), (9, .sl (.sl (.pair (.int .i64) (.pair (.int .i64) (.int .i64)))) slices), (10, .int .i64 (slices.length : Int)), (11, .int .i64 st1.2), (20, .bool (decide ((st1.1 + ((slices.getD st1.2.toNat []).length : Int)) < 0)))] [] ?_
    refine zQ h (fun hb21 h => ?_) (fun hb21 h => ?_)
    ·refine AW.ops ?_
     cases h
    ·refine zm ?_
     refine athen_n ?_
     refine AW.ops ?_
     obtain ⟨c22, h⟩ := ck_some.1 h
     refine zA [(0, .sl (.sl (.pair (.int .i64) (.pair (.int .i64) (.int .i64)))) slices), (3, .int .i64 (st1.1 + ((slices.getD st1.2.toNat []).length : Int))), (9, .sl (.sl (.pair (.int .i64) (.pair (.int .i64) (.int .i64)))) slices), (10, .int .i64 (slices.length : Int)), (11, .int .i64 (st1.2 + 1))] [] ?_
     obtain rfl := Option.some.inj h
     exact ⟨_, rfl, zL [] [] []⟩
   ·refine AW.exit ?_
    refine athen_e ?_
    obtain rfl := Option.some.inj h
    rw [← hd14 _ rfl] at ho13
    have h := ho13
    refine athen_e ?_
    refine ablock_s ?_
    refine athen_n ?_
    exact AW.weaken (zL [] [] []) (hk_slices_Concat_k1 _ h)

end Go.Proofs.Ytljonmpcehlpaaa
