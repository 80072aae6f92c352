/-
  Made by wip/tool/dc.py out of the print of the program: contracts.
-/
import Derived.Test.YtdicomoggfhbfaaDlp
import Derived.Test.YtdicomoggfhbfaaShd
import Derived.Test.YtdicomoggfhbfaaAvd
import Derived.Test.YtdicomoggfhbfaaDhc1
import Derived.Test.YtdicomoggfhbfaaDhc10
import Derived.Test.YtdicomoggfhbfaaDhc11
import Derived.Test.YtdicomoggfhbfaaDhc12
import Derived.Test.YtdicomoggfhbfaaDhc3
import Derived.Test.YtdicomoggfhbfaaDhc5
import Derived.Test.YtdicomoggfhbfaaDhc6
namespace Go.Proofs.Ytdicomoggfhbfaa
open Go.RowKit

set_option linter.unusedSimpArgs false
set_option linter.unusedVariables false
set_option linter.constructorNameAsVariable false

set_option maxRecDepth 100000
set_option maxHeartbeats 40000000

theorem hc_linealref09_cost (costs : List (List Int)) (l : List (Int × Int)) {r : Int} (h : linealref09_cost costs l = some r) : HC Try.prog 89 [] [.sl (.sl (.int .i64)) costs, .sl (.pair (.int .i64) (.int .i64)) l] [] (.int .i64 r) := by
 unfold linealref09_cost at h
 refine zH Try.func89 [.tmp 4] 27 ?_
 refine zo ?_
 refine zB [(0, .sl (.sl (.int .i64)) costs), (1, .sl (.pair (.int .i64) (.int .i64)) l)] [] ?_
 refine zo ?_
 refine zB [(0, .sl (.sl (.int .i64)) costs), (1, .sl (.pair (.int .i64) (.int .i64)) l), (5, .int .i64 0)] [] ?_
 refine AW.have1 (fun b1 : Int => linealref09_cost_k1 b1 = some r) (fun b1 => ⟨fr [(5, .int .i64 b1)], hpGet [], gt⟩) (fun b1 h => ?_) (fun hk_linealref09_cost_k1 => ?_)
 ·as_aux_lemma =>
   unfold linealref09_cost_k1 at h
   refine zo ?_
   refine zB [(4, .int .i64 b1)] [] ?_
   refine AW.ret ?_
   obtain rfl := Option.some.inj h
   exact zR [] [] []
 ·refine AW.seq ?_
  refine zo ?_
  refine zB [(0, .sl (.sl (.int .i64)) costs), (5, .int .i64 0), (8, .sl (.pair (.int .i64) (.int .i64)) l), (9, .int .i64 (l.length : Int)), (10, .int .i64 0)] [] ?_
  refine AW.block ?_
  obtain ⟨rv5, hw1, ho2⟩ := Option.bind_eq_some_iff.1 h
  refine AW.loopO (linealref09_cost_b1 costs l) (fun st1 => ⟨fr [(0, .sl (.sl (.int .i64)) costs), (5, .int .i64 st1.1), (8, .sl (.pair (.int .i64) (.int .i64)) l), (9, .int .i64 (l.length : Int)), (10, .int .i64 st1.2)], hpGet [], gt⟩) (0, 0) hw1 (zL [] [] []) ?_
  as_aux_lemma =>
   intro st1 x4 h hd3
   unfold linealref09_cost_b1 at h
   refine zo ?_
   refine zB [(0, .sl (.sl (.int .i64)) costs), (5, .int .i64 st1.1), (8, .sl (.pair (.int .i64) (.int .i64)) l), (9, .int .i64 (l.length : Int)), (10, .int .i64 st1.2), (11, .bool (decide (st1.2 < (l.length : Int))))] [] ?_
   refine AW.seq ?_
   refine zQ h (fun hb6 h => ?_) (fun hb6 h => ?_)
   ·refine zk ?_
    refine AW.seq ?_
    refine AW.block ?_
    refine zo ?_
    obtain ⟨c7, h⟩ := ck_some.1 h
    obtain ⟨c8, h⟩ := ck_some.1 h
    refine zB [(0, .sl (.sl (.int .i64)) costs), (5, .int .i64 st1.1), (7, .bp 7 0), (8, .sl (.pair (.int .i64) (.int .i64)) l), (9, .int .i64 (l.length : Int)), (10, .int .i64 st1.2)] [(7, .box 110 [.int .i64 (l.getD st1.2.toNat (0, 0)).1, .int .i64 (l.getD st1.2.toNat (0, 0)).2])] ?_
    refine AW.draw tab_ok mixed_ok [] [] (by decide) (lex_fast (by kernel_rfl)) ?_
    as_aux_lemma =>
     obtain ⟨c10, h⟩ := ck_some.1 h
     obtain ⟨c11, h⟩ := ck_some.1 h
     refine adops_cut 6 (fun K' hK9 => ?_)
     try dsimp only [List.drop_succ_cons, List.drop_zero, List.take_succ_cons, List.take_zero]
     simp only [go_sem, hb6]
     repeat with_reducible refine zN ?_
     refine hK9 _ ?_
     as_aux_lemma =>
      obtain ⟨c13, h⟩ := ck_some.1 h
      obtain ⟨c14, h⟩ := ck_some.1 h
      obtain ⟨c15, h⟩ := ck_some.1 h
      refine adops_cut 6 (fun K' hK12 => ?_)
      try dsimp only [List.drop_succ_cons, List.drop_zero, List.take_succ_cons, List.take_zero]
      simp only [go_sem, hb6]
      repeat with_reducible refine zN ?_
      refine hK12 _ ?_
      refine adops_nil ?_
      refine ablock_n ?_
      refine athen_n ?_
      refine zV [(0, .sl (.sl (.int .i64)) costs), (5, .int .i64 (st1.1 + ((costs.getD (l.getD st1.2.toNat (0, 0)).1.toNat []).getD (l.getD st1.2.toNat (0, 0)).2.toNat 0))), (8, .sl (.pair (.int .i64) (.int .i64)) l), (9, .int .i64 (l.length : Int)), (10, .int .i64 st1.2)] [] gt ?_
      as_aux_lemma =>
       refine AW.ops ?_
       obtain ⟨c16, h⟩ := ck_some.1 h
       refine zA [(0, .sl (.sl (.int .i64)) costs), (5, .int .i64 (st1.1 + ((costs.getD (l.getD st1.2.toNat (0, 0)).1.toNat []).getD (l.getD st1.2.toNat (0, 0)).2.toNat 0))), (8, .sl (.pair (.int .i64) (.int .i64)) l), (9, .int .i64 (l.length : Int)), (10, .int .i64 (st1.2 + 1))] [] ?_
       obtain rfl := Option.some.inj h
       exact ⟨_, rfl, zL [] [] []⟩
   ·refine AW.exit ?_
    refine athen_e ?_
    obtain rfl := Option.some.inj h
    rw [← hd3 _ rfl] at ho2
    have h := ho2
    refine athen_e ?_
    refine ablock_s ?_
    refine athen_n ?_
    exact AW.weaken (zL [] [] []) (hk_linealref09_cost_k1 _ h)

theorem hc_linealref09_Cost (x0 : List (List (Int × Bool))) (costs : List (List Int)) (l : List (Int × Int)) {r : Int × Int} (h : linealref09_Cost x0 costs l = some r) : HC Try.prog 39 [] [.sl (.sl (.pair (.int .i64) .bool)) x0, .sl (.sl (.int .i64)) costs, .sl (.pair (.int .i64) (.int .i64)) l] [] (.tup [.int .i64 r.1, .int .i64 r.2]) := by
 unfold linealref09_Cost at h
 refine zH Try.func39 [.tmp 6, .tmp 7] 22 ?_
 refine zo ?_
 refine zB [(0, .sl (.sl (.pair (.int .i64) .bool)) x0), (1, .sl (.sl (.int .i64)) costs), (2, .sl (.pair (.int .i64) (.int .i64)) l)] [] ?_
 refine AW.seq ?_
 refine zo ?_
 refine zS 2 [(0, .sl (.sl (.pair (.int .i64) .bool)) x0), (1, .sl (.sl (.int .i64)) costs), (2, .sl (.pair (.int .i64) (.int .i64)) l), (9, .sl (.sl (.pair (.int .i64) .bool)) x0), (10, .sl (.pair (.int .i64) (.int .i64)) l)] [] ?_
 obtain ⟨v0, hv1, h⟩ := Option.bind_eq_some_iff.1 h
 refine zC [] [] (hc_linealref09_fenced x0 l hv1) [(0, .sl (.sl (.pair (.int .i64) .bool)) x0), (1, .sl (.sl (.int .i64)) costs), (2, .sl (.pair (.int .i64) (.int .i64)) l), (11, .int .i64 v0)] [] ?_
 refine zB [(0, .sl (.sl (.pair (.int .i64) .bool)) x0), (1, .sl (.sl (.int .i64)) costs), (2, .sl (.pair (.int .i64) (.int .i64)) l), (8, .int .i64 v0)] [] ?_
 refine zo ?_
 refine zB [(0, .sl (.sl (.pair (.int .i64) .bool)) x0), (1, .sl (.sl (.int .i64)) costs), (2, .sl (.pair (.int .i64) (.int .i64)) l), (8, .int .i64 v0), (13, .bool (!(decide (v0 = 0))))] [] ?_
 refine zQ h (fun hb2 h => ?_) (fun hb2 h => ?_)
 ·refine zo ?_
  refine zB [(6, .int .i64 0), (7, .int .i64 v0)] [] ?_
  refine zr ?_
  obtain rfl := Option.some.inj h
  exact zR [] [] []
 ·refine zk ?_
  refine AW.seq ?_
  refine zo ?_
  refine zS 2 [(1, .sl (.sl (.int .i64)) costs), (2, .sl (.pair (.int .i64) (.int .i64)) l), (15, .sl (.sl (.pair (.int .i64) .bool)) x0), (16, .sl (.sl (.int .i64)) costs)] [] ?_
  obtain ⟨v0_2, hv3, h⟩ := Option.bind_eq_some_iff.1 h
  refine zC [] [] (hc_linealref09_AreCosts x0 costs hv3) [(1, .sl (.sl (.int .i64)) costs), (2, .sl (.pair (.int .i64) (.int .i64)) l), (17, .bool v0_2)] [] ?_
  refine zB [(1, .sl (.sl (.int .i64)) costs), (2, .sl (.pair (.int .i64) (.int .i64)) l), (18, .bool (!v0_2))] [] ?_
  refine zQ h (fun hb4 h => ?_) (fun hb4 h => ?_)
  ·refine zo ?_
   refine zB [(6, .int .i64 0), (7, .int .i64 2)] [] ?_
   refine zr ?_
   obtain rfl := Option.some.inj h
   exact zR [] [] []
  ·refine zk ?_
   refine zo ?_
   refine zS 2 [(19, .sl (.sl (.int .i64)) costs), (20, .sl (.pair (.int .i64) (.int .i64)) l)] [] ?_
   obtain ⟨v0_3, hv5, h⟩ := Option.bind_eq_some_iff.1 h
   refine zC [] [] (hc_linealref09_cost costs l hv5) [(21, .int .i64 v0_3)] [] ?_
   refine zB [(6, .int .i64 v0_3), (7, .int .i64 0)] [] ?_
   refine AW.ret ?_
   obtain rfl := Option.some.inj h
   exact zR [] [] []

theorem hc_lineallaw09_DelayFences (x0 : List (List (Int × Bool))) (costs : List (List Int)) (fences : List (Int × Int)) {r : Bool} (h : lineallaw09_DelayFences x0 costs fences = some r) : HC Try.prog 5 [] [.sl (.sl (.pair (.int .i64) .bool)) x0, .sl (.sl (.int .i64)) costs, .sl (.pair (.int .i64) (.int .i64)) fences] [] (.bool r) := by
 unfold lineallaw09_DelayFences at h
 refine zH Try.func5 [.tmp 6] 97 ?_
 refine zo ?_
 refine zB [(0, .sl (.sl (.pair (.int .i64) .bool)) x0), (1, .sl (.sl (.int .i64)) costs), (2, .sl (.pair (.int .i64) (.int .i64)) fences)] [] ?_
 refine AW.seq ?_
 refine zo ?_
 refine zS 1 [(0, .sl (.sl (.pair (.int .i64) .bool)) x0), (1, .sl (.sl (.int .i64)) costs), (2, .sl (.pair (.int .i64) (.int .i64)) fences), (17, .sl (.sl (.pair (.int .i64) .bool)) x0)] [] ?_
 obtain ⟨v0, hv1, h⟩ := Option.bind_eq_some_iff.1 h
 refine zC [] [] (hc_lineallaw09_Long x0 hv1) [(0, .sl (.sl (.pair (.int .i64) .bool)) x0), (1, .sl (.sl (.int .i64)) costs), (2, .sl (.pair (.int .i64) (.int .i64)) fences), (18, .bool v0)] [] ?_
 refine zS 1 [(0, .sl (.sl (.pair (.int .i64) .bool)) x0), (1, .sl (.sl (.int .i64)) costs), (2, .sl (.pair (.int .i64) (.int .i64)) fences), (19, .bool v0)] [] ?_
 rcases zI h with ⟨hb2, h⟩ | ⟨hb2, h⟩
 ·refine zS 5 [(0, .sl (.sl (.pair (.int .i64) .bool)) x0), (1, .sl (.sl (.int .i64)) costs), (2, .sl (.pair (.int .i64) (.int .i64)) fences), (23, .bool true), (24, .cv (undef))] [] ?_
  refine zB [(0, .sl (.sl (.pair (.int .i64) .bool)) x0), (1, .sl (.sl (.int .i64)) costs), (2, .sl (.pair (.int .i64) (.int .i64)) fences), (27, .bool true)] [] ?_
  refine AW.cond (b := true) rfl (fun _ => ?_) (fun hb3 => by cases hb3)
  refine zo ?_
  obtain ⟨v0_2, hv4, h⟩ := Option.bind_eq_some_iff.1 h
  refine zC [] [] (hc_lineallaw09_Awake hv4) [(28, .bool v0_2)] [] ?_
  refine zB [(6, .bool v0_2)] [] ?_
  refine zr ?_
  obtain rfl := Option.some.inj h
  exact zR [] [] []
 ·refine zS 1 [(0, .sl (.sl (.pair (.int .i64) .bool)) x0), (1, .sl (.sl (.int .i64)) costs), (2, .sl (.pair (.int .i64) (.int .i64)) fences), (19, .bool false), (20, .sl (.sl (.int .i64)) costs)] [] ?_
  obtain ⟨v0_3, hv5, h⟩ := Option.bind_eq_some_iff.1 h
  refine zG [] [] (hc_lineallaw09_wide costs hv5) [(0, .sl (.sl (.pair (.int .i64) .bool)) x0), (1, .sl (.sl (.int .i64)) costs), (2, .sl (.pair (.int .i64) (.int .i64)) fences), (19, .bool false), (21, .bool v0_3)] [] ?_
  refine zS 2 [(0, .sl (.sl (.pair (.int .i64) .bool)) x0), (1, .sl (.sl (.int .i64)) costs), (2, .sl (.pair (.int .i64) (.int .i64)) fences), (23, .bool v0_3)] [] ?_
  rcases zI h with ⟨hb6, h⟩ | ⟨hb6, h⟩
  ·refine zB [(0, .sl (.sl (.pair (.int .i64) .bool)) x0), (1, .sl (.sl (.int .i64)) costs), (2, .sl (.pair (.int .i64) (.int .i64)) fences), (27, .bool true)] [] ?_
   refine AW.cond (b := true) rfl (fun _ => ?_) (fun hb7 => by cases hb7)
   refine zo ?_
   obtain ⟨v0_4, hv8, h⟩ := Option.bind_eq_some_iff.1 h
   refine zC [] [] (hc_lineallaw09_Awake hv8) [(28, .bool v0_4)] [] ?_
   refine zB [(6, .bool v0_4)] [] ?_
   refine zr ?_
   obtain rfl := Option.some.inj h
   exact zR [] [] []
  ·refine zB [(0, .sl (.sl (.pair (.int .i64) .bool)) x0), (1, .sl (.sl (.int .i64)) costs), (2, .sl (.pair (.int .i64) (.int .i64)) fences), (27, .bool (decide (40 < (fences.length : Int))))] [] ?_
   refine zQ h (fun hb9 h => ?_) (fun hb9 h => ?_)
   ·refine zo ?_
    obtain ⟨v0_5, hv10, h⟩ := Option.bind_eq_some_iff.1 h
    refine zC [] [] (hc_lineallaw09_Awake hv10) [(28, .bool v0_5)] [] ?_
    refine zB [(6, .bool v0_5)] [] ?_
    refine zr ?_
    obtain rfl := Option.some.inj h
    exact zR [] [] []
   ·refine zk ?_
    refine zo ?_
    refine zS 2 [(0, .sl (.sl (.pair (.int .i64) .bool)) x0), (1, .sl (.sl (.int .i64)) costs), (2, .sl (.pair (.int .i64) (.int .i64)) fences), (30, .sl (.sl (.pair (.int .i64) .bool)) x0), (31, .sl (.pair (.int .i64) (.int .i64)) fences)] [] ?_
    obtain ⟨v0_6, hv11, h⟩ := Option.bind_eq_some_iff.1 h
    refine zC [] [] (hc_delay_Held x0 fences hv11) [(0, .sl (.sl (.pair (.int .i64) .bool)) x0), (1, .sl (.sl (.int .i64)) costs), (2, .sl (.pair (.int .i64) (.int .i64)) fences), (32, .tup [.own 42000, .int .i64 v0_6.2])] [(42000, .arr 35 (.pair (.int .i64) (.pair (.int .i64) (.int .i64))) v0_6.1)] ?_
    refine zB [(0, .sl (.sl (.pair (.int .i64) .bool)) x0), (1, .sl (.sl (.int .i64)) costs), (2, .sl (.pair (.int .i64) (.int .i64)) fences), (7, .own 42000), (8, .int .i64 v0_6.2)] [(42000, .arr 35 (.pair (.int .i64) (.pair (.int .i64) (.int .i64))) v0_6.1)] ?_
    refine zo ?_
    refine zS 2 [(0, .sl (.sl (.pair (.int .i64) .bool)) x0), (1, .sl (.sl (.int .i64)) costs), (2, .sl (.pair (.int .i64) (.int .i64)) fences), (7, .own 42000), (8, .int .i64 v0_6.2), (36, .sl (.sl (.pair (.int .i64) .bool)) x0), (37, .sl (.pair (.int .i64) (.int .i64)) fences)] [(42000, .arr 35 (.pair (.int .i64) (.pair (.int .i64) (.int .i64))) v0_6.1)] ?_
    obtain ⟨v0_7, hv12, h⟩ := Option.bind_eq_some_iff.1 h
    refine zC [] [] (hc_linealref09_Held x0 fences hv12) [(0, .sl (.sl (.pair (.int .i64) .bool)) x0), (1, .sl (.sl (.int .i64)) costs), (2, .sl (.pair (.int .i64) (.int .i64)) fences), (7, .own 42000), (8, .int .i64 v0_6.2), (38, .tup [.own 48000, .int .i64 v0_7.2])] [(42000, .arr 35 (.pair (.int .i64) (.pair (.int .i64) (.int .i64))) v0_6.1), (48000, .arr 35 (.pair (.int .i64) (.pair (.int .i64) (.int .i64))) v0_7.1)] ?_
    refine zB [(0, .sl (.sl (.pair (.int .i64) .bool)) x0), (1, .sl (.sl (.int .i64)) costs), (2, .sl (.pair (.int .i64) (.int .i64)) fences), (7, .own 42000), (8, .int .i64 v0_6.2), (9, .own 48000), (10, .int .i64 v0_7.2)] [(42000, .arr 35 (.pair (.int .i64) (.pair (.int .i64) (.int .i64))) v0_6.1), (48000, .arr 35 (.pair (.int .i64) (.pair (.int .i64) (.int .i64))) v0_7.1)] ?_
    refine zo ?_
    refine zS 2 [(0, .sl (.sl (.pair (.int .i64) .bool)) x0), (1, .sl (.sl (.int .i64)) costs), (2, .sl (.pair (.int .i64) (.int .i64)) fences), (7, .own 42000), (8, .int .i64 v0_6.2), (9, .own 48000), (10, .int .i64 v0_7.2), (42, .sl (.sl (.pair (.int .i64) .bool)) x0), (43, .sl (.pair (.int .i64) (.int .i64)) fences)] [(42000, .arr 35 (.pair (.int .i64) (.pair (.int .i64) (.int .i64))) v0_6.1), (48000, .arr 35 (.pair (.int .i64) (.pair (.int .i64) (.int .i64))) v0_7.1)] ?_
    obtain ⟨v0_8, hv13, h⟩ := Option.bind_eq_some_iff.1 h
    refine zC [] [] (hc_delay_Enough x0 fences hv13) [(0, .sl (.sl (.pair (.int .i64) .bool)) x0), (1, .sl (.sl (.int .i64)) costs), (2, .sl (.pair (.int .i64) (.int .i64)) fences), (7, .own 42000), (8, .int .i64 v0_6.2), (9, .own 48000), (10, .int .i64 v0_7.2), (44, .tup [.bool v0_8.1, .int .i64 v0_8.2])] [(42000, .arr 35 (.pair (.int .i64) (.pair (.int .i64) (.int .i64))) v0_6.1), (48000, .arr 35 (.pair (.int .i64) (.pair (.int .i64) (.int .i64))) v0_7.1)] ?_
    refine zB [(0, .sl (.sl (.pair (.int .i64) .bool)) x0), (1, .sl (.sl (.int .i64)) costs), (2, .sl (.pair (.int .i64) (.int .i64)) fences), (7, .own 42000), (8, .int .i64 v0_6.2), (9, .own 48000), (10, .int .i64 v0_7.2), (11, .bool v0_8.1), (12, .int .i64 v0_8.2)] [(42000, .arr 35 (.pair (.int .i64) (.pair (.int .i64) (.int .i64))) v0_6.1), (48000, .arr 35 (.pair (.int .i64) (.pair (.int .i64) (.int .i64))) v0_7.1)] ?_
    refine zo ?_
    refine zS 2 [(0, .sl (.sl (.pair (.int .i64) .bool)) x0), (1, .sl (.sl (.int .i64)) costs), (2, .sl (.pair (.int .i64) (.int .i64)) fences), (7, .own 42000), (8, .int .i64 v0_6.2), (9, .own 48000), (10, .int .i64 v0_7.2), (11, .bool v0_8.1), (12, .int .i64 v0_8.2), (48, .sl (.sl (.pair (.int .i64) .bool)) x0), (49, .sl (.pair (.int .i64) (.int .i64)) fences)] [(42000, .arr 35 (.pair (.int .i64) (.pair (.int .i64) (.int .i64))) v0_6.1), (48000, .arr 35 (.pair (.int .i64) (.pair (.int .i64) (.int .i64))) v0_7.1)] ?_
    obtain ⟨v0_9, hv14, h⟩ := Option.bind_eq_some_iff.1 h
    refine zC [] [] (hc_linealref09_Enough x0 fences hv14) [(0, .sl (.sl (.pair (.int .i64) .bool)) x0), (1, .sl (.sl (.int .i64)) costs), (2, .sl (.pair (.int .i64) (.int .i64)) fences), (7, .own 42000), (8, .int .i64 v0_6.2), (9, .own 48000), (10, .int .i64 v0_7.2), (11, .bool v0_8.1), (12, .int .i64 v0_8.2), (50, .tup [.bool v0_9.1, .int .i64 v0_9.2])] [(42000, .arr 35 (.pair (.int .i64) (.pair (.int .i64) (.int .i64))) v0_6.1), (48000, .arr 35 (.pair (.int .i64) (.pair (.int .i64) (.int .i64))) v0_7.1)] ?_
    refine zB [(0, .sl (.sl (.pair (.int .i64) .bool)) x0), (1, .sl (.sl (.int .i64)) costs), (2, .sl (.pair (.int .i64) (.int .i64)) fences), (7, .own 42000), (8, .int .i64 v0_6.2), (9, .own 48000), (10, .int .i64 v0_7.2), (11, .bool v0_8.1), (12, .int .i64 v0_8.2), (13, .bool v0_9.1), (14, .int .i64 v0_9.2)] [(42000, .arr 35 (.pair (.int .i64) (.pair (.int .i64) (.int .i64))) v0_6.1), (48000, .arr 35 (.pair (.int .i64) (.pair (.int .i64) (.int .i64))) v0_7.1)] ?_
    refine AW.seq ?_
    refine zo ?_
    refine zS 2 [(0, .sl (.sl (.pair (.int .i64) .bool)) x0), (1, .sl (.sl (.int .i64)) costs), (2, .sl (.pair (.int .i64) (.int .i64)) fences), (8, .int .i64 v0_6.2), (10, .int .i64 v0_7.2), (11, .bool v0_8.1), (12, .int .i64 v0_8.2), (13, .bool v0_9.1), (14, .int .i64 v0_9.2), (53, .own 42000), (54, .own 48000)] [(42000, .arr 35 (.pair (.int .i64) (.pair (.int .i64) (.int .i64))) v0_6.1), (48000, .arr 35 (.pair (.int .i64) (.pair (.int .i64) (.int .i64))) v0_7.1)] ?_
    obtain ⟨v0_10, hv15, h⟩ := Option.bind_eq_some_iff.1 h
    refine zC [42000, 48000] [] (hc_linealref09_SameStations v0_6.1 v0_7.1 hv15) [(0, .sl (.sl (.pair (.int .i64) .bool)) x0), (1, .sl (.sl (.int .i64)) costs), (2, .sl (.pair (.int .i64) (.int .i64)) fences), (8, .int .i64 v0_6.2), (10, .int .i64 v0_7.2), (11, .bool v0_8.1), (12, .int .i64 v0_8.2), (13, .bool v0_9.1), (14, .int .i64 v0_9.2), (55, .bool v0_10)] [] ?_
    refine zS 2 [(0, .sl (.sl (.pair (.int .i64) .bool)) x0), (1, .sl (.sl (.int .i64)) costs), (2, .sl (.pair (.int .i64) (.int .i64)) fences), (8, .int .i64 v0_6.2), (10, .int .i64 v0_7.2), (11, .bool v0_8.1), (12, .int .i64 v0_8.2), (13, .bool v0_9.1), (14, .int .i64 v0_9.2), (57, .bool (!v0_10))] [] ?_
    rcases zI h with ⟨hb16, h⟩ | ⟨hb16, h⟩
    ·refine zS 5 [(0, .sl (.sl (.pair (.int .i64) .bool)) x0), (1, .sl (.sl (.int .i64)) costs), (2, .sl (.pair (.int .i64) (.int .i64)) fences), (11, .bool v0_8.1), (12, .int .i64 v0_8.2), (13, .bool v0_9.1), (14, .int .i64 v0_9.2), (62, .bool true)] [] ?_
     refine zS 5 [(0, .sl (.sl (.pair (.int .i64) .bool)) x0), (1, .sl (.sl (.int .i64)) costs), (2, .sl (.pair (.int .i64) (.int .i64)) fences), (12, .int .i64 v0_8.2), (14, .int .i64 v0_9.2), (67, .bool true)] [] ?_
     refine zB [(0, .sl (.sl (.pair (.int .i64) .bool)) x0), (1, .sl (.sl (.int .i64)) costs), (2, .sl (.pair (.int .i64) (.int .i64)) fences), (71, .bool true)] [] ?_
     refine AW.cond (b := true) rfl (fun _ => ?_) (fun hb17 => by cases hb17)
     refine zo ?_
     refine zB [(6, .bool false)] [] ?_
     refine zr ?_
     obtain rfl := Option.some.inj h
     exact zR [] [] []
    ·refine zS 5 [(0, .sl (.sl (.pair (.int .i64) .bool)) x0), (1, .sl (.sl (.int .i64)) costs), (2, .sl (.pair (.int .i64) (.int .i64)) fences), (11, .bool v0_8.1), (12, .int .i64 v0_8.2), (13, .bool v0_9.1), (14, .int .i64 v0_9.2), (62, .bool (!(decide (v0_6.2 = v0_7.2))))] [] ?_
     rcases zI h with ⟨hb18, h⟩ | ⟨hb18, h⟩
     ·refine zS 5 [(0, .sl (.sl (.pair (.int .i64) .bool)) x0), (1, .sl (.sl (.int .i64)) costs), (2, .sl (.pair (.int .i64) (.int .i64)) fences), (12, .int .i64 v0_8.2), (14, .int .i64 v0_9.2), (67, .bool true)] [] ?_
      refine zB [(0, .sl (.sl (.pair (.int .i64) .bool)) x0), (1, .sl (.sl (.int .i64)) costs), (2, .sl (.pair (.int .i64) (.int .i64)) fences), (71, .bool true)] [] ?_
      refine AW.cond (b := true) rfl (fun _ => ?_) (fun hb19 => by cases hb19)
      refine zo ?_
      refine zB [(6, .bool false)] [] ?_
      refine zr ?_
      obtain rfl := Option.some.inj h
      exact zR [] [] []
     ·refine zS 5 [(0, .sl (.sl (.pair (.int .i64) .bool)) x0), (1, .sl (.sl (.int .i64)) costs), (2, .sl (.pair (.int .i64) (.int .i64)) fences), (12, .int .i64 v0_8.2), (14, .int .i64 v0_9.2), (67, .bool ((v0_8.1 == v0_9.1) != true))] [] ?_
      rcases zI h with ⟨hb20, h⟩ | ⟨hb20, h⟩
      ·refine zB [(0, .sl (.sl (.pair (.int .i64) .bool)) x0), (1, .sl (.sl (.int .i64)) costs), (2, .sl (.pair (.int .i64) (.int .i64)) fences), (71, .bool true)] [] ?_
       refine AW.cond (b := true) rfl (fun _ => ?_) (fun hb21 => by cases hb21)
       refine zo ?_
       refine zB [(6, .bool false)] [] ?_
       refine zr ?_
       obtain rfl := Option.some.inj h
       exact zR [] [] []
      ·refine zB [(0, .sl (.sl (.pair (.int .i64) .bool)) x0), (1, .sl (.sl (.int .i64)) costs), (2, .sl (.pair (.int .i64) (.int .i64)) fences), (71, .bool (!(decide (v0_8.2 = v0_9.2))))] [] ?_
       refine zQ h (fun hb22 h => ?_) (fun hb22 h => ?_)
       ·refine zo ?_
        refine zB [(6, .bool false)] [] ?_
        refine zr ?_
        obtain rfl := Option.some.inj h
        exact zR [] [] []
       ·refine zk ?_
        refine zo ?_
        refine zS 3 [(0, .sl (.sl (.pair (.int .i64) .bool)) x0), (1, .sl (.sl (.int .i64)) costs), (2, .sl (.pair (.int .i64) (.int .i64)) fences), (73, .sl (.sl (.pair (.int .i64) .bool)) x0), (74, .sl (.sl (.int .i64)) costs), (75, .sl (.pair (.int .i64) (.int .i64)) fences)] [] ?_
        obtain ⟨v0_11, hv23, h⟩ := Option.bind_eq_some_iff.1 h
        refine zC [] [] (hc_delay_Cost x0 costs fences hv23) [(0, .sl (.sl (.pair (.int .i64) .bool)) x0), (1, .sl (.sl (.int .i64)) costs), (2, .sl (.pair (.int .i64) (.int .i64)) fences), (76, .tup [.int .i64 v0_11.1, .int .i64 v0_11.2])] [] ?_
        refine zB [(0, .sl (.sl (.pair (.int .i64) .bool)) x0), (1, .sl (.sl (.int .i64)) costs), (2, .sl (.pair (.int .i64) (.int .i64)) fences), (8, .int .i64 v0_11.2), (15, .int .i64 v0_11.1)] [] ?_
        refine zo ?_
        refine zS 3 [(8, .int .i64 v0_11.2), (15, .int .i64 v0_11.1), (80, .sl (.sl (.pair (.int .i64) .bool)) x0), (81, .sl (.sl (.int .i64)) costs), (82, .sl (.pair (.int .i64) (.int .i64)) fences)] [] ?_
        obtain ⟨v0_12, hv24, h⟩ := Option.bind_eq_some_iff.1 h
        refine zC [] [] (hc_linealref09_Cost x0 costs fences hv24) [(8, .int .i64 v0_11.2), (15, .int .i64 v0_11.1), (83, .tup [.int .i64 v0_12.1, .int .i64 v0_12.2])] [] ?_
        refine zB [(8, .int .i64 v0_11.2), (10, .int .i64 v0_12.2), (15, .int .i64 v0_11.1), (16, .int .i64 v0_12.1)] [] ?_
        refine zo ?_
        refine zS 4 [(8, .int .i64 v0_11.2), (10, .int .i64 v0_12.2), (89, .bool (decide (v0_11.1 = v0_12.1)))] [] ?_
        rcases zI h with ⟨hb25, h⟩ | ⟨hb25, h⟩
        ·refine zS 5 [(94, .bool (decide (v0_11.2 = v0_12.2)))] [] ?_
         rcases zI h with ⟨hb26, h⟩ | ⟨hb26, h⟩
         ·refine zT [(94, .bool true)] [] gt ?_
          obtain ⟨v0_13, hv27, h⟩ := Option.bind_eq_some_iff.1 h
          refine zG [] [] (hc_lineallaw09_Awake hv27) [(94, .bool true), (95, .bool v0_13)] [] ?_
          refine zB [(6, .bool v0_13)] [] ?_
          refine AW.ret ?_
          obtain rfl := Option.some.inj h
          exact zR [] [] []
         ·refine zB [(6, .bool false)] [] ?_
          refine AW.ret ?_
          obtain rfl := Option.some.inj h
          exact zR [] [] []
        ·refine zS 5 [(94, .bool false)] [] ?_
         refine zB [(6, .bool false)] [] ?_
         refine AW.ret ?_
         obtain rfl := Option.some.inj h
         exact zR [] [] []

end Go.Proofs.Ytdicomoggfhbfaa
