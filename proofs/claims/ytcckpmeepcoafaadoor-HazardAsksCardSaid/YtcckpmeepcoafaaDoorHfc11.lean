/-
  Made by wip/tool/dc.py out of the print of the program: contracts.
-/
import Derived.Test.YtcckpmeepcoafaaDoorHzp
import Derived.Test.YtcckpmeepcoafaaDoorShz
import Derived.Test.YtcckpmeepcoafaaDoorHfc8
import Derived.Test.YtcckpmeepcoafaaDoorHfc9
namespace Go.Proofs.YtcckpmeepcoafaaDoor
open Go.RowKit

set_option linter.unusedSimpArgs false
set_option linter.unusedVariables false
set_option linter.constructorNameAsVariable false

set_option maxRecDepth 100000
set_option maxHeartbeats 40000000

theorem hc_linealref06_Yard_Slot (thread : Int) (slot : Int) (y : Int) (y_2 : Int) (y_3 : (El T66)) (y_4 : List (Int × Int)) (y_5 : List (List Int)) {r : Int × Int} (h : linealref06_Yard_Slot thread slot y y_2 y_3 y_4 y_5 = some r) : HC Tryd.prog 28 [(1000, .box 77 (.int .i64 y :: (.int .i64 y_2 :: (cellsX T66 y_3 ++ (.own 1001 :: (.own 1002 :: [])))))), (1001, .arr 64 (.pair (.int .i64) (.int .i64)) y_4), (1002, .arr 45 (.sl (.int .i64)) y_5)] [.bp 1000 0, .int .i64 thread, .int .i64 slot] [(1000, .box 77 (.int .i64 y :: (.int .i64 y_2 :: (cellsX T66 y_3 ++ (.own 1001 :: (.own 1002 :: [])))))), (1001, .arr 64 (.pair (.int .i64) (.int .i64)) y_4), (1002, .arr 45 (.sl (.int .i64)) y_5)] (.tup [.int .i64 r.1, .int .i64 r.2]) := by
 unfold linealref06_Yard_Slot at h
 refine zH Tryd.func28 [.tmp 6, .tmp 7] 26 ?_
 refine zo ?_
 refine zB [(0, .bp 1000 0), (1, .int .i64 thread), (2, .int .i64 slot)] [(1000, .box 77 (.int .i64 y :: (.int .i64 y_2 :: (cellsX T66 y_3 ++ (.own 1001 :: (.own 1002 :: [])))))), (1001, .arr 64 (.pair (.int .i64) (.int .i64)) y_4), (1002, .arr 45 (.sl (.int .i64)) y_5)] ?_
 refine AW.seq ?_
 refine zo ?_
 refine zS 2 [(0, .bp 1000 0), (1, .int .i64 thread), (2, .int .i64 slot), (8, .bp 1000 0), (9, .int .i64 thread)] [(1000, .box 77 (.int .i64 y :: (.int .i64 y_2 :: (cellsX T66 y_3 ++ (.own 1001 :: (.own 1002 :: [])))))), (1001, .arr 64 (.pair (.int .i64) (.int .i64)) y_4), (1002, .arr 45 (.sl (.int .i64)) y_5)] ?_
 obtain ⟨v0, hv1, h⟩ := Option.bind_eq_some_iff.1 h
 refine zC [] [(1000, 1000), (1001, 1001), (1002, 1002)] (hc_linealref06_Yard_isThread thread y y_2 y_3 y_4 y_5 hv1) [(0, .bp 1000 0), (1, .int .i64 thread), (2, .int .i64 slot), (10, .bool v0)] [(1000, .box 77 (.int .i64 y :: (.int .i64 y_2 :: (cellsX T66 y_3 ++ (.own 1001 :: (.own 1002 :: [])))))), (1001, .arr 64 (.pair (.int .i64) (.int .i64)) y_4), (1002, .arr 45 (.sl (.int .i64)) y_5)] ?_
 refine zS 2 [(0, .bp 1000 0), (1, .int .i64 thread), (2, .int .i64 slot), (12, .bool (!v0))] [(1000, .box 77 (.int .i64 y :: (.int .i64 y_2 :: (cellsX T66 y_3 ++ (.own 1001 :: (.own 1002 :: [])))))), (1001, .arr 64 (.pair (.int .i64) (.int .i64)) y_4), (1002, .arr 45 (.sl (.int .i64)) y_5)] ?_
 rcases zI h with ⟨hb2, h⟩ | ⟨hb2, h⟩
 ·refine zB [(0, .bp 1000 0), (1, .int .i64 thread), (2, .int .i64 slot), (16, .bool true)] [(1000, .box 77 (.int .i64 y :: (.int .i64 y_2 :: (cellsX T66 y_3 ++ (.own 1001 :: (.own 1002 :: [])))))), (1001, .arr 64 (.pair (.int .i64) (.int .i64)) y_4), (1002, .arr 45 (.sl (.int .i64)) y_5)] ?_
  refine AW.cond (b := true) rfl (fun _ => ?_) (fun hb3 => by cases hb3)
  refine zo ?_
  refine zB [(6, .int .i64 0), (7, .int .i64 2)] [(1000, .box 77 (.int .i64 y :: (.int .i64 y_2 :: (cellsX T66 y_3 ++ (.own 1001 :: (.own 1002 :: [])))))), (1001, .arr 64 (.pair (.int .i64) (.int .i64)) y_4), (1002, .arr 45 (.sl (.int .i64)) y_5)] ?_
  refine zr ?_
  obtain rfl := Option.some.inj h
  exact zR [] [] []
 ·refine zS 1 [(0, .bp 1000 0), (1, .int .i64 thread), (2, .int .i64 slot), (12, .bool false), (13, .int .i64 slot)] [(1000, .box 77 (.int .i64 y :: (.int .i64 y_2 :: (cellsX T66 y_3 ++ (.own 1001 :: (.own 1002 :: [])))))), (1001, .arr 64 (.pair (.int .i64) (.int .i64)) y_4), (1002, .arr 45 (.sl (.int .i64)) y_5)] ?_
  obtain ⟨v0_2, hv4, h⟩ := Option.bind_eq_some_iff.1 h
  refine zG [] [] (hc_linealref06_isSlot slot hv4) [(0, .bp 1000 0), (1, .int .i64 thread), (2, .int .i64 slot), (12, .bool false), (14, .bool v0_2)] [(1000, .box 77 (.int .i64 y :: (.int .i64 y_2 :: (cellsX T66 y_3 ++ (.own 1001 :: (.own 1002 :: [])))))), (1001, .arr 64 (.pair (.int .i64) (.int .i64)) y_4), (1002, .arr 45 (.sl (.int .i64)) y_5)] ?_
  refine zB [(0, .bp 1000 0), (1, .int .i64 thread), (2, .int .i64 slot), (16, .bool (!v0_2))] [(1000, .box 77 (.int .i64 y :: (.int .i64 y_2 :: (cellsX T66 y_3 ++ (.own 1001 :: (.own 1002 :: [])))))), (1001, .arr 64 (.pair (.int .i64) (.int .i64)) y_4), (1002, .arr 45 (.sl (.int .i64)) y_5)] ?_
  refine zQ h (fun hb5 h => ?_) (fun hb5 h => ?_)
  ·refine zo ?_
   refine zB [(6, .int .i64 0), (7, .int .i64 2)] [(1000, .box 77 (.int .i64 y :: (.int .i64 y_2 :: (cellsX T66 y_3 ++ (.own 1001 :: (.own 1002 :: [])))))), (1001, .arr 64 (.pair (.int .i64) (.int .i64)) y_4), (1002, .arr 45 (.sl (.int .i64)) y_5)] ?_
   refine zr ?_
   obtain rfl := Option.some.inj h
   exact zR [] [] []
  ·refine zk ?_
   refine zo ?_
   refine zS 5 [(2, .int .i64 slot), (20, .own 1001), (21, .int .i64 thread)] [(1000, .box 77 (.int .i64 y :: (.int .i64 y_2 :: (cellsX T66 y_3 ++ (.own 1001 :: (.own 1002 :: [])))))), (1001, .arr 64 (.pair (.int .i64) (.int .i64)) y_4), (1002, .arr 45 (.sl (.int .i64)) y_5)] ?_
   obtain ⟨c6, h⟩ := ck_some.1 h
   obtain ⟨c7, h⟩ := ck_some.1 h
   obtain ⟨c8, h⟩ := ck_some.1 h
   obtain ⟨c9, h⟩ := ck_some.1 h
   refine zS 2 [(22, .int .i64 slot), (23, .ap 1001 2 thread.toNat 0)] [(1000, .box 77 (.int .i64 y :: (.int .i64 y_2 :: (cellsX T66 y_3 ++ (.own 1001 :: (.own 1002 :: [])))))), (1001, .arr 64 (.pair (.int .i64) (.int .i64)) y_4), (1002, .arr 45 (.sl (.int .i64)) y_5)] ?_
   rcases Bool.eq_false_or_eq_true (decide (slot = 0)) with hb10 | hb10
   ·rw [if_pos hb10] at h
    have hz11 : slot = 0 := by simpa using hb10
    refine zT [(22, .int .i64 0), (23, .ap 1001 2 thread.toNat 0)] [(1000, .box 77 (.int .i64 y :: (.int .i64 y_2 :: (cellsX T66 y_3 ++ (.own 1001 :: (.own 1002 :: [])))))), (1001, .arr 64 (.pair (.int .i64) (.int .i64)) y_4), (1002, .arr 45 (.sl (.int .i64)) y_5)] gt ?_
    refine zB [(6, .int .i64 (y_4.getD thread.toNat (0, 0)).1), (7, .int .i64 0)] [(1000, .box 77 (.int .i64 y :: (.int .i64 y_2 :: (cellsX T66 y_3 ++ (.own 1001 :: (.own 1002 :: [])))))), (1001, .arr 64 (.pair (.int .i64) (.int .i64)) y_4), (1002, .arr 45 (.sl (.int .i64)) y_5)] ?_
    refine AW.ret ?_
    obtain rfl := Option.some.inj h
    exact zR [] [] []
   ·rw [if_neg (Bool.eq_false_iff.1 hb10)] at h
    have hz11 : slot = 1 := by have := of_decide_eq_false hb10; omega
    refine zT [(22, .int .i64 1), (23, .ap 1001 2 thread.toNat 0)] [(1000, .box 77 (.int .i64 y :: (.int .i64 y_2 :: (cellsX T66 y_3 ++ (.own 1001 :: (.own 1002 :: [])))))), (1001, .arr 64 (.pair (.int .i64) (.int .i64)) y_4), (1002, .arr 45 (.sl (.int .i64)) y_5)] gt ?_
    refine zB [(6, .int .i64 (y_4.getD thread.toNat (0, 0)).2), (7, .int .i64 0)] [(1000, .box 77 (.int .i64 y :: (.int .i64 y_2 :: (cellsX T66 y_3 ++ (.own 1001 :: (.own 1002 :: [])))))), (1001, .arr 64 (.pair (.int .i64) (.int .i64)) y_4), (1002, .arr 45 (.sl (.int .i64)) y_5)] ?_
    refine AW.ret ?_
    obtain rfl := Option.some.inj h
    exact zR [] [] []

theorem hc_linealref06_Yard_Count (state : Int) (y : Int) (y_2 : Int) (y_3 : (El T66)) (y_4 : List (Int × Int)) (y_5 : List (List Int)) {r : Int} (h : linealref06_Yard_Count state y y_2 y_3 y_4 y_5 = some r) : HC Tryd.prog 51 [(1000, .box 77 (.int .i64 y :: (.int .i64 y_2 :: (cellsX T66 y_3 ++ (.own 1001 :: (.own 1002 :: [])))))), (1001, .arr 64 (.pair (.int .i64) (.int .i64)) y_4), (1002, .arr 45 (.sl (.int .i64)) y_5)] [.bp 1000 0, .int .i64 state] [(1000, .box 77 (.int .i64 y :: (.int .i64 y_2 :: (cellsX T66 y_3 ++ (.own 1001 :: (.own 1002 :: [])))))), (1001, .arr 64 (.pair (.int .i64) (.int .i64)) y_4), (1002, .arr 45 (.sl (.int .i64)) y_5)] (.int .i64 r) := by
 unfold linealref06_Yard_Count at h
 refine zH Tryd.func51 [.tmp 4] 22 ?_
 refine zo ?_
 refine zB [(0, .bp 1000 0), (1, .int .i64 state)] [(1000, .box 77 (.int .i64 y :: (.int .i64 y_2 :: (cellsX T66 y_3 ++ (.own 1001 :: (.own 1002 :: [])))))), (1001, .arr 64 (.pair (.int .i64) (.int .i64)) y_4), (1002, .arr 45 (.sl (.int .i64)) y_5)] ?_
 refine zo ?_
 refine zB [(0, .bp 1000 0), (1, .int .i64 state), (5, .int .i64 0)] [(1000, .box 77 (.int .i64 y :: (.int .i64 y_2 :: (cellsX T66 y_3 ++ (.own 1001 :: (.own 1002 :: [])))))), (1001, .arr 64 (.pair (.int .i64) (.int .i64)) y_4), (1002, .arr 45 (.sl (.int .i64)) y_5)] ?_
 refine AW.have1 (fun b1 : Int => linealref06_Yard_Count_k1 b1 = some r) (fun b1 => ⟨fr [(5, .int .i64 b1)], hpGet [(1000, .box 77 (.int .i64 y :: (.int .i64 y_2 :: (cellsX T66 y_3 ++ (.own 1001 :: (.own 1002 :: [])))))), (1001, .arr 64 (.pair (.int .i64) (.int .i64)) y_4), (1002, .arr 45 (.sl (.int .i64)) y_5)], gt⟩) (fun b1 h => ?_) (fun hk_linealref06_Yard_Count_k1 => ?_)
 ·as_aux_lemma =>
   unfold linealref06_Yard_Count_k1 at h
   refine zo ?_
   refine zB [(4, .int .i64 b1)] [(1000, .box 77 (.int .i64 y :: (.int .i64 y_2 :: (cellsX T66 y_3 ++ (.own 1001 :: (.own 1002 :: [])))))), (1001, .arr 64 (.pair (.int .i64) (.int .i64)) y_4), (1002, .arr 45 (.sl (.int .i64)) y_5)] ?_
   refine AW.ret ?_
   obtain rfl := Option.some.inj h
   exact zR [] [] []
 ·refine AW.seq ?_
  refine zo ?_
  refine zB [(0, .bp 1000 0), (1, .int .i64 state), (5, .int .i64 0), (6, .int .i64 0)] [(1000, .box 77 (.int .i64 y :: (.int .i64 y_2 :: (cellsX T66 y_3 ++ (.own 1001 :: (.own 1002 :: [])))))), (1001, .arr 64 (.pair (.int .i64) (.int .i64)) y_4), (1002, .arr 45 (.sl (.int .i64)) y_5)] ?_
  refine AW.block ?_
  obtain ⟨rv5, hw1, ho2⟩ := Option.bind_eq_some_iff.1 h
  refine AW.loopO (linealref06_Yard_Count_b1 state y_3) (fun st1 => ⟨fr [(0, .bp 1000 0), (1, .int .i64 state), (5, .int .i64 st1.1), (6, .int .i64 st1.2)], hpGet [(1000, .box 77 (.int .i64 y :: (.int .i64 y_2 :: (cellsX T66 y_3 ++ (.own 1001 :: (.own 1002 :: [])))))), (1001, .arr 64 (.pair (.int .i64) (.int .i64)) y_4), (1002, .arr 45 (.sl (.int .i64)) y_5)], gt⟩) (0, 0) hw1 (zL [] [] []) ?_
  as_aux_lemma =>
   intro st1 x4 h hd3
   unfold linealref06_Yard_Count_b1 at h
   refine AW.seq ?_
   refine zo ?_
   refine zB [(0, .bp 1000 0), (1, .int .i64 state), (5, .int .i64 st1.1), (6, .int .i64 st1.2), (8, .bool (decide (st1.2 < 8)))] [(1000, .box 77 (.int .i64 y :: (.int .i64 y_2 :: (cellsX T66 y_3 ++ (.own 1001 :: (.own 1002 :: [])))))), (1001, .arr 64 (.pair (.int .i64) (.int .i64)) y_4), (1002, .arr 45 (.sl (.int .i64)) y_5)] ?_
   refine zQ h (fun hb6 h => ?_) (fun hb6 h => ?_)
   ·refine zk ?_
    refine AW.seq ?_
    refine AW.block ?_
    refine zo ?_
    obtain ⟨c7, h⟩ := ck_some.1 h
    obtain ⟨c8, h⟩ := ck_some.1 h
    refine zS 5 [(0, .bp 1000 0), (1, .int .i64 state), (5, .int .i64 st1.1), (6, .int .i64 st1.2), (15, .bp 1000 (2 + st1.2.toNat * 1))] [(1000, .box 77 (.int .i64 y :: (.int .i64 y_2 :: (cellsX T66 y_3 ++ (.own 1001 :: (.own 1002 :: [])))))), (1001, .arr 64 (.pair (.int .i64) (.int .i64)) y_4), (1002, .arr 45 (.sl (.int .i64)) y_5)] ?_
    have hx9 : (st1.2.toNat * 1) < 8 := by omega
    refine zB [(0, .bp 1000 0), (1, .int .i64 state), (5, .int .i64 st1.1), (6, .int .i64 st1.2), (18, .bool (decide ((intAt T66 y_3 (st1.2.toNat * 1)) = state)))] [(1000, .box 77 (.int .i64 y :: (.int .i64 y_2 :: (cellsX T66 y_3 ++ (.own 1001 :: (.own 1002 :: [])))))), (1001, .arr 64 (.pair (.int .i64) (.int .i64)) y_4), (1002, .arr 45 (.sl (.int .i64)) y_5)] ?_
    refine zQ h (fun hb10 h => ?_) (fun hb10 h => ?_)
    ·refine AW.ops ?_
     obtain ⟨c11, h⟩ := ck_some.1 h
     refine zA [(0, .bp 1000 0), (1, .int .i64 state), (5, .int .i64 (st1.1 + 1)), (6, .int .i64 st1.2)] [(1000, .box 77 (.int .i64 y :: (.int .i64 y_2 :: (cellsX T66 y_3 ++ (.own 1001 :: (.own 1002 :: [])))))), (1001, .arr 64 (.pair (.int .i64) (.int .i64)) y_4), (1002, .arr 45 (.sl (.int .i64)) y_5)] ?_
     refine ablock_n ?_
     refine athen_n ?_
     refine AW.ops ?_
     obtain ⟨c12, h⟩ := ck_some.1 h
     refine zA [(0, .bp 1000 0), (1, .int .i64 state), (5, .int .i64 (st1.1 + 1)), (6, .int .i64 (st1.2 + 1))] [(1000, .box 77 (.int .i64 y :: (.int .i64 y_2 :: (cellsX T66 y_3 ++ (.own 1001 :: (.own 1002 :: [])))))), (1001, .arr 64 (.pair (.int .i64) (.int .i64)) y_4), (1002, .arr 45 (.sl (.int .i64)) y_5)] ?_
     obtain rfl := Option.some.inj h
     exact ⟨_, rfl, zL [] [] []⟩
    ·refine zm ?_
     refine athen_n ?_
     refine AW.ops ?_
     obtain ⟨c13, h⟩ := ck_some.1 h
     refine zA [(0, .bp 1000 0), (1, .int .i64 state), (5, .int .i64 st1.1), (6, .int .i64 (st1.2 + 1))] [(1000, .box 77 (.int .i64 y :: (.int .i64 y_2 :: (cellsX T66 y_3 ++ (.own 1001 :: (.own 1002 :: [])))))), (1001, .arr 64 (.pair (.int .i64) (.int .i64)) y_4), (1002, .arr 45 (.sl (.int .i64)) y_5)] ?_
     obtain rfl := Option.some.inj h
     exact ⟨_, rfl, zL [] [] []⟩
   ·refine AW.exit ?_
    refine athen_e ?_
    obtain rfl := Option.some.inj h
    rw [← hd3 _ rfl] at ho2
    have h := ho2
    refine athen_e ?_
    refine ablock_s ?_
    refine athen_n ?_
    exact AW.weaken (zL [] [] []) (hk_linealref06_Yard_Count_k1 _ h)

theorem hc_linealref06_Yard_Held (y : Int) (y_2 : Int) (y_3 : (El T66)) (y_4 : List (Int × Int)) (y_5 : List (List Int)) {r : (List Int)} (h : linealref06_Yard_Held y y_2 y_3 y_4 y_5 = some r) : HC Tryd.prog 52 [(1000, .box 77 (.int .i64 y :: (.int .i64 y_2 :: (cellsX T66 y_3 ++ (.own 1001 :: (.own 1002 :: [])))))), (1001, .arr 64 (.pair (.int .i64) (.int .i64)) y_4), (1002, .arr 45 (.sl (.int .i64)) y_5)] [.bp 1000 0] [(1000, .box 77 (.int .i64 y :: (.int .i64 y_2 :: (cellsX T66 y_3 ++ (.own 1001 :: (.own 1002 :: [])))))), (1001, .arr 64 (.pair (.int .i64) (.int .i64)) y_4), (1002, .arr 45 (.sl (.int .i64)) y_5), (2000, .arr 3 (.int .i64) r)] (.own 2000) := by
 unfold linealref06_Yard_Held at h
 refine zH Tryd.func52 [.tmp 2] 17 ?_
 refine zo ?_
 refine zB [(0, .bp 1000 0)] [(1000, .box 77 (.int .i64 y :: (.int .i64 y_2 :: (cellsX T66 y_3 ++ (.own 1001 :: (.own 1002 :: [])))))), (1001, .arr 64 (.pair (.int .i64) (.int .i64)) y_4), (1002, .arr 45 (.sl (.int .i64)) y_5)] ?_
 refine zo ?_
 refine zB [(0, .bp 1000 0), (3, .cv (.slice none 0 0))] [(1000, .box 77 (.int .i64 y :: (.int .i64 y_2 :: (cellsX T66 y_3 ++ (.own 1001 :: (.own 1002 :: [])))))), (1001, .arr 64 (.pair (.int .i64) (.int .i64)) y_4), (1002, .arr 45 (.sl (.int .i64)) y_5)] ?_
 refine AW.have1 (fun b1 : (List Int) => linealref06_Yard_Held_k1 b1 = some r) (fun b1 => ⟨fr [(3, .own 15)], hpGet [(15, .arr 3 (.int .i64) b1), (1000, .box 77 (.int .i64 y :: (.int .i64 y_2 :: (cellsX T66 y_3 ++ (.own 1001 :: (.own 1002 :: [])))))), (1001, .arr 64 (.pair (.int .i64) (.int .i64)) y_4), (1002, .arr 45 (.sl (.int .i64)) y_5)], gt⟩) (fun b1 h => ?_) (fun hk_linealref06_Yard_Held_k1 => ?_)
 ·as_aux_lemma =>
   unfold linealref06_Yard_Held_k1 at h
   refine zo ?_
   refine zB [(2, .own 15)] [(15, .arr 3 (.int .i64) b1), (1000, .box 77 (.int .i64 y :: (.int .i64 y_2 :: (cellsX T66 y_3 ++ (.own 1001 :: (.own 1002 :: [])))))), (1001, .arr 64 (.pair (.int .i64) (.int .i64)) y_4), (1002, .arr 45 (.sl (.int .i64)) y_5)] ?_
   refine AW.ret ?_
   obtain rfl := Option.some.inj h
   exact zR [] [] [(2000, 15)]
 ·refine AW.seq ?_
  refine zo ?_
  refine zB [(0, .bp 1000 0), (3, .cv (.slice none 0 0)), (4, .int .i64 0)] [(1000, .box 77 (.int .i64 y :: (.int .i64 y_2 :: (cellsX T66 y_3 ++ (.own 1001 :: (.own 1002 :: [])))))), (1001, .arr 64 (.pair (.int .i64) (.int .i64)) y_4), (1002, .arr 45 (.sl (.int .i64)) y_5)] ?_
  refine AW.block ?_
  obtain ⟨rv5, hw1, ho2⟩ := Option.bind_eq_some_iff.1 h
  refine AW.loopO (linealref06_Yard_Held_b1 y y_2 y_3 y_4 y_5) (fun st1 => ⟨fr [(0, .bp 1000 0), (3, .own 15), (4, .int .i64 st1.2)], hpGet [(15, .arr 3 (.int .i64) st1.1), (1000, .box 77 (.int .i64 y :: (.int .i64 y_2 :: (cellsX T66 y_3 ++ (.own 1001 :: (.own 1002 :: [])))))), (1001, .arr 64 (.pair (.int .i64) (.int .i64)) y_4), (1002, .arr 45 (.sl (.int .i64)) y_5)], gt⟩) ([], 0) hw1 (zL [] [15] []) ?_
  as_aux_lemma =>
   intro st1 x4 h hd3
   unfold linealref06_Yard_Held_b1 at h
   refine AW.seq ?_
   refine zo ?_
   refine zB [(0, .bp 1000 0), (3, .own 15), (4, .int .i64 st1.2), (6, .bool (decide (st1.2 < 8)))] [(15, .arr 3 (.int .i64) st1.1), (1000, .box 77 (.int .i64 y :: (.int .i64 y_2 :: (cellsX T66 y_3 ++ (.own 1001 :: (.own 1002 :: [])))))), (1001, .arr 64 (.pair (.int .i64) (.int .i64)) y_4), (1002, .arr 45 (.sl (.int .i64)) y_5)] ?_
   refine zQ h (fun hb6 h => ?_) (fun hb6 h => ?_)
   ·refine zk ?_
    refine AW.seq ?_
    refine AW.block ?_
    refine zo ?_
    refine zS 2 [(0, .bp 1000 0), (3, .own 15), (4, .int .i64 st1.2), (9, .bp 1000 0), (10, .int .i64 st1.2)] [(15, .arr 3 (.int .i64) st1.1), (1000, .box 77 (.int .i64 y :: (.int .i64 y_2 :: (cellsX T66 y_3 ++ (.own 1001 :: (.own 1002 :: [])))))), (1001, .arr 64 (.pair (.int .i64) (.int .i64)) y_4), (1002, .arr 45 (.sl (.int .i64)) y_5)] ?_
    obtain ⟨v0, hv7, h⟩ := Option.bind_eq_some_iff.1 h
    refine zC [] [(1000, 1000), (1001, 1001), (1002, 1002)] (hc_linealref06_Yard_IsHeld st1.2 y y_2 y_3 y_4 y_5 hv7) [(0, .bp 1000 0), (3, .own 15), (4, .int .i64 st1.2), (11, .bool v0)] [(15, .arr 3 (.int .i64) st1.1), (1000, .box 77 (.int .i64 y :: (.int .i64 y_2 :: (cellsX T66 y_3 ++ (.own 1001 :: (.own 1002 :: [])))))), (1001, .arr 64 (.pair (.int .i64) (.int .i64)) y_4), (1002, .arr 45 (.sl (.int .i64)) y_5)] ?_
    refine zB [(0, .bp 1000 0), (3, .own 15), (4, .int .i64 st1.2), (11, .bool v0)] [(15, .arr 3 (.int .i64) st1.1), (1000, .box 77 (.int .i64 y :: (.int .i64 y_2 :: (cellsX T66 y_3 ++ (.own 1001 :: (.own 1002 :: [])))))), (1001, .arr 64 (.pair (.int .i64) (.int .i64)) y_4), (1002, .arr 45 (.sl (.int .i64)) y_5)] ?_
    refine zQ h (fun hb8 h => ?_) (fun hb8 h => ?_)
    ·refine AW.ops ?_
     obtain ⟨c9, h⟩ := ck_some.1 h
     refine zA [(0, .bp 1000 0), (3, .own 15), (4, .int .i64 st1.2)] [(15, .arr 3 (.int .i64) (st1.1 ++ [st1.2])), (1000, .box 77 (.int .i64 y :: (.int .i64 y_2 :: (cellsX T66 y_3 ++ (.own 1001 :: (.own 1002 :: [])))))), (1001, .arr 64 (.pair (.int .i64) (.int .i64)) y_4), (1002, .arr 45 (.sl (.int .i64)) y_5)] ?_
     refine ablock_n ?_
     refine athen_n ?_
     refine AW.ops ?_
     obtain ⟨c10, h⟩ := ck_some.1 h
     refine zA [(0, .bp 1000 0), (3, .own 15), (4, .int .i64 (st1.2 + 1))] [(15, .arr 3 (.int .i64) (st1.1 ++ [st1.2])), (1000, .box 77 (.int .i64 y :: (.int .i64 y_2 :: (cellsX T66 y_3 ++ (.own 1001 :: (.own 1002 :: [])))))), (1001, .arr 64 (.pair (.int .i64) (.int .i64)) y_4), (1002, .arr 45 (.sl (.int .i64)) y_5)] ?_
     obtain rfl := Option.some.inj h
     exact ⟨_, rfl, zL [] [] []⟩
    ·refine zm ?_
     refine athen_n ?_
     refine AW.ops ?_
     obtain ⟨c11, h⟩ := ck_some.1 h
     refine zA [(0, .bp 1000 0), (3, .own 15), (4, .int .i64 (st1.2 + 1))] [(15, .arr 3 (.int .i64) st1.1), (1000, .box 77 (.int .i64 y :: (.int .i64 y_2 :: (cellsX T66 y_3 ++ (.own 1001 :: (.own 1002 :: [])))))), (1001, .arr 64 (.pair (.int .i64) (.int .i64)) y_4), (1002, .arr 45 (.sl (.int .i64)) y_5)] ?_
     obtain rfl := Option.some.inj h
     exact ⟨_, rfl, zL [] [] []⟩
   ·refine AW.exit ?_
    refine athen_e ?_
    obtain rfl := Option.some.inj h
    rw [← hd3 _ rfl] at ho2
    have h := ho2
    refine athen_e ?_
    refine ablock_s ?_
    refine athen_n ?_
    exact AW.weaken (zL [] [] []) (hk_linealref06_Yard_Held_k1 _ h)

end Go.Proofs.YtcckpmeepcoafaaDoor
