/-
  Made by wip/tool/dc.py out of the print of the program: contracts.
-/
import Derived.Test.YtljonmpcehlpaaaRfp
import Derived.Test.YtljonmpcehlpaaaShr
import Derived.Test.YtljonmpcehlpaaaNac1
namespace Go.Proofs.Ytljonmpcehlpaaa
open Go.RowKit

set_option linter.unusedSimpArgs false
set_option linter.unusedVariables false
set_option linter.constructorNameAsVariable false

set_option maxRecDepth 100000
set_option maxHeartbeats 2000000

theorem hc_refine_frame_led_1F (slf : Int → Int → ((Int × (List (Int × Int × Int))) × (El T69)) → Option Int) (hc_slf : ∀ (state : Int) (a1 : Int) (a2 : (Int × (List (Int × Int × Int))) × (El T69)) {r : Int}, slf state a1 a2 = some r → HC Try.prog 126 [(1000, .box 67 [.int .u8 a1]), (1001, .box 71 (.int .i64 a2.1.1 :: (.sl (.pair (.int .i64) (.pair (.int .i64) (.int .i64))) a2.1.2 :: (cellsX T69 a2.2)))), (1002, .box 75 [.fn (.func 103) [] []]), (1003, .box 144 [.fn (.func 126) [] [.bp 1000 0, .bp 1001 0, .bp 1002 0, .bp 1003 0]])] [.int .i64 state, .bp 1000 0, .bp 1001 0, .bp 1002 0, .bp 1003 0] [(1000, .box 67 [.int .u8 r]), (1001, .box 71 (.int .i64 a2.1.1 :: (.sl (.pair (.int .i64) (.pair (.int .i64) (.int .i64))) a2.1.2 :: (cellsX T69 a2.2)))), (1002, .box 75 [.fn (.func 103) [] []]), (1003, .box 144 [.fn (.func 126) [] [.bp 1000 0, .bp 1001 0, .bp 1002 0, .bp 1003 0]])] (.tup [])) (state : Int) (a1 : Int) (a2 : (Int × (List (Int × Int × Int))) × (El T69)) {r : Int} (h : refine_frame_led_1F slf state a1 a2 = some r) : HC Try.prog 126 [(1000, .box 67 [.int .u8 a1]), (1001, .box 71 (.int .i64 a2.1.1 :: (.sl (.pair (.int .i64) (.pair (.int .i64) (.int .i64))) a2.1.2 :: (cellsX T69 a2.2)))), (1002, .box 75 [.fn (.func 103) [] []]), (1003, .box 144 [.fn (.func 126) [] [.bp 1000 0, .bp 1001 0, .bp 1002 0, .bp 1003 0]])] [.int .i64 state, .bp 1000 0, .bp 1001 0, .bp 1002 0, .bp 1003 0] [(1000, .box 67 [.int .u8 r]), (1001, .box 71 (.int .i64 a2.1.1 :: (.sl (.pair (.int .i64) (.pair (.int .i64) (.int .i64))) a2.1.2 :: (cellsX T69 a2.2)))), (1002, .box 75 [.fn (.func 103) [] []]), (1003, .box 144 [.fn (.func 126) [] [.bp 1000 0, .bp 1001 0, .bp 1002 0, .bp 1003 0]])] (.tup []) := by
 unfold refine_frame_led_1F at h
 refine zH Try.func126 [] 38 ?_
 refine AW.seq ?_
 refine zo ?_
 refine zS 2 [(0, .int .i64 state), (1, .bp 1000 0), (2, .bp 1001 0), (3, .bp 1002 0), (4, .bp 1003 0), (8, .int .u8 a1), (9, .int .i64 state)] [(1000, .box 67 [.int .u8 a1]), (1001, .box 71 (.int .i64 a2.1.1 :: (.sl (.pair (.int .i64) (.pair (.int .i64) (.int .i64))) a2.1.2 :: (cellsX T69 a2.2)))), (1002, .box 75 [.fn (.func 103) [] []]), (1003, .box 144 [.fn (.func 126) [] [.bp 1000 0, .bp 1001 0, .bp 1002 0, .bp 1003 0]])] ?_
 obtain ⟨v0, hv1, h⟩ := Option.bind_eq_some_iff.1 h
 refine zC [] [] (hc_refine_set_has a1 state hv1) [(0, .int .i64 state), (1, .bp 1000 0), (2, .bp 1001 0), (3, .bp 1002 0), (4, .bp 1003 0), (10, .bool (decide ((iand .u8 (ishr .u8 a1 state) 1) = 1)))] [(1000, .box 67 [.int .u8 a1]), (1001, .box 71 (.int .i64 a2.1.1 :: (.sl (.pair (.int .i64) (.pair (.int .i64) (.int .i64))) a2.1.2 :: (cellsX T69 a2.2)))), (1002, .box 75 [.fn (.func 103) [] []]), (1003, .box 144 [.fn (.func 126) [] [.bp 1000 0, .bp 1001 0, .bp 1002 0, .bp 1003 0]])] ?_
 refine zB [(0, .int .i64 state), (1, .bp 1000 0), (2, .bp 1001 0), (3, .bp 1002 0), (4, .bp 1003 0), (10, .bool (decide ((iand .u8 (ishr .u8 a1 state) 1) = 1)))] [(1000, .box 67 [.int .u8 a1]), (1001, .box 71 (.int .i64 a2.1.1 :: (.sl (.pair (.int .i64) (.pair (.int .i64) (.int .i64))) a2.1.2 :: (cellsX T69 a2.2)))), (1002, .box 75 [.fn (.func 103) [] []]), (1003, .box 144 [.fn (.func 126) [] [.bp 1000 0, .bp 1001 0, .bp 1002 0, .bp 1003 0]])] ?_
 refine zQ h (fun hb2 h => ?_) (fun hb2 h => ?_)
 ·refine zr ?_
  obtain rfl := Option.some.inj h
  exact zR [] [] []
 ·refine zk ?_
  refine AW.seq ?_
  refine AW.draw tab_ok mixed_ok [(4, [1000])] [] (by decide) (by kernel_rfl) ?_
  as_aux_lemma =>
   obtain ⟨c4, h⟩ := ck_some.1 h
   refine adops_cut 5 (fun K' hK3 => ?_)
   try dsimp only [List.drop_succ_cons, List.drop_zero, List.take_succ_cons, List.take_zero]
   simp only [go_sem, hb2]
   repeat with_reducible refine zN ?_
   refine hK3 _ ?_
   refine adops_nil ?_
   refine athen_n ?_
   refine zV [(0, .int .i64 state), (2, .bp 1001 0), (3, .bp 1002 0), (4, .bp 1003 0)] [(1000, .box 67 [.int .u8 (ior .u8 a1 (ishl .u8 1 state))]), (1001, .box 71 (.int .i64 a2.1.1 :: (.sl (.pair (.int .i64) (.pair (.int .i64) (.int .i64))) a2.1.2 :: (cellsX T69 a2.2)))), (1002, .box 75 [.fn (.func 103) [] []]), (1003, .box 144 [.fn (.func 126) [] [.bp 1000 0, .bp 1001 0, .bp 1002 0, .bp 1003 0]])] gt ?_
   as_aux_lemma =>
    refine zo ?_
    refine zB [(0, .int .i64 state), (3, .bp 1002 0), (4, .bp 1003 0), (17, .sl (.pair (.int .i64) (.pair (.int .i64) (.int .i64))) a2.1.2), (18, .int .i64 (a2.1.2.length : Int)), (19, .int .i64 0)] [(1000, .box 67 [.int .u8 (ior .u8 a1 (ishl .u8 1 state))]), (1001, .box 71 (.int .i64 a2.1.1 :: (.sl (.pair (.int .i64) (.pair (.int .i64) (.int .i64))) a2.1.2 :: (cellsX T69 a2.2)))), (1002, .box 75 [.fn (.func 103) [] []]), (1003, .box 144 [.fn (.func 126) [] [.bp 1000 0, .bp 1001 0, .bp 1002 0, .bp 1003 0]])] ?_
    refine AW.block ?_
    obtain ⟨rv9, hw5, ho6⟩ := Option.bind_eq_some_iff.1 h
    refine AW.loopO (refine_frame_led_1_b1 slf state a2) (fun st1 => ⟨fr [(0, .int .i64 state), (3, .bp 1002 0), (4, .bp 1003 0), (17, .sl (.pair (.int .i64) (.pair (.int .i64) (.int .i64))) a2.1.2), (18, .int .i64 (a2.1.2.length : Int)), (19, .int .i64 st1.2)], hpGet [(1000, .box 67 [.int .u8 st1.1]), (1001, .box 71 (.int .i64 a2.1.1 :: (.sl (.pair (.int .i64) (.pair (.int .i64) (.int .i64))) a2.1.2 :: (cellsX T69 a2.2)))), (1002, .box 75 [.fn (.func 103) [] []]), (1003, .box 144 [.fn (.func 126) [] [.bp 1000 0, .bp 1001 0, .bp 1002 0, .bp 1003 0]])], gt⟩) ((ior .u8 a1 (ishl .u8 1 state)), 0) hw5 (zL [] [] []) ?_
    as_aux_lemma =>
     intro st1 x8 h hd7
     unfold refine_frame_led_1_b1 at h
     refine zo ?_
     refine zB [(0, .int .i64 state), (3, .bp 1002 0), (4, .bp 1003 0), (17, .sl (.pair (.int .i64) (.pair (.int .i64) (.int .i64))) a2.1.2), (18, .int .i64 (a2.1.2.length : Int)), (19, .int .i64 st1.2), (20, .bool (decide (st1.2 < (a2.1.2.length : Int))))] [(1000, .box 67 [.int .u8 st1.1]), (1001, .box 71 (.int .i64 a2.1.1 :: (.sl (.pair (.int .i64) (.pair (.int .i64) (.int .i64))) a2.1.2 :: (cellsX T69 a2.2)))), (1002, .box 75 [.fn (.func 103) [] []]), (1003, .box 144 [.fn (.func 126) [] [.bp 1000 0, .bp 1001 0, .bp 1002 0, .bp 1003 0]])] ?_
     refine AW.seq ?_
     refine zQ h (fun hb10 h => ?_) (fun hb10 h => ?_)
     ·refine zk ?_
      refine AW.seq ?_
      refine AW.block ?_
      refine zo ?_
      obtain ⟨c11, h⟩ := ck_some.1 h
      obtain ⟨c12, h⟩ := ck_some.1 h
      refine zB [(0, .int .i64 state), (3, .bp 1002 0), (4, .bp 1003 0), (7, .bp 7 0), (17, .sl (.pair (.int .i64) (.pair (.int .i64) (.int .i64))) a2.1.2), (18, .int .i64 (a2.1.2.length : Int)), (19, .int .i64 st1.2)] [(7, .box 66 [.int .i64 (a2.1.2.getD st1.2.toNat (0, 0, 0)).1, .int .i64 (a2.1.2.getD st1.2.toNat (0, 0, 0)).2.1, .int .i64 (a2.1.2.getD st1.2.toNat (0, 0, 0)).2.2]), (1000, .box 67 [.int .u8 st1.1]), (1001, .box 71 (.int .i64 a2.1.1 :: (.sl (.pair (.int .i64) (.pair (.int .i64) (.int .i64))) a2.1.2 :: (cellsX T69 a2.2)))), (1002, .box 75 [.fn (.func 103) [] []]), (1003, .box 144 [.fn (.func 126) [] [.bp 1000 0, .bp 1001 0, .bp 1002 0, .bp 1003 0]])] ?_
      refine zo ?_
      refine zS 5 [(0, .int .i64 state), (3, .bp 1002 0), (4, .bp 1003 0), (7, .bp 7 0), (17, .sl (.pair (.int .i64) (.pair (.int .i64) (.int .i64))) a2.1.2), (18, .int .i64 (a2.1.2.length : Int)), (19, .int .i64 st1.2), (27, .bool (decide ((a2.1.2.getD st1.2.toNat (0, 0, 0)).1 = state)))] [(7, .box 66 [.int .i64 (a2.1.2.getD st1.2.toNat (0, 0, 0)).1, .int .i64 (a2.1.2.getD st1.2.toNat (0, 0, 0)).2.1, .int .i64 (a2.1.2.getD st1.2.toNat (0, 0, 0)).2.2]), (1000, .box 67 [.int .u8 st1.1]), (1001, .box 71 (.int .i64 a2.1.1 :: (.sl (.pair (.int .i64) (.pair (.int .i64) (.int .i64))) a2.1.2 :: (cellsX T69 a2.2)))), (1002, .box 75 [.fn (.func 103) [] []]), (1003, .box 144 [.fn (.func 126) [] [.bp 1000 0, .bp 1001 0, .bp 1002 0, .bp 1003 0]])] ?_
      rcases zI h with ⟨hb13, h⟩ | ⟨hb13, h⟩
      ·refine zS 3 [(0, .int .i64 state), (3, .bp 1002 0), (4, .bp 1003 0), (7, .bp 7 0), (17, .sl (.pair (.int .i64) (.pair (.int .i64) (.int .i64))) a2.1.2), (18, .int .i64 (a2.1.2.length : Int)), (19, .int .i64 st1.2), (27, .bool true), (28, .fn (.func 103) [] []), (30, .int .i64 (a2.1.2.getD st1.2.toNat (0, 0, 0)).2.1)] [(7, .box 66 [.int .i64 (a2.1.2.getD st1.2.toNat (0, 0, 0)).1, .int .i64 (a2.1.2.getD st1.2.toNat (0, 0, 0)).2.1, .int .i64 (a2.1.2.getD st1.2.toNat (0, 0, 0)).2.2]), (1000, .box 67 [.int .u8 st1.1]), (1001, .box 71 (.int .i64 a2.1.1 :: (.sl (.pair (.int .i64) (.pair (.int .i64) (.int .i64))) a2.1.2 :: (cellsX T69 a2.2)))), (1002, .box 75 [.fn (.func 103) [] []]), (1003, .box 144 [.fn (.func 126) [] [.bp 1000 0, .bp 1001 0, .bp 1002 0, .bp 1003 0]])] ?_
       obtain ⟨v0_2, hv14, h⟩ := Option.bind_eq_some_iff.1 h
       refine zG [] [] (hc_refine_isHidden (a2.1.2.getD st1.2.toNat (0, 0, 0)).2.1 hv14) [(0, .int .i64 state), (3, .bp 1002 0), (4, .bp 1003 0), (7, .bp 7 0), (17, .sl (.pair (.int .i64) (.pair (.int .i64) (.int .i64))) a2.1.2), (18, .int .i64 (a2.1.2.length : Int)), (19, .int .i64 st1.2), (27, .bool true), (31, .bool (decide ((a2.1.2.getD st1.2.toNat (0, 0, 0)).2.1 = 0)))] [(7, .box 66 [.int .i64 (a2.1.2.getD st1.2.toNat (0, 0, 0)).1, .int .i64 (a2.1.2.getD st1.2.toNat (0, 0, 0)).2.1, .int .i64 (a2.1.2.getD st1.2.toNat (0, 0, 0)).2.2]), (1000, .box 67 [.int .u8 st1.1]), (1001, .box 71 (.int .i64 a2.1.1 :: (.sl (.pair (.int .i64) (.pair (.int .i64) (.int .i64))) a2.1.2 :: (cellsX T69 a2.2)))), (1002, .box 75 [.fn (.func 103) [] []]), (1003, .box 144 [.fn (.func 126) [] [.bp 1000 0, .bp 1001 0, .bp 1002 0, .bp 1003 0]])] ?_
       refine zB [(0, .int .i64 state), (3, .bp 1002 0), (4, .bp 1003 0), (7, .bp 7 0), (17, .sl (.pair (.int .i64) (.pair (.int .i64) (.int .i64))) a2.1.2), (18, .int .i64 (a2.1.2.length : Int)), (19, .int .i64 st1.2), (32, .bool (decide ((a2.1.2.getD st1.2.toNat (0, 0, 0)).2.1 = 0)))] [(7, .box 66 [.int .i64 (a2.1.2.getD st1.2.toNat (0, 0, 0)).1, .int .i64 (a2.1.2.getD st1.2.toNat (0, 0, 0)).2.1, .int .i64 (a2.1.2.getD st1.2.toNat (0, 0, 0)).2.2]), (1000, .box 67 [.int .u8 st1.1]), (1001, .box 71 (.int .i64 a2.1.1 :: (.sl (.pair (.int .i64) (.pair (.int .i64) (.int .i64))) a2.1.2 :: (cellsX T69 a2.2)))), (1002, .box 75 [.fn (.func 103) [] []]), (1003, .box 144 [.fn (.func 126) [] [.bp 1000 0, .bp 1001 0, .bp 1002 0, .bp 1003 0]])] ?_
       refine zQ h (fun hb15 h => ?_) (fun hb15 h => ?_)
       ·refine AW.ops ?_
        refine zS 3 [(0, .int .i64 state), (3, .bp 1002 0), (4, .bp 1003 0), (17, .sl (.pair (.int .i64) (.pair (.int .i64) (.int .i64))) a2.1.2), (18, .int .i64 (a2.1.2.length : Int)), (19, .int .i64 st1.2), (33, .fn (.func 126) [] [.bp 1000 0, .bp 1001 0, .bp 1002 0, .bp 1003 0]), (35, .int .i64 (a2.1.2.getD st1.2.toNat (0, 0, 0)).2.2)] [(1000, .box 67 [.int .u8 st1.1]), (1001, .box 71 (.int .i64 a2.1.1 :: (.sl (.pair (.int .i64) (.pair (.int .i64) (.int .i64))) a2.1.2 :: (cellsX T69 a2.2)))), (1002, .box 75 [.fn (.func 103) [] []]), (1003, .box 144 [.fn (.func 126) [] [.bp 1000 0, .bp 1001 0, .bp 1002 0, .bp 1003 0]])] ?_
        obtain ⟨v0_3, hv16, h⟩ := Option.bind_eq_some_iff.1 h
        refine zC [] [(1000, 1000), (1001, 1001), (1002, 1002), (1003, 1003)] (hc_slf (a2.1.2.getD st1.2.toNat (0, 0, 0)).2.2 st1.1 a2 hv16) [(0, .int .i64 state), (3, .bp 1002 0), (4, .bp 1003 0), (17, .sl (.pair (.int .i64) (.pair (.int .i64) (.int .i64))) a2.1.2), (18, .int .i64 (a2.1.2.length : Int)), (19, .int .i64 st1.2)] [(1000, .box 67 [.int .u8 v0_3]), (1001, .box 71 (.int .i64 a2.1.1 :: (.sl (.pair (.int .i64) (.pair (.int .i64) (.int .i64))) a2.1.2 :: (cellsX T69 a2.2)))), (1002, .box 75 [.fn (.func 103) [] []]), (1003, .box 144 [.fn (.func 126) [] [.bp 1000 0, .bp 1001 0, .bp 1002 0, .bp 1003 0]])] ?_
        refine zA [(0, .int .i64 state), (3, .bp 1002 0), (4, .bp 1003 0), (17, .sl (.pair (.int .i64) (.pair (.int .i64) (.int .i64))) a2.1.2), (18, .int .i64 (a2.1.2.length : Int)), (19, .int .i64 st1.2)] [(1000, .box 67 [.int .u8 v0_3]), (1001, .box 71 (.int .i64 a2.1.1 :: (.sl (.pair (.int .i64) (.pair (.int .i64) (.int .i64))) a2.1.2 :: (cellsX T69 a2.2)))), (1002, .box 75 [.fn (.func 103) [] []]), (1003, .box 144 [.fn (.func 126) [] [.bp 1000 0, .bp 1001 0, .bp 1002 0, .bp 1003 0]])] ?_
        refine ablock_n ?_
        refine athen_n ?_
        refine AW.ops ?_
        obtain ⟨c17, h⟩ := ck_some.1 h
        refine zA [(0, .int .i64 state), (3, .bp 1002 0), (4, .bp 1003 0), (17, .sl (.pair (.int .i64) (.pair (.int .i64) (.int .i64))) a2.1.2), (18, .int .i64 (a2.1.2.length : Int)), (19, .int .i64 (st1.2 + 1))] [(1000, .box 67 [.int .u8 v0_3]), (1001, .box 71 (.int .i64 a2.1.1 :: (.sl (.pair (.int .i64) (.pair (.int .i64) (.int .i64))) a2.1.2 :: (cellsX T69 a2.2)))), (1002, .box 75 [.fn (.func 103) [] []]), (1003, .box 144 [.fn (.func 126) [] [.bp 1000 0, .bp 1001 0, .bp 1002 0, .bp 1003 0]])] ?_
        obtain rfl := Option.some.inj h
        exact ⟨_, rfl, zL [] [] []⟩
       ·refine zm ?_
        refine athen_n ?_
        refine AW.ops ?_
        obtain ⟨c18, h⟩ := ck_some.1 h
        refine zA [(0, .int .i64 state), (3, .bp 1002 0), (4, .bp 1003 0), (17, .sl (.pair (.int .i64) (.pair (.int .i64) (.int .i64))) a2.1.2), (18, .int .i64 (a2.1.2.length : Int)), (19, .int .i64 (st1.2 + 1))] [(1000, .box 67 [.int .u8 st1.1]), (1001, .box 71 (.int .i64 a2.1.1 :: (.sl (.pair (.int .i64) (.pair (.int .i64) (.int .i64))) a2.1.2 :: (cellsX T69 a2.2)))), (1002, .box 75 [.fn (.func 103) [] []]), (1003, .box 144 [.fn (.func 126) [] [.bp 1000 0, .bp 1001 0, .bp 1002 0, .bp 1003 0]])] ?_
        obtain rfl := Option.some.inj h
        exact ⟨_, rfl, zL [] [] []⟩
      ·refine zS 4 [(0, .int .i64 state), (3, .bp 1002 0), (4, .bp 1003 0), (7, .bp 7 0), (17, .sl (.pair (.int .i64) (.pair (.int .i64) (.int .i64))) a2.1.2), (18, .int .i64 (a2.1.2.length : Int)), (19, .int .i64 st1.2), (27, .bool false), (31, .cv (undef))] [(7, .box 66 [.int .i64 (a2.1.2.getD st1.2.toNat (0, 0, 0)).1, .int .i64 (a2.1.2.getD st1.2.toNat (0, 0, 0)).2.1, .int .i64 (a2.1.2.getD st1.2.toNat (0, 0, 0)).2.2]), (1000, .box 67 [.int .u8 st1.1]), (1001, .box 71 (.int .i64 a2.1.1 :: (.sl (.pair (.int .i64) (.pair (.int .i64) (.int .i64))) a2.1.2 :: (cellsX T69 a2.2)))), (1002, .box 75 [.fn (.func 103) [] []]), (1003, .box 144 [.fn (.func 126) [] [.bp 1000 0, .bp 1001 0, .bp 1002 0, .bp 1003 0]])] ?_
       refine zB [(0, .int .i64 state), (3, .bp 1002 0), (4, .bp 1003 0), (7, .bp 7 0), (17, .sl (.pair (.int .i64) (.pair (.int .i64) (.int .i64))) a2.1.2), (18, .int .i64 (a2.1.2.length : Int)), (19, .int .i64 st1.2), (32, .bool false)] [(7, .box 66 [.int .i64 (a2.1.2.getD st1.2.toNat (0, 0, 0)).1, .int .i64 (a2.1.2.getD st1.2.toNat (0, 0, 0)).2.1, .int .i64 (a2.1.2.getD st1.2.toNat (0, 0, 0)).2.2]), (1000, .box 67 [.int .u8 st1.1]), (1001, .box 71 (.int .i64 a2.1.1 :: (.sl (.pair (.int .i64) (.pair (.int .i64) (.int .i64))) a2.1.2 :: (cellsX T69 a2.2)))), (1002, .box 75 [.fn (.func 103) [] []]), (1003, .box 144 [.fn (.func 126) [] [.bp 1000 0, .bp 1001 0, .bp 1002 0, .bp 1003 0]])] ?_
       refine AW.cond (b := false) rfl (fun hb19 => by cases hb19) (fun _ => ?_)
       refine zm ?_
       refine athen_n ?_
       refine AW.ops ?_
       obtain ⟨c20, h⟩ := ck_some.1 h
       refine zA [(0, .int .i64 state), (3, .bp 1002 0), (4, .bp 1003 0), (17, .sl (.pair (.int .i64) (.pair (.int .i64) (.int .i64))) a2.1.2), (18, .int .i64 (a2.1.2.length : Int)), (19, .int .i64 (st1.2 + 1))] [(1000, .box 67 [.int .u8 st1.1]), (1001, .box 71 (.int .i64 a2.1.1 :: (.sl (.pair (.int .i64) (.pair (.int .i64) (.int .i64))) a2.1.2 :: (cellsX T69 a2.2)))), (1002, .box 75 [.fn (.func 103) [] []]), (1003, .box 144 [.fn (.func 126) [] [.bp 1000 0, .bp 1001 0, .bp 1002 0, .bp 1003 0]])] ?_
       obtain rfl := Option.some.inj h
       exact ⟨_, rfl, zL [] [] []⟩
     ·refine AW.exit ?_
      refine athen_e ?_
      obtain rfl := Option.some.inj h
      rw [← hd7 _ rfl] at ho6
      have h := ho6
      refine athen_e ?_
      refine ablock_s ?_
      obtain rfl := Option.some.inj h
      exact zR [] [] []

theorem hc_refine_frame_led_1 : ∀ (n : Nat) (state : Int) (a1 : Int) (a2 : (Int × (List (Int × Int × Int))) × (El T69)) {r : Int}, refine_frame_led_1 n state a1 a2 = some r → HC Try.prog 126 [(1000, .box 67 [.int .u8 a1]), (1001, .box 71 (.int .i64 a2.1.1 :: (.sl (.pair (.int .i64) (.pair (.int .i64) (.int .i64))) a2.1.2 :: (cellsX T69 a2.2)))), (1002, .box 75 [.fn (.func 103) [] []]), (1003, .box 144 [.fn (.func 126) [] [.bp 1000 0, .bp 1001 0, .bp 1002 0, .bp 1003 0]])] [.int .i64 state, .bp 1000 0, .bp 1001 0, .bp 1002 0, .bp 1003 0] [(1000, .box 67 [.int .u8 r]), (1001, .box 71 (.int .i64 a2.1.1 :: (.sl (.pair (.int .i64) (.pair (.int .i64) (.int .i64))) a2.1.2 :: (cellsX T69 a2.2)))), (1002, .box 75 [.fn (.func 103) [] []]), (1003, .box 144 [.fn (.func 126) [] [.bp 1000 0, .bp 1001 0, .bp 1002 0, .bp 1003 0]])] (.tup []) := by
 intro n
 induction n with
 | zero => intro state a1 a2 r h; cases h
 | succ n ih => intro state a1 a2 r h; exact hc_refine_frame_led_1F (refine_frame_led_1 n) ih state a1 a2 h

theorem hc_refine_frame_led (f : (Int × (List (Int × Int × Int))) × (El T69)) (from0 : Int) {r : Int} (h : refine_frame_led f from0 = some r) : HC Try.prog 102 [] [.agg (.int .i64 f.1.1 :: (.sl (.pair (.int .i64) (.pair (.int .i64) (.int .i64))) f.1.2 :: (cellsX T69 f.2))), .int .i64 from0, .fn (.func 103) [] []] [] (.int .u8 r) := by
 unfold refine_frame_led at h
 refine zH Try.func102 [.tmp 6] 14 ?_
 refine zo ?_
 refine zB [(1, .int .i64 from0), (3, .bp 3 0), (5, .bp 5 0)] [(3, .box 71 (.int .i64 f.1.1 :: (.sl (.pair (.int .i64) (.pair (.int .i64) (.int .i64))) f.1.2 :: (cellsX T69 f.2)))), (5, .box 75 [.fn (.func 103) [] []])] ?_
 refine zo ?_
 refine zB [(1, .int .i64 from0), (3, .bp 3 0), (5, .bp 5 0), (7, .bp 7 0)] [(3, .box 71 (.int .i64 f.1.1 :: (.sl (.pair (.int .i64) (.pair (.int .i64) (.int .i64))) f.1.2 :: (cellsX T69 f.2)))), (5, .box 75 [.fn (.func 103) [] []]), (7, .box 67 [.int .u8 0])] ?_
 refine zo ?_
 refine zB [(1, .int .i64 from0), (3, .bp 3 0), (5, .bp 5 0), (7, .bp 7 0), (8, .bp 8 0)] [(3, .box 71 (.int .i64 f.1.1 :: (.sl (.pair (.int .i64) (.pair (.int .i64) (.int .i64))) f.1.2 :: (cellsX T69 f.2)))), (5, .box 75 [.fn (.func 103) [] []]), (7, .box 67 [.int .u8 0]), (8, .box 144 [.cv (.nilFunc)])] ?_
 refine zo ?_
 refine zB [(1, .int .i64 from0), (7, .bp 7 0), (8, .bp 8 0)] [(3, .box 71 (.int .i64 f.1.1 :: (.sl (.pair (.int .i64) (.pair (.int .i64) (.int .i64))) f.1.2 :: (cellsX T69 f.2)))), (5, .box 75 [.fn (.func 103) [] []]), (7, .box 67 [.int .u8 0]), (8, .box 144 [.fn (.func 126) [] [.bp 7 0, .bp 3 0, .bp 5 0, .bp 8 0]])] ?_
 refine zo ?_
 refine zS 2 [(7, .bp 7 0), (10, .fn (.func 126) [] [.bp 7 0, .bp 3 0, .bp 5 0, .bp 8 0]), (11, .int .i64 from0)] [(3, .box 71 (.int .i64 f.1.1 :: (.sl (.pair (.int .i64) (.pair (.int .i64) (.int .i64))) f.1.2 :: (cellsX T69 f.2)))), (5, .box 75 [.fn (.func 103) [] []]), (7, .box 67 [.int .u8 0]), (8, .box 144 [.fn (.func 126) [] [.bp 7 0, .bp 3 0, .bp 5 0, .bp 8 0]])] ?_
 obtain ⟨v0, hv1, h⟩ := Option.bind_eq_some_iff.1 h
 refine zC [] [(1000, 7), (1001, 3), (1002, 5), (1003, 8)] (hc_refine_frame_led_1 fuel from0 0 f hv1) [(7, .bp 7 0)] [(7, .box 67 [.int .u8 v0])] ?_
 refine zB [(7, .bp 7 0)] [(7, .box 67 [.int .u8 v0])] ?_
 refine zo ?_
 refine zB [(6, .int .u8 v0)] [] ?_
 refine AW.ret ?_
 obtain rfl := Option.some.inj h
 exact zR [] [] []

end Go.Proofs.Ytljonmpcehlpaaa
