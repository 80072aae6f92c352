/-
  Made by wip/tool/dc.py out of the print of the program: contracts.
-/
import Derived.Test.YtifleoceebaooaaRfp
import Derived.Test.YtifleoceebaooaaShr
import Derived.Test.YtifleoceebaooaaAvd
import Derived.Test.YtifleoceebaooaaNbc1
import Derived.Test.YtifleoceebaooaaNbc2
import Derived.Test.YtifleoceebaooaaNbc5
import Derived.Test.YtifleoceebaooaaNbc6
import Derived.Test.YtifleoceebaooaaNbc7
namespace Go.Proofs.Ytifleoceebaooaa
open Go.RowKit

set_option linter.unusedSimpArgs false
set_option linter.unusedVariables false
set_option linter.constructorNameAsVariable false

set_option maxRecDepth 100000
set_option maxHeartbeats 2000000

theorem hc_refine_two_proof_1F (slf : Int → Int → ((El T94)) → (((Int × (List (Int × Int × Int))) × (El T69)) × (Int × (List (Int × Int × Int))) × (El T69)) → ((El T94)) → Option ((El T94))) (hc_slf : ∀ (x0 : Int) (y : Int) (a2 : (El T94)) (a3 : ((Int × (List (Int × Int × Int))) × (El T69)) × (Int × (List (Int × Int × Int))) × (El T69)) (a4 : (El T94)) {r : (El T94)}, slf x0 y a2 a3 a4 = some r → HC Try.prog 113 [(1000, .box 94 (cellsX T94 a2)), (1001, .box 90 (.int .i64 a3.1.1.1 :: (.sl (.pair (.int .i64) (.pair (.int .i64) (.int .i64))) a3.1.1.2 :: (cellsX T69 a3.1.2 ++ (.int .i64 a3.2.1.1 :: (.sl (.pair (.int .i64) (.pair (.int .i64) (.int .i64))) a3.2.1.2 :: (cellsX T69 a3.2.2))))))), (1002, .box 94 (cellsX T94 a4)), (1003, .box 127 [.fn (.func 113) [] [.bp 1000 0, .bp 1001 0, .bp 1002 0, .bp 1003 0]])] [.int .i64 x0, .int .i64 y, .bp 1000 0, .bp 1001 0, .bp 1002 0, .bp 1003 0] [(1000, .box 94 (cellsX T94 r)), (1001, .box 90 (.int .i64 a3.1.1.1 :: (.sl (.pair (.int .i64) (.pair (.int .i64) (.int .i64))) a3.1.1.2 :: (cellsX T69 a3.1.2 ++ (.int .i64 a3.2.1.1 :: (.sl (.pair (.int .i64) (.pair (.int .i64) (.int .i64))) a3.2.1.2 :: (cellsX T69 a3.2.2))))))), (1002, .box 94 (cellsX T94 a4)), (1003, .box 127 [.fn (.func 113) [] [.bp 1000 0, .bp 1001 0, .bp 1002 0, .bp 1003 0]])] (.tup [])) (x0 : Int) (y : Int) (a2 : (El T94)) (a3 : ((Int × (List (Int × Int × Int))) × (El T69)) × (Int × (List (Int × Int × Int))) × (El T69)) (a4 : (El T94)) {r : (El T94)} (h : refine_two_proof_1F slf x0 y a2 a3 a4 = some r) : HC Try.prog 113 [(1000, .box 94 (cellsX T94 a2)), (1001, .box 90 (.int .i64 a3.1.1.1 :: (.sl (.pair (.int .i64) (.pair (.int .i64) (.int .i64))) a3.1.1.2 :: (cellsX T69 a3.1.2 ++ (.int .i64 a3.2.1.1 :: (.sl (.pair (.int .i64) (.pair (.int .i64) (.int .i64))) a3.2.1.2 :: (cellsX T69 a3.2.2))))))), (1002, .box 94 (cellsX T94 a4)), (1003, .box 127 [.fn (.func 113) [] [.bp 1000 0, .bp 1001 0, .bp 1002 0, .bp 1003 0]])] [.int .i64 x0, .int .i64 y, .bp 1000 0, .bp 1001 0, .bp 1002 0, .bp 1003 0] [(1000, .box 94 (cellsX T94 r)), (1001, .box 90 (.int .i64 a3.1.1.1 :: (.sl (.pair (.int .i64) (.pair (.int .i64) (.int .i64))) a3.1.1.2 :: (cellsX T69 a3.1.2 ++ (.int .i64 a3.2.1.1 :: (.sl (.pair (.int .i64) (.pair (.int .i64) (.int .i64))) a3.2.1.2 :: (cellsX T69 a3.2.2))))))), (1002, .box 94 (cellsX T94 a4)), (1003, .box 127 [.fn (.func 113) [] [.bp 1000 0, .bp 1001 0, .bp 1002 0, .bp 1003 0]])] (.tup []) := by
 unfold refine_two_proof_1F at h
 refine zH Try.func113 [] 56 ?_
 refine AW.seq ?_
 refine zo ?_
 obtain ⟨c1, h⟩ := ck_some.1 h
 obtain ⟨c2, h⟩ := ck_some.1 h
 have hx3 : (0 + x0.toNat * 1) < 6 := by omega
 refine zS 4 [(0, .int .i64 x0), (1, .int .i64 y), (2, .bp 1000 0), (3, .bp 1001 0), (4, .bp 1002 0), (5, .bp 1003 0), (13, .int .u8 (intAt T94 a2 (0 + x0.toNat * 1))), (14, .int .i64 y)] [(1000, .box 94 (cellsX T94 a2)), (1001, .box 90 (.int .i64 a3.1.1.1 :: (.sl (.pair (.int .i64) (.pair (.int .i64) (.int .i64))) a3.1.1.2 :: (cellsX T69 a3.1.2 ++ (.int .i64 a3.2.1.1 :: (.sl (.pair (.int .i64) (.pair (.int .i64) (.int .i64))) a3.2.1.2 :: (cellsX T69 a3.2.2))))))), (1002, .box 94 (cellsX T94 a4)), (1003, .box 127 [.fn (.func 113) [] [.bp 1000 0, .bp 1001 0, .bp 1002 0, .bp 1003 0]])] ?_
 obtain ⟨v0, hv4, h⟩ := Option.bind_eq_some_iff.1 h
 refine zC [] [] (hc_refine_set_has (intAt T94 a2 (0 + x0.toNat * 1)) y hv4) [(0, .int .i64 x0), (1, .int .i64 y), (2, .bp 1000 0), (3, .bp 1001 0), (4, .bp 1002 0), (5, .bp 1003 0), (15, .bool (decide ((iand .u8 (ishr .u8 (intAt T94 a2 (0 + x0.toNat * 1)) y) 1) = 1)))] [(1000, .box 94 (cellsX T94 a2)), (1001, .box 90 (.int .i64 a3.1.1.1 :: (.sl (.pair (.int .i64) (.pair (.int .i64) (.int .i64))) a3.1.1.2 :: (cellsX T69 a3.1.2 ++ (.int .i64 a3.2.1.1 :: (.sl (.pair (.int .i64) (.pair (.int .i64) (.int .i64))) a3.2.1.2 :: (cellsX T69 a3.2.2))))))), (1002, .box 94 (cellsX T94 a4)), (1003, .box 127 [.fn (.func 113) [] [.bp 1000 0, .bp 1001 0, .bp 1002 0, .bp 1003 0]])] ?_
 refine zB [(0, .int .i64 x0), (1, .int .i64 y), (2, .bp 1000 0), (3, .bp 1001 0), (4, .bp 1002 0), (5, .bp 1003 0), (15, .bool (decide ((iand .u8 (ishr .u8 (intAt T94 a2 (0 + x0.toNat * 1)) y) 1) = 1)))] [(1000, .box 94 (cellsX T94 a2)), (1001, .box 90 (.int .i64 a3.1.1.1 :: (.sl (.pair (.int .i64) (.pair (.int .i64) (.int .i64))) a3.1.1.2 :: (cellsX T69 a3.1.2 ++ (.int .i64 a3.2.1.1 :: (.sl (.pair (.int .i64) (.pair (.int .i64) (.int .i64))) a3.2.1.2 :: (cellsX T69 a3.2.2))))))), (1002, .box 94 (cellsX T94 a4)), (1003, .box 127 [.fn (.func 113) [] [.bp 1000 0, .bp 1001 0, .bp 1002 0, .bp 1003 0]])] ?_
 refine zQ h (fun hb5 h => ?_) (fun hb5 h => ?_)
 ·refine zr ?_
  obtain rfl := Option.some.inj h
  exact zR [] [] []
 ·refine zk ?_
  refine AW.seq ?_
  refine AW.draw tab_ok mixed_ok [(7, [1000])] [] (by decide) (by kernel_rfl) ?_
  as_aux_lemma =>
   obtain ⟨c7, h⟩ := ck_some.1 h
   obtain ⟨c8, h⟩ := ck_some.1 h
   have hx9 : (0 + x0.toNat * 1) < 6 := by omega
   obtain ⟨c10, h⟩ := ck_some.1 h
   refine adops_cut 6 (fun K' hK6 => ?_)
   try dsimp only [List.drop_succ_cons, List.drop_zero, List.take_succ_cons, List.take_zero]
   simp only [go_sem, hx3, hb5, hx9]
   repeat with_reducible refine zN ?_
   refine hK6 _ ?_
   as_aux_lemma =>
    obtain ⟨c12, h⟩ := ck_some.1 h
    obtain ⟨c13, h⟩ := ck_some.1 h
    have hx14 : (0 + x0.toNat * 1) < 6 := by omega
    refine adops_cut 2 (fun K' hK11 => ?_)
    try dsimp only [List.drop_succ_cons, List.drop_zero, List.take_succ_cons, List.take_zero]
    simp only [go_sem, hx3, hb5, hx9, hx14]
    repeat with_reducible refine zN ?_
    refine hK11 _ ?_
    refine adops_nil ?_
    refine athen_n ?_
    refine zV [(0, .int .i64 x0), (1, .int .i64 y), (3, .bp 1001 0), (4, .bp 1002 0), (5, .bp 1003 0)] [(1000, .box 94 (cellsX T94 (setInt T94 a2 (0 + x0.toNat * 1) (ior .u8 (intAt T94 a2 (0 + x0.toNat * 1)) (ishl .u8 1 y))))), (1001, .box 90 (.int .i64 a3.1.1.1 :: (.sl (.pair (.int .i64) (.pair (.int .i64) (.int .i64))) a3.1.1.2 :: (cellsX T69 a3.1.2 ++ (.int .i64 a3.2.1.1 :: (.sl (.pair (.int .i64) (.pair (.int .i64) (.int .i64))) a3.2.1.2 :: (cellsX T69 a3.2.2))))))), (1002, .box 94 (cellsX T94 a4)), (1003, .box 127 [.fn (.func 113) [] [.bp 1000 0, .bp 1001 0, .bp 1002 0, .bp 1003 0]])] gt ?_
    as_aux_lemma =>
     refine zo ?_
     refine zS 5 [(0, .int .i64 x0), (1, .int .i64 y), (3, .bp 1001 0), (4, .bp 1002 0), (5, .bp 1003 0), (26, .sl (.pair (.int .i64) (.pair (.int .i64) (.int .i64))) a3.1.1.2), (27, .int .i64 (a3.1.1.2.length : Int))] [(1000, .box 94 (cellsX T94 (setInt T94 a2 (0 + x0.toNat * 1) (ior .u8 (intAt T94 a2 (0 + x0.toNat * 1)) (ishl .u8 1 y))))), (1001, .box 90 (.int .i64 a3.1.1.1 :: (.sl (.pair (.int .i64) (.pair (.int .i64) (.int .i64))) a3.1.1.2 :: (cellsX T69 a3.1.2 ++ (.int .i64 a3.2.1.1 :: (.sl (.pair (.int .i64) (.pair (.int .i64) (.int .i64))) a3.2.1.2 :: (cellsX T69 a3.2.2))))))), (1002, .box 94 (cellsX T94 a4)), (1003, .box 127 [.fn (.func 113) [] [.bp 1000 0, .bp 1001 0, .bp 1002 0, .bp 1003 0]])] ?_
     refine zB [(0, .int .i64 x0), (1, .int .i64 y), (3, .bp 1001 0), (4, .bp 1002 0), (5, .bp 1003 0), (26, .sl (.pair (.int .i64) (.pair (.int .i64) (.int .i64))) a3.1.1.2), (27, .int .i64 (a3.1.1.2.length : Int)), (28, .int .i64 0)] [(1000, .box 94 (cellsX T94 (setInt T94 a2 (0 + x0.toNat * 1) (ior .u8 (intAt T94 a2 (0 + x0.toNat * 1)) (ishl .u8 1 y))))), (1001, .box 90 (.int .i64 a3.1.1.1 :: (.sl (.pair (.int .i64) (.pair (.int .i64) (.int .i64))) a3.1.1.2 :: (cellsX T69 a3.1.2 ++ (.int .i64 a3.2.1.1 :: (.sl (.pair (.int .i64) (.pair (.int .i64) (.int .i64))) a3.2.1.2 :: (cellsX T69 a3.2.2))))))), (1002, .box 94 (cellsX T94 a4)), (1003, .box 127 [.fn (.func 113) [] [.bp 1000 0, .bp 1001 0, .bp 1002 0, .bp 1003 0]])] ?_
     refine AW.block ?_
     obtain ⟨rv19, hw15, ho16⟩ := Option.bind_eq_some_iff.1 h
     refine AW.loopO (refine_two_proof_1_b1 slf x0 y a3 a4) (fun st1 => ⟨fr [(0, .int .i64 x0), (1, .int .i64 y), (3, .bp 1001 0), (4, .bp 1002 0), (5, .bp 1003 0), (26, .sl (.pair (.int .i64) (.pair (.int .i64) (.int .i64))) a3.1.1.2), (27, .int .i64 (a3.1.1.2.length : Int)), (28, .int .i64 st1.2)], hpGet [(1000, .box 94 (cellsX T94 st1.1)), (1001, .box 90 (.int .i64 a3.1.1.1 :: (.sl (.pair (.int .i64) (.pair (.int .i64) (.int .i64))) a3.1.1.2 :: (cellsX T69 a3.1.2 ++ (.int .i64 a3.2.1.1 :: (.sl (.pair (.int .i64) (.pair (.int .i64) (.int .i64))) a3.2.1.2 :: (cellsX T69 a3.2.2))))))), (1002, .box 94 (cellsX T94 a4)), (1003, .box 127 [.fn (.func 113) [] [.bp 1000 0, .bp 1001 0, .bp 1002 0, .bp 1003 0]])], gt⟩) ((setInt T94 a2 (0 + x0.toNat * 1) (ior .u8 (intAt T94 a2 (0 + x0.toNat * 1)) (ishl .u8 1 y))), 0) hw15 (zL [] [] []) ?_
     as_aux_lemma =>
      intro st1 x18 h hd17
      unfold refine_two_proof_1_b1 at h
      refine zo ?_
      refine zB [(0, .int .i64 x0), (1, .int .i64 y), (3, .bp 1001 0), (4, .bp 1002 0), (5, .bp 1003 0), (26, .sl (.pair (.int .i64) (.pair (.int .i64) (.int .i64))) a3.1.1.2), (27, .int .i64 (a3.1.1.2.length : Int)), (28, .int .i64 st1.2), (29, .bool (decide (st1.2 < (a3.1.1.2.length : Int))))] [(1000, .box 94 (cellsX T94 st1.1)), (1001, .box 90 (.int .i64 a3.1.1.1 :: (.sl (.pair (.int .i64) (.pair (.int .i64) (.int .i64))) a3.1.1.2 :: (cellsX T69 a3.1.2 ++ (.int .i64 a3.2.1.1 :: (.sl (.pair (.int .i64) (.pair (.int .i64) (.int .i64))) a3.2.1.2 :: (cellsX T69 a3.2.2))))))), (1002, .box 94 (cellsX T94 a4)), (1003, .box 127 [.fn (.func 113) [] [.bp 1000 0, .bp 1001 0, .bp 1002 0, .bp 1003 0]])] ?_
      refine AW.seq ?_
      refine zQ h (fun hb20 h => ?_) (fun hb20 h => ?_)
      ·refine zk ?_
       refine AW.seq ?_
       refine AW.block ?_
       refine zo ?_
       obtain ⟨c21, h⟩ := ck_some.1 h
       obtain ⟨c22, h⟩ := ck_some.1 h
       refine zB [(0, .int .i64 x0), (1, .int .i64 y), (3, .bp 1001 0), (4, .bp 1002 0), (5, .bp 1003 0), (9, .bp 9 0), (26, .sl (.pair (.int .i64) (.pair (.int .i64) (.int .i64))) a3.1.1.2), (27, .int .i64 (a3.1.1.2.length : Int)), (28, .int .i64 st1.2)] [(9, .box 66 [.int .i64 (a3.1.1.2.getD st1.2.toNat (0, 0, 0)).1, .int .i64 (a3.1.1.2.getD st1.2.toNat (0, 0, 0)).2.1, .int .i64 (a3.1.1.2.getD st1.2.toNat (0, 0, 0)).2.2]), (1000, .box 94 (cellsX T94 st1.1)), (1001, .box 90 (.int .i64 a3.1.1.1 :: (.sl (.pair (.int .i64) (.pair (.int .i64) (.int .i64))) a3.1.1.2 :: (cellsX T69 a3.1.2 ++ (.int .i64 a3.2.1.1 :: (.sl (.pair (.int .i64) (.pair (.int .i64) (.int .i64))) a3.2.1.2 :: (cellsX T69 a3.2.2))))))), (1002, .box 94 (cellsX T94 a4)), (1003, .box 127 [.fn (.func 113) [] [.bp 1000 0, .bp 1001 0, .bp 1002 0, .bp 1003 0]])] ?_
       refine zo ?_
       refine zB [(0, .int .i64 x0), (1, .int .i64 y), (3, .bp 1001 0), (4, .bp 1002 0), (5, .bp 1003 0), (9, .bp 9 0), (26, .sl (.pair (.int .i64) (.pair (.int .i64) (.int .i64))) a3.1.1.2), (27, .int .i64 (a3.1.1.2.length : Int)), (28, .int .i64 st1.2), (35, .bool (decide ((a3.1.1.2.getD st1.2.toNat (0, 0, 0)).1 = x0)))] [(9, .box 66 [.int .i64 (a3.1.1.2.getD st1.2.toNat (0, 0, 0)).1, .int .i64 (a3.1.1.2.getD st1.2.toNat (0, 0, 0)).2.1, .int .i64 (a3.1.1.2.getD st1.2.toNat (0, 0, 0)).2.2]), (1000, .box 94 (cellsX T94 st1.1)), (1001, .box 90 (.int .i64 a3.1.1.1 :: (.sl (.pair (.int .i64) (.pair (.int .i64) (.int .i64))) a3.1.1.2 :: (cellsX T69 a3.1.2 ++ (.int .i64 a3.2.1.1 :: (.sl (.pair (.int .i64) (.pair (.int .i64) (.int .i64))) a3.2.1.2 :: (cellsX T69 a3.2.2))))))), (1002, .box 94 (cellsX T94 a4)), (1003, .box 127 [.fn (.func 113) [] [.bp 1000 0, .bp 1001 0, .bp 1002 0, .bp 1003 0]])] ?_
       refine zQ h (fun hb23 h => ?_) (fun hb23 h => ?_)
       ·refine AW.seq ?_
        refine AW.draw tab_ok mixed_ok [] [] (by decide) (lex_fast (by kernel_rfl)) ?_
        as_aux_lemma =>
         obtain ⟨c25, h⟩ := ck_some.1 h
         obtain ⟨c26, h⟩ := ck_some.1 h
         refine adops_cut 6 (fun K' hK24 => ?_)
         try dsimp only [List.drop_succ_cons, List.drop_zero, List.take_succ_cons, List.take_zero]
         simp only [go_sem, hx3, hb5, hx9, hx14, hb20, hb23]
         repeat with_reducible refine zN ?_
         refine hK24 _ ?_
         as_aux_lemma =>
          obtain ⟨c28, h⟩ := ck_some.1 h
          obtain ⟨c29, h⟩ := ck_some.1 h
          have hx30 : ((y.toNat * 4) + (a3.1.1.2.getD st1.2.toNat (0, 0, 0)).2.1.toNat * 1) < 24 := by omega
          obtain ⟨c31, h⟩ := ck_some.1 h
          obtain ⟨c32, h⟩ := ck_some.1 h
          have hx33 : (0 + (a3.1.1.2.getD st1.2.toNat (0, 0, 0)).2.2.toNat * 1) < 6 := by omega
          refine adops_cut 6 (fun K' hK27 => ?_)
          try dsimp only [List.drop_succ_cons, List.drop_zero, List.take_succ_cons, List.take_zero]
          simp only [go_sem, hx3, hb5, hx9, hx14, hb20, hb23, hx30, hx33]
          repeat with_reducible refine zN ?_
          refine hK27 _ ?_
          as_aux_lemma =>
           refine adops_cut 2 (fun K' hK34 => ?_)
           try dsimp only [List.drop_succ_cons, List.drop_zero, List.take_succ_cons, List.take_zero]
           simp only [go_sem, hx3, hb5, hx9, hx14, hb20, hb23, hx30, hx33]
           repeat with_reducible refine zN ?_
           refine hK34 _ ?_
           refine adops_nil ?_
           refine athen_n ?_
           refine zV [(0, .int .i64 x0), (1, .int .i64 y), (3, .bp 1001 0), (4, .bp 1002 0), (5, .bp 1003 0), (9, .bp 9 0), (10, .int .u8 (iand .u8 (intAt T69 a3.2.2 ((y.toNat * 4) + (a3.1.1.2.getD st1.2.toNat (0, 0, 0)).2.1.toNat * 1)) (intAt T94 a4 (0 + (a3.1.1.2.getD st1.2.toNat (0, 0, 0)).2.2.toNat * 1)))), (26, .sl (.pair (.int .i64) (.pair (.int .i64) (.int .i64))) a3.1.1.2), (27, .int .i64 (a3.1.1.2.length : Int)), (28, .int .i64 st1.2)] [(9, .box 66 [.int .i64 (a3.1.1.2.getD st1.2.toNat (0, 0, 0)).1, .int .i64 (a3.1.1.2.getD st1.2.toNat (0, 0, 0)).2.1, .int .i64 (a3.1.1.2.getD st1.2.toNat (0, 0, 0)).2.2]), (1000, .box 94 (cellsX T94 st1.1)), (1001, .box 90 (.int .i64 a3.1.1.1 :: (.sl (.pair (.int .i64) (.pair (.int .i64) (.int .i64))) a3.1.1.2 :: (cellsX T69 a3.1.2 ++ (.int .i64 a3.2.1.1 :: (.sl (.pair (.int .i64) (.pair (.int .i64) (.int .i64))) a3.2.1.2 :: (cellsX T69 a3.2.2))))))), (1002, .box 94 (cellsX T94 a4)), (1003, .box 127 [.fn (.func 113) [] [.bp 1000 0, .bp 1001 0, .bp 1002 0, .bp 1003 0]])] gt ?_
           as_aux_lemma =>
            refine AW.draw tab_ok mixed_ok [(5, [1000, 1001, 1002, 1003])] [] (by decide) (by kernel_rfl) ?_
            as_aux_lemma =>
             refine adops_cut 4 (fun K' hK35 => ?_)
             try dsimp only [List.drop_succ_cons, List.drop_zero, List.take_succ_cons, List.take_zero]
             simp only [go_sem, hx3, hb5, hx9, hx14, hb20, hb23, hx30, hx33]
             repeat with_reducible refine zN ?_
             refine hK35 _ ?_
             as_aux_lemma =>
              obtain ⟨v0_2, hv36, h⟩ := Option.bind_eq_some_iff.1 h
              refine adops.call (by first | trivial | rfl) rfl rfl rfl (fun _ h => h) [] [] (hc_refine_set_least (iand .u8 (intAt T69 a3.2.2 ((y.toNat * 4) + (a3.1.1.2.getD st1.2.toNat (0, 0, 0)).2.1.toNat * 1)) (intAt T94 a4 (0 + (a3.1.1.2.getD st1.2.toNat (0, 0, 0)).2.2.toNat * 1))) hv36) rfl (by (simp only [go_sem, hx3, hb5, hx9, hx14, hb20, hb23, hx30, hx33]) <;> (with_reducible and_intros) <;> first | assumption | rfl | omega | (unfold maxLen; omega)) (by (simp only [go_sem, hx3, hb5, hx9, hx14, hb20, hb23, hx30, hx33]) <;> (with_reducible and_intros) <;> first | assumption | rfl | omega | (unfold maxLen; omega)) rfl ?_
              obtain ⟨v0_3, hv37, h⟩ := Option.bind_eq_some_iff.1 h
              refine adops.call (by first | trivial | rfl) rfl rfl rfl (fun _ h => h) [] [(1000, 1000), (1001, 1001), (1002, 1002), (1003, 1003)] (hc_slf (a3.1.1.2.getD st1.2.toNat (0, 0, 0)).2.2 (strAt strL0 (iand .u8 (intAt T69 a3.2.2 ((y.toNat * 4) + (a3.1.1.2.getD st1.2.toNat (0, 0, 0)).2.1.toNat * 1)) (intAt T94 a4 (0 + (a3.1.1.2.getD st1.2.toNat (0, 0, 0)).2.2.toNat * 1))).toNat) st1.1 a3 a4 hv37) rfl (by (simp only [go_sem, hx3, hb5, hx9, hx14, hb20, hb23, hx30, hx33]) <;> (with_reducible and_intros) <;> first | assumption | rfl | omega | (unfold maxLen; omega)) (by (simp only [go_sem, hx3, hb5, hx9, hx14, hb20, hb23, hx30, hx33]) <;> (with_reducible and_intros) <;> first | assumption | rfl | omega | (unfold maxLen; omega)) rfl ?_
              refine adops_cut 0 (fun K' hK38 => ?_)
              try dsimp only [List.drop_succ_cons, List.drop_zero, List.take_succ_cons, List.take_zero]
              simp only [go_sem, hx3, hb5, hx9, hx14, hb20, hb23, hx30, hx33]
              repeat with_reducible refine zN ?_
              refine hK38 _ ?_
              refine adops_nil ?_
              refine ablock_n ?_
              refine athen_n ?_
              refine zV [(0, .int .i64 x0), (1, .int .i64 y), (3, .bp 1001 0), (4, .bp 1002 0), (5, .bp 1003 0), (26, .sl (.pair (.int .i64) (.pair (.int .i64) (.int .i64))) a3.1.1.2), (27, .int .i64 (a3.1.1.2.length : Int)), (28, .int .i64 st1.2)] [(1000, .box 94 (cellsX T94 v0_3)), (1001, .box 90 (.int .i64 a3.1.1.1 :: (.sl (.pair (.int .i64) (.pair (.int .i64) (.int .i64))) a3.1.1.2 :: (cellsX T69 a3.1.2 ++ (.int .i64 a3.2.1.1 :: (.sl (.pair (.int .i64) (.pair (.int .i64) (.int .i64))) a3.2.1.2 :: (cellsX T69 a3.2.2))))))), (1002, .box 94 (cellsX T94 a4)), (1003, .box 127 [.fn (.func 113) [] [.bp 1000 0, .bp 1001 0, .bp 1002 0, .bp 1003 0]])] gt ?_
              as_aux_lemma =>
               refine AW.ops ?_
               obtain ⟨c39, h⟩ := ck_some.1 h
               refine zA [(0, .int .i64 x0), (1, .int .i64 y), (3, .bp 1001 0), (4, .bp 1002 0), (5, .bp 1003 0), (26, .sl (.pair (.int .i64) (.pair (.int .i64) (.int .i64))) a3.1.1.2), (27, .int .i64 (a3.1.1.2.length : Int)), (28, .int .i64 (st1.2 + 1))] [(1000, .box 94 (cellsX T94 v0_3)), (1001, .box 90 (.int .i64 a3.1.1.1 :: (.sl (.pair (.int .i64) (.pair (.int .i64) (.int .i64))) a3.1.1.2 :: (cellsX T69 a3.1.2 ++ (.int .i64 a3.2.1.1 :: (.sl (.pair (.int .i64) (.pair (.int .i64) (.int .i64))) a3.2.1.2 :: (cellsX T69 a3.2.2))))))), (1002, .box 94 (cellsX T94 a4)), (1003, .box 127 [.fn (.func 113) [] [.bp 1000 0, .bp 1001 0, .bp 1002 0, .bp 1003 0]])] ?_
               obtain rfl := Option.some.inj h
               exact ⟨_, rfl, zL [] [] []⟩
       ·refine zm ?_
        refine athen_n ?_
        refine AW.ops ?_
        obtain ⟨c40, h⟩ := ck_some.1 h
        refine zA [(0, .int .i64 x0), (1, .int .i64 y), (3, .bp 1001 0), (4, .bp 1002 0), (5, .bp 1003 0), (26, .sl (.pair (.int .i64) (.pair (.int .i64) (.int .i64))) a3.1.1.2), (27, .int .i64 (a3.1.1.2.length : Int)), (28, .int .i64 (st1.2 + 1))] [(1000, .box 94 (cellsX T94 st1.1)), (1001, .box 90 (.int .i64 a3.1.1.1 :: (.sl (.pair (.int .i64) (.pair (.int .i64) (.int .i64))) a3.1.1.2 :: (cellsX T69 a3.1.2 ++ (.int .i64 a3.2.1.1 :: (.sl (.pair (.int .i64) (.pair (.int .i64) (.int .i64))) a3.2.1.2 :: (cellsX T69 a3.2.2))))))), (1002, .box 94 (cellsX T94 a4)), (1003, .box 127 [.fn (.func 113) [] [.bp 1000 0, .bp 1001 0, .bp 1002 0, .bp 1003 0]])] ?_
        obtain rfl := Option.some.inj h
        exact ⟨_, rfl, zL [] [] []⟩
      ·refine AW.exit ?_
       refine athen_e ?_
       obtain rfl := Option.some.inj h
       rw [← hd17 _ rfl] at ho16
       have h := ho16
       refine athen_e ?_
       refine ablock_s ?_
       obtain rfl := Option.some.inj h
       exact zR [] [] []

theorem hc_refine_two_proof_1 : ∀ (n : Nat) (x0 : Int) (y : Int) (a2 : (El T94)) (a3 : ((Int × (List (Int × Int × Int))) × (El T69)) × (Int × (List (Int × Int × Int))) × (El T69)) (a4 : (El T94)) {r : (El T94)}, refine_two_proof_1 n x0 y a2 a3 a4 = some r → HC Try.prog 113 [(1000, .box 94 (cellsX T94 a2)), (1001, .box 90 (.int .i64 a3.1.1.1 :: (.sl (.pair (.int .i64) (.pair (.int .i64) (.int .i64))) a3.1.1.2 :: (cellsX T69 a3.1.2 ++ (.int .i64 a3.2.1.1 :: (.sl (.pair (.int .i64) (.pair (.int .i64) (.int .i64))) a3.2.1.2 :: (cellsX T69 a3.2.2))))))), (1002, .box 94 (cellsX T94 a4)), (1003, .box 127 [.fn (.func 113) [] [.bp 1000 0, .bp 1001 0, .bp 1002 0, .bp 1003 0]])] [.int .i64 x0, .int .i64 y, .bp 1000 0, .bp 1001 0, .bp 1002 0, .bp 1003 0] [(1000, .box 94 (cellsX T94 r)), (1001, .box 90 (.int .i64 a3.1.1.1 :: (.sl (.pair (.int .i64) (.pair (.int .i64) (.int .i64))) a3.1.1.2 :: (cellsX T69 a3.1.2 ++ (.int .i64 a3.2.1.1 :: (.sl (.pair (.int .i64) (.pair (.int .i64) (.int .i64))) a3.2.1.2 :: (cellsX T69 a3.2.2))))))), (1002, .box 94 (cellsX T94 a4)), (1003, .box 127 [.fn (.func 113) [] [.bp 1000 0, .bp 1001 0, .bp 1002 0, .bp 1003 0]])] (.tup []) := by
 intro n
 induction n with
 | zero => intro x0 y a2 a3 a4 r h; cases h
 | succ n ih => intro x0 y a2 a3 a4 r h; exact hc_refine_two_proof_1F (refine_two_proof_1 n) ih x0 y a2 a3 a4 h

theorem hc_refine_two_proof (t : ((Int × (List (Int × Int × Int))) × (El T69)) × (Int × (List (Int × Int × Int))) × (El T69)) {r : (El T94) × Bool} (h : refine_two_proof t = some r) : HC Try.prog 85 [] [.agg (.int .i64 t.1.1.1 :: (.sl (.pair (.int .i64) (.pair (.int .i64) (.int .i64))) t.1.1.2 :: (cellsX T69 t.1.2 ++ (.int .i64 t.2.1.1 :: (.sl (.pair (.int .i64) (.pair (.int .i64) (.int .i64))) t.2.1.2 :: (cellsX T69 t.2.2))))))] [] (.tup [.agg (cellsX T94 r.1), .bool r.2]) := by
 unfold refine_two_proof at h
 refine zH Try.func85 [.cell 2 94, .tmp 3] 18 ?_
 refine zo ?_
 refine zB [(1, .bp 1 0), (2, .bp 2 0)] [(1, .box 90 (.int .i64 t.1.1.1 :: (.sl (.pair (.int .i64) (.pair (.int .i64) (.int .i64))) t.1.1.2 :: (cellsX T69 t.1.2 ++ (.int .i64 t.2.1.1 :: (.sl (.pair (.int .i64) (.pair (.int .i64) (.int .i64))) t.2.1.2 :: (cellsX T69 t.2.2))))))), (2, .box 94 (cellsX T94 (Ty.dflt T94)))] ?_
 refine zo ?_
 refine zS 1 [(1, .bp 1 0), (2, .bp 2 0), (7, .agg (.int .i64 t.1.1.1 :: (.sl (.pair (.int .i64) (.pair (.int .i64) (.int .i64))) t.1.1.2 :: (cellsX T69 t.1.2 ++ (.int .i64 t.2.1.1 :: (.sl (.pair (.int .i64) (.pair (.int .i64) (.int .i64))) t.2.1.2 :: (cellsX T69 t.2.2)))))))] [(1, .box 90 (.int .i64 t.1.1.1 :: (.sl (.pair (.int .i64) (.pair (.int .i64) (.int .i64))) t.1.1.2 :: (cellsX T69 t.1.2 ++ (.int .i64 t.2.1.1 :: (.sl (.pair (.int .i64) (.pair (.int .i64) (.int .i64))) t.2.1.2 :: (cellsX T69 t.2.2))))))), (2, .box 94 (cellsX T94 (Ty.dflt T94)))] ?_
 obtain ⟨v0, hv1, h⟩ := Option.bind_eq_some_iff.1 h
 refine zC [] [] (hc_refine_two_best t hv1) [(1, .bp 1 0), (2, .bp 2 0), (8, .agg (cellsX T94 v0))] [(1, .box 90 (.int .i64 t.1.1.1 :: (.sl (.pair (.int .i64) (.pair (.int .i64) (.int .i64))) t.1.1.2 :: (cellsX T69 t.1.2 ++ (.int .i64 t.2.1.1 :: (.sl (.pair (.int .i64) (.pair (.int .i64) (.int .i64))) t.2.1.2 :: (cellsX T69 t.2.2))))))), (2, .box 94 (cellsX T94 (Ty.dflt T94)))] ?_
 refine zB [(1, .bp 1 0), (2, .bp 2 0), (4, .bp 4 0)] [(1, .box 90 (.int .i64 t.1.1.1 :: (.sl (.pair (.int .i64) (.pair (.int .i64) (.int .i64))) t.1.1.2 :: (cellsX T69 t.1.2 ++ (.int .i64 t.2.1.1 :: (.sl (.pair (.int .i64) (.pair (.int .i64) (.int .i64))) t.2.1.2 :: (cellsX T69 t.2.2))))))), (2, .box 94 (cellsX T94 (Ty.dflt T94))), (4, .box 94 (cellsX T94 v0))] ?_
 refine AW.seq ?_
 refine zo ?_
 have hx2 : 0 < 6 := by omega
 refine zS 2 [(1, .bp 1 0), (2, .bp 2 0), (4, .bp 4 0), (10, .int .u8 (intAt T94 v0 0))] [(1, .box 90 (.int .i64 t.1.1.1 :: (.sl (.pair (.int .i64) (.pair (.int .i64) (.int .i64))) t.1.1.2 :: (cellsX T69 t.1.2 ++ (.int .i64 t.2.1.1 :: (.sl (.pair (.int .i64) (.pair (.int .i64) (.int .i64))) t.2.1.2 :: (cellsX T69 t.2.2))))))), (2, .box 94 (cellsX T94 (Ty.dflt T94))), (4, .box 94 (cellsX T94 v0))] ?_
 obtain ⟨v0_2, hv3, h⟩ := Option.bind_eq_some_iff.1 h
 refine zC [] [] (hc_refine_set_has (intAt T94 v0 0) 0 hv3) [(1, .bp 1 0), (2, .bp 2 0), (4, .bp 4 0), (11, .bool (decide ((iand .u8 (ishr .u8 (intAt T94 v0 0) 0) 1) = 1)))] [(1, .box 90 (.int .i64 t.1.1.1 :: (.sl (.pair (.int .i64) (.pair (.int .i64) (.int .i64))) t.1.1.2 :: (cellsX T69 t.1.2 ++ (.int .i64 t.2.1.1 :: (.sl (.pair (.int .i64) (.pair (.int .i64) (.int .i64))) t.2.1.2 :: (cellsX T69 t.2.2))))))), (2, .box 94 (cellsX T94 (Ty.dflt T94))), (4, .box 94 (cellsX T94 v0))] ?_
 refine zB [(1, .bp 1 0), (2, .bp 2 0), (4, .bp 4 0), (12, .bool (!(decide ((iand .u8 (ishr .u8 (intAt T94 v0 0) 0) 1) = 1))))] [(1, .box 90 (.int .i64 t.1.1.1 :: (.sl (.pair (.int .i64) (.pair (.int .i64) (.int .i64))) t.1.1.2 :: (cellsX T69 t.1.2 ++ (.int .i64 t.2.1.1 :: (.sl (.pair (.int .i64) (.pair (.int .i64) (.int .i64))) t.2.1.2 :: (cellsX T69 t.2.2))))))), (2, .box 94 (cellsX T94 (Ty.dflt T94))), (4, .box 94 (cellsX T94 v0))] ?_
 refine zQ h (fun hb4 h => ?_) (fun hb4 h => ?_)
 ·refine zo ?_
  refine zB [(2, .bp 2 0), (3, .bool false)] [(2, .box 94 (cellsX T94 (Ty.dflt T94)))] ?_
  refine zr ?_
  obtain rfl := Option.some.inj h
  exact zR [] [] []
 ·refine zk ?_
  refine zo ?_
  refine zB [(1, .bp 1 0), (2, .bp 2 0), (4, .bp 4 0), (5, .bp 5 0)] [(1, .box 90 (.int .i64 t.1.1.1 :: (.sl (.pair (.int .i64) (.pair (.int .i64) (.int .i64))) t.1.1.2 :: (cellsX T69 t.1.2 ++ (.int .i64 t.2.1.1 :: (.sl (.pair (.int .i64) (.pair (.int .i64) (.int .i64))) t.2.1.2 :: (cellsX T69 t.2.2))))))), (2, .box 94 (cellsX T94 (Ty.dflt T94))), (4, .box 94 (cellsX T94 v0)), (5, .box 94 (cellsX T94 (Ty.dflt T94)))] ?_
  refine zo ?_
  refine zB [(1, .bp 1 0), (2, .bp 2 0), (4, .bp 4 0), (5, .bp 5 0), (6, .bp 6 0)] [(1, .box 90 (.int .i64 t.1.1.1 :: (.sl (.pair (.int .i64) (.pair (.int .i64) (.int .i64))) t.1.1.2 :: (cellsX T69 t.1.2 ++ (.int .i64 t.2.1.1 :: (.sl (.pair (.int .i64) (.pair (.int .i64) (.int .i64))) t.2.1.2 :: (cellsX T69 t.2.2))))))), (2, .box 94 (cellsX T94 (Ty.dflt T94))), (4, .box 94 (cellsX T94 v0)), (5, .box 94 (cellsX T94 (Ty.dflt T94))), (6, .box 127 [.cv (.nilFunc)])] ?_
  refine zo ?_
  refine zB [(2, .bp 2 0), (5, .bp 5 0), (6, .bp 6 0)] [(1, .box 90 (.int .i64 t.1.1.1 :: (.sl (.pair (.int .i64) (.pair (.int .i64) (.int .i64))) t.1.1.2 :: (cellsX T69 t.1.2 ++ (.int .i64 t.2.1.1 :: (.sl (.pair (.int .i64) (.pair (.int .i64) (.int .i64))) t.2.1.2 :: (cellsX T69 t.2.2))))))), (2, .box 94 (cellsX T94 (Ty.dflt T94))), (4, .box 94 (cellsX T94 v0)), (5, .box 94 (cellsX T94 (Ty.dflt T94))), (6, .box 127 [.fn (.func 113) [] [.bp 5 0, .bp 1 0, .bp 4 0, .bp 6 0]])] ?_
  refine zo ?_
  refine zS 1 [(2, .bp 2 0), (5, .bp 5 0), (15, .fn (.func 113) [] [.bp 5 0, .bp 1 0, .bp 4 0, .bp 6 0])] [(1, .box 90 (.int .i64 t.1.1.1 :: (.sl (.pair (.int .i64) (.pair (.int .i64) (.int .i64))) t.1.1.2 :: (cellsX T69 t.1.2 ++ (.int .i64 t.2.1.1 :: (.sl (.pair (.int .i64) (.pair (.int .i64) (.int .i64))) t.2.1.2 :: (cellsX T69 t.2.2))))))), (2, .box 94 (cellsX T94 (Ty.dflt T94))), (4, .box 94 (cellsX T94 v0)), (5, .box 94 (cellsX T94 (Ty.dflt T94))), (6, .box 127 [.fn (.func 113) [] [.bp 5 0, .bp 1 0, .bp 4 0, .bp 6 0]])] ?_
  obtain ⟨v0_3, hv5, h⟩ := Option.bind_eq_some_iff.1 h
  refine zC [] [(1000, 5), (1001, 1), (1002, 4), (1003, 6)] (hc_refine_two_proof_1 fuel 0 0 (Ty.dflt T94) t v0 hv5) [(2, .bp 2 0), (5, .bp 5 0)] [(2, .box 94 (cellsX T94 (Ty.dflt T94))), (5, .box 94 (cellsX T94 v0_3))] ?_
  refine zB [(2, .bp 2 0), (5, .bp 5 0)] [(2, .box 94 (cellsX T94 (Ty.dflt T94))), (5, .box 94 (cellsX T94 v0_3))] ?_
  refine zo ?_
  refine zB [(2, .bp 2 0), (3, .bool true)] [(2, .box 94 (cellsX T94 v0_3))] ?_
  refine AW.ret ?_
  obtain rfl := Option.some.inj h
  exact zR [] [] []

theorem hc_refine_Proof (c : Int × (List (Int × Int × Int))) (a : Int × (List (Int × Int × Int))) {r : (List (Int × Int)) × Int} (h : refine_Proof c a = some r) : HC Try.prog 35 [] [.agg [.int .i64 c.1, .sl (.pair (.int .i64) (.pair (.int .i64) (.int .i64))) c.2], .agg [.int .i64 a.1, .sl (.pair (.int .i64) (.pair (.int .i64) (.int .i64))) a.2]] [(2000, .arr 58 (.pair (.int .i64) (.int .i64)) r.1)] (.tup [.own 2000, .int .i64 r.2]) := by
 unfold refine_Proof at h
 refine zH Try.func35 [.tmp 4, .tmp 5] 28 ?_
 refine zo ?_
 refine zB [(2, .bp 2 0), (3, .bp 3 0)] [(2, .box 24 [.int .i64 c.1, .sl (.pair (.int .i64) (.pair (.int .i64) (.int .i64))) c.2]), (3, .box 24 [.int .i64 a.1, .sl (.pair (.int .i64) (.pair (.int .i64) (.int .i64))) a.2])] ?_
 refine zo ?_
 refine zS 2 [(11, .agg [.int .i64 c.1, .sl (.pair (.int .i64) (.pair (.int .i64) (.int .i64))) c.2]), (12, .agg [.int .i64 a.1, .sl (.pair (.int .i64) (.pair (.int .i64) (.int .i64))) a.2])] [] ?_
 obtain ⟨v0, hv1, h⟩ := Option.bind_eq_some_iff.1 h
 refine zC [] [] (hc_refine_twoOf c a hv1) [(13, .tup [.agg (.int .i64 v0.1 :: (.sl (.pair (.int .i64) (.pair (.int .i64) (.int .i64))) v0.2.1 :: (cellsX T69 v0.2.2.1 ++ (.int .i64 v0.2.2.2.1 :: (.sl (.pair (.int .i64) (.pair (.int .i64) (.int .i64))) v0.2.2.2.2.1 :: (cellsX T69 v0.2.2.2.2.2.1)))))), .int .i64 v0.2.2.2.2.2.2])] [] ?_
 refine zS 5 [(6, .bp 6 0), (15, .int .i64 v0.2.2.2.2.2.2)] [(6, .box 90 (.int .i64 v0.1 :: (.sl (.pair (.int .i64) (.pair (.int .i64) (.int .i64))) v0.2.1 :: (cellsX T69 v0.2.2.1 ++ (.int .i64 v0.2.2.2.1 :: (.sl (.pair (.int .i64) (.pair (.int .i64) (.int .i64))) v0.2.2.2.2.1 :: (cellsX T69 v0.2.2.2.2.2.1)))))))] ?_
 refine zB [(6, .bp 6 0), (7, .int .i64 v0.2.2.2.2.2.2)] [(6, .box 90 (.int .i64 v0.1 :: (.sl (.pair (.int .i64) (.pair (.int .i64) (.int .i64))) v0.2.1 :: (cellsX T69 v0.2.2.1 ++ (.int .i64 v0.2.2.2.1 :: (.sl (.pair (.int .i64) (.pair (.int .i64) (.int .i64))) v0.2.2.2.2.1 :: (cellsX T69 v0.2.2.2.2.2.1)))))))] ?_
 refine AW.seq ?_
 refine zo ?_
 refine zB [(6, .bp 6 0), (7, .int .i64 v0.2.2.2.2.2.2), (17, .bool (!(decide (v0.2.2.2.2.2.2 = 0))))] [(6, .box 90 (.int .i64 v0.1 :: (.sl (.pair (.int .i64) (.pair (.int .i64) (.int .i64))) v0.2.1 :: (cellsX T69 v0.2.2.1 ++ (.int .i64 v0.2.2.2.1 :: (.sl (.pair (.int .i64) (.pair (.int .i64) (.int .i64))) v0.2.2.2.2.1 :: (cellsX T69 v0.2.2.2.2.2.1)))))))] ?_
 refine zQ h (fun hb2 h => ?_) (fun hb2 h => ?_)
 ·refine zo ?_
  refine zB [(4, .cv (.slice none 0 0)), (5, .int .i64 v0.2.2.2.2.2.2)] [] ?_
  refine zr ?_
  obtain rfl := Option.some.inj h
  exact zR [] [2000] []
 ·refine zk ?_
  refine zo ?_
  refine zS 1 [(20, .agg (.int .i64 v0.1 :: (.sl (.pair (.int .i64) (.pair (.int .i64) (.int .i64))) v0.2.1 :: (cellsX T69 v0.2.2.1 ++ (.int .i64 v0.2.2.2.1 :: (.sl (.pair (.int .i64) (.pair (.int .i64) (.int .i64))) v0.2.2.2.2.1 :: (cellsX T69 v0.2.2.2.2.2.1)))))))] [] ?_
  obtain ⟨v0_2, hv3, h⟩ := Option.bind_eq_some_iff.1 h
  refine zC [] [] (hc_refine_two_proof (((v0.1, v0.2.1), v0.2.2.1), (v0.2.2.2.1, v0.2.2.2.2.1), v0.2.2.2.2.2.1) hv3) [(21, .tup [.agg (cellsX T94 v0_2.1), .bool v0_2.2])] [] ?_
  refine zS 5 [(8, .bp 8 0), (23, .bool v0_2.2)] [(8, .box 94 (cellsX T94 v0_2.1))] ?_
  refine zB [(8, .bp 8 0), (9, .bool v0_2.2)] [(8, .box 94 (cellsX T94 v0_2.1))] ?_
  refine AW.seq ?_
  refine zo ?_
  refine zB [(8, .bp 8 0), (25, .bool (!v0_2.2))] [(8, .box 94 (cellsX T94 v0_2.1))] ?_
  refine zQ h (fun hb4 h => ?_) (fun hb4 h => ?_)
  ·refine zo ?_
   refine zB [(4, .cv (.slice none 0 0)), (5, .int .i64 5)] [] ?_
   refine zr ?_
   obtain rfl := Option.some.inj h
   exact zR [] [2000] []
  ·refine zk ?_
   refine zo ?_
   refine zS 1 [(26, .agg (cellsX T94 v0_2.1))] [] ?_
   obtain ⟨v0_3, hv5, h⟩ := Option.bind_eq_some_iff.1 h
   refine zC [] [] (hc_refine_relation_list v0_2.1 hv5) [(27, .own 37000)] [(37000, .arr 58 (.pair (.int .i64) (.int .i64)) v0_3)] ?_
   refine zB [(4, .own 37000), (5, .int .i64 0)] [(37000, .arr 58 (.pair (.int .i64) (.int .i64)) v0_3)] ?_
   refine AW.ret ?_
   obtain rfl := Option.some.inj h
   exact zR [] [] [(2000, 37000)]

theorem hc_lineallaw05_has (r0 : List (Int × Int)) (s : List (Int × Int)) {r : Bool} (h : lineallaw05_has r0 s = some r) : HC Try.prog 57 [] [.sl (.pair (.int .i64) (.int .i64)) r0, .sl (.pair (.int .i64) (.int .i64)) s] [] (.bool r) := by
 unfold lineallaw05_has at h
 refine zH Try.func57 [.tmp 4] 32 ?_
 refine zo ?_
 refine zB [(0, .sl (.pair (.int .i64) (.int .i64)) r0), (1, .sl (.pair (.int .i64) (.int .i64)) s)] [] ?_
 refine AW.have1 (fun _ : Unit => lineallaw05_has_k1 = some r) (fun _ => ⟨fr [], hpGet [], gt⟩) (fun _ h => ?_) (fun hk_lineallaw05_has_k1 => ?_)
 ·as_aux_lemma =>
   unfold lineallaw05_has_k1 at h
   refine zo ?_
   refine zB [(4, .bool true)] [] ?_
   refine AW.ret ?_
   obtain rfl := Option.some.inj h
   exact zR [] [] []
 ·refine AW.seq ?_
  refine zo ?_
  refine zB [(0, .sl (.pair (.int .i64) (.int .i64)) r0), (10, .sl (.pair (.int .i64) (.int .i64)) s), (11, .int .i64 (s.length : Int)), (12, .int .i64 0)] [] ?_
  refine AW.block ?_
  obtain ⟨rv5, hw1, ho2⟩ := Option.bind_eq_some_iff.1 h
  refine AW.loopO (lineallaw05_has_b1 r0 s) (fun st1 => ⟨fr [(0, .sl (.pair (.int .i64) (.int .i64)) r0), (10, .sl (.pair (.int .i64) (.int .i64)) s), (11, .int .i64 (s.length : Int)), (12, .int .i64 st1)], hpGet [], gt⟩) 0 hw1 (zL [] [] []) ?_
  as_aux_lemma =>
   intro st1 x4 h hd3
   unfold lineallaw05_has_b1 at h
   refine zo ?_
   refine zB [(0, .sl (.pair (.int .i64) (.int .i64)) r0), (10, .sl (.pair (.int .i64) (.int .i64)) s), (11, .int .i64 (s.length : Int)), (12, .int .i64 st1), (13, .bool (decide (st1 < (s.length : Int))))] [] ?_
   refine AW.seq ?_
   refine zQ h (fun hb6 h => ?_) (fun hb6 h => ?_)
   ·refine zk ?_
    refine AW.have1 (fun _ : Unit => lineallaw05_has_k2 st1 = some x4) (fun _ => ⟨fr [(0, .sl (.pair (.int .i64) (.int .i64)) r0), (10, .sl (.pair (.int .i64) (.int .i64)) s), (11, .int .i64 (s.length : Int)), (12, .int .i64 st1)], hpGet [], gt⟩) (fun _ h => ?_) (fun hk_lineallaw05_has_k2 => ?_)
    ·as_aux_lemma =>
      unfold lineallaw05_has_k2 at h
      refine AW.ops ?_
      obtain ⟨c7, h⟩ := ck_some.1 h
      refine zA [(0, .sl (.pair (.int .i64) (.int .i64)) r0), (10, .sl (.pair (.int .i64) (.int .i64)) s), (11, .int .i64 (s.length : Int)), (12, .int .i64 (st1 + 1))] [] ?_
      obtain rfl := Option.some.inj h
      exact ⟨_, rfl, zL [] [] []⟩
    ·refine AW.seq ?_
     refine AW.block ?_
     refine zo ?_
     obtain ⟨c8, h⟩ := ck_some.1 h
     obtain ⟨c9, h⟩ := ck_some.1 h
     refine zB [(0, .sl (.pair (.int .i64) (.int .i64)) r0), (6, .bp 6 0), (10, .sl (.pair (.int .i64) (.int .i64)) s), (11, .int .i64 (s.length : Int)), (12, .int .i64 st1)] [(6, .box 58 [.int .i64 (s.getD st1.toNat (0, 0)).1, .int .i64 (s.getD st1.toNat (0, 0)).2])] ?_
     refine zo ?_
     refine zB [(0, .sl (.pair (.int .i64) (.int .i64)) r0), (6, .bp 6 0), (7, .bool false), (10, .sl (.pair (.int .i64) (.int .i64)) s), (11, .int .i64 (s.length : Int)), (12, .int .i64 st1)] [(6, .box 58 [.int .i64 (s.getD st1.toNat (0, 0)).1, .int .i64 (s.getD st1.toNat (0, 0)).2])] ?_
     refine AW.have1 (fun b3 : Bool => lineallaw05_has_k3 st1 b3 = some x4) (fun b3 => ⟨fr [(0, .sl (.pair (.int .i64) (.int .i64)) r0), (7, .bool b3), (10, .sl (.pair (.int .i64) (.int .i64)) s), (11, .int .i64 (s.length : Int)), (12, .int .i64 st1)], hpGet [], gt⟩) (fun b3 h => ?_) (fun hk_lineallaw05_has_k3 => ?_)
     ·as_aux_lemma =>
       unfold lineallaw05_has_k3 at h
       refine zo ?_
       refine zB [(0, .sl (.pair (.int .i64) (.int .i64)) r0), (10, .sl (.pair (.int .i64) (.int .i64)) s), (11, .int .i64 (s.length : Int)), (12, .int .i64 st1), (30, .bool (!b3))] [] ?_
       refine zQ h (fun hb10 h => ?_) (fun hb10 h => ?_)
       ·refine zo ?_
        refine zB [(4, .bool false)] [] ?_
        refine AW.ret ?_
        refine ablock_r ?_
        refine athen_r ?_
        obtain rfl := Option.some.inj h
        rw [← hd3 _ rfl] at ho2
        have h := ho2
        try simp only at h
        refine athen_r ?_
        refine ablock_r ?_
        refine athen_r ?_
        obtain rfl := Option.some.inj h
        exact zR [] [] []
       ·refine zm ?_
        refine athen_n ?_
        exact AW.weaken (zL [] [] []) (hk_lineallaw05_has_k2 () h)
     ·refine AW.seq ?_
      refine zo ?_
      refine zB [(0, .sl (.pair (.int .i64) (.int .i64)) r0), (6, .bp 6 0), (7, .bool false), (10, .sl (.pair (.int .i64) (.int .i64)) s), (11, .int .i64 (s.length : Int)), (12, .int .i64 st1), (16, .sl (.pair (.int .i64) (.int .i64)) r0), (17, .int .i64 (r0.length : Int)), (18, .int .i64 0)] [(6, .box 58 [.int .i64 (s.getD st1.toNat (0, 0)).1, .int .i64 (s.getD st1.toNat (0, 0)).2])] ?_
      refine AW.block ?_
      obtain ⟨rv15, hw11, ho12⟩ := Option.bind_eq_some_iff.1 h
      refine AW.loopO (lineallaw05_has_b2 r0 s st1) (fun st2 => ⟨fr [(0, .sl (.pair (.int .i64) (.int .i64)) r0), (6, .bp 6 0), (7, .bool st2.1), (10, .sl (.pair (.int .i64) (.int .i64)) s), (11, .int .i64 (s.length : Int)), (12, .int .i64 st1), (16, .sl (.pair (.int .i64) (.int .i64)) r0), (17, .int .i64 (r0.length : Int)), (18, .int .i64 st2.2)], hpGet [(6, .box 58 [.int .i64 (s.getD st1.toNat (0, 0)).1, .int .i64 (s.getD st1.toNat (0, 0)).2])], gt⟩) (false, 0) hw11 (zL [] [] []) ?_
      as_aux_lemma =>
       intro st2 x14 h hd13
       unfold lineallaw05_has_b2 at h
       refine zo ?_
       refine zB [(0, .sl (.pair (.int .i64) (.int .i64)) r0), (6, .bp 6 0), (7, .bool st2.1), (10, .sl (.pair (.int .i64) (.int .i64)) s), (11, .int .i64 (s.length : Int)), (12, .int .i64 st1), (16, .sl (.pair (.int .i64) (.int .i64)) r0), (17, .int .i64 (r0.length : Int)), (18, .int .i64 st2.2), (19, .bool (decide (st2.2 < (r0.length : Int))))] [(6, .box 58 [.int .i64 (s.getD st1.toNat (0, 0)).1, .int .i64 (s.getD st1.toNat (0, 0)).2])] ?_
       refine AW.seq ?_
       refine zQ h (fun hb16 h => ?_) (fun hb16 h => ?_)
       ·refine zk ?_
        refine AW.seq ?_
        refine AW.block ?_
        refine zo ?_
        obtain ⟨c17, h⟩ := ck_some.1 h
        obtain ⟨c18, h⟩ := ck_some.1 h
        refine zB [(0, .sl (.pair (.int .i64) (.int .i64)) r0), (6, .bp 6 0), (7, .bool st2.1), (9, .bp 9 0), (10, .sl (.pair (.int .i64) (.int .i64)) s), (11, .int .i64 (s.length : Int)), (12, .int .i64 st1), (16, .sl (.pair (.int .i64) (.int .i64)) r0), (17, .int .i64 (r0.length : Int)), (18, .int .i64 st2.2)] [(6, .box 58 [.int .i64 (s.getD st1.toNat (0, 0)).1, .int .i64 (s.getD st1.toNat (0, 0)).2]), (9, .box 58 [.int .i64 (r0.getD st2.2.toNat (0, 0)).1, .int .i64 (r0.getD st2.2.toNat (0, 0)).2])] ?_
        refine AW.ops ?_
        refine zS 2 [(0, .sl (.pair (.int .i64) (.int .i64)) r0), (6, .bp 6 0), (9, .bp 9 0), (10, .sl (.pair (.int .i64) (.int .i64)) s), (11, .int .i64 (s.length : Int)), (12, .int .i64 st1), (16, .sl (.pair (.int .i64) (.int .i64)) r0), (17, .int .i64 (r0.length : Int)), (18, .int .i64 st2.2), (23, .bool st2.1)] [(6, .box 58 [.int .i64 (s.getD st1.toNat (0, 0)).1, .int .i64 (s.getD st1.toNat (0, 0)).2]), (9, .box 58 [.int .i64 (r0.getD st2.2.toNat (0, 0)).1, .int .i64 (r0.getD st2.2.toNat (0, 0)).2])] ?_
        rcases zI h with ⟨hb19, h⟩ | ⟨hb19, h⟩
        ·refine zA [(0, .sl (.pair (.int .i64) (.int .i64)) r0), (6, .bp 6 0), (7, .bool true), (10, .sl (.pair (.int .i64) (.int .i64)) s), (11, .int .i64 (s.length : Int)), (12, .int .i64 st1), (16, .sl (.pair (.int .i64) (.int .i64)) r0), (17, .int .i64 (r0.length : Int)), (18, .int .i64 st2.2)] [(6, .box 58 [.int .i64 (s.getD st1.toNat (0, 0)).1, .int .i64 (s.getD st1.toNat (0, 0)).2])] ?_
         refine ablock_n ?_
         refine athen_n ?_
         refine AW.ops ?_
         obtain ⟨c20, h⟩ := ck_some.1 h
         refine zA [(0, .sl (.pair (.int .i64) (.int .i64)) r0), (6, .bp 6 0), (7, .bool true), (10, .sl (.pair (.int .i64) (.int .i64)) s), (11, .int .i64 (s.length : Int)), (12, .int .i64 st1), (16, .sl (.pair (.int .i64) (.int .i64)) r0), (17, .int .i64 (r0.length : Int)), (18, .int .i64 (st2.2 + 1))] [(6, .box 58 [.int .i64 (s.getD st1.toNat (0, 0)).1, .int .i64 (s.getD st1.toNat (0, 0)).2])] ?_
         obtain rfl := Option.some.inj h
         exact ⟨_, rfl, zL [] [] []⟩
        ·refine zS 2 [(0, .sl (.pair (.int .i64) (.int .i64)) r0), (6, .bp 6 0), (10, .sl (.pair (.int .i64) (.int .i64)) s), (11, .int .i64 (s.length : Int)), (12, .int .i64 st1), (16, .sl (.pair (.int .i64) (.int .i64)) r0), (17, .int .i64 (r0.length : Int)), (18, .int .i64 st2.2), (23, .bool false), (24, .agg [.int .i64 (s.getD st1.toNat (0, 0)).1, .int .i64 (s.getD st1.toNat (0, 0)).2]), (25, .agg [.int .i64 (r0.getD st2.2.toNat (0, 0)).1, .int .i64 (r0.getD st2.2.toNat (0, 0)).2])] [(6, .box 58 [.int .i64 (s.getD st1.toNat (0, 0)).1, .int .i64 (s.getD st1.toNat (0, 0)).2])] ?_
         obtain ⟨c21, h⟩ := ck_some.1 h
         obtain ⟨c22, h⟩ := ck_some.1 h
         obtain ⟨c23, h⟩ := ck_some.1 h
         obtain ⟨c24, h⟩ := ck_some.1 h
         refine AO.aggEqG (neg := false) eqty_58 (by decide) (.inr ⟨_, _, _, rfl, rfl, rfl⟩) rfl (lx := [.int .i64 (s.getD st1.toNat (0, 0)).1, .int .i64 (s.getD st1.toNat (0, 0)).2]) (ly := [.int .i64 (r0.getD st2.2.toNat (0, 0)).1, .int .i64 (r0.getD st2.2.toNat (0, 0)).2]) (by first | rfl | (simp only [go_sem, hb6, hb16, hb19]) <;> (with_reducible and_intros) <;> first | assumption | rfl | omega | (unfold maxLen; omega)) (by first | rfl | (simp only [go_sem, hb6, hb16, hb19]) <;> (with_reducible and_intros) <;> first | assumption | rfl | omega | (unfold maxLen; omega)) (by first | rfl | (simp only [go_sem, hb6, hb16, hb19]) <;> (with_reducible and_intros) <;> first | assumption | rfl | omega | (unfold maxLen; omega)) (by first | rfl | (simp only [go_sem, hb6, hb16, hb19]) <;> (with_reducible and_intros) <;> first | assumption | rfl | omega | (unfold maxLen; omega)) (by first | assumption | omega | (simp only [go_sem, hb6, hb16, hb19]) <;> (with_reducible and_intros) <;> first | assumption | rfl | omega | (unfold maxLen; omega)) (by first | assumption | omega | (simp only [go_sem, hb6, hb16, hb19]) <;> (with_reducible and_intros) <;> first | assumption | rfl | omega | (unfold maxLen; omega)) ?_
         refine zT [(0, .sl (.pair (.int .i64) (.int .i64)) r0), (6, .bp 6 0), (10, .sl (.pair (.int .i64) (.int .i64)) s), (11, .int .i64 (s.length : Int)), (12, .int .i64 st1), (16, .sl (.pair (.int .i64) (.int .i64)) r0), (17, .int .i64 (r0.length : Int)), (18, .int .i64 st2.2), (23, .bool false), (26, .bool (decide ((s.getD st1.toNat (0, 0)) = (r0.getD st2.2.toNat (0, 0)))))] [(6, .box 58 [.int .i64 (s.getD st1.toNat (0, 0)).1, .int .i64 (s.getD st1.toNat (0, 0)).2])] gt ?_
         refine zA [(0, .sl (.pair (.int .i64) (.int .i64)) r0), (6, .bp 6 0), (7, .bool (decide ((s.getD st1.toNat (0, 0)) = (r0.getD st2.2.toNat (0, 0))))), (10, .sl (.pair (.int .i64) (.int .i64)) s), (11, .int .i64 (s.length : Int)), (12, .int .i64 st1), (16, .sl (.pair (.int .i64) (.int .i64)) r0), (17, .int .i64 (r0.length : Int)), (18, .int .i64 st2.2)] [(6, .box 58 [.int .i64 (s.getD st1.toNat (0, 0)).1, .int .i64 (s.getD st1.toNat (0, 0)).2])] ?_
         refine ablock_n ?_
         refine athen_n ?_
         refine AW.ops ?_
         obtain ⟨c25, h⟩ := ck_some.1 h
         refine zA [(0, .sl (.pair (.int .i64) (.int .i64)) r0), (6, .bp 6 0), (7, .bool (decide ((s.getD st1.toNat (0, 0)) = (r0.getD st2.2.toNat (0, 0))))), (10, .sl (.pair (.int .i64) (.int .i64)) s), (11, .int .i64 (s.length : Int)), (12, .int .i64 st1), (16, .sl (.pair (.int .i64) (.int .i64)) r0), (17, .int .i64 (r0.length : Int)), (18, .int .i64 (st2.2 + 1))] [(6, .box 58 [.int .i64 (s.getD st1.toNat (0, 0)).1, .int .i64 (s.getD st1.toNat (0, 0)).2])] ?_
         obtain rfl := Option.some.inj h
         exact ⟨_, rfl, zL [] [] []⟩
       ·refine AW.exit ?_
        refine athen_e ?_
        obtain rfl := Option.some.inj h
        rw [← hd13 _ rfl] at ho12
        have h := ho12
        refine athen_e ?_
        refine ablock_s ?_
        refine athen_n ?_
        exact AW.weaken (zL [] [] []) (hk_lineallaw05_has_k3 _ h)
   ·refine AW.exit ?_
    refine athen_e ?_
    obtain rfl := Option.some.inj h
    rw [← hd3 _ rfl] at ho2
    have h := ho2
    try simp only at h
    refine athen_e ?_
    refine ablock_s ?_
    refine athen_n ?_
    exact AW.weaken (zL [] [] []) (hk_lineallaw05_has_k1 () h)

end Go.Proofs.Ytifleoceebaooaa
