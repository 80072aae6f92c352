/-
  Made by wip/tool/dc.py out of the print of the program: contracts.
-/
import Derived.Test.YtifleoceebaooaaRfp
import Derived.Test.YtifleoceebaooaaShr
import Derived.Test.YtifleoceebaooaaAvd
import Derived.Test.YtifleoceebaooaaNuc1
import Derived.Test.YtifleoceebaooaaNuc2
import Derived.Test.YtifleoceebaooaaNuc4
import Derived.Test.YtifleoceebaooaaNuc5
import Derived.Test.YtifleoceebaooaaNuc8
namespace Go.Proofs.Ytifleoceebaooaa
open Go.RowKit

set_option linter.unusedSimpArgs false
set_option linter.unusedVariables false
set_option linter.constructorNameAsVariable false

set_option maxRecDepth 100000
set_option maxHeartbeats 2000000

theorem hc_refine_two_proof_1F (slf : Int → Int → ((El T94)) → (((Int × (List (Int × Int × Int))) × (El T69)) × (Int × (List (Int × Int × Int))) × (El T69)) → ((El T94)) → Option ((El T94))) (hc_slf : ∀ (x0 : Int) (y : Int) (a2 : (El T94)) (a3 : ((Int × (List (Int × Int × Int))) × (El T69)) × (Int × (List (Int × Int × Int))) × (El T69)) (a4 : (El T94)) {r : (El T94)}, slf x0 y a2 a3 a4 = some r → HC Try.prog 113 [(1000, .box 94 (cellsX T94 a2)), (1001, .box 90 (.int .i64 a3.1.1.1 :: (.sl Y0 a3.1.1.2 :: (cellsX T69 a3.1.2 ++ (.int .i64 a3.2.1.1 :: (.sl Y0 a3.2.1.2 :: (cellsX T69 a3.2.2))))))), (1002, .box 94 (cellsX T94 a4)), (1003, .box 127 [.fn (.func 113) [] [.bp 1000 0, .bp 1001 0, .bp 1002 0, .bp 1003 0]])] [.int .i64 x0, .int .i64 y, .bp 1000 0, .bp 1001 0, .bp 1002 0, .bp 1003 0] [(1000, .box 94 (cellsX T94 r)), (1001, .box 90 (.int .i64 a3.1.1.1 :: (.sl Y0 a3.1.1.2 :: (cellsX T69 a3.1.2 ++ (.int .i64 a3.2.1.1 :: (.sl Y0 a3.2.1.2 :: (cellsX T69 a3.2.2))))))), (1002, .box 94 (cellsX T94 a4)), (1003, .box 127 [.fn (.func 113) [] [.bp 1000 0, .bp 1001 0, .bp 1002 0, .bp 1003 0]])] (.tup [])) (x0 : Int) (y : Int) (a2 : (El T94)) (a3 : ((Int × (List (Int × Int × Int))) × (El T69)) × (Int × (List (Int × Int × Int))) × (El T69)) (a4 : (El T94)) {r : (El T94)} (h : refine_two_proof_1F slf x0 y a2 a3 a4 = some r) : HC Try.prog 113 [(1000, .box 94 (cellsX T94 a2)), (1001, .box 90 (.int .i64 a3.1.1.1 :: (.sl Y0 a3.1.1.2 :: (cellsX T69 a3.1.2 ++ (.int .i64 a3.2.1.1 :: (.sl Y0 a3.2.1.2 :: (cellsX T69 a3.2.2))))))), (1002, .box 94 (cellsX T94 a4)), (1003, .box 127 [.fn (.func 113) [] [.bp 1000 0, .bp 1001 0, .bp 1002 0, .bp 1003 0]])] [.int .i64 x0, .int .i64 y, .bp 1000 0, .bp 1001 0, .bp 1002 0, .bp 1003 0] [(1000, .box 94 (cellsX T94 r)), (1001, .box 90 (.int .i64 a3.1.1.1 :: (.sl Y0 a3.1.1.2 :: (cellsX T69 a3.1.2 ++ (.int .i64 a3.2.1.1 :: (.sl Y0 a3.2.1.2 :: (cellsX T69 a3.2.2))))))), (1002, .box 94 (cellsX T94 a4)), (1003, .box 127 [.fn (.func 113) [] [.bp 1000 0, .bp 1001 0, .bp 1002 0, .bp 1003 0]])] (.tup []) := by
 unfold refine_two_proof_1F at h
 refine zH Try.func113 [] 56 ?_
 refine AW.seq ?_
 refine zo ?_
 obtain ⟨c1, h⟩ := ck_some.1 h
 obtain ⟨c2, h⟩ := ck_some.1 h
 have hx3 : (0 + x0.toNat * 1) < 6 := by omega
 refine zS 4 [(0, .int .i64 x0), (1, .int .i64 y), (2, .bp 1000 0), (3, .bp 1001 0), (4, .bp 1002 0), (5, .bp 1003 0), (13, .int .u8 (intAt T94 a2 (0 + x0.toNat * 1))), (14, .int .i64 y)] [(1000, .box 94 (cellsX T94 a2)), (1001, .box 90 (.int .i64 a3.1.1.1 :: (.sl Y0 a3.1.1.2 :: (cellsX T69 a3.1.2 ++ (.int .i64 a3.2.1.1 :: (.sl Y0 a3.2.1.2 :: (cellsX T69 a3.2.2))))))), (1002, .box 94 (cellsX T94 a4)), (1003, .box 127 [.fn (.func 113) [] [.bp 1000 0, .bp 1001 0, .bp 1002 0, .bp 1003 0]])] ?_
 obtain ⟨v0, hv4, h⟩ := Option.bind_eq_some_iff.1 h
 refine zC [] [] (hc_refine_set_has (intAt T94 a2 (0 + x0.toNat * 1)) y hv4) [(0, .int .i64 x0), (1, .int .i64 y), (2, .bp 1000 0), (3, .bp 1001 0), (4, .bp 1002 0), (5, .bp 1003 0), (15, .bool (decide ((iand .u8 (ishr .u8 (intAt T94 a2 (0 + x0.toNat * 1)) y) 1) = 1)))] [(1000, .box 94 (cellsX T94 a2)), (1001, .box 90 (.int .i64 a3.1.1.1 :: (.sl Y0 a3.1.1.2 :: (cellsX T69 a3.1.2 ++ (.int .i64 a3.2.1.1 :: (.sl Y0 a3.2.1.2 :: (cellsX T69 a3.2.2))))))), (1002, .box 94 (cellsX T94 a4)), (1003, .box 127 [.fn (.func 113) [] [.bp 1000 0, .bp 1001 0, .bp 1002 0, .bp 1003 0]])] ?_
 refine zB [(0, .int .i64 x0), (1, .int .i64 y), (2, .bp 1000 0), (3, .bp 1001 0), (4, .bp 1002 0), (5, .bp 1003 0), (15, .bool (decide ((iand .u8 (ishr .u8 (intAt T94 a2 (0 + x0.toNat * 1)) y) 1) = 1)))] [(1000, .box 94 (cellsX T94 a2)), (1001, .box 90 (.int .i64 a3.1.1.1 :: (.sl Y0 a3.1.1.2 :: (cellsX T69 a3.1.2 ++ (.int .i64 a3.2.1.1 :: (.sl Y0 a3.2.1.2 :: (cellsX T69 a3.2.2))))))), (1002, .box 94 (cellsX T94 a4)), (1003, .box 127 [.fn (.func 113) [] [.bp 1000 0, .bp 1001 0, .bp 1002 0, .bp 1003 0]])] ?_
 refine zQ h (fun hb5 h => ?_) (fun hb5 h => ?_)
 ·refine zr ?_
  obtain rfl := Option.some.inj h
  exact zR [] [] []
 ·refine zk ?_
  refine AW.seq ?_
  refine AW.draw tab_ok mixed_ok [(7, [1000])] [] (by decide) (by kernel_rfl) ?_
  as_aux_lemma =>
   obtain ⟨c7, h⟩ := ck_some.1 h
   obtain ⟨c8, h⟩ := ck_some.1 h
   have hx9 : (0 + x0.toNat * 1) < 6 := by omega
   obtain ⟨c10, h⟩ := ck_some.1 h
   refine adops_cut 6 (fun K' hK6 => ?_)
   try dsimp only [List.drop_succ_cons, List.drop_zero, List.take_succ_cons, List.take_zero]
   simp only [go_sem, hx3, hb5, hx9]
   repeat with_reducible refine zN ?_
   refine hK6 _ ?_
   as_aux_lemma =>
    obtain ⟨c12, h⟩ := ck_some.1 h
    obtain ⟨c13, h⟩ := ck_some.1 h
    have hx14 : (0 + x0.toNat * 1) < 6 := by omega
    refine adops_cut 2 (fun K' hK11 => ?_)
    try dsimp only [List.drop_succ_cons, List.drop_zero, List.take_succ_cons, List.take_zero]
    simp only [go_sem, hx3, hb5, hx9, hx14]
    repeat with_reducible refine zN ?_
    refine hK11 _ ?_
    refine adops_nil ?_
    refine athen_n ?_
    refine zV [(0, .int .i64 x0), (1, .int .i64 y), (3, .bp 1001 0), (4, .bp 1002 0), (5, .bp 1003 0)] [(1000, .box 94 (cellsX T94 (setInt T94 a2 (0 + x0.toNat * 1) (ior .u8 (intAt T94 a2 (0 + x0.toNat * 1)) (ishl .u8 1 y))))), (1001, .box 90 (.int .i64 a3.1.1.1 :: (.sl Y0 a3.1.1.2 :: (cellsX T69 a3.1.2 ++ (.int .i64 a3.2.1.1 :: (.sl Y0 a3.2.1.2 :: (cellsX T69 a3.2.2))))))), (1002, .box 94 (cellsX T94 a4)), (1003, .box 127 [.fn (.func 113) [] [.bp 1000 0, .bp 1001 0, .bp 1002 0, .bp 1003 0]])] gt ?_
    as_aux_lemma =>
     refine zo ?_
     refine zS 5 [(0, .int .i64 x0), (1, .int .i64 y), (3, .bp 1001 0), (4, .bp 1002 0), (5, .bp 1003 0), (26, .sl Y0 a3.1.1.2), (27, .int .i64 (a3.1.1.2.length : Int))] [(1000, .box 94 (cellsX T94 (setInt T94 a2 (0 + x0.toNat * 1) (ior .u8 (intAt T94 a2 (0 + x0.toNat * 1)) (ishl .u8 1 y))))), (1001, .box 90 (.int .i64 a3.1.1.1 :: (.sl Y0 a3.1.1.2 :: (cellsX T69 a3.1.2 ++ (.int .i64 a3.2.1.1 :: (.sl Y0 a3.2.1.2 :: (cellsX T69 a3.2.2))))))), (1002, .box 94 (cellsX T94 a4)), (1003, .box 127 [.fn (.func 113) [] [.bp 1000 0, .bp 1001 0, .bp 1002 0, .bp 1003 0]])] ?_
     refine zB [(0, .int .i64 x0), (1, .int .i64 y), (3, .bp 1001 0), (4, .bp 1002 0), (5, .bp 1003 0), (26, .sl Y0 a3.1.1.2), (27, .int .i64 (a3.1.1.2.length : Int)), (28, .int .i64 0)] [(1000, .box 94 (cellsX T94 (setInt T94 a2 (0 + x0.toNat * 1) (ior .u8 (intAt T94 a2 (0 + x0.toNat * 1)) (ishl .u8 1 y))))), (1001, .box 90 (.int .i64 a3.1.1.1 :: (.sl Y0 a3.1.1.2 :: (cellsX T69 a3.1.2 ++ (.int .i64 a3.2.1.1 :: (.sl Y0 a3.2.1.2 :: (cellsX T69 a3.2.2))))))), (1002, .box 94 (cellsX T94 a4)), (1003, .box 127 [.fn (.func 113) [] [.bp 1000 0, .bp 1001 0, .bp 1002 0, .bp 1003 0]])] ?_
     refine AW.block ?_
     obtain ⟨rv19, hw15, ho16⟩ := Option.bind_eq_some_iff.1 h
     refine AW.loopO (refine_two_proof_1_b1 slf x0 y a3 a4) (fun st1 => ⟨fr [(0, .int .i64 x0), (1, .int .i64 y), (3, .bp 1001 0), (4, .bp 1002 0), (5, .bp 1003 0), (26, .sl Y0 a3.1.1.2), (27, .int .i64 (a3.1.1.2.length : Int)), (28, .int .i64 st1.2)], hpGet [(1000, .box 94 (cellsX T94 st1.1)), (1001, .box 90 (.int .i64 a3.1.1.1 :: (.sl Y0 a3.1.1.2 :: (cellsX T69 a3.1.2 ++ (.int .i64 a3.2.1.1 :: (.sl Y0 a3.2.1.2 :: (cellsX T69 a3.2.2))))))), (1002, .box 94 (cellsX T94 a4)), (1003, .box 127 [.fn (.func 113) [] [.bp 1000 0, .bp 1001 0, .bp 1002 0, .bp 1003 0]])], gt⟩) ((setInt T94 a2 (0 + x0.toNat * 1) (ior .u8 (intAt T94 a2 (0 + x0.toNat * 1)) (ishl .u8 1 y))), 0) hw15 (zL [] [] []) ?_
     as_aux_lemma =>
      intro st1 x18 h hd17
      unfold refine_two_proof_1_b1 at h
      refine zo ?_
      refine zB [(0, .int .i64 x0), (1, .int .i64 y), (3, .bp 1001 0), (4, .bp 1002 0), (5, .bp 1003 0), (26, .sl Y0 a3.1.1.2), (27, .int .i64 (a3.1.1.2.length : Int)), (28, .int .i64 st1.2), (29, .bool (decide (st1.2 < (a3.1.1.2.length : Int))))] [(1000, .box 94 (cellsX T94 st1.1)), (1001, .box 90 (.int .i64 a3.1.1.1 :: (.sl Y0 a3.1.1.2 :: (cellsX T69 a3.1.2 ++ (.int .i64 a3.2.1.1 :: (.sl Y0 a3.2.1.2 :: (cellsX T69 a3.2.2))))))), (1002, .box 94 (cellsX T94 a4)), (1003, .box 127 [.fn (.func 113) [] [.bp 1000 0, .bp 1001 0, .bp 1002 0, .bp 1003 0]])] ?_
      refine AW.seq ?_
      refine zQ h (fun hb20 h => ?_) (fun hb20 h => ?_)
      ·refine zk ?_
       refine AW.seq ?_
       refine AW.block ?_
       refine zo ?_
       obtain ⟨c21, h⟩ := ck_some.1 h
       obtain ⟨c22, h⟩ := ck_some.1 h
       refine zB [(0, .int .i64 x0), (1, .int .i64 y), (3, .bp 1001 0), (4, .bp 1002 0), (5, .bp 1003 0), (9, .bp 9 0), (26, .sl Y0 a3.1.1.2), (27, .int .i64 (a3.1.1.2.length : Int)), (28, .int .i64 st1.2)] [(9, .box 66 [.int .i64 (a3.1.1.2.getD st1.2.toNat (0, 0, 0)).1, .int .i64 (a3.1.1.2.getD st1.2.toNat (0, 0, 0)).2.1, .int .i64 (a3.1.1.2.getD st1.2.toNat (0, 0, 0)).2.2]), (1000, .box 94 (cellsX T94 st1.1)), (1001, .box 90 (.int .i64 a3.1.1.1 :: (.sl Y0 a3.1.1.2 :: (cellsX T69 a3.1.2 ++ (.int .i64 a3.2.1.1 :: (.sl Y0 a3.2.1.2 :: (cellsX T69 a3.2.2))))))), (1002, .box 94 (cellsX T94 a4)), (1003, .box 127 [.fn (.func 113) [] [.bp 1000 0, .bp 1001 0, .bp 1002 0, .bp 1003 0]])] ?_
       refine zo ?_
       refine zB [(0, .int .i64 x0), (1, .int .i64 y), (3, .bp 1001 0), (4, .bp 1002 0), (5, .bp 1003 0), (9, .bp 9 0), (26, .sl Y0 a3.1.1.2), (27, .int .i64 (a3.1.1.2.length : Int)), (28, .int .i64 st1.2), (35, .bool (decide ((a3.1.1.2.getD st1.2.toNat (0, 0, 0)).1 = x0)))] [(9, .box 66 [.int .i64 (a3.1.1.2.getD st1.2.toNat (0, 0, 0)).1, .int .i64 (a3.1.1.2.getD st1.2.toNat (0, 0, 0)).2.1, .int .i64 (a3.1.1.2.getD st1.2.toNat (0, 0, 0)).2.2]), (1000, .box 94 (cellsX T94 st1.1)), (1001, .box 90 (.int .i64 a3.1.1.1 :: (.sl Y0 a3.1.1.2 :: (cellsX T69 a3.1.2 ++ (.int .i64 a3.2.1.1 :: (.sl Y0 a3.2.1.2 :: (cellsX T69 a3.2.2))))))), (1002, .box 94 (cellsX T94 a4)), (1003, .box 127 [.fn (.func 113) [] [.bp 1000 0, .bp 1001 0, .bp 1002 0, .bp 1003 0]])] ?_
       refine zQ h (fun hb23 h => ?_) (fun hb23 h => ?_)
       ·refine AW.seq ?_
        refine AW.draw tab_ok mixed_ok [] [] (by decide) (lex_fast (by kernel_rfl)) ?_
        as_aux_lemma =>
         obtain ⟨c25, h⟩ := ck_some.1 h
         obtain ⟨c26, h⟩ := ck_some.1 h
         refine adops_cut 6 (fun K' hK24 => ?_)
         try dsimp only [List.drop_succ_cons, List.drop_zero, List.take_succ_cons, List.take_zero]
         simp only [go_sem, hx3, hb5, hx9, hx14, hb20, hb23]
         repeat with_reducible refine zN ?_
         refine hK24 _ ?_
         as_aux_lemma =>
          obtain ⟨c28, h⟩ := ck_some.1 h
          obtain ⟨c29, h⟩ := ck_some.1 h
          have hx30 : ((y.toNat * 4) + (a3.1.1.2.getD st1.2.toNat (0, 0, 0)).2.1.toNat * 1) < 24 := by omega
          obtain ⟨c31, h⟩ := ck_some.1 h
          obtain ⟨c32, h⟩ := ck_some.1 h
          have hx33 : (0 + (a3.1.1.2.getD st1.2.toNat (0, 0, 0)).2.2.toNat * 1) < 6 := by omega
          refine adops_cut 6 (fun K' hK27 => ?_)
          try dsimp only [List.drop_succ_cons, List.drop_zero, List.take_succ_cons, List.take_zero]
          simp only [go_sem, hx3, hb5, hx9, hx14, hb20, hb23, hx30, hx33]
          repeat with_reducible refine zN ?_
          refine hK27 _ ?_
          as_aux_lemma =>
           refine adops_cut 2 (fun K' hK34 => ?_)
           try dsimp only [List.drop_succ_cons, List.drop_zero, List.take_succ_cons, List.take_zero]
           simp only [go_sem, hx3, hb5, hx9, hx14, hb20, hb23, hx30, hx33]
           repeat with_reducible refine zN ?_
           refine hK34 _ ?_
           refine adops_nil ?_
           refine athen_n ?_
           refine zV [(0, .int .i64 x0), (1, .int .i64 y), (3, .bp 1001 0), (4, .bp 1002 0), (5, .bp 1003 0), (9, .bp 9 0), (10, .int .u8 (iand .u8 (intAt T69 a3.2.2 ((y.toNat * 4) + (a3.1.1.2.getD st1.2.toNat (0, 0, 0)).2.1.toNat * 1)) (intAt T94 a4 (0 + (a3.1.1.2.getD st1.2.toNat (0, 0, 0)).2.2.toNat * 1)))), (26, .sl Y0 a3.1.1.2), (27, .int .i64 (a3.1.1.2.length : Int)), (28, .int .i64 st1.2)] [(9, .box 66 [.int .i64 (a3.1.1.2.getD st1.2.toNat (0, 0, 0)).1, .int .i64 (a3.1.1.2.getD st1.2.toNat (0, 0, 0)).2.1, .int .i64 (a3.1.1.2.getD st1.2.toNat (0, 0, 0)).2.2]), (1000, .box 94 (cellsX T94 st1.1)), (1001, .box 90 (.int .i64 a3.1.1.1 :: (.sl Y0 a3.1.1.2 :: (cellsX T69 a3.1.2 ++ (.int .i64 a3.2.1.1 :: (.sl Y0 a3.2.1.2 :: (cellsX T69 a3.2.2))))))), (1002, .box 94 (cellsX T94 a4)), (1003, .box 127 [.fn (.func 113) [] [.bp 1000 0, .bp 1001 0, .bp 1002 0, .bp 1003 0]])] gt ?_
           as_aux_lemma =>
            refine AW.draw tab_ok mixed_ok [(5, [1000, 1001, 1002, 1003])] [] (by decide) (by kernel_rfl) ?_
            as_aux_lemma =>
             refine adops_cut 4 (fun K' hK35 => ?_)
             try dsimp only [List.drop_succ_cons, List.drop_zero, List.take_succ_cons, List.take_zero]
             simp only [go_sem, hx3, hb5, hx9, hx14, hb20, hb23, hx30, hx33]
             repeat with_reducible refine zN ?_
             refine hK35 _ ?_
             as_aux_lemma =>
              obtain ⟨v0_2, hv36, h⟩ := Option.bind_eq_some_iff.1 h
              refine adops.call (by first | trivial | rfl) rfl rfl rfl (fun _ h => h) [] [] (hc_refine_set_least (iand .u8 (intAt T69 a3.2.2 ((y.toNat * 4) + (a3.1.1.2.getD st1.2.toNat (0, 0, 0)).2.1.toNat * 1)) (intAt T94 a4 (0 + (a3.1.1.2.getD st1.2.toNat (0, 0, 0)).2.2.toNat * 1))) hv36) rfl (by (simp only [go_sem, hx3, hb5, hx9, hx14, hb20, hb23, hx30, hx33]) <;> (with_reducible and_intros) <;> first | assumption | rfl | omega | (unfold maxLen; omega)) (by (simp only [go_sem, hx3, hb5, hx9, hx14, hb20, hb23, hx30, hx33]) <;> (with_reducible and_intros) <;> first | assumption | rfl | omega | (unfold maxLen; omega)) rfl ?_
              obtain ⟨v0_3, hv37, h⟩ := Option.bind_eq_some_iff.1 h
              refine adops.call (by first | trivial | rfl) rfl rfl rfl (fun _ h => h) [] [(1000, 1000), (1001, 1001), (1002, 1002), (1003, 1003)] (hc_slf (a3.1.1.2.getD st1.2.toNat (0, 0, 0)).2.2 (strAt strL0 (iand .u8 (intAt T69 a3.2.2 ((y.toNat * 4) + (a3.1.1.2.getD st1.2.toNat (0, 0, 0)).2.1.toNat * 1)) (intAt T94 a4 (0 + (a3.1.1.2.getD st1.2.toNat (0, 0, 0)).2.2.toNat * 1))).toNat) st1.1 a3 a4 hv37) rfl (by (simp only [go_sem, hx3, hb5, hx9, hx14, hb20, hb23, hx30, hx33]) <;> (with_reducible and_intros) <;> first | assumption | rfl | omega | (unfold maxLen; omega)) (by (simp only [go_sem, hx3, hb5, hx9, hx14, hb20, hb23, hx30, hx33]) <;> (with_reducible and_intros) <;> first | assumption | rfl | omega | (unfold maxLen; omega)) rfl ?_
              refine adops_cut 0 (fun K' hK38 => ?_)
              try dsimp only [List.drop_succ_cons, List.drop_zero, List.take_succ_cons, List.take_zero]
              simp only [go_sem, hx3, hb5, hx9, hx14, hb20, hb23, hx30, hx33]
              repeat with_reducible refine zN ?_
              refine hK38 _ ?_
              refine adops_nil ?_
              refine ablock_n ?_
              refine athen_n ?_
              refine zV [(0, .int .i64 x0), (1, .int .i64 y), (3, .bp 1001 0), (4, .bp 1002 0), (5, .bp 1003 0), (26, .sl Y0 a3.1.1.2), (27, .int .i64 (a3.1.1.2.length : Int)), (28, .int .i64 st1.2)] [(1000, .box 94 (cellsX T94 v0_3)), (1001, .box 90 (.int .i64 a3.1.1.1 :: (.sl Y0 a3.1.1.2 :: (cellsX T69 a3.1.2 ++ (.int .i64 a3.2.1.1 :: (.sl Y0 a3.2.1.2 :: (cellsX T69 a3.2.2))))))), (1002, .box 94 (cellsX T94 a4)), (1003, .box 127 [.fn (.func 113) [] [.bp 1000 0, .bp 1001 0, .bp 1002 0, .bp 1003 0]])] gt ?_
              as_aux_lemma =>
               refine AW.ops ?_
               obtain ⟨c39, h⟩ := ck_some.1 h
               refine zA [(0, .int .i64 x0), (1, .int .i64 y), (3, .bp 1001 0), (4, .bp 1002 0), (5, .bp 1003 0), (26, .sl Y0 a3.1.1.2), (27, .int .i64 (a3.1.1.2.length : Int)), (28, .int .i64 (st1.2 + 1))] [(1000, .box 94 (cellsX T94 v0_3)), (1001, .box 90 (.int .i64 a3.1.1.1 :: (.sl Y0 a3.1.1.2 :: (cellsX T69 a3.1.2 ++ (.int .i64 a3.2.1.1 :: (.sl Y0 a3.2.1.2 :: (cellsX T69 a3.2.2))))))), (1002, .box 94 (cellsX T94 a4)), (1003, .box 127 [.fn (.func 113) [] [.bp 1000 0, .bp 1001 0, .bp 1002 0, .bp 1003 0]])] ?_
               obtain rfl := Option.some.inj h
               exact ⟨_, rfl, zL [] [] []⟩
       ·refine zm ?_
        refine athen_n ?_
        refine AW.ops ?_
        obtain ⟨c40, h⟩ := ck_some.1 h
        refine zA [(0, .int .i64 x0), (1, .int .i64 y), (3, .bp 1001 0), (4, .bp 1002 0), (5, .bp 1003 0), (26, .sl Y0 a3.1.1.2), (27, .int .i64 (a3.1.1.2.length : Int)), (28, .int .i64 (st1.2 + 1))] [(1000, .box 94 (cellsX T94 st1.1)), (1001, .box 90 (.int .i64 a3.1.1.1 :: (.sl Y0 a3.1.1.2 :: (cellsX T69 a3.1.2 ++ (.int .i64 a3.2.1.1 :: (.sl Y0 a3.2.1.2 :: (cellsX T69 a3.2.2))))))), (1002, .box 94 (cellsX T94 a4)), (1003, .box 127 [.fn (.func 113) [] [.bp 1000 0, .bp 1001 0, .bp 1002 0, .bp 1003 0]])] ?_
        obtain rfl := Option.some.inj h
        exact ⟨_, rfl, zL [] [] []⟩
      ·refine AW.exit ?_
       refine athen_e ?_
       obtain rfl := Option.some.inj h
       rw [← hd17 _ rfl] at ho16
       have h := ho16
       refine athen_e ?_
       refine ablock_s ?_
       obtain rfl := Option.some.inj h
       exact zR [] [] []

theorem hc_refine_two_proof_1 : ∀ (n : Nat) (x0 : Int) (y : Int) (a2 : (El T94)) (a3 : ((Int × (List (Int × Int × Int))) × (El T69)) × (Int × (List (Int × Int × Int))) × (El T69)) (a4 : (El T94)) {r : (El T94)}, refine_two_proof_1 n x0 y a2 a3 a4 = some r → HC Try.prog 113 [(1000, .box 94 (cellsX T94 a2)), (1001, .box 90 (.int .i64 a3.1.1.1 :: (.sl Y0 a3.1.1.2 :: (cellsX T69 a3.1.2 ++ (.int .i64 a3.2.1.1 :: (.sl Y0 a3.2.1.2 :: (cellsX T69 a3.2.2))))))), (1002, .box 94 (cellsX T94 a4)), (1003, .box 127 [.fn (.func 113) [] [.bp 1000 0, .bp 1001 0, .bp 1002 0, .bp 1003 0]])] [.int .i64 x0, .int .i64 y, .bp 1000 0, .bp 1001 0, .bp 1002 0, .bp 1003 0] [(1000, .box 94 (cellsX T94 r)), (1001, .box 90 (.int .i64 a3.1.1.1 :: (.sl Y0 a3.1.1.2 :: (cellsX T69 a3.1.2 ++ (.int .i64 a3.2.1.1 :: (.sl Y0 a3.2.1.2 :: (cellsX T69 a3.2.2))))))), (1002, .box 94 (cellsX T94 a4)), (1003, .box 127 [.fn (.func 113) [] [.bp 1000 0, .bp 1001 0, .bp 1002 0, .bp 1003 0]])] (.tup []) := by
 intro n
 induction n with
 | zero => intro x0 y a2 a3 a4 r h; cases h
 | succ n ih => intro x0 y a2 a3 a4 r h; exact hc_refine_two_proof_1F (refine_two_proof_1 n) ih x0 y a2 a3 a4 h

theorem hc_refine_two_proof (t : ((Int × (List (Int × Int × Int))) × (El T69)) × (Int × (List (Int × Int × Int))) × (El T69)) {r : (El T94) × Bool} (h : refine_two_proof t = some r) : HC Try.prog 85 [] [.agg (.int .i64 t.1.1.1 :: (.sl Y0 t.1.1.2 :: (cellsX T69 t.1.2 ++ (.int .i64 t.2.1.1 :: (.sl Y0 t.2.1.2 :: (cellsX T69 t.2.2))))))] [] (.tup [.agg (cellsX T94 r.1), .bool r.2]) := by
 unfold refine_two_proof at h
 refine zH Try.func85 [.cell 2 94, .tmp 3] 18 ?_
 refine zo ?_
 refine zB [(1, .bp 1 0), (2, .bp 2 0)] [(1, .box 90 (.int .i64 t.1.1.1 :: (.sl Y0 t.1.1.2 :: (cellsX T69 t.1.2 ++ (.int .i64 t.2.1.1 :: (.sl Y0 t.2.1.2 :: (cellsX T69 t.2.2))))))), (2, .box 94 (cellsX T94 (Ty.dflt T94)))] ?_
 refine zo ?_
 refine zS 1 [(1, .bp 1 0), (2, .bp 2 0), (7, .agg (.int .i64 t.1.1.1 :: (.sl Y0 t.1.1.2 :: (cellsX T69 t.1.2 ++ (.int .i64 t.2.1.1 :: (.sl Y0 t.2.1.2 :: (cellsX T69 t.2.2)))))))] [(1, .box 90 (.int .i64 t.1.1.1 :: (.sl Y0 t.1.1.2 :: (cellsX T69 t.1.2 ++ (.int .i64 t.2.1.1 :: (.sl Y0 t.2.1.2 :: (cellsX T69 t.2.2))))))), (2, .box 94 (cellsX T94 (Ty.dflt T94)))] ?_
 obtain ⟨v0, hv1, h⟩ := Option.bind_eq_some_iff.1 h
 refine zC [] [] (hc_refine_two_best t hv1) [(1, .bp 1 0), (2, .bp 2 0), (8, .agg (cellsX T94 v0))] [(1, .box 90 (.int .i64 t.1.1.1 :: (.sl Y0 t.1.1.2 :: (cellsX T69 t.1.2 ++ (.int .i64 t.2.1.1 :: (.sl Y0 t.2.1.2 :: (cellsX T69 t.2.2))))))), (2, .box 94 (cellsX T94 (Ty.dflt T94)))] ?_
 refine zB [(1, .bp 1 0), (2, .bp 2 0), (4, .bp 4 0)] [(1, .box 90 (.int .i64 t.1.1.1 :: (.sl Y0 t.1.1.2 :: (cellsX T69 t.1.2 ++ (.int .i64 t.2.1.1 :: (.sl Y0 t.2.1.2 :: (cellsX T69 t.2.2))))))), (2, .box 94 (cellsX T94 (Ty.dflt T94))), (4, .box 94 (cellsX T94 v0))] ?_
 refine AW.seq ?_
 refine zo ?_
 have hx2 : 0 < 6 := by omega
 refine zS 2 [(1, .bp 1 0), (2, .bp 2 0), (4, .bp 4 0), (10, .int .u8 (intAt T94 v0 0))] [(1, .box 90 (.int .i64 t.1.1.1 :: (.sl Y0 t.1.1.2 :: (cellsX T69 t.1.2 ++ (.int .i64 t.2.1.1 :: (.sl Y0 t.2.1.2 :: (cellsX T69 t.2.2))))))), (2, .box 94 (cellsX T94 (Ty.dflt T94))), (4, .box 94 (cellsX T94 v0))] ?_
 obtain ⟨v0_2, hv3, h⟩ := Option.bind_eq_some_iff.1 h
 refine zC [] [] (hc_refine_set_has (intAt T94 v0 0) 0 hv3) [(1, .bp 1 0), (2, .bp 2 0), (4, .bp 4 0), (11, .bool (decide ((iand .u8 (ishr .u8 (intAt T94 v0 0) 0) 1) = 1)))] [(1, .box 90 (.int .i64 t.1.1.1 :: (.sl Y0 t.1.1.2 :: (cellsX T69 t.1.2 ++ (.int .i64 t.2.1.1 :: (.sl Y0 t.2.1.2 :: (cellsX T69 t.2.2))))))), (2, .box 94 (cellsX T94 (Ty.dflt T94))), (4, .box 94 (cellsX T94 v0))] ?_
 refine zB [(1, .bp 1 0), (2, .bp 2 0), (4, .bp 4 0), (12, .bool (!(decide ((iand .u8 (ishr .u8 (intAt T94 v0 0) 0) 1) = 1))))] [(1, .box 90 (.int .i64 t.1.1.1 :: (.sl Y0 t.1.1.2 :: (cellsX T69 t.1.2 ++ (.int .i64 t.2.1.1 :: (.sl Y0 t.2.1.2 :: (cellsX T69 t.2.2))))))), (2, .box 94 (cellsX T94 (Ty.dflt T94))), (4, .box 94 (cellsX T94 v0))] ?_
 refine zQ h (fun hb4 h => ?_) (fun hb4 h => ?_)
 ·refine zo ?_
  refine zB [(2, .bp 2 0), (3, .bool false)] [(2, .box 94 (cellsX T94 (Ty.dflt T94)))] ?_
  refine zr ?_
  obtain rfl := Option.some.inj h
  exact zR [] [] []
 ·refine zk ?_
  refine zo ?_
  refine zB [(1, .bp 1 0), (2, .bp 2 0), (4, .bp 4 0), (5, .bp 5 0)] [(1, .box 90 (.int .i64 t.1.1.1 :: (.sl Y0 t.1.1.2 :: (cellsX T69 t.1.2 ++ (.int .i64 t.2.1.1 :: (.sl Y0 t.2.1.2 :: (cellsX T69 t.2.2))))))), (2, .box 94 (cellsX T94 (Ty.dflt T94))), (4, .box 94 (cellsX T94 v0)), (5, .box 94 (cellsX T94 (Ty.dflt T94)))] ?_
  refine zo ?_
  refine zB [(1, .bp 1 0), (2, .bp 2 0), (4, .bp 4 0), (5, .bp 5 0), (6, .bp 6 0)] [(1, .box 90 (.int .i64 t.1.1.1 :: (.sl Y0 t.1.1.2 :: (cellsX T69 t.1.2 ++ (.int .i64 t.2.1.1 :: (.sl Y0 t.2.1.2 :: (cellsX T69 t.2.2))))))), (2, .box 94 (cellsX T94 (Ty.dflt T94))), (4, .box 94 (cellsX T94 v0)), (5, .box 94 (cellsX T94 (Ty.dflt T94))), (6, .box 127 [.cv (.nilFunc)])] ?_
  refine zo ?_
  refine zB [(2, .bp 2 0), (5, .bp 5 0), (6, .bp 6 0)] [(1, .box 90 (.int .i64 t.1.1.1 :: (.sl Y0 t.1.1.2 :: (cellsX T69 t.1.2 ++ (.int .i64 t.2.1.1 :: (.sl Y0 t.2.1.2 :: (cellsX T69 t.2.2))))))), (2, .box 94 (cellsX T94 (Ty.dflt T94))), (4, .box 94 (cellsX T94 v0)), (5, .box 94 (cellsX T94 (Ty.dflt T94))), (6, .box 127 [.fn (.func 113) [] [.bp 5 0, .bp 1 0, .bp 4 0, .bp 6 0]])] ?_
  refine zo ?_
  refine zS 1 [(2, .bp 2 0), (5, .bp 5 0), (15, .fn (.func 113) [] [.bp 5 0, .bp 1 0, .bp 4 0, .bp 6 0])] [(1, .box 90 (.int .i64 t.1.1.1 :: (.sl Y0 t.1.1.2 :: (cellsX T69 t.1.2 ++ (.int .i64 t.2.1.1 :: (.sl Y0 t.2.1.2 :: (cellsX T69 t.2.2))))))), (2, .box 94 (cellsX T94 (Ty.dflt T94))), (4, .box 94 (cellsX T94 v0)), (5, .box 94 (cellsX T94 (Ty.dflt T94))), (6, .box 127 [.fn (.func 113) [] [.bp 5 0, .bp 1 0, .bp 4 0, .bp 6 0]])] ?_
  obtain ⟨v0_3, hv5, h⟩ := Option.bind_eq_some_iff.1 h
  refine zC [] [(1000, 5), (1001, 1), (1002, 4), (1003, 6)] (hc_refine_two_proof_1 fuel 0 0 (Ty.dflt T94) t v0 hv5) [(2, .bp 2 0), (5, .bp 5 0)] [(2, .box 94 (cellsX T94 (Ty.dflt T94))), (5, .box 94 (cellsX T94 v0_3))] ?_
  refine zB [(2, .bp 2 0), (5, .bp 5 0)] [(2, .box 94 (cellsX T94 (Ty.dflt T94))), (5, .box 94 (cellsX T94 v0_3))] ?_
  refine zo ?_
  refine zB [(2, .bp 2 0), (3, .bool true)] [(2, .box 94 (cellsX T94 v0_3))] ?_
  refine AW.ret ?_
  obtain rfl := Option.some.inj h
  exact zR [] [] []

theorem hc_refine_Proof (c : Int × (List (Int × Int × Int))) (a : Int × (List (Int × Int × Int))) {r : (List (Int × Int)) × Int} (h : refine_Proof c a = some r) : HC Try.prog 35 [] [.agg [.int .i64 c.1, .sl Y0 c.2], .agg [.int .i64 a.1, .sl Y0 a.2]] [(2000, .arr 58 (.pair (.int .i64) (.int .i64)) r.1)] (.tup [.own 2000, .int .i64 r.2]) := by
 unfold refine_Proof at h
 refine zH Try.func35 [.tmp 4, .tmp 5] 28 ?_
 refine zo ?_
 refine zB [(2, .bp 2 0), (3, .bp 3 0)] [(2, .box 24 [.int .i64 c.1, .sl Y0 c.2]), (3, .box 24 [.int .i64 a.1, .sl Y0 a.2])] ?_
 refine zo ?_
 refine zS 2 [(11, .agg [.int .i64 c.1, .sl Y0 c.2]), (12, .agg [.int .i64 a.1, .sl Y0 a.2])] [] ?_
 obtain ⟨v0, hv1, h⟩ := Option.bind_eq_some_iff.1 h
 refine zC [] [] (hc_refine_twoOf c a hv1) [(13, .tup [.agg (.int .i64 v0.1 :: (.sl Y0 v0.2.1 :: (cellsX T69 v0.2.2.1 ++ (.int .i64 v0.2.2.2.1 :: (.sl Y0 v0.2.2.2.2.1 :: (cellsX T69 v0.2.2.2.2.2.1)))))), .int .i64 v0.2.2.2.2.2.2])] [] ?_
 refine zS 5 [(6, .bp 6 0), (15, .int .i64 v0.2.2.2.2.2.2)] [(6, .box 90 (.int .i64 v0.1 :: (.sl Y0 v0.2.1 :: (cellsX T69 v0.2.2.1 ++ (.int .i64 v0.2.2.2.1 :: (.sl Y0 v0.2.2.2.2.1 :: (cellsX T69 v0.2.2.2.2.2.1)))))))] ?_
 refine zB [(6, .bp 6 0), (7, .int .i64 v0.2.2.2.2.2.2)] [(6, .box 90 (.int .i64 v0.1 :: (.sl Y0 v0.2.1 :: (cellsX T69 v0.2.2.1 ++ (.int .i64 v0.2.2.2.1 :: (.sl Y0 v0.2.2.2.2.1 :: (cellsX T69 v0.2.2.2.2.2.1)))))))] ?_
 refine AW.seq ?_
 refine zo ?_
 refine zB [(6, .bp 6 0), (7, .int .i64 v0.2.2.2.2.2.2), (17, .bool (!(decide (v0.2.2.2.2.2.2 = 0))))] [(6, .box 90 (.int .i64 v0.1 :: (.sl Y0 v0.2.1 :: (cellsX T69 v0.2.2.1 ++ (.int .i64 v0.2.2.2.1 :: (.sl Y0 v0.2.2.2.2.1 :: (cellsX T69 v0.2.2.2.2.2.1)))))))] ?_
 refine zQ h (fun hb2 h => ?_) (fun hb2 h => ?_)
 ·refine zo ?_
  refine zB [(4, .cv (.slice none 0 0)), (5, .int .i64 v0.2.2.2.2.2.2)] [] ?_
  refine zr ?_
  obtain rfl := Option.some.inj h
  exact zR [] [2000] []
 ·refine zk ?_
  refine zo ?_
  refine zS 1 [(20, .agg (.int .i64 v0.1 :: (.sl Y0 v0.2.1 :: (cellsX T69 v0.2.2.1 ++ (.int .i64 v0.2.2.2.1 :: (.sl Y0 v0.2.2.2.2.1 :: (cellsX T69 v0.2.2.2.2.2.1)))))))] [] ?_
  obtain ⟨v0_2, hv3, h⟩ := Option.bind_eq_some_iff.1 h
  refine zC [] [] (hc_refine_two_proof (((v0.1, v0.2.1), v0.2.2.1), (v0.2.2.2.1, v0.2.2.2.2.1), v0.2.2.2.2.2.1) hv3) [(21, .tup [.agg (cellsX T94 v0_2.1), .bool v0_2.2])] [] ?_
  refine zS 5 [(8, .bp 8 0), (23, .bool v0_2.2)] [(8, .box 94 (cellsX T94 v0_2.1))] ?_
  refine zB [(8, .bp 8 0), (9, .bool v0_2.2)] [(8, .box 94 (cellsX T94 v0_2.1))] ?_
  refine AW.seq ?_
  refine zo ?_
  refine zB [(8, .bp 8 0), (25, .bool (!v0_2.2))] [(8, .box 94 (cellsX T94 v0_2.1))] ?_
  refine zQ h (fun hb4 h => ?_) (fun hb4 h => ?_)
  ·refine zo ?_
   refine zB [(4, .cv (.slice none 0 0)), (5, .int .i64 5)] [] ?_
   refine zr ?_
   obtain rfl := Option.some.inj h
   exact zR [] [2000] []
  ·refine zk ?_
   refine zo ?_
   refine zS 1 [(26, .agg (cellsX T94 v0_2.1))] [] ?_
   obtain ⟨v0_3, hv5, h⟩ := Option.bind_eq_some_iff.1 h
   refine zC [] [] (hc_refine_relation_list v0_2.1 hv5) [(27, .own 37000)] [(37000, .arr 58 (.pair (.int .i64) (.int .i64)) v0_3)] ?_
   refine zB [(4, .own 37000), (5, .int .i64 0)] [(37000, .arr 58 (.pair (.int .i64) (.int .i64)) v0_3)] ?_
   refine AW.ret ?_
   obtain rfl := Option.some.inj h
   exact zR [] [] [(2000, 37000)]

theorem hc_linealref05_holds (c : Int × (List (Int × Int × Int))) (a : Int × (List (Int × Int × Int))) (pairs : List Int) (x0 : Int) (y : Int) {r : Bool} (h : linealref05_holds c a pairs x0 y = some r) : HC Try.prog 90 [] [.agg [.int .i64 c.1, .sl Y0 c.2], .agg [.int .i64 a.1, .sl Y0 a.2], .sl (.int .i64) pairs, .int .i64 x0, .int .i64 y] [] (.bool r) := by
 unfold linealref05_holds at h
 refine zH Try.func90 [.tmp 10] 40 ?_
 refine zo ?_
 refine zB [(2, .sl (.int .i64) pairs), (3, .int .i64 x0), (4, .int .i64 y), (5, .bp 5 0), (6, .bp 6 0)] [(5, .box 24 [.int .i64 c.1, .sl Y0 c.2]), (6, .box 24 [.int .i64 a.1, .sl Y0 a.2])] ?_
 refine AW.have1 (fun _ : Unit => linealref05_holds_k1 = some r) (fun _ => ⟨fr [], hpGet [], gt⟩) (fun _ h => ?_) (fun hk_linealref05_holds_k1 => ?_)
 ·as_aux_lemma =>
   unfold linealref05_holds_k1 at h
   refine zo ?_
   refine zB [(10, .bool true)] [] ?_
   refine AW.ret ?_
   obtain rfl := Option.some.inj h
   exact zR [] [] []
 ·refine AW.seq ?_
  refine zo ?_
  refine zB [(2, .sl (.int .i64) pairs), (3, .int .i64 x0), (4, .int .i64 y), (6, .bp 6 0), (14, .sl Y0 c.2), (15, .int .i64 (c.2.length : Int)), (16, .int .i64 0)] [(6, .box 24 [.int .i64 a.1, .sl Y0 a.2])] ?_
  refine AW.block ?_
  obtain ⟨rv5, hw1, ho2⟩ := Option.bind_eq_some_iff.1 h
  refine AW.loopO (linealref05_holds_b1 c a pairs x0 y) (fun st1 => ⟨fr [(2, .sl (.int .i64) pairs), (3, .int .i64 x0), (4, .int .i64 y), (6, .bp 6 0), (14, .sl Y0 c.2), (15, .int .i64 (c.2.length : Int)), (16, .int .i64 st1)], hpGet [(6, .box 24 [.int .i64 a.1, .sl Y0 a.2])], gt⟩) 0 hw1 (zL [] [] []) ?_
  as_aux_lemma =>
   intro st1 x4 h hd3
   unfold linealref05_holds_b1 at h
   refine zo ?_
   refine zB [(2, .sl (.int .i64) pairs), (3, .int .i64 x0), (4, .int .i64 y), (6, .bp 6 0), (14, .sl Y0 c.2), (15, .int .i64 (c.2.length : Int)), (16, .int .i64 st1), (17, .bool (decide (st1 < (c.2.length : Int))))] [(6, .box 24 [.int .i64 a.1, .sl Y0 a.2])] ?_
   refine AW.seq ?_
   refine zQ h (fun hb6 h => ?_) (fun hb6 h => ?_)
   ·refine zk ?_
    refine AW.seq ?_
    refine AW.block ?_
    refine zo ?_
    obtain ⟨c7, h⟩ := ck_some.1 h
    obtain ⟨c8, h⟩ := ck_some.1 h
    refine zB [(2, .sl (.int .i64) pairs), (3, .int .i64 x0), (4, .int .i64 y), (6, .bp 6 0), (12, .bp 12 0), (14, .sl Y0 c.2), (15, .int .i64 (c.2.length : Int)), (16, .int .i64 st1)] [(6, .box 24 [.int .i64 a.1, .sl Y0 a.2]), (12, .box 66 [.int .i64 (c.2.getD st1.toNat (0, 0, 0)).1, .int .i64 (c.2.getD st1.toNat (0, 0, 0)).2.1, .int .i64 (c.2.getD st1.toNat (0, 0, 0)).2.2])] ?_
    refine AW.seq ?_
    refine AW.draw tab_ok mixed_ok [] [] (by decide) (lex_fast (by kernel_rfl)) ?_
    as_aux_lemma =>
     refine adops_cut 5 (fun K' hK9 => ?_)
     try dsimp only [List.drop_succ_cons, List.drop_zero, List.take_succ_cons, List.take_zero]
     simp only [go_sem, hb6]
     repeat with_reducible refine zN ?_
     refine hK9 _ ?_
     as_aux_lemma =>
      rcases zI h with ⟨hb10, h⟩ | ⟨hb10, h⟩
      ·simp only [hb10]
       as_aux_lemma =>
        obtain ⟨c12, h⟩ := ck_some.1 h
        refine adops_cut 5 (fun K' hK11 => ?_)
        try dsimp only [List.drop_succ_cons, List.drop_zero, List.take_succ_cons, List.take_zero]
        simp only [go_sem, hb6, hb10]
        repeat with_reducible refine zN ?_
        refine hK11 _ ?_
        as_aux_lemma =>
         obtain ⟨v0, hv13, h⟩ := Option.bind_eq_some_iff.1 h
         refine adops.call (by first | trivial | rfl) rfl rfl rfl (fun _ h => ⟨fun _ => h, fun hn => absurd rfl hn⟩) [] [] (hc_linealref05_comes a (ishl .i64 1 y) (c.2.getD st1.toNat (0, 0, 0)).2.1 hv13) rfl (by (simp only [go_sem, hb6, hb10]) <;> (with_reducible and_intros) <;> first | assumption | rfl | omega | (unfold maxLen; omega)) (by (simp only [go_sem, hb6, hb10]) <;> (with_reducible and_intros) <;> first | assumption | rfl | omega | (unfold maxLen; omega)) rfl ?_
         obtain ⟨c15, h⟩ := ck_some.1 h
         obtain ⟨c16, h⟩ := ck_some.1 h
         refine adops_cut 6 (fun K' hK14 => ?_)
         try dsimp only [List.drop_succ_cons, List.drop_zero, List.take_succ_cons, List.take_zero]
         simp only [go_sem, hb6, hb10]
         repeat with_reducible refine zN ?_
         refine hK14 _ ?_
         as_aux_lemma =>
          refine adops_cut 2 (fun K' hK17 => ?_)
          try dsimp only [List.drop_succ_cons, List.drop_zero, List.take_succ_cons, List.take_zero]
          simp only [go_sem, hb6, hb10]
          repeat with_reducible refine zN ?_
          refine hK17 _ ?_
          refine adops_nil ?_
          refine athen_n ?_
          refine zV [(2, .sl (.int .i64) pairs), (3, .int .i64 x0), (4, .int .i64 y), (6, .bp 6 0), (14, .sl Y0 c.2), (15, .int .i64 (c.2.length : Int)), (16, .int .i64 st1), (38, .bool (decide ((iand .i64 v0 (pairs.getD (c.2.getD st1.toNat (0, 0, 0)).2.2.toNat 0)) = 0)))] [(6, .box 24 [.int .i64 a.1, .sl Y0 a.2])] gt ?_
          as_aux_lemma =>
           refine zQ h (fun hb18 h => ?_) (fun hb18 h => ?_)
           ·refine zo ?_
            refine zB [(10, .bool false)] [] ?_
            refine AW.ret ?_
            refine ablock_r ?_
            refine athen_r ?_
            obtain rfl := Option.some.inj h
            rw [← hd3 _ rfl] at ho2
            have h := ho2
            try simp only at h
            refine athen_r ?_
            refine ablock_r ?_
            refine athen_r ?_
            obtain rfl := Option.some.inj h
            exact zR [] [] []
           ·refine zm ?_
            refine athen_n ?_
            refine AW.ops ?_
            obtain ⟨c19, h⟩ := ck_some.1 h
            refine zA [(2, .sl (.int .i64) pairs), (3, .int .i64 x0), (4, .int .i64 y), (6, .bp 6 0), (14, .sl Y0 c.2), (15, .int .i64 (c.2.length : Int)), (16, .int .i64 (st1 + 1))] [(6, .box 24 [.int .i64 a.1, .sl Y0 a.2])] ?_
            obtain rfl := Option.some.inj h
            exact ⟨_, rfl, zL [] [] []⟩
      ·simp only [hb10]
       as_aux_lemma =>
        refine adops_cut 4 (fun K' hK20 => ?_)
        try dsimp only [List.drop_succ_cons, List.drop_zero, List.take_succ_cons, List.take_zero]
        simp only [go_sem, hb6, hb10]
        repeat with_reducible refine zN ?_
        refine hK20 _ ?_
        as_aux_lemma =>
         refine adops_cut 4 (fun K' hK21 => ?_)
         try dsimp only [List.drop_succ_cons, List.drop_zero, List.take_succ_cons, List.take_zero]
         simp only [go_sem, hb6, hb10]
         repeat with_reducible refine zN ?_
         refine hK21 _ ?_
         as_aux_lemma =>
          refine adops_cut 4 (fun K' hK22 => ?_)
          try dsimp only [List.drop_succ_cons, List.drop_zero, List.take_succ_cons, List.take_zero]
          simp only [go_sem, hb6, hb10]
          repeat with_reducible refine zN ?_
          refine hK22 _ ?_
          as_aux_lemma =>
           refine adops_cut 2 (fun K' hK23 => ?_)
           try dsimp only [List.drop_succ_cons, List.drop_zero, List.take_succ_cons, List.take_zero]
           simp only [go_sem, hb6, hb10]
           repeat with_reducible refine zN ?_
           refine hK23 _ ?_
           refine adops_nil ?_
           refine athen_n ?_
           refine zV [(2, .sl (.int .i64) pairs), (3, .int .i64 x0), (4, .int .i64 y), (6, .bp 6 0), (14, .sl Y0 c.2), (15, .int .i64 (c.2.length : Int)), (16, .int .i64 st1), (38, .bool false)] [(6, .box 24 [.int .i64 a.1, .sl Y0 a.2])] gt ?_
           as_aux_lemma =>
            refine AW.cond (b := false) rfl (fun hb24 => by cases hb24) (fun _ => ?_)
            refine zm ?_
            refine athen_n ?_
            refine AW.ops ?_
            obtain ⟨c25, h⟩ := ck_some.1 h
            refine zA [(2, .sl (.int .i64) pairs), (3, .int .i64 x0), (4, .int .i64 y), (6, .bp 6 0), (14, .sl Y0 c.2), (15, .int .i64 (c.2.length : Int)), (16, .int .i64 (st1 + 1))] [(6, .box 24 [.int .i64 a.1, .sl Y0 a.2])] ?_
            obtain rfl := Option.some.inj h
            exact ⟨_, rfl, zL [] [] []⟩
   ·refine AW.exit ?_
    refine athen_e ?_
    obtain rfl := Option.some.inj h
    rw [← hd3 _ rfl] at ho2
    have h := ho2
    try simp only at h
    refine athen_e ?_
    refine ablock_s ?_
    refine athen_n ?_
    exact AW.weaken (zL [] [] []) (hk_linealref05_holds_k1 () h)

end Go.Proofs.Ytifleoceebaooaa
