/-
  Made by wip/tool/dc.py out of the print of the program: contracts.
-/
import Derived.Test.YtifleoceebaooaaRfp
import Derived.Test.YtifleoceebaooaaShr
import Derived.Test.YtifleoceebaooaaAvd
import Derived.Test.YtifleoceebaooaaNuc1
namespace Go.Proofs.Ytifleoceebaooaa
open Go.RowKit

set_option linter.unusedSimpArgs false
set_option linter.unusedVariables false
set_option linter.constructorNameAsVariable false

set_option maxRecDepth 100000
set_option maxHeartbeats 2000000

theorem hc_refine_frameOf (s : Int × (List (Int × Int × Int))) {r : Int × (List (Int × Int × Int)) × (El T69) × Int} (h : refine_frameOf s = some r) : HC Try.prog 58 [] [.agg [.int .i64 s.1, .sl Y0 s.2]] [] (.tup [.agg (.int .i64 r.1 :: (.sl Y0 r.2.1 :: (cellsX T69 r.2.2.1))), .int .i64 r.2.2.2]) := by
 unfold refine_frameOf at h
 refine zH Try.func58 [.cell 2 71, .tmp 3] 76 ?_
 refine zo ?_
 refine zB [(1, .bp 1 0), (2, .bp 2 0)] [(1, .box 24 [.int .i64 s.1, .sl Y0 s.2]), (2, .box 71 (.int .i64 0 :: (.cv (.slice none 0 0) :: (cellsX T69 (Ty.dflt T69)))))] ?_
 refine AW.seq ?_
 refine zo ?_
 refine zS 1 [(1, .bp 1 0), (2, .bp 2 0), (9, .agg [.int .i64 s.1, .sl Y0 s.2])] [(1, .box 24 [.int .i64 s.1, .sl Y0 s.2]), (2, .box 71 (.int .i64 0 :: (.cv (.slice none 0 0) :: (cellsX T69 (Ty.dflt T69)))))] ?_
 obtain ⟨v0, hv1, h⟩ := Option.bind_eq_some_iff.1 h
 refine zC [] [] (hc_refine_Valid s hv1) [(1, .bp 1 0), (2, .bp 2 0), (10, .bool v0)] [(1, .box 24 [.int .i64 s.1, .sl Y0 s.2]), (2, .box 71 (.int .i64 0 :: (.cv (.slice none 0 0) :: (cellsX T69 (Ty.dflt T69)))))] ?_
 refine zB [(1, .bp 1 0), (2, .bp 2 0), (11, .bool (!v0))] [(1, .box 24 [.int .i64 s.1, .sl Y0 s.2]), (2, .box 71 (.int .i64 0 :: (.cv (.slice none 0 0) :: (cellsX T69 (Ty.dflt T69)))))] ?_
 refine zQ h (fun hb2 h => ?_) (fun hb2 h => ?_)
 ·refine zo ?_
  refine zB [(2, .bp 2 0), (3, .int .i64 50)] [(2, .box 71 (.int .i64 0 :: (.cv (.slice none 0 0) :: (cellsX T69 (Ty.dflt T69)))))] ?_
  refine zr ?_
  obtain rfl := Option.some.inj h
  exact zR [] [] []
 ·refine zk ?_
  refine zo ?_
  refine zB [(2, .bp 2 0), (4, .bp 4 0)] [(2, .box 71 (.int .i64 0 :: (.cv (.slice none 0 0) :: (cellsX T69 (Ty.dflt T69))))), (4, .box 71 (.int .i64 s.1 :: (.sl Y0 s.2 :: (cellsX T69 (Ty.dflt T69)))))] ?_
  refine AW.have1 (fun b1 : (El T69) => refine_frameOf_k1 s b1 = some r) (fun b1 => ⟨fr [(2, .bp 2 0), (4, .bp 4 0)], hpGet [(2, .box 71 (.int .i64 0 :: (.cv (.slice none 0 0) :: (cellsX T69 (Ty.dflt T69))))), (4, .box 71 (.int .i64 s.1 :: (.sl Y0 s.2 :: (cellsX T69 b1))))], gt⟩) (fun b1 h => ?_) (fun hk_refine_frameOf_k1 => ?_)
  ·as_aux_lemma =>
    unfold refine_frameOf_k1 at h
    refine AW.have1 (fun b3_2 : (El T69) => refine_frameOf_k2 s b3_2 = some r) (fun b3_2 => ⟨fr [(2, .bp 2 0), (4, .bp 4 0)], hpGet [(2, .box 71 (.int .i64 0 :: (.cv (.slice none 0 0) :: (cellsX T69 (Ty.dflt T69))))), (4, .box 71 (.int .i64 s.1 :: (.sl Y0 s.2 :: (cellsX T69 b3_2))))], gt⟩) (fun b3_2 h => ?_) (fun hk_refine_frameOf_k2 => ?_)
    ·as_aux_lemma =>
      unfold refine_frameOf_k2 at h
      refine zo ?_
      refine zB [(2, .bp 2 0), (3, .int .i64 0)] [(2, .box 71 (.int .i64 s.1 :: (.sl Y0 s.2 :: (cellsX T69 b3_2))))] ?_
      refine AW.ret ?_
      obtain rfl := Option.some.inj h
      exact zR [] [] []
    ·refine AW.seq ?_
     refine zo ?_
     refine zB [(2, .bp 2 0), (4, .bp 4 0), (31, .sl Y0 s.2), (32, .int .i64 (s.2.length : Int)), (33, .int .i64 0)] [(2, .box 71 (.int .i64 0 :: (.cv (.slice none 0 0) :: (cellsX T69 (Ty.dflt T69))))), (4, .box 71 (.int .i64 s.1 :: (.sl Y0 s.2 :: (cellsX T69 b1))))] ?_
     refine AW.block ?_
     obtain ⟨rv7, hw3, ho4⟩ := Option.bind_eq_some_iff.1 h
     refine AW.loopO (refine_frameOf_b2 s) (fun st2 => ⟨fr [(2, .bp 2 0), (4, .bp 4 0), (31, .sl Y0 s.2), (32, .int .i64 (s.2.length : Int)), (33, .int .i64 st2.2)], hpGet [(2, .box 71 (.int .i64 0 :: (.cv (.slice none 0 0) :: (cellsX T69 (Ty.dflt T69))))), (4, .box 71 (.int .i64 s.1 :: (.sl Y0 s.2 :: (cellsX T69 st2.1))))], gt⟩) (b1, 0) hw3 (zL [] [] []) ?_
     as_aux_lemma =>
      intro st2 x6 h hd5
      unfold refine_frameOf_b2 at h
      refine zo ?_
      refine zB [(2, .bp 2 0), (4, .bp 4 0), (31, .sl Y0 s.2), (32, .int .i64 (s.2.length : Int)), (33, .int .i64 st2.2), (34, .bool (decide (st2.2 < (s.2.length : Int))))] [(2, .box 71 (.int .i64 0 :: (.cv (.slice none 0 0) :: (cellsX T69 (Ty.dflt T69))))), (4, .box 71 (.int .i64 s.1 :: (.sl Y0 s.2 :: (cellsX T69 st2.1))))] ?_
      refine AW.seq ?_
      refine zQ h (fun hb8 h => ?_) (fun hb8 h => ?_)
      ·refine zk ?_
       refine AW.have1 (fun b3 : (El T69) => refine_frameOf_k3 st2 b3 = some x6) (fun b3 => ⟨fr [(2, .bp 2 0), (4, .bp 4 0), (31, .sl Y0 s.2), (32, .int .i64 (s.2.length : Int)), (33, .int .i64 st2.2)], hpGet [(2, .box 71 (.int .i64 0 :: (.cv (.slice none 0 0) :: (cellsX T69 (Ty.dflt T69))))), (4, .box 71 (.int .i64 s.1 :: (.sl Y0 s.2 :: (cellsX T69 b3))))], gt⟩) (fun b3 h => ?_) (fun hk_refine_frameOf_k3 => ?_)
       ·as_aux_lemma =>
         unfold refine_frameOf_k3 at h
         refine AW.ops ?_
         obtain ⟨c9, h⟩ := ck_some.1 h
         refine zA [(2, .bp 2 0), (4, .bp 4 0), (31, .sl Y0 s.2), (32, .int .i64 (s.2.length : Int)), (33, .int .i64 (st2.2 + 1))] [(2, .box 71 (.int .i64 0 :: (.cv (.slice none 0 0) :: (cellsX T69 (Ty.dflt T69))))), (4, .box 71 (.int .i64 s.1 :: (.sl Y0 s.2 :: (cellsX T69 b3))))] ?_
         obtain rfl := Option.some.inj h
         exact ⟨_, rfl, zL [] [] []⟩
       ·refine AW.seq ?_
        refine AW.block ?_
        refine zo ?_
        obtain ⟨c10, h⟩ := ck_some.1 h
        obtain ⟨c11, h⟩ := ck_some.1 h
        refine zB [(2, .bp 2 0), (4, .bp 4 0), (7, .bp 7 0), (31, .sl Y0 s.2), (32, .int .i64 (s.2.length : Int)), (33, .int .i64 st2.2)] [(2, .box 71 (.int .i64 0 :: (.cv (.slice none 0 0) :: (cellsX T69 (Ty.dflt T69))))), (4, .box 71 (.int .i64 s.1 :: (.sl Y0 s.2 :: (cellsX T69 st2.1)))), (7, .box 66 [.int .i64 (s.2.getD st2.2.toNat (0, 0, 0)).1, .int .i64 (s.2.getD st2.2.toNat (0, 0, 0)).2.1, .int .i64 (s.2.getD st2.2.toNat (0, 0, 0)).2.2])] ?_
        refine zo ?_
        refine zB [(2, .bp 2 0), (4, .bp 4 0), (7, .bp 7 0), (31, .sl Y0 s.2), (32, .int .i64 (s.2.length : Int)), (33, .int .i64 st2.2), (39, .int .i64 s.1), (40, .int .i64 0)] [(2, .box 71 (.int .i64 0 :: (.cv (.slice none 0 0) :: (cellsX T69 (Ty.dflt T69))))), (4, .box 71 (.int .i64 s.1 :: (.sl Y0 s.2 :: (cellsX T69 st2.1)))), (7, .box 66 [.int .i64 (s.2.getD st2.2.toNat (0, 0, 0)).1, .int .i64 (s.2.getD st2.2.toNat (0, 0, 0)).2.1, .int .i64 (s.2.getD st2.2.toNat (0, 0, 0)).2.2])] ?_
        refine AW.block ?_
        obtain ⟨rv16, hw12, ho13⟩ := Option.bind_eq_some_iff.1 h
        refine AW.loopO (refine_frameOf_b3 s st2) (fun st3 => ⟨fr [(2, .bp 2 0), (4, .bp 4 0), (7, .bp 7 0), (31, .sl Y0 s.2), (32, .int .i64 (s.2.length : Int)), (33, .int .i64 st2.2), (39, .int .i64 s.1), (40, .int .i64 st3.2)], hpGet [(2, .box 71 (.int .i64 0 :: (.cv (.slice none 0 0) :: (cellsX T69 (Ty.dflt T69))))), (4, .box 71 (.int .i64 s.1 :: (.sl Y0 s.2 :: (cellsX T69 st3.1)))), (7, .box 66 [.int .i64 (s.2.getD st2.2.toNat (0, 0, 0)).1, .int .i64 (s.2.getD st2.2.toNat (0, 0, 0)).2.1, .int .i64 (s.2.getD st2.2.toNat (0, 0, 0)).2.2])], gt⟩) (st2.1, 0) hw12 (zL [] [] []) ?_
        as_aux_lemma =>
         intro st3 x15 h hd14
         unfold refine_frameOf_b3 at h
         refine zo ?_
         refine zB [(2, .bp 2 0), (4, .bp 4 0), (7, .bp 7 0), (31, .sl Y0 s.2), (32, .int .i64 (s.2.length : Int)), (33, .int .i64 st2.2), (39, .int .i64 s.1), (40, .int .i64 st3.2), (41, .bool (decide (st3.2 < s.1)))] [(2, .box 71 (.int .i64 0 :: (.cv (.slice none 0 0) :: (cellsX T69 (Ty.dflt T69))))), (4, .box 71 (.int .i64 s.1 :: (.sl Y0 s.2 :: (cellsX T69 st3.1)))), (7, .box 66 [.int .i64 (s.2.getD st2.2.toNat (0, 0, 0)).1, .int .i64 (s.2.getD st2.2.toNat (0, 0, 0)).2.1, .int .i64 (s.2.getD st2.2.toNat (0, 0, 0)).2.2])] ?_
         refine AW.seq ?_
         refine zQ h (fun hb17 h => ?_) (fun hb17 h => ?_)
         ·refine zk ?_
          refine AW.seq ?_
          refine AW.block ?_
          refine zo ?_
          refine zB [(2, .bp 2 0), (4, .bp 4 0), (7, .bp 7 0), (8, .int .i64 st3.2), (31, .sl Y0 s.2), (32, .int .i64 (s.2.length : Int)), (33, .int .i64 st2.2), (39, .int .i64 s.1), (40, .int .i64 st3.2)] [(2, .box 71 (.int .i64 0 :: (.cv (.slice none 0 0) :: (cellsX T69 (Ty.dflt T69))))), (4, .box 71 (.int .i64 s.1 :: (.sl Y0 s.2 :: (cellsX T69 st3.1)))), (7, .box 66 [.int .i64 (s.2.getD st2.2.toNat (0, 0, 0)).1, .int .i64 (s.2.getD st2.2.toNat (0, 0, 0)).2.1, .int .i64 (s.2.getD st2.2.toNat (0, 0, 0)).2.2])] ?_
          refine AW.seq ?_
          refine AW.draw tab_ok mixed_ok [] [] (by decide) (lex_fast (by kernel_rfl)) ?_
          as_aux_lemma =>
           refine adops_cut 2 (fun K' hK18 => ?_)
           try dsimp only [List.drop_succ_cons, List.drop_zero, List.take_succ_cons, List.take_zero]
           simp only [go_sem, hb2, hb8, hb17]
           repeat with_reducible refine zN ?_
           refine hK18 _ ?_
           as_aux_lemma =>
            obtain ⟨v0_3, hv19, h⟩ := Option.bind_eq_some_iff.1 h
            refine adops.call (by first | trivial | rfl) rfl rfl rfl (fun _ h => h) [] [] (hc_refine_isSeen (s.2.getD st2.2.toNat (0, 0, 0)).2.1 hv19) rfl (by (simp only [go_sem, hb2, hb8, hb17]) <;> (with_reducible and_intros) <;> first | assumption | rfl | omega | (unfold maxLen; omega)) (by (simp only [go_sem, hb2, hb8, hb17]) <;> (with_reducible and_intros) <;> first | assumption | rfl | omega | (unfold maxLen; omega)) rfl ?_
            refine adops_cut 1 (fun K' hK20 => ?_)
            try dsimp only [List.drop_succ_cons, List.drop_zero, List.take_succ_cons, List.take_zero]
            simp only [go_sem, hb2, hb8, hb17]
            repeat with_reducible refine zN ?_
            refine hK20 _ ?_
            as_aux_lemma =>
             rcases zI h with ⟨hb21, h⟩ | ⟨hb21, h⟩
             ·simp only [hb21]
              as_aux_lemma =>
               obtain ⟨c23, h⟩ := ck_some.1 h
               obtain ⟨c24, h⟩ := ck_some.1 h
               have hx25 : ((st3.2.toNat * 4) + 0) < 24 := by omega
               refine adops_cut 6 (fun K' hK22 => ?_)
               try dsimp only [List.drop_succ_cons, List.drop_zero, List.take_succ_cons, List.take_zero]
               simp only [go_sem, hb2, hb8, hb17, hb21, hx25]
               repeat with_reducible refine zN ?_
               refine hK22 _ ?_
               as_aux_lemma =>
                refine adops_cut 1 (fun K' hK26 => ?_)
                try dsimp only [List.drop_succ_cons, List.drop_zero, List.take_succ_cons, List.take_zero]
                simp only [go_sem, hb2, hb8, hb17, hb21, hx25]
                repeat with_reducible refine zN ?_
                refine hK26 _ ?_
                as_aux_lemma =>
                 obtain ⟨v0_4, hv27, h⟩ := Option.bind_eq_some_iff.1 h
                 refine adops.call (by first | trivial | rfl) rfl rfl rfl (fun _ h => ⟨fun _ => h, fun hn => absurd rfl hn⟩) [] [] (hc_refine_set_has (intAt T69 st3.1 ((st3.2.toNat * 4) + 0)) (s.2.getD st2.2.toNat (0, 0, 0)).1 hv27) rfl (by (simp only [go_sem, hb2, hb8, hb17, hb21, hx25]) <;> (with_reducible and_intros) <;> first | assumption | rfl | omega | (unfold maxLen; omega)) (by (simp only [go_sem, hb2, hb8, hb17, hb21, hx25]) <;> (with_reducible and_intros) <;> first | assumption | rfl | omega | (unfold maxLen; omega)) rfl ?_
                 refine adops_cut 1 (fun K' hK28 => ?_)
                 try dsimp only [List.drop_succ_cons, List.drop_zero, List.take_succ_cons, List.take_zero]
                 simp only [go_sem, hb2, hb8, hb17, hb21, hx25]
                 repeat with_reducible refine zN ?_
                 refine hK28 _ ?_
                 refine adops_nil ?_
                 refine athen_n ?_
                 refine zV [(2, .bp 2 0), (4, .bp 4 0), (7, .bp 7 0), (8, .int .i64 st3.2), (31, .sl Y0 s.2), (32, .int .i64 (s.2.length : Int)), (33, .int .i64 st2.2), (39, .int .i64 s.1), (40, .int .i64 st3.2), (55, .bool (decide ((iand .u8 (ishr .u8 (intAt T69 st3.1 ((st3.2.toNat * 4) + 0)) (s.2.getD st2.2.toNat (0, 0, 0)).1) 1) = 1)))] [(2, .box 71 (.int .i64 0 :: (.cv (.slice none 0 0) :: (cellsX T69 (Ty.dflt T69))))), (4, .box 71 (.int .i64 s.1 :: (.sl Y0 s.2 :: (cellsX T69 st3.1)))), (7, .box 66 [.int .i64 (s.2.getD st2.2.toNat (0, 0, 0)).1, .int .i64 (s.2.getD st2.2.toNat (0, 0, 0)).2.1, .int .i64 (s.2.getD st2.2.toNat (0, 0, 0)).2.2])] gt ?_
                 as_aux_lemma =>
                  refine zQ h (fun hb29 h => ?_) (fun hb29 h => ?_)
                  ·refine AW.draw tab_ok mixed_ok [(17, [4])] [] (by decide) (lex_fast (by kernel_rfl)) ?_
                   as_aux_lemma =>
                    obtain ⟨c31, h⟩ := ck_some.1 h
                    obtain ⟨c32, h⟩ := ck_some.1 h
                    obtain ⟨c33, h⟩ := ck_some.1 h
                    obtain ⟨c34, h⟩ := ck_some.1 h
                    refine adops_cut 6 (fun K' hK30 => ?_)
                    try dsimp only [List.drop_succ_cons, List.drop_zero, List.take_succ_cons, List.take_zero]
                    simp only [go_sem, hb2, hb8, hb17, hb21, hx25, hb29]
                    repeat with_reducible refine zN ?_
                    refine hK30 _ ?_
                    as_aux_lemma =>
                     have hx36 : ((st3.2.toNat * 4) + (s.2.getD st2.2.toNat (0, 0, 0)).2.1.toNat * 1) < 24 := by omega
                     obtain ⟨c37, h⟩ := ck_some.1 h
                     obtain ⟨c38, h⟩ := ck_some.1 h
                     refine adops_cut 6 (fun K' hK35 => ?_)
                     try dsimp only [List.drop_succ_cons, List.drop_zero, List.take_succ_cons, List.take_zero]
                     simp only [go_sem, hb2, hb8, hb17, hb21, hx25, hb29, hx36]
                     repeat with_reducible refine zN ?_
                     refine hK35 _ ?_
                     as_aux_lemma =>
                      have hx40 : (((s.2.getD st2.2.toNat (0, 0, 0)).2.2.toNat * 4) + 0) < 24 := by omega
                      obtain ⟨c41, h⟩ := ck_some.1 h
                      obtain ⟨c42, h⟩ := ck_some.1 h
                      obtain ⟨c43, h⟩ := ck_some.1 h
                      obtain ⟨c44, h⟩ := ck_some.1 h
                      have hx45 : ((st3.2.toNat * 4) + (s.2.getD st2.2.toNat (0, 0, 0)).2.1.toNat * 1) < 24 := by omega
                      refine adops_cut 6 (fun K' hK39 => ?_)
                      try dsimp only [List.drop_succ_cons, List.drop_zero, List.take_succ_cons, List.take_zero]
                      simp only [go_sem, hb2, hb8, hb17, hb21, hx25, hb29, hx36, hx40, hx45]
                      repeat with_reducible refine zN ?_
                      refine hK39 _ ?_
                      refine adops_nil ?_
                      refine ablock_n ?_
                      refine athen_n ?_
                      refine zV [(2, .bp 2 0), (4, .bp 4 0), (7, .bp 7 0), (31, .sl Y0 s.2), (32, .int .i64 (s.2.length : Int)), (33, .int .i64 st2.2), (39, .int .i64 s.1), (40, .int .i64 st3.2)] [(2, .box 71 (.int .i64 0 :: (.cv (.slice none 0 0) :: (cellsX T69 (Ty.dflt T69))))), (4, .box 71 (.int .i64 s.1 :: (.sl Y0 s.2 :: (cellsX T69 (setInt T69 st3.1 ((st3.2.toNat * 4) + (s.2.getD st2.2.toNat (0, 0, 0)).2.1.toNat * 1) (ior .u8 (intAt T69 st3.1 ((st3.2.toNat * 4) + (s.2.getD st2.2.toNat (0, 0, 0)).2.1.toNat * 1)) (intAt T69 st3.1 (((s.2.getD st2.2.toNat (0, 0, 0)).2.2.toNat * 4) + 0)))))))), (7, .box 66 [.int .i64 (s.2.getD st2.2.toNat (0, 0, 0)).1, .int .i64 (s.2.getD st2.2.toNat (0, 0, 0)).2.1, .int .i64 (s.2.getD st2.2.toNat (0, 0, 0)).2.2])] gt ?_
                      as_aux_lemma =>
                       refine AW.ops ?_
                       obtain ⟨c46, h⟩ := ck_some.1 h
                       refine zA [(2, .bp 2 0), (4, .bp 4 0), (7, .bp 7 0), (31, .sl Y0 s.2), (32, .int .i64 (s.2.length : Int)), (33, .int .i64 st2.2), (39, .int .i64 s.1), (40, .int .i64 (st3.2 + 1))] [(2, .box 71 (.int .i64 0 :: (.cv (.slice none 0 0) :: (cellsX T69 (Ty.dflt T69))))), (4, .box 71 (.int .i64 s.1 :: (.sl Y0 s.2 :: (cellsX T69 (setInt T69 st3.1 ((st3.2.toNat * 4) + (s.2.getD st2.2.toNat (0, 0, 0)).2.1.toNat * 1) (ior .u8 (intAt T69 st3.1 ((st3.2.toNat * 4) + (s.2.getD st2.2.toNat (0, 0, 0)).2.1.toNat * 1)) (intAt T69 st3.1 (((s.2.getD st2.2.toNat (0, 0, 0)).2.2.toNat * 4) + 0)))))))), (7, .box 66 [.int .i64 (s.2.getD st2.2.toNat (0, 0, 0)).1, .int .i64 (s.2.getD st2.2.toNat (0, 0, 0)).2.1, .int .i64 (s.2.getD st2.2.toNat (0, 0, 0)).2.2])] ?_
                       obtain rfl := Option.some.inj h
                       exact ⟨_, rfl, zL [] [] []⟩
                  ·refine zm ?_
                   refine athen_n ?_
                   refine AW.ops ?_
                   obtain ⟨c47, h⟩ := ck_some.1 h
                   refine zA [(2, .bp 2 0), (4, .bp 4 0), (7, .bp 7 0), (31, .sl Y0 s.2), (32, .int .i64 (s.2.length : Int)), (33, .int .i64 st2.2), (39, .int .i64 s.1), (40, .int .i64 (st3.2 + 1))] [(2, .box 71 (.int .i64 0 :: (.cv (.slice none 0 0) :: (cellsX T69 (Ty.dflt T69))))), (4, .box 71 (.int .i64 s.1 :: (.sl Y0 s.2 :: (cellsX T69 st3.1)))), (7, .box 66 [.int .i64 (s.2.getD st2.2.toNat (0, 0, 0)).1, .int .i64 (s.2.getD st2.2.toNat (0, 0, 0)).2.1, .int .i64 (s.2.getD st2.2.toNat (0, 0, 0)).2.2])] ?_
                   obtain rfl := Option.some.inj h
                   exact ⟨_, rfl, zL [] [] []⟩
             ·simp only [hb21]
              as_aux_lemma =>
               refine adops_cut 4 (fun K' hK48 => ?_)
               try dsimp only [List.drop_succ_cons, List.drop_zero, List.take_succ_cons, List.take_zero]
               simp only [go_sem, hb2, hb8, hb17, hb21]
               repeat with_reducible refine zN ?_
               refine hK48 _ ?_
               as_aux_lemma =>
                refine adops_cut 4 (fun K' hK49 => ?_)
                try dsimp only [List.drop_succ_cons, List.drop_zero, List.take_succ_cons, List.take_zero]
                simp only [go_sem, hb2, hb8, hb17, hb21]
                repeat with_reducible refine zN ?_
                refine hK49 _ ?_
                as_aux_lemma =>
                 refine adops_cut 1 (fun K' hK50 => ?_)
                 try dsimp only [List.drop_succ_cons, List.drop_zero, List.take_succ_cons, List.take_zero]
                 simp only [go_sem, hb2, hb8, hb17, hb21]
                 repeat with_reducible refine zN ?_
                 refine hK50 _ ?_
                 refine adops_nil ?_
                 refine athen_n ?_
                 refine zV [(2, .bp 2 0), (4, .bp 4 0), (7, .bp 7 0), (8, .int .i64 st3.2), (31, .sl Y0 s.2), (32, .int .i64 (s.2.length : Int)), (33, .int .i64 st2.2), (39, .int .i64 s.1), (40, .int .i64 st3.2), (55, .bool false)] [(2, .box 71 (.int .i64 0 :: (.cv (.slice none 0 0) :: (cellsX T69 (Ty.dflt T69))))), (4, .box 71 (.int .i64 s.1 :: (.sl Y0 s.2 :: (cellsX T69 st3.1)))), (7, .box 66 [.int .i64 (s.2.getD st2.2.toNat (0, 0, 0)).1, .int .i64 (s.2.getD st2.2.toNat (0, 0, 0)).2.1, .int .i64 (s.2.getD st2.2.toNat (0, 0, 0)).2.2])] gt ?_
                 as_aux_lemma =>
                  refine AW.cond (b := false) rfl (fun hb51 => by cases hb51) (fun _ => ?_)
                  refine zm ?_
                  refine athen_n ?_
                  refine AW.ops ?_
                  obtain ⟨c52, h⟩ := ck_some.1 h
                  refine zA [(2, .bp 2 0), (4, .bp 4 0), (7, .bp 7 0), (31, .sl Y0 s.2), (32, .int .i64 (s.2.length : Int)), (33, .int .i64 st2.2), (39, .int .i64 s.1), (40, .int .i64 (st3.2 + 1))] [(2, .box 71 (.int .i64 0 :: (.cv (.slice none 0 0) :: (cellsX T69 (Ty.dflt T69))))), (4, .box 71 (.int .i64 s.1 :: (.sl Y0 s.2 :: (cellsX T69 st3.1)))), (7, .box 66 [.int .i64 (s.2.getD st2.2.toNat (0, 0, 0)).1, .int .i64 (s.2.getD st2.2.toNat (0, 0, 0)).2.1, .int .i64 (s.2.getD st2.2.toNat (0, 0, 0)).2.2])] ?_
                  obtain rfl := Option.some.inj h
                  exact ⟨_, rfl, zL [] [] []⟩
         ·refine AW.exit ?_
          refine athen_e ?_
          obtain rfl := Option.some.inj h
          rw [← hd14 _ rfl] at ho13
          have h := ho13
          refine athen_e ?_
          refine ablock_s ?_
          refine ablock_n ?_
          refine athen_n ?_
          exact AW.weaken (zL [] [] []) (hk_refine_frameOf_k3 _ h)
      ·refine AW.exit ?_
       refine athen_e ?_
       obtain rfl := Option.some.inj h
       rw [← hd5 _ rfl] at ho4
       have h := ho4
       refine athen_e ?_
       refine ablock_s ?_
       refine athen_n ?_
       exact AW.weaken (zL [] [] []) (hk_refine_frameOf_k2 _ h)
  ·refine AW.seq ?_
   refine zo ?_
   refine zB [(2, .bp 2 0), (4, .bp 4 0), (17, .int .i64 s.1), (18, .int .i64 0)] [(2, .box 71 (.int .i64 0 :: (.cv (.slice none 0 0) :: (cellsX T69 (Ty.dflt T69))))), (4, .box 71 (.int .i64 s.1 :: (.sl Y0 s.2 :: (cellsX T69 (Ty.dflt T69)))))] ?_
   refine AW.block ?_
   obtain ⟨rv57, hw53, ho54⟩ := Option.bind_eq_some_iff.1 h
   refine AW.loopO (refine_frameOf_b1 s) (fun st1 => ⟨fr [(2, .bp 2 0), (4, .bp 4 0), (17, .int .i64 s.1), (18, .int .i64 st1.2)], hpGet [(2, .box 71 (.int .i64 0 :: (.cv (.slice none 0 0) :: (cellsX T69 (Ty.dflt T69))))), (4, .box 71 (.int .i64 s.1 :: (.sl Y0 s.2 :: (cellsX T69 st1.1))))], gt⟩) ((Ty.dflt T69), 0) hw53 (zL [] [] []) ?_
   as_aux_lemma =>
    intro st1 x56 h hd55
    unfold refine_frameOf_b1 at h
    refine zo ?_
    refine zB [(2, .bp 2 0), (4, .bp 4 0), (17, .int .i64 s.1), (18, .int .i64 st1.2), (19, .bool (decide (st1.2 < s.1)))] [(2, .box 71 (.int .i64 0 :: (.cv (.slice none 0 0) :: (cellsX T69 (Ty.dflt T69))))), (4, .box 71 (.int .i64 s.1 :: (.sl Y0 s.2 :: (cellsX T69 st1.1))))] ?_
    refine AW.seq ?_
    refine zQ h (fun hb58 h => ?_) (fun hb58 h => ?_)
    ·refine zk ?_
     refine AW.seq ?_
     refine AW.block ?_
     refine zo ?_
     refine zB [(2, .bp 2 0), (4, .bp 4 0), (5, .int .i64 st1.2), (17, .int .i64 s.1), (18, .int .i64 st1.2)] [(2, .box 71 (.int .i64 0 :: (.cv (.slice none 0 0) :: (cellsX T69 (Ty.dflt T69))))), (4, .box 71 (.int .i64 s.1 :: (.sl Y0 s.2 :: (cellsX T69 st1.1))))] ?_
     refine AW.draw tab_ok mixed_ok [(7, [4])] [] (by decide) (by kernel_rfl) ?_
     as_aux_lemma =>
      refine adops_cut 3 (fun K' hK59 => ?_)
      try dsimp only [List.drop_succ_cons, List.drop_zero, List.take_succ_cons, List.take_zero]
      simp only [go_sem, hb2, hb58]
      repeat with_reducible refine zN ?_
      refine hK59 _ ?_
      as_aux_lemma =>
       obtain ⟨v0_2, hv60, h⟩ := Option.bind_eq_some_iff.1 h
       refine adops.call (by first | trivial | rfl) rfl rfl rfl (fun _ h => h) [] [] (hc_refine_frame_led (s, st1.1) st1.2 hv60) rfl (by (simp only [go_sem, hb2, hb58]) <;> (with_reducible and_intros) <;> first | assumption | rfl | omega | (unfold maxLen; omega)) (by (simp only [go_sem, hb2, hb58]) <;> (with_reducible and_intros) <;> first | assumption | rfl | omega | (unfold maxLen; omega)) rfl ?_
       obtain ⟨c62, h⟩ := ck_some.1 h
       obtain ⟨c63, h⟩ := ck_some.1 h
       have hx64 : ((st1.2.toNat * 4) + 0) < 24 := by omega
       refine adops_cut 4 (fun K' hK61 => ?_)
       try dsimp only [List.drop_succ_cons, List.drop_zero, List.take_succ_cons, List.take_zero]
       simp only [go_sem, hb2, hb58, hx64]
       repeat with_reducible refine zN ?_
       refine hK61 _ ?_
       refine adops_nil ?_
       refine ablock_n ?_
       refine athen_n ?_
       refine zV [(2, .bp 2 0), (4, .bp 4 0), (17, .int .i64 s.1), (18, .int .i64 st1.2)] [(2, .box 71 (.int .i64 0 :: (.cv (.slice none 0 0) :: (cellsX T69 (Ty.dflt T69))))), (4, .box 71 (.int .i64 s.1 :: (.sl Y0 s.2 :: (cellsX T69 (setInt T69 st1.1 ((st1.2.toNat * 4) + 0) v0_2)))))] gt ?_
       as_aux_lemma =>
        refine AW.ops ?_
        obtain ⟨c65, h⟩ := ck_some.1 h
        refine zA [(2, .bp 2 0), (4, .bp 4 0), (17, .int .i64 s.1), (18, .int .i64 (st1.2 + 1))] [(2, .box 71 (.int .i64 0 :: (.cv (.slice none 0 0) :: (cellsX T69 (Ty.dflt T69))))), (4, .box 71 (.int .i64 s.1 :: (.sl Y0 s.2 :: (cellsX T69 (setInt T69 st1.1 ((st1.2.toNat * 4) + 0) v0_2)))))] ?_
        obtain rfl := Option.some.inj h
        exact ⟨_, rfl, zL [] [] []⟩
    ·refine AW.exit ?_
     refine athen_e ?_
     obtain rfl := Option.some.inj h
     rw [← hd55 _ rfl] at ho54
     have h := ho54
     refine athen_e ?_
     refine ablock_s ?_
     refine athen_n ?_
     exact AW.weaken (zL [] [] []) (hk_refine_frameOf_k1 _ h)

theorem hc_refine_twoOf (c : Int × (List (Int × Int × Int))) (a : Int × (List (Int × Int × Int))) {r : Int × (List (Int × Int × Int)) × (El T69) × Int × (List (Int × Int × Int)) × (El T69) × Int} (h : refine_twoOf c a = some r) : HC Try.prog 80 [] [.agg [.int .i64 c.1, .sl Y0 c.2], .agg [.int .i64 a.1, .sl Y0 a.2]] [] (.tup [.agg (.int .i64 r.1 :: (.sl Y0 r.2.1 :: (cellsX T69 r.2.2.1 ++ (.int .i64 r.2.2.2.1 :: (.sl Y0 r.2.2.2.2.1 :: (cellsX T69 r.2.2.2.2.2.1)))))), .int .i64 r.2.2.2.2.2.2]) := by
 unfold refine_twoOf at h
 refine zH Try.func80 [.cell 4 90, .tmp 5] 30 ?_
 refine zo ?_
 refine zB [(2, .bp 2 0), (3, .bp 3 0), (4, .bp 4 0)] [(2, .box 24 [.int .i64 c.1, .sl Y0 c.2]), (3, .box 24 [.int .i64 a.1, .sl Y0 a.2]), (4, .box 90 (.int .i64 0 :: (.cv (.slice none 0 0) :: (cellsX T69 (Ty.dflt T69) ++ (.int .i64 0 :: (.cv (.slice none 0 0) :: (cellsX T69 (Ty.dflt T69))))))))] ?_
 refine zo ?_
 refine zS 1 [(3, .bp 3 0), (4, .bp 4 0), (10, .agg [.int .i64 c.1, .sl Y0 c.2])] [(3, .box 24 [.int .i64 a.1, .sl Y0 a.2]), (4, .box 90 (.int .i64 0 :: (.cv (.slice none 0 0) :: (cellsX T69 (Ty.dflt T69) ++ (.int .i64 0 :: (.cv (.slice none 0 0) :: (cellsX T69 (Ty.dflt T69))))))))] ?_
 obtain ⟨v0, hv1, h⟩ := Option.bind_eq_some_iff.1 h
 refine zC [] [] (hc_refine_frameOf c hv1) [(3, .bp 3 0), (4, .bp 4 0), (11, .tup [.agg (.int .i64 v0.1 :: (.sl Y0 v0.2.1 :: (cellsX T69 v0.2.2.1))), .int .i64 v0.2.2.2])] [(3, .box 24 [.int .i64 a.1, .sl Y0 a.2]), (4, .box 90 (.int .i64 0 :: (.cv (.slice none 0 0) :: (cellsX T69 (Ty.dflt T69) ++ (.int .i64 0 :: (.cv (.slice none 0 0) :: (cellsX T69 (Ty.dflt T69))))))))] ?_
 refine zS 5 [(3, .bp 3 0), (4, .bp 4 0), (6, .bp 6 0), (13, .int .i64 v0.2.2.2)] [(3, .box 24 [.int .i64 a.1, .sl Y0 a.2]), (4, .box 90 (.int .i64 0 :: (.cv (.slice none 0 0) :: (cellsX T69 (Ty.dflt T69) ++ (.int .i64 0 :: (.cv (.slice none 0 0) :: (cellsX T69 (Ty.dflt T69)))))))), (6, .box 71 (.int .i64 v0.1 :: (.sl Y0 v0.2.1 :: (cellsX T69 v0.2.2.1))))] ?_
 refine zB [(3, .bp 3 0), (4, .bp 4 0), (6, .bp 6 0), (7, .int .i64 v0.2.2.2)] [(3, .box 24 [.int .i64 a.1, .sl Y0 a.2]), (4, .box 90 (.int .i64 0 :: (.cv (.slice none 0 0) :: (cellsX T69 (Ty.dflt T69) ++ (.int .i64 0 :: (.cv (.slice none 0 0) :: (cellsX T69 (Ty.dflt T69)))))))), (6, .box 71 (.int .i64 v0.1 :: (.sl Y0 v0.2.1 :: (cellsX T69 v0.2.2.1))))] ?_
 refine AW.seq ?_
 refine zo ?_
 refine zB [(3, .bp 3 0), (4, .bp 4 0), (6, .bp 6 0), (7, .int .i64 v0.2.2.2), (15, .bool (!(decide (v0.2.2.2 = 0))))] [(3, .box 24 [.int .i64 a.1, .sl Y0 a.2]), (4, .box 90 (.int .i64 0 :: (.cv (.slice none 0 0) :: (cellsX T69 (Ty.dflt T69) ++ (.int .i64 0 :: (.cv (.slice none 0 0) :: (cellsX T69 (Ty.dflt T69)))))))), (6, .box 71 (.int .i64 v0.1 :: (.sl Y0 v0.2.1 :: (cellsX T69 v0.2.2.1))))] ?_
 refine zQ h (fun hb2 h => ?_) (fun hb2 h => ?_)
 ·refine zo ?_
  refine zB [(4, .bp 4 0), (5, .int .i64 v0.2.2.2)] [(4, .box 90 (.int .i64 0 :: (.cv (.slice none 0 0) :: (cellsX T69 (Ty.dflt T69) ++ (.int .i64 0 :: (.cv (.slice none 0 0) :: (cellsX T69 (Ty.dflt T69))))))))] ?_
  refine zr ?_
  obtain rfl := Option.some.inj h
  exact zR [] [] []
 ·refine zk ?_
  refine zo ?_
  refine zS 1 [(4, .bp 4 0), (6, .bp 6 0), (19, .agg [.int .i64 a.1, .sl Y0 a.2])] [(4, .box 90 (.int .i64 0 :: (.cv (.slice none 0 0) :: (cellsX T69 (Ty.dflt T69) ++ (.int .i64 0 :: (.cv (.slice none 0 0) :: (cellsX T69 (Ty.dflt T69)))))))), (6, .box 71 (.int .i64 v0.1 :: (.sl Y0 v0.2.1 :: (cellsX T69 v0.2.2.1))))] ?_
  obtain ⟨v0_2, hv3, h⟩ := Option.bind_eq_some_iff.1 h
  refine zC [] [] (hc_refine_frameOf a hv3) [(4, .bp 4 0), (6, .bp 6 0), (20, .tup [.agg (.int .i64 v0_2.1 :: (.sl Y0 v0_2.2.1 :: (cellsX T69 v0_2.2.2.1))), .int .i64 v0_2.2.2.2])] [(4, .box 90 (.int .i64 0 :: (.cv (.slice none 0 0) :: (cellsX T69 (Ty.dflt T69) ++ (.int .i64 0 :: (.cv (.slice none 0 0) :: (cellsX T69 (Ty.dflt T69)))))))), (6, .box 71 (.int .i64 v0.1 :: (.sl Y0 v0.2.1 :: (cellsX T69 v0.2.2.1))))] ?_
  refine zS 5 [(4, .bp 4 0), (6, .bp 6 0), (8, .bp 8 0), (22, .int .i64 v0_2.2.2.2)] [(4, .box 90 (.int .i64 0 :: (.cv (.slice none 0 0) :: (cellsX T69 (Ty.dflt T69) ++ (.int .i64 0 :: (.cv (.slice none 0 0) :: (cellsX T69 (Ty.dflt T69)))))))), (6, .box 71 (.int .i64 v0.1 :: (.sl Y0 v0.2.1 :: (cellsX T69 v0.2.2.1)))), (8, .box 71 (.int .i64 v0_2.1 :: (.sl Y0 v0_2.2.1 :: (cellsX T69 v0_2.2.2.1))))] ?_
  refine zB [(4, .bp 4 0), (6, .bp 6 0), (7, .int .i64 v0_2.2.2.2), (8, .bp 8 0)] [(4, .box 90 (.int .i64 0 :: (.cv (.slice none 0 0) :: (cellsX T69 (Ty.dflt T69) ++ (.int .i64 0 :: (.cv (.slice none 0 0) :: (cellsX T69 (Ty.dflt T69)))))))), (6, .box 71 (.int .i64 v0.1 :: (.sl Y0 v0.2.1 :: (cellsX T69 v0.2.2.1)))), (8, .box 71 (.int .i64 v0_2.1 :: (.sl Y0 v0_2.2.1 :: (cellsX T69 v0_2.2.2.1))))] ?_
  refine AW.seq ?_
  refine zo ?_
  refine zB [(4, .bp 4 0), (6, .bp 6 0), (7, .int .i64 v0_2.2.2.2), (8, .bp 8 0), (24, .bool (!(decide (v0_2.2.2.2 = 0))))] [(4, .box 90 (.int .i64 0 :: (.cv (.slice none 0 0) :: (cellsX T69 (Ty.dflt T69) ++ (.int .i64 0 :: (.cv (.slice none 0 0) :: (cellsX T69 (Ty.dflt T69)))))))), (6, .box 71 (.int .i64 v0.1 :: (.sl Y0 v0.2.1 :: (cellsX T69 v0.2.2.1)))), (8, .box 71 (.int .i64 v0_2.1 :: (.sl Y0 v0_2.2.1 :: (cellsX T69 v0_2.2.2.1))))] ?_
  refine zQ h (fun hb4 h => ?_) (fun hb4 h => ?_)
  ·refine zo ?_
   refine zB [(4, .bp 4 0), (5, .int .i64 v0_2.2.2.2)] [(4, .box 90 (.int .i64 0 :: (.cv (.slice none 0 0) :: (cellsX T69 (Ty.dflt T69) ++ (.int .i64 0 :: (.cv (.slice none 0 0) :: (cellsX T69 (Ty.dflt T69))))))))] ?_
   refine zr ?_
   obtain rfl := Option.some.inj h
   exact zR [] [] []
  ·refine zk ?_
   refine zo ?_
   refine zB [(4, .bp 4 0), (5, .int .i64 0)] [(4, .box 90 (.int .i64 v0.1 :: (.sl Y0 v0.2.1 :: (cellsX T69 v0.2.2.1 ++ (.int .i64 v0_2.1 :: (.sl Y0 v0_2.2.1 :: (cellsX T69 v0_2.2.2.1)))))))] ?_
   refine AW.ret ?_
   obtain rfl := Option.some.inj h
   exact zR [] [] []

theorem hc_refine_frame_begin (f : (Int × (List (Int × Int × Int))) × (El T69)) {r : Unit} (h : refine_frame_begin f = some r) : HC Try.prog 109 [] [.agg (.int .i64 f.1.1 :: (.sl Y0 f.1.2 :: (cellsX T69 f.2)))] [] (.int .u8 (intAt T69 f.2 0)) := by
 unfold refine_frame_begin at h
 refine zH Try.func109 [.tmp 2] 7 ?_
 refine zo ?_
 refine zB [(1, .bp 1 0)] [(1, .box 71 (.int .i64 f.1.1 :: (.sl Y0 f.1.2 :: (cellsX T69 f.2))))] ?_
 refine zo ?_
 have hx1 : 0 < 24 := by omega
 refine zB [(2, .int .u8 (intAt T69 f.2 0))] [] ?_
 refine AW.ret ?_
 obtain rfl := Option.some.inj h
 exact zR [] [] []

theorem hc_refine_set_states (s : Int) {r : (List Int)} (h : refine_set_states s = some r) : HC Try.prog 61 [] [.int .u8 s] [(2000, .arr 3 (.int .i64) r)] (.own 2000) := by
 unfold refine_set_states at h
 refine zH Try.func61 [.tmp 2] 17 ?_
 refine zo ?_
 refine zB [(0, .int .u8 s)] [] ?_
 refine zo ?_
 refine zB [(0, .int .u8 s), (3, .cv (.slice none 0 0))] [] ?_
 refine AW.have1 (fun b1 : (List Int) => refine_set_states_k1 b1 = some r) (fun b1 => ⟨fr [(3, .own 14)], hpGet [(14, .arr 3 (.int .i64) b1)], gt⟩) (fun b1 h => ?_) (fun hk_refine_set_states_k1 => ?_)
 ·as_aux_lemma =>
   unfold refine_set_states_k1 at h
   refine zo ?_
   refine zB [(2, .own 14)] [(14, .arr 3 (.int .i64) b1)] ?_
   refine AW.ret ?_
   obtain rfl := Option.some.inj h
   exact zR [] [] [(2000, 14)]
 ·refine AW.seq ?_
  refine zo ?_
  refine zB [(0, .int .u8 s), (3, .cv (.slice none 0 0)), (5, .int .i64 0)] [] ?_
  refine AW.block ?_
  obtain ⟨rv5, hw1, ho2⟩ := Option.bind_eq_some_iff.1 h
  refine AW.loopO (refine_set_states_b1 s) (fun st1 => ⟨fr [(0, .int .u8 s), (3, .own 14), (5, .int .i64 st1.2)], hpGet [(14, .arr 3 (.int .i64) st1.1)], gt⟩) ([], 0) hw1 (zL [] [14] []) ?_
  as_aux_lemma =>
   intro st1 x4 h hd3
   unfold refine_set_states_b1 at h
   refine zo ?_
   refine zB [(0, .int .u8 s), (3, .own 14), (5, .int .i64 st1.2), (6, .bool (decide (st1.2 < 6)))] [(14, .arr 3 (.int .i64) st1.1)] ?_
   refine AW.seq ?_
   refine zQ h (fun hb6 h => ?_) (fun hb6 h => ?_)
   ·refine zk ?_
    refine AW.seq ?_
    refine AW.block ?_
    refine zo ?_
    refine zB [(0, .int .u8 s), (3, .own 14), (4, .int .i64 st1.2), (5, .int .i64 st1.2)] [(14, .arr 3 (.int .i64) st1.1)] ?_
    refine zo ?_
    refine zS 2 [(0, .int .u8 s), (3, .own 14), (4, .int .i64 st1.2), (5, .int .i64 st1.2), (8, .int .u8 s), (9, .int .i64 st1.2)] [(14, .arr 3 (.int .i64) st1.1)] ?_
    obtain ⟨v0, hv7, h⟩ := Option.bind_eq_some_iff.1 h
    refine zC [] [] (hc_refine_set_has s st1.2 hv7) [(0, .int .u8 s), (3, .own 14), (4, .int .i64 st1.2), (5, .int .i64 st1.2), (10, .bool (decide ((iand .u8 (ishr .u8 s st1.2) 1) = 1)))] [(14, .arr 3 (.int .i64) st1.1)] ?_
    refine zB [(0, .int .u8 s), (3, .own 14), (4, .int .i64 st1.2), (5, .int .i64 st1.2), (10, .bool (decide ((iand .u8 (ishr .u8 s st1.2) 1) = 1)))] [(14, .arr 3 (.int .i64) st1.1)] ?_
    refine zQ h (fun hb8 h => ?_) (fun hb8 h => ?_)
    ·refine AW.ops ?_
     obtain ⟨c9, h⟩ := ck_some.1 h
     refine zA [(0, .int .u8 s), (3, .own 14), (5, .int .i64 st1.2)] [(14, .arr 3 (.int .i64) (st1.1 ++ [st1.2]))] ?_
     refine ablock_n ?_
     refine athen_n ?_
     refine AW.ops ?_
     obtain ⟨c10, h⟩ := ck_some.1 h
     refine zA [(0, .int .u8 s), (3, .own 14), (5, .int .i64 (st1.2 + 1))] [(14, .arr 3 (.int .i64) (st1.1 ++ [st1.2]))] ?_
     obtain rfl := Option.some.inj h
     exact ⟨_, rfl, zL [] [] []⟩
    ·refine zm ?_
     refine athen_n ?_
     refine AW.ops ?_
     obtain ⟨c11, h⟩ := ck_some.1 h
     refine zA [(0, .int .u8 s), (3, .own 14), (5, .int .i64 (st1.2 + 1))] [(14, .arr 3 (.int .i64) st1.1)] ?_
     obtain rfl := Option.some.inj h
     exact ⟨_, rfl, zL [] [] []⟩
   ·refine AW.exit ?_
    refine athen_e ?_
    obtain rfl := Option.some.inj h
    rw [← hd3 _ rfl] at ho2
    have h := ho2
    refine athen_e ?_
    refine ablock_s ?_
    refine athen_n ?_
    exact AW.weaken (zL [] [] []) (hk_refine_set_states_k1 _ h)

theorem hc_refine_frame_after (f : (Int × (List (Int × Int × Int))) × (El T69)) (from0 : Int) (label : Int) {r : Int} (h : refine_frame_after f from0 label = some r) : HC Try.prog 110 [] [.agg (.int .i64 f.1.1 :: (.sl Y0 f.1.2 :: (cellsX T69 f.2))), .int .u8 from0, .int .i64 label] [] (.int .u8 r) := by
 unfold refine_frame_after at h
 refine zH Try.func110 [.tmp 6] 27 ?_
 refine zo ?_
 refine zB [(1, .int .u8 from0), (2, .int .i64 label), (3, .bp 3 0)] [(3, .box 71 (.int .i64 f.1.1 :: (.sl Y0 f.1.2 :: (cellsX T69 f.2))))] ?_
 refine zo ?_
 refine zB [(1, .int .u8 from0), (2, .int .i64 label), (3, .bp 3 0), (7, .int .u8 0)] [(3, .box 71 (.int .i64 f.1.1 :: (.sl Y0 f.1.2 :: (cellsX T69 f.2))))] ?_
 refine AW.have1 (fun b1 : Int => refine_frame_after_k1 b1 = some r) (fun b1 => ⟨fr [(7, .int .u8 b1)], hpGet [], gt⟩) (fun b1 h => ?_) (fun hk_refine_frame_after_k1 => ?_)
 ·as_aux_lemma =>
   unfold refine_frame_after_k1 at h
   refine zo ?_
   refine zB [(6, .int .u8 b1)] [] ?_
   refine AW.ret ?_
   obtain rfl := Option.some.inj h
   exact zR [] [] []
 ·refine AW.seq ?_
  refine zo ?_
  refine zS 1 [(2, .int .i64 label), (3, .bp 3 0), (7, .int .u8 0), (10, .int .u8 from0)] [(3, .box 71 (.int .i64 f.1.1 :: (.sl Y0 f.1.2 :: (cellsX T69 f.2))))] ?_
  obtain ⟨v0, hv1, h⟩ := Option.bind_eq_some_iff.1 h
  refine zC [] [] (hc_refine_set_states from0 hv1) [(2, .int .i64 label), (3, .bp 3 0), (7, .int .u8 0), (11, .own 21000)] [(3, .box 71 (.int .i64 f.1.1 :: (.sl Y0 f.1.2 :: (cellsX T69 f.2)))), (21000, .arr 3 (.int .i64) v0)] ?_
  refine zB [(2, .int .i64 label), (3, .bp 3 0), (7, .int .u8 0), (11, .own 21000), (12, .int .i64 (v0.length : Int)), (13, .int .i64 0)] [(3, .box 71 (.int .i64 f.1.1 :: (.sl Y0 f.1.2 :: (cellsX T69 f.2)))), (21000, .arr 3 (.int .i64) v0)] ?_
  refine AW.block ?_
  obtain ⟨rv6, hw2, ho3⟩ := Option.bind_eq_some_iff.1 h
  refine AW.loopO (refine_frame_after_b1 f label v0) (fun st1 => ⟨fr [(2, .int .i64 label), (3, .bp 3 0), (7, .int .u8 st1.1), (11, .own 21000), (12, .int .i64 (v0.length : Int)), (13, .int .i64 st1.2)], hpGet [(3, .box 71 (.int .i64 f.1.1 :: (.sl Y0 f.1.2 :: (cellsX T69 f.2)))), (21000, .arr 3 (.int .i64) v0)], gt⟩) (0, 0) hw2 (zL [] [] []) ?_
  as_aux_lemma =>
   intro st1 x5 h hd4
   unfold refine_frame_after_b1 at h
   refine zo ?_
   refine zB [(2, .int .i64 label), (3, .bp 3 0), (7, .int .u8 st1.1), (11, .own 21000), (12, .int .i64 (v0.length : Int)), (13, .int .i64 st1.2), (14, .bool (decide (st1.2 < (v0.length : Int))))] [(3, .box 71 (.int .i64 f.1.1 :: (.sl Y0 f.1.2 :: (cellsX T69 f.2)))), (21000, .arr 3 (.int .i64) v0)] ?_
   refine AW.seq ?_
   refine zQ h (fun hb7 h => ?_) (fun hb7 h => ?_)
   ·refine zk ?_
    refine AW.seq ?_
    refine AW.block ?_
    refine zo ?_
    obtain ⟨c8, h⟩ := ck_some.1 h
    obtain ⟨c9, h⟩ := ck_some.1 h
    refine zB [(2, .int .i64 label), (3, .bp 3 0), (7, .int .u8 st1.1), (9, .int .i64 (v0.getD st1.2.toNat 0)), (11, .own 21000), (12, .int .i64 (v0.length : Int)), (13, .int .i64 st1.2)] [(3, .box 71 (.int .i64 f.1.1 :: (.sl Y0 f.1.2 :: (cellsX T69 f.2)))), (21000, .arr 3 (.int .i64) v0)] ?_
    refine AW.ops ?_
    obtain ⟨c10, h⟩ := ck_some.1 h
    obtain ⟨c11, h⟩ := ck_some.1 h
    refine zS 5 [(2, .int .i64 label), (3, .bp 3 0), (11, .own 21000), (12, .int .i64 (v0.length : Int)), (13, .int .i64 st1.2), (17, .int .u8 st1.1), (19, .int .i64 label), (21, .bp 3 (2 + (v0.getD st1.2.toNat 0).toNat * 4))] [(3, .box 71 (.int .i64 f.1.1 :: (.sl Y0 f.1.2 :: (cellsX T69 f.2)))), (21000, .arr 3 (.int .i64) v0)] ?_
    obtain ⟨c12, h⟩ := ck_some.1 h
    obtain ⟨c13, h⟩ := ck_some.1 h
    have hx14 : (((v0.getD st1.2.toNat 0).toNat * 4) + label.toNat * 1) < 24 := by omega
    refine zA [(2, .int .i64 label), (3, .bp 3 0), (7, .int .u8 (ior .u8 st1.1 (intAt T69 f.2 (((v0.getD st1.2.toNat 0).toNat * 4) + label.toNat * 1)))), (11, .own 21000), (12, .int .i64 (v0.length : Int)), (13, .int .i64 st1.2)] [(3, .box 71 (.int .i64 f.1.1 :: (.sl Y0 f.1.2 :: (cellsX T69 f.2)))), (21000, .arr 3 (.int .i64) v0)] ?_
    refine ablock_n ?_
    refine athen_n ?_
    refine AW.ops ?_
    obtain ⟨c15, h⟩ := ck_some.1 h
    refine zA [(2, .int .i64 label), (3, .bp 3 0), (7, .int .u8 (ior .u8 st1.1 (intAt T69 f.2 (((v0.getD st1.2.toNat 0).toNat * 4) + label.toNat * 1)))), (11, .own 21000), (12, .int .i64 (v0.length : Int)), (13, .int .i64 (st1.2 + 1))] [(3, .box 71 (.int .i64 f.1.1 :: (.sl Y0 f.1.2 :: (cellsX T69 f.2)))), (21000, .arr 3 (.int .i64) v0)] ?_
    obtain rfl := Option.some.inj h
    exact ⟨_, rfl, zL [] [] []⟩
   ·refine AW.exit ?_
    refine athen_e ?_
    obtain rfl := Option.some.inj h
    rw [← hd4 _ rfl] at ho3
    have h := ho3
    refine athen_e ?_
    refine ablock_s ?_
    refine athen_n ?_
    exact AW.weaken (zL [] [] []) (hk_refine_frame_after_k1 _ h)

theorem hc_slices_Clone (s : List Int) {r : (List Int)} (h : slices_Clone s = some r) : HC Try.prog 128 [] [.sl (.int .i64) s] [(2000, .arr 3 (.int .i64) r)] (.own 2000) := by
 unfold slices_Clone at h
 refine zH Try.func128 [.tmp 2] 8 ?_
 refine zo ?_
 refine zB [(0, .sl (.int .i64) s)] [] ?_
 refine AW.seq ?_
 refine zo ?_
 refine zS 1 [(0, .sl (.int .i64) s), (3, .sl (.int .i64) s)] [] ?_
 refine AO.nilEq (neg := false) tab_ok (by decide) rfl rfl tab_27 rfl rfl rfl (fun hnil1 => ?_) ?_
 ·have h : (some []) = some r := by
   first | (simp only [hnil1] at h ⊢; simpa [ck] using h) | (simp [hnil1, ck] at h ⊢; first | done | exact h)
  refine zT [(0, .sl (.int .i64) s), (4, .bool true)] [] gt ?_
  refine zB [(0, .sl (.int .i64) s), (4, .bool true)] [] ?_
  refine AW.cond (b := true) rfl (fun _ => ?_) (fun hb2 => by cases hb2)
  refine zo ?_
  refine zB [(2, .cv (.slice none 0 0))] [] ?_
  refine zr ?_
  obtain rfl := Option.some.inj h
  exact zR [] [2000] []
 ·refine zT [(0, .sl (.int .i64) s), (4, .bool false)] [] gt ?_
  refine zB [(0, .sl (.int .i64) s), (4, .bool false)] [] ?_
  refine AW.cond (b := false) rfl (fun hb3 => by cases hb3) (fun _ => ?_)
  refine zk ?_
  refine zo ?_
  obtain ⟨c4, h⟩ := ck_some.1 h
  refine zB [(2, .own 7)] [(7, .arr 3 (.int .i64) s)] ?_
  refine AW.ret ?_
  obtain rfl := Option.some.inj h
  exact zR [] [] [(2000, 7)]

theorem hc_refine_longer (trace : List Int) (label : Int) {r : (List Int)} (h : refine_longer trace label = some r) : HC Try.prog 112 [] [.sl (.int .i64) trace, .int .i64 label] [(2000, .arr 3 (.int .i64) r)] (.own 2000) := by
 unfold refine_longer at h
 refine zH Try.func112 [.tmp 4] 10 ?_
 refine zo ?_
 refine zB [(0, .sl (.int .i64) trace), (1, .int .i64 label)] [] ?_
 refine zo ?_
 refine zS 1 [(1, .int .i64 label), (5, .sl (.int .i64) trace)] [] ?_
 obtain ⟨v0, hv1, h⟩ := Option.bind_eq_some_iff.1 h
 refine zC [] [] (hc_slices_Clone trace hv1) [(1, .int .i64 label), (6, .own 16000)] [(16000, .arr 3 (.int .i64) v0)] ?_
 obtain ⟨c2, h⟩ := ck_some.1 h
 refine zB [(4, .own 9)] [(9, .arr 3 (.int .i64) (v0 ++ [label]))] ?_
 refine AW.ret ?_
 obtain rfl := Option.some.inj h
 exact zR [] [] [(2000, 9)]

end Go.Proofs.Ytifleoceebaooaa
