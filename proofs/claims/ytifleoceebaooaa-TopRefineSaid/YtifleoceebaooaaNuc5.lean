/-
  Made by wip/tool/dc.py out of the print of the program: contracts.
-/
import Derived.Test.YtifleoceebaooaaRfp
import Derived.Test.YtifleoceebaooaaShr
import Derived.Test.YtifleoceebaooaaAvd
import Derived.Test.YtifleoceebaooaaNuc1
import Derived.Test.YtifleoceebaooaaNuc2
namespace Go.Proofs.Ytifleoceebaooaa
open Go.RowKit

set_option linter.unusedSimpArgs false
set_option linter.unusedVariables false
set_option linter.constructorNameAsVariable false

set_option maxRecDepth 100000
set_option maxHeartbeats 2000000

theorem hc_refine_relation_list (r0 : (El T94)) {r : (List (Int × Int))} (h : refine_relation_list r0 = some r) : HC Try.prog 82 [] [.agg (cellsX T94 r0)] [(2000, .arr 58 (.pair (.int .i64) (.int .i64)) r)] (.own 2000) := by
 unfold refine_relation_list at h
 refine zH Try.func82 [.tmp 2] 29 ?_
 refine zo ?_
 refine zB [(1, .bp 1 0)] [(1, .box 94 (cellsX T94 r0))] ?_
 refine zo ?_
 refine zB [(1, .bp 1 0), (3, .cv (.slice none 0 0))] [(1, .box 94 (cellsX T94 r0))] ?_
 refine AW.have1 (fun b2_2 : (List (Int × Int)) => refine_relation_list_k1 b2_2 = some r) (fun b2_2 => ⟨fr [(3, .own 25)], hpGet [(25, .arr 58 (.pair (.int .i64) (.int .i64)) b2_2)], gt⟩) (fun b2_2 h => ?_) (fun hk_refine_relation_list_k1 => ?_)
 ·as_aux_lemma =>
   unfold refine_relation_list_k1 at h
   refine zo ?_
   refine zB [(2, .own 25)] [(25, .arr 58 (.pair (.int .i64) (.int .i64)) b2_2)] ?_
   refine AW.ret ?_
   obtain rfl := Option.some.inj h
   exact zR [] [] [(2000, 25)]
 ·refine AW.seq ?_
  refine zo ?_
  refine zB [(3, .cv (.slice none 0 0)), (8, .agg (cellsX T94 r0)), (9, .int .i64 0)] [] ?_
  refine AW.block ?_
  obtain ⟨rv5, hw1, ho2⟩ := Option.bind_eq_some_iff.1 h
  refine AW.loopO (refine_relation_list_b1 r0) (fun st1 => ⟨fr [(3, .own 25), (8, .agg (cellsX T94 r0)), (9, .int .i64 st1.2)], hpGet [(25, .arr 58 (.pair (.int .i64) (.int .i64)) st1.1)], gt⟩) ([], 0) hw1 (zL [] [25] []) ?_
  as_aux_lemma =>
   intro st1 x4 h hd3
   unfold refine_relation_list_b1 at h
   refine zo ?_
   refine zB [(3, .own 25), (8, .agg (cellsX T94 r0)), (9, .int .i64 st1.2), (10, .bool (decide (st1.2 < 6)))] [(25, .arr 58 (.pair (.int .i64) (.int .i64)) st1.1)] ?_
   refine AW.seq ?_
   refine zQ h (fun hb6 h => ?_) (fun hb6 h => ?_)
   ·refine zk ?_
    refine AW.have1 (fun b2 : (List (Int × Int)) => refine_relation_list_k2 st1 b2 = some x4) (fun b2 => ⟨fr [(3, .own 25), (8, .agg (cellsX T94 r0)), (9, .int .i64 st1.2)], hpGet [(25, .arr 58 (.pair (.int .i64) (.int .i64)) b2)], gt⟩) (fun b2 h => ?_) (fun hk_refine_relation_list_k2 => ?_)
    ·as_aux_lemma =>
      unfold refine_relation_list_k2 at h
      refine AW.ops ?_
      obtain ⟨c7, h⟩ := ck_some.1 h
      refine zA [(3, .own 25), (8, .agg (cellsX T94 r0)), (9, .int .i64 (st1.2 + 1))] [(25, .arr 58 (.pair (.int .i64) (.int .i64)) b2)] ?_
      obtain rfl := Option.some.inj h
      exact ⟨_, rfl, zL [] [] []⟩
    ·refine AW.seq ?_
     refine AW.block ?_
     refine zo ?_
     refine zS 1 [(3, .own 25), (8, .agg (cellsX T94 r0)), (9, .int .i64 st1.2), (11, .int .i64 st1.2)] [(25, .arr 58 (.pair (.int .i64) (.int .i64)) st1.1)] ?_
     obtain ⟨c8, h⟩ := ck_some.1 h
     obtain ⟨c9, h⟩ := ck_some.1 h
     have hx10 : (st1.2.toNat * 1) < 6 := by omega
     refine AO.idxA tab_ok (by decide) rfl rfl tab_94 rfl tab_67 rfl rfl (by first | assumption | omega | (simp only [go_sem, hb6, hx10]) <;> (with_reducible and_intros) <;> first | assumption | rfl | omega | (unfold maxLen; omega)) (by first | assumption | omega | (simp only [go_sem, hb6, hx10]) <;> (with_reducible and_intros) <;> first | assumption | rfl | omega | (unfold maxLen; omega)) (by first | assumption | omega | (simp only [go_sem, hb6, hx10]) <;> (with_reducible and_intros) <;> first | assumption | rfl | omega | (unfold maxLen; omega)) (.inr rfl) (v := .int .u8 (intAt T94 r0 (st1.2.toNat * 1))) (by first | assumption | omega | (simp only [go_sem, hb6, hx10]) <;> (with_reducible and_intros) <;> first | assumption | rfl | omega | (unfold maxLen; omega)) ?_
     refine zT [(3, .own 25), (8, .agg (cellsX T94 r0)), (9, .int .i64 st1.2), (11, .int .i64 st1.2), (12, .int .u8 (intAt T94 r0 (st1.2.toNat * 1)))] [(25, .arr 58 (.pair (.int .i64) (.int .i64)) st1.1)] gt ?_
     refine zB [(3, .own 25), (4, .int .i64 st1.2), (5, .int .u8 (intAt T94 r0 (st1.2.toNat * 1))), (8, .agg (cellsX T94 r0)), (9, .int .i64 st1.2)] [(25, .arr 58 (.pair (.int .i64) (.int .i64)) st1.1)] ?_
     refine zo ?_
     refine zS 1 [(3, .own 25), (4, .int .i64 st1.2), (8, .agg (cellsX T94 r0)), (9, .int .i64 st1.2), (13, .int .u8 (intAt T94 r0 (st1.2.toNat * 1)))] [(25, .arr 58 (.pair (.int .i64) (.int .i64)) st1.1)] ?_
     obtain ⟨v0, hv11, h⟩ := Option.bind_eq_some_iff.1 h
     refine zC [] [] (hc_refine_set_states (intAt T94 r0 (st1.2.toNat * 1)) hv11) [(3, .own 25), (4, .int .i64 st1.2), (8, .agg (cellsX T94 r0)), (9, .int .i64 st1.2), (14, .own 24000)] [(25, .arr 58 (.pair (.int .i64) (.int .i64)) st1.1), (24000, .arr 3 (.int .i64) v0)] ?_
     refine zB [(3, .own 25), (4, .int .i64 st1.2), (8, .agg (cellsX T94 r0)), (9, .int .i64 st1.2), (14, .own 24000), (15, .int .i64 (v0.length : Int)), (16, .int .i64 0)] [(25, .arr 58 (.pair (.int .i64) (.int .i64)) st1.1), (24000, .arr 3 (.int .i64) v0)] ?_
     refine AW.block ?_
     obtain ⟨rv16, hw12, ho13⟩ := Option.bind_eq_some_iff.1 h
     refine AW.loopO (refine_relation_list_b2 st1 v0) (fun st2 => ⟨fr [(3, .own 25), (4, .int .i64 st1.2), (8, .agg (cellsX T94 r0)), (9, .int .i64 st1.2), (14, .own 24000), (15, .int .i64 (v0.length : Int)), (16, .int .i64 st2.2)], hpGet [(25, .arr 58 (.pair (.int .i64) (.int .i64)) st2.1), (24000, .arr 3 (.int .i64) v0)], gt⟩) (st1.1, 0) hw12 (zL [] [] []) ?_
     as_aux_lemma =>
      intro st2 x15 h hd14
      unfold refine_relation_list_b2 at h
      refine zo ?_
      refine zB [(3, .own 25), (4, .int .i64 st1.2), (8, .agg (cellsX T94 r0)), (9, .int .i64 st1.2), (14, .own 24000), (15, .int .i64 (v0.length : Int)), (16, .int .i64 st2.2), (17, .bool (decide (st2.2 < (v0.length : Int))))] [(25, .arr 58 (.pair (.int .i64) (.int .i64)) st2.1), (24000, .arr 3 (.int .i64) v0)] ?_
      refine AW.seq ?_
      refine zQ h (fun hb17 h => ?_) (fun hb17 h => ?_)
      ·refine zk ?_
       refine AW.seq ?_
       refine AW.block ?_
       refine zo ?_
       obtain ⟨c18, h⟩ := ck_some.1 h
       obtain ⟨c19, h⟩ := ck_some.1 h
       refine zB [(3, .own 25), (4, .int .i64 st1.2), (7, .int .i64 (v0.getD st2.2.toNat 0)), (8, .agg (cellsX T94 r0)), (9, .int .i64 st1.2), (14, .own 24000), (15, .int .i64 (v0.length : Int)), (16, .int .i64 st2.2)] [(25, .arr 58 (.pair (.int .i64) (.int .i64)) st2.1), (24000, .arr 3 (.int .i64) v0)] ?_
       refine AW.ops ?_
       refine zS 5 [(4, .int .i64 st1.2), (8, .agg (cellsX T94 r0)), (9, .int .i64 st1.2), (14, .own 24000), (15, .int .i64 (v0.length : Int)), (16, .int .i64 st2.2), (20, .own 25), (24, .own 24)] [(24, .arr 58 (.pair (.int .i64) (.int .i64)) [(st1.2, (v0.getD st2.2.toNat 0))]), (25, .arr 58 (.pair (.int .i64) (.int .i64)) st2.1), (24000, .arr 3 (.int .i64) v0)] ?_
       obtain ⟨c20, h⟩ := ck_some.1 h
       refine zA [(3, .own 25), (4, .int .i64 st1.2), (8, .agg (cellsX T94 r0)), (9, .int .i64 st1.2), (14, .own 24000), (15, .int .i64 (v0.length : Int)), (16, .int .i64 st2.2)] [(25, .arr 58 (.pair (.int .i64) (.int .i64)) (st2.1 ++ [(st1.2, (v0.getD st2.2.toNat 0))])), (24000, .arr 3 (.int .i64) v0)] ?_
       refine ablock_n ?_
       refine athen_n ?_
       refine AW.ops ?_
       obtain ⟨c21, h⟩ := ck_some.1 h
       refine zA [(3, .own 25), (4, .int .i64 st1.2), (8, .agg (cellsX T94 r0)), (9, .int .i64 st1.2), (14, .own 24000), (15, .int .i64 (v0.length : Int)), (16, .int .i64 (st2.2 + 1))] [(25, .arr 58 (.pair (.int .i64) (.int .i64)) (st2.1 ++ [(st1.2, (v0.getD st2.2.toNat 0))])), (24000, .arr 3 (.int .i64) v0)] ?_
       obtain rfl := Option.some.inj h
       exact ⟨_, rfl, zL [] [] []⟩
      ·refine AW.exit ?_
       refine athen_e ?_
       obtain rfl := Option.some.inj h
       rw [← hd14 _ rfl] at ho13
       have h := ho13
       refine athen_e ?_
       refine ablock_s ?_
       refine ablock_n ?_
       refine athen_n ?_
       exact AW.weaken (zL [] [] []) (hk_refine_relation_list_k2 _ h)
   ·refine AW.exit ?_
    refine athen_e ?_
    obtain rfl := Option.some.inj h
    rw [← hd3 _ rfl] at ho2
    have h := ho2
    refine athen_e ?_
    refine ablock_s ?_
    refine athen_n ?_
    exact AW.weaken (zL [] [] []) (hk_refine_relation_list_k1 _ h)

theorem hc_refine_two_follows (t : ((Int × (List (Int × Int × Int))) × (El T69)) × (Int × (List (Int × Int × Int))) × (El T69)) (r0 : (El T94)) (x0 : Int) (y : Int) {r : Bool} (h : refine_two_follows t r0 x0 y = some r) : HC Try.prog 116 [] [.agg (.int .i64 t.1.1.1 :: (.sl Y0 t.1.1.2 :: (cellsX T69 t.1.2 ++ (.int .i64 t.2.1.1 :: (.sl Y0 t.2.1.2 :: (cellsX T69 t.2.2)))))), .agg (cellsX T94 r0), .int .i64 x0, .int .i64 y] [] (.bool r) := by
 unfold refine_two_follows at h
 refine zH Try.func116 [.tmp 8] 41 ?_
 refine zo ?_
 refine zB [(2, .int .i64 x0), (3, .int .i64 y), (4, .bp 4 0), (5, .bp 5 0)] [(4, .box 90 (.int .i64 t.1.1.1 :: (.sl Y0 t.1.1.2 :: (cellsX T69 t.1.2 ++ (.int .i64 t.2.1.1 :: (.sl Y0 t.2.1.2 :: (cellsX T69 t.2.2))))))), (5, .box 94 (cellsX T94 r0))] ?_
 refine AW.have1 (fun _ : Unit => refine_two_follows_k1 = some r) (fun _ => ⟨fr [], hpGet [], gt⟩) (fun _ h => ?_) (fun hk_refine_two_follows_k1 => ?_)
 ·as_aux_lemma =>
   unfold refine_two_follows_k1 at h
   refine zo ?_
   refine zB [(8, .bool true)] [] ?_
   refine AW.ret ?_
   obtain rfl := Option.some.inj h
   exact zR [] [] []
 ·refine AW.seq ?_
  refine zo ?_
  refine zS 5 [(2, .int .i64 x0), (3, .int .i64 y), (4, .bp 4 0), (5, .bp 5 0), (14, .sl Y0 t.1.1.2), (15, .int .i64 (t.1.1.2.length : Int))] [(4, .box 90 (.int .i64 t.1.1.1 :: (.sl Y0 t.1.1.2 :: (cellsX T69 t.1.2 ++ (.int .i64 t.2.1.1 :: (.sl Y0 t.2.1.2 :: (cellsX T69 t.2.2))))))), (5, .box 94 (cellsX T94 r0))] ?_
  refine zB [(2, .int .i64 x0), (3, .int .i64 y), (4, .bp 4 0), (5, .bp 5 0), (14, .sl Y0 t.1.1.2), (15, .int .i64 (t.1.1.2.length : Int)), (16, .int .i64 0)] [(4, .box 90 (.int .i64 t.1.1.1 :: (.sl Y0 t.1.1.2 :: (cellsX T69 t.1.2 ++ (.int .i64 t.2.1.1 :: (.sl Y0 t.2.1.2 :: (cellsX T69 t.2.2))))))), (5, .box 94 (cellsX T94 r0))] ?_
  refine AW.block ?_
  obtain ⟨rv5, hw1, ho2⟩ := Option.bind_eq_some_iff.1 h
  refine AW.loopO (refine_two_follows_b1 t r0 x0 y) (fun st1 => ⟨fr [(2, .int .i64 x0), (3, .int .i64 y), (4, .bp 4 0), (5, .bp 5 0), (14, .sl Y0 t.1.1.2), (15, .int .i64 (t.1.1.2.length : Int)), (16, .int .i64 st1)], hpGet [(4, .box 90 (.int .i64 t.1.1.1 :: (.sl Y0 t.1.1.2 :: (cellsX T69 t.1.2 ++ (.int .i64 t.2.1.1 :: (.sl Y0 t.2.1.2 :: (cellsX T69 t.2.2))))))), (5, .box 94 (cellsX T94 r0))], gt⟩) 0 hw1 (zL [] [] []) ?_
  as_aux_lemma =>
   intro st1 x4 h hd3
   unfold refine_two_follows_b1 at h
   refine zo ?_
   refine zB [(2, .int .i64 x0), (3, .int .i64 y), (4, .bp 4 0), (5, .bp 5 0), (14, .sl Y0 t.1.1.2), (15, .int .i64 (t.1.1.2.length : Int)), (16, .int .i64 st1), (17, .bool (decide (st1 < (t.1.1.2.length : Int))))] [(4, .box 90 (.int .i64 t.1.1.1 :: (.sl Y0 t.1.1.2 :: (cellsX T69 t.1.2 ++ (.int .i64 t.2.1.1 :: (.sl Y0 t.2.1.2 :: (cellsX T69 t.2.2))))))), (5, .box 94 (cellsX T94 r0))] ?_
   refine AW.seq ?_
   refine zQ h (fun hb6 h => ?_) (fun hb6 h => ?_)
   ·refine zk ?_
    refine AW.seq ?_
    refine AW.block ?_
    refine zo ?_
    obtain ⟨c7, h⟩ := ck_some.1 h
    obtain ⟨c8, h⟩ := ck_some.1 h
    refine zB [(2, .int .i64 x0), (3, .int .i64 y), (4, .bp 4 0), (5, .bp 5 0), (10, .bp 10 0), (14, .sl Y0 t.1.1.2), (15, .int .i64 (t.1.1.2.length : Int)), (16, .int .i64 st1)] [(4, .box 90 (.int .i64 t.1.1.1 :: (.sl Y0 t.1.1.2 :: (cellsX T69 t.1.2 ++ (.int .i64 t.2.1.1 :: (.sl Y0 t.2.1.2 :: (cellsX T69 t.2.2))))))), (5, .box 94 (cellsX T94 r0)), (10, .box 66 [.int .i64 (t.1.1.2.getD st1.toNat (0, 0, 0)).1, .int .i64 (t.1.1.2.getD st1.toNat (0, 0, 0)).2.1, .int .i64 (t.1.1.2.getD st1.toNat (0, 0, 0)).2.2])] ?_
    refine AW.seq ?_
    refine AW.draw tab_ok mixed_ok [] [] (by decide) (lex_fast (by kernel_rfl)) ?_
    as_aux_lemma =>
     refine adops_cut 5 (fun K' hK9 => ?_)
     try dsimp only [List.drop_succ_cons, List.drop_zero, List.take_succ_cons, List.take_zero]
     simp only [go_sem, hb6]
     repeat with_reducible refine zN ?_
     refine hK9 _ ?_
     as_aux_lemma =>
      rcases zI h with ⟨hb10, h⟩ | ⟨hb10, h⟩
      ·simp only [hb10]
       as_aux_lemma =>
        obtain ⟨c12, h⟩ := ck_some.1 h
        obtain ⟨c13, h⟩ := ck_some.1 h
        refine adops_cut 6 (fun K' hK11 => ?_)
        try dsimp only [List.drop_succ_cons, List.drop_zero, List.take_succ_cons, List.take_zero]
        simp only [go_sem, hb6, hb10]
        repeat with_reducible refine zN ?_
        refine hK11 _ ?_
        as_aux_lemma =>
         obtain ⟨c15, h⟩ := ck_some.1 h
         obtain ⟨c16, h⟩ := ck_some.1 h
         have hx17 : ((y.toNat * 4) + (t.1.1.2.getD st1.toNat (0, 0, 0)).2.1.toNat * 1) < 24 := by omega
         obtain ⟨c18, h⟩ := ck_some.1 h
         obtain ⟨c19, h⟩ := ck_some.1 h
         have hx20 : (0 + (t.1.1.2.getD st1.toNat (0, 0, 0)).2.2.toNat * 1) < 6 := by omega
         refine adops_cut 6 (fun K' hK14 => ?_)
         try dsimp only [List.drop_succ_cons, List.drop_zero, List.take_succ_cons, List.take_zero]
         simp only [go_sem, hb6, hb10, hx17, hx20]
         repeat with_reducible refine zN ?_
         refine hK14 _ ?_
         as_aux_lemma =>
          refine adops_cut 3 (fun K' hK21 => ?_)
          try dsimp only [List.drop_succ_cons, List.drop_zero, List.take_succ_cons, List.take_zero]
          simp only [go_sem, hb6, hb10, hx17, hx20]
          repeat with_reducible refine zN ?_
          refine hK21 _ ?_
          refine adops_nil ?_
          refine athen_n ?_
          refine zV [(2, .int .i64 x0), (3, .int .i64 y), (4, .bp 4 0), (5, .bp 5 0), (14, .sl Y0 t.1.1.2), (15, .int .i64 (t.1.1.2.length : Int)), (16, .int .i64 st1), (39, .bool (decide ((iand .u8 (intAt T69 t.2.2 ((y.toNat * 4) + (t.1.1.2.getD st1.toNat (0, 0, 0)).2.1.toNat * 1)) (intAt T94 r0 (0 + (t.1.1.2.getD st1.toNat (0, 0, 0)).2.2.toNat * 1))) = 0)))] [(4, .box 90 (.int .i64 t.1.1.1 :: (.sl Y0 t.1.1.2 :: (cellsX T69 t.1.2 ++ (.int .i64 t.2.1.1 :: (.sl Y0 t.2.1.2 :: (cellsX T69 t.2.2))))))), (5, .box 94 (cellsX T94 r0))] gt ?_
          as_aux_lemma =>
           refine zQ h (fun hb22 h => ?_) (fun hb22 h => ?_)
           ·refine zo ?_
            refine zB [(8, .bool false)] [] ?_
            refine AW.ret ?_
            refine ablock_r ?_
            refine athen_r ?_
            obtain rfl := Option.some.inj h
            rw [← hd3 _ rfl] at ho2
            have h := ho2
            try simp only at h
            refine athen_r ?_
            refine ablock_r ?_
            refine athen_r ?_
            obtain rfl := Option.some.inj h
            exact zR [] [] []
           ·refine zm ?_
            refine athen_n ?_
            refine AW.ops ?_
            obtain ⟨c23, h⟩ := ck_some.1 h
            refine zA [(2, .int .i64 x0), (3, .int .i64 y), (4, .bp 4 0), (5, .bp 5 0), (14, .sl Y0 t.1.1.2), (15, .int .i64 (t.1.1.2.length : Int)), (16, .int .i64 (st1 + 1))] [(4, .box 90 (.int .i64 t.1.1.1 :: (.sl Y0 t.1.1.2 :: (cellsX T69 t.1.2 ++ (.int .i64 t.2.1.1 :: (.sl Y0 t.2.1.2 :: (cellsX T69 t.2.2))))))), (5, .box 94 (cellsX T94 r0))] ?_
            obtain rfl := Option.some.inj h
            exact ⟨_, rfl, zL [] [] []⟩
      ·simp only [hb10]
       as_aux_lemma =>
        refine adops_cut 4 (fun K' hK24 => ?_)
        try dsimp only [List.drop_succ_cons, List.drop_zero, List.take_succ_cons, List.take_zero]
        simp only [go_sem, hb6, hb10]
        repeat with_reducible refine zN ?_
        refine hK24 _ ?_
        as_aux_lemma =>
         refine adops_cut 4 (fun K' hK25 => ?_)
         try dsimp only [List.drop_succ_cons, List.drop_zero, List.take_succ_cons, List.take_zero]
         simp only [go_sem, hb6, hb10]
         repeat with_reducible refine zN ?_
         refine hK25 _ ?_
         as_aux_lemma =>
          refine adops_cut 4 (fun K' hK26 => ?_)
          try dsimp only [List.drop_succ_cons, List.drop_zero, List.take_succ_cons, List.take_zero]
          simp only [go_sem, hb6, hb10]
          repeat with_reducible refine zN ?_
          refine hK26 _ ?_
          as_aux_lemma =>
           refine adops_cut 3 (fun K' hK27 => ?_)
           try dsimp only [List.drop_succ_cons, List.drop_zero, List.take_succ_cons, List.take_zero]
           simp only [go_sem, hb6, hb10]
           repeat with_reducible refine zN ?_
           refine hK27 _ ?_
           refine adops_nil ?_
           refine athen_n ?_
           refine zV [(2, .int .i64 x0), (3, .int .i64 y), (4, .bp 4 0), (5, .bp 5 0), (14, .sl Y0 t.1.1.2), (15, .int .i64 (t.1.1.2.length : Int)), (16, .int .i64 st1), (39, .bool false)] [(4, .box 90 (.int .i64 t.1.1.1 :: (.sl Y0 t.1.1.2 :: (cellsX T69 t.1.2 ++ (.int .i64 t.2.1.1 :: (.sl Y0 t.2.1.2 :: (cellsX T69 t.2.2))))))), (5, .box 94 (cellsX T94 r0))] gt ?_
           as_aux_lemma =>
            refine AW.cond (b := false) rfl (fun hb28 => by cases hb28) (fun _ => ?_)
            refine zm ?_
            refine athen_n ?_
            refine AW.ops ?_
            obtain ⟨c29, h⟩ := ck_some.1 h
            refine zA [(2, .int .i64 x0), (3, .int .i64 y), (4, .bp 4 0), (5, .bp 5 0), (14, .sl Y0 t.1.1.2), (15, .int .i64 (t.1.1.2.length : Int)), (16, .int .i64 (st1 + 1))] [(4, .box 90 (.int .i64 t.1.1.1 :: (.sl Y0 t.1.1.2 :: (cellsX T69 t.1.2 ++ (.int .i64 t.2.1.1 :: (.sl Y0 t.2.1.2 :: (cellsX T69 t.2.2))))))), (5, .box 94 (cellsX T94 r0))] ?_
            obtain rfl := Option.some.inj h
            exact ⟨_, rfl, zL [] [] []⟩
   ·refine AW.exit ?_
    refine athen_e ?_
    obtain rfl := Option.some.inj h
    rw [← hd3 _ rfl] at ho2
    have h := ho2
    try simp only at h
    refine athen_e ?_
    refine ablock_s ?_
    refine athen_n ?_
    exact AW.weaken (zL [] [] []) (hk_refine_two_follows_k1 () h)

theorem hc_refine_two_held (t : ((Int × (List (Int × Int × Int))) × (El T69)) × (Int × (List (Int × Int × Int))) × (El T69)) (r0 : (El T94)) {r : (El T94)} (h : refine_two_held t r0 = some r) : HC Try.prog 88 [] [.agg (.int .i64 t.1.1.1 :: (.sl Y0 t.1.1.2 :: (cellsX T69 t.1.2 ++ (.int .i64 t.2.1.1 :: (.sl Y0 t.2.1.2 :: (cellsX T69 t.2.2)))))), .agg (cellsX T94 r0)] [] (.agg (cellsX T94 r)) := by
 unfold refine_two_held at h
 refine zH Try.func88 [.cell 4 94] 33 ?_
 refine zo ?_
 refine zB [(2, .bp 2 0), (3, .bp 3 0), (4, .bp 4 0)] [(2, .box 90 (.int .i64 t.1.1.1 :: (.sl Y0 t.1.1.2 :: (cellsX T69 t.1.2 ++ (.int .i64 t.2.1.1 :: (.sl Y0 t.2.1.2 :: (cellsX T69 t.2.2))))))), (3, .box 94 (cellsX T94 r0)), (4, .box 94 (cellsX T94 (Ty.dflt T94)))] ?_
 refine zo ?_
 refine zB [(2, .bp 2 0), (3, .bp 3 0), (4, .bp 4 0), (5, .bp 5 0)] [(2, .box 90 (.int .i64 t.1.1.1 :: (.sl Y0 t.1.1.2 :: (cellsX T69 t.1.2 ++ (.int .i64 t.2.1.1 :: (.sl Y0 t.2.1.2 :: (cellsX T69 t.2.2))))))), (3, .box 94 (cellsX T94 r0)), (4, .box 94 (cellsX T94 (Ty.dflt T94))), (5, .box 94 (cellsX T94 (Ty.dflt T94)))] ?_
 refine AW.have1 (fun b1 : (El T94) => refine_two_held_k1 b1 = some r) (fun b1 => ⟨fr [(4, .bp 4 0), (5, .bp 5 0)], hpGet [(4, .box 94 (cellsX T94 (Ty.dflt T94))), (5, .box 94 (cellsX T94 b1))], gt⟩) (fun b1 h => ?_) (fun hk_refine_two_held_k1 => ?_)
 ·as_aux_lemma =>
   unfold refine_two_held_k1 at h
   refine zo ?_
   refine zB [(4, .bp 4 0)] [(4, .box 94 (cellsX T94 b1))] ?_
   refine AW.ret ?_
   obtain rfl := Option.some.inj h
   exact zR [] [] []
 ·refine AW.seq ?_
  refine zo ?_
  refine zS 1 [(2, .bp 2 0), (3, .bp 3 0), (4, .bp 4 0), (5, .bp 5 0), (8, .agg (cellsX T94 r0))] [(2, .box 90 (.int .i64 t.1.1.1 :: (.sl Y0 t.1.1.2 :: (cellsX T69 t.1.2 ++ (.int .i64 t.2.1.1 :: (.sl Y0 t.2.1.2 :: (cellsX T69 t.2.2))))))), (3, .box 94 (cellsX T94 r0)), (4, .box 94 (cellsX T94 (Ty.dflt T94))), (5, .box 94 (cellsX T94 (Ty.dflt T94)))] ?_
  obtain ⟨v0, hv1, h⟩ := Option.bind_eq_some_iff.1 h
  refine zC [] [] (hc_refine_relation_list r0 hv1) [(2, .bp 2 0), (3, .bp 3 0), (4, .bp 4 0), (5, .bp 5 0), (9, .own 19000)] [(2, .box 90 (.int .i64 t.1.1.1 :: (.sl Y0 t.1.1.2 :: (cellsX T69 t.1.2 ++ (.int .i64 t.2.1.1 :: (.sl Y0 t.2.1.2 :: (cellsX T69 t.2.2))))))), (3, .box 94 (cellsX T94 r0)), (4, .box 94 (cellsX T94 (Ty.dflt T94))), (5, .box 94 (cellsX T94 (Ty.dflt T94))), (19000, .arr 58 (.pair (.int .i64) (.int .i64)) v0)] ?_
  refine zB [(2, .bp 2 0), (3, .bp 3 0), (4, .bp 4 0), (5, .bp 5 0), (9, .own 19000), (10, .int .i64 (v0.length : Int)), (11, .int .i64 0)] [(2, .box 90 (.int .i64 t.1.1.1 :: (.sl Y0 t.1.1.2 :: (cellsX T69 t.1.2 ++ (.int .i64 t.2.1.1 :: (.sl Y0 t.2.1.2 :: (cellsX T69 t.2.2))))))), (3, .box 94 (cellsX T94 r0)), (4, .box 94 (cellsX T94 (Ty.dflt T94))), (5, .box 94 (cellsX T94 (Ty.dflt T94))), (19000, .arr 58 (.pair (.int .i64) (.int .i64)) v0)] ?_
  refine AW.block ?_
  obtain ⟨rv6, hw2, ho3⟩ := Option.bind_eq_some_iff.1 h
  refine AW.loopO (refine_two_held_b1 t r0 v0) (fun st1 => ⟨fr [(2, .bp 2 0), (3, .bp 3 0), (4, .bp 4 0), (5, .bp 5 0), (9, .own 19000), (10, .int .i64 (v0.length : Int)), (11, .int .i64 st1.2)], hpGet [(2, .box 90 (.int .i64 t.1.1.1 :: (.sl Y0 t.1.1.2 :: (cellsX T69 t.1.2 ++ (.int .i64 t.2.1.1 :: (.sl Y0 t.2.1.2 :: (cellsX T69 t.2.2))))))), (3, .box 94 (cellsX T94 r0)), (4, .box 94 (cellsX T94 (Ty.dflt T94))), (5, .box 94 (cellsX T94 st1.1)), (19000, .arr 58 (.pair (.int .i64) (.int .i64)) v0)], gt⟩) ((Ty.dflt T94), 0) hw2 (zL [] [] []) ?_
  as_aux_lemma =>
   intro st1 x5 h hd4
   unfold refine_two_held_b1 at h
   refine zo ?_
   refine zB [(2, .bp 2 0), (3, .bp 3 0), (4, .bp 4 0), (5, .bp 5 0), (9, .own 19000), (10, .int .i64 (v0.length : Int)), (11, .int .i64 st1.2), (12, .bool (decide (st1.2 < (v0.length : Int))))] [(2, .box 90 (.int .i64 t.1.1.1 :: (.sl Y0 t.1.1.2 :: (cellsX T69 t.1.2 ++ (.int .i64 t.2.1.1 :: (.sl Y0 t.2.1.2 :: (cellsX T69 t.2.2))))))), (3, .box 94 (cellsX T94 r0)), (4, .box 94 (cellsX T94 (Ty.dflt T94))), (5, .box 94 (cellsX T94 st1.1)), (19000, .arr 58 (.pair (.int .i64) (.int .i64)) v0)] ?_
   refine AW.seq ?_
   refine zQ h (fun hb7 h => ?_) (fun hb7 h => ?_)
   ·refine zk ?_
    refine AW.seq ?_
    refine AW.block ?_
    refine zo ?_
    obtain ⟨c8, h⟩ := ck_some.1 h
    obtain ⟨c9, h⟩ := ck_some.1 h
    refine zB [(2, .bp 2 0), (3, .bp 3 0), (4, .bp 4 0), (5, .bp 5 0), (7, .bp 7 0), (9, .own 19000), (10, .int .i64 (v0.length : Int)), (11, .int .i64 st1.2)] [(2, .box 90 (.int .i64 t.1.1.1 :: (.sl Y0 t.1.1.2 :: (cellsX T69 t.1.2 ++ (.int .i64 t.2.1.1 :: (.sl Y0 t.2.1.2 :: (cellsX T69 t.2.2))))))), (3, .box 94 (cellsX T94 r0)), (4, .box 94 (cellsX T94 (Ty.dflt T94))), (5, .box 94 (cellsX T94 st1.1)), (7, .box 58 [.int .i64 (v0.getD st1.2.toNat (0, 0)).1, .int .i64 (v0.getD st1.2.toNat (0, 0)).2]), (19000, .arr 58 (.pair (.int .i64) (.int .i64)) v0)] ?_
    refine zo ?_
    refine zS 5 [(2, .bp 2 0), (3, .bp 3 0), (4, .bp 4 0), (5, .bp 5 0), (7, .bp 7 0), (9, .own 19000), (10, .int .i64 (v0.length : Int)), (11, .int .i64 st1.2), (15, .agg (.int .i64 t.1.1.1 :: (.sl Y0 t.1.1.2 :: (cellsX T69 t.1.2 ++ (.int .i64 t.2.1.1 :: (.sl Y0 t.2.1.2 :: (cellsX T69 t.2.2))))))), (16, .agg (cellsX T94 r0)), (18, .int .i64 (v0.getD st1.2.toNat (0, 0)).1), (19, .bp 7 1)] [(2, .box 90 (.int .i64 t.1.1.1 :: (.sl Y0 t.1.1.2 :: (cellsX T69 t.1.2 ++ (.int .i64 t.2.1.1 :: (.sl Y0 t.2.1.2 :: (cellsX T69 t.2.2))))))), (3, .box 94 (cellsX T94 r0)), (4, .box 94 (cellsX T94 (Ty.dflt T94))), (5, .box 94 (cellsX T94 st1.1)), (7, .box 58 [.int .i64 (v0.getD st1.2.toNat (0, 0)).1, .int .i64 (v0.getD st1.2.toNat (0, 0)).2]), (19000, .arr 58 (.pair (.int .i64) (.int .i64)) v0)] ?_
    refine zS 1 [(2, .bp 2 0), (3, .bp 3 0), (4, .bp 4 0), (5, .bp 5 0), (7, .bp 7 0), (9, .own 19000), (10, .int .i64 (v0.length : Int)), (11, .int .i64 st1.2), (15, .agg (.int .i64 t.1.1.1 :: (.sl Y0 t.1.1.2 :: (cellsX T69 t.1.2 ++ (.int .i64 t.2.1.1 :: (.sl Y0 t.2.1.2 :: (cellsX T69 t.2.2))))))), (16, .agg (cellsX T94 r0)), (18, .int .i64 (v0.getD st1.2.toNat (0, 0)).1), (20, .int .i64 (v0.getD st1.2.toNat (0, 0)).2)] [(2, .box 90 (.int .i64 t.1.1.1 :: (.sl Y0 t.1.1.2 :: (cellsX T69 t.1.2 ++ (.int .i64 t.2.1.1 :: (.sl Y0 t.2.1.2 :: (cellsX T69 t.2.2))))))), (3, .box 94 (cellsX T94 r0)), (4, .box 94 (cellsX T94 (Ty.dflt T94))), (5, .box 94 (cellsX T94 st1.1)), (7, .box 58 [.int .i64 (v0.getD st1.2.toNat (0, 0)).1, .int .i64 (v0.getD st1.2.toNat (0, 0)).2]), (19000, .arr 58 (.pair (.int .i64) (.int .i64)) v0)] ?_
    obtain ⟨v0_2, hv10, h⟩ := Option.bind_eq_some_iff.1 h
    refine zC [] [] (hc_refine_two_follows t r0 (v0.getD st1.2.toNat (0, 0)).1 (v0.getD st1.2.toNat (0, 0)).2 hv10) [(2, .bp 2 0), (3, .bp 3 0), (4, .bp 4 0), (5, .bp 5 0), (7, .bp 7 0), (9, .own 19000), (10, .int .i64 (v0.length : Int)), (11, .int .i64 st1.2), (21, .bool v0_2)] [(2, .box 90 (.int .i64 t.1.1.1 :: (.sl Y0 t.1.1.2 :: (cellsX T69 t.1.2 ++ (.int .i64 t.2.1.1 :: (.sl Y0 t.2.1.2 :: (cellsX T69 t.2.2))))))), (3, .box 94 (cellsX T94 r0)), (4, .box 94 (cellsX T94 (Ty.dflt T94))), (5, .box 94 (cellsX T94 st1.1)), (7, .box 58 [.int .i64 (v0.getD st1.2.toNat (0, 0)).1, .int .i64 (v0.getD st1.2.toNat (0, 0)).2]), (19000, .arr 58 (.pair (.int .i64) (.int .i64)) v0)] ?_
    refine zB [(2, .bp 2 0), (3, .bp 3 0), (4, .bp 4 0), (5, .bp 5 0), (7, .bp 7 0), (9, .own 19000), (10, .int .i64 (v0.length : Int)), (11, .int .i64 st1.2), (21, .bool v0_2)] [(2, .box 90 (.int .i64 t.1.1.1 :: (.sl Y0 t.1.1.2 :: (cellsX T69 t.1.2 ++ (.int .i64 t.2.1.1 :: (.sl Y0 t.2.1.2 :: (cellsX T69 t.2.2))))))), (3, .box 94 (cellsX T94 r0)), (4, .box 94 (cellsX T94 (Ty.dflt T94))), (5, .box 94 (cellsX T94 st1.1)), (7, .box 58 [.int .i64 (v0.getD st1.2.toNat (0, 0)).1, .int .i64 (v0.getD st1.2.toNat (0, 0)).2]), (19000, .arr 58 (.pair (.int .i64) (.int .i64)) v0)] ?_
    refine zQ h (fun hb11 h => ?_) (fun hb11 h => ?_)
    ·refine AW.draw tab_ok mixed_ok [(9, [5])] [] (by decide) (lex_fast (by kernel_rfl)) ?_
     as_aux_lemma =>
      obtain ⟨c13, h⟩ := ck_some.1 h
      obtain ⟨c14, h⟩ := ck_some.1 h
      have hx15 : (0 + (v0.getD st1.2.toNat (0, 0)).1.toNat * 1) < 6 := by omega
      refine adops_cut 6 (fun K' hK12 => ?_)
      try dsimp only [List.drop_succ_cons, List.drop_zero, List.take_succ_cons, List.take_zero]
      simp only [go_sem, hb7, hb11, hx15]
      repeat with_reducible refine zN ?_
      refine hK12 _ ?_
      as_aux_lemma =>
       obtain ⟨c17, h⟩ := ck_some.1 h
       obtain ⟨c18, h⟩ := ck_some.1 h
       obtain ⟨c19, h⟩ := ck_some.1 h
       have hx20 : (0 + (v0.getD st1.2.toNat (0, 0)).1.toNat * 1) < 6 := by omega
       refine adops_cut 4 (fun K' hK16 => ?_)
       try dsimp only [List.drop_succ_cons, List.drop_zero, List.take_succ_cons, List.take_zero]
       simp only [go_sem, hb7, hb11, hx15, hx20]
       repeat with_reducible refine zN ?_
       refine hK16 _ ?_
       refine adops_nil ?_
       refine ablock_n ?_
       refine athen_n ?_
       refine zV [(2, .bp 2 0), (3, .bp 3 0), (4, .bp 4 0), (5, .bp 5 0), (9, .own 19000), (10, .int .i64 (v0.length : Int)), (11, .int .i64 st1.2)] [(2, .box 90 (.int .i64 t.1.1.1 :: (.sl Y0 t.1.1.2 :: (cellsX T69 t.1.2 ++ (.int .i64 t.2.1.1 :: (.sl Y0 t.2.1.2 :: (cellsX T69 t.2.2))))))), (3, .box 94 (cellsX T94 r0)), (4, .box 94 (cellsX T94 (Ty.dflt T94))), (5, .box 94 (cellsX T94 (setInt T94 st1.1 (0 + (v0.getD st1.2.toNat (0, 0)).1.toNat * 1) (ior .u8 (intAt T94 st1.1 (0 + (v0.getD st1.2.toNat (0, 0)).1.toNat * 1)) (ishl .u8 1 (v0.getD st1.2.toNat (0, 0)).2))))), (19000, .arr 58 (.pair (.int .i64) (.int .i64)) v0)] gt ?_
       as_aux_lemma =>
        refine AW.ops ?_
        obtain ⟨c21, h⟩ := ck_some.1 h
        refine zA [(2, .bp 2 0), (3, .bp 3 0), (4, .bp 4 0), (5, .bp 5 0), (9, .own 19000), (10, .int .i64 (v0.length : Int)), (11, .int .i64 (st1.2 + 1))] [(2, .box 90 (.int .i64 t.1.1.1 :: (.sl Y0 t.1.1.2 :: (cellsX T69 t.1.2 ++ (.int .i64 t.2.1.1 :: (.sl Y0 t.2.1.2 :: (cellsX T69 t.2.2))))))), (3, .box 94 (cellsX T94 r0)), (4, .box 94 (cellsX T94 (Ty.dflt T94))), (5, .box 94 (cellsX T94 (setInt T94 st1.1 (0 + (v0.getD st1.2.toNat (0, 0)).1.toNat * 1) (ior .u8 (intAt T94 st1.1 (0 + (v0.getD st1.2.toNat (0, 0)).1.toNat * 1)) (ishl .u8 1 (v0.getD st1.2.toNat (0, 0)).2))))), (19000, .arr 58 (.pair (.int .i64) (.int .i64)) v0)] ?_
        obtain rfl := Option.some.inj h
        exact ⟨_, rfl, zL [] [] []⟩
    ·refine zm ?_
     refine athen_n ?_
     refine AW.ops ?_
     obtain ⟨c22, h⟩ := ck_some.1 h
     refine zA [(2, .bp 2 0), (3, .bp 3 0), (4, .bp 4 0), (5, .bp 5 0), (9, .own 19000), (10, .int .i64 (v0.length : Int)), (11, .int .i64 (st1.2 + 1))] [(2, .box 90 (.int .i64 t.1.1.1 :: (.sl Y0 t.1.1.2 :: (cellsX T69 t.1.2 ++ (.int .i64 t.2.1.1 :: (.sl Y0 t.2.1.2 :: (cellsX T69 t.2.2))))))), (3, .box 94 (cellsX T94 r0)), (4, .box 94 (cellsX T94 (Ty.dflt T94))), (5, .box 94 (cellsX T94 st1.1)), (19000, .arr 58 (.pair (.int .i64) (.int .i64)) v0)] ?_
     obtain rfl := Option.some.inj h
     exact ⟨_, rfl, zL [] [] []⟩
   ·refine AW.exit ?_
    refine athen_e ?_
    obtain rfl := Option.some.inj h
    rw [← hd4 _ rfl] at ho3
    have h := ho3
    refine athen_e ?_
    refine ablock_s ?_
    refine athen_n ?_
    exact AW.weaken (zL [] [] []) (hk_refine_two_held_k1 _ h)

theorem hc_refine_two_best (t : ((Int × (List (Int × Int × Int))) × (El T69)) × (Int × (List (Int × Int × Int))) × (El T69)) {r : (El T94)} (h : refine_two_best t = some r) : HC Try.prog 81 [] [.agg (.int .i64 t.1.1.1 :: (.sl Y0 t.1.1.2 :: (cellsX T69 t.1.2 ++ (.int .i64 t.2.1.1 :: (.sl Y0 t.2.1.2 :: (cellsX T69 t.2.2))))))] [] (.agg (cellsX T94 r)) := by
 unfold refine_two_best at h
 refine zH Try.func81 [.cell 2 94] 34 ?_
 refine zo ?_
 refine zB [(1, .bp 1 0), (2, .bp 2 0)] [(1, .box 90 (.int .i64 t.1.1.1 :: (.sl Y0 t.1.1.2 :: (cellsX T69 t.1.2 ++ (.int .i64 t.2.1.1 :: (.sl Y0 t.2.1.2 :: (cellsX T69 t.2.2))))))), (2, .box 94 (cellsX T94 (Ty.dflt T94)))] ?_
 refine zo ?_
 refine zB [(1, .bp 1 0), (2, .bp 2 0), (3, .bp 3 0)] [(1, .box 90 (.int .i64 t.1.1.1 :: (.sl Y0 t.1.1.2 :: (cellsX T69 t.1.2 ++ (.int .i64 t.2.1.1 :: (.sl Y0 t.2.1.2 :: (cellsX T69 t.2.2))))))), (2, .box 94 (cellsX T94 (Ty.dflt T94))), (3, .box 94 (cellsX T94 (Ty.dflt T94)))] ?_
 refine AW.have1 (fun b1 : (El T94) => refine_two_best_k1 t b1 = some r) (fun b1 => ⟨fr [(1, .bp 1 0), (2, .bp 2 0), (3, .bp 3 0)], hpGet [(1, .box 90 (.int .i64 t.1.1.1 :: (.sl Y0 t.1.1.2 :: (cellsX T69 t.1.2 ++ (.int .i64 t.2.1.1 :: (.sl Y0 t.2.1.2 :: (cellsX T69 t.2.2))))))), (2, .box 94 (cellsX T94 (Ty.dflt T94))), (3, .box 94 (cellsX T94 b1))], gt⟩) (fun b1 h => ?_) (fun hk_refine_two_best_k1 => ?_)
 ·as_aux_lemma =>
   unfold refine_two_best_k1 at h
   refine AW.have1 (fun b2 : (El T94) => refine_two_best_k2 b2 = some r) (fun b2 => ⟨fr [(2, .bp 2 0), (3, .bp 3 0)], hpGet [(2, .box 94 (cellsX T94 (Ty.dflt T94))), (3, .box 94 (cellsX T94 b2))], gt⟩) (fun b2 h => ?_) (fun hk_refine_two_best_k2 => ?_)
   ·as_aux_lemma =>
     unfold refine_two_best_k2 at h
     refine zo ?_
     refine zB [(2, .bp 2 0)] [(2, .box 94 (cellsX T94 b2))] ?_
     refine AW.ret ?_
     obtain rfl := Option.some.inj h
     exact zR [] [] []
   ·refine AW.seq ?_
    refine zo ?_
    refine zS 2 [(1, .bp 1 0), (2, .bp 2 0), (3, .bp 3 0), (22, .agg (.int .i64 t.1.1.1 :: (.sl Y0 t.1.1.2 :: (cellsX T69 t.1.2 ++ (.int .i64 t.2.1.1 :: (.sl Y0 t.2.1.2 :: (cellsX T69 t.2.2))))))), (23, .agg (cellsX T94 b1))] [(1, .box 90 (.int .i64 t.1.1.1 :: (.sl Y0 t.1.1.2 :: (cellsX T69 t.1.2 ++ (.int .i64 t.2.1.1 :: (.sl Y0 t.2.1.2 :: (cellsX T69 t.2.2))))))), (2, .box 94 (cellsX T94 (Ty.dflt T94))), (3, .box 94 (cellsX T94 b1))] ?_
    obtain ⟨v0, hv1, h⟩ := Option.bind_eq_some_iff.1 h
    refine zC [] [] (hc_refine_two_held t b1 hv1) [(1, .bp 1 0), (2, .bp 2 0), (3, .bp 3 0), (24, .agg (cellsX T94 v0))] [(1, .box 90 (.int .i64 t.1.1.1 :: (.sl Y0 t.1.1.2 :: (cellsX T69 t.1.2 ++ (.int .i64 t.2.1.1 :: (.sl Y0 t.2.1.2 :: (cellsX T69 t.2.2))))))), (2, .box 94 (cellsX T94 (Ty.dflt T94))), (3, .box 94 (cellsX T94 b1))] ?_
    refine zB [(1, .bp 1 0), (2, .bp 2 0), (3, .bp 3 0), (5, .bp 5 0)] [(1, .box 90 (.int .i64 t.1.1.1 :: (.sl Y0 t.1.1.2 :: (cellsX T69 t.1.2 ++ (.int .i64 t.2.1.1 :: (.sl Y0 t.2.1.2 :: (cellsX T69 t.2.2))))))), (2, .box 94 (cellsX T94 (Ty.dflt T94))), (3, .box 94 (cellsX T94 b1)), (5, .box 94 (cellsX T94 v0))] ?_
    refine AW.block ?_
    obtain ⟨rv6, hw2, ho3⟩ := Option.bind_eq_some_iff.1 h
    refine AW.loopO (refine_two_best_b2 t) (fun st2 => ⟨fr [(1, .bp 1 0), (2, .bp 2 0), (3, .bp 3 0), (5, .bp 5 0)], hpGet [(1, .box 90 (.int .i64 t.1.1.1 :: (.sl Y0 t.1.1.2 :: (cellsX T69 t.1.2 ++ (.int .i64 t.2.1.1 :: (.sl Y0 t.2.1.2 :: (cellsX T69 t.2.2))))))), (2, .box 94 (cellsX T94 (Ty.dflt T94))), (3, .box 94 (cellsX T94 st2.1)), (5, .box 94 (cellsX T94 st2.2))], gt⟩) (b1, v0) hw2 (zL [] [] []) ?_
    as_aux_lemma =>
     intro st2 x5 h hd4
     unfold refine_two_best_b2 at h
     refine AW.seq ?_
     refine zo ?_
     refine zS 2 [(1, .bp 1 0), (2, .bp 2 0), (3, .bp 3 0), (5, .bp 5 0), (25, .agg (cellsX T94 st2.2)), (26, .agg (cellsX T94 st2.1))] [(1, .box 90 (.int .i64 t.1.1.1 :: (.sl Y0 t.1.1.2 :: (cellsX T69 t.1.2 ++ (.int .i64 t.2.1.1 :: (.sl Y0 t.2.1.2 :: (cellsX T69 t.2.2))))))), (2, .box 94 (cellsX T94 (Ty.dflt T94))), (3, .box 94 (cellsX T94 st2.1)), (5, .box 94 (cellsX T94 st2.2))] ?_
     obtain ⟨c7, h⟩ := ck_some.1 h
     obtain ⟨c8, h⟩ := ck_some.1 h
     refine AO.aggEq (neg := true) eqty_94 (by decide) rfl rfl (lx := (cellsX T94 st2.2)) (ly := (cellsX T94 st2.1)) (by first | rfl | (simp only [go_sem]) <;> (with_reducible and_intros) <;> first | assumption | rfl | omega | (unfold maxLen; omega)) (by first | rfl | (simp only [go_sem]) <;> (with_reducible and_intros) <;> first | assumption | rfl | omega | (unfold maxLen; omega)) (by first | rfl | (simp only [go_sem]) <;> (with_reducible and_intros) <;> first | assumption | rfl | omega | (unfold maxLen; omega)) (by first | rfl | (simp only [go_sem]) <;> (with_reducible and_intros) <;> first | assumption | rfl | omega | (unfold maxLen; omega)) (by first | assumption | omega | (simp only [go_sem]) <;> (with_reducible and_intros) <;> first | assumption | rfl | omega | (unfold maxLen; omega)) (by first | assumption | omega | (simp only [go_sem]) <;> (with_reducible and_intros) <;> first | assumption | rfl | omega | (unfold maxLen; omega)) ?_
     refine zT [(1, .bp 1 0), (2, .bp 2 0), (3, .bp 3 0), (5, .bp 5 0), (27, .bool (!(decide (st2.2 = st2.1))))] [(1, .box 90 (.int .i64 t.1.1.1 :: (.sl Y0 t.1.1.2 :: (cellsX T69 t.1.2 ++ (.int .i64 t.2.1.1 :: (.sl Y0 t.2.1.2 :: (cellsX T69 t.2.2))))))), (2, .box 94 (cellsX T94 (Ty.dflt T94))), (3, .box 94 (cellsX T94 st2.1)), (5, .box 94 (cellsX T94 st2.2))] gt ?_
     refine zB [(1, .bp 1 0), (2, .bp 2 0), (3, .bp 3 0), (5, .bp 5 0), (27, .bool (!(decide (st2.2 = st2.1))))] [(1, .box 90 (.int .i64 t.1.1.1 :: (.sl Y0 t.1.1.2 :: (cellsX T69 t.1.2 ++ (.int .i64 t.2.1.1 :: (.sl Y0 t.2.1.2 :: (cellsX T69 t.2.2))))))), (2, .box 94 (cellsX T94 (Ty.dflt T94))), (3, .box 94 (cellsX T94 st2.1)), (5, .box 94 (cellsX T94 st2.2))] ?_
     refine zQ h (fun hb9 h => ?_) (fun hb9 h => ?_)
     ·refine zk ?_
      refine AW.seq ?_
      refine AW.block ?_
      refine AW.ops ?_
      refine zA [(1, .bp 1 0), (2, .bp 2 0), (3, .bp 3 0), (5, .bp 5 0)] [(1, .box 90 (.int .i64 t.1.1.1 :: (.sl Y0 t.1.1.2 :: (cellsX T69 t.1.2 ++ (.int .i64 t.2.1.1 :: (.sl Y0 t.2.1.2 :: (cellsX T69 t.2.2))))))), (2, .box 94 (cellsX T94 (Ty.dflt T94))), (3, .box 94 (cellsX T94 st2.2)), (5, .box 94 (cellsX T94 st2.2))] ?_
      refine ablock_n ?_
      refine athen_n ?_
      refine AW.seq ?_
      refine zo ?_
      refine zB [(1, .bp 1 0), (2, .bp 2 0), (3, .bp 3 0), (32, .agg (cellsX T94 st2.2))] [(1, .box 90 (.int .i64 t.1.1.1 :: (.sl Y0 t.1.1.2 :: (cellsX T69 t.1.2 ++ (.int .i64 t.2.1.1 :: (.sl Y0 t.2.1.2 :: (cellsX T69 t.2.2))))))), (2, .box 94 (cellsX T94 (Ty.dflt T94))), (3, .box 94 (cellsX T94 st2.2))] ?_
      refine AW.ops ?_
      refine zB [(1, .bp 1 0), (2, .bp 2 0), (3, .bp 3 0), (5, .bp 5 0)] [(1, .box 90 (.int .i64 t.1.1.1 :: (.sl Y0 t.1.1.2 :: (cellsX T69 t.1.2 ++ (.int .i64 t.2.1.1 :: (.sl Y0 t.2.1.2 :: (cellsX T69 t.2.2))))))), (2, .box 94 (cellsX T94 (Ty.dflt T94))), (3, .box 94 (cellsX T94 st2.2)), (5, .box 94 (cellsX T94 st2.2))] ?_
      refine AW.ops ?_
      refine zS 2 [(1, .bp 1 0), (2, .bp 2 0), (3, .bp 3 0), (5, .bp 5 0), (28, .agg (.int .i64 t.1.1.1 :: (.sl Y0 t.1.1.2 :: (cellsX T69 t.1.2 ++ (.int .i64 t.2.1.1 :: (.sl Y0 t.2.1.2 :: (cellsX T69 t.2.2))))))), (29, .agg (cellsX T94 st2.2))] [(1, .box 90 (.int .i64 t.1.1.1 :: (.sl Y0 t.1.1.2 :: (cellsX T69 t.1.2 ++ (.int .i64 t.2.1.1 :: (.sl Y0 t.2.1.2 :: (cellsX T69 t.2.2))))))), (2, .box 94 (cellsX T94 (Ty.dflt T94))), (3, .box 94 (cellsX T94 st2.2)), (5, .box 94 (cellsX T94 st2.2))] ?_
      obtain ⟨v0_2, hv10, h⟩ := Option.bind_eq_some_iff.1 h
      refine zC [] [] (hc_refine_two_held t st2.2 hv10) [(1, .bp 1 0), (2, .bp 2 0), (3, .bp 3 0), (5, .bp 5 0), (30, .agg (cellsX T94 v0_2))] [(1, .box 90 (.int .i64 t.1.1.1 :: (.sl Y0 t.1.1.2 :: (cellsX T69 t.1.2 ++ (.int .i64 t.2.1.1 :: (.sl Y0 t.2.1.2 :: (cellsX T69 t.2.2))))))), (2, .box 94 (cellsX T94 (Ty.dflt T94))), (3, .box 94 (cellsX T94 st2.2)), (5, .box 94 (cellsX T94 st2.2))] ?_
      refine zA [(1, .bp 1 0), (2, .bp 2 0), (3, .bp 3 0), (5, .bp 5 0)] [(1, .box 90 (.int .i64 t.1.1.1 :: (.sl Y0 t.1.1.2 :: (cellsX T69 t.1.2 ++ (.int .i64 t.2.1.1 :: (.sl Y0 t.2.1.2 :: (cellsX T69 t.2.2))))))), (2, .box 94 (cellsX T94 (Ty.dflt T94))), (3, .box 94 (cellsX T94 st2.2)), (5, .box 94 (cellsX T94 v0_2))] ?_
      obtain rfl := Option.some.inj h
      exact ⟨_, rfl, zL [] [] []⟩
     ·refine AW.exit ?_
      refine athen_e ?_
      obtain rfl := Option.some.inj h
      rw [← hd4 _ rfl] at ho3
      have h := ho3
      refine athen_e ?_
      refine ablock_s ?_
      refine athen_n ?_
      exact AW.weaken (zL [] [] []) (hk_refine_two_best_k2 _ h)
 ·refine AW.seq ?_
  refine zo ?_
  refine zB [(1, .bp 1 0), (2, .bp 2 0), (3, .bp 3 0), (9, .int .i64 t.1.1.1), (10, .int .i64 0)] [(1, .box 90 (.int .i64 t.1.1.1 :: (.sl Y0 t.1.1.2 :: (cellsX T69 t.1.2 ++ (.int .i64 t.2.1.1 :: (.sl Y0 t.2.1.2 :: (cellsX T69 t.2.2))))))), (2, .box 94 (cellsX T94 (Ty.dflt T94))), (3, .box 94 (cellsX T94 (Ty.dflt T94)))] ?_
  refine AW.block ?_
  obtain ⟨rv15, hw11, ho12⟩ := Option.bind_eq_some_iff.1 h
  refine AW.loopO (refine_two_best_b1 t) (fun st1 => ⟨fr [(1, .bp 1 0), (2, .bp 2 0), (3, .bp 3 0), (9, .int .i64 t.1.1.1), (10, .int .i64 st1.2)], hpGet [(1, .box 90 (.int .i64 t.1.1.1 :: (.sl Y0 t.1.1.2 :: (cellsX T69 t.1.2 ++ (.int .i64 t.2.1.1 :: (.sl Y0 t.2.1.2 :: (cellsX T69 t.2.2))))))), (2, .box 94 (cellsX T94 (Ty.dflt T94))), (3, .box 94 (cellsX T94 st1.1))], gt⟩) ((Ty.dflt T94), 0) hw11 (zL [] [] []) ?_
  as_aux_lemma =>
   intro st1 x14 h hd13
   unfold refine_two_best_b1 at h
   refine zo ?_
   refine zB [(1, .bp 1 0), (2, .bp 2 0), (3, .bp 3 0), (9, .int .i64 t.1.1.1), (10, .int .i64 st1.2), (11, .bool (decide (st1.2 < t.1.1.1)))] [(1, .box 90 (.int .i64 t.1.1.1 :: (.sl Y0 t.1.1.2 :: (cellsX T69 t.1.2 ++ (.int .i64 t.2.1.1 :: (.sl Y0 t.2.1.2 :: (cellsX T69 t.2.2))))))), (2, .box 94 (cellsX T94 (Ty.dflt T94))), (3, .box 94 (cellsX T94 st1.1))] ?_
   refine AW.seq ?_
   refine zQ h (fun hb16 h => ?_) (fun hb16 h => ?_)
   ·refine zk ?_
    refine AW.seq ?_
    refine AW.block ?_
    refine zo ?_
    refine zB [(1, .bp 1 0), (2, .bp 2 0), (3, .bp 3 0), (4, .int .i64 st1.2), (9, .int .i64 t.1.1.1), (10, .int .i64 st1.2)] [(1, .box 90 (.int .i64 t.1.1.1 :: (.sl Y0 t.1.1.2 :: (cellsX T69 t.1.2 ++ (.int .i64 t.2.1.1 :: (.sl Y0 t.2.1.2 :: (cellsX T69 t.2.2))))))), (2, .box 94 (cellsX T94 (Ty.dflt T94))), (3, .box 94 (cellsX T94 st1.1))] ?_
    refine AW.ops ?_
    refine zS 5 [(1, .bp 1 0), (2, .bp 2 0), (3, .bp 3 0), (9, .int .i64 t.1.1.1), (10, .int .i64 st1.2), (13, .int .i64 st1.2), (17, .int .i64 t.2.1.1)] [(1, .box 90 (.int .i64 t.1.1.1 :: (.sl Y0 t.1.1.2 :: (cellsX T69 t.1.2 ++ (.int .i64 t.2.1.1 :: (.sl Y0 t.2.1.2 :: (cellsX T69 t.2.2))))))), (2, .box 94 (cellsX T94 (Ty.dflt T94))), (3, .box 94 (cellsX T94 st1.1))] ?_
    obtain ⟨c17, h⟩ := ck_some.1 h
    obtain ⟨c18, h⟩ := ck_some.1 h
    obtain ⟨c19, h⟩ := ck_some.1 h
    obtain ⟨c20, h⟩ := ck_some.1 h
    have hx21 : (0 + st1.2.toNat * 1) < 6 := by omega
    refine zA [(1, .bp 1 0), (2, .bp 2 0), (3, .bp 3 0), (9, .int .i64 t.1.1.1), (10, .int .i64 st1.2)] [(1, .box 90 (.int .i64 t.1.1.1 :: (.sl Y0 t.1.1.2 :: (cellsX T69 t.1.2 ++ (.int .i64 t.2.1.1 :: (.sl Y0 t.2.1.2 :: (cellsX T69 t.2.2))))))), (2, .box 94 (cellsX T94 (Ty.dflt T94))), (3, .box 94 (cellsX T94 (setInt T94 st1.1 (0 + st1.2.toNat * 1) ((ishl .u8 1 t.2.1.1) - 1))))] ?_
    refine ablock_n ?_
    refine athen_n ?_
    refine AW.ops ?_
    obtain ⟨c22, h⟩ := ck_some.1 h
    refine zA [(1, .bp 1 0), (2, .bp 2 0), (3, .bp 3 0), (9, .int .i64 t.1.1.1), (10, .int .i64 (st1.2 + 1))] [(1, .box 90 (.int .i64 t.1.1.1 :: (.sl Y0 t.1.1.2 :: (cellsX T69 t.1.2 ++ (.int .i64 t.2.1.1 :: (.sl Y0 t.2.1.2 :: (cellsX T69 t.2.2))))))), (2, .box 94 (cellsX T94 (Ty.dflt T94))), (3, .box 94 (cellsX T94 (setInt T94 st1.1 (0 + st1.2.toNat * 1) ((ishl .u8 1 t.2.1.1) - 1))))] ?_
    obtain rfl := Option.some.inj h
    exact ⟨_, rfl, zL [] [] []⟩
   ·refine AW.exit ?_
    refine athen_e ?_
    obtain rfl := Option.some.inj h
    rw [← hd13 _ rfl] at ho12
    have h := ho12
    refine athen_e ?_
    refine ablock_s ?_
    refine athen_n ?_
    exact AW.weaken (zL [] [] []) (hk_refine_two_best_k1 _ h)

theorem hc_refine_Refines (c : Int × (List (Int × Int × Int))) (a : Int × (List (Int × Int × Int))) {r : Bool × Int} (h : refine_Refines c a = some r) : HC Try.prog 39 [] [.agg [.int .i64 c.1, .sl Y0 c.2], .agg [.int .i64 a.1, .sl Y0 a.2]] [] (.tup [.bool r.1, .int .i64 r.2]) := by
 unfold refine_Refines at h
 refine zH Try.func39 [.tmp 4, .tmp 5] 21 ?_
 refine zo ?_
 refine zB [(2, .bp 2 0), (3, .bp 3 0)] [(2, .box 24 [.int .i64 c.1, .sl Y0 c.2]), (3, .box 24 [.int .i64 a.1, .sl Y0 a.2])] ?_
 refine zo ?_
 refine zS 2 [(9, .agg [.int .i64 c.1, .sl Y0 c.2]), (10, .agg [.int .i64 a.1, .sl Y0 a.2])] [] ?_
 obtain ⟨v0, hv1, h⟩ := Option.bind_eq_some_iff.1 h
 refine zC [] [] (hc_refine_twoOf c a hv1) [(11, .tup [.agg (.int .i64 v0.1 :: (.sl Y0 v0.2.1 :: (cellsX T69 v0.2.2.1 ++ (.int .i64 v0.2.2.2.1 :: (.sl Y0 v0.2.2.2.2.1 :: (cellsX T69 v0.2.2.2.2.2.1)))))), .int .i64 v0.2.2.2.2.2.2])] [] ?_
 refine zS 5 [(6, .bp 6 0), (13, .int .i64 v0.2.2.2.2.2.2)] [(6, .box 90 (.int .i64 v0.1 :: (.sl Y0 v0.2.1 :: (cellsX T69 v0.2.2.1 ++ (.int .i64 v0.2.2.2.1 :: (.sl Y0 v0.2.2.2.2.1 :: (cellsX T69 v0.2.2.2.2.2.1)))))))] ?_
 refine zB [(6, .bp 6 0), (7, .int .i64 v0.2.2.2.2.2.2)] [(6, .box 90 (.int .i64 v0.1 :: (.sl Y0 v0.2.1 :: (cellsX T69 v0.2.2.1 ++ (.int .i64 v0.2.2.2.1 :: (.sl Y0 v0.2.2.2.2.1 :: (cellsX T69 v0.2.2.2.2.2.1)))))))] ?_
 refine AW.seq ?_
 refine zo ?_
 refine zB [(6, .bp 6 0), (7, .int .i64 v0.2.2.2.2.2.2), (15, .bool (!(decide (v0.2.2.2.2.2.2 = 0))))] [(6, .box 90 (.int .i64 v0.1 :: (.sl Y0 v0.2.1 :: (cellsX T69 v0.2.2.1 ++ (.int .i64 v0.2.2.2.1 :: (.sl Y0 v0.2.2.2.2.1 :: (cellsX T69 v0.2.2.2.2.2.1)))))))] ?_
 refine zQ h (fun hb2 h => ?_) (fun hb2 h => ?_)
 ·refine zo ?_
  refine zB [(4, .bool false), (5, .int .i64 v0.2.2.2.2.2.2)] [] ?_
  refine zr ?_
  obtain rfl := Option.some.inj h
  exact zR [] [] []
 ·refine zk ?_
  refine zo ?_
  refine zS 1 [(17, .agg (.int .i64 v0.1 :: (.sl Y0 v0.2.1 :: (cellsX T69 v0.2.2.1 ++ (.int .i64 v0.2.2.2.1 :: (.sl Y0 v0.2.2.2.2.1 :: (cellsX T69 v0.2.2.2.2.2.1)))))))] [] ?_
  obtain ⟨v0_2, hv3, h⟩ := Option.bind_eq_some_iff.1 h
  refine zC [] [] (hc_refine_two_best (((v0.1, v0.2.1), v0.2.2.1), (v0.2.2.2.1, v0.2.2.2.2.1), v0.2.2.2.2.2.1) hv3) [(18, .agg (cellsX T94 v0_2))] [] ?_
  have hx4 : 0 < 6 := by omega
  refine AO.idxA tab_ok (by decide) rfl rfl tab_94 rfl tab_67 rfl rfl (by first | assumption | omega | (simp only [go_sem, hb2, hx4]) <;> (with_reducible and_intros) <;> first | assumption | rfl | omega | (unfold maxLen; omega)) (by first | assumption | omega | (simp only [go_sem, hb2, hx4]) <;> (with_reducible and_intros) <;> first | assumption | rfl | omega | (unfold maxLen; omega)) (by first | assumption | omega | (simp only [go_sem, hb2, hx4]) <;> (with_reducible and_intros) <;> first | assumption | rfl | omega | (unfold maxLen; omega)) (.inr rfl) (v := .int .u8 (intAt T94 v0_2 0)) (by first | assumption | omega | (simp only [go_sem, hb2, hx4]) <;> (with_reducible and_intros) <;> first | assumption | rfl | omega | (unfold maxLen; omega)) ?_
  refine zT [(19, .int .u8 (intAt T94 v0_2 0))] [] gt ?_
  obtain ⟨v0_3, hv5, h⟩ := Option.bind_eq_some_iff.1 h
  refine zC [] [] (hc_refine_set_has (intAt T94 v0_2 0) 0 hv5) [(20, .bool (decide ((iand .u8 (ishr .u8 (intAt T94 v0_2 0) 0) 1) = 1)))] [] ?_
  refine zB [(4, .bool (decide ((iand .u8 (ishr .u8 (intAt T94 v0_2 0) 0) 1) = 1))), (5, .int .i64 0)] [] ?_
  refine AW.ret ?_
  obtain rfl := Option.some.inj h
  exact zR [] [] []

end Go.Proofs.Ytifleoceebaooaa
