/-
  Made by wip/tool/dc.py out of the print of the program: contracts.
-/
import Derived.Test.YtlfpagicagmjgaaHp
import Derived.Test.YtlfpagicagmjgaaShh
import Derived.Test.YtlfpagicagmjgaaKjc2
namespace Go.Proofs.Ytlfpagicagmjgaa
open Go.RowKit

set_option linter.unusedSimpArgs false
set_option linter.unusedVariables false
set_option linter.constructorNameAsVariable false

set_option maxRecDepth 100000
set_option maxHeartbeats 2000000

theorem hc_history_keeps (h0 : ZH) (order : List Int) {r : Bool} (h : history_keeps h0 order = some r) : HC Try.prog 76 [] [.sl Y1 h0, .sl (.int .i64) order, .fn (.func 77) [] []] [] (.bool r) := by
 unfold history_keeps at h
 refine zH Try.func76 [.tmp 6] 38 ?_
 refine zo ?_
 refine zB [(0, .sl Y1 h0), (1, .sl (.int .i64) order), (2, .fn (.func 77) [] [])] [] ?_
 refine AW.have1 (fun _ : Unit => history_keeps_k1 = some r) (fun _ => ⟨fr [], hpGet [], gt⟩) (fun _ h => ?_) (fun hk_history_keeps_k1 => ?_)
 ·unfold history_keeps_k1 at h
  refine zo ?_
  refine zB [(6, .bool true)] [] ?_
  refine AW.ret ?_
  obtain rfl := Option.some.inj h
  exact zR [] [] []
 ·refine AW.seq ?_
  refine zo ?_
  refine zB [(0, .sl Y1 h0), (1, .sl (.int .i64) order), (2, .fn (.func 77) [] []), (11, .sl (.int .i64) order), (12, .int .i64 (order.length : Int)), (13, .int .i64 0)] [] ?_
  refine AW.block ?_
  obtain ⟨rv5, hw1, ho2⟩ := Option.bind_eq_some_iff.1 h
  refine AW.loopO (history_keeps_b1 h0 order) (fun st1 => ⟨fr [(0, .sl Y1 h0), (1, .sl (.int .i64) order), (2, .fn (.func 77) [] []), (11, .sl (.int .i64) order), (12, .int .i64 (order.length : Int)), (13, .int .i64 st1)], hpGet [], gt⟩) 0 hw1 (zL [] [] []) ?_
  intro st1 x4 h hd3
  unfold history_keeps_b1 at h
  refine zo ?_
  refine zB [(0, .sl Y1 h0), (1, .sl (.int .i64) order), (2, .fn (.func 77) [] []), (11, .sl (.int .i64) order), (12, .int .i64 (order.length : Int)), (13, .int .i64 st1), (14, .bool (decide (st1 < (order.length : Int))))] [] ?_
  refine AW.seq ?_
  refine zQ h (fun hb6 h => ?_) (fun hb6 h => ?_)
  ·refine zk ?_
   refine AW.have1 (fun _ : Unit => history_keeps_k2 st1 = some x4) (fun _ => ⟨fr [(0, .sl Y1 h0), (1, .sl (.int .i64) order), (2, .fn (.func 77) [] []), (11, .sl (.int .i64) order), (12, .int .i64 (order.length : Int)), (13, .int .i64 st1)], hpGet [], gt⟩) (fun _ h => ?_) (fun hk_history_keeps_k2 => ?_)
   ·unfold history_keeps_k2 at h
    refine AW.ops ?_
    obtain ⟨c7, h⟩ := ck_some.1 h
    refine zA [(0, .sl Y1 h0), (1, .sl (.int .i64) order), (2, .fn (.func 77) [] []), (11, .sl (.int .i64) order), (12, .int .i64 (order.length : Int)), (13, .int .i64 (st1 + 1))] [] ?_
    obtain rfl := Option.some.inj h
    exact ⟨_, rfl, zL [] [] []⟩
   ·refine AW.seq ?_
    refine AW.block ?_
    refine zo ?_
    obtain ⟨c8, h⟩ := ck_some.1 h
    obtain ⟨c9, h⟩ := ck_some.1 h
    refine zB [(0, .sl Y1 h0), (1, .sl (.int .i64) order), (2, .fn (.func 77) [] []), (7, .int .i64 st1), (8, .int .i64 (order.getD st1.toNat 0)), (11, .sl (.int .i64) order), (12, .int .i64 (order.length : Int)), (13, .int .i64 st1)] [] ?_
    refine zo ?_
    obtain ⟨c10, h⟩ := ck_some.1 h
    obtain ⟨c11, h⟩ := ck_some.1 h
    refine zB [(0, .sl Y1 h0), (1, .sl (.int .i64) order), (2, .fn (.func 77) [] []), (8, .int .i64 (order.getD st1.toNat 0)), (11, .sl (.int .i64) order), (12, .int .i64 (order.length : Int)), (13, .int .i64 st1), (20, .sl (.int .i64) (order.take st1.toNat)), (21, .int .i64 ((order.take st1.toNat).length : Int)), (22, .int .i64 0)] [] ?_
    refine AW.block ?_
    obtain ⟨rv16, hw12, ho13⟩ := Option.bind_eq_some_iff.1 h
    refine AW.loopO (history_keeps_b2 h0 order st1) (fun st2 => ⟨fr [(0, .sl Y1 h0), (1, .sl (.int .i64) order), (2, .fn (.func 77) [] []), (8, .int .i64 (order.getD st1.toNat 0)), (11, .sl (.int .i64) order), (12, .int .i64 (order.length : Int)), (13, .int .i64 st1), (20, .sl (.int .i64) (order.take st1.toNat)), (21, .int .i64 ((order.take st1.toNat).length : Int)), (22, .int .i64 st2)], hpGet [], gt⟩) 0 hw12 (zL [] [] []) ?_
    intro st2 x15 h hd14
    unfold history_keeps_b2 at h
    refine zo ?_
    refine zB [(0, .sl Y1 h0), (1, .sl (.int .i64) order), (2, .fn (.func 77) [] []), (8, .int .i64 (order.getD st1.toNat 0)), (11, .sl (.int .i64) order), (12, .int .i64 (order.length : Int)), (13, .int .i64 st1), (20, .sl (.int .i64) (order.take st1.toNat)), (21, .int .i64 ((order.take st1.toNat).length : Int)), (22, .int .i64 st2), (23, .bool (decide (st2 < ((order.take st1.toNat).length : Int))))] [] ?_
    refine AW.seq ?_
    refine zQ h (fun hb17 h => ?_) (fun hb17 h => ?_)
    ·refine zk ?_
     refine AW.seq ?_
     refine AW.block ?_
     refine zo ?_
     obtain ⟨c18, h⟩ := ck_some.1 h
     obtain ⟨c19, h⟩ := ck_some.1 h
     refine zB [(0, .sl Y1 h0), (1, .sl (.int .i64) order), (2, .fn (.func 77) [] []), (8, .int .i64 (order.getD st1.toNat 0)), (10, .int .i64 ((order.take st1.toNat).getD st2.toNat 0)), (11, .sl (.int .i64) order), (12, .int .i64 (order.length : Int)), (13, .int .i64 st1), (20, .sl (.int .i64) (order.take st1.toNat)), (21, .int .i64 ((order.take st1.toNat).length : Int)), (22, .int .i64 st2)] [] ?_
     refine AW.seq ?_
     refine AW.draw tab_ok mixed_ok [] [] (by decide) (by kernel_rfl) ?_
     obtain ⟨c21, h⟩ := ck_some.1 h
     obtain ⟨c22, h⟩ := ck_some.1 h
     refine adops_cut 6 (fun K' hK20 => ?_)
     try dsimp only [List.drop_succ_cons, List.drop_zero, List.take_succ_cons, List.take_zero]
     simp only [go_sem, hb6, hb17]
     repeat with_reducible refine zN ?_
     refine hK20 _ ?_
     obtain ⟨c24, h⟩ := ck_some.1 h
     obtain ⟨c25, h⟩ := ck_some.1 h
     refine adops_cut 3 (fun K' hK23 => ?_)
     try dsimp only [List.drop_succ_cons, List.drop_zero, List.take_succ_cons, List.take_zero]
     simp only [go_sem, hb6, hb17]
     repeat with_reducible refine zN ?_
     refine hK23 _ ?_
     obtain ⟨v0, hv26, h⟩ := Option.bind_eq_some_iff.1 h
     refine adops.call (by first | trivial | rfl) rfl rfl rfl (fun _ h => h) [] [] (hc_history_inTime (h0.getD ((order.take st1.toNat).getD st2.toNat 0).toNat (0, 0, 0, 0, 0, 0)) (h0.getD (order.getD st1.toNat 0).toNat (0, 0, 0, 0, 0, 0)) hv26) rfl (by (simp only [go_sem, hb6, hb17]) <;> (with_reducible and_intros) <;> first | assumption | rfl | omega | (unfold maxLen; omega)) (by (simp only [go_sem, hb6, hb17]) <;> (with_reducible and_intros) <;> first | assumption | rfl | omega | (unfold maxLen; omega)) rfl ?_
     refine adops_cut 0 (fun K' hK27 => ?_)
     try dsimp only [List.drop_succ_cons, List.drop_zero, List.take_succ_cons, List.take_zero]
     simp only [go_sem, hb6, hb17]
     repeat with_reducible refine zN ?_
     refine hK27 _ ?_
     refine adops_nil ?_
     refine athen_n ?_
     refine zV [(0, .sl Y1 h0), (1, .sl (.int .i64) order), (2, .fn (.func 77) [] []), (8, .int .i64 (order.getD st1.toNat 0)), (11, .sl (.int .i64) order), (12, .int .i64 (order.length : Int)), (13, .int .i64 st1), (20, .sl (.int .i64) (order.take st1.toNat)), (21, .int .i64 ((order.take st1.toNat).length : Int)), (22, .int .i64 st2), (35, .bool v0)] [] gt ?_
     refine zQ h (fun hb28 h => ?_) (fun hb28 h => ?_)
     ·refine zo ?_
      refine zB [(6, .bool false)] [] ?_
      refine AW.ret ?_
      refine ablock_r ?_
      refine athen_r ?_
      obtain rfl := Option.some.inj h
      rw [← hd14 _ rfl] at ho13
      have h := ho13
      try simp only at h
      refine athen_r ?_
      refine ablock_r ?_
      refine ablock_r ?_
      refine athen_r ?_
      obtain rfl := Option.some.inj h
      rw [← hd3 _ rfl] at ho2
      have h := ho2
      try simp only at h
      refine athen_r ?_
      refine ablock_r ?_
      refine athen_r ?_
      obtain rfl := Option.some.inj h
      exact zR [] [] []
     ·refine zm ?_
      refine athen_n ?_
      refine AW.ops ?_
      obtain ⟨c29, h⟩ := ck_some.1 h
      refine zA [(0, .sl Y1 h0), (1, .sl (.int .i64) order), (2, .fn (.func 77) [] []), (8, .int .i64 (order.getD st1.toNat 0)), (11, .sl (.int .i64) order), (12, .int .i64 (order.length : Int)), (13, .int .i64 st1), (20, .sl (.int .i64) (order.take st1.toNat)), (21, .int .i64 ((order.take st1.toNat).length : Int)), (22, .int .i64 (st2 + 1))] [] ?_
      obtain rfl := Option.some.inj h
      exact ⟨_, rfl, zL [] [] []⟩
    ·refine AW.exit ?_
     refine athen_e ?_
     obtain rfl := Option.some.inj h
     rw [← hd14 _ rfl] at ho13
     have h := ho13
     try simp only at h
     refine athen_e ?_
     refine ablock_s ?_
     refine ablock_n ?_
     refine athen_n ?_
     exact AW.weaken (zL [] [] []) (hk_history_keeps_k2 () h)
  ·refine AW.exit ?_
   refine athen_e ?_
   obtain rfl := Option.some.inj h
   rw [← hd3 _ rfl] at ho2
   have h := ho2
   try simp only at h
   refine athen_e ?_
   refine ablock_s ?_
   refine athen_n ?_
   exact AW.weaken (zL [] [] []) (hk_history_keeps_k1 () h)

theorem hc_history_inThread (a : Int × Int × Int × Int × Int × Int) (b : Int × Int × Int × Int × Int × Int) {r : Bool} (h : history_inThread a b = some r) : HC Try.prog 91 [] [.agg [.int .i64 a.1, .int .i64 a.2.1, .int .i64 a.2.2.1, .int .i64 a.2.2.2.1, .int .i64 a.2.2.2.2.1, .int .i64 a.2.2.2.2.2], .agg [.int .i64 b.1, .int .i64 b.2.1, .int .i64 b.2.2.1, .int .i64 b.2.2.2.1, .int .i64 b.2.2.2.2.1, .int .i64 b.2.2.2.2.2]] [] (.bool r) := by
 unfold history_inThread at h
 refine zH Try.func91 [.tmp 4] 17 ?_
 refine zo ?_
 refine zB [(2, .bp 2 0), (3, .bp 3 0)] [(2, .box 55 [.int .i64 a.1, .int .i64 a.2.1, .int .i64 a.2.2.1, .int .i64 a.2.2.2.1, .int .i64 a.2.2.2.2.1, .int .i64 a.2.2.2.2.2]), (3, .box 55 [.int .i64 b.1, .int .i64 b.2.1, .int .i64 b.2.2.1, .int .i64 b.2.2.2.1, .int .i64 b.2.2.2.2.1, .int .i64 b.2.2.2.2.2])] ?_
 refine zo ?_
 refine zS 6 [(2, .bp 2 0), (3, .bp 3 0), (10, .bool (decide (a.1 = b.1)))] [(2, .box 55 [.int .i64 a.1, .int .i64 a.2.1, .int .i64 a.2.2.1, .int .i64 a.2.2.2.1, .int .i64 a.2.2.2.2.1, .int .i64 a.2.2.2.2.2]), (3, .box 55 [.int .i64 b.1, .int .i64 b.2.1, .int .i64 b.2.2.1, .int .i64 b.2.2.2.1, .int .i64 b.2.2.2.2.1, .int .i64 b.2.2.2.2.2])] ?_
 rcases zI h with ⟨hb1, h⟩ | ⟨hb1, h⟩
 ·refine zB [(4, .bool (decide (b.2.2.2.2.1 < a.2.2.2.2.1)))] [] ?_
  refine AW.ret ?_
  obtain rfl := Option.some.inj h
  exact zR [] [] []
 ·refine zS 4 [(10, .bool false), (12, .cv (undef)), (14, .cv (undef))] [] ?_
  refine zB [(4, .bool false)] [] ?_
  refine AW.ret ?_
  obtain rfl := Option.some.inj h
  exact zR [] [] []

theorem hc_history_keeps_2 (h0 : ZH) (order : List Int) {r : Bool} (h : history_keeps_2 h0 order = some r) : HC Try.prog 76 [] [.sl Y1 h0, .sl (.int .i64) order, .fn (.func 91) [] []] [] (.bool r) := by
 unfold history_keeps_2 at h
 refine zH Try.func76 [.tmp 6] 38 ?_
 refine zo ?_
 refine zB [(0, .sl Y1 h0), (1, .sl (.int .i64) order), (2, .fn (.func 91) [] [])] [] ?_
 refine AW.have1 (fun _ : Unit => history_keeps_2_k1 = some r) (fun _ => ⟨fr [], hpGet [], gt⟩) (fun _ h => ?_) (fun hk_history_keeps_2_k1 => ?_)
 ·unfold history_keeps_2_k1 at h
  refine zo ?_
  refine zB [(6, .bool true)] [] ?_
  refine AW.ret ?_
  obtain rfl := Option.some.inj h
  exact zR [] [] []
 ·refine AW.seq ?_
  refine zo ?_
  refine zB [(0, .sl Y1 h0), (1, .sl (.int .i64) order), (2, .fn (.func 91) [] []), (11, .sl (.int .i64) order), (12, .int .i64 (order.length : Int)), (13, .int .i64 0)] [] ?_
  refine AW.block ?_
  obtain ⟨rv5, hw1, ho2⟩ := Option.bind_eq_some_iff.1 h
  refine AW.loopO (history_keeps_2_b1 h0 order) (fun st1 => ⟨fr [(0, .sl Y1 h0), (1, .sl (.int .i64) order), (2, .fn (.func 91) [] []), (11, .sl (.int .i64) order), (12, .int .i64 (order.length : Int)), (13, .int .i64 st1)], hpGet [], gt⟩) 0 hw1 (zL [] [] []) ?_
  intro st1 x4 h hd3
  unfold history_keeps_2_b1 at h
  refine zo ?_
  refine zB [(0, .sl Y1 h0), (1, .sl (.int .i64) order), (2, .fn (.func 91) [] []), (11, .sl (.int .i64) order), (12, .int .i64 (order.length : Int)), (13, .int .i64 st1), (14, .bool (decide (st1 < (order.length : Int))))] [] ?_
  refine AW.seq ?_
  refine zQ h (fun hb6 h => ?_) (fun hb6 h => ?_)
  ·refine zk ?_
   refine AW.have1 (fun _ : Unit => history_keeps_2_k2 st1 = some x4) (fun _ => ⟨fr [(0, .sl Y1 h0), (1, .sl (.int .i64) order), (2, .fn (.func 91) [] []), (11, .sl (.int .i64) order), (12, .int .i64 (order.length : Int)), (13, .int .i64 st1)], hpGet [], gt⟩) (fun _ h => ?_) (fun hk_history_keeps_2_k2 => ?_)
   ·unfold history_keeps_2_k2 at h
    refine AW.ops ?_
    obtain ⟨c7, h⟩ := ck_some.1 h
    refine zA [(0, .sl Y1 h0), (1, .sl (.int .i64) order), (2, .fn (.func 91) [] []), (11, .sl (.int .i64) order), (12, .int .i64 (order.length : Int)), (13, .int .i64 (st1 + 1))] [] ?_
    obtain rfl := Option.some.inj h
    exact ⟨_, rfl, zL [] [] []⟩
   ·refine AW.seq ?_
    refine AW.block ?_
    refine zo ?_
    obtain ⟨c8, h⟩ := ck_some.1 h
    obtain ⟨c9, h⟩ := ck_some.1 h
    refine zB [(0, .sl Y1 h0), (1, .sl (.int .i64) order), (2, .fn (.func 91) [] []), (7, .int .i64 st1), (8, .int .i64 (order.getD st1.toNat 0)), (11, .sl (.int .i64) order), (12, .int .i64 (order.length : Int)), (13, .int .i64 st1)] [] ?_
    refine zo ?_
    obtain ⟨c10, h⟩ := ck_some.1 h
    obtain ⟨c11, h⟩ := ck_some.1 h
    refine zB [(0, .sl Y1 h0), (1, .sl (.int .i64) order), (2, .fn (.func 91) [] []), (8, .int .i64 (order.getD st1.toNat 0)), (11, .sl (.int .i64) order), (12, .int .i64 (order.length : Int)), (13, .int .i64 st1), (20, .sl (.int .i64) (order.take st1.toNat)), (21, .int .i64 ((order.take st1.toNat).length : Int)), (22, .int .i64 0)] [] ?_
    refine AW.block ?_
    obtain ⟨rv16, hw12, ho13⟩ := Option.bind_eq_some_iff.1 h
    refine AW.loopO (history_keeps_2_b2 h0 order st1) (fun st2 => ⟨fr [(0, .sl Y1 h0), (1, .sl (.int .i64) order), (2, .fn (.func 91) [] []), (8, .int .i64 (order.getD st1.toNat 0)), (11, .sl (.int .i64) order), (12, .int .i64 (order.length : Int)), (13, .int .i64 st1), (20, .sl (.int .i64) (order.take st1.toNat)), (21, .int .i64 ((order.take st1.toNat).length : Int)), (22, .int .i64 st2)], hpGet [], gt⟩) 0 hw12 (zL [] [] []) ?_
    intro st2 x15 h hd14
    unfold history_keeps_2_b2 at h
    refine zo ?_
    refine zB [(0, .sl Y1 h0), (1, .sl (.int .i64) order), (2, .fn (.func 91) [] []), (8, .int .i64 (order.getD st1.toNat 0)), (11, .sl (.int .i64) order), (12, .int .i64 (order.length : Int)), (13, .int .i64 st1), (20, .sl (.int .i64) (order.take st1.toNat)), (21, .int .i64 ((order.take st1.toNat).length : Int)), (22, .int .i64 st2), (23, .bool (decide (st2 < ((order.take st1.toNat).length : Int))))] [] ?_
    refine AW.seq ?_
    refine zQ h (fun hb17 h => ?_) (fun hb17 h => ?_)
    ·refine zk ?_
     refine AW.seq ?_
     refine AW.block ?_
     refine zo ?_
     obtain ⟨c18, h⟩ := ck_some.1 h
     obtain ⟨c19, h⟩ := ck_some.1 h
     refine zB [(0, .sl Y1 h0), (1, .sl (.int .i64) order), (2, .fn (.func 91) [] []), (8, .int .i64 (order.getD st1.toNat 0)), (10, .int .i64 ((order.take st1.toNat).getD st2.toNat 0)), (11, .sl (.int .i64) order), (12, .int .i64 (order.length : Int)), (13, .int .i64 st1), (20, .sl (.int .i64) (order.take st1.toNat)), (21, .int .i64 ((order.take st1.toNat).length : Int)), (22, .int .i64 st2)] [] ?_
     refine AW.seq ?_
     refine AW.draw tab_ok mixed_ok [] [] (by decide) (by kernel_rfl) ?_
     obtain ⟨c21, h⟩ := ck_some.1 h
     obtain ⟨c22, h⟩ := ck_some.1 h
     refine adops_cut 6 (fun K' hK20 => ?_)
     try dsimp only [List.drop_succ_cons, List.drop_zero, List.take_succ_cons, List.take_zero]
     simp only [go_sem, hb6, hb17]
     repeat with_reducible refine zN ?_
     refine hK20 _ ?_
     obtain ⟨c24, h⟩ := ck_some.1 h
     obtain ⟨c25, h⟩ := ck_some.1 h
     refine adops_cut 3 (fun K' hK23 => ?_)
     try dsimp only [List.drop_succ_cons, List.drop_zero, List.take_succ_cons, List.take_zero]
     simp only [go_sem, hb6, hb17]
     repeat with_reducible refine zN ?_
     refine hK23 _ ?_
     obtain ⟨v0, hv26, h⟩ := Option.bind_eq_some_iff.1 h
     refine adops.call (by first | trivial | rfl) rfl rfl rfl (fun _ h => h) [] [] (hc_history_inThread (h0.getD ((order.take st1.toNat).getD st2.toNat 0).toNat (0, 0, 0, 0, 0, 0)) (h0.getD (order.getD st1.toNat 0).toNat (0, 0, 0, 0, 0, 0)) hv26) rfl (by (simp only [go_sem, hb6, hb17]) <;> (with_reducible and_intros) <;> first | assumption | rfl | omega | (unfold maxLen; omega)) (by (simp only [go_sem, hb6, hb17]) <;> (with_reducible and_intros) <;> first | assumption | rfl | omega | (unfold maxLen; omega)) rfl ?_
     refine adops_cut 0 (fun K' hK27 => ?_)
     try dsimp only [List.drop_succ_cons, List.drop_zero, List.take_succ_cons, List.take_zero]
     simp only [go_sem, hb6, hb17]
     repeat with_reducible refine zN ?_
     refine hK27 _ ?_
     refine adops_nil ?_
     refine athen_n ?_
     refine zV [(0, .sl Y1 h0), (1, .sl (.int .i64) order), (2, .fn (.func 91) [] []), (8, .int .i64 (order.getD st1.toNat 0)), (11, .sl (.int .i64) order), (12, .int .i64 (order.length : Int)), (13, .int .i64 st1), (20, .sl (.int .i64) (order.take st1.toNat)), (21, .int .i64 ((order.take st1.toNat).length : Int)), (22, .int .i64 st2), (35, .bool v0)] [] gt ?_
     refine zQ h (fun hb28 h => ?_) (fun hb28 h => ?_)
     ·refine zo ?_
      refine zB [(6, .bool false)] [] ?_
      refine AW.ret ?_
      refine ablock_r ?_
      refine athen_r ?_
      obtain rfl := Option.some.inj h
      rw [← hd14 _ rfl] at ho13
      have h := ho13
      try simp only at h
      refine athen_r ?_
      refine ablock_r ?_
      refine ablock_r ?_
      refine athen_r ?_
      obtain rfl := Option.some.inj h
      rw [← hd3 _ rfl] at ho2
      have h := ho2
      try simp only at h
      refine athen_r ?_
      refine ablock_r ?_
      refine athen_r ?_
      obtain rfl := Option.some.inj h
      exact zR [] [] []
     ·refine zm ?_
      refine athen_n ?_
      refine AW.ops ?_
      obtain ⟨c29, h⟩ := ck_some.1 h
      refine zA [(0, .sl Y1 h0), (1, .sl (.int .i64) order), (2, .fn (.func 91) [] []), (8, .int .i64 (order.getD st1.toNat 0)), (11, .sl (.int .i64) order), (12, .int .i64 (order.length : Int)), (13, .int .i64 st1), (20, .sl (.int .i64) (order.take st1.toNat)), (21, .int .i64 ((order.take st1.toNat).length : Int)), (22, .int .i64 (st2 + 1))] [] ?_
      obtain rfl := Option.some.inj h
      exact ⟨_, rfl, zL [] [] []⟩
    ·refine AW.exit ?_
     refine athen_e ?_
     obtain rfl := Option.some.inj h
     rw [← hd14 _ rfl] at ho13
     have h := ho13
     try simp only at h
     refine athen_e ?_
     refine ablock_s ?_
     refine ablock_n ?_
     refine athen_n ?_
     exact AW.weaken (zL [] [] []) (hk_history_keeps_2_k2 () h)
  ·refine AW.exit ?_
   refine athen_e ?_
   obtain rfl := Option.some.inj h
   rw [← hd3 _ rfl] at ho2
   have h := ho2
   try simp only at h
   refine athen_e ?_
   refine ablock_s ?_
   refine athen_n ?_
   exact AW.weaken (zL [] [] []) (hk_history_keeps_2_k1 () h)

theorem hc_history_Keeps_1 (a0 : ZH) (a1 : List Int) {r : Bool × Bool} (h : history_Keeps_1 a0 a1 = some r) : HC Try.prog 90 [(1000, .box 23 [.sl Y1 a0]), (1001, .box 33 [.sl (.int .i64) a1])] [.bp 1000 0, .bp 1001 0] [(1000, .box 23 [.sl Y1 a0]), (1001, .box 33 [.sl (.int .i64) a1])] (.agg [.bool r.1, .bool r.2]) := by
 unfold history_Keeps_1 at h
 refine zH Try.func90 [.cell 2 87] 10 ?_
 refine zo ?_
 refine zB [(0, .bp 1000 0), (1, .bp 1001 0), (2, .bp 2 0)] [(2, .box 87 [.bool false, .bool false]), (1000, .box 23 [.sl Y1 a0]), (1001, .box 33 [.sl (.int .i64) a1])] ?_
 refine AW.seq ?_
 refine AW.draw tab_ok mixed_ok [(7, [2])] [] (by decide) (by kernel_rfl) ?_
 refine adops_cut 2 (fun K' hK1 => ?_)
 try dsimp only [List.drop_succ_cons, List.drop_zero, List.take_succ_cons, List.take_zero]
 simp only [go_sem]
 repeat with_reducible refine zN ?_
 refine hK1 _ ?_
 obtain ⟨v0, hv2, h⟩ := Option.bind_eq_some_iff.1 h
 refine adops.call (by first | trivial | rfl) rfl rfl rfl (fun _ h => h) [] [] (hc_history_keeps a0 a1 hv2) rfl (by (simp only [go_sem]) <;> (with_reducible and_intros) <;> first | assumption | rfl | omega | (unfold maxLen; omega)) (by (simp only [go_sem]) <;> (with_reducible and_intros) <;> first | assumption | rfl | omega | (unfold maxLen; omega)) rfl ?_
 refine adops_cut 2 (fun K' hK3 => ?_)
 try dsimp only [List.drop_succ_cons, List.drop_zero, List.take_succ_cons, List.take_zero]
 simp only [go_sem]
 repeat with_reducible refine zN ?_
 refine hK3 _ ?_
 obtain ⟨v0_2, hv4, h⟩ := Option.bind_eq_some_iff.1 h
 refine adops.call (by first | trivial | rfl) rfl rfl rfl (fun _ h => h) [] [] (hc_history_keeps_2 a0 a1 hv4) rfl (by (simp only [go_sem]) <;> (with_reducible and_intros) <;> first | assumption | rfl | omega | (unfold maxLen; omega)) (by (simp only [go_sem]) <;> (with_reducible and_intros) <;> first | assumption | rfl | omega | (unfold maxLen; omega)) rfl ?_
 refine adops_cut 2 (fun K' hK5 => ?_)
 try dsimp only [List.drop_succ_cons, List.drop_zero, List.take_succ_cons, List.take_zero]
 simp only [go_sem]
 repeat with_reducible refine zN ?_
 refine hK5 _ ?_
 refine adops_nil ?_
 refine athen_n ?_
 refine zV [(2, .bp 2 0)] [(2, .box 87 [.bool v0, .bool v0_2]), (1000, .box 23 [.sl Y1 a0]), (1001, .box 33 [.sl (.int .i64) a1])] gt ?_
 refine AW.ret ?_
 obtain rfl := Option.some.inj h
 exact zR [] [] []

theorem hc_history_told_3 (err : Int) (c0 : ZH) (c1 : List Int) {r : Bool × Bool × Int} (h : history_told_3 err c0 c1 = some r) : HC Try.prog 89 [(1000, .box 23 [.sl Y1 c0]), (1001, .box 33 [.sl (.int .i64) c1])] [.int .i64 err, .fn (.func 90) [] [.bp 1000 0, .bp 1001 0]] [(1000, .box 23 [.sl Y1 c0]), (1001, .box 33 [.sl (.int .i64) c1])] (.tup [.agg [.bool r.1, .bool r.2.1], .int .i64 r.2.2]) := by
 unfold history_told_3 at h
 refine zH Try.func89 [.cell 4 87, .tmp 5] 13 ?_
 refine zo ?_
 refine zB [(0, .int .i64 err), (1, .fn (.func 90) [] [.bp 1000 0, .bp 1001 0]), (4, .bp 4 0)] [(4, .box 87 [.bool false, .bool false]), (1000, .box 23 [.sl Y1 c0]), (1001, .box 33 [.sl (.int .i64) c1])] ?_
 refine AW.seq ?_
 refine zo ?_
 refine zB [(0, .int .i64 err), (1, .fn (.func 90) [] [.bp 1000 0, .bp 1001 0]), (4, .bp 4 0), (8, .bool (!(decide (err = 0))))] [(4, .box 87 [.bool false, .bool false]), (1000, .box 23 [.sl Y1 c0]), (1001, .box 33 [.sl (.int .i64) c1])] ?_
 refine zQ h (fun hb1 h => ?_) (fun hb1 h => ?_)
 ·refine zo ?_
  refine zB [(0, .int .i64 err), (4, .bp 4 0), (6, .bp 6 0)] [(4, .box 87 [.bool false, .bool false]), (6, .box 87 [.bool false, .bool false]), (1000, .box 23 [.sl Y1 c0]), (1001, .box 33 [.sl (.int .i64) c1])] ?_
  refine zo ?_
  refine zB [(4, .bp 4 0), (5, .int .i64 err)] [(4, .box 87 [.bool false, .bool false]), (1000, .box 23 [.sl Y1 c0]), (1001, .box 33 [.sl (.int .i64) c1])] ?_
  refine zr ?_
  obtain rfl := Option.some.inj h
  exact zR [] [] []
 ·refine zk ?_
  refine zo ?_
  refine zS 1 [(4, .bp 4 0), (11, .fn (.func 90) [] [.bp 1000 0, .bp 1001 0])] [(4, .box 87 [.bool false, .bool false]), (1000, .box 23 [.sl Y1 c0]), (1001, .box 33 [.sl (.int .i64) c1])] ?_
  obtain ⟨v0, hv2, h⟩ := Option.bind_eq_some_iff.1 h
  refine zC [] [(1000, 1000), (1001, 1001)] (hc_history_Keeps_1 c0 c1 hv2) [(4, .bp 4 0), (12, .agg [.bool v0.1, .bool v0.2])] [(4, .box 87 [.bool false, .bool false]), (1000, .box 23 [.sl Y1 c0]), (1001, .box 33 [.sl (.int .i64) c1])] ?_
  refine zB [(4, .bp 4 0), (5, .int .i64 0)] [(4, .box 87 [.bool v0.1, .bool v0.2]), (1000, .box 23 [.sl Y1 c0]), (1001, .box 33 [.sl (.int .i64) c1])] ?_
  refine AW.ret ?_
  obtain rfl := Option.some.inj h
  exact zR [] [] []

theorem hc_history_Keeps (h0 : ZH) (order : List Int) {r : Bool × Bool × Int} (h : history_Keeps h0 order = some r) : HC Try.prog 33 [] [.sl Y1 h0, .sl (.int .i64) order] [] (.tup [.bool r.1, .bool r.2.1, .int .i64 r.2.2]) := by
 unfold history_Keeps at h
 refine zH Try.func33 [.tmp 4, .tmp 5, .tmp 6] 23 ?_
 refine zo ?_
 refine zB [(2, .bp 2 0), (3, .bp 3 0)] [(2, .box 23 [.sl Y1 h0]), (3, .box 33 [.sl (.int .i64) order])] ?_
 refine AW.seq ?_
 refine AW.draw tab_ok mixed_ok [(6, [2, 3]), (10, [7]), (11, [7])] [(0, [2]), (1, [2]), (2, [3]), (3, []), (4, []), (5, [2, 3]), (6, [2, 3, 999998]), (7, []), (8, []), (9, []), (10, [7]), (100011, [])] (by decide) (by kernel_rfl) ?_
 refine adops_cut 3 (fun K' hK1 => ?_)
 try dsimp only [List.drop_succ_cons, List.drop_zero, List.take_succ_cons, List.take_zero]
 simp only [go_sem]
 repeat with_reducible refine zN ?_
 refine hK1 _ ?_
 obtain ⟨v0, hv2, h⟩ := Option.bind_eq_some_iff.1 h
 refine adops.call (by first | trivial | rfl) rfl rfl rfl (fun _ h => h) [] [] (hc_history_isOrder h0 order hv2) rfl (by (simp only [go_sem]) <;> (with_reducible and_intros) <;> first | assumption | rfl | omega | (unfold maxLen; omega)) (by (simp only [go_sem]) <;> (with_reducible and_intros) <;> first | assumption | rfl | omega | (unfold maxLen; omega)) rfl ?_
 obtain ⟨v0_2, hv3, h⟩ := Option.bind_eq_some_iff.1 h
 refine adops.call (by first | trivial | rfl) rfl rfl rfl (fun _ h => h) [] [] (hc_history_check h0 v0 hv3) rfl (by (simp only [go_sem]) <;> (with_reducible and_intros) <;> first | assumption | rfl | omega | (unfold maxLen; omega)) (by (simp only [go_sem]) <;> (with_reducible and_intros) <;> first | assumption | rfl | omega | (unfold maxLen; omega)) rfl ?_
 refine adops_cut 1 (fun K' hK4 => ?_)
 try dsimp only [List.drop_succ_cons, List.drop_zero, List.take_succ_cons, List.take_zero]
 simp only [go_sem]
 repeat with_reducible refine zN ?_
 refine hK4 _ ?_
 obtain ⟨v0_3, hv5, h⟩ := Option.bind_eq_some_iff.1 h
 refine adops.call (by first | trivial | rfl) rfl rfl rfl (fun _ h => h) [] [(1000, 2), (1001, 3)] (hc_history_told_3 v0_2 h0 order hv5) rfl (by (simp only [go_sem]) <;> (with_reducible and_intros) <;> first | assumption | rfl | omega | (unfold maxLen; omega)) (by (simp only [go_sem]) <;> (with_reducible and_intros) <;> first | assumption | rfl | omega | (unfold maxLen; omega)) rfl ?_
 refine adops_cut 6 (fun K' hK6 => ?_)
 try dsimp only [List.drop_succ_cons, List.drop_zero, List.take_succ_cons, List.take_zero]
 simp only [go_sem]
 repeat with_reducible refine zN ?_
 refine hK6 _ ?_
 refine adops_nil ?_
 refine athen_n ?_
 refine zV [(6, .int .i64 v0_3.2.2), (7, .bp 7 0)] [(7, .box 87 [.bool v0_3.1, .bool v0_3.2.1])] gt ?_
 refine AW.seq ?_
 refine AW.draw tab_ok mixed_ok [] [] (by decide) (by kernel_rfl) ?_
 refine adops_cut 6 (fun K' hK7 => ?_)
 try dsimp only [List.drop_succ_cons, List.drop_zero, List.take_succ_cons, List.take_zero]
 simp only [go_sem]
 repeat with_reducible refine zN ?_
 refine hK7 _ ?_
 refine adops_cut 2 (fun K' hK8 => ?_)
 try dsimp only [List.drop_succ_cons, List.drop_zero, List.take_succ_cons, List.take_zero]
 simp only [go_sem]
 repeat with_reducible refine zN ?_
 refine hK8 _ ?_
 refine adops_nil ?_
 refine athen_n ?_
 refine zV [(4, .bool v0_3.1), (5, .bool v0_3.2.1), (6, .int .i64 v0_3.2.2)] [] gt ?_
 refine AW.ret ?_
 obtain rfl := Option.some.inj h
 exact zR [] [] []

theorem hc_linealref02_within (lo : Int) (n : Int) (hi : Int) {r : Bool} (h : linealref02_within lo n hi = some r) : HC Try.prog 68 [] [.int .i64 lo, .int .i64 n, .int .i64 hi] [] (.bool r) := by
 unfold linealref02_within at h
 refine zH Try.func68 [.tmp 6] 15 ?_
 refine zo ?_
 refine zB [(0, .int .i64 lo), (1, .int .i64 n), (2, .int .i64 hi)] [] ?_
 refine zo ?_
 refine zS 4 [(1, .int .i64 n), (2, .int .i64 hi), (10, .bool (decide (lo ≤ n)))] [] ?_
 rcases zI h with ⟨hb1, h⟩ | ⟨hb1, h⟩
 ·refine zB [(6, .bool (decide (n ≤ hi)))] [] ?_
  refine AW.ret ?_
  obtain rfl := Option.some.inj h
  exact zR [] [] []
 ·refine zB [(6, .bool false)] [] ?_
  refine AW.ret ?_
  obtain rfl := Option.some.inj h
  exact zR [] [] []

theorem hc_linealref02_before (c : Int × Int × Int × Int × Int × Int) (d : Int × Int × Int × Int × Int × Int) {r : Bool} (h : linealref02_before c d = some r) : HC Try.prog 69 [] [.agg [.int .i64 c.1, .int .i64 c.2.1, .int .i64 c.2.2.1, .int .i64 c.2.2.2.1, .int .i64 c.2.2.2.2.1, .int .i64 c.2.2.2.2.2], .agg [.int .i64 d.1, .int .i64 d.2.1, .int .i64 d.2.2.1, .int .i64 d.2.2.2.1, .int .i64 d.2.2.2.2.1, .int .i64 d.2.2.2.2.2]] [] (.bool r) := by
 unfold linealref02_before at h
 refine zH Try.func69 [.tmp 4] 15 ?_
 refine zo ?_
 refine zB [(2, .bp 2 0), (3, .bp 3 0)] [(2, .box 55 [.int .i64 c.1, .int .i64 c.2.1, .int .i64 c.2.2.1, .int .i64 c.2.2.2.1, .int .i64 c.2.2.2.2.1, .int .i64 c.2.2.2.2.2]), (3, .box 55 [.int .i64 d.1, .int .i64 d.2.1, .int .i64 d.2.2.1, .int .i64 d.2.2.2.1, .int .i64 d.2.2.2.2.1, .int .i64 d.2.2.2.2.2])] ?_
 refine zo ?_
 refine zS 4 [(2, .bp 2 0), (3, .bp 3 0), (8, .bool (!(decide (c.2.2.2.2.2 = 0))))] [(2, .box 55 [.int .i64 c.1, .int .i64 c.2.1, .int .i64 c.2.2.1, .int .i64 c.2.2.2.1, .int .i64 c.2.2.2.2.1, .int .i64 c.2.2.2.2.2]), (3, .box 55 [.int .i64 d.1, .int .i64 d.2.1, .int .i64 d.2.2.1, .int .i64 d.2.2.2.1, .int .i64 d.2.2.2.2.1, .int .i64 d.2.2.2.2.2])] ?_
 rcases zI h with ⟨hb1, h⟩ | ⟨hb1, h⟩
 ·refine zB [(4, .bool (decide (c.2.2.2.2.2 < d.2.2.2.2.1)))] [] ?_
  refine AW.ret ?_
  obtain rfl := Option.some.inj h
  exact zR [] [] []
 ·refine zS 4 [(8, .bool false), (10, .cv (undef)), (12, .cv (undef))] [] ?_
  refine zB [(4, .bool false)] [] ?_
  refine AW.ret ?_
  obtain rfl := Option.some.inj h
  exact zR [] [] []

theorem hc_linealref02_meets (c : Int × Int × Int × Int × Int × Int) (d : Int × Int × Int × Int × Int × Int) {r : Bool} (h : linealref02_meets c d = some r) : HC Try.prog 72 [] [.agg [.int .i64 c.1, .int .i64 c.2.1, .int .i64 c.2.2.1, .int .i64 c.2.2.2.1, .int .i64 c.2.2.2.2.1, .int .i64 c.2.2.2.2.2], .agg [.int .i64 d.1, .int .i64 d.2.1, .int .i64 d.2.2.1, .int .i64 d.2.2.2.1, .int .i64 d.2.2.2.2.1, .int .i64 d.2.2.2.2.2]] [] (.bool r) := by
 unfold linealref02_meets at h
 refine zH Try.func72 [.tmp 4] 53 ?_
 refine zo ?_
 refine zB [(2, .bp 2 0), (3, .bp 3 0)] [(2, .box 55 [.int .i64 c.1, .int .i64 c.2.1, .int .i64 c.2.2.1, .int .i64 c.2.2.2.1, .int .i64 c.2.2.2.2.1, .int .i64 c.2.2.2.2.2]), (3, .box 55 [.int .i64 d.1, .int .i64 d.2.1, .int .i64 d.2.2.1, .int .i64 d.2.2.2.1, .int .i64 d.2.2.2.2.1, .int .i64 d.2.2.2.2.2])] ?_
 refine AW.have1 (fun _ : Unit => linealref02_meets_k1 c d = some r) (fun _ => ⟨fr [(2, .bp 2 0), (3, .bp 3 0)], hpGet [(2, .box 55 [.int .i64 c.1, .int .i64 c.2.1, .int .i64 c.2.2.1, .int .i64 c.2.2.2.1, .int .i64 c.2.2.2.2.1, .int .i64 c.2.2.2.2.2]), (3, .box 55 [.int .i64 d.1, .int .i64 d.2.1, .int .i64 d.2.2.1, .int .i64 d.2.2.2.1, .int .i64 d.2.2.2.2.1, .int .i64 d.2.2.2.2.2])], gt⟩) (fun _ h => ?_) (fun hk_linealref02_meets_k1 => ?_)
 ·unfold linealref02_meets_k1 at h
  refine zo ?_
  refine zS 6 [(2, .bp 2 0), (3, .bp 3 0), (41, .bool (decide (c.1 = d.1)))] [(2, .box 55 [.int .i64 c.1, .int .i64 c.2.1, .int .i64 c.2.2.1, .int .i64 c.2.2.2.1, .int .i64 c.2.2.2.2.1, .int .i64 c.2.2.2.2.2]), (3, .box 55 [.int .i64 d.1, .int .i64 d.2.1, .int .i64 d.2.2.1, .int .i64 d.2.2.2.1, .int .i64 d.2.2.2.2.1, .int .i64 d.2.2.2.2.2])] ?_
  rcases zI h with ⟨hb1, h⟩ | ⟨hb1, h⟩
  ·refine zS 2 [(2, .bp 2 0), (3, .bp 3 0), (41, .bool true), (42, .agg [.int .i64 c.1, .int .i64 c.2.1, .int .i64 c.2.2.1, .int .i64 c.2.2.2.1, .int .i64 c.2.2.2.2.1, .int .i64 c.2.2.2.2.2]), (43, .agg [.int .i64 d.1, .int .i64 d.2.1, .int .i64 d.2.2.1, .int .i64 d.2.2.2.1, .int .i64 d.2.2.2.2.1, .int .i64 d.2.2.2.2.2])] [(2, .box 55 [.int .i64 c.1, .int .i64 c.2.1, .int .i64 c.2.2.1, .int .i64 c.2.2.2.1, .int .i64 c.2.2.2.2.1, .int .i64 c.2.2.2.2.2]), (3, .box 55 [.int .i64 d.1, .int .i64 d.2.1, .int .i64 d.2.2.1, .int .i64 d.2.2.2.1, .int .i64 d.2.2.2.2.1, .int .i64 d.2.2.2.2.2])] ?_
   obtain ⟨v0, hv2, h⟩ := Option.bind_eq_some_iff.1 h
   refine zG [] [] (hc_linealref02_before c d hv2) [(2, .bp 2 0), (3, .bp 3 0), (41, .bool true), (44, .bool v0)] [(2, .box 55 [.int .i64 c.1, .int .i64 c.2.1, .int .i64 c.2.2.1, .int .i64 c.2.2.2.1, .int .i64 c.2.2.2.2.1, .int .i64 c.2.2.2.2.2]), (3, .box 55 [.int .i64 d.1, .int .i64 d.2.1, .int .i64 d.2.2.1, .int .i64 d.2.2.2.1, .int .i64 d.2.2.2.2.1, .int .i64 d.2.2.2.2.2])] ?_
   refine zS 3 [(2, .bp 2 0), (3, .bp 3 0), (47, .bool (!v0))] [(2, .box 55 [.int .i64 c.1, .int .i64 c.2.1, .int .i64 c.2.2.1, .int .i64 c.2.2.2.1, .int .i64 c.2.2.2.2.1, .int .i64 c.2.2.2.2.2]), (3, .box 55 [.int .i64 d.1, .int .i64 d.2.1, .int .i64 d.2.2.1, .int .i64 d.2.2.2.1, .int .i64 d.2.2.2.2.1, .int .i64 d.2.2.2.2.2])] ?_
   rcases zI h with ⟨hb3, h⟩ | ⟨hb3, h⟩
   ·refine zS 2 [(47, .bool true), (48, .agg [.int .i64 d.1, .int .i64 d.2.1, .int .i64 d.2.2.1, .int .i64 d.2.2.2.1, .int .i64 d.2.2.2.2.1, .int .i64 d.2.2.2.2.2]), (49, .agg [.int .i64 c.1, .int .i64 c.2.1, .int .i64 c.2.2.1, .int .i64 c.2.2.2.1, .int .i64 c.2.2.2.2.1, .int .i64 c.2.2.2.2.2])] [] ?_
    obtain ⟨v0_2, hv4, h⟩ := Option.bind_eq_some_iff.1 h
    refine zG [] [] (hc_linealref02_before d c hv4) [(47, .bool true), (50, .bool v0_2)] [] ?_
    refine zB [(4, .bool (!v0_2))] [] ?_
    refine AW.ret ?_
    obtain rfl := Option.some.inj h
    exact zR [] [] []
   ·refine zS 4 [(47, .bool false), (51, .cv (undef))] [] ?_
    refine zB [(4, .bool false)] [] ?_
    refine AW.ret ?_
    obtain rfl := Option.some.inj h
    exact zR [] [] []
  ·refine zS 4 [(2, .bp 2 0), (3, .bp 3 0), (41, .bool false), (45, .cv (undef))] [(2, .box 55 [.int .i64 c.1, .int .i64 c.2.1, .int .i64 c.2.2.1, .int .i64 c.2.2.2.1, .int .i64 c.2.2.2.2.1, .int .i64 c.2.2.2.2.2]), (3, .box 55 [.int .i64 d.1, .int .i64 d.2.1, .int .i64 d.2.2.1, .int .i64 d.2.2.2.1, .int .i64 d.2.2.2.2.1, .int .i64 d.2.2.2.2.2])] ?_
   refine zS 6 [(47, .bool false), (51, .cv (undef))] [] ?_
   refine zB [(4, .bool false)] [] ?_
   refine AW.ret ?_
   obtain rfl := Option.some.inj h
   exact zR [] [] []
 ·refine AW.seq ?_
  refine zo ?_
  refine zS 6 [(2, .bp 2 0), (3, .bp 3 0), (10, .bool (decide (c.2.2.2.2.1 = d.2.2.2.2.1)))] [(2, .box 55 [.int .i64 c.1, .int .i64 c.2.1, .int .i64 c.2.2.1, .int .i64 c.2.2.2.1, .int .i64 c.2.2.2.2.1, .int .i64 c.2.2.2.2.2]), (3, .box 55 [.int .i64 d.1, .int .i64 d.2.1, .int .i64 d.2.2.1, .int .i64 d.2.2.2.1, .int .i64 d.2.2.2.2.1, .int .i64 d.2.2.2.2.2])] ?_
  rcases zI h with ⟨hb5, h⟩ | ⟨hb5, h⟩
  ·refine zS 4 [(2, .bp 2 0), (3, .bp 3 0), (10, .bool true), (12, .cv (undef)), (14, .cv (undef))] [(2, .box 55 [.int .i64 c.1, .int .i64 c.2.1, .int .i64 c.2.2.1, .int .i64 c.2.2.2.1, .int .i64 c.2.2.2.2.1, .int .i64 c.2.2.2.2.2]), (3, .box 55 [.int .i64 d.1, .int .i64 d.2.1, .int .i64 d.2.2.1, .int .i64 d.2.2.2.1, .int .i64 d.2.2.2.2.1, .int .i64 d.2.2.2.2.2])] ?_
   refine zS 6 [(2, .bp 2 0), (3, .bp 3 0), (17, .bool true), (19, .cv (undef)), (20, .cv (undef))] [(2, .box 55 [.int .i64 c.1, .int .i64 c.2.1, .int .i64 c.2.2.1, .int .i64 c.2.2.2.1, .int .i64 c.2.2.2.2.1, .int .i64 c.2.2.2.2.2]), (3, .box 55 [.int .i64 d.1, .int .i64 d.2.1, .int .i64 d.2.2.1, .int .i64 d.2.2.2.1, .int .i64 d.2.2.2.2.1, .int .i64 d.2.2.2.2.2])] ?_
   refine zS 6 [(2, .bp 2 0), (3, .bp 3 0), (24, .bool true), (26, .cv (undef))] [(2, .box 55 [.int .i64 c.1, .int .i64 c.2.1, .int .i64 c.2.2.1, .int .i64 c.2.2.2.1, .int .i64 c.2.2.2.2.1, .int .i64 c.2.2.2.2.2]), (3, .box 55 [.int .i64 d.1, .int .i64 d.2.1, .int .i64 d.2.2.1, .int .i64 d.2.2.2.1, .int .i64 d.2.2.2.2.1, .int .i64 d.2.2.2.2.2])] ?_
   refine zS 4 [(2, .bp 2 0), (3, .bp 3 0), (24, .bool true), (28, .cv (undef)), (30, .cv (undef))] [(2, .box 55 [.int .i64 c.1, .int .i64 c.2.1, .int .i64 c.2.2.1, .int .i64 c.2.2.2.1, .int .i64 c.2.2.2.2.1, .int .i64 c.2.2.2.2.2]), (3, .box 55 [.int .i64 d.1, .int .i64 d.2.1, .int .i64 d.2.2.1, .int .i64 d.2.2.2.1, .int .i64 d.2.2.2.2.1, .int .i64 d.2.2.2.2.2])] ?_
   refine zS 4 [(2, .bp 2 0), (3, .bp 3 0), (24, .bool true), (34, .cv (undef))] [(2, .box 55 [.int .i64 c.1, .int .i64 c.2.1, .int .i64 c.2.2.1, .int .i64 c.2.2.2.1, .int .i64 c.2.2.2.2.1, .int .i64 c.2.2.2.2.2]), (3, .box 55 [.int .i64 d.1, .int .i64 d.2.1, .int .i64 d.2.2.1, .int .i64 d.2.2.2.1, .int .i64 d.2.2.2.2.1, .int .i64 d.2.2.2.2.2])] ?_
   refine zB [(2, .bp 2 0), (3, .bp 3 0), (35, .bool true)] [(2, .box 55 [.int .i64 c.1, .int .i64 c.2.1, .int .i64 c.2.2.1, .int .i64 c.2.2.2.1, .int .i64 c.2.2.2.2.1, .int .i64 c.2.2.2.2.2]), (3, .box 55 [.int .i64 d.1, .int .i64 d.2.1, .int .i64 d.2.2.1, .int .i64 d.2.2.2.1, .int .i64 d.2.2.2.2.1, .int .i64 d.2.2.2.2.2])] ?_
   refine AW.cond (b := true) rfl (fun _ => ?_) (fun hb6 => by cases hb6)
   refine zo ?_
   refine zB [(4, .bool true)] [] ?_
   refine zr ?_
   obtain rfl := Option.some.inj h
   exact zR [] [] []
  ·refine zS 7 [(2, .bp 2 0), (3, .bp 3 0), (17, .bool (decide (c.2.2.2.2.1 = d.2.2.2.2.2)))] [(2, .box 55 [.int .i64 c.1, .int .i64 c.2.1, .int .i64 c.2.2.1, .int .i64 c.2.2.2.1, .int .i64 c.2.2.2.2.1, .int .i64 c.2.2.2.2.2]), (3, .box 55 [.int .i64 d.1, .int .i64 d.2.1, .int .i64 d.2.2.1, .int .i64 d.2.2.2.1, .int .i64 d.2.2.2.2.1, .int .i64 d.2.2.2.2.2])] ?_
   rcases zI h with ⟨hb7, h⟩ | ⟨hb7, h⟩
   ·refine zS 4 [(2, .bp 2 0), (3, .bp 3 0), (17, .bool true), (19, .cv (undef)), (21, .cv (undef))] [(2, .box 55 [.int .i64 c.1, .int .i64 c.2.1, .int .i64 c.2.2.1, .int .i64 c.2.2.2.1, .int .i64 c.2.2.2.2.1, .int .i64 c.2.2.2.2.2]), (3, .box 55 [.int .i64 d.1, .int .i64 d.2.1, .int .i64 d.2.2.1, .int .i64 d.2.2.2.1, .int .i64 d.2.2.2.2.1, .int .i64 d.2.2.2.2.2])] ?_
    refine zS 6 [(2, .bp 2 0), (3, .bp 3 0), (24, .bool true), (27, .cv (undef))] [(2, .box 55 [.int .i64 c.1, .int .i64 c.2.1, .int .i64 c.2.2.1, .int .i64 c.2.2.2.1, .int .i64 c.2.2.2.2.1, .int .i64 c.2.2.2.2.2]), (3, .box 55 [.int .i64 d.1, .int .i64 d.2.1, .int .i64 d.2.2.1, .int .i64 d.2.2.2.1, .int .i64 d.2.2.2.2.1, .int .i64 d.2.2.2.2.2])] ?_
    refine zS 4 [(2, .bp 2 0), (3, .bp 3 0), (24, .bool true), (28, .cv (undef)), (30, .cv (undef)), (31, .cv (undef))] [(2, .box 55 [.int .i64 c.1, .int .i64 c.2.1, .int .i64 c.2.2.1, .int .i64 c.2.2.2.1, .int .i64 c.2.2.2.2.1, .int .i64 c.2.2.2.2.2]), (3, .box 55 [.int .i64 d.1, .int .i64 d.2.1, .int .i64 d.2.2.1, .int .i64 d.2.2.2.1, .int .i64 d.2.2.2.2.1, .int .i64 d.2.2.2.2.2])] ?_
    refine zB [(2, .bp 2 0), (3, .bp 3 0), (35, .bool true)] [(2, .box 55 [.int .i64 c.1, .int .i64 c.2.1, .int .i64 c.2.2.1, .int .i64 c.2.2.2.1, .int .i64 c.2.2.2.2.1, .int .i64 c.2.2.2.2.2]), (3, .box 55 [.int .i64 d.1, .int .i64 d.2.1, .int .i64 d.2.2.1, .int .i64 d.2.2.2.1, .int .i64 d.2.2.2.2.1, .int .i64 d.2.2.2.2.2])] ?_
    refine AW.cond (b := true) rfl (fun _ => ?_) (fun hb8 => by cases hb8)
    refine zo ?_
    refine zB [(4, .bool true)] [] ?_
    refine zr ?_
    obtain rfl := Option.some.inj h
    exact zR [] [] []
   ·refine zS 7 [(2, .bp 2 0), (3, .bp 3 0), (24, .bool (decide (c.2.2.2.2.2 = d.2.2.2.2.1)))] [(2, .box 55 [.int .i64 c.1, .int .i64 c.2.1, .int .i64 c.2.2.1, .int .i64 c.2.2.2.1, .int .i64 c.2.2.2.2.1, .int .i64 c.2.2.2.2.2]), (3, .box 55 [.int .i64 d.1, .int .i64 d.2.1, .int .i64 d.2.2.1, .int .i64 d.2.2.2.1, .int .i64 d.2.2.2.2.1, .int .i64 d.2.2.2.2.2])] ?_
    rcases zI h with ⟨hb9, h⟩ | ⟨hb9, h⟩
    ·refine zS 4 [(2, .bp 2 0), (3, .bp 3 0), (24, .bool true), (28, .cv (undef))] [(2, .box 55 [.int .i64 c.1, .int .i64 c.2.1, .int .i64 c.2.2.1, .int .i64 c.2.2.2.1, .int .i64 c.2.2.2.2.1, .int .i64 c.2.2.2.2.2]), (3, .box 55 [.int .i64 d.1, .int .i64 d.2.1, .int .i64 d.2.2.1, .int .i64 d.2.2.2.1, .int .i64 d.2.2.2.2.1, .int .i64 d.2.2.2.2.2])] ?_
     refine zS 4 [(2, .bp 2 0), (3, .bp 3 0), (24, .bool true), (28, .cv (undef)), (30, .cv (undef)), (32, .cv (undef))] [(2, .box 55 [.int .i64 c.1, .int .i64 c.2.1, .int .i64 c.2.2.1, .int .i64 c.2.2.2.1, .int .i64 c.2.2.2.2.1, .int .i64 c.2.2.2.2.2]), (3, .box 55 [.int .i64 d.1, .int .i64 d.2.1, .int .i64 d.2.2.1, .int .i64 d.2.2.2.1, .int .i64 d.2.2.2.2.1, .int .i64 d.2.2.2.2.2])] ?_
     refine zB [(2, .bp 2 0), (3, .bp 3 0), (35, .bool true)] [(2, .box 55 [.int .i64 c.1, .int .i64 c.2.1, .int .i64 c.2.2.1, .int .i64 c.2.2.2.1, .int .i64 c.2.2.2.2.1, .int .i64 c.2.2.2.2.2]), (3, .box 55 [.int .i64 d.1, .int .i64 d.2.1, .int .i64 d.2.2.1, .int .i64 d.2.2.2.1, .int .i64 d.2.2.2.2.1, .int .i64 d.2.2.2.2.2])] ?_
     refine AW.cond (b := true) rfl (fun _ => ?_) (fun hb10 => by cases hb10)
     refine zo ?_
     refine zB [(4, .bool true)] [] ?_
     refine zr ?_
     obtain rfl := Option.some.inj h
     exact zR [] [] []
    ·refine zS 4 [(2, .bp 2 0), (3, .bp 3 0), (24, .bool false), (28, .bool (!(decide (c.2.2.2.2.2 = 0))))] [(2, .box 55 [.int .i64 c.1, .int .i64 c.2.1, .int .i64 c.2.2.1, .int .i64 c.2.2.2.1, .int .i64 c.2.2.2.2.1, .int .i64 c.2.2.2.2.2]), (3, .box 55 [.int .i64 d.1, .int .i64 d.2.1, .int .i64 d.2.2.1, .int .i64 d.2.2.2.1, .int .i64 d.2.2.2.2.1, .int .i64 d.2.2.2.2.2])] ?_
     rcases zI h with ⟨hb11, h⟩ | ⟨hb11, h⟩
     ·refine zB [(2, .bp 2 0), (3, .bp 3 0), (35, .bool (decide (c.2.2.2.2.2 = d.2.2.2.2.2)))] [(2, .box 55 [.int .i64 c.1, .int .i64 c.2.1, .int .i64 c.2.2.1, .int .i64 c.2.2.2.1, .int .i64 c.2.2.2.2.1, .int .i64 c.2.2.2.2.2]), (3, .box 55 [.int .i64 d.1, .int .i64 d.2.1, .int .i64 d.2.2.1, .int .i64 d.2.2.2.1, .int .i64 d.2.2.2.2.1, .int .i64 d.2.2.2.2.2])] ?_
      refine zQ h (fun hb12 h => ?_) (fun hb12 h => ?_)
      ·refine zo ?_
       refine zB [(4, .bool true)] [] ?_
       refine zr ?_
       obtain rfl := Option.some.inj h
       exact zR [] [] []
      ·refine zk ?_
       exact AW.weaken (zL [] [] []) (hk_linealref02_meets_k1 () h)
     ·refine zS 4 [(2, .bp 2 0), (3, .bp 3 0), (24, .bool false), (28, .bool false), (30, .cv (undef)), (32, .cv (undef))] [(2, .box 55 [.int .i64 c.1, .int .i64 c.2.1, .int .i64 c.2.2.1, .int .i64 c.2.2.2.1, .int .i64 c.2.2.2.2.1, .int .i64 c.2.2.2.2.2]), (3, .box 55 [.int .i64 d.1, .int .i64 d.2.1, .int .i64 d.2.2.1, .int .i64 d.2.2.2.1, .int .i64 d.2.2.2.2.1, .int .i64 d.2.2.2.2.2])] ?_
      refine zB [(2, .bp 2 0), (3, .bp 3 0), (35, .bool false)] [(2, .box 55 [.int .i64 c.1, .int .i64 c.2.1, .int .i64 c.2.2.1, .int .i64 c.2.2.2.1, .int .i64 c.2.2.2.2.1, .int .i64 c.2.2.2.2.2]), (3, .box 55 [.int .i64 d.1, .int .i64 d.2.1, .int .i64 d.2.2.1, .int .i64 d.2.2.2.1, .int .i64 d.2.2.2.2.1, .int .i64 d.2.2.2.2.2])] ?_
      refine AW.cond (b := false) rfl (fun hb13 => by cases hb13) (fun _ => ?_)
      refine zk ?_
      exact AW.weaken (zL [] [] []) (hk_linealref02_meets_k1 () h)

theorem hc_linealref02_Valid (h0 : ZH) {r : Bool} (h : linealref02_Valid h0 = some r) : HC Try.prog 25 [] [.sl Y1 h0] [] (.bool r) := by
 unfold linealref02_Valid at h
 refine zH Try.func25 [.tmp 2] 80 ?_
 refine zo ?_
 refine zB [(0, .sl Y1 h0)] [] ?_
 refine AW.seq ?_
 refine zo ?_
 refine zB [(0, .sl Y1 h0), (8, .bool (decide (8 < (h0.length : Int))))] [] ?_
 refine zQ h (fun hb1 h => ?_) (fun hb1 h => ?_)
 ·refine zo ?_
  refine zB [(2, .bool false)] [] ?_
  refine zr ?_
  obtain rfl := Option.some.inj h
  exact zR [] [] []
 ·refine zk ?_
  refine AW.have1 (fun _ : Unit => linealref02_Valid_k1 = some r) (fun _ => ⟨fr [], hpGet [], gt⟩) (fun _ h => ?_) (fun hk_linealref02_Valid_k1 => ?_)
  ·unfold linealref02_Valid_k1 at h
   refine zo ?_
   refine zB [(2, .bool true)] [] ?_
   refine AW.ret ?_
   obtain rfl := Option.some.inj h
   exact zR [] [] []
  ·refine AW.seq ?_
   refine zo ?_
   refine zB [(0, .sl Y1 h0), (3, .int .i64 0)] [] ?_
   refine AW.block ?_
   obtain ⟨rv6, hw2, ho3⟩ := Option.bind_eq_some_iff.1 h
   refine AW.loopO (linealref02_Valid_b1 h0) (fun st1 => ⟨fr [(0, .sl Y1 h0), (3, .int .i64 st1)], hpGet [], gt⟩) 0 hw2 (zL [] [] []) ?_
   intro st1 x5 h hd4
   unfold linealref02_Valid_b1 at h
   refine AW.seq ?_
   refine zo ?_
   refine zB [(0, .sl Y1 h0), (3, .int .i64 st1), (12, .bool (decide (st1 < (h0.length : Int))))] [] ?_
   refine zQ h (fun hb7 h => ?_) (fun hb7 h => ?_)
   ·refine zk ?_
    refine AW.have1 (fun _ : Unit => linealref02_Valid_k2 st1 = some x5) (fun _ => ⟨fr [(0, .sl Y1 h0), (3, .int .i64 st1)], hpGet [], gt⟩) (fun _ h => ?_) (fun hk_linealref02_Valid_k2 => ?_)
    ·unfold linealref02_Valid_k2 at h
     refine AW.ops ?_
     obtain ⟨c8, h⟩ := ck_some.1 h
     refine zA [(0, .sl Y1 h0), (3, .int .i64 (st1 + 1))] [] ?_
     obtain rfl := Option.some.inj h
     exact ⟨_, rfl, zL [] [] []⟩
    ·refine AW.seq ?_
     refine AW.block ?_
     refine zo ?_
     obtain ⟨c9, h⟩ := ck_some.1 h
     obtain ⟨c10, h⟩ := ck_some.1 h
     refine zB [(0, .sl Y1 h0), (3, .int .i64 st1), (4, .bp 4 0)] [(4, .box 55 [.int .i64 (h0.getD st1.toNat (0, 0, 0, 0, 0, 0)).1, .int .i64 (h0.getD st1.toNat (0, 0, 0, 0, 0, 0)).2.1, .int .i64 (h0.getD st1.toNat (0, 0, 0, 0, 0, 0)).2.2.1, .int .i64 (h0.getD st1.toNat (0, 0, 0, 0, 0, 0)).2.2.2.1, .int .i64 (h0.getD st1.toNat (0, 0, 0, 0, 0, 0)).2.2.2.2.1, .int .i64 (h0.getD st1.toNat (0, 0, 0, 0, 0, 0)).2.2.2.2.2])] ?_
     refine AW.seq ?_
     refine zo ?_
     refine zS 2 [(0, .sl Y1 h0), (3, .int .i64 st1), (4, .bp 4 0), (20, .int .i64 (h0.getD st1.toNat (0, 0, 0, 0, 0, 0)).1)] [(4, .box 55 [.int .i64 (h0.getD st1.toNat (0, 0, 0, 0, 0, 0)).1, .int .i64 (h0.getD st1.toNat (0, 0, 0, 0, 0, 0)).2.1, .int .i64 (h0.getD st1.toNat (0, 0, 0, 0, 0, 0)).2.2.1, .int .i64 (h0.getD st1.toNat (0, 0, 0, 0, 0, 0)).2.2.2.1, .int .i64 (h0.getD st1.toNat (0, 0, 0, 0, 0, 0)).2.2.2.2.1, .int .i64 (h0.getD st1.toNat (0, 0, 0, 0, 0, 0)).2.2.2.2.2])] ?_
     obtain ⟨v0, hv11, h⟩ := Option.bind_eq_some_iff.1 h
     refine zC [] [] (hc_linealref02_within 0 (h0.getD st1.toNat (0, 0, 0, 0, 0, 0)).1 3 hv11) [(0, .sl Y1 h0), (3, .int .i64 st1), (4, .bp 4 0), (21, .bool v0)] [(4, .box 55 [.int .i64 (h0.getD st1.toNat (0, 0, 0, 0, 0, 0)).1, .int .i64 (h0.getD st1.toNat (0, 0, 0, 0, 0, 0)).2.1, .int .i64 (h0.getD st1.toNat (0, 0, 0, 0, 0, 0)).2.2.1, .int .i64 (h0.getD st1.toNat (0, 0, 0, 0, 0, 0)).2.2.2.1, .int .i64 (h0.getD st1.toNat (0, 0, 0, 0, 0, 0)).2.2.2.2.1, .int .i64 (h0.getD st1.toNat (0, 0, 0, 0, 0, 0)).2.2.2.2.2])] ?_
     refine zS 2 [(0, .sl Y1 h0), (3, .int .i64 st1), (4, .bp 4 0), (23, .bool (!v0))] [(4, .box 55 [.int .i64 (h0.getD st1.toNat (0, 0, 0, 0, 0, 0)).1, .int .i64 (h0.getD st1.toNat (0, 0, 0, 0, 0, 0)).2.1, .int .i64 (h0.getD st1.toNat (0, 0, 0, 0, 0, 0)).2.2.1, .int .i64 (h0.getD st1.toNat (0, 0, 0, 0, 0, 0)).2.2.2.1, .int .i64 (h0.getD st1.toNat (0, 0, 0, 0, 0, 0)).2.2.2.2.1, .int .i64 (h0.getD st1.toNat (0, 0, 0, 0, 0, 0)).2.2.2.2.2])] ?_
     rcases zI h with ⟨hb12, h⟩ | ⟨hb12, h⟩
     ·refine zS 4 [(0, .sl Y1 h0), (3, .int .i64 st1), (4, .bp 4 0), (23, .bool true), (27, .cv (undef))] [(4, .box 55 [.int .i64 (h0.getD st1.toNat (0, 0, 0, 0, 0, 0)).1, .int .i64 (h0.getD st1.toNat (0, 0, 0, 0, 0, 0)).2.1, .int .i64 (h0.getD st1.toNat (0, 0, 0, 0, 0, 0)).2.2.1, .int .i64 (h0.getD st1.toNat (0, 0, 0, 0, 0, 0)).2.2.2.1, .int .i64 (h0.getD st1.toNat (0, 0, 0, 0, 0, 0)).2.2.2.2.1, .int .i64 (h0.getD st1.toNat (0, 0, 0, 0, 0, 0)).2.2.2.2.2])] ?_
      refine zS 6 [(0, .sl Y1 h0), (3, .int .i64 st1), (4, .bp 4 0), (29, .bool true), (33, .cv (undef))] [(4, .box 55 [.int .i64 (h0.getD st1.toNat (0, 0, 0, 0, 0, 0)).1, .int .i64 (h0.getD st1.toNat (0, 0, 0, 0, 0, 0)).2.1, .int .i64 (h0.getD st1.toNat (0, 0, 0, 0, 0, 0)).2.2.1, .int .i64 (h0.getD st1.toNat (0, 0, 0, 0, 0, 0)).2.2.2.1, .int .i64 (h0.getD st1.toNat (0, 0, 0, 0, 0, 0)).2.2.2.2.1, .int .i64 (h0.getD st1.toNat (0, 0, 0, 0, 0, 0)).2.2.2.2.2])] ?_
      refine zS 6 [(0, .sl Y1 h0), (3, .int .i64 st1), (4, .bp 4 0), (35, .bool true), (39, .cv (undef))] [(4, .box 55 [.int .i64 (h0.getD st1.toNat (0, 0, 0, 0, 0, 0)).1, .int .i64 (h0.getD st1.toNat (0, 0, 0, 0, 0, 0)).2.1, .int .i64 (h0.getD st1.toNat (0, 0, 0, 0, 0, 0)).2.2.1, .int .i64 (h0.getD st1.toNat (0, 0, 0, 0, 0, 0)).2.2.2.1, .int .i64 (h0.getD st1.toNat (0, 0, 0, 0, 0, 0)).2.2.2.2.1, .int .i64 (h0.getD st1.toNat (0, 0, 0, 0, 0, 0)).2.2.2.2.2])] ?_
      refine zS 6 [(0, .sl Y1 h0), (3, .int .i64 st1), (4, .bp 4 0), (41, .bool true), (45, .cv (undef))] [(4, .box 55 [.int .i64 (h0.getD st1.toNat (0, 0, 0, 0, 0, 0)).1, .int .i64 (h0.getD st1.toNat (0, 0, 0, 0, 0, 0)).2.1, .int .i64 (h0.getD st1.toNat (0, 0, 0, 0, 0, 0)).2.2.1, .int .i64 (h0.getD st1.toNat (0, 0, 0, 0, 0, 0)).2.2.2.1, .int .i64 (h0.getD st1.toNat (0, 0, 0, 0, 0, 0)).2.2.2.2.1, .int .i64 (h0.getD st1.toNat (0, 0, 0, 0, 0, 0)).2.2.2.2.2])] ?_
      refine zB [(0, .sl Y1 h0), (3, .int .i64 st1), (4, .bp 4 0), (46, .bool true)] [(4, .box 55 [.int .i64 (h0.getD st1.toNat (0, 0, 0, 0, 0, 0)).1, .int .i64 (h0.getD st1.toNat (0, 0, 0, 0, 0, 0)).2.1, .int .i64 (h0.getD st1.toNat (0, 0, 0, 0, 0, 0)).2.2.1, .int .i64 (h0.getD st1.toNat (0, 0, 0, 0, 0, 0)).2.2.2.1, .int .i64 (h0.getD st1.toNat (0, 0, 0, 0, 0, 0)).2.2.2.2.1, .int .i64 (h0.getD st1.toNat (0, 0, 0, 0, 0, 0)).2.2.2.2.2])] ?_
      refine AW.cond (b := true) rfl (fun _ => ?_) (fun hb13 => by cases hb13)
      refine zo ?_
      refine zB [(2, .bool false)] [] ?_
      refine zr ?_
      refine ablock_r ?_
      refine athen_r ?_
      obtain rfl := Option.some.inj h
      rw [← hd4 _ rfl] at ho3
      have h := ho3
      try simp only at h
      refine athen_r ?_
      refine ablock_r ?_
      refine athen_r ?_
      obtain rfl := Option.some.inj h
      exact zR [] [] []
     ·refine zS 2 [(0, .sl Y1 h0), (3, .int .i64 st1), (4, .bp 4 0), (23, .bool false), (25, .int .i64 (h0.getD st1.toNat (0, 0, 0, 0, 0, 0)).2.1)] [(4, .box 55 [.int .i64 (h0.getD st1.toNat (0, 0, 0, 0, 0, 0)).1, .int .i64 (h0.getD st1.toNat (0, 0, 0, 0, 0, 0)).2.1, .int .i64 (h0.getD st1.toNat (0, 0, 0, 0, 0, 0)).2.2.1, .int .i64 (h0.getD st1.toNat (0, 0, 0, 0, 0, 0)).2.2.2.1, .int .i64 (h0.getD st1.toNat (0, 0, 0, 0, 0, 0)).2.2.2.2.1, .int .i64 (h0.getD st1.toNat (0, 0, 0, 0, 0, 0)).2.2.2.2.2])] ?_
      obtain ⟨v0_2, hv14, h⟩ := Option.bind_eq_some_iff.1 h
      refine zG [] [] (hc_linealref02_within 0 (h0.getD st1.toNat (0, 0, 0, 0, 0, 0)).2.1 1 hv14) [(0, .sl Y1 h0), (3, .int .i64 st1), (4, .bp 4 0), (23, .bool false), (26, .bool v0_2)] [(4, .box 55 [.int .i64 (h0.getD st1.toNat (0, 0, 0, 0, 0, 0)).1, .int .i64 (h0.getD st1.toNat (0, 0, 0, 0, 0, 0)).2.1, .int .i64 (h0.getD st1.toNat (0, 0, 0, 0, 0, 0)).2.2.1, .int .i64 (h0.getD st1.toNat (0, 0, 0, 0, 0, 0)).2.2.2.1, .int .i64 (h0.getD st1.toNat (0, 0, 0, 0, 0, 0)).2.2.2.2.1, .int .i64 (h0.getD st1.toNat (0, 0, 0, 0, 0, 0)).2.2.2.2.2])] ?_
      refine zS 3 [(0, .sl Y1 h0), (3, .int .i64 st1), (4, .bp 4 0), (29, .bool (!v0_2))] [(4, .box 55 [.int .i64 (h0.getD st1.toNat (0, 0, 0, 0, 0, 0)).1, .int .i64 (h0.getD st1.toNat (0, 0, 0, 0, 0, 0)).2.1, .int .i64 (h0.getD st1.toNat (0, 0, 0, 0, 0, 0)).2.2.1, .int .i64 (h0.getD st1.toNat (0, 0, 0, 0, 0, 0)).2.2.2.1, .int .i64 (h0.getD st1.toNat (0, 0, 0, 0, 0, 0)).2.2.2.2.1, .int .i64 (h0.getD st1.toNat (0, 0, 0, 0, 0, 0)).2.2.2.2.2])] ?_
      rcases zI h with ⟨hb15, h⟩ | ⟨hb15, h⟩
      ·refine zS 4 [(0, .sl Y1 h0), (3, .int .i64 st1), (4, .bp 4 0), (29, .bool true), (33, .cv (undef))] [(4, .box 55 [.int .i64 (h0.getD st1.toNat (0, 0, 0, 0, 0, 0)).1, .int .i64 (h0.getD st1.toNat (0, 0, 0, 0, 0, 0)).2.1, .int .i64 (h0.getD st1.toNat (0, 0, 0, 0, 0, 0)).2.2.1, .int .i64 (h0.getD st1.toNat (0, 0, 0, 0, 0, 0)).2.2.2.1, .int .i64 (h0.getD st1.toNat (0, 0, 0, 0, 0, 0)).2.2.2.2.1, .int .i64 (h0.getD st1.toNat (0, 0, 0, 0, 0, 0)).2.2.2.2.2])] ?_
       refine zS 6 [(0, .sl Y1 h0), (3, .int .i64 st1), (4, .bp 4 0), (35, .bool true), (39, .cv (undef))] [(4, .box 55 [.int .i64 (h0.getD st1.toNat (0, 0, 0, 0, 0, 0)).1, .int .i64 (h0.getD st1.toNat (0, 0, 0, 0, 0, 0)).2.1, .int .i64 (h0.getD st1.toNat (0, 0, 0, 0, 0, 0)).2.2.1, .int .i64 (h0.getD st1.toNat (0, 0, 0, 0, 0, 0)).2.2.2.1, .int .i64 (h0.getD st1.toNat (0, 0, 0, 0, 0, 0)).2.2.2.2.1, .int .i64 (h0.getD st1.toNat (0, 0, 0, 0, 0, 0)).2.2.2.2.2])] ?_
       refine zS 6 [(0, .sl Y1 h0), (3, .int .i64 st1), (4, .bp 4 0), (41, .bool true), (45, .cv (undef))] [(4, .box 55 [.int .i64 (h0.getD st1.toNat (0, 0, 0, 0, 0, 0)).1, .int .i64 (h0.getD st1.toNat (0, 0, 0, 0, 0, 0)).2.1, .int .i64 (h0.getD st1.toNat (0, 0, 0, 0, 0, 0)).2.2.1, .int .i64 (h0.getD st1.toNat (0, 0, 0, 0, 0, 0)).2.2.2.1, .int .i64 (h0.getD st1.toNat (0, 0, 0, 0, 0, 0)).2.2.2.2.1, .int .i64 (h0.getD st1.toNat (0, 0, 0, 0, 0, 0)).2.2.2.2.2])] ?_
       refine zB [(0, .sl Y1 h0), (3, .int .i64 st1), (4, .bp 4 0), (46, .bool true)] [(4, .box 55 [.int .i64 (h0.getD st1.toNat (0, 0, 0, 0, 0, 0)).1, .int .i64 (h0.getD st1.toNat (0, 0, 0, 0, 0, 0)).2.1, .int .i64 (h0.getD st1.toNat (0, 0, 0, 0, 0, 0)).2.2.1, .int .i64 (h0.getD st1.toNat (0, 0, 0, 0, 0, 0)).2.2.2.1, .int .i64 (h0.getD st1.toNat (0, 0, 0, 0, 0, 0)).2.2.2.2.1, .int .i64 (h0.getD st1.toNat (0, 0, 0, 0, 0, 0)).2.2.2.2.2])] ?_
       refine AW.cond (b := true) rfl (fun _ => ?_) (fun hb16 => by cases hb16)
       refine zo ?_
       refine zB [(2, .bool false)] [] ?_
       refine zr ?_
       refine ablock_r ?_
       refine athen_r ?_
       obtain rfl := Option.some.inj h
       rw [← hd4 _ rfl] at ho3
       have h := ho3
       try simp only at h
       refine athen_r ?_
       refine ablock_r ?_
       refine athen_r ?_
       obtain rfl := Option.some.inj h
       exact zR [] [] []
      ·refine zS 2 [(0, .sl Y1 h0), (3, .int .i64 st1), (4, .bp 4 0), (29, .bool false), (31, .int .i64 (h0.getD st1.toNat (0, 0, 0, 0, 0, 0)).2.2.1)] [(4, .box 55 [.int .i64 (h0.getD st1.toNat (0, 0, 0, 0, 0, 0)).1, .int .i64 (h0.getD st1.toNat (0, 0, 0, 0, 0, 0)).2.1, .int .i64 (h0.getD st1.toNat (0, 0, 0, 0, 0, 0)).2.2.1, .int .i64 (h0.getD st1.toNat (0, 0, 0, 0, 0, 0)).2.2.2.1, .int .i64 (h0.getD st1.toNat (0, 0, 0, 0, 0, 0)).2.2.2.2.1, .int .i64 (h0.getD st1.toNat (0, 0, 0, 0, 0, 0)).2.2.2.2.2])] ?_
       obtain ⟨v0_3, hv17, h⟩ := Option.bind_eq_some_iff.1 h
       refine zG [] [] (hc_linealref02_within 0 (h0.getD st1.toNat (0, 0, 0, 0, 0, 0)).2.2.1 3 hv17) [(0, .sl Y1 h0), (3, .int .i64 st1), (4, .bp 4 0), (29, .bool false), (32, .bool v0_3)] [(4, .box 55 [.int .i64 (h0.getD st1.toNat (0, 0, 0, 0, 0, 0)).1, .int .i64 (h0.getD st1.toNat (0, 0, 0, 0, 0, 0)).2.1, .int .i64 (h0.getD st1.toNat (0, 0, 0, 0, 0, 0)).2.2.1, .int .i64 (h0.getD st1.toNat (0, 0, 0, 0, 0, 0)).2.2.2.1, .int .i64 (h0.getD st1.toNat (0, 0, 0, 0, 0, 0)).2.2.2.2.1, .int .i64 (h0.getD st1.toNat (0, 0, 0, 0, 0, 0)).2.2.2.2.2])] ?_
       refine zS 3 [(0, .sl Y1 h0), (3, .int .i64 st1), (4, .bp 4 0), (35, .bool (!v0_3))] [(4, .box 55 [.int .i64 (h0.getD st1.toNat (0, 0, 0, 0, 0, 0)).1, .int .i64 (h0.getD st1.toNat (0, 0, 0, 0, 0, 0)).2.1, .int .i64 (h0.getD st1.toNat (0, 0, 0, 0, 0, 0)).2.2.1, .int .i64 (h0.getD st1.toNat (0, 0, 0, 0, 0, 0)).2.2.2.1, .int .i64 (h0.getD st1.toNat (0, 0, 0, 0, 0, 0)).2.2.2.2.1, .int .i64 (h0.getD st1.toNat (0, 0, 0, 0, 0, 0)).2.2.2.2.2])] ?_
       rcases zI h with ⟨hb18, h⟩ | ⟨hb18, h⟩
       ·refine zS 4 [(0, .sl Y1 h0), (3, .int .i64 st1), (4, .bp 4 0), (35, .bool true), (39, .cv (undef))] [(4, .box 55 [.int .i64 (h0.getD st1.toNat (0, 0, 0, 0, 0, 0)).1, .int .i64 (h0.getD st1.toNat (0, 0, 0, 0, 0, 0)).2.1, .int .i64 (h0.getD st1.toNat (0, 0, 0, 0, 0, 0)).2.2.1, .int .i64 (h0.getD st1.toNat (0, 0, 0, 0, 0, 0)).2.2.2.1, .int .i64 (h0.getD st1.toNat (0, 0, 0, 0, 0, 0)).2.2.2.2.1, .int .i64 (h0.getD st1.toNat (0, 0, 0, 0, 0, 0)).2.2.2.2.2])] ?_
        refine zS 6 [(0, .sl Y1 h0), (3, .int .i64 st1), (4, .bp 4 0), (41, .bool true), (45, .cv (undef))] [(4, .box 55 [.int .i64 (h0.getD st1.toNat (0, 0, 0, 0, 0, 0)).1, .int .i64 (h0.getD st1.toNat (0, 0, 0, 0, 0, 0)).2.1, .int .i64 (h0.getD st1.toNat (0, 0, 0, 0, 0, 0)).2.2.1, .int .i64 (h0.getD st1.toNat (0, 0, 0, 0, 0, 0)).2.2.2.1, .int .i64 (h0.getD st1.toNat (0, 0, 0, 0, 0, 0)).2.2.2.2.1, .int .i64 (h0.getD st1.toNat (0, 0, 0, 0, 0, 0)).2.2.2.2.2])] ?_
        refine zB [(0, .sl Y1 h0), (3, .int .i64 st1), (4, .bp 4 0), (46, .bool true)] [(4, .box 55 [.int .i64 (h0.getD st1.toNat (0, 0, 0, 0, 0, 0)).1, .int .i64 (h0.getD st1.toNat (0, 0, 0, 0, 0, 0)).2.1, .int .i64 (h0.getD st1.toNat (0, 0, 0, 0, 0, 0)).2.2.1, .int .i64 (h0.getD st1.toNat (0, 0, 0, 0, 0, 0)).2.2.2.1, .int .i64 (h0.getD st1.toNat (0, 0, 0, 0, 0, 0)).2.2.2.2.1, .int .i64 (h0.getD st1.toNat (0, 0, 0, 0, 0, 0)).2.2.2.2.2])] ?_
        refine AW.cond (b := true) rfl (fun _ => ?_) (fun hb19 => by cases hb19)
        refine zo ?_
        refine zB [(2, .bool false)] [] ?_
        refine zr ?_
        refine ablock_r ?_
        refine athen_r ?_
        obtain rfl := Option.some.inj h
        rw [← hd4 _ rfl] at ho3
        have h := ho3
        try simp only at h
        refine athen_r ?_
        refine ablock_r ?_
        refine athen_r ?_
        obtain rfl := Option.some.inj h
        exact zR [] [] []
       ·refine zS 2 [(0, .sl Y1 h0), (3, .int .i64 st1), (4, .bp 4 0), (35, .bool false), (37, .int .i64 (h0.getD st1.toNat (0, 0, 0, 0, 0, 0)).2.2.2.1)] [(4, .box 55 [.int .i64 (h0.getD st1.toNat (0, 0, 0, 0, 0, 0)).1, .int .i64 (h0.getD st1.toNat (0, 0, 0, 0, 0, 0)).2.1, .int .i64 (h0.getD st1.toNat (0, 0, 0, 0, 0, 0)).2.2.1, .int .i64 (h0.getD st1.toNat (0, 0, 0, 0, 0, 0)).2.2.2.1, .int .i64 (h0.getD st1.toNat (0, 0, 0, 0, 0, 0)).2.2.2.2.1, .int .i64 (h0.getD st1.toNat (0, 0, 0, 0, 0, 0)).2.2.2.2.2])] ?_
        obtain ⟨v0_4, hv20, h⟩ := Option.bind_eq_some_iff.1 h
        refine zG [] [] (hc_linealref02_within 0 (h0.getD st1.toNat (0, 0, 0, 0, 0, 0)).2.2.2.1 9 hv20) [(0, .sl Y1 h0), (3, .int .i64 st1), (4, .bp 4 0), (35, .bool false), (38, .bool v0_4)] [(4, .box 55 [.int .i64 (h0.getD st1.toNat (0, 0, 0, 0, 0, 0)).1, .int .i64 (h0.getD st1.toNat (0, 0, 0, 0, 0, 0)).2.1, .int .i64 (h0.getD st1.toNat (0, 0, 0, 0, 0, 0)).2.2.1, .int .i64 (h0.getD st1.toNat (0, 0, 0, 0, 0, 0)).2.2.2.1, .int .i64 (h0.getD st1.toNat (0, 0, 0, 0, 0, 0)).2.2.2.2.1, .int .i64 (h0.getD st1.toNat (0, 0, 0, 0, 0, 0)).2.2.2.2.2])] ?_
        refine zS 3 [(0, .sl Y1 h0), (3, .int .i64 st1), (4, .bp 4 0), (41, .bool (!v0_4))] [(4, .box 55 [.int .i64 (h0.getD st1.toNat (0, 0, 0, 0, 0, 0)).1, .int .i64 (h0.getD st1.toNat (0, 0, 0, 0, 0, 0)).2.1, .int .i64 (h0.getD st1.toNat (0, 0, 0, 0, 0, 0)).2.2.1, .int .i64 (h0.getD st1.toNat (0, 0, 0, 0, 0, 0)).2.2.2.1, .int .i64 (h0.getD st1.toNat (0, 0, 0, 0, 0, 0)).2.2.2.2.1, .int .i64 (h0.getD st1.toNat (0, 0, 0, 0, 0, 0)).2.2.2.2.2])] ?_
        rcases zI h with ⟨hb21, h⟩ | ⟨hb21, h⟩
        ·refine zS 4 [(0, .sl Y1 h0), (3, .int .i64 st1), (4, .bp 4 0), (41, .bool true), (45, .cv (undef))] [(4, .box 55 [.int .i64 (h0.getD st1.toNat (0, 0, 0, 0, 0, 0)).1, .int .i64 (h0.getD st1.toNat (0, 0, 0, 0, 0, 0)).2.1, .int .i64 (h0.getD st1.toNat (0, 0, 0, 0, 0, 0)).2.2.1, .int .i64 (h0.getD st1.toNat (0, 0, 0, 0, 0, 0)).2.2.2.1, .int .i64 (h0.getD st1.toNat (0, 0, 0, 0, 0, 0)).2.2.2.2.1, .int .i64 (h0.getD st1.toNat (0, 0, 0, 0, 0, 0)).2.2.2.2.2])] ?_
         refine zB [(0, .sl Y1 h0), (3, .int .i64 st1), (4, .bp 4 0), (46, .bool true)] [(4, .box 55 [.int .i64 (h0.getD st1.toNat (0, 0, 0, 0, 0, 0)).1, .int .i64 (h0.getD st1.toNat (0, 0, 0, 0, 0, 0)).2.1, .int .i64 (h0.getD st1.toNat (0, 0, 0, 0, 0, 0)).2.2.1, .int .i64 (h0.getD st1.toNat (0, 0, 0, 0, 0, 0)).2.2.2.1, .int .i64 (h0.getD st1.toNat (0, 0, 0, 0, 0, 0)).2.2.2.2.1, .int .i64 (h0.getD st1.toNat (0, 0, 0, 0, 0, 0)).2.2.2.2.2])] ?_
         refine AW.cond (b := true) rfl (fun _ => ?_) (fun hb22 => by cases hb22)
         refine zo ?_
         refine zB [(2, .bool false)] [] ?_
         refine zr ?_
         refine ablock_r ?_
         refine athen_r ?_
         obtain rfl := Option.some.inj h
         rw [← hd4 _ rfl] at ho3
         have h := ho3
         try simp only at h
         refine athen_r ?_
         refine ablock_r ?_
         refine athen_r ?_
         obtain rfl := Option.some.inj h
         exact zR [] [] []
        ·refine zS 2 [(0, .sl Y1 h0), (3, .int .i64 st1), (4, .bp 4 0), (41, .bool false), (43, .int .i64 (h0.getD st1.toNat (0, 0, 0, 0, 0, 0)).2.2.2.2.1)] [(4, .box 55 [.int .i64 (h0.getD st1.toNat (0, 0, 0, 0, 0, 0)).1, .int .i64 (h0.getD st1.toNat (0, 0, 0, 0, 0, 0)).2.1, .int .i64 (h0.getD st1.toNat (0, 0, 0, 0, 0, 0)).2.2.1, .int .i64 (h0.getD st1.toNat (0, 0, 0, 0, 0, 0)).2.2.2.1, .int .i64 (h0.getD st1.toNat (0, 0, 0, 0, 0, 0)).2.2.2.2.1, .int .i64 (h0.getD st1.toNat (0, 0, 0, 0, 0, 0)).2.2.2.2.2])] ?_
         obtain ⟨v0_5, hv23, h⟩ := Option.bind_eq_some_iff.1 h
         refine zG [] [] (hc_linealref02_within 1 (h0.getD st1.toNat (0, 0, 0, 0, 0, 0)).2.2.2.2.1 100 hv23) [(0, .sl Y1 h0), (3, .int .i64 st1), (4, .bp 4 0), (41, .bool false), (44, .bool v0_5)] [(4, .box 55 [.int .i64 (h0.getD st1.toNat (0, 0, 0, 0, 0, 0)).1, .int .i64 (h0.getD st1.toNat (0, 0, 0, 0, 0, 0)).2.1, .int .i64 (h0.getD st1.toNat (0, 0, 0, 0, 0, 0)).2.2.1, .int .i64 (h0.getD st1.toNat (0, 0, 0, 0, 0, 0)).2.2.2.1, .int .i64 (h0.getD st1.toNat (0, 0, 0, 0, 0, 0)).2.2.2.2.1, .int .i64 (h0.getD st1.toNat (0, 0, 0, 0, 0, 0)).2.2.2.2.2])] ?_
         refine zB [(0, .sl Y1 h0), (3, .int .i64 st1), (4, .bp 4 0), (46, .bool (!v0_5))] [(4, .box 55 [.int .i64 (h0.getD st1.toNat (0, 0, 0, 0, 0, 0)).1, .int .i64 (h0.getD st1.toNat (0, 0, 0, 0, 0, 0)).2.1, .int .i64 (h0.getD st1.toNat (0, 0, 0, 0, 0, 0)).2.2.1, .int .i64 (h0.getD st1.toNat (0, 0, 0, 0, 0, 0)).2.2.2.1, .int .i64 (h0.getD st1.toNat (0, 0, 0, 0, 0, 0)).2.2.2.2.1, .int .i64 (h0.getD st1.toNat (0, 0, 0, 0, 0, 0)).2.2.2.2.2])] ?_
         refine zQ h (fun hb24 h => ?_) (fun hb24 h => ?_)
         ·refine zo ?_
          refine zB [(2, .bool false)] [] ?_
          refine zr ?_
          refine ablock_r ?_
          refine athen_r ?_
          obtain rfl := Option.some.inj h
          rw [← hd4 _ rfl] at ho3
          have h := ho3
          try simp only at h
          refine athen_r ?_
          refine ablock_r ?_
          refine athen_r ?_
          obtain rfl := Option.some.inj h
          exact zR [] [] []
         ·refine zk ?_
          refine AW.have2 (fun _ : Unit => linealref02_Valid_k3 h0 st1 = some x5) (fun _ => ⟨fr [(0, .sl Y1 h0), (3, .int .i64 st1), (4, .bp 4 0), (5, .int .i64 0)], hpGet [(4, .box 55 [.int .i64 (h0.getD st1.toNat (0, 0, 0, 0, 0, 0)).1, .int .i64 (h0.getD st1.toNat (0, 0, 0, 0, 0, 0)).2.1, .int .i64 (h0.getD st1.toNat (0, 0, 0, 0, 0, 0)).2.2.1, .int .i64 (h0.getD st1.toNat (0, 0, 0, 0, 0, 0)).2.2.2.1, .int .i64 (h0.getD st1.toNat (0, 0, 0, 0, 0, 0)).2.2.2.2.1, .int .i64 (h0.getD st1.toNat (0, 0, 0, 0, 0, 0)).2.2.2.2.2])], gt⟩) (fun _ h => ?_) (fun hk_linealref02_Valid_k3 => ?_)
          ·unfold linealref02_Valid_k3 at h
           refine AW.block ?_
           obtain ⟨rv29, hw25, ho26⟩ := Option.bind_eq_some_iff.1 h
           refine AW.loopO (linealref02_Valid_b2 h0 st1) (fun st2 => ⟨fr [(0, .sl Y1 h0), (3, .int .i64 st1), (4, .bp 4 0), (5, .int .i64 st2)], hpGet [(4, .box 55 [.int .i64 (h0.getD st1.toNat (0, 0, 0, 0, 0, 0)).1, .int .i64 (h0.getD st1.toNat (0, 0, 0, 0, 0, 0)).2.1, .int .i64 (h0.getD st1.toNat (0, 0, 0, 0, 0, 0)).2.2.1, .int .i64 (h0.getD st1.toNat (0, 0, 0, 0, 0, 0)).2.2.2.1, .int .i64 (h0.getD st1.toNat (0, 0, 0, 0, 0, 0)).2.2.2.2.1, .int .i64 (h0.getD st1.toNat (0, 0, 0, 0, 0, 0)).2.2.2.2.2])], gt⟩) 0 hw25 (zL [] [] []) ?_
           intro st2 x28 h hd27
           unfold linealref02_Valid_b2 at h
           refine AW.seq ?_
           refine zo ?_
           refine zB [(0, .sl Y1 h0), (3, .int .i64 st1), (4, .bp 4 0), (5, .int .i64 st2), (71, .bool (decide (st2 < st1)))] [(4, .box 55 [.int .i64 (h0.getD st1.toNat (0, 0, 0, 0, 0, 0)).1, .int .i64 (h0.getD st1.toNat (0, 0, 0, 0, 0, 0)).2.1, .int .i64 (h0.getD st1.toNat (0, 0, 0, 0, 0, 0)).2.2.1, .int .i64 (h0.getD st1.toNat (0, 0, 0, 0, 0, 0)).2.2.2.1, .int .i64 (h0.getD st1.toNat (0, 0, 0, 0, 0, 0)).2.2.2.2.1, .int .i64 (h0.getD st1.toNat (0, 0, 0, 0, 0, 0)).2.2.2.2.2])] ?_
           refine zQ h (fun hb30 h => ?_) (fun hb30 h => ?_)
           ·refine zk ?_
            refine AW.seq ?_
            refine AW.block ?_
            refine AW.seq ?_
            refine AW.draw tab_ok mixed_ok [] [] (by decide) (by kernel_rfl) ?_
            obtain ⟨c32, h⟩ := ck_some.1 h
            obtain ⟨c33, h⟩ := ck_some.1 h
            refine adops_cut 5 (fun K' hK31 => ?_)
            try dsimp only [List.drop_succ_cons, List.drop_zero, List.take_succ_cons, List.take_zero]
            simp only [go_sem, hb1, hb7, hb12, hb15, hb18, hb21, hb24, hb30]
            repeat with_reducible refine zN ?_
            refine hK31 _ ?_
            obtain ⟨v0_7, hv34, h⟩ := Option.bind_eq_some_iff.1 h
            refine adops.call (by first | trivial | rfl) rfl rfl rfl (fun _ h => h) [] [] (hc_linealref02_meets (h0.getD st1.toNat (0, 0, 0, 0, 0, 0)) (h0.getD st2.toNat (0, 0, 0, 0, 0, 0)) hv34) rfl (by (simp only [go_sem, hb1, hb7, hb12, hb15, hb18, hb21, hb24, hb30]) <;> (with_reducible and_intros) <;> first | assumption | rfl | omega | (unfold maxLen; omega)) (by (simp only [go_sem, hb1, hb7, hb12, hb15, hb18, hb21, hb24, hb30]) <;> (with_reducible and_intros) <;> first | assumption | rfl | omega | (unfold maxLen; omega)) rfl ?_
            refine adops_cut 0 (fun K' hK35 => ?_)
            try dsimp only [List.drop_succ_cons, List.drop_zero, List.take_succ_cons, List.take_zero]
            simp only [go_sem, hb1, hb7, hb12, hb15, hb18, hb21, hb24, hb30]
            repeat with_reducible refine zN ?_
            refine hK35 _ ?_
            refine adops_nil ?_
            refine athen_n ?_
            refine zV [(0, .sl Y1 h0), (3, .int .i64 st1), (4, .bp 4 0), (5, .int .i64 st2), (79, .bool v0_7)] [(4, .box 55 [.int .i64 (h0.getD st1.toNat (0, 0, 0, 0, 0, 0)).1, .int .i64 (h0.getD st1.toNat (0, 0, 0, 0, 0, 0)).2.1, .int .i64 (h0.getD st1.toNat (0, 0, 0, 0, 0, 0)).2.2.1, .int .i64 (h0.getD st1.toNat (0, 0, 0, 0, 0, 0)).2.2.2.1, .int .i64 (h0.getD st1.toNat (0, 0, 0, 0, 0, 0)).2.2.2.2.1, .int .i64 (h0.getD st1.toNat (0, 0, 0, 0, 0, 0)).2.2.2.2.2])] gt ?_
            refine zQ h (fun hb36 h => ?_) (fun hb36 h => ?_)
            ·refine zo ?_
             refine zB [(2, .bool false)] [] ?_
             refine AW.ret ?_
             refine ablock_r ?_
             refine athen_r ?_
             obtain rfl := Option.some.inj h
             rw [← hd27 _ rfl] at ho26
             have h := ho26
             try simp only at h
             refine athen_r ?_
             refine ablock_r ?_
             refine ablock_r ?_
             refine athen_r ?_
             obtain rfl := Option.some.inj h
             rw [← hd4 _ rfl] at ho3
             have h := ho3
             try simp only at h
             refine athen_r ?_
             refine ablock_r ?_
             refine athen_r ?_
             obtain rfl := Option.some.inj h
             exact zR [] [] []
            ·refine zm ?_
             refine athen_n ?_
             refine AW.ops ?_
             obtain ⟨c37, h⟩ := ck_some.1 h
             refine zA [(0, .sl Y1 h0), (3, .int .i64 st1), (4, .bp 4 0), (5, .int .i64 (st2 + 1))] [(4, .box 55 [.int .i64 (h0.getD st1.toNat (0, 0, 0, 0, 0, 0)).1, .int .i64 (h0.getD st1.toNat (0, 0, 0, 0, 0, 0)).2.1, .int .i64 (h0.getD st1.toNat (0, 0, 0, 0, 0, 0)).2.2.1, .int .i64 (h0.getD st1.toNat (0, 0, 0, 0, 0, 0)).2.2.2.1, .int .i64 (h0.getD st1.toNat (0, 0, 0, 0, 0, 0)).2.2.2.2.1, .int .i64 (h0.getD st1.toNat (0, 0, 0, 0, 0, 0)).2.2.2.2.2])] ?_
             obtain rfl := Option.some.inj h
             exact ⟨_, rfl, zL [] [] []⟩
           ·refine AW.exit ?_
            refine athen_e ?_
            obtain rfl := Option.some.inj h
            rw [← hd27 _ rfl] at ho26
            have h := ho26
            try simp only at h
            refine athen_e ?_
            refine ablock_s ?_
            refine ablock_n ?_
            refine athen_n ?_
            exact AW.weaken (zL [] [] []) (hk_linealref02_Valid_k2 () h)
          ·refine AW.seq ?_
           refine zo ?_
           refine zS 4 [(0, .sl Y1 h0), (3, .int .i64 st1), (4, .bp 4 0), (50, .bool (decide ((h0.getD st1.toNat (0, 0, 0, 0, 0, 0)).2.2.2.2.2 = 0)))] [(4, .box 55 [.int .i64 (h0.getD st1.toNat (0, 0, 0, 0, 0, 0)).1, .int .i64 (h0.getD st1.toNat (0, 0, 0, 0, 0, 0)).2.1, .int .i64 (h0.getD st1.toNat (0, 0, 0, 0, 0, 0)).2.2.1, .int .i64 (h0.getD st1.toNat (0, 0, 0, 0, 0, 0)).2.2.2.1, .int .i64 (h0.getD st1.toNat (0, 0, 0, 0, 0, 0)).2.2.2.2.1, .int .i64 (h0.getD st1.toNat (0, 0, 0, 0, 0, 0)).2.2.2.2.2])] ?_
           rcases zI h with ⟨hb38, h⟩ | ⟨hb38, h⟩
           ·refine zS 5 [(0, .sl Y1 h0), (3, .int .i64 st1), (4, .bp 4 0), (55, .bool (!(decide ((h0.getD st1.toNat (0, 0, 0, 0, 0, 0)).2.2.2.1 = 0))))] [(4, .box 55 [.int .i64 (h0.getD st1.toNat (0, 0, 0, 0, 0, 0)).1, .int .i64 (h0.getD st1.toNat (0, 0, 0, 0, 0, 0)).2.1, .int .i64 (h0.getD st1.toNat (0, 0, 0, 0, 0, 0)).2.2.1, .int .i64 (h0.getD st1.toNat (0, 0, 0, 0, 0, 0)).2.2.2.1, .int .i64 (h0.getD st1.toNat (0, 0, 0, 0, 0, 0)).2.2.2.2.1, .int .i64 (h0.getD st1.toNat (0, 0, 0, 0, 0, 0)).2.2.2.2.2])] ?_
            rcases zI h with ⟨hb39, h⟩ | ⟨hb39, h⟩
            ·refine zS 4 [(0, .sl Y1 h0), (3, .int .i64 st1), (4, .bp 4 0), (55, .bool true), (59, .cv (undef))] [(4, .box 55 [.int .i64 (h0.getD st1.toNat (0, 0, 0, 0, 0, 0)).1, .int .i64 (h0.getD st1.toNat (0, 0, 0, 0, 0, 0)).2.1, .int .i64 (h0.getD st1.toNat (0, 0, 0, 0, 0, 0)).2.2.1, .int .i64 (h0.getD st1.toNat (0, 0, 0, 0, 0, 0)).2.2.2.1, .int .i64 (h0.getD st1.toNat (0, 0, 0, 0, 0, 0)).2.2.2.2.1, .int .i64 (h0.getD st1.toNat (0, 0, 0, 0, 0, 0)).2.2.2.2.2])] ?_
             refine zS 4 [(0, .sl Y1 h0), (3, .int .i64 st1), (4, .bp 4 0), (55, .bool true), (59, .cv (undef)), (62, .cv (undef)), (63, .cv (undef))] [(4, .box 55 [.int .i64 (h0.getD st1.toNat (0, 0, 0, 0, 0, 0)).1, .int .i64 (h0.getD st1.toNat (0, 0, 0, 0, 0, 0)).2.1, .int .i64 (h0.getD st1.toNat (0, 0, 0, 0, 0, 0)).2.2.1, .int .i64 (h0.getD st1.toNat (0, 0, 0, 0, 0, 0)).2.2.2.1, .int .i64 (h0.getD st1.toNat (0, 0, 0, 0, 0, 0)).2.2.2.2.1, .int .i64 (h0.getD st1.toNat (0, 0, 0, 0, 0, 0)).2.2.2.2.2])] ?_
             refine zS 4 [(0, .sl Y1 h0), (3, .int .i64 st1), (4, .bp 4 0), (55, .bool true), (67, .cv (undef))] [(4, .box 55 [.int .i64 (h0.getD st1.toNat (0, 0, 0, 0, 0, 0)).1, .int .i64 (h0.getD st1.toNat (0, 0, 0, 0, 0, 0)).2.1, .int .i64 (h0.getD st1.toNat (0, 0, 0, 0, 0, 0)).2.2.1, .int .i64 (h0.getD st1.toNat (0, 0, 0, 0, 0, 0)).2.2.2.1, .int .i64 (h0.getD st1.toNat (0, 0, 0, 0, 0, 0)).2.2.2.2.1, .int .i64 (h0.getD st1.toNat (0, 0, 0, 0, 0, 0)).2.2.2.2.2])] ?_
             refine zB [(0, .sl Y1 h0), (3, .int .i64 st1), (4, .bp 4 0), (68, .bool true)] [(4, .box 55 [.int .i64 (h0.getD st1.toNat (0, 0, 0, 0, 0, 0)).1, .int .i64 (h0.getD st1.toNat (0, 0, 0, 0, 0, 0)).2.1, .int .i64 (h0.getD st1.toNat (0, 0, 0, 0, 0, 0)).2.2.1, .int .i64 (h0.getD st1.toNat (0, 0, 0, 0, 0, 0)).2.2.2.1, .int .i64 (h0.getD st1.toNat (0, 0, 0, 0, 0, 0)).2.2.2.2.1, .int .i64 (h0.getD st1.toNat (0, 0, 0, 0, 0, 0)).2.2.2.2.2])] ?_
             refine AW.cond (b := true) rfl (fun _ => ?_) (fun hb40 => by cases hb40)
             refine zo ?_
             refine zB [(2, .bool false)] [] ?_
             refine zr ?_
             refine ablock_r ?_
             refine athen_r ?_
             obtain rfl := Option.some.inj h
             rw [← hd4 _ rfl] at ho3
             have h := ho3
             try simp only at h
             refine athen_r ?_
             refine ablock_r ?_
             refine athen_r ?_
             obtain rfl := Option.some.inj h
             exact zR [] [] []
            ·refine zS 8 [(0, .sl Y1 h0), (3, .int .i64 st1), (4, .bp 4 0), (55, .bool false), (59, .bool false), (62, .cv (undef)), (63, .cv (undef))] [(4, .box 55 [.int .i64 (h0.getD st1.toNat (0, 0, 0, 0, 0, 0)).1, .int .i64 (h0.getD st1.toNat (0, 0, 0, 0, 0, 0)).2.1, .int .i64 (h0.getD st1.toNat (0, 0, 0, 0, 0, 0)).2.2.1, .int .i64 (h0.getD st1.toNat (0, 0, 0, 0, 0, 0)).2.2.2.1, .int .i64 (h0.getD st1.toNat (0, 0, 0, 0, 0, 0)).2.2.2.2.1, .int .i64 (h0.getD st1.toNat (0, 0, 0, 0, 0, 0)).2.2.2.2.2])] ?_
             refine zB [(0, .sl Y1 h0), (3, .int .i64 st1), (4, .bp 4 0), (68, .bool false)] [(4, .box 55 [.int .i64 (h0.getD st1.toNat (0, 0, 0, 0, 0, 0)).1, .int .i64 (h0.getD st1.toNat (0, 0, 0, 0, 0, 0)).2.1, .int .i64 (h0.getD st1.toNat (0, 0, 0, 0, 0, 0)).2.2.1, .int .i64 (h0.getD st1.toNat (0, 0, 0, 0, 0, 0)).2.2.2.1, .int .i64 (h0.getD st1.toNat (0, 0, 0, 0, 0, 0)).2.2.2.2.1, .int .i64 (h0.getD st1.toNat (0, 0, 0, 0, 0, 0)).2.2.2.2.2])] ?_
             refine AW.cond (b := false) rfl (fun hb41 => by cases hb41) (fun _ => ?_)
             refine zk ?_
             refine zo ?_
             refine zB [(0, .sl Y1 h0), (3, .int .i64 st1), (4, .bp 4 0), (5, .int .i64 0)] [(4, .box 55 [.int .i64 (h0.getD st1.toNat (0, 0, 0, 0, 0, 0)).1, .int .i64 (h0.getD st1.toNat (0, 0, 0, 0, 0, 0)).2.1, .int .i64 (h0.getD st1.toNat (0, 0, 0, 0, 0, 0)).2.2.1, .int .i64 (h0.getD st1.toNat (0, 0, 0, 0, 0, 0)).2.2.2.1, .int .i64 (h0.getD st1.toNat (0, 0, 0, 0, 0, 0)).2.2.2.2.1, .int .i64 (h0.getD st1.toNat (0, 0, 0, 0, 0, 0)).2.2.2.2.2])] ?_
             exact AW.weaken (zL [] [] []) (hk_linealref02_Valid_k3 () h)
           ·obtain ⟨c42, h⟩ := ck_some.1 h
            refine zS 14 [(0, .sl Y1 h0), (3, .int .i64 st1), (4, .bp 4 0), (55, .bool false), (59, .bool true), (62, .int .i64 ((h0.getD st1.toNat (0, 0, 0, 0, 0, 0)).2.2.2.2.1 + 1)), (64, .int .i64 (h0.getD st1.toNat (0, 0, 0, 0, 0, 0)).2.2.2.2.2)] [(4, .box 55 [.int .i64 (h0.getD st1.toNat (0, 0, 0, 0, 0, 0)).1, .int .i64 (h0.getD st1.toNat (0, 0, 0, 0, 0, 0)).2.1, .int .i64 (h0.getD st1.toNat (0, 0, 0, 0, 0, 0)).2.2.1, .int .i64 (h0.getD st1.toNat (0, 0, 0, 0, 0, 0)).2.2.2.1, .int .i64 (h0.getD st1.toNat (0, 0, 0, 0, 0, 0)).2.2.2.2.1, .int .i64 (h0.getD st1.toNat (0, 0, 0, 0, 0, 0)).2.2.2.2.2])] ?_
            obtain ⟨v0_6, hv43, h⟩ := Option.bind_eq_some_iff.1 h
            refine zG [] [] (hc_linealref02_within ((h0.getD st1.toNat (0, 0, 0, 0, 0, 0)).2.2.2.2.1 + 1) (h0.getD st1.toNat (0, 0, 0, 0, 0, 0)).2.2.2.2.2 100 hv43) [(0, .sl Y1 h0), (3, .int .i64 st1), (4, .bp 4 0), (55, .bool false), (59, .bool true), (65, .bool v0_6)] [(4, .box 55 [.int .i64 (h0.getD st1.toNat (0, 0, 0, 0, 0, 0)).1, .int .i64 (h0.getD st1.toNat (0, 0, 0, 0, 0, 0)).2.1, .int .i64 (h0.getD st1.toNat (0, 0, 0, 0, 0, 0)).2.2.1, .int .i64 (h0.getD st1.toNat (0, 0, 0, 0, 0, 0)).2.2.2.1, .int .i64 (h0.getD st1.toNat (0, 0, 0, 0, 0, 0)).2.2.2.2.1, .int .i64 (h0.getD st1.toNat (0, 0, 0, 0, 0, 0)).2.2.2.2.2])] ?_
            refine zB [(0, .sl Y1 h0), (3, .int .i64 st1), (4, .bp 4 0), (68, .bool (!v0_6))] [(4, .box 55 [.int .i64 (h0.getD st1.toNat (0, 0, 0, 0, 0, 0)).1, .int .i64 (h0.getD st1.toNat (0, 0, 0, 0, 0, 0)).2.1, .int .i64 (h0.getD st1.toNat (0, 0, 0, 0, 0, 0)).2.2.1, .int .i64 (h0.getD st1.toNat (0, 0, 0, 0, 0, 0)).2.2.2.1, .int .i64 (h0.getD st1.toNat (0, 0, 0, 0, 0, 0)).2.2.2.2.1, .int .i64 (h0.getD st1.toNat (0, 0, 0, 0, 0, 0)).2.2.2.2.2])] ?_
            refine zQ h (fun hb44 h => ?_) (fun hb44 h => ?_)
            ·refine zo ?_
             refine zB [(2, .bool false)] [] ?_
             refine zr ?_
             refine ablock_r ?_
             refine athen_r ?_
             obtain rfl := Option.some.inj h
             rw [← hd4 _ rfl] at ho3
             have h := ho3
             try simp only at h
             refine athen_r ?_
             refine ablock_r ?_
             refine athen_r ?_
             obtain rfl := Option.some.inj h
             exact zR [] [] []
            ·refine zk ?_
             refine zo ?_
             refine zB [(0, .sl Y1 h0), (3, .int .i64 st1), (4, .bp 4 0), (5, .int .i64 0)] [(4, .box 55 [.int .i64 (h0.getD st1.toNat (0, 0, 0, 0, 0, 0)).1, .int .i64 (h0.getD st1.toNat (0, 0, 0, 0, 0, 0)).2.1, .int .i64 (h0.getD st1.toNat (0, 0, 0, 0, 0, 0)).2.2.1, .int .i64 (h0.getD st1.toNat (0, 0, 0, 0, 0, 0)).2.2.2.1, .int .i64 (h0.getD st1.toNat (0, 0, 0, 0, 0, 0)).2.2.2.2.1, .int .i64 (h0.getD st1.toNat (0, 0, 0, 0, 0, 0)).2.2.2.2.2])] ?_
             exact AW.weaken (zL [] [] []) (hk_linealref02_Valid_k3 () h)
   ·refine AW.exit ?_
    refine athen_e ?_
    obtain rfl := Option.some.inj h
    rw [← hd4 _ rfl] at ho3
    have h := ho3
    try simp only at h
    refine athen_e ?_
    refine ablock_s ?_
    refine athen_n ?_
    exact AW.weaken (zL [] [] []) (hk_linealref02_Valid_k1 () h)

theorem hc_lineallaw02_Large (specs : ZS) {r : Bool} (h : lineallaw02_Large specs = some r) : HC Try.prog 17 [] [.sl Y0 specs] [] (.bool r) := by
 unfold lineallaw02_Large at h
 refine zH Try.func17 [.tmp 2] 58 ?_
 refine zo ?_
 refine zB [(0, .sl Y0 specs)] [] ?_
 refine AW.have1 (fun _ : Unit => lineallaw02_Large_k1 specs = some r) (fun _ => ⟨fr [(0, .sl Y0 specs)], hpGet [], gt⟩) (fun _ h => ?_) (fun hk_lineallaw02_Large_k1 => ?_)
 ·unfold lineallaw02_Large_k1 at h
  refine zo ?_
  refine zB [(2, .bool (decide (5 < (specs.length : Int))))] [] ?_
  refine AW.ret ?_
  obtain rfl := Option.some.inj h
  exact zR [] [] []
 ·refine AW.seq ?_
  refine zo ?_
  refine zB [(0, .sl Y0 specs), (3, .int .i64 0)] [] ?_
  refine AW.block ?_
  obtain ⟨rv5, hw1, ho2⟩ := Option.bind_eq_some_iff.1 h
  refine AW.loopO (lineallaw02_Large_b1 specs) (fun st1 => ⟨fr [(0, .sl Y0 specs), (3, .int .i64 st1)], hpGet [], gt⟩) 0 hw1 (zL [] [] []) ?_
  intro st1 x4 h hd3
  unfold lineallaw02_Large_b1 at h
  refine AW.seq ?_
  refine zo ?_
  refine zB [(0, .sl Y0 specs), (3, .int .i64 st1), (10, .bool (decide (st1 < (specs.length : Int))))] [] ?_
  refine zQ h (fun hb6 h => ?_) (fun hb6 h => ?_)
  ·refine zk ?_
   refine AW.have1 (fun _ : Unit => lineallaw02_Large_k2 st1 = some x4) (fun _ => ⟨fr [(0, .sl Y0 specs), (3, .int .i64 st1)], hpGet [], gt⟩) (fun _ h => ?_) (fun hk_lineallaw02_Large_k2 => ?_)
   ·unfold lineallaw02_Large_k2 at h
    refine AW.ops ?_
    obtain ⟨c7, h⟩ := ck_some.1 h
    refine zA [(0, .sl Y0 specs), (3, .int .i64 (st1 + 1))] [] ?_
    obtain rfl := Option.some.inj h
    exact ⟨_, rfl, zL [] [] []⟩
   ·refine AW.seq ?_
    refine AW.block ?_
    refine zo ?_
    obtain ⟨c8, h⟩ := ck_some.1 h
    obtain ⟨c9, h⟩ := ck_some.1 h
    refine zB [(0, .sl Y0 specs), (3, .int .i64 st1), (4, .bp 4 0)] [(4, .box 64 [.int .i64 (specs.getD st1.toNat (0, 0, [], [])).1, .int .i64 (specs.getD st1.toNat (0, 0, [], [])).2.1, .sl (.sl (.int .i64)) (specs.getD st1.toNat (0, 0, [], [])).2.2.1, .sl (.sl (.int .i64)) (specs.getD st1.toNat (0, 0, [], [])).2.2.2])] ?_
    refine AW.seq ?_
    refine zo ?_
    refine zS 5 [(0, .sl Y0 specs), (3, .int .i64 st1), (4, .bp 4 0), (21, .bool (decide (20 < ((specs.getD st1.toNat (0, 0, [], [])).2.2.1.length : Int))))] [(4, .box 64 [.int .i64 (specs.getD st1.toNat (0, 0, [], [])).1, .int .i64 (specs.getD st1.toNat (0, 0, [], [])).2.1, .sl (.sl (.int .i64)) (specs.getD st1.toNat (0, 0, [], [])).2.2.1, .sl (.sl (.int .i64)) (specs.getD st1.toNat (0, 0, [], [])).2.2.2])] ?_
    rcases zI h with ⟨hb10, h⟩ | ⟨hb10, h⟩
    ·refine zS 4 [(0, .sl Y0 specs), (3, .int .i64 st1), (4, .bp 4 0), (21, .bool true), (25, .cv (undef))] [(4, .box 64 [.int .i64 (specs.getD st1.toNat (0, 0, [], [])).1, .int .i64 (specs.getD st1.toNat (0, 0, [], [])).2.1, .sl (.sl (.int .i64)) (specs.getD st1.toNat (0, 0, [], [])).2.2.1, .sl (.sl (.int .i64)) (specs.getD st1.toNat (0, 0, [], [])).2.2.2])] ?_
     refine zB [(0, .sl Y0 specs), (3, .int .i64 st1), (4, .bp 4 0), (26, .bool true)] [(4, .box 64 [.int .i64 (specs.getD st1.toNat (0, 0, [], [])).1, .int .i64 (specs.getD st1.toNat (0, 0, [], [])).2.1, .sl (.sl (.int .i64)) (specs.getD st1.toNat (0, 0, [], [])).2.2.1, .sl (.sl (.int .i64)) (specs.getD st1.toNat (0, 0, [], [])).2.2.2])] ?_
     refine AW.cond (b := true) rfl (fun _ => ?_) (fun hb11 => by cases hb11)
     refine zo ?_
     refine zB [(2, .bool true)] [] ?_
     refine zr ?_
     refine ablock_r ?_
     refine athen_r ?_
     obtain rfl := Option.some.inj h
     rw [← hd3 _ rfl] at ho2
     have h := ho2
     try simp only at h
     refine athen_r ?_
     refine ablock_r ?_
     refine athen_r ?_
     obtain rfl := Option.some.inj h
     exact zR [] [] []
    ·refine zB [(0, .sl Y0 specs), (3, .int .i64 st1), (4, .bp 4 0), (26, .bool (decide (20 < ((specs.getD st1.toNat (0, 0, [], [])).2.2.2.length : Int))))] [(4, .box 64 [.int .i64 (specs.getD st1.toNat (0, 0, [], [])).1, .int .i64 (specs.getD st1.toNat (0, 0, [], [])).2.1, .sl (.sl (.int .i64)) (specs.getD st1.toNat (0, 0, [], [])).2.2.1, .sl (.sl (.int .i64)) (specs.getD st1.toNat (0, 0, [], [])).2.2.2])] ?_
     refine zQ h (fun hb12 h => ?_) (fun hb12 h => ?_)
     ·refine zo ?_
      refine zB [(2, .bool true)] [] ?_
      refine zr ?_
      refine ablock_r ?_
      refine athen_r ?_
      obtain rfl := Option.some.inj h
      rw [← hd3 _ rfl] at ho2
      have h := ho2
      try simp only at h
      refine athen_r ?_
      refine ablock_r ?_
      refine athen_r ?_
      obtain rfl := Option.some.inj h
      exact zR [] [] []
     ·refine zk ?_
      refine AW.have1 (fun _ : Unit => lineallaw02_Large_k3 specs st1 = some x4) (fun _ => ⟨fr [(0, .sl Y0 specs), (3, .int .i64 st1), (4, .bp 4 0)], hpGet [(4, .box 64 [.int .i64 (specs.getD st1.toNat (0, 0, [], [])).1, .int .i64 (specs.getD st1.toNat (0, 0, [], [])).2.1, .sl (.sl (.int .i64)) (specs.getD st1.toNat (0, 0, [], [])).2.2.1, .sl (.sl (.int .i64)) (specs.getD st1.toNat (0, 0, [], [])).2.2.2])], gt⟩) (fun _ h => ?_) (fun hk_lineallaw02_Large_k3 => ?_)
      ·unfold lineallaw02_Large_k3 at h
       refine zo ?_
       refine zB [(0, .sl Y0 specs), (3, .int .i64 st1), (4, .bp 4 0), (6, .int .i64 0)] [(4, .box 64 [.int .i64 (specs.getD st1.toNat (0, 0, [], [])).1, .int .i64 (specs.getD st1.toNat (0, 0, [], [])).2.1, .sl (.sl (.int .i64)) (specs.getD st1.toNat (0, 0, [], [])).2.2.1, .sl (.sl (.int .i64)) (specs.getD st1.toNat (0, 0, [], [])).2.2.2])] ?_
       refine AW.block ?_
       obtain ⟨rv17, hw13, ho14⟩ := Option.bind_eq_some_iff.1 h
       refine AW.loopO (lineallaw02_Large_b3 specs st1) (fun st3 => ⟨fr [(0, .sl Y0 specs), (3, .int .i64 st1), (4, .bp 4 0), (6, .int .i64 st3)], hpGet [(4, .box 64 [.int .i64 (specs.getD st1.toNat (0, 0, [], [])).1, .int .i64 (specs.getD st1.toNat (0, 0, [], [])).2.1, .sl (.sl (.int .i64)) (specs.getD st1.toNat (0, 0, [], [])).2.2.1, .sl (.sl (.int .i64)) (specs.getD st1.toNat (0, 0, [], [])).2.2.2])], gt⟩) 0 hw13 (zL [] [] []) ?_
       intro st3 x16 h hd15
       unfold lineallaw02_Large_b3 at h
       refine AW.seq ?_
       refine zo ?_
       refine zB [(0, .sl Y0 specs), (3, .int .i64 st1), (4, .bp 4 0), (6, .int .i64 st3), (45, .bool (decide (st3 < ((specs.getD st1.toNat (0, 0, [], [])).2.2.2.length : Int))))] [(4, .box 64 [.int .i64 (specs.getD st1.toNat (0, 0, [], [])).1, .int .i64 (specs.getD st1.toNat (0, 0, [], [])).2.1, .sl (.sl (.int .i64)) (specs.getD st1.toNat (0, 0, [], [])).2.2.1, .sl (.sl (.int .i64)) (specs.getD st1.toNat (0, 0, [], [])).2.2.2])] ?_
       refine zQ h (fun hb18 h => ?_) (fun hb18 h => ?_)
       ·refine zk ?_
        refine AW.seq ?_
        refine AW.block ?_
        refine zo ?_
        obtain ⟨c19, h⟩ := ck_some.1 h
        obtain ⟨c20, h⟩ := ck_some.1 h
        refine zB [(0, .sl Y0 specs), (3, .int .i64 st1), (4, .bp 4 0), (6, .int .i64 st3), (54, .bool (decide (20 < (((specs.getD st1.toNat (0, 0, [], [])).2.2.2.getD st3.toNat []).length : Int))))] [(4, .box 64 [.int .i64 (specs.getD st1.toNat (0, 0, [], [])).1, .int .i64 (specs.getD st1.toNat (0, 0, [], [])).2.1, .sl (.sl (.int .i64)) (specs.getD st1.toNat (0, 0, [], [])).2.2.1, .sl (.sl (.int .i64)) (specs.getD st1.toNat (0, 0, [], [])).2.2.2])] ?_
        refine zQ h (fun hb21 h => ?_) (fun hb21 h => ?_)
        ·refine zo ?_
         refine zB [(2, .bool true)] [] ?_
         refine AW.ret ?_
         refine ablock_r ?_
         refine athen_r ?_
         obtain rfl := Option.some.inj h
         rw [← hd15 _ rfl] at ho14
         have h := ho14
         try simp only at h
         refine athen_r ?_
         refine ablock_r ?_
         refine ablock_r ?_
         refine athen_r ?_
         obtain rfl := Option.some.inj h
         rw [← hd3 _ rfl] at ho2
         have h := ho2
         try simp only at h
         refine athen_r ?_
         refine ablock_r ?_
         refine athen_r ?_
         obtain rfl := Option.some.inj h
         exact zR [] [] []
        ·refine zm ?_
         refine athen_n ?_
         refine AW.ops ?_
         obtain ⟨c22, h⟩ := ck_some.1 h
         refine zA [(0, .sl Y0 specs), (3, .int .i64 st1), (4, .bp 4 0), (6, .int .i64 (st3 + 1))] [(4, .box 64 [.int .i64 (specs.getD st1.toNat (0, 0, [], [])).1, .int .i64 (specs.getD st1.toNat (0, 0, [], [])).2.1, .sl (.sl (.int .i64)) (specs.getD st1.toNat (0, 0, [], [])).2.2.1, .sl (.sl (.int .i64)) (specs.getD st1.toNat (0, 0, [], [])).2.2.2])] ?_
         obtain rfl := Option.some.inj h
         exact ⟨_, rfl, zL [] [] []⟩
       ·refine AW.exit ?_
        refine athen_e ?_
        obtain rfl := Option.some.inj h
        rw [← hd15 _ rfl] at ho14
        have h := ho14
        try simp only at h
        refine athen_e ?_
        refine ablock_s ?_
        refine ablock_n ?_
        refine athen_n ?_
        exact AW.weaken (zL [] [] []) (hk_lineallaw02_Large_k2 () h)
      ·refine AW.seq ?_
       refine zo ?_
       refine zB [(0, .sl Y0 specs), (3, .int .i64 st1), (4, .bp 4 0), (5, .int .i64 0)] [(4, .box 64 [.int .i64 (specs.getD st1.toNat (0, 0, [], [])).1, .int .i64 (specs.getD st1.toNat (0, 0, [], [])).2.1, .sl (.sl (.int .i64)) (specs.getD st1.toNat (0, 0, [], [])).2.2.1, .sl (.sl (.int .i64)) (specs.getD st1.toNat (0, 0, [], [])).2.2.2])] ?_
       refine AW.block ?_
       obtain ⟨rv27, hw23, ho24⟩ := Option.bind_eq_some_iff.1 h
       refine AW.loopO (lineallaw02_Large_b2 specs st1) (fun st2 => ⟨fr [(0, .sl Y0 specs), (3, .int .i64 st1), (4, .bp 4 0), (5, .int .i64 st2)], hpGet [(4, .box 64 [.int .i64 (specs.getD st1.toNat (0, 0, [], [])).1, .int .i64 (specs.getD st1.toNat (0, 0, [], [])).2.1, .sl (.sl (.int .i64)) (specs.getD st1.toNat (0, 0, [], [])).2.2.1, .sl (.sl (.int .i64)) (specs.getD st1.toNat (0, 0, [], [])).2.2.2])], gt⟩) 0 hw23 (zL [] [] []) ?_
       intro st2 x26 h hd25
       unfold lineallaw02_Large_b2 at h
       refine AW.seq ?_
       refine zo ?_
       refine zB [(0, .sl Y0 specs), (3, .int .i64 st1), (4, .bp 4 0), (5, .int .i64 st2), (31, .bool (decide (st2 < ((specs.getD st1.toNat (0, 0, [], [])).2.2.1.length : Int))))] [(4, .box 64 [.int .i64 (specs.getD st1.toNat (0, 0, [], [])).1, .int .i64 (specs.getD st1.toNat (0, 0, [], [])).2.1, .sl (.sl (.int .i64)) (specs.getD st1.toNat (0, 0, [], [])).2.2.1, .sl (.sl (.int .i64)) (specs.getD st1.toNat (0, 0, [], [])).2.2.2])] ?_
       refine zQ h (fun hb28 h => ?_) (fun hb28 h => ?_)
       ·refine zk ?_
        refine AW.seq ?_
        refine AW.block ?_
        refine zo ?_
        obtain ⟨c29, h⟩ := ck_some.1 h
        obtain ⟨c30, h⟩ := ck_some.1 h
        refine zB [(0, .sl Y0 specs), (3, .int .i64 st1), (4, .bp 4 0), (5, .int .i64 st2), (40, .bool (decide (20 < (((specs.getD st1.toNat (0, 0, [], [])).2.2.1.getD st2.toNat []).length : Int))))] [(4, .box 64 [.int .i64 (specs.getD st1.toNat (0, 0, [], [])).1, .int .i64 (specs.getD st1.toNat (0, 0, [], [])).2.1, .sl (.sl (.int .i64)) (specs.getD st1.toNat (0, 0, [], [])).2.2.1, .sl (.sl (.int .i64)) (specs.getD st1.toNat (0, 0, [], [])).2.2.2])] ?_
        refine zQ h (fun hb31 h => ?_) (fun hb31 h => ?_)
        ·refine zo ?_
         refine zB [(2, .bool true)] [] ?_
         refine AW.ret ?_
         refine ablock_r ?_
         refine athen_r ?_
         obtain rfl := Option.some.inj h
         rw [← hd25 _ rfl] at ho24
         have h := ho24
         try simp only at h
         refine athen_r ?_
         refine ablock_r ?_
         refine athen_r ?_
         refine ablock_r ?_
         refine athen_r ?_
         obtain rfl := Option.some.inj h
         rw [← hd3 _ rfl] at ho2
         have h := ho2
         try simp only at h
         refine athen_r ?_
         refine ablock_r ?_
         refine athen_r ?_
         obtain rfl := Option.some.inj h
         exact zR [] [] []
        ·refine zm ?_
         refine athen_n ?_
         refine AW.ops ?_
         obtain ⟨c32, h⟩ := ck_some.1 h
         refine zA [(0, .sl Y0 specs), (3, .int .i64 st1), (4, .bp 4 0), (5, .int .i64 (st2 + 1))] [(4, .box 64 [.int .i64 (specs.getD st1.toNat (0, 0, [], [])).1, .int .i64 (specs.getD st1.toNat (0, 0, [], [])).2.1, .sl (.sl (.int .i64)) (specs.getD st1.toNat (0, 0, [], [])).2.2.1, .sl (.sl (.int .i64)) (specs.getD st1.toNat (0, 0, [], [])).2.2.2])] ?_
         obtain rfl := Option.some.inj h
         exact ⟨_, rfl, zL [] [] []⟩
       ·refine AW.exit ?_
        refine athen_e ?_
        obtain rfl := Option.some.inj h
        rw [← hd25 _ rfl] at ho24
        have h := ho24
        try simp only at h
        refine athen_e ?_
        refine ablock_s ?_
        refine athen_n ?_
        exact AW.weaken (zL [] [] []) (hk_lineallaw02_Large_k3 () h)
  ·refine AW.exit ?_
   refine athen_e ?_
   obtain rfl := Option.some.inj h
   rw [← hd3 _ rfl] at ho2
   have h := ho2
   try simp only at h
   refine athen_e ?_
   refine ablock_s ?_
   refine athen_n ?_
   exact AW.weaken (zL [] [] []) (hk_lineallaw02_Large_k1 () h)

end Go.Proofs.Ytlfpagicagmjgaa
