/-
  Made by wip/tool/dc.py out of the print of the program: contracts.
-/
import Derived.Test.YtlfpagicagmjgaaHp
import Derived.Test.YtlfpagicagmjgaaShh
import Derived.Test.YtlfpagicagmjgaaKjc1
namespace Go.Proofs.Ytlfpagicagmjgaa
open Go.RowKit

set_option linter.unusedSimpArgs false
set_option linter.unusedVariables false
set_option linter.constructorNameAsVariable false

set_option maxRecDepth 100000
set_option maxHeartbeats 2000000

theorem hc_history_search_steps (s : ZS) (s_2 : ZH) (at0 : (Int × Int) × Int) {r : Unit} (h : history_search_steps s s_2 at0 = some r) : HC Try.prog 119 [] [.agg [.sl Y0 s, .sl Y1 s_2, .fn (.func 77) [] [], .one], .agg [.int .i64 at0.1.1, .int .i64 at0.1.2, .int .u64 at0.2]] [(2000, .box 76 [.sl Y0 s, .sl Y1 s_2, .fn (.func 77) [] [], .one]), (2001, .box 95 [.int .i64 at0.1.1, .int .i64 at0.1.2, .int .u64 at0.2])] (.fn (.func 127) [] [.bp 2000 0, .bp 2001 0]) := by
 unfold history_search_steps at h
 refine zH Try.func119 [.tmp 4] 6 ?_
 refine zo ?_
 refine zB [(2, .bp 2 0), (3, .bp 3 0)] [(2, .box 76 [.sl Y0 s, .sl Y1 s_2, .fn (.func 77) [] [], .one]), (3, .box 95 [.int .i64 at0.1.1, .int .i64 at0.1.2, .int .u64 at0.2])] ?_
 refine zo ?_
 refine zB [(4, .fn (.func 127) [] [.bp 2 0, .bp 3 0])] [(2, .box 76 [.sl Y0 s, .sl Y1 s_2, .fn (.func 77) [] [], .one]), (3, .box 95 [.int .i64 at0.1.1, .int .i64 at0.1.2, .int .u64 at0.2])] ?_
 refine AW.ret ?_
 obtain rfl := Option.some.inj h
 exact zR [] [] [(2000, 2), (2001, 3)]

theorem hc_history_inTime (a : Int × Int × Int × Int × Int × Int) (b : Int × Int × Int × Int × Int × Int) {r : Bool} (h : history_inTime a b = some r) : HC Try.prog 77 [] [.agg [.int .i64 a.1, .int .i64 a.2.1, .int .i64 a.2.2.1, .int .i64 a.2.2.2.1, .int .i64 a.2.2.2.2.1, .int .i64 a.2.2.2.2.2], .agg [.int .i64 b.1, .int .i64 b.2.1, .int .i64 b.2.2.1, .int .i64 b.2.2.2.1, .int .i64 b.2.2.2.2.1, .int .i64 b.2.2.2.2.2]] [] (.bool r) := by
 unfold history_inTime at h
 refine zH Try.func77 [.tmp 4] 8 ?_
 refine zo ?_
 refine zB [(2, .bp 2 0), (3, .bp 3 0)] [(2, .box 55 [.int .i64 a.1, .int .i64 a.2.1, .int .i64 a.2.2.1, .int .i64 a.2.2.2.1, .int .i64 a.2.2.2.2.1, .int .i64 a.2.2.2.2.2]), (3, .box 55 [.int .i64 b.1, .int .i64 b.2.1, .int .i64 b.2.2.1, .int .i64 b.2.2.2.1, .int .i64 b.2.2.2.2.1, .int .i64 b.2.2.2.2.2])] ?_
 refine zo ?_
 refine zS 2 [(5, .agg [.int .i64 b.1, .int .i64 b.2.1, .int .i64 b.2.2.1, .int .i64 b.2.2.2.1, .int .i64 b.2.2.2.2.1, .int .i64 b.2.2.2.2.2]), (6, .agg [.int .i64 a.1, .int .i64 a.2.1, .int .i64 a.2.2.1, .int .i64 a.2.2.2.1, .int .i64 a.2.2.2.2.1, .int .i64 a.2.2.2.2.2])] [] ?_
 obtain ⟨v0, hv1, h⟩ := Option.bind_eq_some_iff.1 h
 refine zC [] [] (hc_history_before b a hv1) [(7, .bool v0)] [] ?_
 refine zB [(4, .bool v0)] [] ?_
 refine AW.ret ?_
 obtain rfl := Option.some.inj h
 exact zR [] [] []

theorem hc_history_search_ready (s : ZS) (s_2 : ZH) (at0 : (Int × Int) × Int) (call : Int) {r : Bool} (h : history_search_ready s s_2 at0 call = some r) : HC Try.prog 128 [] [.agg [.sl Y0 s, .sl Y1 s_2, .fn (.func 77) [] [], .one], .agg [.int .i64 at0.1.1, .int .i64 at0.1.2, .int .u64 at0.2], .int .i64 call] [] (.bool r) := by
 unfold history_search_ready at h
 refine zH Try.func128 [.tmp 6] 36 ?_
 refine zo ?_
 refine zB [(2, .int .i64 call), (3, .bp 3 0), (4, .bp 4 0)] [(3, .box 76 [.sl Y0 s, .sl Y1 s_2, .fn (.func 77) [] [], .one]), (4, .box 95 [.int .i64 at0.1.1, .int .i64 at0.1.2, .int .u64 at0.2])] ?_
 refine AW.seq ?_
 refine zo ?_
 refine zS 2 [(2, .int .i64 call), (3, .bp 3 0), (4, .bp 4 0), (9, .agg [.int .i64 at0.1.1, .int .i64 at0.1.2, .int .u64 at0.2]), (10, .int .i64 call)] [(3, .box 76 [.sl Y0 s, .sl Y1 s_2, .fn (.func 77) [] [], .one]), (4, .box 95 [.int .i64 at0.1.1, .int .i64 at0.1.2, .int .u64 at0.2])] ?_
 obtain ⟨v0, hv1, h⟩ := Option.bind_eq_some_iff.1 h
 refine zC [] [] (hc_history_place_has at0 call hv1) [(2, .int .i64 call), (3, .bp 3 0), (4, .bp 4 0), (11, .bool (!(decide ((iand .u64 at0.2 (ishl .u64 1 call)) = 0))))] [(3, .box 76 [.sl Y0 s, .sl Y1 s_2, .fn (.func 77) [] [], .one]), (4, .box 95 [.int .i64 at0.1.1, .int .i64 at0.1.2, .int .u64 at0.2])] ?_
 refine zB [(2, .int .i64 call), (3, .bp 3 0), (4, .bp 4 0), (11, .bool (!(decide ((iand .u64 at0.2 (ishl .u64 1 call)) = 0))))] [(3, .box 76 [.sl Y0 s, .sl Y1 s_2, .fn (.func 77) [] [], .one]), (4, .box 95 [.int .i64 at0.1.1, .int .i64 at0.1.2, .int .u64 at0.2])] ?_
 refine zQ h (fun hb2 h => ?_) (fun hb2 h => ?_)
 ·refine zo ?_
  refine zB [(6, .bool false)] [] ?_
  refine zr ?_
  obtain rfl := Option.some.inj h
  exact zR [] [] []
 ·refine zk ?_
  refine AW.have1 (fun _ : Unit => history_search_ready_k1 = some r) (fun _ => ⟨fr [], hpGet [], gt⟩) (fun _ h => ?_) (fun hk_history_search_ready_k1 => ?_)
  ·unfold history_search_ready_k1 at h
   refine zo ?_
   refine zB [(6, .bool true)] [] ?_
   refine AW.ret ?_
   obtain rfl := Option.some.inj h
   exact zR [] [] []
  ·refine AW.seq ?_
   refine zo ?_
   refine zB [(2, .int .i64 call), (3, .bp 3 0), (4, .bp 4 0), (13, .sl Y1 s_2), (14, .int .i64 (s_2.length : Int)), (15, .int .i64 0)] [(3, .box 76 [.sl Y0 s, .sl Y1 s_2, .fn (.func 77) [] [], .one]), (4, .box 95 [.int .i64 at0.1.1, .int .i64 at0.1.2, .int .u64 at0.2])] ?_
   refine AW.block ?_
   obtain ⟨rv7, hw3, ho4⟩ := Option.bind_eq_some_iff.1 h
   refine AW.loopO (history_search_ready_b1 s_2 at0 call) (fun st1 => ⟨fr [(2, .int .i64 call), (3, .bp 3 0), (4, .bp 4 0), (13, .sl Y1 s_2), (14, .int .i64 (s_2.length : Int)), (15, .int .i64 st1)], hpGet [(3, .box 76 [.sl Y0 s, .sl Y1 s_2, .fn (.func 77) [] [], .one]), (4, .box 95 [.int .i64 at0.1.1, .int .i64 at0.1.2, .int .u64 at0.2])], gt⟩) 0 hw3 (zL [] [] []) ?_
   intro st1 x6 h hd5
   unfold history_search_ready_b1 at h
   refine zo ?_
   refine zB [(2, .int .i64 call), (3, .bp 3 0), (4, .bp 4 0), (13, .sl Y1 s_2), (14, .int .i64 (s_2.length : Int)), (15, .int .i64 st1), (16, .bool (decide (st1 < (s_2.length : Int))))] [(3, .box 76 [.sl Y0 s, .sl Y1 s_2, .fn (.func 77) [] [], .one]), (4, .box 95 [.int .i64 at0.1.1, .int .i64 at0.1.2, .int .u64 at0.2])] ?_
   refine AW.seq ?_
   refine zQ h (fun hb8 h => ?_) (fun hb8 h => ?_)
   ·refine zk ?_
    refine AW.seq ?_
    refine AW.block ?_
    refine zo ?_
    obtain ⟨c9, h⟩ := ck_some.1 h
    obtain ⟨c10, h⟩ := ck_some.1 h
    refine zB [(2, .int .i64 call), (3, .bp 3 0), (4, .bp 4 0), (7, .int .i64 st1), (8, .bp 8 0), (13, .sl Y1 s_2), (14, .int .i64 (s_2.length : Int)), (15, .int .i64 st1)] [(3, .box 76 [.sl Y0 s, .sl Y1 s_2, .fn (.func 77) [] [], .one]), (4, .box 95 [.int .i64 at0.1.1, .int .i64 at0.1.2, .int .u64 at0.2]), (8, .box 55 [.int .i64 (s_2.getD st1.toNat (0, 0, 0, 0, 0, 0)).1, .int .i64 (s_2.getD st1.toNat (0, 0, 0, 0, 0, 0)).2.1, .int .i64 (s_2.getD st1.toNat (0, 0, 0, 0, 0, 0)).2.2.1, .int .i64 (s_2.getD st1.toNat (0, 0, 0, 0, 0, 0)).2.2.2.1, .int .i64 (s_2.getD st1.toNat (0, 0, 0, 0, 0, 0)).2.2.2.2.1, .int .i64 (s_2.getD st1.toNat (0, 0, 0, 0, 0, 0)).2.2.2.2.2])] ?_
    refine AW.seq ?_
    refine AW.draw tab_ok mixed_ok [] [] (by decide) (by kernel_rfl) ?_
    obtain ⟨c12, h⟩ := ck_some.1 h
    obtain ⟨c13, h⟩ := ck_some.1 h
    refine adops_cut 6 (fun K' hK11 => ?_)
    try dsimp only [List.drop_succ_cons, List.drop_zero, List.take_succ_cons, List.take_zero]
    simp only [go_sem, hb2, hb8]
    repeat with_reducible refine zN ?_
    refine hK11 _ ?_
    refine adops_cut 2 (fun K' hK14 => ?_)
    try dsimp only [List.drop_succ_cons, List.drop_zero, List.take_succ_cons, List.take_zero]
    simp only [go_sem, hb2, hb8]
    repeat with_reducible refine zN ?_
    refine hK14 _ ?_
    obtain ⟨v0_2, hv15, h⟩ := Option.bind_eq_some_iff.1 h
    refine adops.call (by first | trivial | rfl) rfl rfl rfl (fun _ h => h) [] [] (hc_history_inTime (s_2.getD call.toNat (0, 0, 0, 0, 0, 0)) (s_2.getD st1.toNat (0, 0, 0, 0, 0, 0)) hv15) rfl (by (simp only [go_sem, hb2, hb8]) <;> (with_reducible and_intros) <;> first | assumption | rfl | omega | (unfold maxLen; omega)) (by (simp only [go_sem, hb2, hb8]) <;> (with_reducible and_intros) <;> first | assumption | rfl | omega | (unfold maxLen; omega)) rfl ?_
    refine adops_cut 1 (fun K' hK16 => ?_)
    try dsimp only [List.drop_succ_cons, List.drop_zero, List.take_succ_cons, List.take_zero]
    simp only [go_sem, hb2, hb8]
    repeat with_reducible refine zN ?_
    refine hK16 _ ?_
    rcases zI h with ⟨hb17, h⟩ | ⟨hb17, h⟩
    ·simp only [hb17]
     refine adops_cut 2 (fun K' hK18 => ?_)
     try dsimp only [List.drop_succ_cons, List.drop_zero, List.take_succ_cons, List.take_zero]
     simp only [go_sem, hb2, hb8, hb17]
     repeat with_reducible refine zN ?_
     refine hK18 _ ?_
     obtain ⟨v0_3, hv19, h⟩ := Option.bind_eq_some_iff.1 h
     refine adops.call (by first | trivial | rfl) rfl rfl rfl (fun _ h => ⟨fun _ => h, fun hn => absurd rfl hn⟩) [] [] (hc_history_place_has at0 st1 hv19) rfl (by (simp only [go_sem, hb2, hb8, hb17]) <;> (with_reducible and_intros) <;> first | assumption | rfl | omega | (unfold maxLen; omega)) (by (simp only [go_sem, hb2, hb8, hb17]) <;> (with_reducible and_intros) <;> first | assumption | rfl | omega | (unfold maxLen; omega)) rfl ?_
     refine adops_cut 2 (fun K' hK20 => ?_)
     try dsimp only [List.drop_succ_cons, List.drop_zero, List.take_succ_cons, List.take_zero]
     simp only [go_sem, hb2, hb8, hb17]
     repeat with_reducible refine zN ?_
     refine hK20 _ ?_
     refine adops_nil ?_
     refine athen_n ?_
     refine zV [(2, .int .i64 call), (3, .bp 3 0), (4, .bp 4 0), (13, .sl Y1 s_2), (14, .int .i64 (s_2.length : Int)), (15, .int .i64 st1), (34, .bool (!(!(decide ((iand .u64 at0.2 (ishl .u64 1 st1)) = 0)))))] [(3, .box 76 [.sl Y0 s, .sl Y1 s_2, .fn (.func 77) [] [], .one]), (4, .box 95 [.int .i64 at0.1.1, .int .i64 at0.1.2, .int .u64 at0.2])] gt ?_
     refine zQ h (fun hb21 h => ?_) (fun hb21 h => ?_)
     ·refine zo ?_
      refine zB [(6, .bool false)] [] ?_
      refine AW.ret ?_
      refine ablock_r ?_
      refine athen_r ?_
      obtain rfl := Option.some.inj h
      rw [← hd5 _ rfl] at ho4
      have h := ho4
      try simp only at h
      refine athen_r ?_
      refine ablock_r ?_
      refine athen_r ?_
      obtain rfl := Option.some.inj h
      exact zR [] [] []
     ·refine zm ?_
      refine athen_n ?_
      refine AW.ops ?_
      obtain ⟨c22, h⟩ := ck_some.1 h
      refine zA [(2, .int .i64 call), (3, .bp 3 0), (4, .bp 4 0), (13, .sl Y1 s_2), (14, .int .i64 (s_2.length : Int)), (15, .int .i64 (st1 + 1))] [(3, .box 76 [.sl Y0 s, .sl Y1 s_2, .fn (.func 77) [] [], .one]), (4, .box 95 [.int .i64 at0.1.1, .int .i64 at0.1.2, .int .u64 at0.2])] ?_
      obtain rfl := Option.some.inj h
      exact ⟨_, rfl, zL [] [] []⟩
    ·simp only [hb17]
     refine adops_cut 4 (fun K' hK23 => ?_)
     try dsimp only [List.drop_succ_cons, List.drop_zero, List.take_succ_cons, List.take_zero]
     simp only [go_sem, hb2, hb8, hb17]
     repeat with_reducible refine zN ?_
     refine hK23 _ ?_
     refine adops_cut 1 (fun K' hK24 => ?_)
     try dsimp only [List.drop_succ_cons, List.drop_zero, List.take_succ_cons, List.take_zero]
     simp only [go_sem, hb2, hb8, hb17]
     repeat with_reducible refine zN ?_
     refine hK24 _ ?_
     refine adops_nil ?_
     refine athen_n ?_
     refine zV [(2, .int .i64 call), (3, .bp 3 0), (4, .bp 4 0), (13, .sl Y1 s_2), (14, .int .i64 (s_2.length : Int)), (15, .int .i64 st1), (34, .bool false)] [(3, .box 76 [.sl Y0 s, .sl Y1 s_2, .fn (.func 77) [] [], .one]), (4, .box 95 [.int .i64 at0.1.1, .int .i64 at0.1.2, .int .u64 at0.2])] gt ?_
     refine AW.cond (b := false) rfl (fun hb25 => by cases hb25) (fun _ => ?_)
     refine zm ?_
     refine athen_n ?_
     refine AW.ops ?_
     obtain ⟨c26, h⟩ := ck_some.1 h
     refine zA [(2, .int .i64 call), (3, .bp 3 0), (4, .bp 4 0), (13, .sl Y1 s_2), (14, .int .i64 (s_2.length : Int)), (15, .int .i64 (st1 + 1))] [(3, .box 76 [.sl Y0 s, .sl Y1 s_2, .fn (.func 77) [] [], .one]), (4, .box 95 [.int .i64 at0.1.1, .int .i64 at0.1.2, .int .u64 at0.2])] ?_
     obtain rfl := Option.some.inj h
     exact ⟨_, rfl, zL [] [] []⟩
   ·refine AW.exit ?_
    refine athen_e ?_
    obtain rfl := Option.some.inj h
    rw [← hd5 _ rfl] at ho4
    have h := ho4
    try simp only at h
    refine athen_e ?_
    refine ablock_s ?_
    refine athen_n ?_
    exact AW.weaken (zL [] [] []) (hk_history_search_ready_k1 () h)

theorem hc_history_states_answer (specs : ZS) (c : Int × Int × Int × Int × Int × Int) (s : (Int × Int) × Int) {r : Int × Int × Int} (h : history_states_answer specs c s = some r) : HC Try.prog 113 [(1000, .box 95 [.int .i64 s.1.1, .int .i64 s.1.2, .int .u64 s.2])] [.bp 1000 0, .sl Y0 specs, .agg [.int .i64 c.1, .int .i64 c.2.1, .int .i64 c.2.2.1, .int .i64 c.2.2.2.1, .int .i64 c.2.2.2.2.1, .int .i64 c.2.2.2.2.2]] [(1000, .box 95 [.int .i64 r.2.1, .int .i64 r.2.2, .int .u64 s.2])] (.int .i64 r.1) := by
 unfold history_states_answer at h
 refine zH Try.func113 [.tmp 6] 43 ?_
 refine zo ?_
 refine zB [(0, .bp 1000 0), (1, .sl Y0 specs), (5, .bp 5 0)] [(5, .box 55 [.int .i64 c.1, .int .i64 c.2.1, .int .i64 c.2.2.1, .int .i64 c.2.2.2.1, .int .i64 c.2.2.2.2.1, .int .i64 c.2.2.2.2.2]), (1000, .box 95 [.int .i64 s.1.1, .int .i64 s.1.2, .int .u64 s.2])] ?_
 refine AW.have1 (fun b1 : Int × Int × Int × (List (List Int)) × (List (List Int)) × Int => history_states_answer_k1 c s b1 = some r) (fun b1 => ⟨fr [(0, .bp 1000 0), (5, .bp 5 0), (7, .bp 7 0), (8, .int .i64 b1.2.2.2.2.2)], hpGet [(5, .box 55 [.int .i64 c.1, .int .i64 b1.1, .int .i64 c.2.2.1, .int .i64 c.2.2.2.1, .int .i64 c.2.2.2.2.1, .int .i64 c.2.2.2.2.2]), (7, .box 64 [.int .i64 b1.2.1, .int .i64 b1.2.2.1, .sl (.sl (.int .i64)) b1.2.2.2.1, .sl (.sl (.int .i64)) b1.2.2.2.2.1]), (1000, .box 95 [.int .i64 s.1.1, .int .i64 s.1.2, .int .u64 s.2])], gt⟩) (fun b1 h => ?_) (fun hk_history_states_answer_k1 => ?_)
 ·unfold history_states_answer_k1 at h
  refine AW.have1 (fun b2 : Int × Int × Int => history_states_answer_k2 c b1 b2 = some r) (fun b2 => ⟨fr [(5, .bp 5 0), (7, .bp 7 0), (8, .int .i64 b1.2.2.2.2.2)], hpGet [(5, .box 55 [.int .i64 c.1, .int .i64 b2.1, .int .i64 c.2.2.1, .int .i64 c.2.2.2.1, .int .i64 c.2.2.2.2.1, .int .i64 c.2.2.2.2.2]), (7, .box 64 [.int .i64 b1.2.1, .int .i64 b1.2.2.1, .sl (.sl (.int .i64)) b1.2.2.2.1, .sl (.sl (.int .i64)) b1.2.2.2.2.1]), (1000, .box 95 [.int .i64 b2.2.1, .int .i64 b2.2.2, .int .u64 s.2])], gt⟩) (fun b2 h => ?_) (fun hk_history_states_answer_k2 => ?_)
  ·unfold history_states_answer_k2 at h
   refine AW.seq ?_
   refine AW.draw tab_ok mixed_ok [] [] (by decide) (by kernel_rfl) ?_
   obtain ⟨c2, h⟩ := ck_some.1 h
   obtain ⟨c3, h⟩ := ck_some.1 h
   refine adops_cut 6 (fun K' hK1 => ?_)
   try dsimp only [List.drop_succ_cons, List.drop_zero, List.take_succ_cons, List.take_zero]
   simp only [go_sem]
   repeat with_reducible refine zN ?_
   refine hK1 _ ?_
   obtain ⟨c5, h⟩ := ck_some.1 h
   obtain ⟨c6, h⟩ := ck_some.1 h
   refine adops_cut 4 (fun K' hK4 => ?_)
   try dsimp only [List.drop_succ_cons, List.drop_zero, List.take_succ_cons, List.take_zero]
   simp only [go_sem]
   repeat with_reducible refine zN ?_
   refine hK4 _ ?_
   refine adops_nil ?_
   refine athen_n ?_
   refine zV [(6, .int .i64 ((b1.2.2.2.2.1.getD b1.2.2.2.2.2.toNat []).getD c.2.2.1.toNat 0))] [(1000, .box 95 [.int .i64 b2.2.1, .int .i64 b2.2.2, .int .u64 s.2])] gt ?_
   refine AW.ret ?_
   obtain rfl := Option.some.inj h
   exact zR [] [] []
  ·refine AW.seq ?_
   refine AW.draw tab_ok mixed_ok [(14, [1000])] [] (by decide) (by kernel_rfl) ?_
   refine adops_cut 6 (fun K' hK7 => ?_)
   try dsimp only [List.drop_succ_cons, List.drop_zero, List.take_succ_cons, List.take_zero]
   simp only [go_sem]
   repeat with_reducible refine zN ?_
   refine hK7 _ ?_
   obtain ⟨c9, h⟩ := ck_some.1 h
   obtain ⟨c10, h⟩ := ck_some.1 h
   obtain ⟨c11, h⟩ := ck_some.1 h
   obtain ⟨c12, h⟩ := ck_some.1 h
   refine adops_cut 6 (fun K' hK8 => ?_)
   try dsimp only [List.drop_succ_cons, List.drop_zero, List.take_succ_cons, List.take_zero]
   simp only [go_sem]
   repeat with_reducible refine zN ?_
   refine hK8 _ ?_
   obtain ⟨c14, h⟩ := ck_some.1 h
   obtain ⟨c15, h⟩ := ck_some.1 h
   refine adops_cut 1 (fun K' hK13 => ?_)
   try dsimp only [List.drop_succ_cons, List.drop_zero, List.take_succ_cons, List.take_zero]
   simp only [go_sem]
   repeat with_reducible refine zN ?_
   refine hK13 _ ?_
   rcases Bool.eq_false_or_eq_true (decide (b1.1 = 0)) with hb16 | hb16
   ·rw [if_pos hb16] at h
    have hz17 : b1.1 = 0 := by simpa using hb16
    refine adops_cut 2 (fun K' hK18 => ?_)
    try dsimp only [List.drop_succ_cons, List.drop_zero, List.take_succ_cons, List.take_zero]
    simp only [go_sem, hb16, hz17]
    repeat with_reducible refine zN ?_
    refine hK18 _ ?_
    refine adops_nil ?_
    refine athen_n ?_
    refine zV [(5, .bp 5 0), (7, .bp 7 0), (8, .int .i64 b1.2.2.2.2.2)] [(5, .box 55 [.int .i64 c.1, .int .i64 0, .int .i64 c.2.2.1, .int .i64 c.2.2.2.1, .int .i64 c.2.2.2.2.1, .int .i64 c.2.2.2.2.2]), (7, .box 64 [.int .i64 b1.2.1, .int .i64 b1.2.2.1, .sl (.sl (.int .i64)) b1.2.2.2.1, .sl (.sl (.int .i64)) b1.2.2.2.2.1]), (1000, .box 95 [.int .i64 ((b1.2.2.2.1.getD b1.2.2.2.2.2.toNat []).getD c.2.2.1.toNat 0), .int .i64 s.1.2, .int .u64 s.2])] gt ?_
    exact AW.weaken (zL [] [] []) (hk_history_states_answer_k2 _ h)
   ·rw [if_neg (Bool.eq_false_iff.1 hb16)] at h
    have hz17 : b1.1 = 1 := by have := of_decide_eq_false hb16; omega
    refine adops_cut 2 (fun K' hK19 => ?_)
    try dsimp only [List.drop_succ_cons, List.drop_zero, List.take_succ_cons, List.take_zero]
    simp only [go_sem, hb16, hz17]
    repeat with_reducible refine zN ?_
    refine hK19 _ ?_
    refine adops_nil ?_
    refine athen_n ?_
    refine zV [(5, .bp 5 0), (7, .bp 7 0), (8, .int .i64 b1.2.2.2.2.2)] [(5, .box 55 [.int .i64 c.1, .int .i64 1, .int .i64 c.2.2.1, .int .i64 c.2.2.2.1, .int .i64 c.2.2.2.2.1, .int .i64 c.2.2.2.2.2]), (7, .box 64 [.int .i64 b1.2.1, .int .i64 b1.2.2.1, .sl (.sl (.int .i64)) b1.2.2.2.1, .sl (.sl (.int .i64)) b1.2.2.2.2.1]), (1000, .box 95 [.int .i64 s.1.1, .int .i64 ((b1.2.2.2.1.getD b1.2.2.2.2.2.toNat []).getD c.2.2.1.toNat 0), .int .u64 s.2])] gt ?_
    exact AW.weaken (zL [] [] []) (hk_history_states_answer_k2 _ h)
 ·refine AW.seq ?_
  refine AW.draw tab_ok mixed_ok [(11, [7]), (12, [7])] [(0, []), (1, [5]), (2, [5]), (3, []), (4, []), (5, [1000]), (6, [5]), (7, [5]), (8, [1000]), (9, [1000, 999999]), (10, [1000]), (100012, [])] (by decide) (by kernel_rfl) ?_
  obtain ⟨c21, h⟩ := ck_some.1 h
  obtain ⟨c22, h⟩ := ck_some.1 h
  refine adops_cut 6 (fun K' hK20 => ?_)
  try dsimp only [List.drop_succ_cons, List.drop_zero, List.take_succ_cons, List.take_zero]
  simp only [go_sem]
  repeat with_reducible refine zN ?_
  refine hK20 _ ?_
  obtain ⟨c24, h⟩ := ck_some.1 h
  obtain ⟨c25, h⟩ := ck_some.1 h
  refine adops_cut 3 (fun K' hK23 => ?_)
  try dsimp only [List.drop_succ_cons, List.drop_zero, List.take_succ_cons, List.take_zero]
  simp only [go_sem]
  repeat with_reducible refine zN ?_
  refine hK23 _ ?_
  rcases Bool.eq_false_or_eq_true (decide (c.2.1 = 0)) with hb26 | hb26
  ·rw [if_pos hb26] at h
   have hz27 : c.2.1 = 0 := by simpa using hb26
   refine adops_cut 5 (fun K' hK28 => ?_)
   try dsimp only [List.drop_succ_cons, List.drop_zero, List.take_succ_cons, List.take_zero]
   simp only [go_sem, hb26, hz27]
   repeat with_reducible refine zN ?_
   refine hK28 _ ?_
   refine adops_nil ?_
   refine athen_n ?_
   refine zV [(0, .bp 1000 0), (5, .bp 5 0), (7, .bp 7 0), (8, .int .i64 s.1.1)] [(5, .box 55 [.int .i64 c.1, .int .i64 0, .int .i64 c.2.2.1, .int .i64 c.2.2.2.1, .int .i64 c.2.2.2.2.1, .int .i64 c.2.2.2.2.2]), (7, .box 64 [.int .i64 (specs.getD 0 (0, 0, [], [])).1, .int .i64 (specs.getD 0 (0, 0, [], [])).2.1, .sl (.sl (.int .i64)) (specs.getD 0 (0, 0, [], [])).2.2.1, .sl (.sl (.int .i64)) (specs.getD 0 (0, 0, [], [])).2.2.2]), (1000, .box 95 [.int .i64 s.1.1, .int .i64 s.1.2, .int .u64 s.2])] gt ?_
   exact AW.weaken (zL [] [] []) (hk_history_states_answer_k1 _ h)
  ·rw [if_neg (Bool.eq_false_iff.1 hb26)] at h
   have hz27 : c.2.1 = 1 := by have := of_decide_eq_false hb26; omega
   refine adops_cut 5 (fun K' hK29 => ?_)
   try dsimp only [List.drop_succ_cons, List.drop_zero, List.take_succ_cons, List.take_zero]
   simp only [go_sem, hb26, hz27]
   repeat with_reducible refine zN ?_
   refine hK29 _ ?_
   refine adops_nil ?_
   refine athen_n ?_
   refine zV [(0, .bp 1000 0), (5, .bp 5 0), (7, .bp 7 0), (8, .int .i64 s.1.2)] [(5, .box 55 [.int .i64 c.1, .int .i64 1, .int .i64 c.2.2.1, .int .i64 c.2.2.2.1, .int .i64 c.2.2.2.2.1, .int .i64 c.2.2.2.2.2]), (7, .box 64 [.int .i64 (specs.getD 1 (0, 0, [], [])).1, .int .i64 (specs.getD 1 (0, 0, [], [])).2.1, .sl (.sl (.int .i64)) (specs.getD 1 (0, 0, [], [])).2.2.1, .sl (.sl (.int .i64)) (specs.getD 1 (0, 0, [], [])).2.2.2]), (1000, .box 95 [.int .i64 s.1.1, .int .i64 s.1.2, .int .u64 s.2])] gt ?_
   exact AW.weaken (zL [] [] []) (hk_history_states_answer_k1 _ h)

theorem hc_history_states_allow (specs : ZS) (c : Int × Int × Int × Int × Int × Int) (s : (Int × Int) × Int) {r : Bool × Int × Int} (h : history_states_allow specs c s = some r) : HC Try.prog 117 [(1000, .box 95 [.int .i64 s.1.1, .int .i64 s.1.2, .int .u64 s.2])] [.bp 1000 0, .sl Y0 specs, .agg [.int .i64 c.1, .int .i64 c.2.1, .int .i64 c.2.2.1, .int .i64 c.2.2.2.1, .int .i64 c.2.2.2.2.1, .int .i64 c.2.2.2.2.2]] [(1000, .box 95 [.int .i64 r.2.1, .int .i64 r.2.2, .int .u64 s.2])] (.bool r.1) := by
 unfold history_states_allow at h
 refine zH Try.func117 [.tmp 6] 21 ?_
 refine zo ?_
 refine zB [(0, .bp 1000 0), (1, .sl Y0 specs), (5, .bp 5 0)] [(5, .box 55 [.int .i64 c.1, .int .i64 c.2.1, .int .i64 c.2.2.1, .int .i64 c.2.2.2.1, .int .i64 c.2.2.2.2.1, .int .i64 c.2.2.2.2.2]), (1000, .box 95 [.int .i64 s.1.1, .int .i64 s.1.2, .int .u64 s.2])] ?_
 refine zo ?_
 refine zS 3 [(5, .bp 5 0), (8, .bp 1000 0), (9, .sl Y0 specs), (10, .agg [.int .i64 c.1, .int .i64 c.2.1, .int .i64 c.2.2.1, .int .i64 c.2.2.2.1, .int .i64 c.2.2.2.2.1, .int .i64 c.2.2.2.2.2])] [(5, .box 55 [.int .i64 c.1, .int .i64 c.2.1, .int .i64 c.2.2.1, .int .i64 c.2.2.2.1, .int .i64 c.2.2.2.2.1, .int .i64 c.2.2.2.2.2]), (1000, .box 95 [.int .i64 s.1.1, .int .i64 s.1.2, .int .u64 s.2])] ?_
 obtain ⟨v0, hv1, h⟩ := Option.bind_eq_some_iff.1 h
 refine zC [] [(1000, 1000)] (hc_history_states_answer specs c s hv1) [(5, .bp 5 0), (11, .int .i64 v0.1)] [(5, .box 55 [.int .i64 c.1, .int .i64 c.2.1, .int .i64 c.2.2.1, .int .i64 c.2.2.2.1, .int .i64 c.2.2.2.2.1, .int .i64 c.2.2.2.2.2]), (1000, .box 95 [.int .i64 v0.2.1, .int .i64 v0.2.2, .int .u64 s.2])] ?_
 refine zB [(5, .bp 5 0), (7, .int .i64 v0.1)] [(5, .box 55 [.int .i64 c.1, .int .i64 c.2.1, .int .i64 c.2.2.1, .int .i64 c.2.2.2.1, .int .i64 c.2.2.2.2.1, .int .i64 c.2.2.2.2.2]), (1000, .box 95 [.int .i64 v0.2.1, .int .i64 v0.2.2, .int .u64 s.2])] ?_
 refine zo ?_
 refine zS 4 [(5, .bp 5 0), (7, .int .i64 v0.1), (15, .bool (decide (c.2.2.2.2.2 = 0)))] [(5, .box 55 [.int .i64 c.1, .int .i64 c.2.1, .int .i64 c.2.2.1, .int .i64 c.2.2.2.1, .int .i64 c.2.2.2.2.1, .int .i64 c.2.2.2.2.2]), (1000, .box 95 [.int .i64 v0.2.1, .int .i64 v0.2.2, .int .u64 s.2])] ?_
 rcases zI h with ⟨hb2, h⟩ | ⟨hb2, h⟩
 ·refine zS 4 [(15, .bool true), (19, .cv (undef))] [(1000, .box 95 [.int .i64 v0.2.1, .int .i64 v0.2.2, .int .u64 s.2])] ?_
  refine zB [(6, .bool true)] [(1000, .box 95 [.int .i64 v0.2.1, .int .i64 v0.2.2, .int .u64 s.2])] ?_
  refine AW.ret ?_
  obtain rfl := Option.some.inj h
  exact zR [] [] []
 ·refine zB [(6, .bool (decide (v0.1 = c.2.2.2.1)))] [(1000, .box 95 [.int .i64 v0.2.1, .int .i64 v0.2.2, .int .u64 s.2])] ?_
  refine AW.ret ?_
  obtain rfl := Option.some.inj h
  exact zR [] [] []

theorem ic_history_search_steps_1 {S R : Type} (a1 : ZS) (a1_2 : ZH) (a2 : (Int × Int) × Int) (yl : Int × ((Int × Int) × Int) → S → Option (Step S R)) (s0 : S) {r : Sum S R} (h : history_search_steps_1 S R a1 a1_2 a2 yl s0 = some r) : IC Try.prog 127 [(1000, .box 76 [.sl Y0 a1, .sl Y1 a1_2, .fn (.func 77) [] [], .one]), (1001, .box 95 [.int .i64 a2.1.1, .int .i64 a2.1.2, .int .u64 a2.2])] [.bp 1000 0, .bp 1001 0] (fun (y : Int × ((Int × Int) × Int)) => [.int .i64 y.1, .agg [.int .i64 y.2.1.1, .int .i64 y.2.1.2, .int .u64 y.2.2]]) yl s0 r := by
 unfold history_search_steps_1 at h
 refine IC.of_body Try.func127 rfl (by kernel_rfl) rfl (nt := 41) rfl (by decide) (by simp) ?_
 intro Γ Γx lp hΓ hΓx hY
 refine zo ?_
 refine zB [(0, .fn (.yield lp) [] []), (1, .bp 1000 0), (2, .bp 1001 0), (8, .sl Y1 a1_2), (9, .int .i64 (a1_2.length : Int)), (10, .int .i64 0)] [(1000, .box 76 [.sl Y0 a1, .sl Y1 a1_2, .fn (.func 77) [] [], .one]), (1001, .box 95 [.int .i64 a2.1.1, .int .i64 a2.1.2, .int .u64 a2.2])] ?_
 refine AW.block ?_
 obtain ⟨rv5, hw1, ho2⟩ := Option.bind_eq_some_iff.1 h
 refine AW.loopO (history_search_steps_1_b1 S R a1 a1_2 a2 yl) (fun st1 => ⟨fr [(0, .fn (.yield lp) [] []), (1, .bp 1000 0), (2, .bp 1001 0), (8, .sl Y1 a1_2), (9, .int .i64 (a1_2.length : Int)), (10, .int .i64 st1.1)], hpGet [(1000, .box 76 [.sl Y0 a1, .sl Y1 a1_2, .fn (.func 77) [] [], .one]), (1001, .box 95 [.int .i64 a2.1.1, .int .i64 a2.1.2, .int .u64 a2.2])], (Γ st1.2)⟩) (0, s0) hw1 (zL [] [] []) ?_
 intro st1 x4 h hd3
 unfold history_search_steps_1_b1 at h
 refine zo ?_
 refine zB [(0, .fn (.yield lp) [] []), (1, .bp 1000 0), (2, .bp 1001 0), (8, .sl Y1 a1_2), (9, .int .i64 (a1_2.length : Int)), (10, .int .i64 st1.1), (11, .bool (decide (st1.1 < (a1_2.length : Int))))] [(1000, .box 76 [.sl Y0 a1, .sl Y1 a1_2, .fn (.func 77) [] [], .one]), (1001, .box 95 [.int .i64 a2.1.1, .int .i64 a2.1.2, .int .u64 a2.2])] ?_
 refine AW.seq ?_
 refine zQ h (fun hb6 h => ?_) (fun hb6 h => ?_)
 ·refine zk ?_
  refine AW.seq ?_
  refine AW.block ?_
  refine zo ?_
  obtain ⟨c7, h⟩ := ck_some.1 h
  obtain ⟨c8, h⟩ := ck_some.1 h
  refine zB [(0, .fn (.yield lp) [] []), (1, .bp 1000 0), (2, .bp 1001 0), (4, .int .i64 st1.1), (5, .bp 5 0), (8, .sl Y1 a1_2), (9, .int .i64 (a1_2.length : Int)), (10, .int .i64 st1.1)] [(5, .box 55 [.int .i64 (a1_2.getD st1.1.toNat (0, 0, 0, 0, 0, 0)).1, .int .i64 (a1_2.getD st1.1.toNat (0, 0, 0, 0, 0, 0)).2.1, .int .i64 (a1_2.getD st1.1.toNat (0, 0, 0, 0, 0, 0)).2.2.1, .int .i64 (a1_2.getD st1.1.toNat (0, 0, 0, 0, 0, 0)).2.2.2.1, .int .i64 (a1_2.getD st1.1.toNat (0, 0, 0, 0, 0, 0)).2.2.2.2.1, .int .i64 (a1_2.getD st1.1.toNat (0, 0, 0, 0, 0, 0)).2.2.2.2.2]), (1000, .box 76 [.sl Y0 a1, .sl Y1 a1_2, .fn (.func 77) [] [], .one]), (1001, .box 95 [.int .i64 a2.1.1, .int .i64 a2.1.2, .int .u64 a2.2])] ?_
  refine zo ?_
  refine zB [(0, .fn (.yield lp) [] []), (1, .bp 1000 0), (2, .bp 1001 0), (4, .int .i64 st1.1), (5, .bp 5 0), (6, .bp 6 0), (8, .sl Y1 a1_2), (9, .int .i64 (a1_2.length : Int)), (10, .int .i64 st1.1)] [(5, .box 55 [.int .i64 (a1_2.getD st1.1.toNat (0, 0, 0, 0, 0, 0)).1, .int .i64 (a1_2.getD st1.1.toNat (0, 0, 0, 0, 0, 0)).2.1, .int .i64 (a1_2.getD st1.1.toNat (0, 0, 0, 0, 0, 0)).2.2.1, .int .i64 (a1_2.getD st1.1.toNat (0, 0, 0, 0, 0, 0)).2.2.2.1, .int .i64 (a1_2.getD st1.1.toNat (0, 0, 0, 0, 0, 0)).2.2.2.2.1, .int .i64 (a1_2.getD st1.1.toNat (0, 0, 0, 0, 0, 0)).2.2.2.2.2]), (6, .box 95 [.int .i64 a2.1.1, .int .i64 a2.1.2, .int .u64 a2.2]), (1000, .box 76 [.sl Y0 a1, .sl Y1 a1_2, .fn (.func 77) [] [], .one]), (1001, .box 95 [.int .i64 a2.1.1, .int .i64 a2.1.2, .int .u64 a2.2])] ?_
  refine AW.seq ?_
  refine zo ?_
  refine zS 3 [(0, .fn (.yield lp) [] []), (1, .bp 1000 0), (2, .bp 1001 0), (4, .int .i64 st1.1), (5, .bp 5 0), (6, .bp 6 0), (8, .sl Y1 a1_2), (9, .int .i64 (a1_2.length : Int)), (10, .int .i64 st1.1), (16, .agg [.sl Y0 a1, .sl Y1 a1_2, .fn (.func 77) [] [], .one]), (17, .agg [.int .i64 a2.1.1, .int .i64 a2.1.2, .int .u64 a2.2]), (18, .int .i64 st1.1)] [(5, .box 55 [.int .i64 (a1_2.getD st1.1.toNat (0, 0, 0, 0, 0, 0)).1, .int .i64 (a1_2.getD st1.1.toNat (0, 0, 0, 0, 0, 0)).2.1, .int .i64 (a1_2.getD st1.1.toNat (0, 0, 0, 0, 0, 0)).2.2.1, .int .i64 (a1_2.getD st1.1.toNat (0, 0, 0, 0, 0, 0)).2.2.2.1, .int .i64 (a1_2.getD st1.1.toNat (0, 0, 0, 0, 0, 0)).2.2.2.2.1, .int .i64 (a1_2.getD st1.1.toNat (0, 0, 0, 0, 0, 0)).2.2.2.2.2]), (6, .box 95 [.int .i64 a2.1.1, .int .i64 a2.1.2, .int .u64 a2.2]), (1000, .box 76 [.sl Y0 a1, .sl Y1 a1_2, .fn (.func 77) [] [], .one]), (1001, .box 95 [.int .i64 a2.1.1, .int .i64 a2.1.2, .int .u64 a2.2])] ?_
  obtain ⟨v0, hv9, h⟩ := Option.bind_eq_some_iff.1 h
  refine zC [] [] (hc_history_search_ready a1 a1_2 a2 st1.1 hv9) [(0, .fn (.yield lp) [] []), (1, .bp 1000 0), (2, .bp 1001 0), (4, .int .i64 st1.1), (5, .bp 5 0), (6, .bp 6 0), (8, .sl Y1 a1_2), (9, .int .i64 (a1_2.length : Int)), (10, .int .i64 st1.1), (19, .bool v0)] [(5, .box 55 [.int .i64 (a1_2.getD st1.1.toNat (0, 0, 0, 0, 0, 0)).1, .int .i64 (a1_2.getD st1.1.toNat (0, 0, 0, 0, 0, 0)).2.1, .int .i64 (a1_2.getD st1.1.toNat (0, 0, 0, 0, 0, 0)).2.2.1, .int .i64 (a1_2.getD st1.1.toNat (0, 0, 0, 0, 0, 0)).2.2.2.1, .int .i64 (a1_2.getD st1.1.toNat (0, 0, 0, 0, 0, 0)).2.2.2.2.1, .int .i64 (a1_2.getD st1.1.toNat (0, 0, 0, 0, 0, 0)).2.2.2.2.2]), (6, .box 95 [.int .i64 a2.1.1, .int .i64 a2.1.2, .int .u64 a2.2]), (1000, .box 76 [.sl Y0 a1, .sl Y1 a1_2, .fn (.func 77) [] [], .one]), (1001, .box 95 [.int .i64 a2.1.1, .int .i64 a2.1.2, .int .u64 a2.2])] ?_
  refine zS 2 [(0, .fn (.yield lp) [] []), (1, .bp 1000 0), (2, .bp 1001 0), (4, .int .i64 st1.1), (5, .bp 5 0), (6, .bp 6 0), (8, .sl Y1 a1_2), (9, .int .i64 (a1_2.length : Int)), (10, .int .i64 st1.1), (21, .bool (!v0))] [(5, .box 55 [.int .i64 (a1_2.getD st1.1.toNat (0, 0, 0, 0, 0, 0)).1, .int .i64 (a1_2.getD st1.1.toNat (0, 0, 0, 0, 0, 0)).2.1, .int .i64 (a1_2.getD st1.1.toNat (0, 0, 0, 0, 0, 0)).2.2.1, .int .i64 (a1_2.getD st1.1.toNat (0, 0, 0, 0, 0, 0)).2.2.2.1, .int .i64 (a1_2.getD st1.1.toNat (0, 0, 0, 0, 0, 0)).2.2.2.2.1, .int .i64 (a1_2.getD st1.1.toNat (0, 0, 0, 0, 0, 0)).2.2.2.2.2]), (6, .box 95 [.int .i64 a2.1.1, .int .i64 a2.1.2, .int .u64 a2.2]), (1000, .box 76 [.sl Y0 a1, .sl Y1 a1_2, .fn (.func 77) [] [], .one]), (1001, .box 95 [.int .i64 a2.1.1, .int .i64 a2.1.2, .int .u64 a2.2])] ?_
  rcases zI h with ⟨hb10, h⟩ | ⟨hb10, h⟩
  ·refine zS 4 [(0, .fn (.yield lp) [] []), (1, .bp 1000 0), (2, .bp 1001 0), (4, .int .i64 st1.1), (6, .bp 6 0), (8, .sl Y1 a1_2), (9, .int .i64 (a1_2.length : Int)), (10, .int .i64 st1.1), (21, .bool true), (22, .cv (undef)), (24, .cv (undef)), (25, .cv (undef))] [(6, .box 95 [.int .i64 a2.1.1, .int .i64 a2.1.2, .int .u64 a2.2]), (1000, .box 76 [.sl Y0 a1, .sl Y1 a1_2, .fn (.func 77) [] [], .one]), (1001, .box 95 [.int .i64 a2.1.1, .int .i64 a2.1.2, .int .u64 a2.2])] ?_
   refine zB [(0, .fn (.yield lp) [] []), (1, .bp 1000 0), (2, .bp 1001 0), (4, .int .i64 st1.1), (6, .bp 6 0), (8, .sl Y1 a1_2), (9, .int .i64 (a1_2.length : Int)), (10, .int .i64 st1.1), (28, .bool true)] [(6, .box 95 [.int .i64 a2.1.1, .int .i64 a2.1.2, .int .u64 a2.2]), (1000, .box 76 [.sl Y0 a1, .sl Y1 a1_2, .fn (.func 77) [] [], .one]), (1001, .box 95 [.int .i64 a2.1.1, .int .i64 a2.1.2, .int .u64 a2.2])] ?_
   refine AW.cond (b := true) rfl (fun _ => ?_) (fun hb11 => by cases hb11)
   refine AW.exit ?_
   refine athen_e ?_
   refine ablock_s ?_
   refine athen_n ?_
   refine AW.ops ?_
   obtain ⟨c12, h⟩ := ck_some.1 h
   refine zA [(0, .fn (.yield lp) [] []), (1, .bp 1000 0), (2, .bp 1001 0), (8, .sl Y1 a1_2), (9, .int .i64 (a1_2.length : Int)), (10, .int .i64 (st1.1 + 1))] [(1000, .box 76 [.sl Y0 a1, .sl Y1 a1_2, .fn (.func 77) [] [], .one]), (1001, .box 95 [.int .i64 a2.1.1, .int .i64 a2.1.2, .int .u64 a2.2])] ?_
   obtain rfl := Option.some.inj h
   exact ⟨_, rfl, zL [] [] []⟩
  ·refine zS 4 [(0, .fn (.yield lp) [] []), (1, .bp 1000 0), (2, .bp 1001 0), (4, .int .i64 st1.1), (6, .bp 6 0), (8, .sl Y1 a1_2), (9, .int .i64 (a1_2.length : Int)), (10, .int .i64 st1.1), (21, .bool false), (22, .bp 6 0), (24, .sl Y0 a1), (25, .agg [.int .i64 (a1_2.getD st1.1.toNat (0, 0, 0, 0, 0, 0)).1, .int .i64 (a1_2.getD st1.1.toNat (0, 0, 0, 0, 0, 0)).2.1, .int .i64 (a1_2.getD st1.1.toNat (0, 0, 0, 0, 0, 0)).2.2.1, .int .i64 (a1_2.getD st1.1.toNat (0, 0, 0, 0, 0, 0)).2.2.2.1, .int .i64 (a1_2.getD st1.1.toNat (0, 0, 0, 0, 0, 0)).2.2.2.2.1, .int .i64 (a1_2.getD st1.1.toNat (0, 0, 0, 0, 0, 0)).2.2.2.2.2])] [(6, .box 95 [.int .i64 a2.1.1, .int .i64 a2.1.2, .int .u64 a2.2]), (1000, .box 76 [.sl Y0 a1, .sl Y1 a1_2, .fn (.func 77) [] [], .one]), (1001, .box 95 [.int .i64 a2.1.1, .int .i64 a2.1.2, .int .u64 a2.2])] ?_
   obtain ⟨v0_2, hv13, h⟩ := Option.bind_eq_some_iff.1 h
   refine zG [] [(1000, 6)] (hc_history_states_allow a1 (a1_2.getD st1.1.toNat (0, 0, 0, 0, 0, 0)) a2 hv13) [(0, .fn (.yield lp) [] []), (1, .bp 1000 0), (2, .bp 1001 0), (4, .int .i64 st1.1), (6, .bp 6 0), (8, .sl Y1 a1_2), (9, .int .i64 (a1_2.length : Int)), (10, .int .i64 st1.1), (21, .bool false), (26, .bool v0_2.1)] [(6, .box 95 [.int .i64 v0_2.2.1, .int .i64 v0_2.2.2, .int .u64 a2.2]), (1000, .box 76 [.sl Y0 a1, .sl Y1 a1_2, .fn (.func 77) [] [], .one]), (1001, .box 95 [.int .i64 a2.1.1, .int .i64 a2.1.2, .int .u64 a2.2])] ?_
   refine zB [(0, .fn (.yield lp) [] []), (1, .bp 1000 0), (2, .bp 1001 0), (4, .int .i64 st1.1), (6, .bp 6 0), (8, .sl Y1 a1_2), (9, .int .i64 (a1_2.length : Int)), (10, .int .i64 st1.1), (28, .bool (!v0_2.1))] [(6, .box 95 [.int .i64 v0_2.2.1, .int .i64 v0_2.2.2, .int .u64 a2.2]), (1000, .box 76 [.sl Y0 a1, .sl Y1 a1_2, .fn (.func 77) [] [], .one]), (1001, .box 95 [.int .i64 a2.1.1, .int .i64 a2.1.2, .int .u64 a2.2])] ?_
   refine zQ h (fun hb14 h => ?_) (fun hb14 h => ?_)
   ·refine AW.exit ?_
    refine athen_e ?_
    refine ablock_s ?_
    refine athen_n ?_
    refine AW.ops ?_
    obtain ⟨c15, h⟩ := ck_some.1 h
    refine zA [(0, .fn (.yield lp) [] []), (1, .bp 1000 0), (2, .bp 1001 0), (8, .sl Y1 a1_2), (9, .int .i64 (a1_2.length : Int)), (10, .int .i64 (st1.1 + 1))] [(1000, .box 76 [.sl Y0 a1, .sl Y1 a1_2, .fn (.func 77) [] [], .one]), (1001, .box 95 [.int .i64 a2.1.1, .int .i64 a2.1.2, .int .u64 a2.2])] ?_
    obtain rfl := Option.some.inj h
    exact ⟨_, rfl, zL [] [] []⟩
   ·refine zk ?_
    refine AW.seq ?_
    refine AW.draw tab_ok mixed_ok [(6, [6])] [] (by decide) (by kernel_rfl) ?_
    obtain ⟨c17, h⟩ := ck_some.1 h
    refine adops_cut 6 (fun K' hK16 => ?_)
    try dsimp only [List.drop_succ_cons, List.drop_zero, List.take_succ_cons, List.take_zero]
    simp only [go_sem, hb6, hb10, hb14]
    repeat with_reducible refine zN ?_
    refine hK16 _ ?_
    refine adops_cut 1 (fun K' hK18 => ?_)
    try dsimp only [List.drop_succ_cons, List.drop_zero, List.take_succ_cons, List.take_zero]
    simp only [go_sem, hb6, hb10, hb14]
    repeat with_reducible refine zN ?_
    refine hK18 _ ?_
    refine adops_nil ?_
    refine athen_n ?_
    refine zV [(0, .fn (.yield lp) [] []), (1, .bp 1000 0), (2, .bp 1001 0), (4, .int .i64 st1.1), (6, .bp 6 0), (8, .sl Y1 a1_2), (9, .int .i64 (a1_2.length : Int)), (10, .int .i64 st1.1)] [(6, .box 95 [.int .i64 v0_2.2.1, .int .i64 v0_2.2.2, .int .u64 (ior .u64 a2.2 (ishl .u64 1 st1.1))]), (1000, .box 76 [.sl Y0 a1, .sl Y1 a1_2, .fn (.func 77) [] [], .one]), (1001, .box 95 [.int .i64 a2.1.1, .int .i64 a2.1.2, .int .u64 a2.2])] (Γ st1.2) ?_
    refine zo ?_
    refine zS 3 [(0, .fn (.yield lp) [] []), (1, .bp 1000 0), (2, .bp 1001 0), (8, .sl Y1 a1_2), (9, .int .i64 (a1_2.length : Int)), (10, .int .i64 st1.1), (35, .fn (.yield lp) [] []), (36, .int .i64 st1.1), (37, .agg [.int .i64 v0_2.2.1, .int .i64 v0_2.2.2, .int .u64 (ior .u64 a2.2 (ishl .u64 1 st1.1))])] [(1000, .box 76 [.sl Y0 a1, .sl Y1 a1_2, .fn (.func 77) [] [], .one]), (1001, .box 95 [.int .i64 a2.1.1, .int .i64 a2.1.2, .int .u64 a2.2])] ?_
    obtain ⟨x19, hx20, h⟩ := Option.bind_eq_some_iff.1 h
    refine yield_op rfl rfl rfl (by decide) _ rfl hY hΓ hΓx (st1.1, v0_2.2, (ior .u64 a2.2 (ishl .u64 1 st1.1))) [] (by (simp only [go_sem, hb6, hb10, hb14]) <;> (with_reducible and_intros) <;> first | assumption | rfl | omega | (unfold maxLen; omega)) hx20 ?_
    cases x19 with
    | next s =>
     try simp only at h
     refine zT [(0, .fn (.yield lp) [] []), (1, .bp 1000 0), (2, .bp 1001 0), (8, .sl Y1 a1_2), (9, .int .i64 (a1_2.length : Int)), (10, .int .i64 st1.1), (38, .bool true)] [(1000, .box 76 [.sl Y0 a1, .sl Y1 a1_2, .fn (.func 77) [] [], .one]), (1001, .box 95 [.int .i64 a2.1.1, .int .i64 a2.1.2, .int .u64 a2.2])] (Γ s) ?_
     refine zB [(0, .fn (.yield lp) [] []), (1, .bp 1000 0), (2, .bp 1001 0), (8, .sl Y1 a1_2), (9, .int .i64 (a1_2.length : Int)), (10, .int .i64 st1.1), (39, .bool false)] [(1000, .box 76 [.sl Y0 a1, .sl Y1 a1_2, .fn (.func 77) [] [], .one]), (1001, .box 95 [.int .i64 a2.1.1, .int .i64 a2.1.2, .int .u64 a2.2])] ?_
     refine AW.cond (b := false) rfl (fun hb21 => by cases hb21) (fun _ => ?_)
     refine zm ?_
     refine athen_n ?_
     refine AW.ops ?_
     obtain ⟨c22, h⟩ := ck_some.1 h
     refine zA [(0, .fn (.yield lp) [] []), (1, .bp 1000 0), (2, .bp 1001 0), (8, .sl Y1 a1_2), (9, .int .i64 (a1_2.length : Int)), (10, .int .i64 (st1.1 + 1))] [(1000, .box 76 [.sl Y0 a1, .sl Y1 a1_2, .fn (.func 77) [] [], .one]), (1001, .box 95 [.int .i64 a2.1.1, .int .i64 a2.1.2, .int .u64 a2.2])] ?_
     obtain rfl := Option.some.inj h
     exact ⟨_, rfl, zL [] [] []⟩
    | done e =>
     try simp only at h
     refine zT [(0, .fn (.yield lp) [] []), (1, .bp 1000 0), (2, .bp 1001 0), (8, .sl Y1 a1_2), (9, .int .i64 (a1_2.length : Int)), (10, .int .i64 st1.1), (38, .bool false)] [(1000, .box 76 [.sl Y0 a1, .sl Y1 a1_2, .fn (.func 77) [] [], .one]), (1001, .box 95 [.int .i64 a2.1.1, .int .i64 a2.1.2, .int .u64 a2.2])] (Γx e) ?_
     refine zB [(0, .fn (.yield lp) [] []), (1, .bp 1000 0), (2, .bp 1001 0), (8, .sl Y1 a1_2), (9, .int .i64 (a1_2.length : Int)), (10, .int .i64 st1.1), (39, .bool true)] [(1000, .box 76 [.sl Y0 a1, .sl Y1 a1_2, .fn (.func 77) [] [], .one]), (1001, .box 95 [.int .i64 a2.1.1, .int .i64 a2.1.2, .int .u64 a2.2])] ?_
     refine AW.cond (b := true) rfl (fun _ => ?_) (fun hb23 => by cases hb23)
     refine AW.ret ?_
     refine ablock_r ?_
     refine athen_r ?_
     obtain rfl := Option.some.inj h
     rw [← hd3 _ rfl] at ho2
     have h := ho2
     try simp only at h
     refine athen_r ?_
     refine ablock_r ?_
     obtain rfl := Option.some.inj h
     exact rfl
 ·refine AW.exit ?_
  refine athen_e ?_
  obtain rfl := Option.some.inj h
  rw [← hd3 _ rfl] at ho2
  have h := ho2
  try simp only at h
  refine athen_e ?_
  refine ablock_s ?_
  obtain rfl := Option.some.inj h
  exact rfl

theorem hc_history_search_countF (slf : ZS → ZH → ((Int × Int) × Int) → ZM → Option (Int × ZM)) (hc_slf : ∀ (s : ZS) (s_2 : ZH) (at0 : (Int × Int) × Int) (s_3 : ZM) {r : Int × ZM}, slf s s_2 at0 s_3 = some r → HC Try.prog 94 [(1000, .map true false Y2 (.int .i64) s_3)] [.agg [.sl Y0 s, .sl Y1 s_2, .fn (.func 77) [] [], .own 1000], .agg [.int .i64 at0.1.1, .int .i64 at0.1.2, .int .u64 at0.2]] [(1000, .map true false Y2 (.int .i64) r.2)] (.int .i64 r.1)) (s : ZS) (s_2 : ZH) (at0 : (Int × Int) × Int) (s_3 : ZM) {r : Int × ZM} (h : history_search_countF slf s s_2 at0 s_3 = some r) : HC Try.prog 94 [(1000, .map true false Y2 (.int .i64) s_3)] [.agg [.sl Y0 s, .sl Y1 s_2, .fn (.func 77) [] [], .own 1000], .agg [.int .i64 at0.1.1, .int .i64 at0.1.2, .int .u64 at0.2]] [(1000, .map true false Y2 (.int .i64) r.2)] (.int .i64 r.1) := by
 unfold history_search_countF at h
 refine zH Try.func94 [.tmp 4] 37 ?_
 refine zo ?_
 refine zB [(2, .bp 2 0), (3, .bp 3 0)] [(2, .box 76 [.sl Y0 s, .sl Y1 s_2, .fn (.func 77) [] [], .own 1000]), (3, .box 95 [.int .i64 at0.1.1, .int .i64 at0.1.2, .int .u64 at0.2]), (1000, .map true false Y2 (.int .i64) s_3)] ?_
 refine AW.seq ?_
 refine zo ?_
 refine zS 3 [(2, .bp 2 0), (3, .bp 3 0), (12, .own 1000), (13, .agg [.int .i64 at0.1.1, .int .i64 at0.1.2, .int .u64 at0.2])] [(2, .box 76 [.sl Y0 s, .sl Y1 s_2, .fn (.func 77) [] [], .own 1000]), (3, .box 95 [.int .i64 at0.1.1, .int .i64 at0.1.2, .int .u64 at0.2]), (1000, .map true false Y2 (.int .i64) s_3)] ?_
 obtain ⟨c1, h⟩ := ck_some.1 h
 obtain ⟨c2, h⟩ := ck_some.1 h
 obtain ⟨c3, h⟩ := ck_some.1 h
 refine AO.lookup mapty_74 (by decide) rfl rfl rfl rfl (l := [.int .i64 at0.1.1, .int .i64 at0.1.2, .int .u64 at0.2]) (by (simp only [go_sem]) <;> (with_reducible and_intros) <;> first | assumption | rfl | omega | (unfold maxLen; omega)) (by first | rfl | (simp only [go_sem]) <;> (with_reducible and_intros) <;> first | assumption | rfl | omega | (unfold maxLen; omega)) (by (simp only [go_sem]) <;> (with_reducible and_intros) <;> first | assumption | rfl | omega | (unfold maxLen; omega)) ?_
 refine zT [(2, .bp 2 0), (3, .bp 3 0), (14, .tup [.int .i64 (mget 0 s_3 at0), .bool (mhas s_3 at0)])] [(2, .box 76 [.sl Y0 s, .sl Y1 s_2, .fn (.func 77) [] [], .own 1000]), (3, .box 95 [.int .i64 at0.1.1, .int .i64 at0.1.2, .int .u64 at0.2]), (1000, .map true false Y2 (.int .i64) s_3)] gt ?_
 refine zB [(2, .bp 2 0), (3, .bp 3 0), (5, .int .i64 (mget 0 s_3 at0)), (6, .bool (mhas s_3 at0))] [(2, .box 76 [.sl Y0 s, .sl Y1 s_2, .fn (.func 77) [] [], .own 1000]), (3, .box 95 [.int .i64 at0.1.1, .int .i64 at0.1.2, .int .u64 at0.2]), (1000, .map true false Y2 (.int .i64) s_3)] ?_
 refine zo ?_
 refine zB [(2, .bp 2 0), (3, .bp 3 0), (5, .int .i64 (mget 0 s_3 at0)), (17, .bool (mhas s_3 at0))] [(2, .box 76 [.sl Y0 s, .sl Y1 s_2, .fn (.func 77) [] [], .own 1000]), (3, .box 95 [.int .i64 at0.1.1, .int .i64 at0.1.2, .int .u64 at0.2]), (1000, .map true false Y2 (.int .i64) s_3)] ?_
 refine zQ h (fun hb4 h => ?_) (fun hb4 h => ?_)
 ·refine zo ?_
  refine zB [(4, .int .i64 (mget 0 s_3 at0))] [(1000, .map true false Y2 (.int .i64) s_3)] ?_
  refine zr ?_
  obtain rfl := Option.some.inj h
  exact zR [] [] []
 ·refine zk ?_
  refine zo ?_
  refine zB [(2, .bp 2 0), (3, .bp 3 0), (7, .bp 7 0)] [(2, .box 76 [.sl Y0 s, .sl Y1 s_2, .fn (.func 77) [] [], .own 1000]), (3, .box 95 [.int .i64 at0.1.1, .int .i64 at0.1.2, .int .u64 at0.2]), (7, .box 3 [.int .i64 0]), (1000, .map true false Y2 (.int .i64) s_3)] ?_
  refine AW.have1 (fun b1 : Int => history_search_count_k1 slf s s_2 at0 s_3 b1 = some r) (fun b1 => ⟨fr [(2, .bp 2 0), (3, .bp 3 0), (7, .bp 7 0)], hpGet [(2, .box 76 [.sl Y0 s, .sl Y1 s_2, .fn (.func 77) [] [], .own 1000]), (3, .box 95 [.int .i64 at0.1.1, .int .i64 at0.1.2, .int .u64 at0.2]), (7, .box 3 [.int .i64 b1]), (1000, .map true false Y2 (.int .i64) s_3)], gt⟩) (fun b1 h => ?_) (fun hk_history_search_count_k1 => ?_)
  ·unfold history_search_count_k1 at h
   refine AW.have1 (fun b2 : ZM × Int => history_search_count_k2 at0 b2 = some r) (fun b2 => ⟨fr [(2, .bp 2 0), (3, .bp 3 0), (7, .bp 7 0)], hpGet [(2, .box 76 [.sl Y0 s, .sl Y1 s_2, .fn (.func 77) [] [], .own 1000]), (3, .box 95 [.int .i64 at0.1.1, .int .i64 at0.1.2, .int .u64 at0.2]), (7, .box 3 [.int .i64 b2.2]), (1000, .map true false Y2 (.int .i64) b2.1)], gt⟩) (fun b2 h => ?_) (fun hk_history_search_count_k2 => ?_)
   ·unfold history_search_count_k2 at h
    refine zo ?_
    refine zS 4 [(7, .bp 7 0), (33, .own 1000), (34, .agg [.int .i64 at0.1.1, .int .i64 at0.1.2, .int .u64 at0.2]), (35, .int .i64 b2.2)] [(7, .box 3 [.int .i64 b2.2]), (1000, .map true false Y2 (.int .i64) b2.1)] ?_
    obtain ⟨c5, h⟩ := ck_some.1 h
    obtain ⟨c6, h⟩ := ck_some.1 h
    obtain ⟨c7, h⟩ := ck_some.1 h
    refine AO.mapPut mapty_74 (by decide) rfl (.inl rfl) rfl rfl (l := [.int .i64 at0.1.1, .int .i64 at0.1.2, .int .u64 at0.2]) (by (simp only [go_sem, hb4]) <;> (with_reducible and_intros) <;> first | assumption | rfl | omega | (unfold maxLen; omega)) (by first | rfl | (simp only [go_sem, hb4]) <;> (with_reducible and_intros) <;> first | assumption | rfl | omega | (unfold maxLen; omega)) (by (simp only [go_sem, hb4]) <;> (with_reducible and_intros) <;> first | assumption | rfl | omega | (unfold maxLen; omega)) (lv := [.int .i64 b2.2]) (by (simp only [go_sem, hb4]) <;> (with_reducible and_intros) <;> first | assumption | rfl | omega | (unfold maxLen; omega)) (by first | rfl | (simp only [go_sem, hb4]) <;> (with_reducible and_intros) <;> first | assumption | rfl | omega | (unfold maxLen; omega)) ?_
    refine zT [(7, .bp 7 0)] [(7, .box 3 [.int .i64 b2.2]), (1000, .map true false Y2 (.int .i64) (mput b2.1 at0 b2.2))] gt ?_
    refine zB [(7, .bp 7 0)] [(7, .box 3 [.int .i64 b2.2]), (1000, .map true false Y2 (.int .i64) (mput b2.1 at0 b2.2))] ?_
    refine zo ?_
    refine zB [(4, .int .i64 b2.2)] [(1000, .map true false Y2 (.int .i64) (mput b2.1 at0 b2.2))] ?_
    refine AW.ret ?_
    obtain rfl := Option.some.inj h
    exact zR [] [] []
   ·refine AW.seq ?_
    refine zo ?_
    refine zS 2 [(2, .bp 2 0), (3, .bp 3 0), (7, .bp 7 0), (22, .agg [.sl Y0 s, .sl Y1 s_2, .fn (.func 77) [] [], .own 1000]), (23, .agg [.int .i64 at0.1.1, .int .i64 at0.1.2, .int .u64 at0.2])] [(2, .box 76 [.sl Y0 s, .sl Y1 s_2, .fn (.func 77) [] [], .own 1000]), (3, .box 95 [.int .i64 at0.1.1, .int .i64 at0.1.2, .int .u64 at0.2]), (7, .box 3 [.int .i64 b1]), (1000, .map true false Y2 (.int .i64) s_3)] ?_
    obtain ⟨v0_2, hv8, h⟩ := Option.bind_eq_some_iff.1 h
    refine zC [] [] (hc_history_search_steps s s_2 at0 hv8) [(2, .bp 2 0), (3, .bp 3 0), (7, .bp 7 0), (24, .fn (.func 127) [] [.bp 34000 0, .bp 34001 0])] [(2, .box 76 [.sl Y0 s, .sl Y1 s_2, .fn (.func 77) [] [], .own 1000]), (3, .box 95 [.int .i64 at0.1.1, .int .i64 at0.1.2, .int .u64 at0.2]), (7, .box 3 [.int .i64 b1]), (1000, .map true false Y2 (.int .i64) s_3), (34000, .box 76 [.sl Y0 s, .sl Y1 s_2, .fn (.func 77) [] [], .one]), (34001, .box 95 [.int .i64 at0.1.1, .int .i64 at0.1.2, .int .u64 at0.2])] ?_
    refine zB [(2, .bp 2 0), (3, .bp 3 0), (7, .bp 7 0), (24, .fn (.func 127) [] [.bp 34000 0, .bp 34001 0])] [(2, .box 76 [.sl Y0 s, .sl Y1 s_2, .fn (.func 77) [] [], .own 1000]), (3, .box 95 [.int .i64 at0.1.1, .int .i64 at0.1.2, .int .u64 at0.2]), (7, .box 3 [.int .i64 b1]), (1000, .map true false Y2 (.int .i64) s_3), (34000, .box 76 [.sl Y0 s, .sl Y1 s_2, .fn (.func 77) [] [], .one]), (34001, .box 95 [.int .i64 at0.1.1, .int .i64 at0.1.2, .int .u64 at0.2])] ?_
    refine AW.block ?_
    obtain ⟨x9, hx10, h⟩ := Option.bind_eq_some_iff.1 h
    refine AW.weaken (s' := ⟨fr [(2, .bp 2 0), (3, .bp 3 0), (7, .bp 7 0), (24, .fn (.func 127) [] [.bp 34000 0, .bp 34001 0])], hpGet ([(34000, .box 76 [.sl Y0 s, .sl Y1 s_2, .fn (.func 77) [] [], .one]), (34001, .box 95 [.int .i64 at0.1.1, .int .i64 at0.1.2, .int .u64 at0.2])] ++ [(2, .box 76 [.sl Y0 s, .sl Y1 s_2, .fn (.func 77) [] [], .own 1000]), (3, .box 95 [.int .i64 at0.1.1, .int .i64 at0.1.2, .int .u64 at0.2]), (7, .box 3 [.int .i64 b1]), (1000, .map true false Y2 (.int .i64) s_3)]), gt⟩) (zL [] [] []) ?_
    refine AW.rangeF (R := Empty) (l0 := [(2, .bp 2 0), (3, .bp 3 0), (7, .bp 7 0)]) (hI := [(34000, .box 76 [.sl Y0 s, .sl Y1 s_2, .fn (.func 77) [] [], .one]), (34001, .box 95 [.int .i64 at0.1.1, .int .i64 at0.1.2, .int .u64 at0.2])]) (h0 := fun (st1 : ZM × Int) => [(2, .box 76 [.sl Y0 s, .sl Y1 s_2, .fn (.func 77) [] [], .own 1000]), (3, .box 95 [.int .i64 at0.1.1, .int .i64 at0.1.2, .int .u64 at0.2]), (7, .box 3 [.int .i64 st1.2]), (1000, .map true false Y2 (.int .i64) st1.1)]) (gg := fun (st1 : ZM × Int) => gt) (hx0 := (fun (r : Empty) => r.elim)) (gx := (fun (r : Empty) => r.elim)) (ex := (fun (r : Empty) => r.elim)) (s_3, b1) [(34000, 1000), (34001, 1001)] [(1000, 34000), (1001, 34001)] [(2, 1900), (3, 1901), (7, 1902)] [(1900, 2), (1901, 3), (1902, 7)] (by decide) rfl (by first | exact (ic_history_search_steps_1 s s_2 at0 (history_search_count_y1 slf s s_2) (s_3, b1) hx10) | simpa only [go_sem] using (ic_history_search_steps_1 s s_2 at0 (history_search_count_y1 slf s s_2) (s_3, b1) hx10)) (by (simp only [go_sem, hb4]) <;> (with_reducible and_intros) <;> first | assumption | rfl | omega | (unfold maxLen; omega)) rfl rfl rfl (fun _ => rfl) rfl (fun r => r.elim) rfl (fun r => r.elim) (fun r => r.elim) (fun _ => rfl) (fun _ => rfl) rfl (fun _ _ => by first | rfl | (exact (hΓ _).trans (hΓ _).symm) | (exact (hΓx _).trans (hΓ _).symm)) (fun _ r => r.elim) ?_ ?_
    ·intro lpy1 y1 st1 x11 h
     unfold history_search_count_y1 at h
     refine zV [(2, .bp 1900 0), (3, .bp 1901 0), (7, .bp 1902 0), (25, .int .i64 y1.1), (26, .agg [.int .i64 y1.2.1.1, .int .i64 y1.2.1.2, .int .u64 y1.2.2])] [(1000, .map true false Y2 (.int .i64) st1.1), (1900, .box 76 [.sl Y0 s, .sl Y1 s_2, .fn (.func 77) [] [], .own 1000]), (1901, .box 95 [.int .i64 at0.1.1, .int .i64 at0.1.2, .int .u64 at0.2]), (1902, .box 3 [.int .i64 st1.2])] gt ?_
     refine AW.ops ?_
     refine zA [(2, .bp 1900 0), (3, .bp 1901 0), (7, .bp 1902 0), (9, .bp 9 0)] [(9, .box 95 [.int .i64 y1.2.1.1, .int .i64 y1.2.1.2, .int .u64 y1.2.2]), (1000, .map true false Y2 (.int .i64) st1.1), (1900, .box 76 [.sl Y0 s, .sl Y1 s_2, .fn (.func 77) [] [], .own 1000]), (1901, .box 95 [.int .i64 at0.1.1, .int .i64 at0.1.2, .int .u64 at0.2]), (1902, .box 3 [.int .i64 st1.2])] ?_
     refine And.intro rfl ?_
     refine AW.block ?_
     refine AW.draw tab_ok mixed_ok [(3, [1000]), (5, [1902])] [(0, [1902]), (100005, [])] (by decide) (by kernel_rfl) ?_
     refine adops_cut 3 (fun K' hK12 => ?_)
     try dsimp only [List.drop_succ_cons, List.drop_zero, List.take_succ_cons, List.take_zero]
     simp only [go_sem, hb4]
     repeat with_reducible refine zN ?_
     refine hK12 _ ?_
     obtain ⟨v0_3, hv13, h⟩ := Option.bind_eq_some_iff.1 h
     refine adops.call (by first | trivial | rfl) rfl rfl rfl (fun _ h => h) [] [(1000, 1000)] (hc_slf s s_2 y1.2 st1.1 hv13) rfl (by (simp only [go_sem, hb4]) <;> (with_reducible and_intros) <;> first | assumption | rfl | omega | (unfold maxLen; omega)) (by (simp only [go_sem, hb4]) <;> (with_reducible and_intros) <;> first | assumption | rfl | omega | (unfold maxLen; omega)) rfl ?_
     obtain ⟨c15, h⟩ := ck_some.1 h
     refine adops_cut 2 (fun K' hK14 => ?_)
     try dsimp only [List.drop_succ_cons, List.drop_zero, List.take_succ_cons, List.take_zero]
     simp only [go_sem, hb4]
     repeat with_reducible refine zN ?_
     refine hK14 _ ?_
     refine adops_nil ?_
     refine ablock_n ?_
     obtain rfl := Option.some.inj h
     exact rpost_next rfl [] [] [] rfl (by (simp only [go_sem, hb4]) <;> (with_reducible and_intros) <;> first | assumption | rfl | omega | (unfold maxLen; omega))
    ·cases x9 with
     | inl st1_2 =>
      try simp only at h
      refine ablock_n ?_
      refine athen_n ?_
      exact AW.weaken (zL [] [] []) (hk_history_search_count_k2 _ h)
     | inr rx =>
      exact rx.elim
  ·refine AW.seq ?_
   refine zo ?_
   refine zS 2 [(2, .bp 2 0), (3, .bp 3 0), (7, .bp 7 0), (19, .agg [.sl Y0 s, .sl Y1 s_2, .fn (.func 77) [] [], .own 1000]), (20, .agg [.int .i64 at0.1.1, .int .i64 at0.1.2, .int .u64 at0.2])] [(2, .box 76 [.sl Y0 s, .sl Y1 s_2, .fn (.func 77) [] [], .own 1000]), (3, .box 95 [.int .i64 at0.1.1, .int .i64 at0.1.2, .int .u64 at0.2]), (7, .box 3 [.int .i64 0]), (1000, .map true false Y2 (.int .i64) s_3)] ?_
   obtain ⟨v0, hv16, h⟩ := Option.bind_eq_some_iff.1 h
   refine zC [] [] (hc_history_search_full s s_2 at0 hv16) [(2, .bp 2 0), (3, .bp 3 0), (7, .bp 7 0), (21, .bool v0)] [(2, .box 76 [.sl Y0 s, .sl Y1 s_2, .fn (.func 77) [] [], .own 1000]), (3, .box 95 [.int .i64 at0.1.1, .int .i64 at0.1.2, .int .u64 at0.2]), (7, .box 3 [.int .i64 0]), (1000, .map true false Y2 (.int .i64) s_3)] ?_
   refine zB [(2, .bp 2 0), (3, .bp 3 0), (7, .bp 7 0), (21, .bool v0)] [(2, .box 76 [.sl Y0 s, .sl Y1 s_2, .fn (.func 77) [] [], .own 1000]), (3, .box 95 [.int .i64 at0.1.1, .int .i64 at0.1.2, .int .u64 at0.2]), (7, .box 3 [.int .i64 0]), (1000, .map true false Y2 (.int .i64) s_3)] ?_
   refine zQ h (fun hb17 h => ?_) (fun hb17 h => ?_)
   ·refine AW.ops ?_
    refine zB [(2, .bp 2 0), (3, .bp 3 0), (7, .bp 7 0)] [(2, .box 76 [.sl Y0 s, .sl Y1 s_2, .fn (.func 77) [] [], .own 1000]), (3, .box 95 [.int .i64 at0.1.1, .int .i64 at0.1.2, .int .u64 at0.2]), (7, .box 3 [.int .i64 1]), (1000, .map true false Y2 (.int .i64) s_3)] ?_
    exact AW.weaken (zL [] [] []) (hk_history_search_count_k1 _ h)
   ·refine zk ?_
    exact AW.weaken (zL [] [] []) (hk_history_search_count_k1 _ h)

theorem hc_history_search_count : ∀ (n : Nat) (s : ZS) (s_2 : ZH) (at0 : (Int × Int) × Int) (s_3 : ZM) {r : Int × ZM}, history_search_count n s s_2 at0 s_3 = some r → HC Try.prog 94 [(1000, .map true false Y2 (.int .i64) s_3)] [.agg [.sl Y0 s, .sl Y1 s_2, .fn (.func 77) [] [], .own 1000], .agg [.int .i64 at0.1.1, .int .i64 at0.1.2, .int .u64 at0.2]] [(1000, .map true false Y2 (.int .i64) r.2)] (.int .i64 r.1) := by
 intro n
 induction n with
 | zero => intro s s_2 at0 s_3 r h; cases h
 | succ n ih => intro s s_2 at0 s_3 r h; exact hc_history_search_countF (history_search_count n) ih s s_2 at0 s_3 h

theorem hc_history_search_first (s : ZS) (s_2 : ZH) (s_3 : ZM) {r : (List Int) × Bool × ZM} (h : history_search_first s s_2 s_3 = some r) : HC Try.prog 87 [(1000, .map true false Y2 (.int .i64) s_3)] [.agg [.sl Y0 s, .sl Y1 s_2, .fn (.func 77) [] [], .own 1000]] [(1000, .map true false Y2 (.int .i64) r.2.2), (2000, .arr 3 (.int .i64) r.1)] (.tup [.own 2000, .bool r.2.1]) := by
 unfold history_search_first at h
 refine zH Try.func87 [.tmp 2, .tmp 3] 31 ?_
 refine zo ?_
 refine zB [(1, .bp 1 0)] [(1, .box 76 [.sl Y0 s, .sl Y1 s_2, .fn (.func 77) [] [], .own 1000]), (1000, .map true false Y2 (.int .i64) s_3)] ?_
 refine zo ?_
 refine zB [(1, .bp 1 0), (4, .bp 4 0)] [(1, .box 76 [.sl Y0 s, .sl Y1 s_2, .fn (.func 77) [] [], .own 1000]), (4, .box 95 [.int .i64 0, .int .i64 0, .int .u64 0]), (1000, .map true false Y2 (.int .i64) s_3)] ?_
 refine AW.seq ?_
 refine zo ?_
 refine zS 2 [(1, .bp 1 0), (4, .bp 4 0), (8, .agg [.sl Y0 s, .sl Y1 s_2, .fn (.func 77) [] [], .own 1000]), (9, .agg [.int .i64 0, .int .i64 0, .int .u64 0])] [(1, .box 76 [.sl Y0 s, .sl Y1 s_2, .fn (.func 77) [] [], .own 1000]), (4, .box 95 [.int .i64 0, .int .i64 0, .int .u64 0]), (1000, .map true false Y2 (.int .i64) s_3)] ?_
 obtain ⟨v0, hv1, h⟩ := Option.bind_eq_some_iff.1 h
 refine zC [] [(1000, 1000)] (hc_history_search_count fuel s s_2 ((0, 0), 0) s_3 hv1) [(1, .bp 1 0), (4, .bp 4 0), (10, .int .i64 v0.1)] [(1, .box 76 [.sl Y0 s, .sl Y1 s_2, .fn (.func 77) [] [], .own 1000]), (4, .box 95 [.int .i64 0, .int .i64 0, .int .u64 0]), (1000, .map true false Y2 (.int .i64) v0.2)] ?_
 refine zB [(1, .bp 1 0), (4, .bp 4 0), (11, .bool (decide (v0.1 = 0)))] [(1, .box 76 [.sl Y0 s, .sl Y1 s_2, .fn (.func 77) [] [], .own 1000]), (4, .box 95 [.int .i64 0, .int .i64 0, .int .u64 0]), (1000, .map true false Y2 (.int .i64) v0.2)] ?_
 refine zQ h (fun hb2 h => ?_) (fun hb2 h => ?_)
 ·refine zo ?_
  refine zB [(2, .cv (.slice none 0 0)), (3, .bool false)] [(1000, .map true false Y2 (.int .i64) v0.2)] ?_
  refine zr ?_
  obtain rfl := Option.some.inj h
  exact zR [] [2000] []
 ·refine zk ?_
  refine zo ?_
  refine zB [(1, .bp 1 0), (4, .bp 4 0), (5, .bp 5 0)] [(1, .box 76 [.sl Y0 s, .sl Y1 s_2, .fn (.func 77) [] [], .own 1000]), (4, .box 95 [.int .i64 0, .int .i64 0, .int .u64 0]), (5, .box 33 [.cv (.slice none 0 0)]), (1000, .map true false Y2 (.int .i64) v0.2)] ?_
  refine AW.have1 (fun b1 : (List Int) × ZM => history_search_first_k1 b1 = some r) (fun b1 => ⟨fr [(5, .bp 5 0)], hpGet [(5, .box 33 [.own 28]), (28, .arr 3 (.int .i64) b1.1), (1000, .map true false Y2 (.int .i64) b1.2)], gt⟩) (fun b1 h => ?_) (fun hk_history_search_first_k1 => ?_)
  ·unfold history_search_first_k1 at h
   refine zo ?_
   refine zB [(2, .own 28), (3, .bool true)] [(28, .arr 3 (.int .i64) b1.1), (1000, .map true false Y2 (.int .i64) b1.2)] ?_
   refine AW.ret ?_
   obtain rfl := Option.some.inj h
   exact zR [] [] [(2000, 28)]
  ·refine AW.seq ?_
   refine AW.block ?_
   obtain ⟨rv7, hw3, ho4⟩ := Option.bind_eq_some_iff.1 h
   refine AW.loopO (history_search_first_b1 s s_2) (fun st1 => ⟨fr [(1, .bp 1 0), (4, .bp 4 0), (5, .bp 5 0)], hpGet [(1, .box 76 [.sl Y0 s, .sl Y1 s_2, .fn (.func 77) [] [], .own 1000]), (4, .box 95 [.int .i64 st1.2.1, .int .i64 st1.2.2.1, .int .u64 st1.2.2.2.1]), (5, .box 33 [.own 28]), (28, .arr 3 (.int .i64) st1.2.2.2.2), (1000, .map true false Y2 (.int .i64) st1.1)], gt⟩) (v0.2, 0, 0, 0, []) hw3 (zL [] [28] []) ?_
   intro st1 x6 h hd5
   unfold history_search_first_b1 at h
   refine AW.seq ?_
   refine zo ?_
   refine zS 2 [(1, .bp 1 0), (4, .bp 4 0), (5, .bp 5 0), (12, .agg [.sl Y0 s, .sl Y1 s_2, .fn (.func 77) [] [], .own 1000]), (13, .agg [.int .i64 st1.2.1, .int .i64 st1.2.2.1, .int .u64 st1.2.2.2.1])] [(1, .box 76 [.sl Y0 s, .sl Y1 s_2, .fn (.func 77) [] [], .own 1000]), (4, .box 95 [.int .i64 st1.2.1, .int .i64 st1.2.2.1, .int .u64 st1.2.2.2.1]), (5, .box 33 [.own 28]), (28, .arr 3 (.int .i64) st1.2.2.2.2), (1000, .map true false Y2 (.int .i64) st1.1)] ?_
   obtain ⟨v0_2, hv8, h⟩ := Option.bind_eq_some_iff.1 h
   refine zC [] [] (hc_history_search_full s s_2 ((st1.2.1, st1.2.2.1), st1.2.2.2.1) hv8) [(1, .bp 1 0), (4, .bp 4 0), (5, .bp 5 0), (14, .bool v0_2)] [(1, .box 76 [.sl Y0 s, .sl Y1 s_2, .fn (.func 77) [] [], .own 1000]), (4, .box 95 [.int .i64 st1.2.1, .int .i64 st1.2.2.1, .int .u64 st1.2.2.2.1]), (5, .box 33 [.own 28]), (28, .arr 3 (.int .i64) st1.2.2.2.2), (1000, .map true false Y2 (.int .i64) st1.1)] ?_
   refine zB [(1, .bp 1 0), (4, .bp 4 0), (5, .bp 5 0), (15, .bool (!v0_2))] [(1, .box 76 [.sl Y0 s, .sl Y1 s_2, .fn (.func 77) [] [], .own 1000]), (4, .box 95 [.int .i64 st1.2.1, .int .i64 st1.2.2.1, .int .u64 st1.2.2.2.1]), (5, .box 33 [.own 28]), (28, .arr 3 (.int .i64) st1.2.2.2.2), (1000, .map true false Y2 (.int .i64) st1.1)] ?_
   refine zQ h (fun hb9 h => ?_) (fun hb9 h => ?_)
   ·refine zk ?_
    refine AW.block ?_
    refine zo ?_
    refine zS 2 [(1, .bp 1 0), (4, .bp 4 0), (5, .bp 5 0), (16, .agg [.sl Y0 s, .sl Y1 s_2, .fn (.func 77) [] [], .own 1000]), (17, .agg [.int .i64 st1.2.1, .int .i64 st1.2.2.1, .int .u64 st1.2.2.2.1])] [(1, .box 76 [.sl Y0 s, .sl Y1 s_2, .fn (.func 77) [] [], .own 1000]), (4, .box 95 [.int .i64 st1.2.1, .int .i64 st1.2.2.1, .int .u64 st1.2.2.2.1]), (5, .box 33 [.own 28]), (28, .arr 3 (.int .i64) st1.2.2.2.2), (1000, .map true false Y2 (.int .i64) st1.1)] ?_
    obtain ⟨v0_3, hv10, h⟩ := Option.bind_eq_some_iff.1 h
    refine zC [] [] (hc_history_search_steps s s_2 ((st1.2.1, st1.2.2.1), st1.2.2.2.1) hv10) [(1, .bp 1 0), (4, .bp 4 0), (5, .bp 5 0), (18, .fn (.func 127) [] [.bp 28000 0, .bp 28001 0])] [(1, .box 76 [.sl Y0 s, .sl Y1 s_2, .fn (.func 77) [] [], .own 1000]), (4, .box 95 [.int .i64 st1.2.1, .int .i64 st1.2.2.1, .int .u64 st1.2.2.2.1]), (5, .box 33 [.own 28]), (28, .arr 3 (.int .i64) st1.2.2.2.2), (1000, .map true false Y2 (.int .i64) st1.1), (28000, .box 76 [.sl Y0 s, .sl Y1 s_2, .fn (.func 77) [] [], .one]), (28001, .box 95 [.int .i64 st1.2.1, .int .i64 st1.2.2.1, .int .u64 st1.2.2.2.1])] ?_
    refine zB [(1, .bp 1 0), (4, .bp 4 0), (5, .bp 5 0), (18, .fn (.func 127) [] [.bp 28000 0, .bp 28001 0])] [(1, .box 76 [.sl Y0 s, .sl Y1 s_2, .fn (.func 77) [] [], .own 1000]), (4, .box 95 [.int .i64 st1.2.1, .int .i64 st1.2.2.1, .int .u64 st1.2.2.2.1]), (5, .box 33 [.own 28]), (28, .arr 3 (.int .i64) st1.2.2.2.2), (1000, .map true false Y2 (.int .i64) st1.1), (28000, .box 76 [.sl Y0 s, .sl Y1 s_2, .fn (.func 77) [] [], .one]), (28001, .box 95 [.int .i64 st1.2.1, .int .i64 st1.2.2.1, .int .u64 st1.2.2.2.1])] ?_
    refine AW.block ?_
    obtain ⟨x11, hx12, h⟩ := Option.bind_eq_some_iff.1 h
    refine AW.weaken (s' := ⟨fr [(1, .bp 1 0), (4, .bp 4 0), (5, .bp 5 0), (18, .fn (.func 127) [] [.bp 28000 0, .bp 28001 0])], hpGet ([(28000, .box 76 [.sl Y0 s, .sl Y1 s_2, .fn (.func 77) [] [], .one]), (28001, .box 95 [.int .i64 st1.2.1, .int .i64 st1.2.2.1, .int .u64 st1.2.2.2.1])] ++ [(1, .box 76 [.sl Y0 s, .sl Y1 s_2, .fn (.func 77) [] [], .own 1000]), (4, .box 95 [.int .i64 st1.2.1, .int .i64 st1.2.2.1, .int .u64 st1.2.2.2.1]), (5, .box 33 [.own 28]), (28, .arr 3 (.int .i64) st1.2.2.2.2), (1000, .map true false Y2 (.int .i64) st1.1)]), gt⟩) (zL [] [] []) ?_
    refine AW.rangeF (R := ZM × Int × Int × Int × (List Int)) (l0 := [(1, .bp 1 0), (4, .bp 4 0), (5, .bp 5 0)]) (hI := [(28000, .box 76 [.sl Y0 s, .sl Y1 s_2, .fn (.func 77) [] [], .one]), (28001, .box 95 [.int .i64 st1.2.1, .int .i64 st1.2.2.1, .int .u64 st1.2.2.2.1])]) (h0 := fun (st2 : ZM) => [(1, .box 76 [.sl Y0 s, .sl Y1 s_2, .fn (.func 77) [] [], .own 1000]), (4, .box 95 [.int .i64 st1.2.1, .int .i64 st1.2.2.1, .int .u64 st1.2.2.2.1]), (5, .box 33 [.own 28]), (28, .arr 3 (.int .i64) st1.2.2.2.2), (1000, .map true false Y2 (.int .i64) st2)]) (gg := fun (st2 : ZM) => gt) (hx0 := (fun (r2 : ZM × Int × Int × Int × (List Int)) => [(1, .box 76 [.sl Y0 s, .sl Y1 s_2, .fn (.func 77) [] [], .own 1000]), (4, .box 95 [.int .i64 r2.2.1, .int .i64 r2.2.2.1, .int .u64 r2.2.2.2.1]), (5, .box 33 [.own 28]), (28, .arr 3 (.int .i64) r2.2.2.2.2), (1000, .map true false Y2 (.int .i64) r2.1)])) (gx := (fun (r2 : ZM × Int × Int × Int × (List Int)) => gt)) (ex := (fun (r2 : ZM × Int × Int × Int × (List Int)) => Exit.exit 2)) st1.1 [(28000, 1000), (28001, 1001)] [(1000, 28000), (1001, 28001)] [(1, 1900), (4, 1901), (5, 1902)] [(1900, 1), (1901, 4), (1902, 5)] (by decide) rfl (by first | exact (ic_history_search_steps_1 s s_2 ((st1.2.1, st1.2.2.1), st1.2.2.2.1) (history_search_first_y2 s s_2 st1) st1.1 hx12) | simpa only [go_sem] using (ic_history_search_steps_1 s s_2 ((st1.2.1, st1.2.2.1), st1.2.2.2.1) (history_search_first_y2 s s_2 st1) st1.1 hx12)) (by (simp only [go_sem, hb2, hb9]) <;> (with_reducible and_intros) <;> first | assumption | rfl | omega | (unfold maxLen; omega)) rfl rfl rfl (fun _ => rfl) rfl (fun _ => rfl) rfl (fun _ => rfl) (fun _ => rfl) (fun _ => rfl) (fun _ => rfl) rfl (fun _ _ => by first | rfl | (exact (hΓ _).trans (hΓ _).symm) | (exact (hΓx _).trans (hΓ _).symm)) (fun _ _ => by first | rfl | (exact (hΓ _).trans (hΓ _).symm) | (exact (hΓx _).trans (hΓ _).symm)) ?_ ?_
    ·intro lpy2 y2 st2 x13 h
     unfold history_search_first_y2 at h
     refine zV [(1, .bp 1900 0), (4, .bp 1901 0), (5, .bp 1902 0), (19, .int .i64 y2.1), (20, .agg [.int .i64 y2.2.1.1, .int .i64 y2.2.1.2, .int .u64 y2.2.2])] [(28, .arr 3 (.int .i64) st1.2.2.2.2), (1000, .map true false Y2 (.int .i64) st2), (1900, .box 76 [.sl Y0 s, .sl Y1 s_2, .fn (.func 77) [] [], .own 1000]), (1901, .box 95 [.int .i64 st1.2.1, .int .i64 st1.2.2.1, .int .u64 st1.2.2.2.1]), (1902, .box 33 [.own 28])] gt ?_
     refine zo ?_
     refine zB [(1, .bp 1900 0), (4, .bp 1901 0), (5, .bp 1902 0), (6, .int .i64 y2.1), (20, .agg [.int .i64 y2.2.1.1, .int .i64 y2.2.1.2, .int .u64 y2.2.2])] [(28, .arr 3 (.int .i64) st1.2.2.2.2), (1000, .map true false Y2 (.int .i64) st2), (1900, .box 76 [.sl Y0 s, .sl Y1 s_2, .fn (.func 77) [] [], .own 1000]), (1901, .box 95 [.int .i64 st1.2.1, .int .i64 st1.2.2.1, .int .u64 st1.2.2.2.1]), (1902, .box 33 [.own 28])] ?_
     refine AW.ops ?_
     refine zA [(1, .bp 1900 0), (4, .bp 1901 0), (5, .bp 1902 0), (6, .int .i64 y2.1), (7, .bp 7 0)] [(7, .box 95 [.int .i64 y2.2.1.1, .int .i64 y2.2.1.2, .int .u64 y2.2.2]), (28, .arr 3 (.int .i64) st1.2.2.2.2), (1000, .map true false Y2 (.int .i64) st2), (1900, .box 76 [.sl Y0 s, .sl Y1 s_2, .fn (.func 77) [] [], .own 1000]), (1901, .box 95 [.int .i64 st1.2.1, .int .i64 st1.2.2.1, .int .u64 st1.2.2.2.1]), (1902, .box 33 [.own 28])] ?_
     refine And.intro rfl ?_
     refine AW.block ?_
     refine zo ?_
     refine zS 2 [(1, .bp 1900 0), (4, .bp 1901 0), (5, .bp 1902 0), (6, .int .i64 y2.1), (7, .bp 7 0), (21, .agg [.sl Y0 s, .sl Y1 s_2, .fn (.func 77) [] [], .own 1000]), (22, .agg [.int .i64 y2.2.1.1, .int .i64 y2.2.1.2, .int .u64 y2.2.2])] [(7, .box 95 [.int .i64 y2.2.1.1, .int .i64 y2.2.1.2, .int .u64 y2.2.2]), (28, .arr 3 (.int .i64) st1.2.2.2.2), (1000, .map true false Y2 (.int .i64) st2), (1900, .box 76 [.sl Y0 s, .sl Y1 s_2, .fn (.func 77) [] [], .own 1000]), (1901, .box 95 [.int .i64 st1.2.1, .int .i64 st1.2.2.1, .int .u64 st1.2.2.2.1]), (1902, .box 33 [.own 28])] ?_
     obtain ⟨v0_4, hv14, h⟩ := Option.bind_eq_some_iff.1 h
     refine zC [] [(1000, 1000)] (hc_history_search_count fuel s s_2 y2.2 st2 hv14) [(1, .bp 1900 0), (4, .bp 1901 0), (5, .bp 1902 0), (6, .int .i64 y2.1), (7, .bp 7 0), (23, .int .i64 v0_4.1)] [(7, .box 95 [.int .i64 y2.2.1.1, .int .i64 y2.2.1.2, .int .u64 y2.2.2]), (28, .arr 3 (.int .i64) st1.2.2.2.2), (1000, .map true false Y2 (.int .i64) v0_4.2), (1900, .box 76 [.sl Y0 s, .sl Y1 s_2, .fn (.func 77) [] [], .own 1000]), (1901, .box 95 [.int .i64 st1.2.1, .int .i64 st1.2.2.1, .int .u64 st1.2.2.2.1]), (1902, .box 33 [.own 28])] ?_
     refine zB [(1, .bp 1900 0), (4, .bp 1901 0), (5, .bp 1902 0), (6, .int .i64 y2.1), (7, .bp 7 0), (24, .bool (decide (0 < v0_4.1)))] [(7, .box 95 [.int .i64 y2.2.1.1, .int .i64 y2.2.1.2, .int .u64 y2.2.2]), (28, .arr 3 (.int .i64) st1.2.2.2.2), (1000, .map true false Y2 (.int .i64) v0_4.2), (1900, .box 76 [.sl Y0 s, .sl Y1 s_2, .fn (.func 77) [] [], .own 1000]), (1901, .box 95 [.int .i64 st1.2.1, .int .i64 st1.2.2.1, .int .u64 st1.2.2.2.1]), (1902, .box 33 [.own 28])] ?_
     refine zQ h (fun hb15 h => ?_) (fun hb15 h => ?_)
     ·refine AW.seq ?_
      refine AW.draw tab_ok mixed_ok [(2, [27]), (3, [28]), (5, [1902]), (6, [1901])] [(0, [28, 1902, 1000000028]), (4, [7]), (100005, []), (100006, [])] (by decide) (by kernel_rfl) ?_
      obtain ⟨c17, h⟩ := ck_some.1 h
      refine adops_cut 6 (fun K' hK16 => ?_)
      try dsimp only [List.drop_succ_cons, List.drop_zero, List.take_succ_cons, List.take_zero]
      simp only [go_sem, hb2, hb9, hb15]
      repeat with_reducible refine zN ?_
      refine hK16 _ ?_
      refine adops_cut 1 (fun K' hK18 => ?_)
      try dsimp only [List.drop_succ_cons, List.drop_zero, List.take_succ_cons, List.take_zero]
      simp only [go_sem, hb2, hb9, hb15]
      repeat with_reducible refine zN ?_
      refine hK18 _ ?_
      refine adops_nil ?_
      refine athen_n ?_
      refine zV [(1, .bp 1900 0), (4, .bp 1901 0), (5, .bp 1902 0)] [(28, .arr 3 (.int .i64) (st1.2.2.2.2 ++ [y2.1])), (1000, .map true false Y2 (.int .i64) v0_4.2), (1900, .box 76 [.sl Y0 s, .sl Y1 s_2, .fn (.func 77) [] [], .own 1000]), (1901, .box 95 [.int .i64 y2.2.1.1, .int .i64 y2.2.1.2, .int .u64 y2.2.2]), (1902, .box 33 [.own 28])] gt ?_
      refine AW.exit ?_
      refine ablock_o (by decide) ?_
      obtain rfl := Option.some.inj h
      exact rpost_exit rfl rfl [] [] [] rfl (by (simp only [go_sem, hb2, hb9, hb15]) <;> (with_reducible and_intros) <;> first | assumption | rfl | omega | (unfold maxLen; omega))
     ·refine zm ?_
      obtain rfl := Option.some.inj h
      exact rpost_next rfl [] [] [] rfl (by (simp only [go_sem, hb2, hb9, hb15]) <;> (with_reducible and_intros) <;> first | assumption | rfl | omega | (unfold maxLen; omega))
    ·cases x11 with
     | inl st2_2 =>
      try simp only at h
      refine ablock_n ?_
      refine ablock_n ?_
      obtain rfl := Option.some.inj h
      exact ⟨_, rfl, zL [] [] []⟩
     | inr r2 =>
      try simp only at h
      refine ablock_s ?_
      refine ablock_n ?_
      obtain rfl := Option.some.inj h
      exact ⟨_, rfl, zL [] [] []⟩
   ·refine AW.exit ?_
    refine athen_e ?_
    obtain rfl := Option.some.inj h
    rw [← hd5 _ rfl] at ho4
    have h := ho4
    refine athen_e ?_
    refine ablock_s ?_
    refine athen_n ?_
    exact AW.weaken (zL [] [] []) (hk_history_search_first_k1 _ h)

theorem hc_history_Order (specs : ZS) (h0 : ZH) {r : (List Int) × Int} (h : history_Order specs h0 = some r) : HC Try.prog 30 [] [.sl Y0 specs, .sl Y1 h0] [(2000, .arr 3 (.int .i64) r.1)] (.tup [.own 2000, .int .i64 r.2]) := by
 unfold history_Order at h
 refine zH Try.func30 [.tmp 4, .tmp 5] 29 ?_
 refine zo ?_
 refine zB [(2, .bp 2 0), (3, .bp 3 0)] [(2, .box 22 [.sl Y0 specs]), (3, .box 23 [.sl Y1 h0])] ?_
 refine zo ?_
 refine zS 2 [(2, .bp 2 0), (3, .bp 3 0), (11, .sl Y0 specs), (12, .sl Y1 h0)] [(2, .box 22 [.sl Y0 specs]), (3, .box 23 [.sl Y1 h0])] ?_
 obtain ⟨v0, hv1, h⟩ := Option.bind_eq_some_iff.1 h
 refine zC [] [] (hc_history_checkFor specs h0 hv1) [(2, .bp 2 0), (3, .bp 3 0), (13, .int .i64 v0)] [(2, .box 22 [.sl Y0 specs]), (3, .box 23 [.sl Y1 h0])] ?_
 refine zS 1 [(13, .int .i64 v0), (14, .fn (.func 85) [] [.bp 2 0, .bp 3 0])] [(2, .box 22 [.sl Y0 specs]), (3, .box 23 [.sl Y1 h0])] ?_
 rcases Bool.eq_false_or_eq_true (decide (v0 = 0)) with hb2 | hb2
 ·rw [if_pos hb2] at h
  have hz3 : v0 = 0 := by simpa using hb2
  refine zT [(13, .int .i64 0), (14, .fn (.func 85) [] [.bp 2 0, .bp 3 0])] [(2, .box 22 [.sl Y0 specs]), (3, .box 23 [.sl Y1 h0])] gt ?_
  obtain ⟨v0_2, hv4, h⟩ := Option.bind_eq_some_iff.1 h
  refine zC [] [(1000, 2), (1001, 3)] (hc_history_told specs h0 hv4) [(15, .tup [.agg [.sl Y0 specs, .sl Y1 h0, .fn (.func 77) [] [], .own 25000], .int .i64 0])] [(25000, .map true false Y2 (.int .i64) [])] ?_
  refine zB [(6, .bp 6 0), (7, .int .i64 0)] [(6, .box 76 [.sl Y0 specs, .sl Y1 h0, .fn (.func 77) [] [], .own 25000]), (25000, .map true false Y2 (.int .i64) [])] ?_
  refine AW.seq ?_
  refine zo ?_
  refine zB [(6, .bp 6 0), (7, .int .i64 0), (19, .bool false)] [(6, .box 76 [.sl Y0 specs, .sl Y1 h0, .fn (.func 77) [] [], .own 25000]), (25000, .map true false Y2 (.int .i64) [])] ?_
  refine AW.cond (b := false) rfl (fun hb5 => by cases hb5) (fun _ => ?_)
  refine zk ?_
  refine zo ?_
  refine zS 1 [(22, .agg [.sl Y0 specs, .sl Y1 h0, .fn (.func 77) [] [], .own 25000])] [(25000, .map true false Y2 (.int .i64) [])] ?_
  obtain ⟨v0_3, hv6, h⟩ := Option.bind_eq_some_iff.1 h
  refine zC [] [(1000, 25000)] (hc_history_search_first specs h0 [] hv6) [(23, .tup [.own 33000, .bool v0_3.2.1])] [(33000, .arr 3 (.int .i64) v0_3.1)] ?_
  refine zB [(8, .own 33000), (9, .bool v0_3.2.1)] [(33000, .arr 3 (.int .i64) v0_3.1)] ?_
  refine AW.seq ?_
  refine zo ?_
  refine zB [(8, .own 33000), (27, .bool (!v0_3.2.1))] [(33000, .arr 3 (.int .i64) v0_3.1)] ?_
  refine zQ h (fun hb7 h => ?_) (fun hb7 h => ?_)
  ·refine zo ?_
   refine zB [(4, .cv (.slice none 0 0)), (5, .int .i64 5)] [] ?_
   refine zr ?_
   obtain rfl := Option.some.inj h
   exact zR [] [2000] []
  ·refine zk ?_
   refine zo ?_
   refine zB [(4, .own 33000), (5, .int .i64 0)] [(33000, .arr 3 (.int .i64) v0_3.1)] ?_
   refine AW.ret ?_
   obtain rfl := Option.some.inj h
   exact zR [] [] [(2000, 33000)]
 ·rw [if_neg (Bool.eq_false_iff.1 hb2)] at h
  refine zT [(13, .int .i64 v0), (14, .fn (.func 85) [] [.bp 2 0, .bp 3 0])] [(2, .box 22 [.sl Y0 specs]), (3, .box 23 [.sl Y1 h0])] gt ?_
  obtain ⟨v0_4, hv8, h⟩ := Option.bind_eq_some_iff.1 h
  refine zC [] [(1000, 2), (1001, 3)] (hc_history_told_2 v0 specs h0 hb2 hv8) [(15, .tup [.agg [.cv (.slice none 0 0), .cv (.slice none 0 0), .cv (.nilFunc), .cv (.map none)], .int .i64 v0])] [] ?_
  refine zB [(6, .bp 6 0), (7, .int .i64 v0)] [(6, .box 76 [.cv (.slice none 0 0), .cv (.slice none 0 0), .cv (.nilFunc), .cv (.map none)])] ?_
  refine AW.seq ?_
  refine zo ?_
  refine zB [(6, .bp 6 0), (7, .int .i64 v0), (19, .bool true)] [(6, .box 76 [.cv (.slice none 0 0), .cv (.slice none 0 0), .cv (.nilFunc), .cv (.map none)])] ?_
  refine AW.cond (b := true) rfl (fun _ => ?_) (fun hb9 => by cases hb9)
  refine zo ?_
  refine zB [(4, .cv (.slice none 0 0)), (5, .int .i64 v0)] [] ?_
  refine zr ?_
  obtain rfl := Option.some.inj h
  exact zR [] [2000] []

theorem hc_linealref02_SameInts (a : List Int) (b : List Int) {r : Bool} (h : linealref02_SameInts a b = some r) : HC Try.prog 32 [] [.sl (.int .i64) a, .sl (.int .i64) b] [] (.bool r) := by
 unfold linealref02_SameInts at h
 refine zH Try.func32 [.tmp 4] 26 ?_
 refine zo ?_
 refine zB [(0, .sl (.int .i64) a), (1, .sl (.int .i64) b)] [] ?_
 refine AW.seq ?_
 refine zo ?_
 refine zB [(0, .sl (.int .i64) a), (1, .sl (.int .i64) b), (10, .bool (!(decide ((a.length : Int) = (b.length : Int)))))] [] ?_
 refine zQ h (fun hb1 h => ?_) (fun hb1 h => ?_)
 ·refine zo ?_
  refine zB [(4, .bool false)] [] ?_
  refine zr ?_
  obtain rfl := Option.some.inj h
  exact zR [] [] []
 ·refine zk ?_
  refine AW.have1 (fun _ : Unit => linealref02_SameInts_k1 = some r) (fun _ => ⟨fr [], hpGet [], gt⟩) (fun _ h => ?_) (fun hk_linealref02_SameInts_k1 => ?_)
  ·unfold linealref02_SameInts_k1 at h
   refine zo ?_
   refine zB [(4, .bool true)] [] ?_
   refine AW.ret ?_
   obtain rfl := Option.some.inj h
   exact zR [] [] []
  ·refine AW.seq ?_
   refine zo ?_
   refine zB [(0, .sl (.int .i64) a), (1, .sl (.int .i64) b), (5, .int .i64 0)] [] ?_
   refine AW.block ?_
   obtain ⟨rv6, hw2, ho3⟩ := Option.bind_eq_some_iff.1 h
   refine AW.loopO (linealref02_SameInts_b1 a b) (fun st1 => ⟨fr [(0, .sl (.int .i64) a), (1, .sl (.int .i64) b), (5, .int .i64 st1)], hpGet [], gt⟩) 0 hw2 (zL [] [] []) ?_
   intro st1 x5 h hd4
   unfold linealref02_SameInts_b1 at h
   refine AW.seq ?_
   refine zo ?_
   refine zB [(0, .sl (.int .i64) a), (1, .sl (.int .i64) b), (5, .int .i64 st1), (14, .bool (decide (st1 < (a.length : Int))))] [] ?_
   refine zQ h (fun hb7 h => ?_) (fun hb7 h => ?_)
   ·refine zk ?_
    refine AW.seq ?_
    refine AW.block ?_
    refine AW.seq ?_
    refine AW.draw tab_ok mixed_ok [] [] (by decide) (by kernel_rfl) ?_
    obtain ⟨c9, h⟩ := ck_some.1 h
    obtain ⟨c10, h⟩ := ck_some.1 h
    refine adops_cut 6 (fun K' hK8 => ?_)
    try dsimp only [List.drop_succ_cons, List.drop_zero, List.take_succ_cons, List.take_zero]
    simp only [go_sem, hb1, hb7]
    repeat with_reducible refine zN ?_
    refine hK8 _ ?_
    obtain ⟨c12, h⟩ := ck_some.1 h
    obtain ⟨c13, h⟩ := ck_some.1 h
    refine adops_cut 3 (fun K' hK11 => ?_)
    try dsimp only [List.drop_succ_cons, List.drop_zero, List.take_succ_cons, List.take_zero]
    simp only [go_sem, hb1, hb7]
    repeat with_reducible refine zN ?_
    refine hK11 _ ?_
    refine adops_nil ?_
    refine athen_n ?_
    refine zV [(0, .sl (.int .i64) a), (1, .sl (.int .i64) b), (5, .int .i64 st1), (25, .bool (!(decide ((a.getD st1.toNat 0) = (b.getD st1.toNat 0)))))] [] gt ?_
    refine zQ h (fun hb14 h => ?_) (fun hb14 h => ?_)
    ·refine zo ?_
     refine zB [(4, .bool false)] [] ?_
     refine AW.ret ?_
     refine ablock_r ?_
     refine athen_r ?_
     obtain rfl := Option.some.inj h
     rw [← hd4 _ rfl] at ho3
     have h := ho3
     try simp only at h
     refine athen_r ?_
     refine ablock_r ?_
     refine athen_r ?_
     obtain rfl := Option.some.inj h
     exact zR [] [] []
    ·refine zm ?_
     refine athen_n ?_
     refine AW.ops ?_
     obtain ⟨c15, h⟩ := ck_some.1 h
     refine zA [(0, .sl (.int .i64) a), (1, .sl (.int .i64) b), (5, .int .i64 (st1 + 1))] [] ?_
     obtain rfl := Option.some.inj h
     exact ⟨_, rfl, zL [] [] []⟩
   ·refine AW.exit ?_
    refine athen_e ?_
    obtain rfl := Option.some.inj h
    rw [← hd4 _ rfl] at ho3
    have h := ho3
    try simp only at h
    refine athen_e ?_
    refine ablock_s ?_
    refine athen_n ?_
    exact AW.weaken (zL [] [] []) (hk_linealref02_SameInts_k1 () h)

theorem hc_lineallaw02_Sane {r : Bool} (h : lineallaw02_Sane = some r) : HC Try.prog 19 [] [] [] (.bool r) := by
 unfold lineallaw02_Sane at h
 refine zH Try.func19 [.tmp 0] 27 ?_
 refine zo ?_
 refine zB [] [] ?_
 refine zo ?_
 refine zB [(1, .bp 1 0)] [(1, .box 64 [.int .i64 2, .int .i64 2, .own 6, .own 9]), (6, .arr 33 (.sl (.int .i64)) [[1, 0], [1, 0]]), (9, .arr 33 (.sl (.int .i64)) [[1, 0], [0, 1]])] ?_
 refine zo ?_
 refine zS 5 [(13, .own 13), (16, .own 16)] [(13, .arr 64 Y0 [(2, 2, [[1, 0], [1, 0]], [[1, 0], [0, 1]])]), (16, .arr 55 Y1 [(0, 0, 0, 1, 1, 6), (1, 0, 1, 0, 2, 5)])] ?_
 obtain ⟨v0, hv1, h⟩ := Option.bind_eq_some_iff.1 h
 refine zC [13, 16] [] (hc_history_Order [(2, 2, [[1, 0], [1, 0]], [[1, 0], [0, 1]])] [(0, 0, 0, 1, 1, 6), (1, 0, 1, 0, 2, 5)] hv1) [(17, .tup [.own 27000, .int .i64 v0.2])] [(27000, .arr 3 (.int .i64) v0.1)] ?_
 refine zB [(2, .own 27000), (3, .int .i64 v0.2)] [(27000, .arr 3 (.int .i64) v0.1)] ?_
 refine zo ?_
 refine zS 3 [(2, .own 27000), (22, .bool (decide (v0.2 = 0)))] [(27000, .arr 3 (.int .i64) v0.1)] ?_
 rcases zI h with ⟨hb2, h⟩ | ⟨hb2, h⟩
 ·refine zS 2 [(22, .bool true), (23, .own 27000), (24, .own 24)] [(24, .arr 3 (.int .i64) [1, 0]), (27000, .arr 3 (.int .i64) v0.1)] ?_
  obtain ⟨v0_2, hv3, h⟩ := Option.bind_eq_some_iff.1 h
  refine zG [24, 27000] [] (hc_linealref02_SameInts v0.1 [1, 0] hv3) [(22, .bool true), (25, .bool v0_2)] [] ?_
  refine zB [(0, .bool v0_2)] [] ?_
  refine AW.ret ?_
  obtain rfl := Option.some.inj h
  exact zR [] [] []
 ·refine zB [(0, .bool false)] [] ?_
  refine AW.ret ?_
  obtain rfl := Option.some.inj h
  exact zR [] [] []

theorem hc_lineallaw02_Long (h0 : ZH) {r : Unit} (h : lineallaw02_Long h0 = some r) : HC Try.prog 18 [] [.sl Y1 h0] [] (.bool (decide (40 < (h0.length : Int)))) := by
 unfold lineallaw02_Long at h
 refine zH Try.func18 [.tmp 2] 6 ?_
 refine zo ?_
 refine zB [(0, .sl Y1 h0)] [] ?_
 refine zo ?_
 refine zB [(2, .bool (decide (40 < (h0.length : Int))))] [] ?_
 refine AW.ret ?_
 obtain rfl := Option.some.inj h
 exact zR [] [] []

theorem hc_history_isIndex (h0 : ZH) (call : Int) {r : Bool} (h : history_isIndex h0 call = some r) : HC Try.prog 64 [] [.sl Y1 h0, .int .i64 call] [] (.bool r) := by
 unfold history_isIndex at h
 refine zH Try.func64 [.tmp 4] 13 ?_
 refine zo ?_
 refine zB [(0, .sl Y1 h0), (1, .int .i64 call)] [] ?_
 refine zo ?_
 refine zS 3 [(0, .sl Y1 h0), (1, .int .i64 call), (7, .bool (decide (0 ≤ call)))] [] ?_
 rcases zI h with ⟨hb1, h⟩ | ⟨hb1, h⟩
 ·refine zB [(4, .bool (decide (call < (h0.length : Int))))] [] ?_
  refine AW.ret ?_
  obtain rfl := Option.some.inj h
  exact zR [] [] []
 ·refine zS 4 [(7, .bool false), (11, .cv (undef))] [] ?_
  refine zB [(4, .bool false)] [] ?_
  refine AW.ret ?_
  obtain rfl := Option.some.inj h
  exact zR [] [] []

theorem hc_history_isOrder (h0 : ZH) (order : List Int) {r : Bool} (h : history_isOrder h0 order = some r) : HC Try.prog 75 [] [.sl Y1 h0, .sl (.int .i64) order] [] (.bool r) := by
 unfold history_isOrder at h
 refine zH Try.func75 [.tmp 4] 51 ?_
 refine zo ?_
 refine zB [(0, .sl Y1 h0), (1, .sl (.int .i64) order)] [] ?_
 refine zo ?_
 obtain ⟨c1, h⟩ := ck_some.1 h
 refine zB [(0, .sl Y1 h0), (1, .sl (.int .i64) order), (5, .own 12)] [(12, .arr 4 .bool (List.replicate h0.length (false : Bool)))] ?_
 refine AW.have1 (fun b1 : (List Bool) => history_isOrder_k1 h0 b1 = some r) (fun b1 => ⟨fr [(0, .sl Y1 h0), (5, .own 12)], hpGet [(12, .arr 4 .bool b1)], gt⟩) (fun b1 h => ?_) (fun hk_history_isOrder_k1 => ?_)
 ·unfold history_isOrder_k1 at h
  refine AW.have1 (fun _ : Unit => history_isOrder_k2 = some r) (fun _ => ⟨fr [], hpGet [], gt⟩) (fun _ h => ?_) (fun hk_history_isOrder_k2 => ?_)
  ·unfold history_isOrder_k2 at h
   refine zo ?_
   refine zB [(4, .bool true)] [] ?_
   refine AW.ret ?_
   obtain rfl := Option.some.inj h
   exact zR [] [] []
  ·refine AW.seq ?_
   refine zo ?_
   refine zB [(5, .own 12), (33, .sl Y1 h0), (34, .int .i64 (h0.length : Int)), (35, .int .i64 0)] [(12, .arr 4 .bool b1)] ?_
   refine AW.block ?_
   obtain ⟨rv6, hw2, ho3⟩ := Option.bind_eq_some_iff.1 h
   refine AW.loopO (history_isOrder_b2 h0 b1) (fun st2 => ⟨fr [(5, .own 12), (33, .sl Y1 h0), (34, .int .i64 (h0.length : Int)), (35, .int .i64 st2)], hpGet [(12, .arr 4 .bool b1)], gt⟩) 0 hw2 (zL [] [] []) ?_
   intro st2 x5 h hd4
   unfold history_isOrder_b2 at h
   refine zo ?_
   refine zB [(5, .own 12), (33, .sl Y1 h0), (34, .int .i64 (h0.length : Int)), (35, .int .i64 st2), (36, .bool (decide (st2 < (h0.length : Int))))] [(12, .arr 4 .bool b1)] ?_
   refine AW.seq ?_
   refine zQ h (fun hb7 h => ?_) (fun hb7 h => ?_)
   ·refine zk ?_
    refine AW.seq ?_
    refine AW.block ?_
    refine zo ?_
    obtain ⟨c8, h⟩ := ck_some.1 h
    obtain ⟨c9, h⟩ := ck_some.1 h
    refine zB [(5, .own 12), (8, .int .i64 st2), (9, .bp 9 0), (33, .sl Y1 h0), (34, .int .i64 (h0.length : Int)), (35, .int .i64 st2)] [(9, .box 55 [.int .i64 (h0.getD st2.toNat (0, 0, 0, 0, 0, 0)).1, .int .i64 (h0.getD st2.toNat (0, 0, 0, 0, 0, 0)).2.1, .int .i64 (h0.getD st2.toNat (0, 0, 0, 0, 0, 0)).2.2.1, .int .i64 (h0.getD st2.toNat (0, 0, 0, 0, 0, 0)).2.2.2.1, .int .i64 (h0.getD st2.toNat (0, 0, 0, 0, 0, 0)).2.2.2.2.1, .int .i64 (h0.getD st2.toNat (0, 0, 0, 0, 0, 0)).2.2.2.2.2]), (12, .arr 4 .bool b1)] ?_
    refine zo ?_
    refine zS 4 [(5, .own 12), (8, .int .i64 st2), (33, .sl Y1 h0), (34, .int .i64 (h0.length : Int)), (35, .int .i64 st2), (43, .bool (!(decide ((h0.getD st2.toNat (0, 0, 0, 0, 0, 0)).2.2.2.2.2 = 0))))] [(12, .arr 4 .bool b1)] ?_
    rcases zI h with ⟨hb10, h⟩ | ⟨hb10, h⟩
    ·obtain ⟨c11, h⟩ := ck_some.1 h
     obtain ⟨c12, h⟩ := ck_some.1 h
     refine zB [(5, .own 12), (33, .sl Y1 h0), (34, .int .i64 (h0.length : Int)), (35, .int .i64 st2), (49, .bool (!(b1.getD st2.toNat false)))] [(12, .arr 4 .bool b1)] ?_
     refine zQ h (fun hb13 h => ?_) (fun hb13 h => ?_)
     ·refine zo ?_
      refine zB [(4, .bool false)] [] ?_
      refine AW.ret ?_
      refine ablock_r ?_
      refine athen_r ?_
      obtain rfl := Option.some.inj h
      rw [← hd4 _ rfl] at ho3
      have h := ho3
      try simp only at h
      refine athen_r ?_
      refine ablock_r ?_
      refine athen_r ?_
      obtain rfl := Option.some.inj h
      exact zR [] [] []
     ·refine zm ?_
      refine athen_n ?_
      refine AW.ops ?_
      obtain ⟨c14, h⟩ := ck_some.1 h
      refine zA [(5, .own 12), (33, .sl Y1 h0), (34, .int .i64 (h0.length : Int)), (35, .int .i64 (st2 + 1))] [(12, .arr 4 .bool b1)] ?_
      obtain rfl := Option.some.inj h
      exact ⟨_, rfl, zL [] [] []⟩
    ·refine zS 4 [(5, .own 12), (33, .sl Y1 h0), (34, .int .i64 (h0.length : Int)), (35, .int .i64 st2), (43, .bool false), (47, .cv (undef))] [(12, .arr 4 .bool b1)] ?_
     refine zB [(5, .own 12), (33, .sl Y1 h0), (34, .int .i64 (h0.length : Int)), (35, .int .i64 st2), (49, .bool false)] [(12, .arr 4 .bool b1)] ?_
     refine AW.cond (b := false) rfl (fun hb15 => by cases hb15) (fun _ => ?_)
     refine zm ?_
     refine athen_n ?_
     refine AW.ops ?_
     obtain ⟨c16, h⟩ := ck_some.1 h
     refine zA [(5, .own 12), (33, .sl Y1 h0), (34, .int .i64 (h0.length : Int)), (35, .int .i64 (st2 + 1))] [(12, .arr 4 .bool b1)] ?_
     obtain rfl := Option.some.inj h
     exact ⟨_, rfl, zL [] [] []⟩
   ·refine AW.exit ?_
    refine athen_e ?_
    obtain rfl := Option.some.inj h
    rw [← hd4 _ rfl] at ho3
    have h := ho3
    try simp only at h
    refine athen_e ?_
    refine ablock_s ?_
    refine athen_n ?_
    exact AW.weaken (zL [] [] []) (hk_history_isOrder_k2 () h)
 ·refine AW.seq ?_
  refine zo ?_
  refine zB [(0, .sl Y1 h0), (5, .own 12), (13, .sl (.int .i64) order), (14, .int .i64 (order.length : Int)), (15, .int .i64 0)] [(12, .arr 4 .bool (List.replicate h0.length (false : Bool)))] ?_
  refine AW.block ?_
  obtain ⟨rv21, hw17, ho18⟩ := Option.bind_eq_some_iff.1 h
  refine AW.loopO (history_isOrder_b1 h0 order) (fun st1 => ⟨fr [(0, .sl Y1 h0), (5, .own 12), (13, .sl (.int .i64) order), (14, .int .i64 (order.length : Int)), (15, .int .i64 st1.2)], hpGet [(12, .arr 4 .bool st1.1)], gt⟩) ((List.replicate h0.length (false : Bool)), 0) hw17 (zL [] [] []) ?_
  intro st1 x20 h hd19
  unfold history_isOrder_b1 at h
  refine zo ?_
  refine zB [(0, .sl Y1 h0), (5, .own 12), (13, .sl (.int .i64) order), (14, .int .i64 (order.length : Int)), (15, .int .i64 st1.2), (16, .bool (decide (st1.2 < (order.length : Int))))] [(12, .arr 4 .bool st1.1)] ?_
  refine AW.seq ?_
  refine zQ h (fun hb22 h => ?_) (fun hb22 h => ?_)
  ·refine zk ?_
   refine AW.seq ?_
   refine AW.block ?_
   refine zo ?_
   obtain ⟨c23, h⟩ := ck_some.1 h
   obtain ⟨c24, h⟩ := ck_some.1 h
   refine zB [(0, .sl Y1 h0), (5, .own 12), (7, .int .i64 (order.getD st1.2.toNat 0)), (13, .sl (.int .i64) order), (14, .int .i64 (order.length : Int)), (15, .int .i64 st1.2)] [(12, .arr 4 .bool st1.1)] ?_
   refine AW.seq ?_
   refine zo ?_
   refine zS 2 [(0, .sl Y1 h0), (5, .own 12), (7, .int .i64 (order.getD st1.2.toNat 0)), (13, .sl (.int .i64) order), (14, .int .i64 (order.length : Int)), (15, .int .i64 st1.2), (19, .sl Y1 h0), (20, .int .i64 (order.getD st1.2.toNat 0))] [(12, .arr 4 .bool st1.1)] ?_
   obtain ⟨v0, hv25, h⟩ := Option.bind_eq_some_iff.1 h
   refine zC [] [] (hc_history_isIndex h0 (order.getD st1.2.toNat 0) hv25) [(0, .sl Y1 h0), (5, .own 12), (7, .int .i64 (order.getD st1.2.toNat 0)), (13, .sl (.int .i64) order), (14, .int .i64 (order.length : Int)), (15, .int .i64 st1.2), (21, .bool v0)] [(12, .arr 4 .bool st1.1)] ?_
   refine zS 2 [(0, .sl Y1 h0), (5, .own 12), (7, .int .i64 (order.getD st1.2.toNat 0)), (13, .sl (.int .i64) order), (14, .int .i64 (order.length : Int)), (15, .int .i64 st1.2), (23, .bool (!v0))] [(12, .arr 4 .bool st1.1)] ?_
   rcases zI h with ⟨hb26, h⟩ | ⟨hb26, h⟩
   ·refine zS 4 [(0, .sl Y1 h0), (5, .own 12), (7, .int .i64 (order.getD st1.2.toNat 0)), (13, .sl (.int .i64) order), (14, .int .i64 (order.length : Int)), (15, .int .i64 st1.2), (23, .bool true), (27, .cv (undef))] [(12, .arr 4 .bool st1.1)] ?_
    refine zB [(0, .sl Y1 h0), (5, .own 12), (7, .int .i64 (order.getD st1.2.toNat 0)), (13, .sl (.int .i64) order), (14, .int .i64 (order.length : Int)), (15, .int .i64 st1.2), (28, .bool true)] [(12, .arr 4 .bool st1.1)] ?_
    refine AW.cond (b := true) rfl (fun _ => ?_) (fun hb27 => by cases hb27)
    refine zo ?_
    refine zB [(4, .bool false)] [] ?_
    refine zr ?_
    refine ablock_r ?_
    refine athen_r ?_
    obtain rfl := Option.some.inj h
    rw [← hd19 _ rfl] at ho18
    have h := ho18
    try simp only at h
    refine athen_r ?_
    refine ablock_r ?_
    refine athen_r ?_
    obtain rfl := Option.some.inj h
    exact zR [] [] []
   ·obtain ⟨c28, h⟩ := ck_some.1 h
    obtain ⟨c29, h⟩ := ck_some.1 h
    refine zB [(0, .sl Y1 h0), (5, .own 12), (7, .int .i64 (order.getD st1.2.toNat 0)), (13, .sl (.int .i64) order), (14, .int .i64 (order.length : Int)), (15, .int .i64 st1.2), (28, .bool (st1.1.getD (order.getD st1.2.toNat 0).toNat false))] [(12, .arr 4 .bool st1.1)] ?_
    refine zQ h (fun hb30 h => ?_) (fun hb30 h => ?_)
    ·refine zo ?_
     refine zB [(4, .bool false)] [] ?_
     refine zr ?_
     refine ablock_r ?_
     refine athen_r ?_
     obtain rfl := Option.some.inj h
     rw [← hd19 _ rfl] at ho18
     have h := ho18
     try simp only at h
     refine athen_r ?_
     refine ablock_r ?_
     refine athen_r ?_
     obtain rfl := Option.some.inj h
     exact zR [] [] []
    ·refine zk ?_
     refine AW.ops ?_
     obtain ⟨c31, h⟩ := ck_some.1 h
     obtain ⟨c32, h⟩ := ck_some.1 h
     refine zA [(0, .sl Y1 h0), (5, .own 12), (13, .sl (.int .i64) order), (14, .int .i64 (order.length : Int)), (15, .int .i64 st1.2)] [(12, .arr 4 .bool (st1.1.set (order.getD st1.2.toNat 0).toNat true))] ?_
     refine ablock_n ?_
     refine athen_n ?_
     refine AW.ops ?_
     obtain ⟨c33, h⟩ := ck_some.1 h
     refine zA [(0, .sl Y1 h0), (5, .own 12), (13, .sl (.int .i64) order), (14, .int .i64 (order.length : Int)), (15, .int .i64 (st1.2 + 1))] [(12, .arr 4 .bool (st1.1.set (order.getD st1.2.toNat 0).toNat true))] ?_
     obtain rfl := Option.some.inj h
     exact ⟨_, rfl, zL [] [] []⟩
  ·refine AW.exit ?_
   refine athen_e ?_
   obtain rfl := Option.some.inj h
   rw [← hd19 _ rfl] at ho18
   have h := ho18
   try simp only at h
   refine athen_e ?_
   refine ablock_s ?_
   refine athen_n ?_
   exact AW.weaken (zL [] [] []) (hk_history_isOrder_k1 _ h)

theorem hc_history_check (h0 : ZH) (arguments : Bool) {r : Int} (h : history_check h0 arguments = some r) : HC Try.prog 65 [] [.sl Y1 h0, .bool arguments] [] (.int .i64 r) := by
 unfold history_check at h
 refine zH Try.func65 [.tmp 4] 10 ?_
 refine zo ?_
 refine zB [(0, .sl Y1 h0), (1, .bool arguments)] [] ?_
 refine AW.seq ?_
 refine zo ?_
 refine zS 1 [(1, .bool arguments), (5, .sl Y1 h0)] [] ?_
 obtain ⟨v0, hv1, h⟩ := Option.bind_eq_some_iff.1 h
 refine zC [] [] (hc_history_Valid h0 hv1) [(1, .bool arguments), (6, .bool v0)] [] ?_
 refine zB [(1, .bool arguments), (7, .bool (!v0))] [] ?_
 refine zQ h (fun hb2 h => ?_) (fun hb2 h => ?_)
 ·refine zo ?_
  refine zB [(4, .int .i64 20)] [] ?_
  refine zr ?_
  obtain rfl := Option.some.inj h
  exact zR [] [] []
 ·refine zk ?_
  refine AW.seq ?_
  refine zo ?_
  refine zB [(9, .bool (!arguments))] [] ?_
  refine zQ h (fun hb3 h => ?_) (fun hb3 h => ?_)
  ·refine zo ?_
   refine zB [(4, .int .i64 2)] [] ?_
   refine zr ?_
   obtain rfl := Option.some.inj h
   exact zR [] [] []
  ·refine zk ?_
   refine zo ?_
   refine zB [(4, .int .i64 0)] [] ?_
   refine AW.ret ?_
   obtain rfl := Option.some.inj h
   exact zR [] [] []

end Go.Proofs.Ytlfpagicagmjgaa
