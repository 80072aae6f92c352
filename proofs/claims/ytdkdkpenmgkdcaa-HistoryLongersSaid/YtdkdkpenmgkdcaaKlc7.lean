/-
  Made by wip/tool/dc.py out of the print of the program: contracts.
-/
import Derived.Test.YtdkdkpenmgkdcaaHp
import Derived.Test.YtdkdkpenmgkdcaaTbh
import Derived.Test.YtdkdkpenmgkdcaaKlc2
import Derived.Test.YtdkdkpenmgkdcaaKlc5
import Derived.Test.YtdkdkpenmgkdcaaKlc6
namespace Go.Proofs.Ytdkdkpenmgkdcaa
open Go.RowKit

set_option linter.unusedSimpArgs false
set_option linter.unusedVariables false
set_option linter.constructorNameAsVariable false

set_option maxRecDepth 100000 in
set_option maxHeartbeats 2000000 in
theorem hc_history_Longer (h0 : List (Int × Int × Int × Int × Int × Int)) (call : Int) (from0 : Int) (to0 : Int) {r : (List (Int × Int × Int × Int × Int × Int)) × Int} (h : history_Longer h0 call from0 to0 = some r) : HC Try.prog 54 [] [.sl Y1 h0, .int .i64 call, .int .i64 from0, .int .i64 to0] [(2000, .arr 55 Y1 r.1)] (.tup [.own 2000, .int .i64 r.2]) := by
  unfold history_Longer at h
  refine HC.of_body tab_ok (res := [.tmp 8, .tmp 9]) Try.func54 rfl (by kernel_rfl) rfl (nt := 65) rfl (by decide) (by simp) ?_
  refine AW.seq ?_
  refine AW.ops ?_
  refine AO.allF tab_ok (by decide) [(0, .sl Y1 h0), (1, .int .i64 call), (2, .int .i64 from0), (3, .int .i64 to0)] [] (by (simp only [go_sem]) <;> (repeat' with_reducible apply And.intro) <;> first | assumption | rfl | omega | (unfold maxLen; omega)) ?_
  refine athen_n ?_
  refine AW.seq ?_
  refine AW.ops ?_
  refine AO.segF tab_ok 1 (by decide) [(0, .sl Y1 h0), (1, .int .i64 call), (2, .int .i64 from0), (3, .int .i64 to0), (12, .sl Y1 h0)] [] (by (simp only [go_sem]) <;> (repeat' with_reducible apply And.intro) <;> first | assumption | rfl | omega | (unfold maxLen; omega)) ?_
  obtain ⟨v0, hv1, h⟩ := Option.bind_eq_some_iff.1 h
  refine AO.call tab_ok (by decide) rfl rfl rfl (fun _ h => h) [] [] (hc_slices_Clone h0 hv1) rfl (by (simp only [go_sem]) <;> (repeat' with_reducible apply And.intro) <;> first | assumption | rfl | omega | (unfold maxLen; omega)) (by (simp only [go_sem]) <;> (repeat' with_reducible apply And.intro) <;> first | assumption | rfl | omega | (unfold maxLen; omega)) [(0, .sl Y1 h0), (1, .int .i64 call), (2, .int .i64 from0), (3, .int .i64 to0), (13, .own 23000)] [(23000, .arr 55 Y1 v0)] (by (simp only [go_sem]) <;> (repeat' with_reducible apply And.intro) <;> first | assumption | rfl | omega | (unfold maxLen; omega)) ?_
  refine AO.allF tab_ok (by decide) [(0, .sl Y1 h0), (1, .int .i64 call), (2, .int .i64 from0), (3, .int .i64 to0), (10, .bp 10 0)] [(10, .box 23 [.own 23000]), (23000, .arr 55 Y1 v0)] (by (simp only [go_sem]) <;> (repeat' with_reducible apply And.intro) <;> first | assumption | rfl | omega | (unfold maxLen; omega)) ?_
  refine athen_n ?_
  refine AW.have1 (fun b1 : Bool => history_Longer_k1 h0 call from0 to0 v0 b1 = some r) (fun b1 => ⟨fr [(0, .sl Y1 h0), (1, .int .i64 call), (2, .int .i64 from0), (3, .int .i64 to0), (10, .bp 10 0), (11, .bool b1)], hpGet [(10, .box 23 [.own 23000]), (23000, .arr 55 Y1 v0)], gt⟩) (fun b1 h => ?_) (fun hk_history_Longer_k1 => ?_)
  · unfold history_Longer_k1 at h
    refine AW.have1 (fun b2 : (List (Int × Int × Int × Int × Int × Int)) => history_Longer_k2 h0 b1 b2 = some r) (fun b2 => ⟨fr [(0, .sl Y1 h0), (10, .bp 10 0), (11, .bool b1)], hpGet [(10, .box 23 [.own 23000]), (23000, .arr 55 Y1 b2)], gt⟩) (fun b2 h => ?_) (fun hk_history_Longer_k2 => ?_)
    · unfold history_Longer_k2 at h
      refine AW.seq ?_
      refine AW.ops ?_
      refine AO.segF tab_ok 3 (by decide) [(10, .bp 10 0), (54, .sl Y1 h0), (56, .bool b1)] [(10, .box 23 [.own 23000]), (23000, .arr 55 Y1 b2)] (by (simp only [go_sem]) <;> (repeat' with_reducible apply And.intro) <;> first | assumption | rfl | omega | (unfold maxLen; omega)) ?_
      rcases Bool.eq_false_or_eq_true b1 with hb2 | hb2
      · rw [if_pos hb2] at h
        refine AO.weaken (s' := ⟨fr [(10, .bp 10 0), (54, .sl Y1 h0), (56, .bool true)], hpGet [(10, .box 23 [.own 23000]), (23000, .arr 55 Y1 b2)], gt⟩) (Wk.to (by (simp only [go_sem, hb2]) <;> (repeat' with_reducible apply And.intro) <;> first | assumption | rfl | omega | (unfold maxLen; omega))) ?_
        refine AO.segF tab_ok 1 (by decide) [(10, .bp 10 0), (54, .sl Y1 h0), (56, .bool true), (57, .own 23000)] [(10, .box 23 [.own 23000]), (23000, .arr 55 Y1 b2)] (by (simp only [go_sem, hb2]) <;> (repeat' with_reducible apply And.intro) <;> first | assumption | rfl | omega | (unfold maxLen; omega)) ?_
        obtain ⟨v0_3, hv3, h⟩ := Option.bind_eq_some_iff.1 h
        refine AO.call tab_ok (by decide) rfl rfl rfl (fun _ h => ⟨fun _ => h, fun hn => absurd rfl hn⟩) [23000] [] (hc_history_Valid b2 hv3) rfl (by (simp only [go_sem, hb2]) <;> (repeat' with_reducible apply And.intro) <;> first | assumption | rfl | omega | (unfold maxLen; omega)) (by (simp only [go_sem, hb2]) <;> (repeat' with_reducible apply And.intro) <;> first | assumption | rfl | omega | (unfold maxLen; omega)) [(10, .bp 10 0), (54, .sl Y1 h0), (56, .bool true), (58, .bool v0_3)] [(10, .box 23 [.own 23000]), (23000, .arr 55 Y1 b2)] (by (simp only [go_sem, hb2]) <;> (repeat' with_reducible apply And.intro) <;> first | assumption | rfl | omega | (unfold maxLen; omega)) ?_
        refine AO.segF tab_ok 1 (by decide) [(10, .bp 10 0), (54, .sl Y1 h0), (59, .bool v0_3)] [(10, .box 23 [.own 23000]), (23000, .arr 55 Y1 b2)] (by (simp only [go_sem, hb2]) <;> (repeat' with_reducible apply And.intro) <;> first | assumption | rfl | omega | (unfold maxLen; omega)) ?_
        obtain ⟨v0_4, hv4, h⟩ := Option.bind_eq_some_iff.1 h
        refine AO.call tab_ok (by decide) rfl rfl rfl (fun _ h => h) [] [] (hc_history_check h0 v0_3 hv4) rfl (by (simp only [go_sem, hb2]) <;> (repeat' with_reducible apply And.intro) <;> first | assumption | rfl | omega | (unfold maxLen; omega)) (by (simp only [go_sem, hb2]) <;> (repeat' with_reducible apply And.intro) <;> first | assumption | rfl | omega | (unfold maxLen; omega)) [(10, .bp 10 0), (60, .int .i64 v0_4)] [(10, .box 23 [.own 23000]), (23000, .arr 55 Y1 b2)] (by (simp only [go_sem, hb2]) <;> (repeat' with_reducible apply And.intro) <;> first | assumption | rfl | omega | (unfold maxLen; omega)) ?_
        refine AO.segF tab_ok 1 (by decide) [(60, .int .i64 v0_4), (61, .fn (.func 114) [] [.bp 10 0])] [(10, .box 23 [.own 23000]), (23000, .arr 55 Y1 b2)] (by (simp only [go_sem, hb2]) <;> (repeat' with_reducible apply And.intro) <;> first | assumption | rfl | omega | (unfold maxLen; omega)) ?_
        rcases Bool.eq_false_or_eq_true (decide (v0_4 = 0)) with hb5 | hb5
        · rw [if_pos hb5] at h
          have hz6 : v0_4 = 0 := by simpa using hb5
          refine AO.weaken (s' := ⟨fr [(60, .int .i64 0), (61, .fn (.func 114) [] [.bp 10 0])], hpGet [(10, .box 23 [.own 23000]), (23000, .arr 55 Y1 b2)], gt⟩) (Wk.to (by (simp only [go_sem, hb2, hb5, hz6]) <;> (repeat' with_reducible apply And.intro) <;> first | assumption | rfl | omega | (unfold maxLen; omega))) ?_
          obtain ⟨v0_5, hv7, h⟩ := Option.bind_eq_some_iff.1 h
          refine AO.call tab_ok (by decide) rfl rfl rfl (fun _ h => h) [] [(1000, 10), (1001, 23000)] (hc_history_told_17 b2 hv7) rfl (by (simp only [go_sem, hb2, hb5, hz6]) <;> (repeat' with_reducible apply And.intro) <;> first | assumption | rfl | omega | (unfold maxLen; omega)) (by (simp only [go_sem, hb2, hb5, hz6]) <;> (repeat' with_reducible apply And.intro) <;> first | assumption | rfl | omega | (unfold maxLen; omega)) [(62, .tup [.own 23000, .int .i64 0])] [(23000, .arr 55 Y1 b2)] (by (simp only [go_sem, hb2, hb5, hz6]) <;> (repeat' with_reducible apply And.intro) <;> first | assumption | rfl | omega | (unfold maxLen; omega)) ?_
          refine AO.allF tab_ok (by decide) [(8, .own 23000), (9, .int .i64 0)] [(23000, .arr 55 Y1 b2)] (by (simp only [go_sem, hb2, hb5, hz6]) <;> (repeat' with_reducible apply And.intro) <;> first | assumption | rfl | omega | (unfold maxLen; omega)) ?_
          refine athen_n ?_
          refine AW.ret ?_
          obtain rfl := Option.some.inj h
          exact ⟨rfl, [], [], [(2000, 23000)], rfl, (by (simp only [go_sem, hb2, hb5, hz6]) <;> (repeat' with_reducible apply And.intro) <;> first | assumption | rfl | omega | (unfold maxLen; omega))⟩
        · rw [if_neg (Bool.eq_false_iff.1 hb5)] at h
          refine AO.weaken (s' := ⟨fr [(60, .int .i64 v0_4), (61, .fn (.func 114) [] [.bp 10 0])], hpGet [(10, .box 23 [.own 23000]), (23000, .arr 55 Y1 b2)], gt⟩) (Wk.to (by (simp only [go_sem, hb2, hb5]) <;> (repeat' with_reducible apply And.intro) <;> first | assumption | rfl | omega | (unfold maxLen; omega))) ?_
          obtain ⟨v0_6, hv8, h⟩ := Option.bind_eq_some_iff.1 h
          refine AO.call tab_ok (by decide) rfl rfl rfl (fun _ h => h) [] [(1000, 10), (1001, 23000)] (hc_history_told_18 v0_4 b2 hb5 hv8) rfl (by (simp only [go_sem, hb2, hb5]) <;> (repeat' with_reducible apply And.intro) <;> first | assumption | rfl | omega | (unfold maxLen; omega)) (by (simp only [go_sem, hb2, hb5]) <;> (repeat' with_reducible apply And.intro) <;> first | assumption | rfl | omega | (unfold maxLen; omega)) [(62, .tup [.cv (.slice none 0 0), .int .i64 v0_4])] [] (by (simp only [go_sem, hb2, hb5]) <;> (repeat' with_reducible apply And.intro) <;> first | assumption | rfl | omega | (unfold maxLen; omega)) ?_
          refine AO.allF tab_ok (by decide) [(8, .cv (.slice none 0 0)), (9, .int .i64 v0_4)] [] (by (simp only [go_sem, hb2, hb5]) <;> (repeat' with_reducible apply And.intro) <;> first | assumption | rfl | omega | (unfold maxLen; omega)) ?_
          refine athen_n ?_
          refine AW.ret ?_
          obtain rfl := Option.some.inj h
          exact ⟨rfl, [], [2000], [], rfl, (by (simp only [go_sem, hb2, hb5]) <;> (repeat' with_reducible apply And.intro) <;> first | assumption | rfl | omega | (unfold maxLen; omega))⟩
      · rw [if_neg (Bool.eq_false_iff.1 hb2)] at h
        refine AO.weaken (s' := ⟨fr [(10, .bp 10 0), (54, .sl Y1 h0), (56, .bool false)], hpGet [(10, .box 23 [.own 23000]), (23000, .arr 55 Y1 b2)], gt⟩) (Wk.to (by (simp only [go_sem, hb2]) <;> (repeat' with_reducible apply And.intro) <;> first | assumption | rfl | omega | (unfold maxLen; omega))) ?_
        refine AO.segF tab_ok 3 (by decide) [(10, .bp 10 0), (54, .sl Y1 h0), (59, .bool false)] [(10, .box 23 [.own 23000]), (23000, .arr 55 Y1 b2)] (by (simp only [go_sem, hb2]) <;> (repeat' with_reducible apply And.intro) <;> first | assumption | rfl | omega | (unfold maxLen; omega)) ?_
        obtain ⟨v0_7, hv9, h⟩ := Option.bind_eq_some_iff.1 h
        refine AO.call tab_ok (by decide) rfl rfl rfl (fun _ h => h) [] [] (hc_history_check h0 false hv9) rfl (by (simp only [go_sem, hb2]) <;> (repeat' with_reducible apply And.intro) <;> first | assumption | rfl | omega | (unfold maxLen; omega)) (by (simp only [go_sem, hb2]) <;> (repeat' with_reducible apply And.intro) <;> first | assumption | rfl | omega | (unfold maxLen; omega)) [(10, .bp 10 0), (60, .int .i64 v0_7)] [(10, .box 23 [.own 23000]), (23000, .arr 55 Y1 b2)] (by (simp only [go_sem, hb2]) <;> (repeat' with_reducible apply And.intro) <;> first | assumption | rfl | omega | (unfold maxLen; omega)) ?_
        refine AO.segF tab_ok 1 (by decide) [(60, .int .i64 v0_7), (61, .fn (.func 114) [] [.bp 10 0])] [(10, .box 23 [.own 23000]), (23000, .arr 55 Y1 b2)] (by (simp only [go_sem, hb2]) <;> (repeat' with_reducible apply And.intro) <;> first | assumption | rfl | omega | (unfold maxLen; omega)) ?_
        rcases Bool.eq_false_or_eq_true (decide (v0_7 = 0)) with hb10 | hb10
        · rw [if_pos hb10] at h
          have hz11 : v0_7 = 0 := by simpa using hb10
          refine AO.weaken (s' := ⟨fr [(60, .int .i64 0), (61, .fn (.func 114) [] [.bp 10 0])], hpGet [(10, .box 23 [.own 23000]), (23000, .arr 55 Y1 b2)], gt⟩) (Wk.to (by (simp only [go_sem, hb2, hb10, hz11]) <;> (repeat' with_reducible apply And.intro) <;> first | assumption | rfl | omega | (unfold maxLen; omega))) ?_
          obtain ⟨v0_8, hv12, h⟩ := Option.bind_eq_some_iff.1 h
          refine AO.call tab_ok (by decide) rfl rfl rfl (fun _ h => h) [] [(1000, 10), (1001, 23000)] (hc_history_told_17 b2 hv12) rfl (by (simp only [go_sem, hb2, hb10, hz11]) <;> (repeat' with_reducible apply And.intro) <;> first | assumption | rfl | omega | (unfold maxLen; omega)) (by (simp only [go_sem, hb2, hb10, hz11]) <;> (repeat' with_reducible apply And.intro) <;> first | assumption | rfl | omega | (unfold maxLen; omega)) [(62, .tup [.own 23000, .int .i64 0])] [(23000, .arr 55 Y1 b2)] (by (simp only [go_sem, hb2, hb10, hz11]) <;> (repeat' with_reducible apply And.intro) <;> first | assumption | rfl | omega | (unfold maxLen; omega)) ?_
          refine AO.allF tab_ok (by decide) [(8, .own 23000), (9, .int .i64 0)] [(23000, .arr 55 Y1 b2)] (by (simp only [go_sem, hb2, hb10, hz11]) <;> (repeat' with_reducible apply And.intro) <;> first | assumption | rfl | omega | (unfold maxLen; omega)) ?_
          refine athen_n ?_
          refine AW.ret ?_
          obtain rfl := Option.some.inj h
          exact ⟨rfl, [], [], [(2000, 23000)], rfl, (by (simp only [go_sem, hb2, hb10, hz11]) <;> (repeat' with_reducible apply And.intro) <;> first | assumption | rfl | omega | (unfold maxLen; omega))⟩
        · rw [if_neg (Bool.eq_false_iff.1 hb10)] at h
          refine AO.weaken (s' := ⟨fr [(60, .int .i64 v0_7), (61, .fn (.func 114) [] [.bp 10 0])], hpGet [(10, .box 23 [.own 23000]), (23000, .arr 55 Y1 b2)], gt⟩) (Wk.to (by (simp only [go_sem, hb2, hb10]) <;> (repeat' with_reducible apply And.intro) <;> first | assumption | rfl | omega | (unfold maxLen; omega))) ?_
          obtain ⟨v0_9, hv13, h⟩ := Option.bind_eq_some_iff.1 h
          refine AO.call tab_ok (by decide) rfl rfl rfl (fun _ h => h) [] [(1000, 10), (1001, 23000)] (hc_history_told_18 v0_7 b2 hb10 hv13) rfl (by (simp only [go_sem, hb2, hb10]) <;> (repeat' with_reducible apply And.intro) <;> first | assumption | rfl | omega | (unfold maxLen; omega)) (by (simp only [go_sem, hb2, hb10]) <;> (repeat' with_reducible apply And.intro) <;> first | assumption | rfl | omega | (unfold maxLen; omega)) [(62, .tup [.cv (.slice none 0 0), .int .i64 v0_7])] [] (by (simp only [go_sem, hb2, hb10]) <;> (repeat' with_reducible apply And.intro) <;> first | assumption | rfl | omega | (unfold maxLen; omega)) ?_
          refine AO.allF tab_ok (by decide) [(8, .cv (.slice none 0 0)), (9, .int .i64 v0_7)] [] (by (simp only [go_sem, hb2, hb10]) <;> (repeat' with_reducible apply And.intro) <;> first | assumption | rfl | omega | (unfold maxLen; omega)) ?_
          refine athen_n ?_
          refine AW.ret ?_
          obtain rfl := Option.some.inj h
          exact ⟨rfl, [], [2000], [], rfl, (by (simp only [go_sem, hb2, hb10]) <;> (repeat' with_reducible apply And.intro) <;> first | assumption | rfl | omega | (unfold maxLen; omega))⟩
    · refine AW.seq ?_
      refine AW.seq ?_
      refine AW.ops ?_
      refine AO.allF tab_ok (by decide) [(0, .sl Y1 h0), (1, .int .i64 call), (2, .int .i64 from0), (3, .int .i64 to0), (10, .bp 10 0), (11, .bool b1), (43, .bool b1)] [(10, .box 23 [.own 23000]), (23000, .arr 55 Y1 v0)] (by (simp only [go_sem]) <;> (repeat' with_reducible apply And.intro) <;> first | assumption | rfl | omega | (unfold maxLen; omega)) ?_
      refine athen_n ?_
      refine AW.cond (b := b1) rfl (fun hb14 => ?_) (fun hb14 => ?_)
      · rw [if_pos hb14] at h
        refine AW.draw tab_ok mixed_ok [(8, [23000]), (11, [23000])] [(2, [10, 23000, 1000023000]), (3, []), (5, []), (100008, []), (100011, [])] (by decide) (by kernel_rfl) ?_
        refine adops_cut 6 (fun K' hK15 => ?_)
        try dsimp only [List.drop_succ_cons, List.drop_zero, List.take_succ_cons, List.take_zero]
        simp only [go_sem, hb14]
        repeat (with_reducible refine And.intro (by first | assumption | rfl | omega | trivial | (unfold maxLen; omega)) ?_)
        refine hK15 _ ?_
        obtain ⟨c17, h⟩ := ck_some.1 h
        obtain ⟨c18, h⟩ := ck_some.1 h
        obtain ⟨c19, h⟩ := ck_some.1 h
        obtain ⟨c20, h⟩ := ck_some.1 h
        refine adops_cut 6 (fun K' hK16 => ?_)
        try dsimp only [List.drop_succ_cons, List.drop_zero, List.take_succ_cons, List.take_zero]
        simp only [go_sem, hb14]
        repeat (with_reducible refine And.intro (by first | assumption | rfl | omega | trivial | (unfold maxLen; omega)) ?_)
        refine hK16 _ ?_
        refine adops_nil ?_
        refine athen_n ?_
        refine AW.weaken (s' := ⟨fr [(0, .sl Y1 h0), (10, .bp 10 0), (11, .bool b1)], hpGet [(10, .box 23 [.own 23000]), (23000, .arr 55 Y1 ((v0.set call.toNat ((v0.getD call.toNat (0, 0, 0, 0, 0, 0)).1, (v0.getD call.toNat (0, 0, 0, 0, 0, 0)).2.1, (v0.getD call.toNat (0, 0, 0, 0, 0, 0)).2.2.1, (v0.getD call.toNat (0, 0, 0, 0, 0, 0)).2.2.2.1, from0, (v0.getD call.toNat (0, 0, 0, 0, 0, 0)).2.2.2.2.2)).set call.toNat (((v0.set call.toNat ((v0.getD call.toNat (0, 0, 0, 0, 0, 0)).1, (v0.getD call.toNat (0, 0, 0, 0, 0, 0)).2.1, (v0.getD call.toNat (0, 0, 0, 0, 0, 0)).2.2.1, (v0.getD call.toNat (0, 0, 0, 0, 0, 0)).2.2.2.1, from0, (v0.getD call.toNat (0, 0, 0, 0, 0, 0)).2.2.2.2.2)).getD call.toNat (0, 0, 0, 0, 0, 0)).1, ((v0.set call.toNat ((v0.getD call.toNat (0, 0, 0, 0, 0, 0)).1, (v0.getD call.toNat (0, 0, 0, 0, 0, 0)).2.1, (v0.getD call.toNat (0, 0, 0, 0, 0, 0)).2.2.1, (v0.getD call.toNat (0, 0, 0, 0, 0, 0)).2.2.2.1, from0, (v0.getD call.toNat (0, 0, 0, 0, 0, 0)).2.2.2.2.2)).getD call.toNat (0, 0, 0, 0, 0, 0)).2.1, ((v0.set call.toNat ((v0.getD call.toNat (0, 0, 0, 0, 0, 0)).1, (v0.getD call.toNat (0, 0, 0, 0, 0, 0)).2.1, (v0.getD call.toNat (0, 0, 0, 0, 0, 0)).2.2.1, (v0.getD call.toNat (0, 0, 0, 0, 0, 0)).2.2.2.1, from0, (v0.getD call.toNat (0, 0, 0, 0, 0, 0)).2.2.2.2.2)).getD call.toNat (0, 0, 0, 0, 0, 0)).2.2.1, ((v0.set call.toNat ((v0.getD call.toNat (0, 0, 0, 0, 0, 0)).1, (v0.getD call.toNat (0, 0, 0, 0, 0, 0)).2.1, (v0.getD call.toNat (0, 0, 0, 0, 0, 0)).2.2.1, (v0.getD call.toNat (0, 0, 0, 0, 0, 0)).2.2.2.1, from0, (v0.getD call.toNat (0, 0, 0, 0, 0, 0)).2.2.2.2.2)).getD call.toNat (0, 0, 0, 0, 0, 0)).2.2.2.1, ((v0.set call.toNat ((v0.getD call.toNat (0, 0, 0, 0, 0, 0)).1, (v0.getD call.toNat (0, 0, 0, 0, 0, 0)).2.1, (v0.getD call.toNat (0, 0, 0, 0, 0, 0)).2.2.1, (v0.getD call.toNat (0, 0, 0, 0, 0, 0)).2.2.2.1, from0, (v0.getD call.toNat (0, 0, 0, 0, 0, 0)).2.2.2.2.2)).getD call.toNat (0, 0, 0, 0, 0, 0)).2.2.2.2.1, to0)))], gt⟩) (Wk.to (by (simp only [go_sem, hb14]) <;> (repeat' with_reducible apply And.intro) <;> first | assumption | rfl | omega | (unfold maxLen; omega))) ?_
        exact AW.weaken (Wk.le [] [] [] rfl (by (simp only [go_sem, hb14]) <;> (repeat' with_reducible apply And.intro) <;> first | assumption | rfl | omega | (unfold maxLen; omega)) (by (simp only [go_sem, hb14]) <;> (repeat' with_reducible apply And.intro) <;> first | assumption | rfl | omega | (unfold maxLen; omega))) (hk_history_Longer_k2 _ h)
      · rw [if_neg (Bool.eq_false_iff.1 hb14)] at h
        refine AW.skip ?_
        refine athen_n ?_
        exact AW.weaken (Wk.le [] [] [] rfl (by (simp only [go_sem, hb14]) <;> (repeat' with_reducible apply And.intro) <;> first | assumption | rfl | omega | (unfold maxLen; omega)) (by (simp only [go_sem, hb14]) <;> (repeat' with_reducible apply And.intro) <;> first | assumption | rfl | omega | (unfold maxLen; omega))) (hk_history_Longer_k2 _ h)
  · refine AW.seq ?_
    refine AW.ops ?_
    refine AO.segF tab_ok 2 (by decide) [(0, .sl Y1 h0), (1, .int .i64 call), (2, .int .i64 from0), (3, .int .i64 to0), (10, .bp 10 0), (14, .sl Y1 h0), (15, .int .i64 call)] [(10, .box 23 [.own 23000]), (23000, .arr 55 Y1 v0)] (by (simp only [go_sem]) <;> (repeat' with_reducible apply And.intro) <;> first | assumption | rfl | omega | (unfold maxLen; omega)) ?_
    obtain ⟨v0_2, hv21, h⟩ := Option.bind_eq_some_iff.1 h
    refine AO.call tab_ok (by decide) rfl rfl rfl (fun _ h => h) [] [] (hc_history_isIndex h0 call hv21) rfl (by (simp only [go_sem]) <;> (repeat' with_reducible apply And.intro) <;> first | assumption | rfl | omega | (unfold maxLen; omega)) (by (simp only [go_sem]) <;> (repeat' with_reducible apply And.intro) <;> first | assumption | rfl | omega | (unfold maxLen; omega)) [(0, .sl Y1 h0), (1, .int .i64 call), (2, .int .i64 from0), (3, .int .i64 to0), (10, .bp 10 0), (16, .bool v0_2)] [(10, .box 23 [.own 23000]), (23000, .arr 55 Y1 v0)] (by (simp only [go_sem]) <;> (repeat' with_reducible apply And.intro) <;> first | assumption | rfl | omega | (unfold maxLen; omega)) ?_
    refine AO.segF tab_ok 1 (by decide) [(0, .sl Y1 h0), (1, .int .i64 call), (2, .int .i64 from0), (3, .int .i64 to0), (10, .bp 10 0), (17, .bool v0_2)] [(10, .box 23 [.own 23000]), (23000, .arr 55 Y1 v0)] (by (simp only [go_sem]) <;> (repeat' with_reducible apply And.intro) <;> first | assumption | rfl | omega | (unfold maxLen; omega)) ?_
    rcases Bool.eq_false_or_eq_true v0_2 with hb22 | hb22
    · rw [if_pos hb22] at h
      refine AO.weaken (s' := ⟨fr [(0, .sl Y1 h0), (1, .int .i64 call), (2, .int .i64 from0), (3, .int .i64 to0), (10, .bp 10 0), (17, .bool true)], hpGet [(10, .box 23 [.own 23000]), (23000, .arr 55 Y1 v0)], gt⟩) (Wk.to (by (simp only [go_sem, hb22]) <;> (repeat' with_reducible apply And.intro) <;> first | assumption | rfl | omega | (unfold maxLen; omega))) ?_
      obtain ⟨c23, h⟩ := ck_some.1 h
      obtain ⟨c24, h⟩ := ck_some.1 h
      refine AO.segF tab_ok 8 (by decide) [(0, .sl Y1 h0), (1, .int .i64 call), (2, .int .i64 from0), (3, .int .i64 to0), (10, .bp 10 0), (25, .bool (!(decide ((h0.getD call.toNat (0, 0, 0, 0, 0, 0)).2.2.2.2.2 = 0))))] [(10, .box 23 [.own 23000]), (23000, .arr 55 Y1 v0)] (by (simp only [go_sem, hb22]) <;> (repeat' with_reducible apply And.intro) <;> first | assumption | rfl | omega | (unfold maxLen; omega)) ?_
      rcases Bool.eq_false_or_eq_true (!(decide ((h0.getD call.toNat (0, 0, 0, 0, 0, 0)).2.2.2.2.2 = 0))) with hb25 | hb25
      · rw [if_pos hb25] at h
        refine AO.weaken (s' := ⟨fr [(0, .sl Y1 h0), (1, .int .i64 call), (2, .int .i64 from0), (3, .int .i64 to0), (10, .bp 10 0), (25, .bool true)], hpGet [(10, .box 23 [.own 23000]), (23000, .arr 55 Y1 v0)], gt⟩) (Wk.to (by (simp only [go_sem, hb22, hb25]) <;> (repeat' with_reducible apply And.intro) <;> first | assumption | rfl | omega | (unfold maxLen; omega))) ?_
        obtain ⟨c26, h⟩ := ck_some.1 h
        obtain ⟨c27, h⟩ := ck_some.1 h
        refine AO.segF tab_ok 9 (by decide) [(0, .sl Y1 h0), (1, .int .i64 call), (2, .int .i64 from0), (3, .int .i64 to0), (10, .bp 10 0), (34, .bool (decide (from0 ≤ (h0.getD call.toNat (0, 0, 0, 0, 0, 0)).2.2.2.2.1)))] [(10, .box 23 [.own 23000]), (23000, .arr 55 Y1 v0)] (by (simp only [go_sem, hb22, hb25]) <;> (repeat' with_reducible apply And.intro) <;> first | assumption | rfl | omega | (unfold maxLen; omega)) ?_
        rcases Bool.eq_false_or_eq_true (decide (from0 ≤ (h0.getD call.toNat (0, 0, 0, 0, 0, 0)).2.2.2.2.1)) with hb28 | hb28
        · rw [if_pos hb28] at h
          refine AO.weaken (s' := ⟨fr [(0, .sl Y1 h0), (1, .int .i64 call), (2, .int .i64 from0), (3, .int .i64 to0), (10, .bp 10 0), (34, .bool true)], hpGet [(10, .box 23 [.own 23000]), (23000, .arr 55 Y1 v0)], gt⟩) (Wk.to (by (simp only [go_sem, hb22, hb25, hb28]) <;> (repeat' with_reducible apply And.intro) <;> first | assumption | rfl | omega | (unfold maxLen; omega))) ?_
          obtain ⟨c29, h⟩ := ck_some.1 h
          obtain ⟨c30, h⟩ := ck_some.1 h
          refine AO.allF tab_ok (by decide) [(0, .sl Y1 h0), (1, .int .i64 call), (2, .int .i64 from0), (3, .int .i64 to0), (10, .bp 10 0), (11, .bool (decide ((h0.getD call.toNat (0, 0, 0, 0, 0, 0)).2.2.2.2.2 ≤ to0)))] [(10, .box 23 [.own 23000]), (23000, .arr 55 Y1 v0)] (by (simp only [go_sem, hb22, hb25, hb28]) <;> (repeat' with_reducible apply And.intro) <;> first | assumption | rfl | omega | (unfold maxLen; omega)) ?_
          refine athen_n ?_
          exact AW.weaken (Wk.le [] [] [] rfl (by (simp only [go_sem, hb22, hb25, hb28]) <;> (repeat' with_reducible apply And.intro) <;> first | assumption | rfl | omega | (unfold maxLen; omega)) (by (simp only [go_sem, hb22, hb25, hb28]) <;> (repeat' with_reducible apply And.intro) <;> first | assumption | rfl | omega | (unfold maxLen; omega))) (hk_history_Longer_k1 _ h)
        · rw [if_neg (Bool.eq_false_iff.1 hb28)] at h
          refine AO.weaken (s' := ⟨fr [(0, .sl Y1 h0), (1, .int .i64 call), (2, .int .i64 from0), (3, .int .i64 to0), (10, .bp 10 0), (34, .bool false)], hpGet [(10, .box 23 [.own 23000]), (23000, .arr 55 Y1 v0)], gt⟩) (Wk.to (by (simp only [go_sem, hb22, hb25, hb28]) <;> (repeat' with_reducible apply And.intro) <;> first | assumption | rfl | omega | (unfold maxLen; omega))) ?_
          refine AO.segF tab_ok 4 (by decide) [(0, .sl Y1 h0), (1, .int .i64 call), (2, .int .i64 from0), (3, .int .i64 to0), (10, .bp 10 0), (34, .bool false), (35, .cv (undef)), (38, .cv (undef))] [(10, .box 23 [.own 23000]), (23000, .arr 55 Y1 v0)] (by (simp only [go_sem, hb22, hb25, hb28]) <;> (repeat' with_reducible apply And.intro) <;> first | assumption | rfl | omega | (unfold maxLen; omega)) ?_
          refine AO.allF tab_ok (by decide) [(0, .sl Y1 h0), (1, .int .i64 call), (2, .int .i64 from0), (3, .int .i64 to0), (10, .bp 10 0), (11, .bool false)] [(10, .box 23 [.own 23000]), (23000, .arr 55 Y1 v0)] (by (simp only [go_sem, hb22, hb25, hb28]) <;> (repeat' with_reducible apply And.intro) <;> first | assumption | rfl | omega | (unfold maxLen; omega)) ?_
          refine athen_n ?_
          exact AW.weaken (Wk.le [] [] [] rfl (by (simp only [go_sem, hb22, hb25, hb28]) <;> (repeat' with_reducible apply And.intro) <;> first | assumption | rfl | omega | (unfold maxLen; omega)) (by (simp only [go_sem, hb22, hb25, hb28]) <;> (repeat' with_reducible apply And.intro) <;> first | assumption | rfl | omega | (unfold maxLen; omega))) (hk_history_Longer_k1 _ h)
      · rw [if_neg (Bool.eq_false_iff.1 hb25)] at h
        refine AO.weaken (s' := ⟨fr [(0, .sl Y1 h0), (1, .int .i64 call), (2, .int .i64 from0), (3, .int .i64 to0), (10, .bp 10 0), (25, .bool false)], hpGet [(10, .box 23 [.own 23000]), (23000, .arr 55 Y1 v0)], gt⟩) (Wk.to (by (simp only [go_sem, hb22, hb25]) <;> (repeat' with_reducible apply And.intro) <;> first | assumption | rfl | omega | (unfold maxLen; omega))) ?_
        refine AO.segF tab_ok 4 (by decide) [(0, .sl Y1 h0), (1, .int .i64 call), (2, .int .i64 from0), (3, .int .i64 to0), (10, .bp 10 0), (25, .bool false), (26, .cv (undef)), (29, .cv (undef))] [(10, .box 23 [.own 23000]), (23000, .arr 55 Y1 v0)] (by (simp only [go_sem, hb22, hb25]) <;> (repeat' with_reducible apply And.intro) <;> first | assumption | rfl | omega | (unfold maxLen; omega)) ?_
        refine AO.segF tab_ok 6 (by decide) [(0, .sl Y1 h0), (1, .int .i64 call), (2, .int .i64 from0), (3, .int .i64 to0), (10, .bp 10 0), (34, .bool false), (35, .cv (undef))] [(10, .box 23 [.own 23000]), (23000, .arr 55 Y1 v0)] (by (simp only [go_sem, hb22, hb25]) <;> (repeat' with_reducible apply And.intro) <;> first | assumption | rfl | omega | (unfold maxLen; omega)) ?_
        refine AO.segF tab_ok 4 (by decide) [(0, .sl Y1 h0), (1, .int .i64 call), (2, .int .i64 from0), (3, .int .i64 to0), (10, .bp 10 0), (34, .bool false), (35, .cv (undef)), (39, .cv (undef))] [(10, .box 23 [.own 23000]), (23000, .arr 55 Y1 v0)] (by (simp only [go_sem, hb22, hb25]) <;> (repeat' with_reducible apply And.intro) <;> first | assumption | rfl | omega | (unfold maxLen; omega)) ?_
        refine AO.allF tab_ok (by decide) [(0, .sl Y1 h0), (1, .int .i64 call), (2, .int .i64 from0), (3, .int .i64 to0), (10, .bp 10 0), (11, .bool false)] [(10, .box 23 [.own 23000]), (23000, .arr 55 Y1 v0)] (by (simp only [go_sem, hb22, hb25]) <;> (repeat' with_reducible apply And.intro) <;> first | assumption | rfl | omega | (unfold maxLen; omega)) ?_
        refine athen_n ?_
        exact AW.weaken (Wk.le [] [] [] rfl (by (simp only [go_sem, hb22, hb25]) <;> (repeat' with_reducible apply And.intro) <;> first | assumption | rfl | omega | (unfold maxLen; omega)) (by (simp only [go_sem, hb22, hb25]) <;> (repeat' with_reducible apply And.intro) <;> first | assumption | rfl | omega | (unfold maxLen; omega))) (hk_history_Longer_k1 _ h)
    · rw [if_neg (Bool.eq_false_iff.1 hb22)] at h
      refine AO.weaken (s' := ⟨fr [(0, .sl Y1 h0), (1, .int .i64 call), (2, .int .i64 from0), (3, .int .i64 to0), (10, .bp 10 0), (17, .bool false)], hpGet [(10, .box 23 [.own 23000]), (23000, .arr 55 Y1 v0)], gt⟩) (Wk.to (by (simp only [go_sem, hb22]) <;> (repeat' with_reducible apply And.intro) <;> first | assumption | rfl | omega | (unfold maxLen; omega))) ?_
      refine AO.segF tab_ok 4 (by decide) [(0, .sl Y1 h0), (1, .int .i64 call), (2, .int .i64 from0), (3, .int .i64 to0), (10, .bp 10 0), (17, .bool false), (21, .cv (undef))] [(10, .box 23 [.own 23000]), (23000, .arr 55 Y1 v0)] (by (simp only [go_sem, hb22]) <;> (repeat' with_reducible apply And.intro) <;> first | assumption | rfl | omega | (unfold maxLen; omega)) ?_
      refine AO.segF tab_ok 6 (by decide) [(0, .sl Y1 h0), (1, .int .i64 call), (2, .int .i64 from0), (3, .int .i64 to0), (10, .bp 10 0), (25, .bool false), (26, .cv (undef)), (27, .cv (undef))] [(10, .box 23 [.own 23000]), (23000, .arr 55 Y1 v0)] (by (simp only [go_sem, hb22]) <;> (repeat' with_reducible apply And.intro) <;> first | assumption | rfl | omega | (unfold maxLen; omega)) ?_
      refine AO.segF tab_ok 4 (by decide) [(0, .sl Y1 h0), (1, .int .i64 call), (2, .int .i64 from0), (3, .int .i64 to0), (10, .bp 10 0), (25, .bool false), (26, .cv (undef)), (31, .cv (undef))] [(10, .box 23 [.own 23000]), (23000, .arr 55 Y1 v0)] (by (simp only [go_sem, hb22]) <;> (repeat' with_reducible apply And.intro) <;> first | assumption | rfl | omega | (unfold maxLen; omega)) ?_
      refine AO.segF tab_ok 6 (by decide) [(0, .sl Y1 h0), (1, .int .i64 call), (2, .int .i64 from0), (3, .int .i64 to0), (10, .bp 10 0), (34, .bool false), (35, .cv (undef)), (36, .cv (undef)), (37, .cv (undef))] [(10, .box 23 [.own 23000]), (23000, .arr 55 Y1 v0)] (by (simp only [go_sem, hb22]) <;> (repeat' with_reducible apply And.intro) <;> first | assumption | rfl | omega | (unfold maxLen; omega)) ?_
      refine AO.segF tab_ok 4 (by decide) [(0, .sl Y1 h0), (1, .int .i64 call), (2, .int .i64 from0), (3, .int .i64 to0), (10, .bp 10 0), (34, .bool false), (41, .cv (undef))] [(10, .box 23 [.own 23000]), (23000, .arr 55 Y1 v0)] (by (simp only [go_sem, hb22]) <;> (repeat' with_reducible apply And.intro) <;> first | assumption | rfl | omega | (unfold maxLen; omega)) ?_
      refine AO.allF tab_ok (by decide) [(0, .sl Y1 h0), (1, .int .i64 call), (2, .int .i64 from0), (3, .int .i64 to0), (10, .bp 10 0), (11, .bool false)] [(10, .box 23 [.own 23000]), (23000, .arr 55 Y1 v0)] (by (simp only [go_sem, hb22]) <;> (repeat' with_reducible apply And.intro) <;> first | assumption | rfl | omega | (unfold maxLen; omega)) ?_
      refine athen_n ?_
      exact AW.weaken (Wk.le [] [] [] rfl (by (simp only [go_sem, hb22]) <;> (repeat' with_reducible apply And.intro) <;> first | assumption | rfl | omega | (unfold maxLen; omega)) (by (simp only [go_sem, hb22]) <;> (repeat' with_reducible apply And.intro) <;> first | assumption | rfl | omega | (unfold maxLen; omega))) (hk_history_Longer_k1 _ h)

set_option maxRecDepth 100000 in
set_option maxHeartbeats 2000000 in
theorem hc_linealref02_Longer (h0 : List (Int × Int × Int × Int × Int × Int)) (call : Int) (from0 : Int) (to0 : Int) {r : (List (Int × Int × Int × Int × Int × Int)) × Int} (h : linealref02_Longer h0 call from0 to0 = some r) : HC Try.prog 55 [] [.sl Y1 h0, .int .i64 call, .int .i64 from0, .int .i64 to0] [(2000, .arr 55 Y1 r.1)] (.tup [.own 2000, .int .i64 r.2]) := by
  unfold linealref02_Longer at h
  refine HC.of_body tab_ok (res := [.tmp 8, .tmp 9]) Try.func55 rfl (by kernel_rfl) rfl (nt := 63) rfl (by decide) (by simp) ?_
  refine AW.seq ?_
  refine AW.ops ?_
  refine AO.allF tab_ok (by decide) [(0, .sl Y1 h0), (1, .int .i64 call), (2, .int .i64 from0), (3, .int .i64 to0)] [] (by (simp only [go_sem]) <;> (repeat' with_reducible apply And.intro) <;> first | assumption | rfl | omega | (unfold maxLen; omega)) ?_
  refine athen_n ?_
  refine AW.seq ?_
  refine AW.seq ?_
  refine AW.ops ?_
  refine AO.segF tab_ok 1 (by decide) [(0, .sl Y1 h0), (1, .int .i64 call), (2, .int .i64 from0), (3, .int .i64 to0), (11, .sl Y1 h0)] [] (by (simp only [go_sem]) <;> (repeat' with_reducible apply And.intro) <;> first | assumption | rfl | omega | (unfold maxLen; omega)) ?_
  obtain ⟨v0, hv1, h⟩ := Option.bind_eq_some_iff.1 h
  refine AO.call tab_ok (by decide) rfl rfl rfl (fun _ h => h) [] [] (hc_linealref02_Valid h0 hv1) rfl (by (simp only [go_sem]) <;> (repeat' with_reducible apply And.intro) <;> first | assumption | rfl | omega | (unfold maxLen; omega)) (by (simp only [go_sem]) <;> (repeat' with_reducible apply And.intro) <;> first | assumption | rfl | omega | (unfold maxLen; omega)) [(0, .sl Y1 h0), (1, .int .i64 call), (2, .int .i64 from0), (3, .int .i64 to0), (12, .bool v0)] [] (by (simp only [go_sem]) <;> (repeat' with_reducible apply And.intro) <;> first | assumption | rfl | omega | (unfold maxLen; omega)) ?_
  refine AO.allF tab_ok (by decide) [(0, .sl Y1 h0), (1, .int .i64 call), (2, .int .i64 from0), (3, .int .i64 to0), (13, .bool (!v0))] [] (by (simp only [go_sem]) <;> (repeat' with_reducible apply And.intro) <;> first | assumption | rfl | omega | (unfold maxLen; omega)) ?_
  refine athen_n ?_
  refine AW.cond (b := (!v0)) rfl (fun hb2 => ?_) (fun hb2 => ?_)
  · rw [if_pos hb2] at h
    refine AW.seq ?_
    refine AW.ops ?_
    refine AO.allF tab_ok (by decide) [(8, .cv (.slice none 0 0)), (9, .int .i64 20)] [] (by (simp only [go_sem, hb2]) <;> (repeat' with_reducible apply And.intro) <;> first | assumption | rfl | omega | (unfold maxLen; omega)) ?_
    refine athen_n ?_
    refine AW.ret ?_
    refine athen_r ?_
    obtain rfl := Option.some.inj h
    exact ⟨rfl, [], [2000], [], rfl, (by (simp only [go_sem, hb2]) <;> (repeat' with_reducible apply And.intro) <;> first | assumption | rfl | omega | (unfold maxLen; omega))⟩
  · rw [if_neg (Bool.eq_false_iff.1 hb2)] at h
    refine AW.skip ?_
    refine athen_n ?_
    refine AW.seq ?_
    refine AW.seq ?_
    refine AW.ops ?_
    obtain ⟨c3, h⟩ := ck_some.1 h
    refine AO.segF tab_ok 4 (by decide) [(0, .sl Y1 h0), (1, .int .i64 call), (2, .int .i64 from0), (3, .int .i64 to0), (14, .int .i64 call), (17, .int .i64 ((h0.length : Int) - 1))] [] (by (simp only [go_sem, hb2]) <;> (repeat' with_reducible apply And.intro) <;> first | assumption | rfl | omega | (unfold maxLen; omega)) ?_
    obtain ⟨v0_2, hv4, h⟩ := Option.bind_eq_some_iff.1 h
    refine AO.call tab_ok (by decide) rfl rfl rfl (fun _ h => h) [] [] (hc_linealref02_within 0 call ((h0.length : Int) - 1) hv4) rfl (by (simp only [go_sem, hb2]) <;> (repeat' with_reducible apply And.intro) <;> first | assumption | rfl | omega | (unfold maxLen; omega)) (by (simp only [go_sem, hb2]) <;> (repeat' with_reducible apply And.intro) <;> first | assumption | rfl | omega | (unfold maxLen; omega)) [(0, .sl Y1 h0), (1, .int .i64 call), (2, .int .i64 from0), (3, .int .i64 to0), (18, .bool v0_2)] [] (by (simp only [go_sem, hb2]) <;> (repeat' with_reducible apply And.intro) <;> first | assumption | rfl | omega | (unfold maxLen; omega)) ?_
    refine AO.segF tab_ok 2 (by decide) [(0, .sl Y1 h0), (1, .int .i64 call), (2, .int .i64 from0), (3, .int .i64 to0), (20, .bool (!v0_2))] [] (by (simp only [go_sem, hb2]) <;> (repeat' with_reducible apply And.intro) <;> first | assumption | rfl | omega | (unfold maxLen; omega)) ?_
    rcases Bool.eq_false_or_eq_true (!v0_2) with hb5 | hb5
    · rw [if_pos hb5] at h
      refine AO.weaken (s' := ⟨fr [(0, .sl Y1 h0), (1, .int .i64 call), (2, .int .i64 from0), (3, .int .i64 to0), (20, .bool true)], hpGet [], gt⟩) (Wk.to (by (simp only [go_sem, hb2, hb5]) <;> (repeat' with_reducible apply And.intro) <;> first | assumption | rfl | omega | (unfold maxLen; omega))) ?_
      refine AO.segF tab_ok 4 (by decide) [(0, .sl Y1 h0), (1, .int .i64 call), (2, .int .i64 from0), (3, .int .i64 to0), (20, .bool true), (24, .cv (undef))] [] (by (simp only [go_sem, hb2, hb5]) <;> (repeat' with_reducible apply And.intro) <;> first | assumption | rfl | omega | (unfold maxLen; omega)) ?_
      refine AO.segF tab_ok 6 (by decide) [(0, .sl Y1 h0), (1, .int .i64 call), (2, .int .i64 from0), (3, .int .i64 to0), (28, .bool true), (29, .cv (undef)), (30, .cv (undef))] [] (by (simp only [go_sem, hb2, hb5]) <;> (repeat' with_reducible apply And.intro) <;> first | assumption | rfl | omega | (unfold maxLen; omega)) ?_
      refine AO.segF tab_ok 4 (by decide) [(0, .sl Y1 h0), (1, .int .i64 call), (2, .int .i64 from0), (3, .int .i64 to0), (28, .bool true), (29, .cv (undef)), (34, .cv (undef))] [] (by (simp only [go_sem, hb2, hb5]) <;> (repeat' with_reducible apply And.intro) <;> first | assumption | rfl | omega | (unfold maxLen; omega)) ?_
      refine AO.segF tab_ok 6 (by decide) [(0, .sl Y1 h0), (1, .int .i64 call), (2, .int .i64 from0), (3, .int .i64 to0), (37, .bool true), (38, .cv (undef)), (39, .cv (undef)), (40, .cv (undef))] [] (by (simp only [go_sem, hb2, hb5]) <;> (repeat' with_reducible apply And.intro) <;> first | assumption | rfl | omega | (unfold maxLen; omega)) ?_
      refine AO.segF tab_ok 4 (by decide) [(0, .sl Y1 h0), (1, .int .i64 call), (2, .int .i64 from0), (3, .int .i64 to0), (37, .bool true), (44, .cv (undef))] [] (by (simp only [go_sem, hb2, hb5]) <;> (repeat' with_reducible apply And.intro) <;> first | assumption | rfl | omega | (unfold maxLen; omega)) ?_
      refine AO.allF tab_ok (by decide) [(0, .sl Y1 h0), (1, .int .i64 call), (2, .int .i64 from0), (3, .int .i64 to0), (45, .bool true)] [] (by (simp only [go_sem, hb2, hb5]) <;> (repeat' with_reducible apply And.intro) <;> first | assumption | rfl | omega | (unfold maxLen; omega)) ?_
      refine athen_n ?_
      refine AW.cond (b := true) rfl (fun _ => ?_) (fun hb6 => by cases hb6)
      refine AW.seq ?_
      refine AW.ops ?_
      refine AO.allF tab_ok (by decide) [(8, .cv (.slice none 0 0)), (9, .int .i64 2)] [] (by (simp only [go_sem, hb2, hb5]) <;> (repeat' with_reducible apply And.intro) <;> first | assumption | rfl | omega | (unfold maxLen; omega)) ?_
      refine athen_n ?_
      refine AW.ret ?_
      refine athen_r ?_
      obtain rfl := Option.some.inj h
      exact ⟨rfl, [], [2000], [], rfl, (by (simp only [go_sem, hb2, hb5]) <;> (repeat' with_reducible apply And.intro) <;> first | assumption | rfl | omega | (unfold maxLen; omega))⟩
    · rw [if_neg (Bool.eq_false_iff.1 hb5)] at h
      refine AO.weaken (s' := ⟨fr [(0, .sl Y1 h0), (1, .int .i64 call), (2, .int .i64 from0), (3, .int .i64 to0), (20, .bool false)], hpGet [], gt⟩) (Wk.to (by (simp only [go_sem, hb2, hb5]) <;> (repeat' with_reducible apply And.intro) <;> first | assumption | rfl | omega | (unfold maxLen; omega))) ?_
      obtain ⟨c7, h⟩ := ck_some.1 h
      obtain ⟨c8, h⟩ := ck_some.1 h
      refine AO.segF tab_ok 8 (by decide) [(0, .sl Y1 h0), (1, .int .i64 call), (2, .int .i64 from0), (3, .int .i64 to0), (28, .bool (decide ((h0.getD call.toNat (0, 0, 0, 0, 0, 0)).2.2.2.2.2 = 0)))] [] (by (simp only [go_sem, hb2, hb5]) <;> (repeat' with_reducible apply And.intro) <;> first | assumption | rfl | omega | (unfold maxLen; omega)) ?_
      rcases Bool.eq_false_or_eq_true (decide ((h0.getD call.toNat (0, 0, 0, 0, 0, 0)).2.2.2.2.2 = 0)) with hb9 | hb9
      · rw [if_pos hb9] at h
        refine AO.weaken (s' := ⟨fr [(0, .sl Y1 h0), (1, .int .i64 call), (2, .int .i64 from0), (3, .int .i64 to0), (28, .bool true)], hpGet [], gt⟩) (Wk.to (by (simp only [go_sem, hb2, hb5, hb9]) <;> (repeat' with_reducible apply And.intro) <;> first | assumption | rfl | omega | (unfold maxLen; omega))) ?_
        refine AO.segF tab_ok 4 (by decide) [(0, .sl Y1 h0), (1, .int .i64 call), (2, .int .i64 from0), (3, .int .i64 to0), (28, .bool true), (29, .cv (undef)), (32, .cv (undef))] [] (by (simp only [go_sem, hb2, hb5, hb9]) <;> (repeat' with_reducible apply And.intro) <;> first | assumption | rfl | omega | (unfold maxLen; omega)) ?_
        refine AO.segF tab_ok 6 (by decide) [(0, .sl Y1 h0), (1, .int .i64 call), (2, .int .i64 from0), (3, .int .i64 to0), (37, .bool true), (38, .cv (undef))] [] (by (simp only [go_sem, hb2, hb5, hb9]) <;> (repeat' with_reducible apply And.intro) <;> first | assumption | rfl | omega | (unfold maxLen; omega)) ?_
        refine AO.segF tab_ok 4 (by decide) [(0, .sl Y1 h0), (1, .int .i64 call), (2, .int .i64 from0), (3, .int .i64 to0), (37, .bool true), (38, .cv (undef)), (42, .cv (undef))] [] (by (simp only [go_sem, hb2, hb5, hb9]) <;> (repeat' with_reducible apply And.intro) <;> first | assumption | rfl | omega | (unfold maxLen; omega)) ?_
        refine AO.allF tab_ok (by decide) [(0, .sl Y1 h0), (1, .int .i64 call), (2, .int .i64 from0), (3, .int .i64 to0), (45, .bool true)] [] (by (simp only [go_sem, hb2, hb5, hb9]) <;> (repeat' with_reducible apply And.intro) <;> first | assumption | rfl | omega | (unfold maxLen; omega)) ?_
        refine athen_n ?_
        refine AW.cond (b := true) rfl (fun _ => ?_) (fun hb10 => by cases hb10)
        refine AW.seq ?_
        refine AW.ops ?_
        refine AO.allF tab_ok (by decide) [(8, .cv (.slice none 0 0)), (9, .int .i64 2)] [] (by (simp only [go_sem, hb2, hb5, hb9]) <;> (repeat' with_reducible apply And.intro) <;> first | assumption | rfl | omega | (unfold maxLen; omega)) ?_
        refine athen_n ?_
        refine AW.ret ?_
        refine athen_r ?_
        obtain rfl := Option.some.inj h
        exact ⟨rfl, [], [2000], [], rfl, (by (simp only [go_sem, hb2, hb5, hb9]) <;> (repeat' with_reducible apply And.intro) <;> first | assumption | rfl | omega | (unfold maxLen; omega))⟩
      · rw [if_neg (Bool.eq_false_iff.1 hb9)] at h
        refine AO.weaken (s' := ⟨fr [(0, .sl Y1 h0), (1, .int .i64 call), (2, .int .i64 from0), (3, .int .i64 to0), (28, .bool false)], hpGet [], gt⟩) (Wk.to (by (simp only [go_sem, hb2, hb5, hb9]) <;> (repeat' with_reducible apply And.intro) <;> first | assumption | rfl | omega | (unfold maxLen; omega))) ?_
        obtain ⟨c11, h⟩ := ck_some.1 h
        obtain ⟨c12, h⟩ := ck_some.1 h
        refine AO.segF tab_ok 9 (by decide) [(0, .sl Y1 h0), (1, .int .i64 call), (2, .int .i64 from0), (3, .int .i64 to0), (37, .bool (decide ((h0.getD call.toNat (0, 0, 0, 0, 0, 0)).2.2.2.2.1 < from0)))] [] (by (simp only [go_sem, hb2, hb5, hb9]) <;> (repeat' with_reducible apply And.intro) <;> first | assumption | rfl | omega | (unfold maxLen; omega)) ?_
        rcases Bool.eq_false_or_eq_true (decide ((h0.getD call.toNat (0, 0, 0, 0, 0, 0)).2.2.2.2.1 < from0)) with hb13 | hb13
        · rw [if_pos hb13] at h
          refine AO.weaken (s' := ⟨fr [(0, .sl Y1 h0), (1, .int .i64 call), (2, .int .i64 from0), (3, .int .i64 to0), (37, .bool true)], hpGet [], gt⟩) (Wk.to (by (simp only [go_sem, hb2, hb5, hb9, hb13]) <;> (repeat' with_reducible apply And.intro) <;> first | assumption | rfl | omega | (unfold maxLen; omega))) ?_
          refine AO.segF tab_ok 4 (by decide) [(0, .sl Y1 h0), (1, .int .i64 call), (2, .int .i64 from0), (3, .int .i64 to0), (37, .bool true), (38, .cv (undef)), (41, .cv (undef))] [] (by (simp only [go_sem, hb2, hb5, hb9, hb13]) <;> (repeat' with_reducible apply And.intro) <;> first | assumption | rfl | omega | (unfold maxLen; omega)) ?_
          refine AO.allF tab_ok (by decide) [(0, .sl Y1 h0), (1, .int .i64 call), (2, .int .i64 from0), (3, .int .i64 to0), (45, .bool true)] [] (by (simp only [go_sem, hb2, hb5, hb9, hb13]) <;> (repeat' with_reducible apply And.intro) <;> first | assumption | rfl | omega | (unfold maxLen; omega)) ?_
          refine athen_n ?_
          refine AW.cond (b := true) rfl (fun _ => ?_) (fun hb14 => by cases hb14)
          refine AW.seq ?_
          refine AW.ops ?_
          refine AO.allF tab_ok (by decide) [(8, .cv (.slice none 0 0)), (9, .int .i64 2)] [] (by (simp only [go_sem, hb2, hb5, hb9, hb13]) <;> (repeat' with_reducible apply And.intro) <;> first | assumption | rfl | omega | (unfold maxLen; omega)) ?_
          refine athen_n ?_
          refine AW.ret ?_
          refine athen_r ?_
          obtain rfl := Option.some.inj h
          exact ⟨rfl, [], [2000], [], rfl, (by (simp only [go_sem, hb2, hb5, hb9, hb13]) <;> (repeat' with_reducible apply And.intro) <;> first | assumption | rfl | omega | (unfold maxLen; omega))⟩
        · rw [if_neg (Bool.eq_false_iff.1 hb13)] at h
          refine AO.weaken (s' := ⟨fr [(0, .sl Y1 h0), (1, .int .i64 call), (2, .int .i64 from0), (3, .int .i64 to0), (37, .bool false)], hpGet [], gt⟩) (Wk.to (by (simp only [go_sem, hb2, hb5, hb9, hb13]) <;> (repeat' with_reducible apply And.intro) <;> first | assumption | rfl | omega | (unfold maxLen; omega))) ?_
          obtain ⟨c15, h⟩ := ck_some.1 h
          obtain ⟨c16, h⟩ := ck_some.1 h
          refine AO.allF tab_ok (by decide) [(0, .sl Y1 h0), (1, .int .i64 call), (2, .int .i64 from0), (3, .int .i64 to0), (45, .bool (decide (to0 < (h0.getD call.toNat (0, 0, 0, 0, 0, 0)).2.2.2.2.2)))] [] (by (simp only [go_sem, hb2, hb5, hb9, hb13]) <;> (repeat' with_reducible apply And.intro) <;> first | assumption | rfl | omega | (unfold maxLen; omega)) ?_
          refine athen_n ?_
          refine AW.cond (b := (decide (to0 < (h0.getD call.toNat (0, 0, 0, 0, 0, 0)).2.2.2.2.2))) rfl (fun hb17 => ?_) (fun hb17 => ?_)
          · rw [if_pos hb17] at h
            refine AW.seq ?_
            refine AW.ops ?_
            refine AO.allF tab_ok (by decide) [(8, .cv (.slice none 0 0)), (9, .int .i64 2)] [] (by (simp only [go_sem, hb2, hb5, hb9, hb13, hb17]) <;> (repeat' with_reducible apply And.intro) <;> first | assumption | rfl | omega | (unfold maxLen; omega)) ?_
            refine athen_n ?_
            refine AW.ret ?_
            refine athen_r ?_
            obtain rfl := Option.some.inj h
            exact ⟨rfl, [], [2000], [], rfl, (by (simp only [go_sem, hb2, hb5, hb9, hb13, hb17]) <;> (repeat' with_reducible apply And.intro) <;> first | assumption | rfl | omega | (unfold maxLen; omega))⟩
          · rw [if_neg (Bool.eq_false_iff.1 hb17)] at h
            refine AW.skip ?_
            refine athen_n ?_
            refine AW.seq ?_
            refine AW.ops ?_
            obtain ⟨c18, h⟩ := ck_some.1 h
            refine AO.allF tab_ok (by decide) [(1, .int .i64 call), (2, .int .i64 from0), (3, .int .i64 to0), (10, .own 48)] [(48, .arr 55 Y1 h0)] (by (simp only [go_sem, hb2, hb5, hb9, hb13, hb17]) <;> (repeat' with_reducible apply And.intro) <;> first | assumption | rfl | omega | (unfold maxLen; omega)) ?_
            refine athen_n ?_
            refine AW.seq ?_
            refine AW.ops ?_
            obtain ⟨c19, h⟩ := ck_some.1 h
            obtain ⟨c20, h⟩ := ck_some.1 h
            obtain ⟨c21, h⟩ := ck_some.1 h
            obtain ⟨c22, h⟩ := ck_some.1 h
            refine AO.allF tab_ok (by decide) [(10, .own 48)] [(48, .arr 55 Y1 ((h0.set call.toNat ((h0.getD call.toNat (0, 0, 0, 0, 0, 0)).1, (h0.getD call.toNat (0, 0, 0, 0, 0, 0)).2.1, (h0.getD call.toNat (0, 0, 0, 0, 0, 0)).2.2.1, (h0.getD call.toNat (0, 0, 0, 0, 0, 0)).2.2.2.1, from0, (h0.getD call.toNat (0, 0, 0, 0, 0, 0)).2.2.2.2.2)).set call.toNat (((h0.set call.toNat ((h0.getD call.toNat (0, 0, 0, 0, 0, 0)).1, (h0.getD call.toNat (0, 0, 0, 0, 0, 0)).2.1, (h0.getD call.toNat (0, 0, 0, 0, 0, 0)).2.2.1, (h0.getD call.toNat (0, 0, 0, 0, 0, 0)).2.2.2.1, from0, (h0.getD call.toNat (0, 0, 0, 0, 0, 0)).2.2.2.2.2)).getD call.toNat (0, 0, 0, 0, 0, 0)).1, ((h0.set call.toNat ((h0.getD call.toNat (0, 0, 0, 0, 0, 0)).1, (h0.getD call.toNat (0, 0, 0, 0, 0, 0)).2.1, (h0.getD call.toNat (0, 0, 0, 0, 0, 0)).2.2.1, (h0.getD call.toNat (0, 0, 0, 0, 0, 0)).2.2.2.1, from0, (h0.getD call.toNat (0, 0, 0, 0, 0, 0)).2.2.2.2.2)).getD call.toNat (0, 0, 0, 0, 0, 0)).2.1, ((h0.set call.toNat ((h0.getD call.toNat (0, 0, 0, 0, 0, 0)).1, (h0.getD call.toNat (0, 0, 0, 0, 0, 0)).2.1, (h0.getD call.toNat (0, 0, 0, 0, 0, 0)).2.2.1, (h0.getD call.toNat (0, 0, 0, 0, 0, 0)).2.2.2.1, from0, (h0.getD call.toNat (0, 0, 0, 0, 0, 0)).2.2.2.2.2)).getD call.toNat (0, 0, 0, 0, 0, 0)).2.2.1, ((h0.set call.toNat ((h0.getD call.toNat (0, 0, 0, 0, 0, 0)).1, (h0.getD call.toNat (0, 0, 0, 0, 0, 0)).2.1, (h0.getD call.toNat (0, 0, 0, 0, 0, 0)).2.2.1, (h0.getD call.toNat (0, 0, 0, 0, 0, 0)).2.2.2.1, from0, (h0.getD call.toNat (0, 0, 0, 0, 0, 0)).2.2.2.2.2)).getD call.toNat (0, 0, 0, 0, 0, 0)).2.2.2.1, ((h0.set call.toNat ((h0.getD call.toNat (0, 0, 0, 0, 0, 0)).1, (h0.getD call.toNat (0, 0, 0, 0, 0, 0)).2.1, (h0.getD call.toNat (0, 0, 0, 0, 0, 0)).2.2.1, (h0.getD call.toNat (0, 0, 0, 0, 0, 0)).2.2.2.1, from0, (h0.getD call.toNat (0, 0, 0, 0, 0, 0)).2.2.2.2.2)).getD call.toNat (0, 0, 0, 0, 0, 0)).2.2.2.2.1, to0)))] (by (simp only [go_sem, hb2, hb5, hb9, hb13, hb17]) <;> (repeat' with_reducible apply And.intro) <;> first | assumption | rfl | omega | (unfold maxLen; omega)) ?_
            refine athen_n ?_
            refine AW.seq ?_
            refine AW.seq ?_
            refine AW.ops ?_
            refine AO.segF tab_ok 1 (by decide) [(10, .own 48), (59, .own 48)] [(48, .arr 55 Y1 ((h0.set call.toNat ((h0.getD call.toNat (0, 0, 0, 0, 0, 0)).1, (h0.getD call.toNat (0, 0, 0, 0, 0, 0)).2.1, (h0.getD call.toNat (0, 0, 0, 0, 0, 0)).2.2.1, (h0.getD call.toNat (0, 0, 0, 0, 0, 0)).2.2.2.1, from0, (h0.getD call.toNat (0, 0, 0, 0, 0, 0)).2.2.2.2.2)).set call.toNat (((h0.set call.toNat ((h0.getD call.toNat (0, 0, 0, 0, 0, 0)).1, (h0.getD call.toNat (0, 0, 0, 0, 0, 0)).2.1, (h0.getD call.toNat (0, 0, 0, 0, 0, 0)).2.2.1, (h0.getD call.toNat (0, 0, 0, 0, 0, 0)).2.2.2.1, from0, (h0.getD call.toNat (0, 0, 0, 0, 0, 0)).2.2.2.2.2)).getD call.toNat (0, 0, 0, 0, 0, 0)).1, ((h0.set call.toNat ((h0.getD call.toNat (0, 0, 0, 0, 0, 0)).1, (h0.getD call.toNat (0, 0, 0, 0, 0, 0)).2.1, (h0.getD call.toNat (0, 0, 0, 0, 0, 0)).2.2.1, (h0.getD call.toNat (0, 0, 0, 0, 0, 0)).2.2.2.1, from0, (h0.getD call.toNat (0, 0, 0, 0, 0, 0)).2.2.2.2.2)).getD call.toNat (0, 0, 0, 0, 0, 0)).2.1, ((h0.set call.toNat ((h0.getD call.toNat (0, 0, 0, 0, 0, 0)).1, (h0.getD call.toNat (0, 0, 0, 0, 0, 0)).2.1, (h0.getD call.toNat (0, 0, 0, 0, 0, 0)).2.2.1, (h0.getD call.toNat (0, 0, 0, 0, 0, 0)).2.2.2.1, from0, (h0.getD call.toNat (0, 0, 0, 0, 0, 0)).2.2.2.2.2)).getD call.toNat (0, 0, 0, 0, 0, 0)).2.2.1, ((h0.set call.toNat ((h0.getD call.toNat (0, 0, 0, 0, 0, 0)).1, (h0.getD call.toNat (0, 0, 0, 0, 0, 0)).2.1, (h0.getD call.toNat (0, 0, 0, 0, 0, 0)).2.2.1, (h0.getD call.toNat (0, 0, 0, 0, 0, 0)).2.2.2.1, from0, (h0.getD call.toNat (0, 0, 0, 0, 0, 0)).2.2.2.2.2)).getD call.toNat (0, 0, 0, 0, 0, 0)).2.2.2.1, ((h0.set call.toNat ((h0.getD call.toNat (0, 0, 0, 0, 0, 0)).1, (h0.getD call.toNat (0, 0, 0, 0, 0, 0)).2.1, (h0.getD call.toNat (0, 0, 0, 0, 0, 0)).2.2.1, (h0.getD call.toNat (0, 0, 0, 0, 0, 0)).2.2.2.1, from0, (h0.getD call.toNat (0, 0, 0, 0, 0, 0)).2.2.2.2.2)).getD call.toNat (0, 0, 0, 0, 0, 0)).2.2.2.2.1, to0)))] (by (simp only [go_sem, hb2, hb5, hb9, hb13, hb17]) <;> (repeat' with_reducible apply And.intro) <;> first | assumption | rfl | omega | (unfold maxLen; omega)) ?_
            obtain ⟨v0_3, hv23, h⟩ := Option.bind_eq_some_iff.1 h
            refine AO.call tab_ok (by decide) rfl rfl rfl (fun _ h => h) [48] [] (hc_linealref02_Valid ((h0.set call.toNat ((h0.getD call.toNat (0, 0, 0, 0, 0, 0)).1, (h0.getD call.toNat (0, 0, 0, 0, 0, 0)).2.1, (h0.getD call.toNat (0, 0, 0, 0, 0, 0)).2.2.1, (h0.getD call.toNat (0, 0, 0, 0, 0, 0)).2.2.2.1, from0, (h0.getD call.toNat (0, 0, 0, 0, 0, 0)).2.2.2.2.2)).set call.toNat (((h0.set call.toNat ((h0.getD call.toNat (0, 0, 0, 0, 0, 0)).1, (h0.getD call.toNat (0, 0, 0, 0, 0, 0)).2.1, (h0.getD call.toNat (0, 0, 0, 0, 0, 0)).2.2.1, (h0.getD call.toNat (0, 0, 0, 0, 0, 0)).2.2.2.1, from0, (h0.getD call.toNat (0, 0, 0, 0, 0, 0)).2.2.2.2.2)).getD call.toNat (0, 0, 0, 0, 0, 0)).1, ((h0.set call.toNat ((h0.getD call.toNat (0, 0, 0, 0, 0, 0)).1, (h0.getD call.toNat (0, 0, 0, 0, 0, 0)).2.1, (h0.getD call.toNat (0, 0, 0, 0, 0, 0)).2.2.1, (h0.getD call.toNat (0, 0, 0, 0, 0, 0)).2.2.2.1, from0, (h0.getD call.toNat (0, 0, 0, 0, 0, 0)).2.2.2.2.2)).getD call.toNat (0, 0, 0, 0, 0, 0)).2.1, ((h0.set call.toNat ((h0.getD call.toNat (0, 0, 0, 0, 0, 0)).1, (h0.getD call.toNat (0, 0, 0, 0, 0, 0)).2.1, (h0.getD call.toNat (0, 0, 0, 0, 0, 0)).2.2.1, (h0.getD call.toNat (0, 0, 0, 0, 0, 0)).2.2.2.1, from0, (h0.getD call.toNat (0, 0, 0, 0, 0, 0)).2.2.2.2.2)).getD call.toNat (0, 0, 0, 0, 0, 0)).2.2.1, ((h0.set call.toNat ((h0.getD call.toNat (0, 0, 0, 0, 0, 0)).1, (h0.getD call.toNat (0, 0, 0, 0, 0, 0)).2.1, (h0.getD call.toNat (0, 0, 0, 0, 0, 0)).2.2.1, (h0.getD call.toNat (0, 0, 0, 0, 0, 0)).2.2.2.1, from0, (h0.getD call.toNat (0, 0, 0, 0, 0, 0)).2.2.2.2.2)).getD call.toNat (0, 0, 0, 0, 0, 0)).2.2.2.1, ((h0.set call.toNat ((h0.getD call.toNat (0, 0, 0, 0, 0, 0)).1, (h0.getD call.toNat (0, 0, 0, 0, 0, 0)).2.1, (h0.getD call.toNat (0, 0, 0, 0, 0, 0)).2.2.1, (h0.getD call.toNat (0, 0, 0, 0, 0, 0)).2.2.2.1, from0, (h0.getD call.toNat (0, 0, 0, 0, 0, 0)).2.2.2.2.2)).getD call.toNat (0, 0, 0, 0, 0, 0)).2.2.2.2.1, to0)) hv23) rfl (by (simp only [go_sem, hb2, hb5, hb9, hb13, hb17]) <;> (repeat' with_reducible apply And.intro) <;> first | assumption | rfl | omega | (unfold maxLen; omega)) (by (simp only [go_sem, hb2, hb5, hb9, hb13, hb17]) <;> (repeat' with_reducible apply And.intro) <;> first | assumption | rfl | omega | (unfold maxLen; omega)) [(10, .own 48), (60, .bool v0_3)] [(48, .arr 55 Y1 ((h0.set call.toNat ((h0.getD call.toNat (0, 0, 0, 0, 0, 0)).1, (h0.getD call.toNat (0, 0, 0, 0, 0, 0)).2.1, (h0.getD call.toNat (0, 0, 0, 0, 0, 0)).2.2.1, (h0.getD call.toNat (0, 0, 0, 0, 0, 0)).2.2.2.1, from0, (h0.getD call.toNat (0, 0, 0, 0, 0, 0)).2.2.2.2.2)).set call.toNat (((h0.set call.toNat ((h0.getD call.toNat (0, 0, 0, 0, 0, 0)).1, (h0.getD call.toNat (0, 0, 0, 0, 0, 0)).2.1, (h0.getD call.toNat (0, 0, 0, 0, 0, 0)).2.2.1, (h0.getD call.toNat (0, 0, 0, 0, 0, 0)).2.2.2.1, from0, (h0.getD call.toNat (0, 0, 0, 0, 0, 0)).2.2.2.2.2)).getD call.toNat (0, 0, 0, 0, 0, 0)).1, ((h0.set call.toNat ((h0.getD call.toNat (0, 0, 0, 0, 0, 0)).1, (h0.getD call.toNat (0, 0, 0, 0, 0, 0)).2.1, (h0.getD call.toNat (0, 0, 0, 0, 0, 0)).2.2.1, (h0.getD call.toNat (0, 0, 0, 0, 0, 0)).2.2.2.1, from0, (h0.getD call.toNat (0, 0, 0, 0, 0, 0)).2.2.2.2.2)).getD call.toNat (0, 0, 0, 0, 0, 0)).2.1, ((h0.set call.toNat ((h0.getD call.toNat (0, 0, 0, 0, 0, 0)).1, (h0.getD call.toNat (0, 0, 0, 0, 0, 0)).2.1, (h0.getD call.toNat (0, 0, 0, 0, 0, 0)).2.2.1, (h0.getD call.toNat (0, 0, 0, 0, 0, 0)).2.2.2.1, from0, (h0.getD call.toNat (0, 0, 0, 0, 0, 0)).2.2.2.2.2)).getD call.toNat (0, 0, 0, 0, 0, 0)).2.2.1, ((h0.set call.toNat ((h0.getD call.toNat (0, 0, 0, 0, 0, 0)).1, (h0.getD call.toNat (0, 0, 0, 0, 0, 0)).2.1, (h0.getD call.toNat (0, 0, 0, 0, 0, 0)).2.2.1, (h0.getD call.toNat (0, 0, 0, 0, 0, 0)).2.2.2.1, from0, (h0.getD call.toNat (0, 0, 0, 0, 0, 0)).2.2.2.2.2)).getD call.toNat (0, 0, 0, 0, 0, 0)).2.2.2.1, ((h0.set call.toNat ((h0.getD call.toNat (0, 0, 0, 0, 0, 0)).1, (h0.getD call.toNat (0, 0, 0, 0, 0, 0)).2.1, (h0.getD call.toNat (0, 0, 0, 0, 0, 0)).2.2.1, (h0.getD call.toNat (0, 0, 0, 0, 0, 0)).2.2.2.1, from0, (h0.getD call.toNat (0, 0, 0, 0, 0, 0)).2.2.2.2.2)).getD call.toNat (0, 0, 0, 0, 0, 0)).2.2.2.2.1, to0)))] (by (simp only [go_sem, hb2, hb5, hb9, hb13, hb17]) <;> (repeat' with_reducible apply And.intro) <;> first | assumption | rfl | omega | (unfold maxLen; omega)) ?_
            refine AO.allF tab_ok (by decide) [(10, .own 48), (61, .bool (!v0_3))] [(48, .arr 55 Y1 ((h0.set call.toNat ((h0.getD call.toNat (0, 0, 0, 0, 0, 0)).1, (h0.getD call.toNat (0, 0, 0, 0, 0, 0)).2.1, (h0.getD call.toNat (0, 0, 0, 0, 0, 0)).2.2.1, (h0.getD call.toNat (0, 0, 0, 0, 0, 0)).2.2.2.1, from0, (h0.getD call.toNat (0, 0, 0, 0, 0, 0)).2.2.2.2.2)).set call.toNat (((h0.set call.toNat ((h0.getD call.toNat (0, 0, 0, 0, 0, 0)).1, (h0.getD call.toNat (0, 0, 0, 0, 0, 0)).2.1, (h0.getD call.toNat (0, 0, 0, 0, 0, 0)).2.2.1, (h0.getD call.toNat (0, 0, 0, 0, 0, 0)).2.2.2.1, from0, (h0.getD call.toNat (0, 0, 0, 0, 0, 0)).2.2.2.2.2)).getD call.toNat (0, 0, 0, 0, 0, 0)).1, ((h0.set call.toNat ((h0.getD call.toNat (0, 0, 0, 0, 0, 0)).1, (h0.getD call.toNat (0, 0, 0, 0, 0, 0)).2.1, (h0.getD call.toNat (0, 0, 0, 0, 0, 0)).2.2.1, (h0.getD call.toNat (0, 0, 0, 0, 0, 0)).2.2.2.1, from0, (h0.getD call.toNat (0, 0, 0, 0, 0, 0)).2.2.2.2.2)).getD call.toNat (0, 0, 0, 0, 0, 0)).2.1, ((h0.set call.toNat ((h0.getD call.toNat (0, 0, 0, 0, 0, 0)).1, (h0.getD call.toNat (0, 0, 0, 0, 0, 0)).2.1, (h0.getD call.toNat (0, 0, 0, 0, 0, 0)).2.2.1, (h0.getD call.toNat (0, 0, 0, 0, 0, 0)).2.2.2.1, from0, (h0.getD call.toNat (0, 0, 0, 0, 0, 0)).2.2.2.2.2)).getD call.toNat (0, 0, 0, 0, 0, 0)).2.2.1, ((h0.set call.toNat ((h0.getD call.toNat (0, 0, 0, 0, 0, 0)).1, (h0.getD call.toNat (0, 0, 0, 0, 0, 0)).2.1, (h0.getD call.toNat (0, 0, 0, 0, 0, 0)).2.2.1, (h0.getD call.toNat (0, 0, 0, 0, 0, 0)).2.2.2.1, from0, (h0.getD call.toNat (0, 0, 0, 0, 0, 0)).2.2.2.2.2)).getD call.toNat (0, 0, 0, 0, 0, 0)).2.2.2.1, ((h0.set call.toNat ((h0.getD call.toNat (0, 0, 0, 0, 0, 0)).1, (h0.getD call.toNat (0, 0, 0, 0, 0, 0)).2.1, (h0.getD call.toNat (0, 0, 0, 0, 0, 0)).2.2.1, (h0.getD call.toNat (0, 0, 0, 0, 0, 0)).2.2.2.1, from0, (h0.getD call.toNat (0, 0, 0, 0, 0, 0)).2.2.2.2.2)).getD call.toNat (0, 0, 0, 0, 0, 0)).2.2.2.2.1, to0)))] (by (simp only [go_sem, hb2, hb5, hb9, hb13, hb17]) <;> (repeat' with_reducible apply And.intro) <;> first | assumption | rfl | omega | (unfold maxLen; omega)) ?_
            refine athen_n ?_
            refine AW.cond (b := (!v0_3)) rfl (fun hb24 => ?_) (fun hb24 => ?_)
            · rw [if_pos hb24] at h
              refine AW.seq ?_
              refine AW.ops ?_
              refine AO.allF tab_ok (by decide) [(8, .cv (.slice none 0 0)), (9, .int .i64 2)] [] (by (simp only [go_sem, hb2, hb5, hb9, hb13, hb17, hb24]) <;> (repeat' with_reducible apply And.intro) <;> first | assumption | rfl | omega | (unfold maxLen; omega)) ?_
              refine athen_n ?_
              refine AW.ret ?_
              refine athen_r ?_
              obtain rfl := Option.some.inj h
              exact ⟨rfl, [], [2000], [], rfl, (by (simp only [go_sem, hb2, hb5, hb9, hb13, hb17, hb24]) <;> (repeat' with_reducible apply And.intro) <;> first | assumption | rfl | omega | (unfold maxLen; omega))⟩
            · rw [if_neg (Bool.eq_false_iff.1 hb24)] at h
              refine AW.skip ?_
              refine athen_n ?_
              refine AW.seq ?_
              refine AW.ops ?_
              refine AO.allF tab_ok (by decide) [(8, .own 48), (9, .int .i64 0)] [(48, .arr 55 Y1 ((h0.set call.toNat ((h0.getD call.toNat (0, 0, 0, 0, 0, 0)).1, (h0.getD call.toNat (0, 0, 0, 0, 0, 0)).2.1, (h0.getD call.toNat (0, 0, 0, 0, 0, 0)).2.2.1, (h0.getD call.toNat (0, 0, 0, 0, 0, 0)).2.2.2.1, from0, (h0.getD call.toNat (0, 0, 0, 0, 0, 0)).2.2.2.2.2)).set call.toNat (((h0.set call.toNat ((h0.getD call.toNat (0, 0, 0, 0, 0, 0)).1, (h0.getD call.toNat (0, 0, 0, 0, 0, 0)).2.1, (h0.getD call.toNat (0, 0, 0, 0, 0, 0)).2.2.1, (h0.getD call.toNat (0, 0, 0, 0, 0, 0)).2.2.2.1, from0, (h0.getD call.toNat (0, 0, 0, 0, 0, 0)).2.2.2.2.2)).getD call.toNat (0, 0, 0, 0, 0, 0)).1, ((h0.set call.toNat ((h0.getD call.toNat (0, 0, 0, 0, 0, 0)).1, (h0.getD call.toNat (0, 0, 0, 0, 0, 0)).2.1, (h0.getD call.toNat (0, 0, 0, 0, 0, 0)).2.2.1, (h0.getD call.toNat (0, 0, 0, 0, 0, 0)).2.2.2.1, from0, (h0.getD call.toNat (0, 0, 0, 0, 0, 0)).2.2.2.2.2)).getD call.toNat (0, 0, 0, 0, 0, 0)).2.1, ((h0.set call.toNat ((h0.getD call.toNat (0, 0, 0, 0, 0, 0)).1, (h0.getD call.toNat (0, 0, 0, 0, 0, 0)).2.1, (h0.getD call.toNat (0, 0, 0, 0, 0, 0)).2.2.1, (h0.getD call.toNat (0, 0, 0, 0, 0, 0)).2.2.2.1, from0, (h0.getD call.toNat (0, 0, 0, 0, 0, 0)).2.2.2.2.2)).getD call.toNat (0, 0, 0, 0, 0, 0)).2.2.1, ((h0.set call.toNat ((h0.getD call.toNat (0, 0, 0, 0, 0, 0)).1, (h0.getD call.toNat (0, 0, 0, 0, 0, 0)).2.1, (h0.getD call.toNat (0, 0, 0, 0, 0, 0)).2.2.1, (h0.getD call.toNat (0, 0, 0, 0, 0, 0)).2.2.2.1, from0, (h0.getD call.toNat (0, 0, 0, 0, 0, 0)).2.2.2.2.2)).getD call.toNat (0, 0, 0, 0, 0, 0)).2.2.2.1, ((h0.set call.toNat ((h0.getD call.toNat (0, 0, 0, 0, 0, 0)).1, (h0.getD call.toNat (0, 0, 0, 0, 0, 0)).2.1, (h0.getD call.toNat (0, 0, 0, 0, 0, 0)).2.2.1, (h0.getD call.toNat (0, 0, 0, 0, 0, 0)).2.2.2.1, from0, (h0.getD call.toNat (0, 0, 0, 0, 0, 0)).2.2.2.2.2)).getD call.toNat (0, 0, 0, 0, 0, 0)).2.2.2.2.1, to0)))] (by (simp only [go_sem, hb2, hb5, hb9, hb13, hb17, hb24]) <;> (repeat' with_reducible apply And.intro) <;> first | assumption | rfl | omega | (unfold maxLen; omega)) ?_
              refine athen_n ?_
              refine AW.ret ?_
              obtain rfl := Option.some.inj h
              exact ⟨rfl, [], [], [(2000, 48)], rfl, (by (simp only [go_sem, hb2, hb5, hb9, hb13, hb17, hb24]) <;> (repeat' with_reducible apply And.intro) <;> first | assumption | rfl | omega | (unfold maxLen; omega))⟩

set_option maxRecDepth 100000 in
set_option maxHeartbeats 2000000 in
theorem hc_lineallaw02_HistoryLongers (h0 : List (Int × Int × Int × Int × Int × Int)) (call : Int) (at0 : Int × Int) {r : Bool} (h : lineallaw02_HistoryLongers h0 call at0 = some r) : HC Try.prog 10 [] [.sl Y1 h0, .int .i64 call, .agg [.int .i64 at0.1, .int .i64 at0.2]] [] (.bool r) := by
  unfold lineallaw02_HistoryLongers at h
  refine HC.of_body tab_ok (res := [.tmp 6]) Try.func10 rfl (by kernel_rfl) rfl (nt := 45) rfl (by decide) (by simp) ?_
  refine AW.seq ?_
  refine AW.ops ?_
  refine AO.allF tab_ok (by decide) [(0, .sl Y1 h0), (1, .int .i64 call), (5, .bp 5 0)] [(5, .box 24 [.int .i64 at0.1, .int .i64 at0.2])] (by (simp only [go_sem]) <;> (repeat' with_reducible apply And.intro) <;> first | assumption | rfl | omega | (unfold maxLen; omega)) ?_
  refine athen_n ?_
  refine AW.seq ?_
  refine AW.seq ?_
  refine AW.ops ?_
  refine AO.segF tab_ok 1 (by decide) [(0, .sl Y1 h0), (1, .int .i64 call), (5, .bp 5 0), (11, .sl Y1 h0)] [(5, .box 24 [.int .i64 at0.1, .int .i64 at0.2])] (by (simp only [go_sem]) <;> (repeat' with_reducible apply And.intro) <;> first | assumption | rfl | omega | (unfold maxLen; omega)) ?_
  obtain ⟨v0, hv1, h⟩ := Option.bind_eq_some_iff.1 h
  refine AO.call tab_ok (by decide) rfl rfl rfl (fun _ h => h) [] [] (hc_lineallaw02_Long h0 hv1) rfl (by (simp only [go_sem]) <;> (repeat' with_reducible apply And.intro) <;> first | assumption | rfl | omega | (unfold maxLen; omega)) (by (simp only [go_sem]) <;> (repeat' with_reducible apply And.intro) <;> first | assumption | rfl | omega | (unfold maxLen; omega)) [(0, .sl Y1 h0), (1, .int .i64 call), (5, .bp 5 0), (12, .bool (decide (40 < (h0.length : Int))))] [(5, .box 24 [.int .i64 at0.1, .int .i64 at0.2])] (by (simp only [go_sem]) <;> (repeat' with_reducible apply And.intro) <;> first | assumption | rfl | omega | (unfold maxLen; omega)) ?_
  refine AO.allF tab_ok (by decide) [(0, .sl Y1 h0), (1, .int .i64 call), (5, .bp 5 0), (12, .bool (decide (40 < (h0.length : Int))))] [(5, .box 24 [.int .i64 at0.1, .int .i64 at0.2])] (by (simp only [go_sem]) <;> (repeat' with_reducible apply And.intro) <;> first | assumption | rfl | omega | (unfold maxLen; omega)) ?_
  refine athen_n ?_
  refine AW.cond (b := (decide (40 < (h0.length : Int)))) rfl (fun hb2 => ?_) (fun hb2 => ?_)
  · rw [if_pos hb2] at h
    refine AW.seq ?_
    refine AW.ops ?_
    obtain ⟨v0_2, hv3, h⟩ := Option.bind_eq_some_iff.1 h
    refine AO.call tab_ok (by decide) rfl rfl rfl (fun _ h => h) [] [] (hc_lineallaw02_Sane hv3) rfl (by (simp only [go_sem, hb2]) <;> (repeat' with_reducible apply And.intro) <;> first | assumption | rfl | omega | (unfold maxLen; omega)) (by (simp only [go_sem, hb2]) <;> (repeat' with_reducible apply And.intro) <;> first | assumption | rfl | omega | (unfold maxLen; omega)) [(13, .bool v0_2)] [] (by (simp only [go_sem, hb2]) <;> (repeat' with_reducible apply And.intro) <;> first | assumption | rfl | omega | (unfold maxLen; omega)) ?_
    refine AO.allF tab_ok (by decide) [(6, .bool v0_2)] [] (by (simp only [go_sem, hb2]) <;> (repeat' with_reducible apply And.intro) <;> first | assumption | rfl | omega | (unfold maxLen; omega)) ?_
    refine athen_n ?_
    refine AW.ret ?_
    refine athen_r ?_
    obtain rfl := Option.some.inj h
    exact ⟨rfl, [], [], [], rfl, (by (simp only [go_sem, hb2]) <;> (repeat' with_reducible apply And.intro) <;> first | assumption | rfl | omega | (unfold maxLen; omega))⟩
  · rw [if_neg (Bool.eq_false_iff.1 hb2)] at h
    refine AW.skip ?_
    refine athen_n ?_
    refine AW.seq ?_
    refine AW.ops ?_
    refine AO.segF tab_ok 6 (by decide) [(0, .sl Y1 h0), (1, .int .i64 call), (5, .bp 5 0), (15, .sl Y1 h0), (16, .int .i64 call), (18, .int .i64 at0.1), (20, .int .i64 at0.2)] [(5, .box 24 [.int .i64 at0.1, .int .i64 at0.2])] (by (simp only [go_sem, hb2]) <;> (repeat' with_reducible apply And.intro) <;> first | assumption | rfl | omega | (unfold maxLen; omega)) ?_
    obtain ⟨v0_3, hv4, h⟩ := Option.bind_eq_some_iff.1 h
    refine AO.call tab_ok (by decide) rfl rfl rfl (fun _ h => h) [] [] (hc_history_Longer h0 call at0.1 at0.2 hv4) rfl (by (simp only [go_sem, hb2]) <;> (repeat' with_reducible apply And.intro) <;> first | assumption | rfl | omega | (unfold maxLen; omega)) (by (simp only [go_sem, hb2]) <;> (repeat' with_reducible apply And.intro) <;> first | assumption | rfl | omega | (unfold maxLen; omega)) [(0, .sl Y1 h0), (1, .int .i64 call), (5, .bp 5 0), (21, .tup [.own 31000, .int .i64 v0_3.2])] [(5, .box 24 [.int .i64 at0.1, .int .i64 at0.2]), (31000, .arr 55 Y1 v0_3.1)] (by (simp only [go_sem, hb2]) <;> (repeat' with_reducible apply And.intro) <;> first | assumption | rfl | omega | (unfold maxLen; omega)) ?_
    refine AO.allF tab_ok (by decide) [(0, .sl Y1 h0), (1, .int .i64 call), (5, .bp 5 0), (7, .own 31000), (8, .int .i64 v0_3.2)] [(5, .box 24 [.int .i64 at0.1, .int .i64 at0.2]), (31000, .arr 55 Y1 v0_3.1)] (by (simp only [go_sem, hb2]) <;> (repeat' with_reducible apply And.intro) <;> first | assumption | rfl | omega | (unfold maxLen; omega)) ?_
    refine athen_n ?_
    refine AW.seq ?_
    refine AW.ops ?_
    refine AO.segF tab_ok 6 (by decide) [(7, .own 31000), (8, .int .i64 v0_3.2), (25, .sl Y1 h0), (26, .int .i64 call), (28, .int .i64 at0.1), (30, .int .i64 at0.2)] [(31000, .arr 55 Y1 v0_3.1)] (by (simp only [go_sem, hb2]) <;> (repeat' with_reducible apply And.intro) <;> first | assumption | rfl | omega | (unfold maxLen; omega)) ?_
    obtain ⟨v0_4, hv5, h⟩ := Option.bind_eq_some_iff.1 h
    refine AO.call tab_ok (by decide) rfl rfl rfl (fun _ h => h) [] [] (hc_linealref02_Longer h0 call at0.1 at0.2 hv5) rfl (by (simp only [go_sem, hb2]) <;> (repeat' with_reducible apply And.intro) <;> first | assumption | rfl | omega | (unfold maxLen; omega)) (by (simp only [go_sem, hb2]) <;> (repeat' with_reducible apply And.intro) <;> first | assumption | rfl | omega | (unfold maxLen; omega)) [(7, .own 31000), (8, .int .i64 v0_3.2), (31, .tup [.own 41000, .int .i64 v0_4.2])] [(31000, .arr 55 Y1 v0_3.1), (41000, .arr 55 Y1 v0_4.1)] (by (simp only [go_sem, hb2]) <;> (repeat' with_reducible apply And.intro) <;> first | assumption | rfl | omega | (unfold maxLen; omega)) ?_
    refine AO.allF tab_ok (by decide) [(7, .own 31000), (8, .int .i64 v0_3.2), (9, .own 41000), (10, .int .i64 v0_4.2)] [(31000, .arr 55 Y1 v0_3.1), (41000, .arr 55 Y1 v0_4.1)] (by (simp only [go_sem, hb2]) <;> (repeat' with_reducible apply And.intro) <;> first | assumption | rfl | omega | (unfold maxLen; omega)) ?_
    refine athen_n ?_
    refine AW.seq ?_
    refine AW.ops ?_
    refine AO.segF tab_ok 2 (by decide) [(8, .int .i64 v0_3.2), (10, .int .i64 v0_4.2), (34, .own 31000), (35, .own 41000)] [(31000, .arr 55 Y1 v0_3.1), (41000, .arr 55 Y1 v0_4.1)] (by (simp only [go_sem, hb2]) <;> (repeat' with_reducible apply And.intro) <;> first | assumption | rfl | omega | (unfold maxLen; omega)) ?_
    obtain ⟨v0_5, hv6, h⟩ := Option.bind_eq_some_iff.1 h
    refine AO.call tab_ok (by decide) rfl rfl rfl (fun _ h => h) [31000, 41000] [] (hc_linealref02_Same v0_3.1 v0_4.1 hv6) rfl (by (simp only [go_sem, hb2]) <;> (repeat' with_reducible apply And.intro) <;> first | assumption | rfl | omega | (unfold maxLen; omega)) (by (simp only [go_sem, hb2]) <;> (repeat' with_reducible apply And.intro) <;> first | assumption | rfl | omega | (unfold maxLen; omega)) [(8, .int .i64 v0_3.2), (10, .int .i64 v0_4.2), (36, .bool v0_5)] [] (by (simp only [go_sem, hb2]) <;> (repeat' with_reducible apply And.intro) <;> first | assumption | rfl | omega | (unfold maxLen; omega)) ?_
    refine AO.segF tab_ok 1 (by decide) [(8, .int .i64 v0_3.2), (10, .int .i64 v0_4.2), (37, .bool v0_5)] [] (by (simp only [go_sem, hb2]) <;> (repeat' with_reducible apply And.intro) <;> first | assumption | rfl | omega | (unfold maxLen; omega)) ?_
    rcases Bool.eq_false_or_eq_true v0_5 with hb7 | hb7
    · rw [if_pos hb7] at h
      refine AO.weaken (s' := ⟨fr [(8, .int .i64 v0_3.2), (10, .int .i64 v0_4.2), (37, .bool true)], hpGet [], gt⟩) (Wk.to (by (simp only [go_sem, hb2, hb7]) <;> (repeat' with_reducible apply And.intro) <;> first | assumption | rfl | omega | (unfold maxLen; omega))) ?_
      refine AO.segF tab_ok 5 (by decide) [(42, .bool (decide (v0_3.2 = v0_4.2)))] [] (by (simp only [go_sem, hb2, hb7]) <;> (repeat' with_reducible apply And.intro) <;> first | assumption | rfl | omega | (unfold maxLen; omega)) ?_
      rcases Bool.eq_false_or_eq_true (decide (v0_3.2 = v0_4.2)) with hb8 | hb8
      · rw [if_pos hb8] at h
        refine AO.weaken (s' := ⟨fr [(42, .bool true)], hpGet [], gt⟩) (Wk.to (by (simp only [go_sem, hb2, hb7, hb8]) <;> (repeat' with_reducible apply And.intro) <;> first | assumption | rfl | omega | (unfold maxLen; omega))) ?_
        obtain ⟨v0_6, hv9, h⟩ := Option.bind_eq_some_iff.1 h
        refine AO.call tab_ok (by decide) rfl rfl rfl (fun _ h => ⟨fun _ => h, fun hn => absurd rfl hn⟩) [] [] (hc_lineallaw02_Sane hv9) rfl (by (simp only [go_sem, hb2, hb7, hb8]) <;> (repeat' with_reducible apply And.intro) <;> first | assumption | rfl | omega | (unfold maxLen; omega)) (by (simp only [go_sem, hb2, hb7, hb8]) <;> (repeat' with_reducible apply And.intro) <;> first | assumption | rfl | omega | (unfold maxLen; omega)) [(42, .bool true), (43, .bool v0_6)] [] (by (simp only [go_sem, hb2, hb7, hb8]) <;> (repeat' with_reducible apply And.intro) <;> first | assumption | rfl | omega | (unfold maxLen; omega)) ?_
        refine AO.allF tab_ok (by decide) [(6, .bool v0_6)] [] (by (simp only [go_sem, hb2, hb7, hb8]) <;> (repeat' with_reducible apply And.intro) <;> first | assumption | rfl | omega | (unfold maxLen; omega)) ?_
        refine athen_n ?_
        refine AW.ret ?_
        obtain rfl := Option.some.inj h
        exact ⟨rfl, [], [], [], rfl, (by (simp only [go_sem, hb2, hb7, hb8]) <;> (repeat' with_reducible apply And.intro) <;> first | assumption | rfl | omega | (unfold maxLen; omega))⟩
      · rw [if_neg (Bool.eq_false_iff.1 hb8)] at h
        refine AO.weaken (s' := ⟨fr [(42, .bool false)], hpGet [], gt⟩) (Wk.to (by (simp only [go_sem, hb2, hb7, hb8]) <;> (repeat' with_reducible apply And.intro) <;> first | assumption | rfl | omega | (unfold maxLen; omega))) ?_
        refine AO.allF tab_ok (by decide) [(6, .bool false)] [] (by (simp only [go_sem, hb2, hb7, hb8]) <;> (repeat' with_reducible apply And.intro) <;> first | assumption | rfl | omega | (unfold maxLen; omega)) ?_
        refine athen_n ?_
        refine AW.ret ?_
        obtain rfl := Option.some.inj h
        exact ⟨rfl, [], [], [], rfl, (by (simp only [go_sem, hb2, hb7, hb8]) <;> (repeat' with_reducible apply And.intro) <;> first | assumption | rfl | omega | (unfold maxLen; omega))⟩
    · rw [if_neg (Bool.eq_false_iff.1 hb7)] at h
      refine AO.weaken (s' := ⟨fr [(8, .int .i64 v0_3.2), (10, .int .i64 v0_4.2), (37, .bool false)], hpGet [], gt⟩) (Wk.to (by (simp only [go_sem, hb2, hb7]) <;> (repeat' with_reducible apply And.intro) <;> first | assumption | rfl | omega | (unfold maxLen; omega))) ?_
      refine AO.segF tab_ok 6 (by decide) [(42, .bool false), (43, .cv (undef))] [] (by (simp only [go_sem, hb2, hb7]) <;> (repeat' with_reducible apply And.intro) <;> first | assumption | rfl | omega | (unfold maxLen; omega)) ?_
      refine AO.allF tab_ok (by decide) [(6, .bool false)] [] (by (simp only [go_sem, hb2, hb7]) <;> (repeat' with_reducible apply And.intro) <;> first | assumption | rfl | omega | (unfold maxLen; omega)) ?_
      refine athen_n ?_
      refine AW.ret ?_
      obtain rfl := Option.some.inj h
      exact ⟨rfl, [], [], [], rfl, (by (simp only [go_sem, hb2, hb7]) <;> (repeat' with_reducible apply And.intro) <;> first | assumption | rfl | omega | (unfold maxLen; omega))⟩

end Go.Proofs.Ytdkdkpenmgkdcaa
