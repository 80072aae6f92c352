/-
  Made by wip/tool/dc.py out of the print of the program: contracts.
-/
import Derived.Test.YtdkdkpenmgkdcaaHp
import Derived.Test.YtdkdkpenmgkdcaaTbh
import Derived.Test.YtdkdkpenmgkdcaaKbc2
import Derived.Test.YtdkdkpenmgkdcaaKbc3
import Derived.Test.YtdkdkpenmgkdcaaKbc4
namespace Go.Proofs.Ytdkdkpenmgkdcaa
open Go.RowKit

set_option linter.unusedSimpArgs false
set_option linter.unusedVariables false
set_option linter.constructorNameAsVariable false

set_option maxRecDepth 100000 in
set_option maxHeartbeats 2000000 in
theorem hc_lineallaw02_Sane {r : Bool} (h : lineallaw02_Sane = some r) : HC Try.prog 19 [] [] [] (.bool r) := by
  unfold lineallaw02_Sane at h
  refine HC.of_body tab_ok (res := [.tmp 0]) Try.func19 rfl (by kernel_rfl) rfl (nt := 27) rfl (by decide) (by simp) ?_
  refine AW.seq ?_
  refine AW.ops ?_
  refine AO.allF tab_ok (by decide) [] [] (by (simp only [go_sem]) <;> (repeat' with_reducible apply And.intro) <;> first | assumption | rfl | omega | (unfold maxLen; omega)) ?_
  refine athen_n ?_
  refine AW.seq ?_
  refine AW.ops ?_
  refine AO.allF tab_ok (by decide) [(1, .bp 1 0)] [(1, .box 64 [.int .i64 2, .int .i64 2, .own 6, .own 9]), (6, .arr 33 (.sl (.int .i64)) [[1, 0], [1, 0]]), (9, .arr 33 (.sl (.int .i64)) [[1, 0], [0, 1]])] (by (simp only [go_sem]) <;> (repeat' with_reducible apply And.intro) <;> first | assumption | rfl | omega | (unfold maxLen; omega)) ?_
  refine athen_n ?_
  refine AW.seq ?_
  refine AW.ops ?_
  refine AO.segF tab_ok 5 (by decide) [(13, .own 13), (16, .own 16)] [(13, .arr 64 Y0 [(2, 2, [[1, 0], [1, 0]], [[1, 0], [0, 1]])]), (16, .arr 55 Y1 [(0, 0, 0, 1, 1, 6), (1, 0, 1, 0, 2, 5)])] (by (simp only [go_sem]) <;> (repeat' with_reducible apply And.intro) <;> first | assumption | rfl | omega | (unfold maxLen; omega)) ?_
  obtain ⟨v0, hv1, h⟩ := Option.bind_eq_some_iff.1 h
  refine AO.call tab_ok (by decide) rfl rfl rfl (fun _ h => h) [13, 16] [] (hc_history_Order [(2, 2, [[1, 0], [1, 0]], [[1, 0], [0, 1]])] [(0, 0, 0, 1, 1, 6), (1, 0, 1, 0, 2, 5)] hv1) rfl (by (simp only [go_sem]) <;> (repeat' with_reducible apply And.intro) <;> first | assumption | rfl | omega | (unfold maxLen; omega)) (by (simp only [go_sem]) <;> (repeat' with_reducible apply And.intro) <;> first | assumption | rfl | omega | (unfold maxLen; omega)) [(17, .tup [.own 27000, .int .i64 v0.2])] [(27000, .arr 3 (.int .i64) v0.1)] (by (simp only [go_sem]) <;> (repeat' with_reducible apply And.intro) <;> first | assumption | rfl | omega | (unfold maxLen; omega)) ?_
  refine AO.allF tab_ok (by decide) [(2, .own 27000), (3, .int .i64 v0.2)] [(27000, .arr 3 (.int .i64) v0.1)] (by (simp only [go_sem]) <;> (repeat' with_reducible apply And.intro) <;> first | assumption | rfl | omega | (unfold maxLen; omega)) ?_
  refine athen_n ?_
  refine AW.seq ?_
  refine AW.ops ?_
  refine AO.segF tab_ok 3 (by decide) [(2, .own 27000), (22, .bool (decide (v0.2 = 0)))] [(27000, .arr 3 (.int .i64) v0.1)] (by (simp only [go_sem]) <;> (repeat' with_reducible apply And.intro) <;> first | assumption | rfl | omega | (unfold maxLen; omega)) ?_
  rcases Bool.eq_false_or_eq_true (decide (v0.2 = 0)) with hb2 | hb2
  · rw [if_pos hb2] at h
    refine AO.weaken (s' := ⟨fr [(2, .own 27000), (22, .bool true)], hpGet [(27000, .arr 3 (.int .i64) v0.1)], gt⟩) (Wk.to (by (simp only [go_sem, hb2]) <;> (repeat' with_reducible apply And.intro) <;> first | assumption | rfl | omega | (unfold maxLen; omega))) ?_
    refine AO.segF tab_ok 2 (by decide) [(22, .bool true), (23, .own 27000), (24, .own 24)] [(24, .arr 3 (.int .i64) [1, 0]), (27000, .arr 3 (.int .i64) v0.1)] (by (simp only [go_sem, hb2]) <;> (repeat' with_reducible apply And.intro) <;> first | assumption | rfl | omega | (unfold maxLen; omega)) ?_
    obtain ⟨v0_2, hv3, h⟩ := Option.bind_eq_some_iff.1 h
    refine AO.call tab_ok (by decide) rfl rfl rfl (fun _ h => ⟨fun _ => h, fun hn => absurd rfl hn⟩) [24, 27000] [] (hc_linealref02_SameInts v0.1 [1, 0] hv3) rfl (by (simp only [go_sem, hb2]) <;> (repeat' with_reducible apply And.intro) <;> first | assumption | rfl | omega | (unfold maxLen; omega)) (by (simp only [go_sem, hb2]) <;> (repeat' with_reducible apply And.intro) <;> first | assumption | rfl | omega | (unfold maxLen; omega)) [(22, .bool true), (25, .bool v0_2)] [] (by (simp only [go_sem, hb2]) <;> (repeat' with_reducible apply And.intro) <;> first | assumption | rfl | omega | (unfold maxLen; omega)) ?_
    refine AO.allF tab_ok (by decide) [(0, .bool v0_2)] [] (by (simp only [go_sem, hb2]) <;> (repeat' with_reducible apply And.intro) <;> first | assumption | rfl | omega | (unfold maxLen; omega)) ?_
    refine athen_n ?_
    refine AW.ret ?_
    obtain rfl := Option.some.inj h
    exact ⟨rfl, [], [], [], rfl, (by (simp only [go_sem, hb2]) <;> (repeat' with_reducible apply And.intro) <;> first | assumption | rfl | omega | (unfold maxLen; omega))⟩
  · rw [if_neg (Bool.eq_false_iff.1 hb2)] at h
    refine AO.weaken (s' := ⟨fr [(2, .own 27000), (22, .bool false)], hpGet [(27000, .arr 3 (.int .i64) v0.1)], gt⟩) (Wk.to (by (simp only [go_sem, hb2]) <;> (repeat' with_reducible apply And.intro) <;> first | assumption | rfl | omega | (unfold maxLen; omega))) ?_
    refine AO.allF tab_ok (by decide) [(0, .bool false)] [] (by (simp only [go_sem, hb2]) <;> (repeat' with_reducible apply And.intro) <;> first | assumption | rfl | omega | (unfold maxLen; omega)) ?_
    refine athen_n ?_
    refine AW.ret ?_
    obtain rfl := Option.some.inj h
    exact ⟨rfl, [], [], [], rfl, (by (simp only [go_sem, hb2]) <;> (repeat' with_reducible apply And.intro) <;> first | assumption | rfl | omega | (unfold maxLen; omega))⟩

set_option maxRecDepth 100000 in
set_option maxHeartbeats 2000000 in
theorem hc_lineallaw02_Long (h0 : List (Int × Int × Int × Int × Int × Int)) {r : Unit} (h : lineallaw02_Long h0 = some r) : HC Try.prog 18 [] [.sl Y1 h0] [] (.bool (decide (40 < (h0.length : Int)))) := by
  unfold lineallaw02_Long at h
  refine HC.of_body tab_ok (res := [.tmp 2]) Try.func18 rfl (by kernel_rfl) rfl (nt := 6) rfl (by decide) (by simp) ?_
  refine AW.seq ?_
  refine AW.ops ?_
  refine AO.allF tab_ok (by decide) [(0, .sl Y1 h0)] [] (by (simp only [go_sem]) <;> (repeat' with_reducible apply And.intro) <;> first | assumption | rfl | omega | (unfold maxLen; omega)) ?_
  refine athen_n ?_
  refine AW.seq ?_
  refine AW.ops ?_
  refine AO.allF tab_ok (by decide) [(2, .bool (decide (40 < (h0.length : Int))))] [] (by (simp only [go_sem]) <;> (repeat' with_reducible apply And.intro) <;> first | assumption | rfl | omega | (unfold maxLen; omega)) ?_
  refine athen_n ?_
  refine AW.ret ?_
  obtain rfl := Option.some.inj h
  exact ⟨rfl, [], [], [], rfl, (by (simp only [go_sem]) <;> (repeat' with_reducible apply And.intro) <;> first | assumption | rfl | omega | (unfold maxLen; omega))⟩

set_option maxRecDepth 100000 in
set_option maxHeartbeats 2000000 in
theorem hc_history_isIndex (h0 : List (Int × Int × Int × Int × Int × Int)) (call : Int) {r : Bool} (h : history_isIndex h0 call = some r) : HC Try.prog 64 [] [.sl Y1 h0, .int .i64 call] [] (.bool r) := by
  unfold history_isIndex at h
  refine HC.of_body tab_ok (res := [.tmp 4]) Try.func64 rfl (by kernel_rfl) rfl (nt := 13) rfl (by decide) (by simp) ?_
  refine AW.seq ?_
  refine AW.ops ?_
  refine AO.allF tab_ok (by decide) [(0, .sl Y1 h0), (1, .int .i64 call)] [] (by (simp only [go_sem]) <;> (repeat' with_reducible apply And.intro) <;> first | assumption | rfl | omega | (unfold maxLen; omega)) ?_
  refine athen_n ?_
  refine AW.seq ?_
  refine AW.ops ?_
  refine AO.segF tab_ok 3 (by decide) [(0, .sl Y1 h0), (1, .int .i64 call), (7, .bool (decide (0 ≤ call)))] [] (by (simp only [go_sem]) <;> (repeat' with_reducible apply And.intro) <;> first | assumption | rfl | omega | (unfold maxLen; omega)) ?_
  rcases Bool.eq_false_or_eq_true (decide (0 ≤ call)) with hb1 | hb1
  · rw [if_pos hb1] at h
    refine AO.weaken (s' := ⟨fr [(0, .sl Y1 h0), (1, .int .i64 call), (7, .bool true)], hpGet [], gt⟩) (Wk.to (by (simp only [go_sem, hb1]) <;> (repeat' with_reducible apply And.intro) <;> first | assumption | rfl | omega | (unfold maxLen; omega))) ?_
    refine AO.allF tab_ok (by decide) [(4, .bool (decide (call < (h0.length : Int))))] [] (by (simp only [go_sem, hb1]) <;> (repeat' with_reducible apply And.intro) <;> first | assumption | rfl | omega | (unfold maxLen; omega)) ?_
    refine athen_n ?_
    refine AW.ret ?_
    obtain rfl := Option.some.inj h
    exact ⟨rfl, [], [], [], rfl, (by (simp only [go_sem, hb1]) <;> (repeat' with_reducible apply And.intro) <;> first | assumption | rfl | omega | (unfold maxLen; omega))⟩
  · rw [if_neg (Bool.eq_false_iff.1 hb1)] at h
    refine AO.weaken (s' := ⟨fr [(0, .sl Y1 h0), (1, .int .i64 call), (7, .bool false)], hpGet [], gt⟩) (Wk.to (by (simp only [go_sem, hb1]) <;> (repeat' with_reducible apply And.intro) <;> first | assumption | rfl | omega | (unfold maxLen; omega))) ?_
    refine AO.segF tab_ok 4 (by decide) [(7, .bool false), (11, .cv (undef))] [] (by (simp only [go_sem, hb1]) <;> (repeat' with_reducible apply And.intro) <;> first | assumption | rfl | omega | (unfold maxLen; omega)) ?_
    refine AO.allF tab_ok (by decide) [(4, .bool false)] [] (by (simp only [go_sem, hb1]) <;> (repeat' with_reducible apply And.intro) <;> first | assumption | rfl | omega | (unfold maxLen; omega)) ?_
    refine athen_n ?_
    refine AW.ret ?_
    obtain rfl := Option.some.inj h
    exact ⟨rfl, [], [], [], rfl, (by (simp only [go_sem, hb1]) <;> (repeat' with_reducible apply And.intro) <;> first | assumption | rfl | omega | (unfold maxLen; omega))⟩

set_option maxRecDepth 100000 in
set_option maxHeartbeats 2000000 in
theorem hc_history_isOrder (h0 : List (Int × Int × Int × Int × Int × Int)) (order : List Int) {r : Bool} (h : history_isOrder h0 order = some r) : HC Try.prog 75 [] [.sl Y1 h0, .sl (.int .i64) order] [] (.bool r) := by
  unfold history_isOrder at h
  refine HC.of_body tab_ok (res := [.tmp 4]) Try.func75 rfl (by kernel_rfl) rfl (nt := 51) rfl (by decide) (by simp) ?_
  refine AW.seq ?_
  refine AW.ops ?_
  refine AO.allF tab_ok (by decide) [(0, .sl Y1 h0), (1, .sl (.int .i64) order)] [] (by (simp only [go_sem]) <;> (repeat' with_reducible apply And.intro) <;> first | assumption | rfl | omega | (unfold maxLen; omega)) ?_
  refine athen_n ?_
  refine AW.seq ?_
  refine AW.ops ?_
  obtain ⟨c1, h⟩ := ck_some.1 h
  refine AO.allF tab_ok (by decide) [(0, .sl Y1 h0), (1, .sl (.int .i64) order), (5, .own 12)] [(12, .arr 4 .bool (List.replicate h0.length (false : Bool)))] (by (simp only [go_sem]) <;> (repeat' with_reducible apply And.intro) <;> first | assumption | rfl | omega | (unfold maxLen; omega)) ?_
  refine athen_n ?_
  refine AW.have1 (fun b1 : (List Bool) => history_isOrder_k1 h0 b1 = some r) (fun b1 => ⟨fr [(0, .sl Y1 h0), (5, .own 12)], hpGet [(12, .arr 4 .bool b1)], gt⟩) (fun b1 h => ?_) (fun hk_history_isOrder_k1 => ?_)
  · unfold history_isOrder_k1 at h
    refine AW.have1 (fun _ : Unit => history_isOrder_k2 = some r) (fun _ => ⟨fr [], hpGet [], gt⟩) (fun _ h => ?_) (fun hk_history_isOrder_k2 => ?_)
    · unfold history_isOrder_k2 at h
      refine AW.seq ?_
      refine AW.ops ?_
      refine AO.allF tab_ok (by decide) [(4, .bool true)] [] (by (simp only [go_sem]) <;> (repeat' with_reducible apply And.intro) <;> first | assumption | rfl | omega | (unfold maxLen; omega)) ?_
      refine athen_n ?_
      refine AW.ret ?_
      obtain rfl := Option.some.inj h
      exact ⟨rfl, [], [], [], rfl, (by (simp only [go_sem]) <;> (repeat' with_reducible apply And.intro) <;> first | assumption | rfl | omega | (unfold maxLen; omega))⟩
    · refine AW.seq ?_
      refine AW.seq ?_
      refine AW.ops ?_
      refine AO.allF tab_ok (by decide) [(5, .own 12), (33, .sl Y1 h0), (34, .int .i64 (h0.length : Int)), (35, .int .i64 0)] [(12, .arr 4 .bool b1)] (by (simp only [go_sem]) <;> (repeat' with_reducible apply And.intro) <;> first | assumption | rfl | omega | (unfold maxLen; omega)) ?_
      refine athen_n ?_
      refine AW.block ?_
      obtain ⟨rv6, hw2, ho3⟩ := Option.bind_eq_some_iff.1 h
      refine AW.loopO (history_isOrder_b2 h0 b1) (fun st2 => ⟨fr [(5, .own 12), (33, .sl Y1 h0), (34, .int .i64 (h0.length : Int)), (35, .int .i64 st2)], hpGet [(12, .arr 4 .bool b1)], gt⟩) 0 hw2 (Wk.le [] [] [] rfl (by (simp only [go_sem]) <;> (repeat' with_reducible apply And.intro) <;> first | assumption | rfl | omega | (unfold maxLen; omega)) (by (simp only [go_sem]) <;> (repeat' with_reducible apply And.intro) <;> first | assumption | rfl | omega | (unfold maxLen; omega))) ?_
      intro st2 x5 h hd4
      unfold history_isOrder_b2 at h
      refine AW.seq ?_
      refine AW.ops ?_
      refine AO.allF tab_ok (by decide) [(5, .own 12), (33, .sl Y1 h0), (34, .int .i64 (h0.length : Int)), (35, .int .i64 st2), (36, .bool (decide (st2 < (h0.length : Int))))] [(12, .arr 4 .bool b1)] (by (simp only [go_sem]) <;> (repeat' with_reducible apply And.intro) <;> first | assumption | rfl | omega | (unfold maxLen; omega)) ?_
      refine athen_n ?_
      refine AW.seq ?_
      refine AW.cond (b := (decide (st2 < (h0.length : Int)))) rfl (fun hb7 => ?_) (fun hb7 => ?_)
      · rw [if_pos hb7] at h
        refine AW.skip ?_
        refine athen_n ?_
        refine AW.seq ?_
        refine AW.block ?_
        refine AW.seq ?_
        refine AW.ops ?_
        obtain ⟨c8, h⟩ := ck_some.1 h
        obtain ⟨c9, h⟩ := ck_some.1 h
        refine AO.allF tab_ok (by decide) [(5, .own 12), (8, .int .i64 st2), (9, .bp 9 0), (33, .sl Y1 h0), (34, .int .i64 (h0.length : Int)), (35, .int .i64 st2)] [(9, .box 55 [.int .i64 (h0.getD st2.toNat (0, 0, 0, 0, 0, 0)).1, .int .i64 (h0.getD st2.toNat (0, 0, 0, 0, 0, 0)).2.1, .int .i64 (h0.getD st2.toNat (0, 0, 0, 0, 0, 0)).2.2.1, .int .i64 (h0.getD st2.toNat (0, 0, 0, 0, 0, 0)).2.2.2.1, .int .i64 (h0.getD st2.toNat (0, 0, 0, 0, 0, 0)).2.2.2.2.1, .int .i64 (h0.getD st2.toNat (0, 0, 0, 0, 0, 0)).2.2.2.2.2]), (12, .arr 4 .bool b1)] (by (simp only [go_sem, hb7]) <;> (repeat' with_reducible apply And.intro) <;> first | assumption | rfl | omega | (unfold maxLen; omega)) ?_
        refine athen_n ?_
        refine AW.seq ?_
        refine AW.ops ?_
        refine AO.segF tab_ok 4 (by decide) [(5, .own 12), (8, .int .i64 st2), (33, .sl Y1 h0), (34, .int .i64 (h0.length : Int)), (35, .int .i64 st2), (43, .bool (!(decide ((h0.getD st2.toNat (0, 0, 0, 0, 0, 0)).2.2.2.2.2 = 0))))] [(12, .arr 4 .bool b1)] (by (simp only [go_sem, hb7]) <;> (repeat' with_reducible apply And.intro) <;> first | assumption | rfl | omega | (unfold maxLen; omega)) ?_
        rcases Bool.eq_false_or_eq_true (!(decide ((h0.getD st2.toNat (0, 0, 0, 0, 0, 0)).2.2.2.2.2 = 0))) with hb10 | hb10
        · rw [if_pos hb10] at h
          refine AO.weaken (s' := ⟨fr [(5, .own 12), (8, .int .i64 st2), (33, .sl Y1 h0), (34, .int .i64 (h0.length : Int)), (35, .int .i64 st2), (43, .bool true)], hpGet [(12, .arr 4 .bool b1)], gt⟩) (Wk.to (by (simp only [go_sem, hb7, hb10]) <;> (repeat' with_reducible apply And.intro) <;> first | assumption | rfl | omega | (unfold maxLen; omega))) ?_
          obtain ⟨c11, h⟩ := ck_some.1 h
          obtain ⟨c12, h⟩ := ck_some.1 h
          refine AO.allF tab_ok (by decide) [(5, .own 12), (33, .sl Y1 h0), (34, .int .i64 (h0.length : Int)), (35, .int .i64 st2), (49, .bool (!(b1.getD st2.toNat false)))] [(12, .arr 4 .bool b1)] (by (simp only [go_sem, hb7, hb10]) <;> (repeat' with_reducible apply And.intro) <;> first | assumption | rfl | omega | (unfold maxLen; omega)) ?_
          refine athen_n ?_
          refine AW.cond (b := (!(b1.getD st2.toNat false))) rfl (fun hb13 => ?_) (fun hb13 => ?_)
          · rw [if_pos hb13] at h
            refine AW.seq ?_
            refine AW.ops ?_
            refine AO.allF tab_ok (by decide) [(4, .bool false)] [] (by (simp only [go_sem, hb7, hb10, hb13]) <;> (repeat' with_reducible apply And.intro) <;> first | assumption | rfl | omega | (unfold maxLen; omega)) ?_
            refine athen_n ?_
            refine AW.ret ?_
            refine ablock_r ?_
            refine athen_r ?_
            obtain rfl := Option.some.inj h
            rw [← hd4 _ rfl] at ho3
            have h := ho3
            try simp only at h
            refine athen_r ?_
            refine ablock_r ?_
            refine athen_r ?_
            obtain rfl := Option.some.inj h
            exact ⟨rfl, [], [], [], rfl, (by (simp only [go_sem, hb7, hb10, hb13]) <;> (repeat' with_reducible apply And.intro) <;> first | assumption | rfl | omega | (unfold maxLen; omega))⟩
          · rw [if_neg (Bool.eq_false_iff.1 hb13)] at h
            refine AW.skip ?_
            refine ablock_n ?_
            refine athen_n ?_
            refine AW.ops ?_
            obtain ⟨c14, h⟩ := ck_some.1 h
            refine AO.allF tab_ok (by decide) [(5, .own 12), (33, .sl Y1 h0), (34, .int .i64 (h0.length : Int)), (35, .int .i64 (st2 + 1))] [(12, .arr 4 .bool b1)] (by (simp only [go_sem, hb7, hb10, hb13]) <;> (repeat' with_reducible apply And.intro) <;> first | assumption | rfl | omega | (unfold maxLen; omega)) ?_
            obtain rfl := Option.some.inj h
            exact ⟨_, rfl, Wk.le [] [] [] rfl (by (simp only [go_sem, hb7, hb10, hb13]) <;> (repeat' with_reducible apply And.intro) <;> first | assumption | rfl | omega | (unfold maxLen; omega)) (by (simp only [go_sem, hb7, hb10, hb13]) <;> (repeat' with_reducible apply And.intro) <;> first | assumption | rfl | omega | (unfold maxLen; omega))⟩
        · rw [if_neg (Bool.eq_false_iff.1 hb10)] at h
          refine AO.weaken (s' := ⟨fr [(5, .own 12), (8, .int .i64 st2), (33, .sl Y1 h0), (34, .int .i64 (h0.length : Int)), (35, .int .i64 st2), (43, .bool false)], hpGet [(12, .arr 4 .bool b1)], gt⟩) (Wk.to (by (simp only [go_sem, hb7, hb10]) <;> (repeat' with_reducible apply And.intro) <;> first | assumption | rfl | omega | (unfold maxLen; omega))) ?_
          refine AO.segF tab_ok 4 (by decide) [(5, .own 12), (33, .sl Y1 h0), (34, .int .i64 (h0.length : Int)), (35, .int .i64 st2), (43, .bool false), (47, .cv (undef))] [(12, .arr 4 .bool b1)] (by (simp only [go_sem, hb7, hb10]) <;> (repeat' with_reducible apply And.intro) <;> first | assumption | rfl | omega | (unfold maxLen; omega)) ?_
          refine AO.allF tab_ok (by decide) [(5, .own 12), (33, .sl Y1 h0), (34, .int .i64 (h0.length : Int)), (35, .int .i64 st2), (49, .bool false)] [(12, .arr 4 .bool b1)] (by (simp only [go_sem, hb7, hb10]) <;> (repeat' with_reducible apply And.intro) <;> first | assumption | rfl | omega | (unfold maxLen; omega)) ?_
          refine athen_n ?_
          refine AW.cond (b := false) rfl (fun hb15 => by cases hb15) (fun _ => ?_)
          refine AW.skip ?_
          refine ablock_n ?_
          refine athen_n ?_
          refine AW.ops ?_
          obtain ⟨c16, h⟩ := ck_some.1 h
          refine AO.allF tab_ok (by decide) [(5, .own 12), (33, .sl Y1 h0), (34, .int .i64 (h0.length : Int)), (35, .int .i64 (st2 + 1))] [(12, .arr 4 .bool b1)] (by (simp only [go_sem, hb7, hb10]) <;> (repeat' with_reducible apply And.intro) <;> first | assumption | rfl | omega | (unfold maxLen; omega)) ?_
          obtain rfl := Option.some.inj h
          exact ⟨_, rfl, Wk.le [] [] [] rfl (by (simp only [go_sem, hb7, hb10]) <;> (repeat' with_reducible apply And.intro) <;> first | assumption | rfl | omega | (unfold maxLen; omega)) (by (simp only [go_sem, hb7, hb10]) <;> (repeat' with_reducible apply And.intro) <;> first | assumption | rfl | omega | (unfold maxLen; omega))⟩
      · rw [if_neg (Bool.eq_false_iff.1 hb7)] at h
        refine AW.exit ?_
        refine athen_e ?_
        obtain rfl := Option.some.inj h
        rw [← hd4 _ rfl] at ho3
        have h := ho3
        try simp only at h
        refine athen_e ?_
        refine ablock_s ?_
        refine athen_n ?_
        exact AW.weaken (Wk.le [] [] [] rfl (by (simp only [go_sem, hb7]) <;> (repeat' with_reducible apply And.intro) <;> first | assumption | rfl | omega | (unfold maxLen; omega)) (by (simp only [go_sem, hb7]) <;> (repeat' with_reducible apply And.intro) <;> first | assumption | rfl | omega | (unfold maxLen; omega))) (hk_history_isOrder_k2 () h)
  · refine AW.seq ?_
    refine AW.seq ?_
    refine AW.ops ?_
    refine AO.allF tab_ok (by decide) [(0, .sl Y1 h0), (5, .own 12), (13, .sl (.int .i64) order), (14, .int .i64 (order.length : Int)), (15, .int .i64 0)] [(12, .arr 4 .bool (List.replicate h0.length (false : Bool)))] (by (simp only [go_sem]) <;> (repeat' with_reducible apply And.intro) <;> first | assumption | rfl | omega | (unfold maxLen; omega)) ?_
    refine athen_n ?_
    refine AW.block ?_
    obtain ⟨rv21, hw17, ho18⟩ := Option.bind_eq_some_iff.1 h
    refine AW.loopO (history_isOrder_b1 h0 order) (fun st1 => ⟨fr [(0, .sl Y1 h0), (5, .own 12), (13, .sl (.int .i64) order), (14, .int .i64 (order.length : Int)), (15, .int .i64 st1.2)], hpGet [(12, .arr 4 .bool st1.1)], gt⟩) ((List.replicate h0.length (false : Bool)), 0) hw17 (Wk.le [] [] [] rfl (by (simp only [go_sem]) <;> (repeat' with_reducible apply And.intro) <;> first | assumption | rfl | omega | (unfold maxLen; omega)) (by (simp only [go_sem]) <;> (repeat' with_reducible apply And.intro) <;> first | assumption | rfl | omega | (unfold maxLen; omega))) ?_
    intro st1 x20 h hd19
    unfold history_isOrder_b1 at h
    refine AW.seq ?_
    refine AW.ops ?_
    refine AO.allF tab_ok (by decide) [(0, .sl Y1 h0), (5, .own 12), (13, .sl (.int .i64) order), (14, .int .i64 (order.length : Int)), (15, .int .i64 st1.2), (16, .bool (decide (st1.2 < (order.length : Int))))] [(12, .arr 4 .bool st1.1)] (by (simp only [go_sem]) <;> (repeat' with_reducible apply And.intro) <;> first | assumption | rfl | omega | (unfold maxLen; omega)) ?_
    refine athen_n ?_
    refine AW.seq ?_
    refine AW.cond (b := (decide (st1.2 < (order.length : Int)))) rfl (fun hb22 => ?_) (fun hb22 => ?_)
    · rw [if_pos hb22] at h
      refine AW.skip ?_
      refine athen_n ?_
      refine AW.seq ?_
      refine AW.block ?_
      refine AW.seq ?_
      refine AW.ops ?_
      obtain ⟨c23, h⟩ := ck_some.1 h
      obtain ⟨c24, h⟩ := ck_some.1 h
      refine AO.allF tab_ok (by decide) [(0, .sl Y1 h0), (5, .own 12), (7, .int .i64 (order.getD st1.2.toNat 0)), (13, .sl (.int .i64) order), (14, .int .i64 (order.length : Int)), (15, .int .i64 st1.2)] [(12, .arr 4 .bool st1.1)] (by (simp only [go_sem, hb22]) <;> (repeat' with_reducible apply And.intro) <;> first | assumption | rfl | omega | (unfold maxLen; omega)) ?_
      refine athen_n ?_
      refine AW.seq ?_
      refine AW.seq ?_
      refine AW.ops ?_
      refine AO.segF tab_ok 2 (by decide) [(0, .sl Y1 h0), (5, .own 12), (7, .int .i64 (order.getD st1.2.toNat 0)), (13, .sl (.int .i64) order), (14, .int .i64 (order.length : Int)), (15, .int .i64 st1.2), (19, .sl Y1 h0), (20, .int .i64 (order.getD st1.2.toNat 0))] [(12, .arr 4 .bool st1.1)] (by (simp only [go_sem, hb22]) <;> (repeat' with_reducible apply And.intro) <;> first | assumption | rfl | omega | (unfold maxLen; omega)) ?_
      obtain ⟨v0, hv25, h⟩ := Option.bind_eq_some_iff.1 h
      refine AO.call tab_ok (by decide) rfl rfl rfl (fun _ h => h) [] [] (hc_history_isIndex h0 (order.getD st1.2.toNat 0) hv25) rfl (by (simp only [go_sem, hb22]) <;> (repeat' with_reducible apply And.intro) <;> first | assumption | rfl | omega | (unfold maxLen; omega)) (by (simp only [go_sem, hb22]) <;> (repeat' with_reducible apply And.intro) <;> first | assumption | rfl | omega | (unfold maxLen; omega)) [(0, .sl Y1 h0), (5, .own 12), (7, .int .i64 (order.getD st1.2.toNat 0)), (13, .sl (.int .i64) order), (14, .int .i64 (order.length : Int)), (15, .int .i64 st1.2), (21, .bool v0)] [(12, .arr 4 .bool st1.1)] (by (simp only [go_sem, hb22]) <;> (repeat' with_reducible apply And.intro) <;> first | assumption | rfl | omega | (unfold maxLen; omega)) ?_
      refine AO.segF tab_ok 2 (by decide) [(0, .sl Y1 h0), (5, .own 12), (7, .int .i64 (order.getD st1.2.toNat 0)), (13, .sl (.int .i64) order), (14, .int .i64 (order.length : Int)), (15, .int .i64 st1.2), (23, .bool (!v0))] [(12, .arr 4 .bool st1.1)] (by (simp only [go_sem, hb22]) <;> (repeat' with_reducible apply And.intro) <;> first | assumption | rfl | omega | (unfold maxLen; omega)) ?_
      rcases Bool.eq_false_or_eq_true (!v0) with hb26 | hb26
      · rw [if_pos hb26] at h
        refine AO.weaken (s' := ⟨fr [(0, .sl Y1 h0), (5, .own 12), (7, .int .i64 (order.getD st1.2.toNat 0)), (13, .sl (.int .i64) order), (14, .int .i64 (order.length : Int)), (15, .int .i64 st1.2), (23, .bool true)], hpGet [(12, .arr 4 .bool st1.1)], gt⟩) (Wk.to (by (simp only [go_sem, hb22, hb26]) <;> (repeat' with_reducible apply And.intro) <;> first | assumption | rfl | omega | (unfold maxLen; omega))) ?_
        refine AO.segF tab_ok 4 (by decide) [(0, .sl Y1 h0), (5, .own 12), (7, .int .i64 (order.getD st1.2.toNat 0)), (13, .sl (.int .i64) order), (14, .int .i64 (order.length : Int)), (15, .int .i64 st1.2), (23, .bool true), (27, .cv (undef))] [(12, .arr 4 .bool st1.1)] (by (simp only [go_sem, hb22, hb26]) <;> (repeat' with_reducible apply And.intro) <;> first | assumption | rfl | omega | (unfold maxLen; omega)) ?_
        refine AO.allF tab_ok (by decide) [(0, .sl Y1 h0), (5, .own 12), (7, .int .i64 (order.getD st1.2.toNat 0)), (13, .sl (.int .i64) order), (14, .int .i64 (order.length : Int)), (15, .int .i64 st1.2), (28, .bool true)] [(12, .arr 4 .bool st1.1)] (by (simp only [go_sem, hb22, hb26]) <;> (repeat' with_reducible apply And.intro) <;> first | assumption | rfl | omega | (unfold maxLen; omega)) ?_
        refine athen_n ?_
        refine AW.cond (b := true) rfl (fun _ => ?_) (fun hb27 => by cases hb27)
        refine AW.seq ?_
        refine AW.ops ?_
        refine AO.allF tab_ok (by decide) [(4, .bool false)] [] (by (simp only [go_sem, hb22, hb26]) <;> (repeat' with_reducible apply And.intro) <;> first | assumption | rfl | omega | (unfold maxLen; omega)) ?_
        refine athen_n ?_
        refine AW.ret ?_
        refine athen_r ?_
        refine ablock_r ?_
        refine athen_r ?_
        obtain rfl := Option.some.inj h
        rw [← hd19 _ rfl] at ho18
        have h := ho18
        try simp only at h
        refine athen_r ?_
        refine ablock_r ?_
        refine athen_r ?_
        obtain rfl := Option.some.inj h
        exact ⟨rfl, [], [], [], rfl, (by (simp only [go_sem, hb22, hb26]) <;> (repeat' with_reducible apply And.intro) <;> first | assumption | rfl | omega | (unfold maxLen; omega))⟩
      · rw [if_neg (Bool.eq_false_iff.1 hb26)] at h
        refine AO.weaken (s' := ⟨fr [(0, .sl Y1 h0), (5, .own 12), (7, .int .i64 (order.getD st1.2.toNat 0)), (13, .sl (.int .i64) order), (14, .int .i64 (order.length : Int)), (15, .int .i64 st1.2), (23, .bool false)], hpGet [(12, .arr 4 .bool st1.1)], gt⟩) (Wk.to (by (simp only [go_sem, hb22, hb26]) <;> (repeat' with_reducible apply And.intro) <;> first | assumption | rfl | omega | (unfold maxLen; omega))) ?_
        obtain ⟨c28, h⟩ := ck_some.1 h
        obtain ⟨c29, h⟩ := ck_some.1 h
        refine AO.allF tab_ok (by decide) [(0, .sl Y1 h0), (5, .own 12), (7, .int .i64 (order.getD st1.2.toNat 0)), (13, .sl (.int .i64) order), (14, .int .i64 (order.length : Int)), (15, .int .i64 st1.2), (28, .bool (st1.1.getD (order.getD st1.2.toNat 0).toNat false))] [(12, .arr 4 .bool st1.1)] (by (simp only [go_sem, hb22, hb26]) <;> (repeat' with_reducible apply And.intro) <;> first | assumption | rfl | omega | (unfold maxLen; omega)) ?_
        refine athen_n ?_
        refine AW.cond (b := (st1.1.getD (order.getD st1.2.toNat 0).toNat false)) rfl (fun hb30 => ?_) (fun hb30 => ?_)
        · rw [if_pos hb30] at h
          refine AW.seq ?_
          refine AW.ops ?_
          refine AO.allF tab_ok (by decide) [(4, .bool false)] [] (by (simp only [go_sem, hb22, hb26, hb30]) <;> (repeat' with_reducible apply And.intro) <;> first | assumption | rfl | omega | (unfold maxLen; omega)) ?_
          refine athen_n ?_
          refine AW.ret ?_
          refine athen_r ?_
          refine ablock_r ?_
          refine athen_r ?_
          obtain rfl := Option.some.inj h
          rw [← hd19 _ rfl] at ho18
          have h := ho18
          try simp only at h
          refine athen_r ?_
          refine ablock_r ?_
          refine athen_r ?_
          obtain rfl := Option.some.inj h
          exact ⟨rfl, [], [], [], rfl, (by (simp only [go_sem, hb22, hb26, hb30]) <;> (repeat' with_reducible apply And.intro) <;> first | assumption | rfl | omega | (unfold maxLen; omega))⟩
        · rw [if_neg (Bool.eq_false_iff.1 hb30)] at h
          refine AW.skip ?_
          refine athen_n ?_
          refine AW.ops ?_
          obtain ⟨c31, h⟩ := ck_some.1 h
          obtain ⟨c32, h⟩ := ck_some.1 h
          refine AO.allF tab_ok (by decide) [(0, .sl Y1 h0), (5, .own 12), (13, .sl (.int .i64) order), (14, .int .i64 (order.length : Int)), (15, .int .i64 st1.2)] [(12, .arr 4 .bool (st1.1.set (order.getD st1.2.toNat 0).toNat true))] (by (simp only [go_sem, hb22, hb26, hb30]) <;> (repeat' with_reducible apply And.intro) <;> first | assumption | rfl | omega | (unfold maxLen; omega)) ?_
          refine ablock_n ?_
          refine athen_n ?_
          refine AW.ops ?_
          obtain ⟨c33, h⟩ := ck_some.1 h
          refine AO.allF tab_ok (by decide) [(0, .sl Y1 h0), (5, .own 12), (13, .sl (.int .i64) order), (14, .int .i64 (order.length : Int)), (15, .int .i64 (st1.2 + 1))] [(12, .arr 4 .bool (st1.1.set (order.getD st1.2.toNat 0).toNat true))] (by (simp only [go_sem, hb22, hb26, hb30]) <;> (repeat' with_reducible apply And.intro) <;> first | assumption | rfl | omega | (unfold maxLen; omega)) ?_
          obtain rfl := Option.some.inj h
          exact ⟨_, rfl, Wk.le [] [] [] rfl (by (simp only [go_sem, hb22, hb26, hb30]) <;> (repeat' with_reducible apply And.intro) <;> first | assumption | rfl | omega | (unfold maxLen; omega)) (by (simp only [go_sem, hb22, hb26, hb30]) <;> (repeat' with_reducible apply And.intro) <;> first | assumption | rfl | omega | (unfold maxLen; omega))⟩
    · rw [if_neg (Bool.eq_false_iff.1 hb22)] at h
      refine AW.exit ?_
      refine athen_e ?_
      obtain rfl := Option.some.inj h
      rw [← hd19 _ rfl] at ho18
      have h := ho18
      try simp only at h
      refine athen_e ?_
      refine ablock_s ?_
      refine athen_n ?_
      exact AW.weaken (Wk.le [] [] [] rfl (by (simp only [go_sem, hb22]) <;> (repeat' with_reducible apply And.intro) <;> first | assumption | rfl | omega | (unfold maxLen; omega)) (by (simp only [go_sem, hb22]) <;> (repeat' with_reducible apply And.intro) <;> first | assumption | rfl | omega | (unfold maxLen; omega))) (hk_history_isOrder_k1 _ h)

set_option maxRecDepth 100000 in
set_option maxHeartbeats 2000000 in
theorem hc_history_check (h0 : List (Int × Int × Int × Int × Int × Int)) (arguments : Bool) {r : Int} (h : history_check h0 arguments = some r) : HC Try.prog 65 [] [.sl Y1 h0, .bool arguments] [] (.int .i64 r) := by
  unfold history_check at h
  refine HC.of_body tab_ok (res := [.tmp 4]) Try.func65 rfl (by kernel_rfl) rfl (nt := 10) rfl (by decide) (by simp) ?_
  refine AW.seq ?_
  refine AW.ops ?_
  refine AO.allF tab_ok (by decide) [(0, .sl Y1 h0), (1, .bool arguments)] [] (by (simp only [go_sem]) <;> (repeat' with_reducible apply And.intro) <;> first | assumption | rfl | omega | (unfold maxLen; omega)) ?_
  refine athen_n ?_
  refine AW.seq ?_
  refine AW.seq ?_
  refine AW.ops ?_
  refine AO.segF tab_ok 1 (by decide) [(1, .bool arguments), (5, .sl Y1 h0)] [] (by (simp only [go_sem]) <;> (repeat' with_reducible apply And.intro) <;> first | assumption | rfl | omega | (unfold maxLen; omega)) ?_
  obtain ⟨v0, hv1, h⟩ := Option.bind_eq_some_iff.1 h
  refine AO.call tab_ok (by decide) rfl rfl rfl (fun _ h => h) [] [] (hc_history_Valid h0 hv1) rfl (by (simp only [go_sem]) <;> (repeat' with_reducible apply And.intro) <;> first | assumption | rfl | omega | (unfold maxLen; omega)) (by (simp only [go_sem]) <;> (repeat' with_reducible apply And.intro) <;> first | assumption | rfl | omega | (unfold maxLen; omega)) [(1, .bool arguments), (6, .bool v0)] [] (by (simp only [go_sem]) <;> (repeat' with_reducible apply And.intro) <;> first | assumption | rfl | omega | (unfold maxLen; omega)) ?_
  refine AO.allF tab_ok (by decide) [(1, .bool arguments), (7, .bool (!v0))] [] (by (simp only [go_sem]) <;> (repeat' with_reducible apply And.intro) <;> first | assumption | rfl | omega | (unfold maxLen; omega)) ?_
  refine athen_n ?_
  refine AW.cond (b := (!v0)) rfl (fun hb2 => ?_) (fun hb2 => ?_)
  · rw [if_pos hb2] at h
    refine AW.seq ?_
    refine AW.ops ?_
    refine AO.allF tab_ok (by decide) [(4, .int .i64 20)] [] (by (simp only [go_sem, hb2]) <;> (repeat' with_reducible apply And.intro) <;> first | assumption | rfl | omega | (unfold maxLen; omega)) ?_
    refine athen_n ?_
    refine AW.ret ?_
    refine athen_r ?_
    obtain rfl := Option.some.inj h
    exact ⟨rfl, [], [], [], rfl, (by (simp only [go_sem, hb2]) <;> (repeat' with_reducible apply And.intro) <;> first | assumption | rfl | omega | (unfold maxLen; omega))⟩
  · rw [if_neg (Bool.eq_false_iff.1 hb2)] at h
    refine AW.skip ?_
    refine athen_n ?_
    refine AW.seq ?_
    refine AW.seq ?_
    refine AW.ops ?_
    refine AO.allF tab_ok (by decide) [(9, .bool (!arguments))] [] (by (simp only [go_sem, hb2]) <;> (repeat' with_reducible apply And.intro) <;> first | assumption | rfl | omega | (unfold maxLen; omega)) ?_
    refine athen_n ?_
    refine AW.cond (b := (!arguments)) rfl (fun hb3 => ?_) (fun hb3 => ?_)
    · rw [if_pos hb3] at h
      refine AW.seq ?_
      refine AW.ops ?_
      refine AO.allF tab_ok (by decide) [(4, .int .i64 2)] [] (by (simp only [go_sem, hb2, hb3]) <;> (repeat' with_reducible apply And.intro) <;> first | assumption | rfl | omega | (unfold maxLen; omega)) ?_
      refine athen_n ?_
      refine AW.ret ?_
      refine athen_r ?_
      obtain rfl := Option.some.inj h
      exact ⟨rfl, [], [], [], rfl, (by (simp only [go_sem, hb2, hb3]) <;> (repeat' with_reducible apply And.intro) <;> first | assumption | rfl | omega | (unfold maxLen; omega))⟩
    · rw [if_neg (Bool.eq_false_iff.1 hb3)] at h
      refine AW.skip ?_
      refine athen_n ?_
      refine AW.seq ?_
      refine AW.ops ?_
      refine AO.allF tab_ok (by decide) [(4, .int .i64 0)] [] (by (simp only [go_sem, hb2, hb3]) <;> (repeat' with_reducible apply And.intro) <;> first | assumption | rfl | omega | (unfold maxLen; omega)) ?_
      refine athen_n ?_
      refine AW.ret ?_
      obtain rfl := Option.some.inj h
      exact ⟨rfl, [], [], [], rfl, (by (simp only [go_sem, hb2, hb3]) <;> (repeat' with_reducible apply And.intro) <;> first | assumption | rfl | omega | (unfold maxLen; omega))⟩

set_option maxRecDepth 100000 in
set_option maxHeartbeats 2000000 in
theorem hc_history_keeps (h0 : List (Int × Int × Int × Int × Int × Int)) (order : List Int) {r : Bool} (h : history_keeps h0 order = some r) : HC Try.prog 76 [] [.sl Y1 h0, .sl (.int .i64) order, .fn (.func 77) [] []] [] (.bool r) := by
  unfold history_keeps at h
  refine HC.of_body tab_ok (res := [.tmp 6]) Try.func76 rfl (by kernel_rfl) rfl (nt := 38) rfl (by decide) (by simp) ?_
  refine AW.seq ?_
  refine AW.ops ?_
  refine AO.allF tab_ok (by decide) [(0, .sl Y1 h0), (1, .sl (.int .i64) order), (2, .fn (.func 77) [] [])] [] (by (simp only [go_sem]) <;> (repeat' with_reducible apply And.intro) <;> first | assumption | rfl | omega | (unfold maxLen; omega)) ?_
  refine athen_n ?_
  refine AW.have1 (fun _ : Unit => history_keeps_k1 = some r) (fun _ => ⟨fr [], hpGet [], gt⟩) (fun _ h => ?_) (fun hk_history_keeps_k1 => ?_)
  · unfold history_keeps_k1 at h
    refine AW.seq ?_
    refine AW.ops ?_
    refine AO.allF tab_ok (by decide) [(6, .bool true)] [] (by (simp only [go_sem]) <;> (repeat' with_reducible apply And.intro) <;> first | assumption | rfl | omega | (unfold maxLen; omega)) ?_
    refine athen_n ?_
    refine AW.ret ?_
    obtain rfl := Option.some.inj h
    exact ⟨rfl, [], [], [], rfl, (by (simp only [go_sem]) <;> (repeat' with_reducible apply And.intro) <;> first | assumption | rfl | omega | (unfold maxLen; omega))⟩
  · refine AW.seq ?_
    refine AW.seq ?_
    refine AW.ops ?_
    refine AO.allF tab_ok (by decide) [(0, .sl Y1 h0), (1, .sl (.int .i64) order), (2, .fn (.func 77) [] []), (11, .sl (.int .i64) order), (12, .int .i64 (order.length : Int)), (13, .int .i64 0)] [] (by (simp only [go_sem]) <;> (repeat' with_reducible apply And.intro) <;> first | assumption | rfl | omega | (unfold maxLen; omega)) ?_
    refine athen_n ?_
    refine AW.block ?_
    obtain ⟨rv5, hw1, ho2⟩ := Option.bind_eq_some_iff.1 h
    refine AW.loopO (history_keeps_b1 h0 order) (fun st1 => ⟨fr [(0, .sl Y1 h0), (1, .sl (.int .i64) order), (2, .fn (.func 77) [] []), (11, .sl (.int .i64) order), (12, .int .i64 (order.length : Int)), (13, .int .i64 st1)], hpGet [], gt⟩) 0 hw1 (Wk.le [] [] [] rfl (by (simp only [go_sem]) <;> (repeat' with_reducible apply And.intro) <;> first | assumption | rfl | omega | (unfold maxLen; omega)) (by (simp only [go_sem]) <;> (repeat' with_reducible apply And.intro) <;> first | assumption | rfl | omega | (unfold maxLen; omega))) ?_
    intro st1 x4 h hd3
    unfold history_keeps_b1 at h
    refine AW.seq ?_
    refine AW.ops ?_
    refine AO.allF tab_ok (by decide) [(0, .sl Y1 h0), (1, .sl (.int .i64) order), (2, .fn (.func 77) [] []), (11, .sl (.int .i64) order), (12, .int .i64 (order.length : Int)), (13, .int .i64 st1), (14, .bool (decide (st1 < (order.length : Int))))] [] (by (simp only [go_sem]) <;> (repeat' with_reducible apply And.intro) <;> first | assumption | rfl | omega | (unfold maxLen; omega)) ?_
    refine athen_n ?_
    refine AW.seq ?_
    refine AW.cond (b := (decide (st1 < (order.length : Int)))) rfl (fun hb6 => ?_) (fun hb6 => ?_)
    · rw [if_pos hb6] at h
      refine AW.skip ?_
      refine athen_n ?_
      refine AW.have1 (fun _ : Unit => history_keeps_k2 st1 = some x4) (fun _ => ⟨fr [(0, .sl Y1 h0), (1, .sl (.int .i64) order), (2, .fn (.func 77) [] []), (11, .sl (.int .i64) order), (12, .int .i64 (order.length : Int)), (13, .int .i64 st1)], hpGet [], gt⟩) (fun _ h => ?_) (fun hk_history_keeps_k2 => ?_)
      · unfold history_keeps_k2 at h
        refine AW.ops ?_
        obtain ⟨c7, h⟩ := ck_some.1 h
        refine AO.allF tab_ok (by decide) [(0, .sl Y1 h0), (1, .sl (.int .i64) order), (2, .fn (.func 77) [] []), (11, .sl (.int .i64) order), (12, .int .i64 (order.length : Int)), (13, .int .i64 (st1 + 1))] [] (by (simp only [go_sem, hb6]) <;> (repeat' with_reducible apply And.intro) <;> first | assumption | rfl | omega | (unfold maxLen; omega)) ?_
        obtain rfl := Option.some.inj h
        exact ⟨_, rfl, Wk.le [] [] [] rfl (by (simp only [go_sem, hb6]) <;> (repeat' with_reducible apply And.intro) <;> first | assumption | rfl | omega | (unfold maxLen; omega)) (by (simp only [go_sem, hb6]) <;> (repeat' with_reducible apply And.intro) <;> first | assumption | rfl | omega | (unfold maxLen; omega))⟩
      · refine AW.seq ?_
        refine AW.block ?_
        refine AW.seq ?_
        refine AW.ops ?_
        obtain ⟨c8, h⟩ := ck_some.1 h
        obtain ⟨c9, h⟩ := ck_some.1 h
        refine AO.allF tab_ok (by decide) [(0, .sl Y1 h0), (1, .sl (.int .i64) order), (2, .fn (.func 77) [] []), (7, .int .i64 st1), (8, .int .i64 (order.getD st1.toNat 0)), (11, .sl (.int .i64) order), (12, .int .i64 (order.length : Int)), (13, .int .i64 st1)] [] (by (simp only [go_sem, hb6]) <;> (repeat' with_reducible apply And.intro) <;> first | assumption | rfl | omega | (unfold maxLen; omega)) ?_
        refine athen_n ?_
        refine AW.seq ?_
        refine AW.ops ?_
        obtain ⟨c10, h⟩ := ck_some.1 h
        obtain ⟨c11, h⟩ := ck_some.1 h
        refine AO.allF tab_ok (by decide) [(0, .sl Y1 h0), (1, .sl (.int .i64) order), (2, .fn (.func 77) [] []), (8, .int .i64 (order.getD st1.toNat 0)), (11, .sl (.int .i64) order), (12, .int .i64 (order.length : Int)), (13, .int .i64 st1), (20, .sl (.int .i64) (order.take st1.toNat)), (21, .int .i64 ((order.take st1.toNat).length : Int)), (22, .int .i64 0)] [] (by (simp only [go_sem, hb6]) <;> (repeat' with_reducible apply And.intro) <;> first | assumption | rfl | omega | (unfold maxLen; omega)) ?_
        refine athen_n ?_
        refine AW.block ?_
        obtain ⟨rv16, hw12, ho13⟩ := Option.bind_eq_some_iff.1 h
        refine AW.loopO (history_keeps_b2 h0 order st1) (fun st2 => ⟨fr [(0, .sl Y1 h0), (1, .sl (.int .i64) order), (2, .fn (.func 77) [] []), (8, .int .i64 (order.getD st1.toNat 0)), (11, .sl (.int .i64) order), (12, .int .i64 (order.length : Int)), (13, .int .i64 st1), (20, .sl (.int .i64) (order.take st1.toNat)), (21, .int .i64 ((order.take st1.toNat).length : Int)), (22, .int .i64 st2)], hpGet [], gt⟩) 0 hw12 (Wk.le [] [] [] rfl (by (simp only [go_sem, hb6]) <;> (repeat' with_reducible apply And.intro) <;> first | assumption | rfl | omega | (unfold maxLen; omega)) (by (simp only [go_sem, hb6]) <;> (repeat' with_reducible apply And.intro) <;> first | assumption | rfl | omega | (unfold maxLen; omega))) ?_
        intro st2 x15 h hd14
        unfold history_keeps_b2 at h
        refine AW.seq ?_
        refine AW.ops ?_
        refine AO.allF tab_ok (by decide) [(0, .sl Y1 h0), (1, .sl (.int .i64) order), (2, .fn (.func 77) [] []), (8, .int .i64 (order.getD st1.toNat 0)), (11, .sl (.int .i64) order), (12, .int .i64 (order.length : Int)), (13, .int .i64 st1), (20, .sl (.int .i64) (order.take st1.toNat)), (21, .int .i64 ((order.take st1.toNat).length : Int)), (22, .int .i64 st2), (23, .bool (decide (st2 < ((order.take st1.toNat).length : Int))))] [] (by (simp only [go_sem, hb6]) <;> (repeat' with_reducible apply And.intro) <;> first | assumption | rfl | omega | (unfold maxLen; omega)) ?_
        refine athen_n ?_
        refine AW.seq ?_
        refine AW.cond (b := (decide (st2 < ((order.take st1.toNat).length : Int)))) rfl (fun hb17 => ?_) (fun hb17 => ?_)
        · rw [if_pos hb17] at h
          refine AW.skip ?_
          refine athen_n ?_
          refine AW.seq ?_
          refine AW.block ?_
          refine AW.seq ?_
          refine AW.ops ?_
          obtain ⟨c18, h⟩ := ck_some.1 h
          obtain ⟨c19, h⟩ := ck_some.1 h
          refine AO.allF tab_ok (by decide) [(0, .sl Y1 h0), (1, .sl (.int .i64) order), (2, .fn (.func 77) [] []), (8, .int .i64 (order.getD st1.toNat 0)), (10, .int .i64 ((order.take st1.toNat).getD st2.toNat 0)), (11, .sl (.int .i64) order), (12, .int .i64 (order.length : Int)), (13, .int .i64 st1), (20, .sl (.int .i64) (order.take st1.toNat)), (21, .int .i64 ((order.take st1.toNat).length : Int)), (22, .int .i64 st2)] [] (by (simp only [go_sem, hb6, hb17]) <;> (repeat' with_reducible apply And.intro) <;> first | assumption | rfl | omega | (unfold maxLen; omega)) ?_
          refine athen_n ?_
          refine AW.seq ?_
          refine AW.draw tab_ok mixed_ok [] [] (by decide) (by kernel_rfl) ?_
          obtain ⟨c21, h⟩ := ck_some.1 h
          obtain ⟨c22, h⟩ := ck_some.1 h
          refine adops_cut 6 (fun K' hK20 => ?_)
          try dsimp only [List.drop_succ_cons, List.drop_zero, List.take_succ_cons, List.take_zero]
          simp only [go_sem, hb6, hb17]
          repeat (with_reducible refine And.intro (by first | assumption | rfl | omega | trivial | (unfold maxLen; omega)) ?_)
          refine hK20 _ ?_
          obtain ⟨c24, h⟩ := ck_some.1 h
          obtain ⟨c25, h⟩ := ck_some.1 h
          refine adops_cut 3 (fun K' hK23 => ?_)
          try dsimp only [List.drop_succ_cons, List.drop_zero, List.take_succ_cons, List.take_zero]
          simp only [go_sem, hb6, hb17]
          repeat (with_reducible refine And.intro (by first | assumption | rfl | omega | trivial | (unfold maxLen; omega)) ?_)
          refine hK23 _ ?_
          obtain ⟨v0, hv26, h⟩ := Option.bind_eq_some_iff.1 h
          refine adops.call (by first | trivial | rfl) rfl rfl rfl (fun _ h => h) [] [] (hc_history_inTime (h0.getD ((order.take st1.toNat).getD st2.toNat 0).toNat (0, 0, 0, 0, 0, 0)) (h0.getD (order.getD st1.toNat 0).toNat (0, 0, 0, 0, 0, 0)) hv26) rfl (by (simp only [go_sem, hb6, hb17]) <;> (repeat' with_reducible apply And.intro) <;> first | assumption | rfl | omega | (unfold maxLen; omega)) (by (simp only [go_sem, hb6, hb17]) <;> (repeat' with_reducible apply And.intro) <;> first | assumption | rfl | omega | (unfold maxLen; omega)) rfl ?_
          refine adops_cut 0 (fun K' hK27 => ?_)
          try dsimp only [List.drop_succ_cons, List.drop_zero, List.take_succ_cons, List.take_zero]
          simp only [go_sem, hb6, hb17]
          repeat (with_reducible refine And.intro (by first | assumption | rfl | omega | trivial | (unfold maxLen; omega)) ?_)
          refine hK27 _ ?_
          refine adops_nil ?_
          refine athen_n ?_
          refine AW.weaken (s' := ⟨fr [(0, .sl Y1 h0), (1, .sl (.int .i64) order), (2, .fn (.func 77) [] []), (8, .int .i64 (order.getD st1.toNat 0)), (11, .sl (.int .i64) order), (12, .int .i64 (order.length : Int)), (13, .int .i64 st1), (20, .sl (.int .i64) (order.take st1.toNat)), (21, .int .i64 ((order.take st1.toNat).length : Int)), (22, .int .i64 st2), (35, .bool v0)], hpGet [], gt⟩) (Wk.to (by (simp only [go_sem, hb6, hb17]) <;> (repeat' with_reducible apply And.intro) <;> first | assumption | rfl | omega | (unfold maxLen; omega))) ?_
          refine AW.cond (b := v0) rfl (fun hb28 => ?_) (fun hb28 => ?_)
          · rw [if_pos hb28] at h
            refine AW.seq ?_
            refine AW.ops ?_
            refine AO.allF tab_ok (by decide) [(6, .bool false)] [] (by (simp only [go_sem, hb6, hb17, hb28]) <;> (repeat' with_reducible apply And.intro) <;> first | assumption | rfl | omega | (unfold maxLen; omega)) ?_
            refine athen_n ?_
            refine AW.ret ?_
            refine ablock_r ?_
            refine athen_r ?_
            obtain rfl := Option.some.inj h
            rw [← hd14 _ rfl] at ho13
            have h := ho13
            try simp only at h
            refine athen_r ?_
            refine ablock_r ?_
            refine ablock_r ?_
            refine athen_r ?_
            obtain rfl := Option.some.inj h
            rw [← hd3 _ rfl] at ho2
            have h := ho2
            try simp only at h
            refine athen_r ?_
            refine ablock_r ?_
            refine athen_r ?_
            obtain rfl := Option.some.inj h
            exact ⟨rfl, [], [], [], rfl, (by (simp only [go_sem, hb6, hb17, hb28]) <;> (repeat' with_reducible apply And.intro) <;> first | assumption | rfl | omega | (unfold maxLen; omega))⟩
          · rw [if_neg (Bool.eq_false_iff.1 hb28)] at h
            refine AW.skip ?_
            refine ablock_n ?_
            refine athen_n ?_
            refine AW.ops ?_
            obtain ⟨c29, h⟩ := ck_some.1 h
            refine AO.allF tab_ok (by decide) [(0, .sl Y1 h0), (1, .sl (.int .i64) order), (2, .fn (.func 77) [] []), (8, .int .i64 (order.getD st1.toNat 0)), (11, .sl (.int .i64) order), (12, .int .i64 (order.length : Int)), (13, .int .i64 st1), (20, .sl (.int .i64) (order.take st1.toNat)), (21, .int .i64 ((order.take st1.toNat).length : Int)), (22, .int .i64 (st2 + 1))] [] (by (simp only [go_sem, hb6, hb17, hb28]) <;> (repeat' with_reducible apply And.intro) <;> first | assumption | rfl | omega | (unfold maxLen; omega)) ?_
            obtain rfl := Option.some.inj h
            exact ⟨_, rfl, Wk.le [] [] [] rfl (by (simp only [go_sem, hb6, hb17, hb28]) <;> (repeat' with_reducible apply And.intro) <;> first | assumption | rfl | omega | (unfold maxLen; omega)) (by (simp only [go_sem, hb6, hb17, hb28]) <;> (repeat' with_reducible apply And.intro) <;> first | assumption | rfl | omega | (unfold maxLen; omega))⟩
        · rw [if_neg (Bool.eq_false_iff.1 hb17)] at h
          refine AW.exit ?_
          refine athen_e ?_
          obtain rfl := Option.some.inj h
          rw [← hd14 _ rfl] at ho13
          have h := ho13
          try simp only at h
          refine athen_e ?_
          refine ablock_s ?_
          refine ablock_n ?_
          refine athen_n ?_
          exact AW.weaken (Wk.le [] [] [] rfl (by (simp only [go_sem, hb6, hb17]) <;> (repeat' with_reducible apply And.intro) <;> first | assumption | rfl | omega | (unfold maxLen; omega)) (by (simp only [go_sem, hb6, hb17]) <;> (repeat' with_reducible apply And.intro) <;> first | assumption | rfl | omega | (unfold maxLen; omega))) (hk_history_keeps_k2 () h)
    · rw [if_neg (Bool.eq_false_iff.1 hb6)] at h
      refine AW.exit ?_
      refine athen_e ?_
      obtain rfl := Option.some.inj h
      rw [← hd3 _ rfl] at ho2
      have h := ho2
      try simp only at h
      refine athen_e ?_
      refine ablock_s ?_
      refine athen_n ?_
      exact AW.weaken (Wk.le [] [] [] rfl (by (simp only [go_sem, hb6]) <;> (repeat' with_reducible apply And.intro) <;> first | assumption | rfl | omega | (unfold maxLen; omega)) (by (simp only [go_sem, hb6]) <;> (repeat' with_reducible apply And.intro) <;> first | assumption | rfl | omega | (unfold maxLen; omega))) (hk_history_keeps_k1 () h)

set_option maxRecDepth 100000 in
set_option maxHeartbeats 2000000 in
theorem hc_history_inThread (a : Int × Int × Int × Int × Int × Int) (b : Int × Int × Int × Int × Int × Int) {r : Bool} (h : history_inThread a b = some r) : HC Try.prog 91 [] [.agg [.int .i64 a.1, .int .i64 a.2.1, .int .i64 a.2.2.1, .int .i64 a.2.2.2.1, .int .i64 a.2.2.2.2.1, .int .i64 a.2.2.2.2.2], .agg [.int .i64 b.1, .int .i64 b.2.1, .int .i64 b.2.2.1, .int .i64 b.2.2.2.1, .int .i64 b.2.2.2.2.1, .int .i64 b.2.2.2.2.2]] [] (.bool r) := by
  unfold history_inThread at h
  refine HC.of_body tab_ok (res := [.tmp 4]) Try.func91 rfl (by kernel_rfl) rfl (nt := 17) rfl (by decide) (by simp) ?_
  refine AW.seq ?_
  refine AW.ops ?_
  refine AO.allF tab_ok (by decide) [(2, .bp 2 0), (3, .bp 3 0)] [(2, .box 55 [.int .i64 a.1, .int .i64 a.2.1, .int .i64 a.2.2.1, .int .i64 a.2.2.2.1, .int .i64 a.2.2.2.2.1, .int .i64 a.2.2.2.2.2]), (3, .box 55 [.int .i64 b.1, .int .i64 b.2.1, .int .i64 b.2.2.1, .int .i64 b.2.2.2.1, .int .i64 b.2.2.2.2.1, .int .i64 b.2.2.2.2.2])] (by (simp only [go_sem]) <;> (repeat' with_reducible apply And.intro) <;> first | assumption | rfl | omega | (unfold maxLen; omega)) ?_
  refine athen_n ?_
  refine AW.seq ?_
  refine AW.ops ?_
  refine AO.segF tab_ok 6 (by decide) [(2, .bp 2 0), (3, .bp 3 0), (10, .bool (decide (a.1 = b.1)))] [(2, .box 55 [.int .i64 a.1, .int .i64 a.2.1, .int .i64 a.2.2.1, .int .i64 a.2.2.2.1, .int .i64 a.2.2.2.2.1, .int .i64 a.2.2.2.2.2]), (3, .box 55 [.int .i64 b.1, .int .i64 b.2.1, .int .i64 b.2.2.1, .int .i64 b.2.2.2.1, .int .i64 b.2.2.2.2.1, .int .i64 b.2.2.2.2.2])] (by (simp only [go_sem]) <;> (repeat' with_reducible apply And.intro) <;> first | assumption | rfl | omega | (unfold maxLen; omega)) ?_
  rcases Bool.eq_false_or_eq_true (decide (a.1 = b.1)) with hb1 | hb1
  · rw [if_pos hb1] at h
    refine AO.weaken (s' := ⟨fr [(2, .bp 2 0), (3, .bp 3 0), (10, .bool true)], hpGet [(2, .box 55 [.int .i64 a.1, .int .i64 a.2.1, .int .i64 a.2.2.1, .int .i64 a.2.2.2.1, .int .i64 a.2.2.2.2.1, .int .i64 a.2.2.2.2.2]), (3, .box 55 [.int .i64 b.1, .int .i64 b.2.1, .int .i64 b.2.2.1, .int .i64 b.2.2.2.1, .int .i64 b.2.2.2.2.1, .int .i64 b.2.2.2.2.2])], gt⟩) (Wk.to (by (simp only [go_sem, hb1]) <;> (repeat' with_reducible apply And.intro) <;> first | assumption | rfl | omega | (unfold maxLen; omega))) ?_
    refine AO.allF tab_ok (by decide) [(4, .bool (decide (b.2.2.2.2.1 < a.2.2.2.2.1)))] [] (by (simp only [go_sem, hb1]) <;> (repeat' with_reducible apply And.intro) <;> first | assumption | rfl | omega | (unfold maxLen; omega)) ?_
    refine athen_n ?_
    refine AW.ret ?_
    obtain rfl := Option.some.inj h
    exact ⟨rfl, [], [], [], rfl, (by (simp only [go_sem, hb1]) <;> (repeat' with_reducible apply And.intro) <;> first | assumption | rfl | omega | (unfold maxLen; omega))⟩
  · rw [if_neg (Bool.eq_false_iff.1 hb1)] at h
    refine AO.weaken (s' := ⟨fr [(2, .bp 2 0), (3, .bp 3 0), (10, .bool false)], hpGet [(2, .box 55 [.int .i64 a.1, .int .i64 a.2.1, .int .i64 a.2.2.1, .int .i64 a.2.2.2.1, .int .i64 a.2.2.2.2.1, .int .i64 a.2.2.2.2.2]), (3, .box 55 [.int .i64 b.1, .int .i64 b.2.1, .int .i64 b.2.2.1, .int .i64 b.2.2.2.1, .int .i64 b.2.2.2.2.1, .int .i64 b.2.2.2.2.2])], gt⟩) (Wk.to (by (simp only [go_sem, hb1]) <;> (repeat' with_reducible apply And.intro) <;> first | assumption | rfl | omega | (unfold maxLen; omega))) ?_
    refine AO.segF tab_ok 4 (by decide) [(10, .bool false), (12, .cv (undef)), (14, .cv (undef))] [] (by (simp only [go_sem, hb1]) <;> (repeat' with_reducible apply And.intro) <;> first | assumption | rfl | omega | (unfold maxLen; omega)) ?_
    refine AO.allF tab_ok (by decide) [(4, .bool false)] [] (by (simp only [go_sem, hb1]) <;> (repeat' with_reducible apply And.intro) <;> first | assumption | rfl | omega | (unfold maxLen; omega)) ?_
    refine athen_n ?_
    refine AW.ret ?_
    obtain rfl := Option.some.inj h
    exact ⟨rfl, [], [], [], rfl, (by (simp only [go_sem, hb1]) <;> (repeat' with_reducible apply And.intro) <;> first | assumption | rfl | omega | (unfold maxLen; omega))⟩

set_option maxRecDepth 100000 in
set_option maxHeartbeats 2000000 in
theorem hc_history_keeps_2 (h0 : List (Int × Int × Int × Int × Int × Int)) (order : List Int) {r : Bool} (h : history_keeps_2 h0 order = some r) : HC Try.prog 76 [] [.sl Y1 h0, .sl (.int .i64) order, .fn (.func 91) [] []] [] (.bool r) := by
  unfold history_keeps_2 at h
  refine HC.of_body tab_ok (res := [.tmp 6]) Try.func76 rfl (by kernel_rfl) rfl (nt := 38) rfl (by decide) (by simp) ?_
  refine AW.seq ?_
  refine AW.ops ?_
  refine AO.allF tab_ok (by decide) [(0, .sl Y1 h0), (1, .sl (.int .i64) order), (2, .fn (.func 91) [] [])] [] (by (simp only [go_sem]) <;> (repeat' with_reducible apply And.intro) <;> first | assumption | rfl | omega | (unfold maxLen; omega)) ?_
  refine athen_n ?_
  refine AW.have1 (fun _ : Unit => history_keeps_2_k1 = some r) (fun _ => ⟨fr [], hpGet [], gt⟩) (fun _ h => ?_) (fun hk_history_keeps_2_k1 => ?_)
  · unfold history_keeps_2_k1 at h
    refine AW.seq ?_
    refine AW.ops ?_
    refine AO.allF tab_ok (by decide) [(6, .bool true)] [] (by (simp only [go_sem]) <;> (repeat' with_reducible apply And.intro) <;> first | assumption | rfl | omega | (unfold maxLen; omega)) ?_
    refine athen_n ?_
    refine AW.ret ?_
    obtain rfl := Option.some.inj h
    exact ⟨rfl, [], [], [], rfl, (by (simp only [go_sem]) <;> (repeat' with_reducible apply And.intro) <;> first | assumption | rfl | omega | (unfold maxLen; omega))⟩
  · refine AW.seq ?_
    refine AW.seq ?_
    refine AW.ops ?_
    refine AO.allF tab_ok (by decide) [(0, .sl Y1 h0), (1, .sl (.int .i64) order), (2, .fn (.func 91) [] []), (11, .sl (.int .i64) order), (12, .int .i64 (order.length : Int)), (13, .int .i64 0)] [] (by (simp only [go_sem]) <;> (repeat' with_reducible apply And.intro) <;> first | assumption | rfl | omega | (unfold maxLen; omega)) ?_
    refine athen_n ?_
    refine AW.block ?_
    obtain ⟨rv5, hw1, ho2⟩ := Option.bind_eq_some_iff.1 h
    refine AW.loopO (history_keeps_2_b1 h0 order) (fun st1 => ⟨fr [(0, .sl Y1 h0), (1, .sl (.int .i64) order), (2, .fn (.func 91) [] []), (11, .sl (.int .i64) order), (12, .int .i64 (order.length : Int)), (13, .int .i64 st1)], hpGet [], gt⟩) 0 hw1 (Wk.le [] [] [] rfl (by (simp only [go_sem]) <;> (repeat' with_reducible apply And.intro) <;> first | assumption | rfl | omega | (unfold maxLen; omega)) (by (simp only [go_sem]) <;> (repeat' with_reducible apply And.intro) <;> first | assumption | rfl | omega | (unfold maxLen; omega))) ?_
    intro st1 x4 h hd3
    unfold history_keeps_2_b1 at h
    refine AW.seq ?_
    refine AW.ops ?_
    refine AO.allF tab_ok (by decide) [(0, .sl Y1 h0), (1, .sl (.int .i64) order), (2, .fn (.func 91) [] []), (11, .sl (.int .i64) order), (12, .int .i64 (order.length : Int)), (13, .int .i64 st1), (14, .bool (decide (st1 < (order.length : Int))))] [] (by (simp only [go_sem]) <;> (repeat' with_reducible apply And.intro) <;> first | assumption | rfl | omega | (unfold maxLen; omega)) ?_
    refine athen_n ?_
    refine AW.seq ?_
    refine AW.cond (b := (decide (st1 < (order.length : Int)))) rfl (fun hb6 => ?_) (fun hb6 => ?_)
    · rw [if_pos hb6] at h
      refine AW.skip ?_
      refine athen_n ?_
      refine AW.have1 (fun _ : Unit => history_keeps_2_k2 st1 = some x4) (fun _ => ⟨fr [(0, .sl Y1 h0), (1, .sl (.int .i64) order), (2, .fn (.func 91) [] []), (11, .sl (.int .i64) order), (12, .int .i64 (order.length : Int)), (13, .int .i64 st1)], hpGet [], gt⟩) (fun _ h => ?_) (fun hk_history_keeps_2_k2 => ?_)
      · unfold history_keeps_2_k2 at h
        refine AW.ops ?_
        obtain ⟨c7, h⟩ := ck_some.1 h
        refine AO.allF tab_ok (by decide) [(0, .sl Y1 h0), (1, .sl (.int .i64) order), (2, .fn (.func 91) [] []), (11, .sl (.int .i64) order), (12, .int .i64 (order.length : Int)), (13, .int .i64 (st1 + 1))] [] (by (simp only [go_sem, hb6]) <;> (repeat' with_reducible apply And.intro) <;> first | assumption | rfl | omega | (unfold maxLen; omega)) ?_
        obtain rfl := Option.some.inj h
        exact ⟨_, rfl, Wk.le [] [] [] rfl (by (simp only [go_sem, hb6]) <;> (repeat' with_reducible apply And.intro) <;> first | assumption | rfl | omega | (unfold maxLen; omega)) (by (simp only [go_sem, hb6]) <;> (repeat' with_reducible apply And.intro) <;> first | assumption | rfl | omega | (unfold maxLen; omega))⟩
      · refine AW.seq ?_
        refine AW.block ?_
        refine AW.seq ?_
        refine AW.ops ?_
        obtain ⟨c8, h⟩ := ck_some.1 h
        obtain ⟨c9, h⟩ := ck_some.1 h
        refine AO.allF tab_ok (by decide) [(0, .sl Y1 h0), (1, .sl (.int .i64) order), (2, .fn (.func 91) [] []), (7, .int .i64 st1), (8, .int .i64 (order.getD st1.toNat 0)), (11, .sl (.int .i64) order), (12, .int .i64 (order.length : Int)), (13, .int .i64 st1)] [] (by (simp only [go_sem, hb6]) <;> (repeat' with_reducible apply And.intro) <;> first | assumption | rfl | omega | (unfold maxLen; omega)) ?_
        refine athen_n ?_
        refine AW.seq ?_
        refine AW.ops ?_
        obtain ⟨c10, h⟩ := ck_some.1 h
        obtain ⟨c11, h⟩ := ck_some.1 h
        refine AO.allF tab_ok (by decide) [(0, .sl Y1 h0), (1, .sl (.int .i64) order), (2, .fn (.func 91) [] []), (8, .int .i64 (order.getD st1.toNat 0)), (11, .sl (.int .i64) order), (12, .int .i64 (order.length : Int)), (13, .int .i64 st1), (20, .sl (.int .i64) (order.take st1.toNat)), (21, .int .i64 ((order.take st1.toNat).length : Int)), (22, .int .i64 0)] [] (by (simp only [go_sem, hb6]) <;> (repeat' with_reducible apply And.intro) <;> first | assumption | rfl | omega | (unfold maxLen; omega)) ?_
        refine athen_n ?_
        refine AW.block ?_
        obtain ⟨rv16, hw12, ho13⟩ := Option.bind_eq_some_iff.1 h
        refine AW.loopO (history_keeps_2_b2 h0 order st1) (fun st2 => ⟨fr [(0, .sl Y1 h0), (1, .sl (.int .i64) order), (2, .fn (.func 91) [] []), (8, .int .i64 (order.getD st1.toNat 0)), (11, .sl (.int .i64) order), (12, .int .i64 (order.length : Int)), (13, .int .i64 st1), (20, .sl (.int .i64) (order.take st1.toNat)), (21, .int .i64 ((order.take st1.toNat).length : Int)), (22, .int .i64 st2)], hpGet [], gt⟩) 0 hw12 (Wk.le [] [] [] rfl (by (simp only [go_sem, hb6]) <;> (repeat' with_reducible apply And.intro) <;> first | assumption | rfl | omega | (unfold maxLen; omega)) (by (simp only [go_sem, hb6]) <;> (repeat' with_reducible apply And.intro) <;> first | assumption | rfl | omega | (unfold maxLen; omega))) ?_
        intro st2 x15 h hd14
        unfold history_keeps_2_b2 at h
        refine AW.seq ?_
        refine AW.ops ?_
        refine AO.allF tab_ok (by decide) [(0, .sl Y1 h0), (1, .sl (.int .i64) order), (2, .fn (.func 91) [] []), (8, .int .i64 (order.getD st1.toNat 0)), (11, .sl (.int .i64) order), (12, .int .i64 (order.length : Int)), (13, .int .i64 st1), (20, .sl (.int .i64) (order.take st1.toNat)), (21, .int .i64 ((order.take st1.toNat).length : Int)), (22, .int .i64 st2), (23, .bool (decide (st2 < ((order.take st1.toNat).length : Int))))] [] (by (simp only [go_sem, hb6]) <;> (repeat' with_reducible apply And.intro) <;> first | assumption | rfl | omega | (unfold maxLen; omega)) ?_
        refine athen_n ?_
        refine AW.seq ?_
        refine AW.cond (b := (decide (st2 < ((order.take st1.toNat).length : Int)))) rfl (fun hb17 => ?_) (fun hb17 => ?_)
        · rw [if_pos hb17] at h
          refine AW.skip ?_
          refine athen_n ?_
          refine AW.seq ?_
          refine AW.block ?_
          refine AW.seq ?_
          refine AW.ops ?_
          obtain ⟨c18, h⟩ := ck_some.1 h
          obtain ⟨c19, h⟩ := ck_some.1 h
          refine AO.allF tab_ok (by decide) [(0, .sl Y1 h0), (1, .sl (.int .i64) order), (2, .fn (.func 91) [] []), (8, .int .i64 (order.getD st1.toNat 0)), (10, .int .i64 ((order.take st1.toNat).getD st2.toNat 0)), (11, .sl (.int .i64) order), (12, .int .i64 (order.length : Int)), (13, .int .i64 st1), (20, .sl (.int .i64) (order.take st1.toNat)), (21, .int .i64 ((order.take st1.toNat).length : Int)), (22, .int .i64 st2)] [] (by (simp only [go_sem, hb6, hb17]) <;> (repeat' with_reducible apply And.intro) <;> first | assumption | rfl | omega | (unfold maxLen; omega)) ?_
          refine athen_n ?_
          refine AW.seq ?_
          refine AW.draw tab_ok mixed_ok [] [] (by decide) (by kernel_rfl) ?_
          obtain ⟨c21, h⟩ := ck_some.1 h
          obtain ⟨c22, h⟩ := ck_some.1 h
          refine adops_cut 6 (fun K' hK20 => ?_)
          try dsimp only [List.drop_succ_cons, List.drop_zero, List.take_succ_cons, List.take_zero]
          simp only [go_sem, hb6, hb17]
          repeat (with_reducible refine And.intro (by first | assumption | rfl | omega | trivial | (unfold maxLen; omega)) ?_)
          refine hK20 _ ?_
          obtain ⟨c24, h⟩ := ck_some.1 h
          obtain ⟨c25, h⟩ := ck_some.1 h
          refine adops_cut 3 (fun K' hK23 => ?_)
          try dsimp only [List.drop_succ_cons, List.drop_zero, List.take_succ_cons, List.take_zero]
          simp only [go_sem, hb6, hb17]
          repeat (with_reducible refine And.intro (by first | assumption | rfl | omega | trivial | (unfold maxLen; omega)) ?_)
          refine hK23 _ ?_
          obtain ⟨v0, hv26, h⟩ := Option.bind_eq_some_iff.1 h
          refine adops.call (by first | trivial | rfl) rfl rfl rfl (fun _ h => h) [] [] (hc_history_inThread (h0.getD ((order.take st1.toNat).getD st2.toNat 0).toNat (0, 0, 0, 0, 0, 0)) (h0.getD (order.getD st1.toNat 0).toNat (0, 0, 0, 0, 0, 0)) hv26) rfl (by (simp only [go_sem, hb6, hb17]) <;> (repeat' with_reducible apply And.intro) <;> first | assumption | rfl | omega | (unfold maxLen; omega)) (by (simp only [go_sem, hb6, hb17]) <;> (repeat' with_reducible apply And.intro) <;> first | assumption | rfl | omega | (unfold maxLen; omega)) rfl ?_
          refine adops_cut 0 (fun K' hK27 => ?_)
          try dsimp only [List.drop_succ_cons, List.drop_zero, List.take_succ_cons, List.take_zero]
          simp only [go_sem, hb6, hb17]
          repeat (with_reducible refine And.intro (by first | assumption | rfl | omega | trivial | (unfold maxLen; omega)) ?_)
          refine hK27 _ ?_
          refine adops_nil ?_
          refine athen_n ?_
          refine AW.weaken (s' := ⟨fr [(0, .sl Y1 h0), (1, .sl (.int .i64) order), (2, .fn (.func 91) [] []), (8, .int .i64 (order.getD st1.toNat 0)), (11, .sl (.int .i64) order), (12, .int .i64 (order.length : Int)), (13, .int .i64 st1), (20, .sl (.int .i64) (order.take st1.toNat)), (21, .int .i64 ((order.take st1.toNat).length : Int)), (22, .int .i64 st2), (35, .bool v0)], hpGet [], gt⟩) (Wk.to (by (simp only [go_sem, hb6, hb17]) <;> (repeat' with_reducible apply And.intro) <;> first | assumption | rfl | omega | (unfold maxLen; omega))) ?_
          refine AW.cond (b := v0) rfl (fun hb28 => ?_) (fun hb28 => ?_)
          · rw [if_pos hb28] at h
            refine AW.seq ?_
            refine AW.ops ?_
            refine AO.allF tab_ok (by decide) [(6, .bool false)] [] (by (simp only [go_sem, hb6, hb17, hb28]) <;> (repeat' with_reducible apply And.intro) <;> first | assumption | rfl | omega | (unfold maxLen; omega)) ?_
            refine athen_n ?_
            refine AW.ret ?_
            refine ablock_r ?_
            refine athen_r ?_
            obtain rfl := Option.some.inj h
            rw [← hd14 _ rfl] at ho13
            have h := ho13
            try simp only at h
            refine athen_r ?_
            refine ablock_r ?_
            refine ablock_r ?_
            refine athen_r ?_
            obtain rfl := Option.some.inj h
            rw [← hd3 _ rfl] at ho2
            have h := ho2
            try simp only at h
            refine athen_r ?_
            refine ablock_r ?_
            refine athen_r ?_
            obtain rfl := Option.some.inj h
            exact ⟨rfl, [], [], [], rfl, (by (simp only [go_sem, hb6, hb17, hb28]) <;> (repeat' with_reducible apply And.intro) <;> first | assumption | rfl | omega | (unfold maxLen; omega))⟩
          · rw [if_neg (Bool.eq_false_iff.1 hb28)] at h
            refine AW.skip ?_
            refine ablock_n ?_
            refine athen_n ?_
            refine AW.ops ?_
            obtain ⟨c29, h⟩ := ck_some.1 h
            refine AO.allF tab_ok (by decide) [(0, .sl Y1 h0), (1, .sl (.int .i64) order), (2, .fn (.func 91) [] []), (8, .int .i64 (order.getD st1.toNat 0)), (11, .sl (.int .i64) order), (12, .int .i64 (order.length : Int)), (13, .int .i64 st1), (20, .sl (.int .i64) (order.take st1.toNat)), (21, .int .i64 ((order.take st1.toNat).length : Int)), (22, .int .i64 (st2 + 1))] [] (by (simp only [go_sem, hb6, hb17, hb28]) <;> (repeat' with_reducible apply And.intro) <;> first | assumption | rfl | omega | (unfold maxLen; omega)) ?_
            obtain rfl := Option.some.inj h
            exact ⟨_, rfl, Wk.le [] [] [] rfl (by (simp only [go_sem, hb6, hb17, hb28]) <;> (repeat' with_reducible apply And.intro) <;> first | assumption | rfl | omega | (unfold maxLen; omega)) (by (simp only [go_sem, hb6, hb17, hb28]) <;> (repeat' with_reducible apply And.intro) <;> first | assumption | rfl | omega | (unfold maxLen; omega))⟩
        · rw [if_neg (Bool.eq_false_iff.1 hb17)] at h
          refine AW.exit ?_
          refine athen_e ?_
          obtain rfl := Option.some.inj h
          rw [← hd14 _ rfl] at ho13
          have h := ho13
          try simp only at h
          refine athen_e ?_
          refine ablock_s ?_
          refine ablock_n ?_
          refine athen_n ?_
          exact AW.weaken (Wk.le [] [] [] rfl (by (simp only [go_sem, hb6, hb17]) <;> (repeat' with_reducible apply And.intro) <;> first | assumption | rfl | omega | (unfold maxLen; omega)) (by (simp only [go_sem, hb6, hb17]) <;> (repeat' with_reducible apply And.intro) <;> first | assumption | rfl | omega | (unfold maxLen; omega))) (hk_history_keeps_2_k2 () h)
    · rw [if_neg (Bool.eq_false_iff.1 hb6)] at h
      refine AW.exit ?_
      refine athen_e ?_
      obtain rfl := Option.some.inj h
      rw [← hd3 _ rfl] at ho2
      have h := ho2
      try simp only at h
      refine athen_e ?_
      refine ablock_s ?_
      refine athen_n ?_
      exact AW.weaken (Wk.le [] [] [] rfl (by (simp only [go_sem, hb6]) <;> (repeat' with_reducible apply And.intro) <;> first | assumption | rfl | omega | (unfold maxLen; omega)) (by (simp only [go_sem, hb6]) <;> (repeat' with_reducible apply And.intro) <;> first | assumption | rfl | omega | (unfold maxLen; omega))) (hk_history_keeps_2_k1 () h)

set_option maxRecDepth 100000 in
set_option maxHeartbeats 2000000 in
theorem hc_history_Keeps_1 (a0 : List (Int × Int × Int × Int × Int × Int)) (a1 : List Int) {r : Bool × Bool} (h : history_Keeps_1 a0 a1 = some r) : HC Try.prog 90 [(1000, .box 23 [.sl Y1 a0]), (1001, .box 33 [.sl (.int .i64) a1])] [.bp 1000 0, .bp 1001 0] [(1000, .box 23 [.sl Y1 a0]), (1001, .box 33 [.sl (.int .i64) a1])] (.agg [.bool r.1, .bool r.2]) := by
  unfold history_Keeps_1 at h
  refine HC.of_body tab_ok (res := [.cell 2 87]) Try.func90 rfl (by kernel_rfl) rfl (nt := 10) rfl (by decide) (by simp) ?_
  refine AW.seq ?_
  refine AW.ops ?_
  refine AO.allF tab_ok (by decide) [(0, .bp 1000 0), (1, .bp 1001 0), (2, .bp 2 0)] [(2, .box 87 [.bool false, .bool false]), (1000, .box 23 [.sl Y1 a0]), (1001, .box 33 [.sl (.int .i64) a1])] (by (simp only [go_sem]) <;> (repeat' with_reducible apply And.intro) <;> first | assumption | rfl | omega | (unfold maxLen; omega)) ?_
  refine athen_n ?_
  refine AW.seq ?_
  refine AW.draw tab_ok mixed_ok [(7, [2])] [] (by decide) (by kernel_rfl) ?_
  refine adops_cut 2 (fun K' hK1 => ?_)
  try dsimp only [List.drop_succ_cons, List.drop_zero, List.take_succ_cons, List.take_zero]
  simp only [go_sem]
  repeat (with_reducible refine And.intro (by first | assumption | rfl | omega | trivial | (unfold maxLen; omega)) ?_)
  refine hK1 _ ?_
  obtain ⟨v0, hv2, h⟩ := Option.bind_eq_some_iff.1 h
  refine adops.call (by first | trivial | rfl) rfl rfl rfl (fun _ h => h) [] [] (hc_history_keeps a0 a1 hv2) rfl (by (simp only [go_sem]) <;> (repeat' with_reducible apply And.intro) <;> first | assumption | rfl | omega | (unfold maxLen; omega)) (by (simp only [go_sem]) <;> (repeat' with_reducible apply And.intro) <;> first | assumption | rfl | omega | (unfold maxLen; omega)) rfl ?_
  refine adops_cut 2 (fun K' hK3 => ?_)
  try dsimp only [List.drop_succ_cons, List.drop_zero, List.take_succ_cons, List.take_zero]
  simp only [go_sem]
  repeat (with_reducible refine And.intro (by first | assumption | rfl | omega | trivial | (unfold maxLen; omega)) ?_)
  refine hK3 _ ?_
  obtain ⟨v0_2, hv4, h⟩ := Option.bind_eq_some_iff.1 h
  refine adops.call (by first | trivial | rfl) rfl rfl rfl (fun _ h => h) [] [] (hc_history_keeps_2 a0 a1 hv4) rfl (by (simp only [go_sem]) <;> (repeat' with_reducible apply And.intro) <;> first | assumption | rfl | omega | (unfold maxLen; omega)) (by (simp only [go_sem]) <;> (repeat' with_reducible apply And.intro) <;> first | assumption | rfl | omega | (unfold maxLen; omega)) rfl ?_
  refine adops_cut 2 (fun K' hK5 => ?_)
  try dsimp only [List.drop_succ_cons, List.drop_zero, List.take_succ_cons, List.take_zero]
  simp only [go_sem]
  repeat (with_reducible refine And.intro (by first | assumption | rfl | omega | trivial | (unfold maxLen; omega)) ?_)
  refine hK5 _ ?_
  refine adops_nil ?_
  refine athen_n ?_
  refine AW.weaken (s' := ⟨fr [(2, .bp 2 0)], hpGet [(2, .box 87 [.bool v0, .bool v0_2]), (1000, .box 23 [.sl Y1 a0]), (1001, .box 33 [.sl (.int .i64) a1])], gt⟩) (Wk.to (by (simp only [go_sem]) <;> (repeat' with_reducible apply And.intro) <;> first | assumption | rfl | omega | (unfold maxLen; omega))) ?_
  refine AW.ret ?_
  obtain rfl := Option.some.inj h
  exact ⟨rfl, [], [], [], rfl, (by (simp only [go_sem]) <;> (repeat' with_reducible apply And.intro) <;> first | assumption | rfl | omega | (unfold maxLen; omega))⟩

set_option maxRecDepth 100000 in
set_option maxHeartbeats 2000000 in
theorem hc_history_told_3 (err : Int) (c0 : List (Int × Int × Int × Int × Int × Int)) (c1 : List Int) {r : Bool × Bool × Int} (h : history_told_3 err c0 c1 = some r) : HC Try.prog 89 [(1000, .box 23 [.sl Y1 c0]), (1001, .box 33 [.sl (.int .i64) c1])] [.int .i64 err, .fn (.func 90) [] [.bp 1000 0, .bp 1001 0]] [(1000, .box 23 [.sl Y1 c0]), (1001, .box 33 [.sl (.int .i64) c1])] (.tup [.agg [.bool r.1, .bool r.2.1], .int .i64 r.2.2]) := by
  unfold history_told_3 at h
  refine HC.of_body tab_ok (res := [.cell 4 87, .tmp 5]) Try.func89 rfl (by kernel_rfl) rfl (nt := 13) rfl (by decide) (by simp) ?_
  refine AW.seq ?_
  refine AW.ops ?_
  refine AO.allF tab_ok (by decide) [(0, .int .i64 err), (1, .fn (.func 90) [] [.bp 1000 0, .bp 1001 0]), (4, .bp 4 0)] [(4, .box 87 [.bool false, .bool false]), (1000, .box 23 [.sl Y1 c0]), (1001, .box 33 [.sl (.int .i64) c1])] (by (simp only [go_sem]) <;> (repeat' with_reducible apply And.intro) <;> first | assumption | rfl | omega | (unfold maxLen; omega)) ?_
  refine athen_n ?_
  refine AW.seq ?_
  refine AW.seq ?_
  refine AW.ops ?_
  refine AO.allF tab_ok (by decide) [(0, .int .i64 err), (1, .fn (.func 90) [] [.bp 1000 0, .bp 1001 0]), (4, .bp 4 0), (8, .bool (!(decide (err = 0))))] [(4, .box 87 [.bool false, .bool false]), (1000, .box 23 [.sl Y1 c0]), (1001, .box 33 [.sl (.int .i64) c1])] (by (simp only [go_sem]) <;> (repeat' with_reducible apply And.intro) <;> first | assumption | rfl | omega | (unfold maxLen; omega)) ?_
  refine athen_n ?_
  refine AW.cond (b := (!(decide (err = 0)))) rfl (fun hb1 => ?_) (fun hb1 => ?_)
  · rw [if_pos hb1] at h
    refine AW.seq ?_
    refine AW.ops ?_
    refine AO.allF tab_ok (by decide) [(0, .int .i64 err), (4, .bp 4 0), (6, .bp 6 0)] [(4, .box 87 [.bool false, .bool false]), (6, .box 87 [.bool false, .bool false]), (1000, .box 23 [.sl Y1 c0]), (1001, .box 33 [.sl (.int .i64) c1])] (by (simp only [go_sem, hb1]) <;> (repeat' with_reducible apply And.intro) <;> first | assumption | rfl | omega | (unfold maxLen; omega)) ?_
    refine athen_n ?_
    refine AW.seq ?_
    refine AW.ops ?_
    refine AO.allF tab_ok (by decide) [(4, .bp 4 0), (5, .int .i64 err)] [(4, .box 87 [.bool false, .bool false]), (1000, .box 23 [.sl Y1 c0]), (1001, .box 33 [.sl (.int .i64) c1])] (by (simp only [go_sem, hb1]) <;> (repeat' with_reducible apply And.intro) <;> first | assumption | rfl | omega | (unfold maxLen; omega)) ?_
    refine athen_n ?_
    refine AW.ret ?_
    refine athen_r ?_
    obtain rfl := Option.some.inj h
    exact ⟨rfl, [], [], [], rfl, (by (simp only [go_sem, hb1]) <;> (repeat' with_reducible apply And.intro) <;> first | assumption | rfl | omega | (unfold maxLen; omega))⟩
  · rw [if_neg (Bool.eq_false_iff.1 hb1)] at h
    refine AW.skip ?_
    refine athen_n ?_
    refine AW.seq ?_
    refine AW.ops ?_
    refine AO.segF tab_ok 1 (by decide) [(4, .bp 4 0), (11, .fn (.func 90) [] [.bp 1000 0, .bp 1001 0])] [(4, .box 87 [.bool false, .bool false]), (1000, .box 23 [.sl Y1 c0]), (1001, .box 33 [.sl (.int .i64) c1])] (by (simp only [go_sem, hb1]) <;> (repeat' with_reducible apply And.intro) <;> first | assumption | rfl | omega | (unfold maxLen; omega)) ?_
    obtain ⟨v0, hv2, h⟩ := Option.bind_eq_some_iff.1 h
    refine AO.call tab_ok (by decide) rfl rfl rfl (fun _ h => h) [] [(1000, 1000), (1001, 1001)] (hc_history_Keeps_1 c0 c1 hv2) rfl (by (simp only [go_sem, hb1]) <;> (repeat' with_reducible apply And.intro) <;> first | assumption | rfl | omega | (unfold maxLen; omega)) (by (simp only [go_sem, hb1]) <;> (repeat' with_reducible apply And.intro) <;> first | assumption | rfl | omega | (unfold maxLen; omega)) [(4, .bp 4 0), (12, .agg [.bool v0.1, .bool v0.2])] [(4, .box 87 [.bool false, .bool false]), (1000, .box 23 [.sl Y1 c0]), (1001, .box 33 [.sl (.int .i64) c1])] (by (simp only [go_sem, hb1]) <;> (repeat' with_reducible apply And.intro) <;> first | assumption | rfl | omega | (unfold maxLen; omega)) ?_
    refine AO.allF tab_ok (by decide) [(4, .bp 4 0), (5, .int .i64 0)] [(4, .box 87 [.bool v0.1, .bool v0.2]), (1000, .box 23 [.sl Y1 c0]), (1001, .box 33 [.sl (.int .i64) c1])] (by (simp only [go_sem, hb1]) <;> (repeat' with_reducible apply And.intro) <;> first | assumption | rfl | omega | (unfold maxLen; omega)) ?_
    refine athen_n ?_
    refine AW.ret ?_
    obtain rfl := Option.some.inj h
    exact ⟨rfl, [], [], [], rfl, (by (simp only [go_sem, hb1]) <;> (repeat' with_reducible apply And.intro) <;> first | assumption | rfl | omega | (unfold maxLen; omega))⟩

set_option maxRecDepth 100000 in
set_option maxHeartbeats 2000000 in
theorem hc_history_Keeps (h0 : List (Int × Int × Int × Int × Int × Int)) (order : List Int) {r : Bool × Bool × Int} (h : history_Keeps h0 order = some r) : HC Try.prog 33 [] [.sl Y1 h0, .sl (.int .i64) order] [] (.tup [.bool r.1, .bool r.2.1, .int .i64 r.2.2]) := by
  unfold history_Keeps at h
  refine HC.of_body tab_ok (res := [.tmp 4, .tmp 5, .tmp 6]) Try.func33 rfl (by kernel_rfl) rfl (nt := 23) rfl (by decide) (by simp) ?_
  refine AW.seq ?_
  refine AW.ops ?_
  refine AO.allF tab_ok (by decide) [(2, .bp 2 0), (3, .bp 3 0)] [(2, .box 23 [.sl Y1 h0]), (3, .box 33 [.sl (.int .i64) order])] (by (simp only [go_sem]) <;> (repeat' with_reducible apply And.intro) <;> first | assumption | rfl | omega | (unfold maxLen; omega)) ?_
  refine athen_n ?_
  refine AW.seq ?_
  refine AW.draw tab_ok mixed_ok [(6, [2, 3]), (10, [7]), (11, [7])] [(0, [2]), (1, [2]), (2, [3]), (3, []), (4, []), (5, [2, 3]), (6, [2, 3, 999998]), (7, []), (8, []), (9, []), (10, [7]), (100011, [])] (by decide) (by kernel_rfl) ?_
  refine adops_cut 3 (fun K' hK1 => ?_)
  try dsimp only [List.drop_succ_cons, List.drop_zero, List.take_succ_cons, List.take_zero]
  simp only [go_sem]
  repeat (with_reducible refine And.intro (by first | assumption | rfl | omega | trivial | (unfold maxLen; omega)) ?_)
  refine hK1 _ ?_
  obtain ⟨v0, hv2, h⟩ := Option.bind_eq_some_iff.1 h
  refine adops.call (by first | trivial | rfl) rfl rfl rfl (fun _ h => h) [] [] (hc_history_isOrder h0 order hv2) rfl (by (simp only [go_sem]) <;> (repeat' with_reducible apply And.intro) <;> first | assumption | rfl | omega | (unfold maxLen; omega)) (by (simp only [go_sem]) <;> (repeat' with_reducible apply And.intro) <;> first | assumption | rfl | omega | (unfold maxLen; omega)) rfl ?_
  obtain ⟨v0_2, hv3, h⟩ := Option.bind_eq_some_iff.1 h
  refine adops.call (by first | trivial | rfl) rfl rfl rfl (fun _ h => h) [] [] (hc_history_check h0 v0 hv3) rfl (by (simp only [go_sem]) <;> (repeat' with_reducible apply And.intro) <;> first | assumption | rfl | omega | (unfold maxLen; omega)) (by (simp only [go_sem]) <;> (repeat' with_reducible apply And.intro) <;> first | assumption | rfl | omega | (unfold maxLen; omega)) rfl ?_
  refine adops_cut 1 (fun K' hK4 => ?_)
  try dsimp only [List.drop_succ_cons, List.drop_zero, List.take_succ_cons, List.take_zero]
  simp only [go_sem]
  repeat (with_reducible refine And.intro (by first | assumption | rfl | omega | trivial | (unfold maxLen; omega)) ?_)
  refine hK4 _ ?_
  obtain ⟨v0_3, hv5, h⟩ := Option.bind_eq_some_iff.1 h
  refine adops.call (by first | trivial | rfl) rfl rfl rfl (fun _ h => h) [] [(1000, 2), (1001, 3)] (hc_history_told_3 v0_2 h0 order hv5) rfl (by (simp only [go_sem]) <;> (repeat' with_reducible apply And.intro) <;> first | assumption | rfl | omega | (unfold maxLen; omega)) (by (simp only [go_sem]) <;> (repeat' with_reducible apply And.intro) <;> first | assumption | rfl | omega | (unfold maxLen; omega)) rfl ?_
  refine adops_cut 6 (fun K' hK6 => ?_)
  try dsimp only [List.drop_succ_cons, List.drop_zero, List.take_succ_cons, List.take_zero]
  simp only [go_sem]
  repeat (with_reducible refine And.intro (by first | assumption | rfl | omega | trivial | (unfold maxLen; omega)) ?_)
  refine hK6 _ ?_
  refine adops_nil ?_
  refine athen_n ?_
  refine AW.weaken (s' := ⟨fr [(6, .int .i64 v0_3.2.2), (7, .bp 7 0)], hpGet [(7, .box 87 [.bool v0_3.1, .bool v0_3.2.1])], gt⟩) (Wk.to (by (simp only [go_sem]) <;> (repeat' with_reducible apply And.intro) <;> first | assumption | rfl | omega | (unfold maxLen; omega))) ?_
  refine AW.seq ?_
  refine AW.draw tab_ok mixed_ok [] [] (by decide) (by kernel_rfl) ?_
  refine adops_cut 6 (fun K' hK7 => ?_)
  try dsimp only [List.drop_succ_cons, List.drop_zero, List.take_succ_cons, List.take_zero]
  simp only [go_sem]
  repeat (with_reducible refine And.intro (by first | assumption | rfl | omega | trivial | (unfold maxLen; omega)) ?_)
  refine hK7 _ ?_
  refine adops_cut 2 (fun K' hK8 => ?_)
  try dsimp only [List.drop_succ_cons, List.drop_zero, List.take_succ_cons, List.take_zero]
  simp only [go_sem]
  repeat (with_reducible refine And.intro (by first | assumption | rfl | omega | trivial | (unfold maxLen; omega)) ?_)
  refine hK8 _ ?_
  refine adops_nil ?_
  refine athen_n ?_
  refine AW.weaken (s' := ⟨fr [(4, .bool v0_3.1), (5, .bool v0_3.2.1), (6, .int .i64 v0_3.2.2)], hpGet [], gt⟩) (Wk.to (by (simp only [go_sem]) <;> (repeat' with_reducible apply And.intro) <;> first | assumption | rfl | omega | (unfold maxLen; omega))) ?_
  refine AW.ret ?_
  obtain rfl := Option.some.inj h
  exact ⟨rfl, [], [], [], rfl, (by (simp only [go_sem]) <;> (repeat' with_reducible apply And.intro) <;> first | assumption | rfl | omega | (unfold maxLen; omega))⟩

set_option maxRecDepth 100000 in
set_option maxHeartbeats 2000000 in
theorem hc_linealref02_within (lo : Int) (n : Int) (hi : Int) {r : Bool} (h : linealref02_within lo n hi = some r) : HC Try.prog 68 [] [.int .i64 lo, .int .i64 n, .int .i64 hi] [] (.bool r) := by
  unfold linealref02_within at h
  refine HC.of_body tab_ok (res := [.tmp 6]) Try.func68 rfl (by kernel_rfl) rfl (nt := 15) rfl (by decide) (by simp) ?_
  refine AW.seq ?_
  refine AW.ops ?_
  refine AO.allF tab_ok (by decide) [(0, .int .i64 lo), (1, .int .i64 n), (2, .int .i64 hi)] [] (by (simp only [go_sem]) <;> (repeat' with_reducible apply And.intro) <;> first | assumption | rfl | omega | (unfold maxLen; omega)) ?_
  refine athen_n ?_
  refine AW.seq ?_
  refine AW.ops ?_
  refine AO.segF tab_ok 4 (by decide) [(1, .int .i64 n), (2, .int .i64 hi), (10, .bool (decide (lo ≤ n)))] [] (by (simp only [go_sem]) <;> (repeat' with_reducible apply And.intro) <;> first | assumption | rfl | omega | (unfold maxLen; omega)) ?_
  rcases Bool.eq_false_or_eq_true (decide (lo ≤ n)) with hb1 | hb1
  · rw [if_pos hb1] at h
    refine AO.weaken (s' := ⟨fr [(1, .int .i64 n), (2, .int .i64 hi), (10, .bool true)], hpGet [], gt⟩) (Wk.to (by (simp only [go_sem, hb1]) <;> (repeat' with_reducible apply And.intro) <;> first | assumption | rfl | omega | (unfold maxLen; omega))) ?_
    refine AO.allF tab_ok (by decide) [(6, .bool (decide (n ≤ hi)))] [] (by (simp only [go_sem, hb1]) <;> (repeat' with_reducible apply And.intro) <;> first | assumption | rfl | omega | (unfold maxLen; omega)) ?_
    refine athen_n ?_
    refine AW.ret ?_
    obtain rfl := Option.some.inj h
    exact ⟨rfl, [], [], [], rfl, (by (simp only [go_sem, hb1]) <;> (repeat' with_reducible apply And.intro) <;> first | assumption | rfl | omega | (unfold maxLen; omega))⟩
  · rw [if_neg (Bool.eq_false_iff.1 hb1)] at h
    refine AO.weaken (s' := ⟨fr [(1, .int .i64 n), (2, .int .i64 hi), (10, .bool false)], hpGet [], gt⟩) (Wk.to (by (simp only [go_sem, hb1]) <;> (repeat' with_reducible apply And.intro) <;> first | assumption | rfl | omega | (unfold maxLen; omega))) ?_
    refine AO.allF tab_ok (by decide) [(6, .bool false)] [] (by (simp only [go_sem, hb1]) <;> (repeat' with_reducible apply And.intro) <;> first | assumption | rfl | omega | (unfold maxLen; omega)) ?_
    refine athen_n ?_
    refine AW.ret ?_
    obtain rfl := Option.some.inj h
    exact ⟨rfl, [], [], [], rfl, (by (simp only [go_sem, hb1]) <;> (repeat' with_reducible apply And.intro) <;> first | assumption | rfl | omega | (unfold maxLen; omega))⟩

set_option maxRecDepth 100000 in
set_option maxHeartbeats 2000000 in
theorem hc_linealref02_before (c : Int × Int × Int × Int × Int × Int) (d : Int × Int × Int × Int × Int × Int) {r : Bool} (h : linealref02_before c d = some r) : HC Try.prog 69 [] [.agg [.int .i64 c.1, .int .i64 c.2.1, .int .i64 c.2.2.1, .int .i64 c.2.2.2.1, .int .i64 c.2.2.2.2.1, .int .i64 c.2.2.2.2.2], .agg [.int .i64 d.1, .int .i64 d.2.1, .int .i64 d.2.2.1, .int .i64 d.2.2.2.1, .int .i64 d.2.2.2.2.1, .int .i64 d.2.2.2.2.2]] [] (.bool r) := by
  unfold linealref02_before at h
  refine HC.of_body tab_ok (res := [.tmp 4]) Try.func69 rfl (by kernel_rfl) rfl (nt := 15) rfl (by decide) (by simp) ?_
  refine AW.seq ?_
  refine AW.ops ?_
  refine AO.allF tab_ok (by decide) [(2, .bp 2 0), (3, .bp 3 0)] [(2, .box 55 [.int .i64 c.1, .int .i64 c.2.1, .int .i64 c.2.2.1, .int .i64 c.2.2.2.1, .int .i64 c.2.2.2.2.1, .int .i64 c.2.2.2.2.2]), (3, .box 55 [.int .i64 d.1, .int .i64 d.2.1, .int .i64 d.2.2.1, .int .i64 d.2.2.2.1, .int .i64 d.2.2.2.2.1, .int .i64 d.2.2.2.2.2])] (by (simp only [go_sem]) <;> (repeat' with_reducible apply And.intro) <;> first | assumption | rfl | omega | (unfold maxLen; omega)) ?_
  refine athen_n ?_
  refine AW.seq ?_
  refine AW.ops ?_
  refine AO.segF tab_ok 4 (by decide) [(2, .bp 2 0), (3, .bp 3 0), (8, .bool (!(decide (c.2.2.2.2.2 = 0))))] [(2, .box 55 [.int .i64 c.1, .int .i64 c.2.1, .int .i64 c.2.2.1, .int .i64 c.2.2.2.1, .int .i64 c.2.2.2.2.1, .int .i64 c.2.2.2.2.2]), (3, .box 55 [.int .i64 d.1, .int .i64 d.2.1, .int .i64 d.2.2.1, .int .i64 d.2.2.2.1, .int .i64 d.2.2.2.2.1, .int .i64 d.2.2.2.2.2])] (by (simp only [go_sem]) <;> (repeat' with_reducible apply And.intro) <;> first | assumption | rfl | omega | (unfold maxLen; omega)) ?_
  rcases Bool.eq_false_or_eq_true (!(decide (c.2.2.2.2.2 = 0))) with hb1 | hb1
  · rw [if_pos hb1] at h
    refine AO.weaken (s' := ⟨fr [(2, .bp 2 0), (3, .bp 3 0), (8, .bool true)], hpGet [(2, .box 55 [.int .i64 c.1, .int .i64 c.2.1, .int .i64 c.2.2.1, .int .i64 c.2.2.2.1, .int .i64 c.2.2.2.2.1, .int .i64 c.2.2.2.2.2]), (3, .box 55 [.int .i64 d.1, .int .i64 d.2.1, .int .i64 d.2.2.1, .int .i64 d.2.2.2.1, .int .i64 d.2.2.2.2.1, .int .i64 d.2.2.2.2.2])], gt⟩) (Wk.to (by (simp only [go_sem, hb1]) <;> (repeat' with_reducible apply And.intro) <;> first | assumption | rfl | omega | (unfold maxLen; omega))) ?_
    refine AO.allF tab_ok (by decide) [(4, .bool (decide (c.2.2.2.2.2 < d.2.2.2.2.1)))] [] (by (simp only [go_sem, hb1]) <;> (repeat' with_reducible apply And.intro) <;> first | assumption | rfl | omega | (unfold maxLen; omega)) ?_
    refine athen_n ?_
    refine AW.ret ?_
    obtain rfl := Option.some.inj h
    exact ⟨rfl, [], [], [], rfl, (by (simp only [go_sem, hb1]) <;> (repeat' with_reducible apply And.intro) <;> first | assumption | rfl | omega | (unfold maxLen; omega))⟩
  · rw [if_neg (Bool.eq_false_iff.1 hb1)] at h
    refine AO.weaken (s' := ⟨fr [(2, .bp 2 0), (3, .bp 3 0), (8, .bool false)], hpGet [(2, .box 55 [.int .i64 c.1, .int .i64 c.2.1, .int .i64 c.2.2.1, .int .i64 c.2.2.2.1, .int .i64 c.2.2.2.2.1, .int .i64 c.2.2.2.2.2]), (3, .box 55 [.int .i64 d.1, .int .i64 d.2.1, .int .i64 d.2.2.1, .int .i64 d.2.2.2.1, .int .i64 d.2.2.2.2.1, .int .i64 d.2.2.2.2.2])], gt⟩) (Wk.to (by (simp only [go_sem, hb1]) <;> (repeat' with_reducible apply And.intro) <;> first | assumption | rfl | omega | (unfold maxLen; omega))) ?_
    refine AO.segF tab_ok 4 (by decide) [(8, .bool false), (10, .cv (undef)), (12, .cv (undef))] [] (by (simp only [go_sem, hb1]) <;> (repeat' with_reducible apply And.intro) <;> first | assumption | rfl | omega | (unfold maxLen; omega)) ?_
    refine AO.allF tab_ok (by decide) [(4, .bool false)] [] (by (simp only [go_sem, hb1]) <;> (repeat' with_reducible apply And.intro) <;> first | assumption | rfl | omega | (unfold maxLen; omega)) ?_
    refine athen_n ?_
    refine AW.ret ?_
    obtain rfl := Option.some.inj h
    exact ⟨rfl, [], [], [], rfl, (by (simp only [go_sem, hb1]) <;> (repeat' with_reducible apply And.intro) <;> first | assumption | rfl | omega | (unfold maxLen; omega))⟩

end Go.Proofs.Ytdkdkpenmgkdcaa
