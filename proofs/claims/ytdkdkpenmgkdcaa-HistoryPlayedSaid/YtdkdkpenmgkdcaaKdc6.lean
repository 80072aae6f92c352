/-
  Made by wip/tool/dc.py out of the print of the program: contracts.
-/
import Derived.Test.YtdkdkpenmgkdcaaHp
import Derived.Test.YtdkdkpenmgkdcaaTbh
import Derived.Test.YtdkdkpenmgkdcaaKdc1
import Derived.Test.YtdkdkpenmgkdcaaKdc3
import Derived.Test.YtdkdkpenmgkdcaaKdc4
import Derived.Test.YtdkdkpenmgkdcaaKdc5
namespace Go.Proofs.Ytdkdkpenmgkdcaa
open Go.RowKit

set_option linter.unusedSimpArgs false
set_option linter.unusedVariables false
set_option linter.constructorNameAsVariable false

set_option maxRecDepth 100000 in
set_option maxHeartbeats 2000000 in
theorem hc_history_Width (h0 : List (Int × Int × Int × Int × Int × Int)) {r : Int × Int} (h : history_Width h0 = some r) : HC Try.prog 48 [] [.sl Y1 h0] [] (.tup [.int .i64 r.1, .int .i64 r.2]) := by
  unfold history_Width at h
  refine HC.of_body tab_ok (res := [.tmp 2, .tmp 3]) Try.func48 rfl (by kernel_rfl) rfl (nt := 10) rfl (by decide) (by simp) ?_
  refine AW.seq ?_
  refine AW.ops ?_
  refine AO.allF tab_ok (by decide) [(1, .bp 1 0)] [(1, .box 23 [.sl Y1 h0])] (by (simp only [go_sem]) <;> (repeat' with_reducible apply And.intro) <;> first | assumption | rfl | omega | (unfold maxLen; omega)) ?_
  refine athen_n ?_
  refine AW.seq ?_
  refine AW.ops ?_
  refine AO.segF tab_ok 1 (by decide) [(1, .bp 1 0), (4, .sl Y1 h0)] [(1, .box 23 [.sl Y1 h0])] (by (simp only [go_sem]) <;> (repeat' with_reducible apply And.intro) <;> first | assumption | rfl | omega | (unfold maxLen; omega)) ?_
  obtain ⟨v0, hv1, h⟩ := Option.bind_eq_some_iff.1 h
  refine AO.call tab_ok (by decide) rfl rfl rfl (fun _ h => h) [] [] (hc_history_check h0 true hv1) rfl (by (simp only [go_sem]) <;> (repeat' with_reducible apply And.intro) <;> first | assumption | rfl | omega | (unfold maxLen; omega)) (by (simp only [go_sem]) <;> (repeat' with_reducible apply And.intro) <;> first | assumption | rfl | omega | (unfold maxLen; omega)) [(1, .bp 1 0), (5, .int .i64 v0)] [(1, .box 23 [.sl Y1 h0])] (by (simp only [go_sem]) <;> (repeat' with_reducible apply And.intro) <;> first | assumption | rfl | omega | (unfold maxLen; omega)) ?_
  refine AO.segF tab_ok 1 (by decide) [(5, .int .i64 v0), (6, .fn (.func 107) [] [.bp 1 0])] [(1, .box 23 [.sl Y1 h0])] (by (simp only [go_sem]) <;> (repeat' with_reducible apply And.intro) <;> first | assumption | rfl | omega | (unfold maxLen; omega)) ?_
  rcases Bool.eq_false_or_eq_true (decide (v0 = 0)) with hb2 | hb2
  · rw [if_pos hb2] at h
    have hz3 : v0 = 0 := by simpa using hb2
    refine AO.weaken (s' := ⟨fr [(5, .int .i64 0), (6, .fn (.func 107) [] [.bp 1 0])], hpGet [(1, .box 23 [.sl Y1 h0])], gt⟩) (Wk.to (by (simp only [go_sem, hb2, hz3]) <;> (repeat' with_reducible apply And.intro) <;> first | assumption | rfl | omega | (unfold maxLen; omega))) ?_
    obtain ⟨v0_2, hv4, h⟩ := Option.bind_eq_some_iff.1 h
    refine AO.call tab_ok (by decide) rfl rfl rfl (fun _ h => h) [] [(1000, 1)] (hc_history_told_8 h0 hv4) rfl (by (simp only [go_sem, hb2, hz3]) <;> (repeat' with_reducible apply And.intro) <;> first | assumption | rfl | omega | (unfold maxLen; omega)) (by (simp only [go_sem, hb2, hz3]) <;> (repeat' with_reducible apply And.intro) <;> first | assumption | rfl | omega | (unfold maxLen; omega)) [(7, .tup [.int .i64 v0_2, .int .i64 0])] [] (by (simp only [go_sem, hb2, hz3]) <;> (repeat' with_reducible apply And.intro) <;> first | assumption | rfl | omega | (unfold maxLen; omega)) ?_
    refine AO.allF tab_ok (by decide) [(2, .int .i64 v0_2), (3, .int .i64 0)] [] (by (simp only [go_sem, hb2, hz3]) <;> (repeat' with_reducible apply And.intro) <;> first | assumption | rfl | omega | (unfold maxLen; omega)) ?_
    refine athen_n ?_
    refine AW.ret ?_
    obtain rfl := Option.some.inj h
    exact ⟨rfl, [], [], [], rfl, (by (simp only [go_sem, hb2, hz3]) <;> (repeat' with_reducible apply And.intro) <;> first | assumption | rfl | omega | (unfold maxLen; omega))⟩
  · rw [if_neg (Bool.eq_false_iff.1 hb2)] at h
    refine AO.weaken (s' := ⟨fr [(5, .int .i64 v0), (6, .fn (.func 107) [] [.bp 1 0])], hpGet [(1, .box 23 [.sl Y1 h0])], gt⟩) (Wk.to (by (simp only [go_sem, hb2]) <;> (repeat' with_reducible apply And.intro) <;> first | assumption | rfl | omega | (unfold maxLen; omega))) ?_
    obtain ⟨v0_3, hv5, h⟩ := Option.bind_eq_some_iff.1 h
    refine AO.call tab_ok (by decide) rfl rfl rfl (fun _ h => h) [] [(1000, 1)] (hc_history_told_9 v0 h0 hb2 hv5) rfl (by (simp only [go_sem, hb2]) <;> (repeat' with_reducible apply And.intro) <;> first | assumption | rfl | omega | (unfold maxLen; omega)) (by (simp only [go_sem, hb2]) <;> (repeat' with_reducible apply And.intro) <;> first | assumption | rfl | omega | (unfold maxLen; omega)) [(7, .tup [.int .i64 0, .int .i64 v0])] [] (by (simp only [go_sem, hb2]) <;> (repeat' with_reducible apply And.intro) <;> first | assumption | rfl | omega | (unfold maxLen; omega)) ?_
    refine AO.allF tab_ok (by decide) [(2, .int .i64 0), (3, .int .i64 v0)] [] (by (simp only [go_sem, hb2]) <;> (repeat' with_reducible apply And.intro) <;> first | assumption | rfl | omega | (unfold maxLen; omega)) ?_
    refine athen_n ?_
    refine AW.ret ?_
    obtain rfl := Option.some.inj h
    exact ⟨rfl, [], [], [], rfl, (by (simp only [go_sem, hb2]) <;> (repeat' with_reducible apply And.intro) <;> first | assumption | rfl | omega | (unfold maxLen; omega))⟩

set_option maxRecDepth 100000 in
set_option maxHeartbeats 2000000 in
theorem hc_history_Alone_1 (a0 : List (Int × Int × Int × Int × Int × Int)) {r : Bool} (h : history_Alone_1 a0 = some r) : HC Try.prog 110 [(1000, .box 23 [.sl Y1 a0])] [.bp 1000 0] [(1000, .box 23 [.sl Y1 a0])] (.bool r) := by
  unfold history_Alone_1 at h
  refine HC.of_body tab_ok (res := [.tmp 1]) Try.func110 rfl (by kernel_rfl) rfl (nt := 5) rfl (by decide) (by simp) ?_
  refine AW.seq ?_
  refine AW.ops ?_
  refine AO.allF tab_ok (by decide) [(0, .bp 1000 0)] [(1000, .box 23 [.sl Y1 a0])] (by (simp only [go_sem]) <;> (repeat' with_reducible apply And.intro) <;> first | assumption | rfl | omega | (unfold maxLen; omega)) ?_
  refine athen_n ?_
  refine AW.seq ?_
  refine AW.ops ?_
  refine AO.segF tab_ok 1 (by decide) [(2, .sl Y1 a0)] [(1000, .box 23 [.sl Y1 a0])] (by (simp only [go_sem]) <;> (repeat' with_reducible apply And.intro) <;> first | assumption | rfl | omega | (unfold maxLen; omega)) ?_
  obtain ⟨v0, hv1, h⟩ := Option.bind_eq_some_iff.1 h
  refine AO.call tab_ok (by decide) rfl rfl rfl (fun _ h => h) [] [] (hc_history_width a0 hv1) rfl (by (simp only [go_sem]) <;> (repeat' with_reducible apply And.intro) <;> first | assumption | rfl | omega | (unfold maxLen; omega)) (by (simp only [go_sem]) <;> (repeat' with_reducible apply And.intro) <;> first | assumption | rfl | omega | (unfold maxLen; omega)) [(3, .int .i64 v0)] [(1000, .box 23 [.sl Y1 a0])] (by (simp only [go_sem]) <;> (repeat' with_reducible apply And.intro) <;> first | assumption | rfl | omega | (unfold maxLen; omega)) ?_
  refine AO.allF tab_ok (by decide) [(1, .bool (decide (v0 ≤ 1)))] [(1000, .box 23 [.sl Y1 a0])] (by (simp only [go_sem]) <;> (repeat' with_reducible apply And.intro) <;> first | assumption | rfl | omega | (unfold maxLen; omega)) ?_
  refine athen_n ?_
  refine AW.ret ?_
  obtain rfl := Option.some.inj h
  exact ⟨rfl, [], [], [], rfl, (by (simp only [go_sem]) <;> (repeat' with_reducible apply And.intro) <;> first | assumption | rfl | omega | (unfold maxLen; omega))⟩

set_option maxRecDepth 100000 in
set_option maxHeartbeats 2000000 in
theorem hc_history_told_10 (c0 : List (Int × Int × Int × Int × Int × Int)) {r : Bool} (h : history_told_10 c0 = some r) : HC Try.prog 58 [(1000, .box 23 [.sl Y1 c0])] [.int .i64 0, .fn (.func 110) [] [.bp 1000 0]] [(1000, .box 23 [.sl Y1 c0])] (.tup [.bool r, .int .i64 0]) := by
  unfold history_told_10 at h
  refine HC.of_body tab_ok (res := [.tmp 4, .tmp 5]) Try.func58 rfl (by kernel_rfl) rfl (nt := 13) rfl (by decide) (by simp) ?_
  refine AW.seq ?_
  refine AW.ops ?_
  refine AO.allF tab_ok (by decide) [(0, .int .i64 0), (1, .fn (.func 110) [] [.bp 1000 0])] [(1000, .box 23 [.sl Y1 c0])] (by (simp only [go_sem]) <;> (repeat' with_reducible apply And.intro) <;> first | assumption | rfl | omega | (unfold maxLen; omega)) ?_
  refine athen_n ?_
  refine AW.seq ?_
  refine AW.seq ?_
  refine AW.ops ?_
  refine AO.allF tab_ok (by decide) [(0, .int .i64 0), (1, .fn (.func 110) [] [.bp 1000 0]), (8, .bool false)] [(1000, .box 23 [.sl Y1 c0])] (by (simp only [go_sem]) <;> (repeat' with_reducible apply And.intro) <;> first | assumption | rfl | omega | (unfold maxLen; omega)) ?_
  refine athen_n ?_
  refine AW.cond (b := false) rfl (fun hb1 => by cases hb1) (fun _ => ?_)
  refine AW.skip ?_
  refine athen_n ?_
  refine AW.seq ?_
  refine AW.ops ?_
  refine AO.segF tab_ok 1 (by decide) [(11, .fn (.func 110) [] [.bp 1000 0])] [(1000, .box 23 [.sl Y1 c0])] (by (simp only [go_sem]) <;> (repeat' with_reducible apply And.intro) <;> first | assumption | rfl | omega | (unfold maxLen; omega)) ?_
  obtain ⟨v0, hv2, h⟩ := Option.bind_eq_some_iff.1 h
  refine AO.call tab_ok (by decide) rfl rfl rfl (fun _ h => h) [] [(1000, 1000)] (hc_history_Alone_1 c0 hv2) rfl (by (simp only [go_sem]) <;> (repeat' with_reducible apply And.intro) <;> first | assumption | rfl | omega | (unfold maxLen; omega)) (by (simp only [go_sem]) <;> (repeat' with_reducible apply And.intro) <;> first | assumption | rfl | omega | (unfold maxLen; omega)) [(12, .bool v0)] [(1000, .box 23 [.sl Y1 c0])] (by (simp only [go_sem]) <;> (repeat' with_reducible apply And.intro) <;> first | assumption | rfl | omega | (unfold maxLen; omega)) ?_
  refine AO.allF tab_ok (by decide) [(4, .bool v0), (5, .int .i64 0)] [(1000, .box 23 [.sl Y1 c0])] (by (simp only [go_sem]) <;> (repeat' with_reducible apply And.intro) <;> first | assumption | rfl | omega | (unfold maxLen; omega)) ?_
  refine athen_n ?_
  refine AW.ret ?_
  obtain rfl := Option.some.inj h
  exact ⟨rfl, [], [], [], rfl, (by (simp only [go_sem]) <;> (repeat' with_reducible apply And.intro) <;> first | assumption | rfl | omega | (unfold maxLen; omega))⟩

set_option maxRecDepth 100000 in
set_option maxHeartbeats 2000000 in
theorem hc_history_told_11 (err : Int) (c0 : List (Int × Int × Int × Int × Int × Int)) (hnz_err : decide (err = 0) = false) {r : Unit} (h : history_told_11 err c0 = some r) : HC Try.prog 58 [(1000, .box 23 [.sl Y1 c0])] [.int .i64 err, .fn (.func 110) [] [.bp 1000 0]] [(1000, .box 23 [.sl Y1 c0])] (.tup [.bool false, .int .i64 err]) := by
  unfold history_told_11 at h
  refine HC.of_body tab_ok (res := [.tmp 4, .tmp 5]) Try.func58 rfl (by kernel_rfl) rfl (nt := 13) rfl (by decide) (by simp) ?_
  refine AW.seq ?_
  refine AW.ops ?_
  refine AO.allF tab_ok (by decide) [(0, .int .i64 err), (1, .fn (.func 110) [] [.bp 1000 0])] [(1000, .box 23 [.sl Y1 c0])] (by (simp only [go_sem, hnz_err]) <;> (repeat' with_reducible apply And.intro) <;> first | assumption | rfl | omega | (unfold maxLen; omega)) ?_
  refine athen_n ?_
  refine AW.seq ?_
  refine AW.seq ?_
  refine AW.ops ?_
  refine AO.allF tab_ok (by decide) [(0, .int .i64 err), (1, .fn (.func 110) [] [.bp 1000 0]), (8, .bool true)] [(1000, .box 23 [.sl Y1 c0])] (by (simp only [go_sem, hnz_err]) <;> (repeat' with_reducible apply And.intro) <;> first | assumption | rfl | omega | (unfold maxLen; omega)) ?_
  refine athen_n ?_
  refine AW.cond (b := true) rfl (fun _ => ?_) (fun hb1 => by cases hb1)
  refine AW.seq ?_
  refine AW.ops ?_
  refine AO.allF tab_ok (by decide) [(0, .int .i64 err), (6, .bool false)] [(1000, .box 23 [.sl Y1 c0])] (by (simp only [go_sem, hnz_err]) <;> (repeat' with_reducible apply And.intro) <;> first | assumption | rfl | omega | (unfold maxLen; omega)) ?_
  refine athen_n ?_
  refine AW.seq ?_
  refine AW.ops ?_
  refine AO.allF tab_ok (by decide) [(4, .bool false), (5, .int .i64 err)] [(1000, .box 23 [.sl Y1 c0])] (by (simp only [go_sem, hnz_err]) <;> (repeat' with_reducible apply And.intro) <;> first | assumption | rfl | omega | (unfold maxLen; omega)) ?_
  refine athen_n ?_
  refine AW.ret ?_
  refine athen_r ?_
  obtain rfl := Option.some.inj h
  exact ⟨rfl, [], [], [], rfl, (by (simp only [go_sem, hnz_err]) <;> (repeat' with_reducible apply And.intro) <;> first | assumption | rfl | omega | (unfold maxLen; omega))⟩

set_option maxRecDepth 100000 in
set_option maxHeartbeats 2000000 in
theorem hc_history_Alone (h0 : List (Int × Int × Int × Int × Int × Int)) {r : Bool × Int} (h : history_Alone h0 = some r) : HC Try.prog 50 [] [.sl Y1 h0] [] (.tup [.bool r.1, .int .i64 r.2]) := by
  unfold history_Alone at h
  refine HC.of_body tab_ok (res := [.tmp 2, .tmp 3]) Try.func50 rfl (by kernel_rfl) rfl (nt := 10) rfl (by decide) (by simp) ?_
  refine AW.seq ?_
  refine AW.ops ?_
  refine AO.allF tab_ok (by decide) [(1, .bp 1 0)] [(1, .box 23 [.sl Y1 h0])] (by (simp only [go_sem]) <;> (repeat' with_reducible apply And.intro) <;> first | assumption | rfl | omega | (unfold maxLen; omega)) ?_
  refine athen_n ?_
  refine AW.seq ?_
  refine AW.ops ?_
  refine AO.segF tab_ok 1 (by decide) [(1, .bp 1 0), (4, .sl Y1 h0)] [(1, .box 23 [.sl Y1 h0])] (by (simp only [go_sem]) <;> (repeat' with_reducible apply And.intro) <;> first | assumption | rfl | omega | (unfold maxLen; omega)) ?_
  obtain ⟨v0, hv1, h⟩ := Option.bind_eq_some_iff.1 h
  refine AO.call tab_ok (by decide) rfl rfl rfl (fun _ h => h) [] [] (hc_history_check h0 true hv1) rfl (by (simp only [go_sem]) <;> (repeat' with_reducible apply And.intro) <;> first | assumption | rfl | omega | (unfold maxLen; omega)) (by (simp only [go_sem]) <;> (repeat' with_reducible apply And.intro) <;> first | assumption | rfl | omega | (unfold maxLen; omega)) [(1, .bp 1 0), (5, .int .i64 v0)] [(1, .box 23 [.sl Y1 h0])] (by (simp only [go_sem]) <;> (repeat' with_reducible apply And.intro) <;> first | assumption | rfl | omega | (unfold maxLen; omega)) ?_
  refine AO.segF tab_ok 1 (by decide) [(5, .int .i64 v0), (6, .fn (.func 110) [] [.bp 1 0])] [(1, .box 23 [.sl Y1 h0])] (by (simp only [go_sem]) <;> (repeat' with_reducible apply And.intro) <;> first | assumption | rfl | omega | (unfold maxLen; omega)) ?_
  rcases Bool.eq_false_or_eq_true (decide (v0 = 0)) with hb2 | hb2
  · rw [if_pos hb2] at h
    have hz3 : v0 = 0 := by simpa using hb2
    refine AO.weaken (s' := ⟨fr [(5, .int .i64 0), (6, .fn (.func 110) [] [.bp 1 0])], hpGet [(1, .box 23 [.sl Y1 h0])], gt⟩) (Wk.to (by (simp only [go_sem, hb2, hz3]) <;> (repeat' with_reducible apply And.intro) <;> first | assumption | rfl | omega | (unfold maxLen; omega))) ?_
    obtain ⟨v0_2, hv4, h⟩ := Option.bind_eq_some_iff.1 h
    refine AO.call tab_ok (by decide) rfl rfl rfl (fun _ h => h) [] [(1000, 1)] (hc_history_told_10 h0 hv4) rfl (by (simp only [go_sem, hb2, hz3]) <;> (repeat' with_reducible apply And.intro) <;> first | assumption | rfl | omega | (unfold maxLen; omega)) (by (simp only [go_sem, hb2, hz3]) <;> (repeat' with_reducible apply And.intro) <;> first | assumption | rfl | omega | (unfold maxLen; omega)) [(7, .tup [.bool v0_2, .int .i64 0])] [] (by (simp only [go_sem, hb2, hz3]) <;> (repeat' with_reducible apply And.intro) <;> first | assumption | rfl | omega | (unfold maxLen; omega)) ?_
    refine AO.allF tab_ok (by decide) [(2, .bool v0_2), (3, .int .i64 0)] [] (by (simp only [go_sem, hb2, hz3]) <;> (repeat' with_reducible apply And.intro) <;> first | assumption | rfl | omega | (unfold maxLen; omega)) ?_
    refine athen_n ?_
    refine AW.ret ?_
    obtain rfl := Option.some.inj h
    exact ⟨rfl, [], [], [], rfl, (by (simp only [go_sem, hb2, hz3]) <;> (repeat' with_reducible apply And.intro) <;> first | assumption | rfl | omega | (unfold maxLen; omega))⟩
  · rw [if_neg (Bool.eq_false_iff.1 hb2)] at h
    refine AO.weaken (s' := ⟨fr [(5, .int .i64 v0), (6, .fn (.func 110) [] [.bp 1 0])], hpGet [(1, .box 23 [.sl Y1 h0])], gt⟩) (Wk.to (by (simp only [go_sem, hb2]) <;> (repeat' with_reducible apply And.intro) <;> first | assumption | rfl | omega | (unfold maxLen; omega))) ?_
    obtain ⟨v0_3, hv5, h⟩ := Option.bind_eq_some_iff.1 h
    refine AO.call tab_ok (by decide) rfl rfl rfl (fun _ h => h) [] [(1000, 1)] (hc_history_told_11 v0 h0 hb2 hv5) rfl (by (simp only [go_sem, hb2]) <;> (repeat' with_reducible apply And.intro) <;> first | assumption | rfl | omega | (unfold maxLen; omega)) (by (simp only [go_sem, hb2]) <;> (repeat' with_reducible apply And.intro) <;> first | assumption | rfl | omega | (unfold maxLen; omega)) [(7, .tup [.bool false, .int .i64 v0])] [] (by (simp only [go_sem, hb2]) <;> (repeat' with_reducible apply And.intro) <;> first | assumption | rfl | omega | (unfold maxLen; omega)) ?_
    refine AO.allF tab_ok (by decide) [(2, .bool false), (3, .int .i64 v0)] [] (by (simp only [go_sem, hb2]) <;> (repeat' with_reducible apply And.intro) <;> first | assumption | rfl | omega | (unfold maxLen; omega)) ?_
    refine athen_n ?_
    refine AW.ret ?_
    obtain rfl := Option.some.inj h
    exact ⟨rfl, [], [], [], rfl, (by (simp only [go_sem, hb2]) <;> (repeat' with_reducible apply And.intro) <;> first | assumption | rfl | omega | (unfold maxLen; omega))⟩

set_option maxRecDepth 100000 in
set_option maxHeartbeats 2000000 in
theorem hc_slices_Clone (s : List (Int × Int × Int × Int × Int × Int)) {r : (List (Int × Int × Int × Int × Int × Int))} (h : slices_Clone s = some r) : HC Try.prog 111 [] [.sl Y1 s] [(2000, .arr 55 Y1 r)] (.own 2000) := by
  unfold slices_Clone at h
  refine HC.of_body tab_ok (res := [.tmp 2]) Try.func111 rfl (by kernel_rfl) rfl (nt := 8) rfl (by decide) (by simp) ?_
  refine AW.seq ?_
  refine AW.ops ?_
  refine AO.allF tab_ok (by decide) [(0, .sl Y1 s)] [] (by (simp only [go_sem]) <;> (repeat' with_reducible apply And.intro) <;> first | assumption | rfl | omega | (unfold maxLen; omega)) ?_
  refine athen_n ?_
  refine AW.seq ?_
  refine AW.seq ?_
  refine AW.ops ?_
  refine AO.segF tab_ok 1 (by decide) [(0, .sl Y1 s), (3, .sl Y1 s)] [] (by (simp only [go_sem]) <;> (repeat' with_reducible apply And.intro) <;> first | assumption | rfl | omega | (unfold maxLen; omega)) ?_
  refine AO.nilEq (neg := false) tab_ok (by decide) rfl rfl tab_23 rfl rfl rfl (fun hnil1 => ?_) ?_
  · have h : (some []) = some r := by
      first | (simp only [hnil1] at h ⊢; simpa [ck] using h) | (simp [hnil1, ck] at h ⊢; first | done | exact h)
    refine AO.weaken (s' := ⟨fr [(0, .sl Y1 s), (4, .bool true)], hpGet [], gt⟩) (Wk.to (by (simp only [go_sem]) <;> (repeat' with_reducible apply And.intro) <;> first | assumption | rfl | omega | (unfold maxLen; omega))) ?_
    refine AO.allF tab_ok (by decide) [(0, .sl Y1 s), (4, .bool true)] [] (by (simp only [go_sem]) <;> (repeat' with_reducible apply And.intro) <;> first | assumption | rfl | omega | (unfold maxLen; omega)) ?_
    refine athen_n ?_
    refine AW.cond (b := true) rfl (fun _ => ?_) (fun hb2 => by cases hb2)
    refine AW.seq ?_
    refine AW.ops ?_
    refine AO.allF tab_ok (by decide) [(2, .cv (.slice none 0 0))] [] (by (simp only [go_sem]) <;> (repeat' with_reducible apply And.intro) <;> first | assumption | rfl | omega | (unfold maxLen; omega)) ?_
    refine athen_n ?_
    refine AW.ret ?_
    refine athen_r ?_
    obtain rfl := Option.some.inj h
    exact ⟨rfl, [], [2000], [], rfl, (by (simp only [go_sem]) <;> (repeat' with_reducible apply And.intro) <;> first | assumption | rfl | omega | (unfold maxLen; omega))⟩
  · refine AO.weaken (s' := ⟨fr [(0, .sl Y1 s), (4, .bool false)], hpGet [], gt⟩) (Wk.to (by (simp only [go_sem]) <;> (repeat' with_reducible apply And.intro) <;> first | assumption | rfl | omega | (unfold maxLen; omega))) ?_
    refine AO.allF tab_ok (by decide) [(0, .sl Y1 s), (4, .bool false)] [] (by (simp only [go_sem]) <;> (repeat' with_reducible apply And.intro) <;> first | assumption | rfl | omega | (unfold maxLen; omega)) ?_
    refine athen_n ?_
    refine AW.cond (b := false) rfl (fun hb3 => by cases hb3) (fun _ => ?_)
    refine AW.skip ?_
    refine athen_n ?_
    refine AW.seq ?_
    refine AW.ops ?_
    obtain ⟨c4, h⟩ := ck_some.1 h
    refine AO.allF tab_ok (by decide) [(2, .own 7)] [(7, .arr 55 Y1 s)] (by (simp only [go_sem]) <;> (repeat' with_reducible apply And.intro) <;> first | assumption | rfl | omega | (unfold maxLen; omega)) ?_
    refine athen_n ?_
    refine AW.ret ?_
    obtain rfl := Option.some.inj h
    exact ⟨rfl, [], [], [(2000, 7)], rfl, (by (simp only [go_sem]) <;> (repeat' with_reducible apply And.intro) <;> first | assumption | rfl | omega | (unfold maxLen; omega))⟩

set_option maxRecDepth 100000 in
set_option maxHeartbeats 2000000 in
theorem hc_history_states_answer_2 (specs : List (Int × Int × (List (List Int)) × (List (List Int)))) (c : Int × Int × Int × Int × Int × Int) (s : Int × Int) {r : Int × Int × Int} (h : history_states_answer_2 specs c s = some r) : HC Try.prog 113 [(1000, .box 92 [.int .i64 s.1, .int .i64 s.2])] [.bp 1000 0, .sl Y0 specs, .agg [.int .i64 c.1, .int .i64 c.2.1, .int .i64 c.2.2.1, .int .i64 c.2.2.2.1, .int .i64 c.2.2.2.2.1, .int .i64 c.2.2.2.2.2]] [(1000, .box 92 [.int .i64 r.2.1, .int .i64 r.2.2])] (.int .i64 r.1) := by
  unfold history_states_answer_2 at h
  refine HC.of_body tab_ok (res := [.tmp 6]) Try.func113 rfl (by kernel_rfl) rfl (nt := 43) rfl (by decide) (by simp) ?_
  refine AW.seq ?_
  refine AW.ops ?_
  refine AO.allF tab_ok (by decide) [(0, .bp 1000 0), (1, .sl Y0 specs), (5, .bp 5 0)] [(5, .box 55 [.int .i64 c.1, .int .i64 c.2.1, .int .i64 c.2.2.1, .int .i64 c.2.2.2.1, .int .i64 c.2.2.2.2.1, .int .i64 c.2.2.2.2.2]), (1000, .box 92 [.int .i64 s.1, .int .i64 s.2])] (by (simp only [go_sem]) <;> (repeat' with_reducible apply And.intro) <;> first | assumption | rfl | omega | (unfold maxLen; omega)) ?_
  refine athen_n ?_
  refine AW.have1 (fun b1 : Int × Int × Int × (List (List Int)) × (List (List Int)) × Int => history_states_answer_2_k1 c s b1 = some r) (fun b1 => ⟨fr [(0, .bp 1000 0), (5, .bp 5 0), (7, .bp 7 0), (8, .int .i64 b1.2.2.2.2.2)], hpGet [(5, .box 55 [.int .i64 c.1, .int .i64 b1.1, .int .i64 c.2.2.1, .int .i64 c.2.2.2.1, .int .i64 c.2.2.2.2.1, .int .i64 c.2.2.2.2.2]), (7, .box 64 [.int .i64 b1.2.1, .int .i64 b1.2.2.1, .sl (.sl (.int .i64)) b1.2.2.2.1, .sl (.sl (.int .i64)) b1.2.2.2.2.1]), (1000, .box 92 [.int .i64 s.1, .int .i64 s.2])], gt⟩) (fun b1 h => ?_) (fun hk_history_states_answer_2_k1 => ?_)
  · unfold history_states_answer_2_k1 at h
    refine AW.have1 (fun b2 : Int × Int × Int => history_states_answer_2_k2 c b1 b2 = some r) (fun b2 => ⟨fr [(5, .bp 5 0), (7, .bp 7 0), (8, .int .i64 b1.2.2.2.2.2)], hpGet [(5, .box 55 [.int .i64 c.1, .int .i64 b2.1, .int .i64 c.2.2.1, .int .i64 c.2.2.2.1, .int .i64 c.2.2.2.2.1, .int .i64 c.2.2.2.2.2]), (7, .box 64 [.int .i64 b1.2.1, .int .i64 b1.2.2.1, .sl (.sl (.int .i64)) b1.2.2.2.1, .sl (.sl (.int .i64)) b1.2.2.2.2.1]), (1000, .box 92 [.int .i64 b2.2.1, .int .i64 b2.2.2])], gt⟩) (fun b2 h => ?_) (fun hk_history_states_answer_2_k2 => ?_)
    · unfold history_states_answer_2_k2 at h
      refine AW.seq ?_
      refine AW.draw tab_ok mixed_ok [] [] (by decide) (by kernel_rfl) ?_
      obtain ⟨c2, h⟩ := ck_some.1 h
      obtain ⟨c3, h⟩ := ck_some.1 h
      refine adops_cut 6 (fun K' hK1 => ?_)
      try dsimp only [List.drop_succ_cons, List.drop_zero, List.take_succ_cons, List.take_zero]
      simp only [go_sem]
      repeat (with_reducible refine And.intro (by first | assumption | rfl | omega | trivial | (unfold maxLen; omega)) ?_)
      refine hK1 _ ?_
      obtain ⟨c5, h⟩ := ck_some.1 h
      obtain ⟨c6, h⟩ := ck_some.1 h
      refine adops_cut 4 (fun K' hK4 => ?_)
      try dsimp only [List.drop_succ_cons, List.drop_zero, List.take_succ_cons, List.take_zero]
      simp only [go_sem]
      repeat (with_reducible refine And.intro (by first | assumption | rfl | omega | trivial | (unfold maxLen; omega)) ?_)
      refine hK4 _ ?_
      refine adops_nil ?_
      refine athen_n ?_
      refine AW.weaken (s' := ⟨fr [(6, .int .i64 ((b1.2.2.2.2.1.getD b1.2.2.2.2.2.toNat []).getD c.2.2.1.toNat 0))], hpGet [(1000, .box 92 [.int .i64 b2.2.1, .int .i64 b2.2.2])], gt⟩) (Wk.to (by (simp only [go_sem]) <;> (repeat' with_reducible apply And.intro) <;> first | assumption | rfl | omega | (unfold maxLen; omega))) ?_
      refine AW.ret ?_
      obtain rfl := Option.some.inj h
      exact ⟨rfl, [], [], [], rfl, (by (simp only [go_sem]) <;> (repeat' with_reducible apply And.intro) <;> first | assumption | rfl | omega | (unfold maxLen; omega))⟩
    · refine AW.seq ?_
      refine AW.draw tab_ok mixed_ok [(14, [1000])] [] (by decide) (by kernel_rfl) ?_
      refine adops_cut 6 (fun K' hK7 => ?_)
      try dsimp only [List.drop_succ_cons, List.drop_zero, List.take_succ_cons, List.take_zero]
      simp only [go_sem]
      repeat (with_reducible refine And.intro (by first | assumption | rfl | omega | trivial | (unfold maxLen; omega)) ?_)
      refine hK7 _ ?_
      obtain ⟨c9, h⟩ := ck_some.1 h
      obtain ⟨c10, h⟩ := ck_some.1 h
      obtain ⟨c11, h⟩ := ck_some.1 h
      obtain ⟨c12, h⟩ := ck_some.1 h
      refine adops_cut 6 (fun K' hK8 => ?_)
      try dsimp only [List.drop_succ_cons, List.drop_zero, List.take_succ_cons, List.take_zero]
      simp only [go_sem]
      repeat (with_reducible refine And.intro (by first | assumption | rfl | omega | trivial | (unfold maxLen; omega)) ?_)
      refine hK8 _ ?_
      obtain ⟨c14, h⟩ := ck_some.1 h
      obtain ⟨c15, h⟩ := ck_some.1 h
      refine adops_cut 1 (fun K' hK13 => ?_)
      try dsimp only [List.drop_succ_cons, List.drop_zero, List.take_succ_cons, List.take_zero]
      simp only [go_sem]
      repeat (with_reducible refine And.intro (by first | assumption | rfl | omega | trivial | (unfold maxLen; omega)) ?_)
      refine hK13 _ ?_
      rcases Bool.eq_false_or_eq_true (decide (b1.1 = 0)) with hb16 | hb16
      · rw [if_pos hb16] at h
        have hz17 : b1.1 = 0 := by simpa using hb16
        refine adops_cut 2 (fun K' hK18 => ?_)
        try dsimp only [List.drop_succ_cons, List.drop_zero, List.take_succ_cons, List.take_zero]
        simp only [go_sem, hb16, hz17]
        repeat (with_reducible refine And.intro (by first | assumption | rfl | omega | trivial | (unfold maxLen; omega)) ?_)
        refine hK18 _ ?_
        refine adops_nil ?_
        refine athen_n ?_
        refine AW.weaken (s' := ⟨fr [(5, .bp 5 0), (7, .bp 7 0), (8, .int .i64 b1.2.2.2.2.2)], hpGet [(5, .box 55 [.int .i64 c.1, .int .i64 0, .int .i64 c.2.2.1, .int .i64 c.2.2.2.1, .int .i64 c.2.2.2.2.1, .int .i64 c.2.2.2.2.2]), (7, .box 64 [.int .i64 b1.2.1, .int .i64 b1.2.2.1, .sl (.sl (.int .i64)) b1.2.2.2.1, .sl (.sl (.int .i64)) b1.2.2.2.2.1]), (1000, .box 92 [.int .i64 ((b1.2.2.2.1.getD b1.2.2.2.2.2.toNat []).getD c.2.2.1.toNat 0), .int .i64 s.2])], gt⟩) (Wk.to (by (simp only [go_sem, hb16, hz17]) <;> (repeat' with_reducible apply And.intro) <;> first | assumption | rfl | omega | (unfold maxLen; omega))) ?_
        exact AW.weaken (Wk.le [] [] [] rfl (by (simp only [go_sem, hb16, hz17]) <;> (repeat' with_reducible apply And.intro) <;> first | assumption | rfl | omega | (unfold maxLen; omega)) (by (simp only [go_sem, hb16, hz17]) <;> (repeat' with_reducible apply And.intro) <;> first | assumption | rfl | omega | (unfold maxLen; omega))) (hk_history_states_answer_2_k2 _ h)
      · rw [if_neg (Bool.eq_false_iff.1 hb16)] at h
        have hz17 : b1.1 = 1 := by have := of_decide_eq_false hb16; omega
        refine adops_cut 2 (fun K' hK19 => ?_)
        try dsimp only [List.drop_succ_cons, List.drop_zero, List.take_succ_cons, List.take_zero]
        simp only [go_sem, hb16, hz17]
        repeat (with_reducible refine And.intro (by first | assumption | rfl | omega | trivial | (unfold maxLen; omega)) ?_)
        refine hK19 _ ?_
        refine adops_nil ?_
        refine athen_n ?_
        refine AW.weaken (s' := ⟨fr [(5, .bp 5 0), (7, .bp 7 0), (8, .int .i64 b1.2.2.2.2.2)], hpGet [(5, .box 55 [.int .i64 c.1, .int .i64 1, .int .i64 c.2.2.1, .int .i64 c.2.2.2.1, .int .i64 c.2.2.2.2.1, .int .i64 c.2.2.2.2.2]), (7, .box 64 [.int .i64 b1.2.1, .int .i64 b1.2.2.1, .sl (.sl (.int .i64)) b1.2.2.2.1, .sl (.sl (.int .i64)) b1.2.2.2.2.1]), (1000, .box 92 [.int .i64 s.1, .int .i64 ((b1.2.2.2.1.getD b1.2.2.2.2.2.toNat []).getD c.2.2.1.toNat 0)])], gt⟩) (Wk.to (by (simp only [go_sem, hb16, hz17]) <;> (repeat' with_reducible apply And.intro) <;> first | assumption | rfl | omega | (unfold maxLen; omega))) ?_
        exact AW.weaken (Wk.le [] [] [] rfl (by (simp only [go_sem, hb16, hz17]) <;> (repeat' with_reducible apply And.intro) <;> first | assumption | rfl | omega | (unfold maxLen; omega)) (by (simp only [go_sem, hb16, hz17]) <;> (repeat' with_reducible apply And.intro) <;> first | assumption | rfl | omega | (unfold maxLen; omega))) (hk_history_states_answer_2_k2 _ h)
  · refine AW.seq ?_
    refine AW.draw tab_ok mixed_ok [(11, [7]), (12, [7])] [(0, []), (1, [5]), (2, [5]), (3, []), (4, []), (5, [1000]), (6, [5]), (7, [5]), (8, [1000]), (9, [1000, 999999]), (10, [1000]), (100012, [])] (by decide) (by kernel_rfl) ?_
    obtain ⟨c21, h⟩ := ck_some.1 h
    obtain ⟨c22, h⟩ := ck_some.1 h
    refine adops_cut 6 (fun K' hK20 => ?_)
    try dsimp only [List.drop_succ_cons, List.drop_zero, List.take_succ_cons, List.take_zero]
    simp only [go_sem]
    repeat (with_reducible refine And.intro (by first | assumption | rfl | omega | trivial | (unfold maxLen; omega)) ?_)
    refine hK20 _ ?_
    obtain ⟨c24, h⟩ := ck_some.1 h
    obtain ⟨c25, h⟩ := ck_some.1 h
    refine adops_cut 3 (fun K' hK23 => ?_)
    try dsimp only [List.drop_succ_cons, List.drop_zero, List.take_succ_cons, List.take_zero]
    simp only [go_sem]
    repeat (with_reducible refine And.intro (by first | assumption | rfl | omega | trivial | (unfold maxLen; omega)) ?_)
    refine hK23 _ ?_
    rcases Bool.eq_false_or_eq_true (decide (c.2.1 = 0)) with hb26 | hb26
    · rw [if_pos hb26] at h
      have hz27 : c.2.1 = 0 := by simpa using hb26
      refine adops_cut 5 (fun K' hK28 => ?_)
      try dsimp only [List.drop_succ_cons, List.drop_zero, List.take_succ_cons, List.take_zero]
      simp only [go_sem, hb26, hz27]
      repeat (with_reducible refine And.intro (by first | assumption | rfl | omega | trivial | (unfold maxLen; omega)) ?_)
      refine hK28 _ ?_
      refine adops_nil ?_
      refine athen_n ?_
      refine AW.weaken (s' := ⟨fr [(0, .bp 1000 0), (5, .bp 5 0), (7, .bp 7 0), (8, .int .i64 s.1)], hpGet [(5, .box 55 [.int .i64 c.1, .int .i64 0, .int .i64 c.2.2.1, .int .i64 c.2.2.2.1, .int .i64 c.2.2.2.2.1, .int .i64 c.2.2.2.2.2]), (7, .box 64 [.int .i64 (specs.getD 0 (0, 0, [], [])).1, .int .i64 (specs.getD 0 (0, 0, [], [])).2.1, .sl (.sl (.int .i64)) (specs.getD 0 (0, 0, [], [])).2.2.1, .sl (.sl (.int .i64)) (specs.getD 0 (0, 0, [], [])).2.2.2]), (1000, .box 92 [.int .i64 s.1, .int .i64 s.2])], gt⟩) (Wk.to (by (simp only [go_sem, hb26, hz27]) <;> (repeat' with_reducible apply And.intro) <;> first | assumption | rfl | omega | (unfold maxLen; omega))) ?_
      exact AW.weaken (Wk.le [] [] [] rfl (by (simp only [go_sem, hb26, hz27]) <;> (repeat' with_reducible apply And.intro) <;> first | assumption | rfl | omega | (unfold maxLen; omega)) (by (simp only [go_sem, hb26, hz27]) <;> (repeat' with_reducible apply And.intro) <;> first | assumption | rfl | omega | (unfold maxLen; omega))) (hk_history_states_answer_2_k1 _ h)
    · rw [if_neg (Bool.eq_false_iff.1 hb26)] at h
      have hz27 : c.2.1 = 1 := by have := of_decide_eq_false hb26; omega
      refine adops_cut 5 (fun K' hK29 => ?_)
      try dsimp only [List.drop_succ_cons, List.drop_zero, List.take_succ_cons, List.take_zero]
      simp only [go_sem, hb26, hz27]
      repeat (with_reducible refine And.intro (by first | assumption | rfl | omega | trivial | (unfold maxLen; omega)) ?_)
      refine hK29 _ ?_
      refine adops_nil ?_
      refine athen_n ?_
      refine AW.weaken (s' := ⟨fr [(0, .bp 1000 0), (5, .bp 5 0), (7, .bp 7 0), (8, .int .i64 s.2)], hpGet [(5, .box 55 [.int .i64 c.1, .int .i64 1, .int .i64 c.2.2.1, .int .i64 c.2.2.2.1, .int .i64 c.2.2.2.2.1, .int .i64 c.2.2.2.2.2]), (7, .box 64 [.int .i64 (specs.getD 1 (0, 0, [], [])).1, .int .i64 (specs.getD 1 (0, 0, [], [])).2.1, .sl (.sl (.int .i64)) (specs.getD 1 (0, 0, [], [])).2.2.1, .sl (.sl (.int .i64)) (specs.getD 1 (0, 0, [], [])).2.2.2]), (1000, .box 92 [.int .i64 s.1, .int .i64 s.2])], gt⟩) (Wk.to (by (simp only [go_sem, hb26, hz27]) <;> (repeat' with_reducible apply And.intro) <;> first | assumption | rfl | omega | (unfold maxLen; omega))) ?_
      exact AW.weaken (Wk.le [] [] [] rfl (by (simp only [go_sem, hb26, hz27]) <;> (repeat' with_reducible apply And.intro) <;> first | assumption | rfl | omega | (unfold maxLen; omega)) (by (simp only [go_sem, hb26, hz27]) <;> (repeat' with_reducible apply And.intro) <;> first | assumption | rfl | omega | (unfold maxLen; omega))) (hk_history_states_answer_2_k1 _ h)

set_option maxRecDepth 100000 in
set_option maxHeartbeats 2000000 in
theorem hc_history_Play_1 (a1 : List (Int × Int × (List (List Int)) × (List (List Int)))) (a0 : List (Int × Int × Int × Int × Int × Int)) {r : (List (Int × Int × Int × Int × Int × Int))} (h : history_Play_1 a1 a0 = some r) : HC Try.prog 112 [(1000, .box 23 [.own 1002]), (1001, .box 22 [.sl Y0 a1]), (1002, .arr 55 Y1 a0)] [.bp 1000 0, .bp 1001 0] [(1000, .box 23 [.own 1002]), (1001, .box 22 [.sl Y0 a1]), (1002, .arr 55 Y1 r)] (.own 1002) := by
  unfold history_Play_1 at h
  refine HC.of_body tab_ok (res := [.tmp 2]) Try.func112 rfl (by kernel_rfl) rfl (nt := 22) rfl (by decide) (by simp) ?_
  refine AW.seq ?_
  refine AW.ops ?_
  refine AO.allF tab_ok (by decide) [(0, .bp 1000 0), (1, .bp 1001 0)] [(1000, .box 23 [.own 1002]), (1001, .box 22 [.sl Y0 a1]), (1002, .arr 55 Y1 a0)] (by (simp only [go_sem]) <;> (repeat' with_reducible apply And.intro) <;> first | assumption | rfl | omega | (unfold maxLen; omega)) ?_
  refine athen_n ?_
  refine AW.seq ?_
  refine AW.ops ?_
  refine AO.allF tab_ok (by decide) [(0, .bp 1000 0), (1, .bp 1001 0), (3, .bp 3 0)] [(3, .box 92 [.int .i64 0, .int .i64 0]), (1000, .box 23 [.own 1002]), (1001, .box 22 [.sl Y0 a1]), (1002, .arr 55 Y1 a0)] (by (simp only [go_sem]) <;> (repeat' with_reducible apply And.intro) <;> first | assumption | rfl | omega | (unfold maxLen; omega)) ?_
  refine athen_n ?_
  refine AW.have1 (fun b1 : (List (Int × Int × Int × Int × Int × Int)) => history_Play_1_k1 b1 = some r) (fun b1 => ⟨fr [(0, .bp 1000 0)], hpGet [(1000, .box 23 [.own 1002]), (1001, .box 22 [.sl Y0 a1]), (1002, .arr 55 Y1 b1)], gt⟩) (fun b1 h => ?_) (fun hk_history_Play_1_k1 => ?_)
  · unfold history_Play_1_k1 at h
    refine AW.seq ?_
    refine AW.ops ?_
    refine AO.allF tab_ok (by decide) [(2, .own 1002)] [(1000, .box 23 [.own 1002]), (1001, .box 22 [.sl Y0 a1]), (1002, .arr 55 Y1 b1)] (by (simp only [go_sem]) <;> (repeat' with_reducible apply And.intro) <;> first | assumption | rfl | omega | (unfold maxLen; omega)) ?_
    refine athen_n ?_
    refine AW.ret ?_
    obtain rfl := Option.some.inj h
    exact ⟨rfl, [], [], [], rfl, (by (simp only [go_sem]) <;> (repeat' with_reducible apply And.intro) <;> first | assumption | rfl | omega | (unfold maxLen; omega))⟩
  · refine AW.seq ?_
    refine AW.seq ?_
    refine AW.ops ?_
    refine AO.allF tab_ok (by decide) [(0, .bp 1000 0), (1, .bp 1001 0), (3, .bp 3 0), (6, .own 1002), (7, .int .i64 (a0.length : Int)), (8, .int .i64 0)] [(3, .box 92 [.int .i64 0, .int .i64 0]), (1000, .box 23 [.own 1002]), (1001, .box 22 [.sl Y0 a1]), (1002, .arr 55 Y1 a0)] (by (simp only [go_sem]) <;> (repeat' with_reducible apply And.intro) <;> first | assumption | rfl | omega | (unfold maxLen; omega)) ?_
    refine athen_n ?_
    refine AW.block ?_
    obtain ⟨rv5, hw1, ho2⟩ := Option.bind_eq_some_iff.1 h
    refine AW.loopO (history_Play_1_b1 a1 a0) (fun st1 => ⟨fr [(0, .bp 1000 0), (1, .bp 1001 0), (3, .bp 3 0), (6, .own 1002), (7, .int .i64 (a0.length : Int)), (8, .int .i64 st1.2.2.2)], hpGet [(3, .box 92 [.int .i64 st1.2.1, .int .i64 st1.2.2.1]), (1000, .box 23 [.own 1002]), (1001, .box 22 [.sl Y0 a1]), (1002, .arr 55 Y1 st1.1)], gt⟩) (a0, 0, 0, 0) hw1 (Wk.le [] [] [] rfl (by (simp only [go_sem]) <;> (repeat' with_reducible apply And.intro) <;> first | assumption | rfl | omega | (unfold maxLen; omega)) (by (simp only [go_sem]) <;> (repeat' with_reducible apply And.intro) <;> first | assumption | rfl | omega | (unfold maxLen; omega))) ?_
    intro st1 x4 h hd3
    unfold history_Play_1_b1 at h
    refine AW.seq ?_
    refine AW.ops ?_
    refine AO.allF tab_ok (by decide) [(0, .bp 1000 0), (1, .bp 1001 0), (3, .bp 3 0), (6, .own 1002), (7, .int .i64 (a0.length : Int)), (8, .int .i64 st1.2.2.2), (9, .bool (decide (st1.2.2.2 < (a0.length : Int))))] [(3, .box 92 [.int .i64 st1.2.1, .int .i64 st1.2.2.1]), (1000, .box 23 [.own 1002]), (1001, .box 22 [.sl Y0 a1]), (1002, .arr 55 Y1 st1.1)] (by (simp only [go_sem]) <;> (repeat' with_reducible apply And.intro) <;> first | assumption | rfl | omega | (unfold maxLen; omega)) ?_
    refine athen_n ?_
    refine AW.seq ?_
    refine AW.cond (b := (decide (st1.2.2.2 < (a0.length : Int)))) rfl (fun hb6 => ?_) (fun hb6 => ?_)
    · rw [if_pos hb6] at h
      refine AW.skip ?_
      refine athen_n ?_
      refine AW.seq ?_
      refine AW.block ?_
      refine AW.seq ?_
      refine AW.ops ?_
      obtain ⟨c7, h⟩ := ck_some.1 h
      obtain ⟨c8, h⟩ := ck_some.1 h
      refine AO.allF tab_ok (by decide) [(0, .bp 1000 0), (1, .bp 1001 0), (3, .bp 3 0), (4, .int .i64 st1.2.2.2), (5, .bp 5 0), (6, .own 1002), (7, .int .i64 (a0.length : Int)), (8, .int .i64 st1.2.2.2)] [(3, .box 92 [.int .i64 st1.2.1, .int .i64 st1.2.2.1]), (5, .box 55 [.int .i64 (st1.1.getD st1.2.2.2.toNat (0, 0, 0, 0, 0, 0)).1, .int .i64 (st1.1.getD st1.2.2.2.toNat (0, 0, 0, 0, 0, 0)).2.1, .int .i64 (st1.1.getD st1.2.2.2.toNat (0, 0, 0, 0, 0, 0)).2.2.1, .int .i64 (st1.1.getD st1.2.2.2.toNat (0, 0, 0, 0, 0, 0)).2.2.2.1, .int .i64 (st1.1.getD st1.2.2.2.toNat (0, 0, 0, 0, 0, 0)).2.2.2.2.1, .int .i64 (st1.1.getD st1.2.2.2.toNat (0, 0, 0, 0, 0, 0)).2.2.2.2.2]), (1000, .box 23 [.own 1002]), (1001, .box 22 [.sl Y0 a1]), (1002, .arr 55 Y1 st1.1)] (by (simp only [go_sem, hb6]) <;> (repeat' with_reducible apply And.intro) <;> first | assumption | rfl | omega | (unfold maxLen; omega)) ?_
      refine athen_n ?_
      refine AW.draw tab_ok mixed_ok [(4, [3]), (7, [1002])] [(0, [1000, 1002, 1000001002]), (1, []), (100007, [])] (by decide) (by kernel_rfl) ?_
      refine adops_cut 4 (fun K' hK9 => ?_)
      try dsimp only [List.drop_succ_cons, List.drop_zero, List.take_succ_cons, List.take_zero]
      simp only [go_sem, hb6]
      repeat (with_reducible refine And.intro (by first | assumption | rfl | omega | trivial | (unfold maxLen; omega)) ?_)
      refine hK9 _ ?_
      obtain ⟨v0, hv10, h⟩ := Option.bind_eq_some_iff.1 h
      refine adops.call (by first | trivial | rfl) rfl rfl rfl (fun _ h => h) [] [(1000, 3)] (hc_history_states_answer_2 a1 (st1.1.getD st1.2.2.2.toNat (0, 0, 0, 0, 0, 0)) (st1.2.1, st1.2.2.1) hv10) rfl (by (simp only [go_sem, hb6]) <;> (repeat' with_reducible apply And.intro) <;> first | assumption | rfl | omega | (unfold maxLen; omega)) (by (simp only [go_sem, hb6]) <;> (repeat' with_reducible apply And.intro) <;> first | assumption | rfl | omega | (unfold maxLen; omega)) rfl ?_
      obtain ⟨c12, h⟩ := ck_some.1 h
      obtain ⟨c13, h⟩ := ck_some.1 h
      refine adops_cut 3 (fun K' hK11 => ?_)
      try dsimp only [List.drop_succ_cons, List.drop_zero, List.take_succ_cons, List.take_zero]
      simp only [go_sem, hb6]
      repeat (with_reducible refine And.intro (by first | assumption | rfl | omega | trivial | (unfold maxLen; omega)) ?_)
      refine hK11 _ ?_
      refine adops_nil ?_
      refine ablock_n ?_
      refine athen_n ?_
      refine AW.weaken (s' := ⟨fr [(0, .bp 1000 0), (1, .bp 1001 0), (3, .bp 3 0), (6, .own 1002), (7, .int .i64 (a0.length : Int)), (8, .int .i64 st1.2.2.2)], hpGet [(3, .box 92 [.int .i64 v0.2.1, .int .i64 v0.2.2]), (1000, .box 23 [.own 1002]), (1001, .box 22 [.sl Y0 a1]), (1002, .arr 55 Y1 (st1.1.set st1.2.2.2.toNat ((st1.1.getD st1.2.2.2.toNat (0, 0, 0, 0, 0, 0)).1, (st1.1.getD st1.2.2.2.toNat (0, 0, 0, 0, 0, 0)).2.1, (st1.1.getD st1.2.2.2.toNat (0, 0, 0, 0, 0, 0)).2.2.1, v0.1, (st1.1.getD st1.2.2.2.toNat (0, 0, 0, 0, 0, 0)).2.2.2.2)))], gt⟩) (Wk.to (by (simp only [go_sem, hb6]) <;> (repeat' with_reducible apply And.intro) <;> first | assumption | rfl | omega | (unfold maxLen; omega))) ?_
      refine AW.ops ?_
      obtain ⟨c14, h⟩ := ck_some.1 h
      refine AO.allF tab_ok (by decide) [(0, .bp 1000 0), (1, .bp 1001 0), (3, .bp 3 0), (6, .own 1002), (7, .int .i64 (a0.length : Int)), (8, .int .i64 (st1.2.2.2 + 1))] [(3, .box 92 [.int .i64 v0.2.1, .int .i64 v0.2.2]), (1000, .box 23 [.own 1002]), (1001, .box 22 [.sl Y0 a1]), (1002, .arr 55 Y1 (st1.1.set st1.2.2.2.toNat ((st1.1.getD st1.2.2.2.toNat (0, 0, 0, 0, 0, 0)).1, (st1.1.getD st1.2.2.2.toNat (0, 0, 0, 0, 0, 0)).2.1, (st1.1.getD st1.2.2.2.toNat (0, 0, 0, 0, 0, 0)).2.2.1, v0.1, (st1.1.getD st1.2.2.2.toNat (0, 0, 0, 0, 0, 0)).2.2.2.2)))] (by (simp only [go_sem, hb6]) <;> (repeat' with_reducible apply And.intro) <;> first | assumption | rfl | omega | (unfold maxLen; omega)) ?_
      obtain rfl := Option.some.inj h
      exact ⟨_, rfl, Wk.le [] [] [] rfl (by (simp only [go_sem, hb6]) <;> (repeat' with_reducible apply And.intro) <;> first | assumption | rfl | omega | (unfold maxLen; omega)) (by (simp only [go_sem, hb6]) <;> (repeat' with_reducible apply And.intro) <;> first | assumption | rfl | omega | (unfold maxLen; omega))⟩
    · rw [if_neg (Bool.eq_false_iff.1 hb6)] at h
      refine AW.exit ?_
      refine athen_e ?_
      obtain rfl := Option.some.inj h
      rw [← hd3 _ rfl] at ho2
      have h := ho2
      refine athen_e ?_
      refine ablock_s ?_
      refine athen_n ?_
      exact AW.weaken (Wk.le [] [] [] rfl (by (simp only [go_sem, hb6]) <;> (repeat' with_reducible apply And.intro) <;> first | assumption | rfl | omega | (unfold maxLen; omega)) (by (simp only [go_sem, hb6]) <;> (repeat' with_reducible apply And.intro) <;> first | assumption | rfl | omega | (unfold maxLen; omega))) (hk_history_Play_1_k1 _ h)

set_option maxRecDepth 100000 in
set_option maxHeartbeats 2000000 in
theorem hc_history_told_15 (c1 : List (Int × Int × (List (List Int)) × (List (List Int)))) (c0 : List (Int × Int × Int × Int × Int × Int)) {r : (List (Int × Int × Int × Int × Int × Int))} (h : history_told_15 c1 c0 = some r) : HC Try.prog 98 [(1000, .box 23 [.own 1002]), (1001, .box 22 [.sl Y0 c1]), (1002, .arr 55 Y1 c0)] [.int .i64 0, .fn (.func 112) [] [.bp 1000 0, .bp 1001 0]] [(1002, .arr 55 Y1 r)] (.tup [.own 1002, .int .i64 0]) := by
  unfold history_told_15 at h
  refine HC.of_body tab_ok (res := [.tmp 4, .tmp 5]) Try.func98 rfl (by kernel_rfl) rfl (nt := 13) rfl (by decide) (by simp) ?_
  refine AW.seq ?_
  refine AW.ops ?_
  refine AO.allF tab_ok (by decide) [(0, .int .i64 0), (1, .fn (.func 112) [] [.bp 1000 0, .bp 1001 0])] [(1000, .box 23 [.own 1002]), (1001, .box 22 [.sl Y0 c1]), (1002, .arr 55 Y1 c0)] (by (simp only [go_sem]) <;> (repeat' with_reducible apply And.intro) <;> first | assumption | rfl | omega | (unfold maxLen; omega)) ?_
  refine athen_n ?_
  refine AW.seq ?_
  refine AW.seq ?_
  refine AW.ops ?_
  refine AO.allF tab_ok (by decide) [(0, .int .i64 0), (1, .fn (.func 112) [] [.bp 1000 0, .bp 1001 0]), (8, .bool false)] [(1000, .box 23 [.own 1002]), (1001, .box 22 [.sl Y0 c1]), (1002, .arr 55 Y1 c0)] (by (simp only [go_sem]) <;> (repeat' with_reducible apply And.intro) <;> first | assumption | rfl | omega | (unfold maxLen; omega)) ?_
  refine athen_n ?_
  refine AW.cond (b := false) rfl (fun hb1 => by cases hb1) (fun _ => ?_)
  refine AW.skip ?_
  refine athen_n ?_
  refine AW.seq ?_
  refine AW.ops ?_
  refine AO.segF tab_ok 1 (by decide) [(11, .fn (.func 112) [] [.bp 1000 0, .bp 1001 0])] [(1000, .box 23 [.own 1002]), (1001, .box 22 [.sl Y0 c1]), (1002, .arr 55 Y1 c0)] (by (simp only [go_sem]) <;> (repeat' with_reducible apply And.intro) <;> first | assumption | rfl | omega | (unfold maxLen; omega)) ?_
  obtain ⟨v0, hv2, h⟩ := Option.bind_eq_some_iff.1 h
  refine AO.call tab_ok (by decide) rfl rfl rfl (fun _ h => h) [] [(1000, 1000), (1001, 1001), (1002, 1002)] (hc_history_Play_1 c1 c0 hv2) rfl (by (simp only [go_sem]) <;> (repeat' with_reducible apply And.intro) <;> first | assumption | rfl | omega | (unfold maxLen; omega)) (by (simp only [go_sem]) <;> (repeat' with_reducible apply And.intro) <;> first | assumption | rfl | omega | (unfold maxLen; omega)) [(12, .own 1002)] [(1000, .box 23 [.own 1002]), (1001, .box 22 [.sl Y0 c1]), (1002, .arr 55 Y1 v0)] (by (simp only [go_sem]) <;> (repeat' with_reducible apply And.intro) <;> first | assumption | rfl | omega | (unfold maxLen; omega)) ?_
  refine AO.allF tab_ok (by decide) [(4, .own 1002), (5, .int .i64 0)] [(1000, .box 23 [.own 1002]), (1001, .box 22 [.sl Y0 c1]), (1002, .arr 55 Y1 v0)] (by (simp only [go_sem]) <;> (repeat' with_reducible apply And.intro) <;> first | assumption | rfl | omega | (unfold maxLen; omega)) ?_
  refine athen_n ?_
  refine AW.ret ?_
  obtain rfl := Option.some.inj h
  exact ⟨rfl, [], [], [], rfl, (by (simp only [go_sem]) <;> (repeat' with_reducible apply And.intro) <;> first | assumption | rfl | omega | (unfold maxLen; omega))⟩

set_option maxRecDepth 100000 in
set_option maxHeartbeats 2000000 in
theorem hc_history_told_16 (err : Int) (c1 : List (Int × Int × (List (List Int)) × (List (List Int)))) (c0 : List (Int × Int × Int × Int × Int × Int)) (hnz_err : decide (err = 0) = false) {r : Unit} (h : history_told_16 err c1 c0 = some r) : HC Try.prog 98 [(1000, .box 23 [.own 1002]), (1001, .box 22 [.sl Y0 c1]), (1002, .arr 55 Y1 c0)] [.int .i64 err, .fn (.func 112) [] [.bp 1000 0, .bp 1001 0]] [] (.tup [.cv (.slice none 0 0), .int .i64 err]) := by
  unfold history_told_16 at h
  refine HC.of_body tab_ok (res := [.tmp 4, .tmp 5]) Try.func98 rfl (by kernel_rfl) rfl (nt := 13) rfl (by decide) (by simp) ?_
  refine AW.seq ?_
  refine AW.ops ?_
  refine AO.allF tab_ok (by decide) [(0, .int .i64 err), (1, .fn (.func 112) [] [.bp 1000 0, .bp 1001 0])] [(1000, .box 23 [.own 1002]), (1001, .box 22 [.sl Y0 c1]), (1002, .arr 55 Y1 c0)] (by (simp only [go_sem, hnz_err]) <;> (repeat' with_reducible apply And.intro) <;> first | assumption | rfl | omega | (unfold maxLen; omega)) ?_
  refine athen_n ?_
  refine AW.seq ?_
  refine AW.seq ?_
  refine AW.ops ?_
  refine AO.allF tab_ok (by decide) [(0, .int .i64 err), (1, .fn (.func 112) [] [.bp 1000 0, .bp 1001 0]), (8, .bool true)] [(1000, .box 23 [.own 1002]), (1001, .box 22 [.sl Y0 c1]), (1002, .arr 55 Y1 c0)] (by (simp only [go_sem, hnz_err]) <;> (repeat' with_reducible apply And.intro) <;> first | assumption | rfl | omega | (unfold maxLen; omega)) ?_
  refine athen_n ?_
  refine AW.cond (b := true) rfl (fun _ => ?_) (fun hb1 => by cases hb1)
  refine AW.seq ?_
  refine AW.ops ?_
  refine AO.allF tab_ok (by decide) [(0, .int .i64 err), (6, .cv (.slice none 0 0))] [(1000, .box 23 [.own 1002]), (1001, .box 22 [.sl Y0 c1]), (1002, .arr 55 Y1 c0)] (by (simp only [go_sem, hnz_err]) <;> (repeat' with_reducible apply And.intro) <;> first | assumption | rfl | omega | (unfold maxLen; omega)) ?_
  refine athen_n ?_
  refine AW.seq ?_
  refine AW.ops ?_
  refine AO.allF tab_ok (by decide) [(4, .cv (.slice none 0 0)), (5, .int .i64 err)] [(1000, .box 23 [.own 1002]), (1001, .box 22 [.sl Y0 c1]), (1002, .arr 55 Y1 c0)] (by (simp only [go_sem, hnz_err]) <;> (repeat' with_reducible apply And.intro) <;> first | assumption | rfl | omega | (unfold maxLen; omega)) ?_
  refine athen_n ?_
  refine AW.ret ?_
  refine athen_r ?_
  obtain rfl := Option.some.inj h
  exact ⟨rfl, [], [], [], rfl, (by (simp only [go_sem, hnz_err]) <;> (repeat' with_reducible apply And.intro) <;> first | assumption | rfl | omega | (unfold maxLen; omega))⟩

set_option maxRecDepth 100000 in
set_option maxHeartbeats 2000000 in
theorem hc_history_Play (specs : List (Int × Int × (List (List Int)) × (List (List Int)))) (word : List (Int × Int × Int × Int × Int × Int)) {r : (List (Int × Int × Int × Int × Int × Int)) × Int} (h : history_Play specs word = some r) : HC Try.prog 52 [] [.sl Y0 specs, .sl Y1 word] [(2000, .arr 55 Y1 r.1)] (.tup [.own 2000, .int .i64 r.2]) := by
  unfold history_Play at h
  refine HC.of_body tab_ok (res := [.tmp 4, .tmp 5]) Try.func52 rfl (by kernel_rfl) rfl (nt := 59) rfl (by decide) (by simp) ?_
  refine AW.seq ?_
  refine AW.ops ?_
  refine AO.allF tab_ok (by decide) [(1, .sl Y1 word), (2, .bp 2 0)] [(2, .box 22 [.sl Y0 specs])] (by (simp only [go_sem]) <;> (repeat' with_reducible apply And.intro) <;> first | assumption | rfl | omega | (unfold maxLen; omega)) ?_
  refine athen_n ?_
  refine AW.seq ?_
  refine AW.seq ?_
  refine AW.ops ?_
  refine AO.segF tab_ok 1 (by decide) [(1, .sl Y1 word), (2, .bp 2 0), (10, .sl Y0 specs)] [(2, .box 22 [.sl Y0 specs])] (by (simp only [go_sem]) <;> (repeat' with_reducible apply And.intro) <;> first | assumption | rfl | omega | (unfold maxLen; omega)) ?_
  obtain ⟨v0, hv1, h⟩ := Option.bind_eq_some_iff.1 h
  refine AO.call tab_ok (by decide) rfl rfl rfl (fun _ h => h) [] [] (hc_history_checkSpecs specs hv1) rfl (by (simp only [go_sem]) <;> (repeat' with_reducible apply And.intro) <;> first | assumption | rfl | omega | (unfold maxLen; omega)) (by (simp only [go_sem]) <;> (repeat' with_reducible apply And.intro) <;> first | assumption | rfl | omega | (unfold maxLen; omega)) [(1, .sl Y1 word), (2, .bp 2 0), (11, .int .i64 v0)] [(2, .box 22 [.sl Y0 specs])] (by (simp only [go_sem]) <;> (repeat' with_reducible apply And.intro) <;> first | assumption | rfl | omega | (unfold maxLen; omega)) ?_
  refine AO.allF tab_ok (by decide) [(1, .sl Y1 word), (2, .bp 2 0), (6, .int .i64 v0)] [(2, .box 22 [.sl Y0 specs])] (by (simp only [go_sem]) <;> (repeat' with_reducible apply And.intro) <;> first | assumption | rfl | omega | (unfold maxLen; omega)) ?_
  refine athen_n ?_
  refine AW.seq ?_
  refine AW.ops ?_
  refine AO.allF tab_ok (by decide) [(1, .sl Y1 word), (2, .bp 2 0), (6, .int .i64 v0), (13, .bool (!(decide (v0 = 0))))] [(2, .box 22 [.sl Y0 specs])] (by (simp only [go_sem]) <;> (repeat' with_reducible apply And.intro) <;> first | assumption | rfl | omega | (unfold maxLen; omega)) ?_
  refine athen_n ?_
  refine AW.cond (b := (!(decide (v0 = 0)))) rfl (fun hb2 => ?_) (fun hb2 => ?_)
  · rw [if_pos hb2] at h
    refine AW.seq ?_
    refine AW.ops ?_
    refine AO.allF tab_ok (by decide) [(4, .cv (.slice none 0 0)), (5, .int .i64 v0)] [] (by (simp only [go_sem, hb2]) <;> (repeat' with_reducible apply And.intro) <;> first | assumption | rfl | omega | (unfold maxLen; omega)) ?_
    refine athen_n ?_
    refine AW.ret ?_
    refine athen_r ?_
    obtain rfl := Option.some.inj h
    exact ⟨rfl, [], [2000], [], rfl, (by (simp only [go_sem, hb2]) <;> (repeat' with_reducible apply And.intro) <;> first | assumption | rfl | omega | (unfold maxLen; omega))⟩
  · rw [if_neg (Bool.eq_false_iff.1 hb2)] at h
    refine AW.skip ?_
    refine athen_n ?_
    refine AW.seq ?_
    refine AW.ops ?_
    refine AO.segF tab_ok 1 (by decide) [(1, .sl Y1 word), (2, .bp 2 0), (15, .sl Y1 word)] [(2, .box 22 [.sl Y0 specs])] (by (simp only [go_sem, hb2]) <;> (repeat' with_reducible apply And.intro) <;> first | assumption | rfl | omega | (unfold maxLen; omega)) ?_
    obtain ⟨v0_2, hv3, h⟩ := Option.bind_eq_some_iff.1 h
    refine AO.call tab_ok (by decide) rfl rfl rfl (fun _ h => h) [] [] (hc_slices_Clone word hv3) rfl (by (simp only [go_sem, hb2]) <;> (repeat' with_reducible apply And.intro) <;> first | assumption | rfl | omega | (unfold maxLen; omega)) (by (simp only [go_sem, hb2]) <;> (repeat' with_reducible apply And.intro) <;> first | assumption | rfl | omega | (unfold maxLen; omega)) [(1, .sl Y1 word), (2, .bp 2 0), (16, .own 26000)] [(2, .box 22 [.sl Y0 specs]), (26000, .arr 55 Y1 v0_2)] (by (simp only [go_sem, hb2]) <;> (repeat' with_reducible apply And.intro) <;> first | assumption | rfl | omega | (unfold maxLen; omega)) ?_
    refine AO.allF tab_ok (by decide) [(1, .sl Y1 word), (2, .bp 2 0), (7, .bp 7 0)] [(2, .box 22 [.sl Y0 specs]), (7, .box 23 [.own 26000]), (26000, .arr 55 Y1 v0_2)] (by (simp only [go_sem, hb2]) <;> (repeat' with_reducible apply And.intro) <;> first | assumption | rfl | omega | (unfold maxLen; omega)) ?_
    refine athen_n ?_
    refine AW.have1 (fun b1 : (List (Int × Int × Int × Int × Int × Int)) => history_Play_k1 specs b1 = some r) (fun b1 => ⟨fr [(2, .bp 2 0), (7, .bp 7 0)], hpGet [(2, .box 22 [.sl Y0 specs]), (7, .box 23 [.own 26000]), (26000, .arr 55 Y1 b1)], gt⟩) (fun b1 h => ?_) (fun hk_history_Play_k1 => ?_)
    · unfold history_Play_k1 at h
      refine AW.seq ?_
      refine AW.ops ?_
      refine AO.segF tab_ok 2 (by decide) [(2, .bp 2 0), (7, .bp 7 0), (52, .sl Y0 specs), (53, .own 26000)] [(2, .box 22 [.sl Y0 specs]), (7, .box 23 [.own 26000]), (26000, .arr 55 Y1 b1)] (by (simp only [go_sem, hb2]) <;> (repeat' with_reducible apply And.intro) <;> first | assumption | rfl | omega | (unfold maxLen; omega)) ?_
      obtain ⟨v0_3, hv4, h⟩ := Option.bind_eq_some_iff.1 h
      refine AO.call tab_ok (by decide) rfl rfl rfl (fun _ h => h) [26000] [] (hc_history_checkFor specs b1 hv4) rfl (by (simp only [go_sem, hb2]) <;> (repeat' with_reducible apply And.intro) <;> first | assumption | rfl | omega | (unfold maxLen; omega)) (by (simp only [go_sem, hb2]) <;> (repeat' with_reducible apply And.intro) <;> first | assumption | rfl | omega | (unfold maxLen; omega)) [(2, .bp 2 0), (7, .bp 7 0), (54, .int .i64 v0_3)] [(2, .box 22 [.sl Y0 specs]), (7, .box 23 [.own 26000]), (26000, .arr 55 Y1 b1)] (by (simp only [go_sem, hb2]) <;> (repeat' with_reducible apply And.intro) <;> first | assumption | rfl | omega | (unfold maxLen; omega)) ?_
      refine AO.segF tab_ok 1 (by decide) [(54, .int .i64 v0_3), (55, .fn (.func 112) [] [.bp 7 0, .bp 2 0])] [(2, .box 22 [.sl Y0 specs]), (7, .box 23 [.own 26000]), (26000, .arr 55 Y1 b1)] (by (simp only [go_sem, hb2]) <;> (repeat' with_reducible apply And.intro) <;> first | assumption | rfl | omega | (unfold maxLen; omega)) ?_
      rcases Bool.eq_false_or_eq_true (decide (v0_3 = 0)) with hb5 | hb5
      · rw [if_pos hb5] at h
        have hz6 : v0_3 = 0 := by simpa using hb5
        refine AO.weaken (s' := ⟨fr [(54, .int .i64 0), (55, .fn (.func 112) [] [.bp 7 0, .bp 2 0])], hpGet [(2, .box 22 [.sl Y0 specs]), (7, .box 23 [.own 26000]), (26000, .arr 55 Y1 b1)], gt⟩) (Wk.to (by (simp only [go_sem, hb2, hb5, hz6]) <;> (repeat' with_reducible apply And.intro) <;> first | assumption | rfl | omega | (unfold maxLen; omega))) ?_
        obtain ⟨v0_4, hv7, h⟩ := Option.bind_eq_some_iff.1 h
        refine AO.call tab_ok (by decide) rfl rfl rfl (fun _ h => h) [] [(1000, 7), (1001, 2), (1002, 26000)] (hc_history_told_15 specs b1 hv7) rfl (by (simp only [go_sem, hb2, hb5, hz6]) <;> (repeat' with_reducible apply And.intro) <;> first | assumption | rfl | omega | (unfold maxLen; omega)) (by (simp only [go_sem, hb2, hb5, hz6]) <;> (repeat' with_reducible apply And.intro) <;> first | assumption | rfl | omega | (unfold maxLen; omega)) [(56, .tup [.own 26000, .int .i64 0])] [(26000, .arr 55 Y1 v0_4)] (by (simp only [go_sem, hb2, hb5, hz6]) <;> (repeat' with_reducible apply And.intro) <;> first | assumption | rfl | omega | (unfold maxLen; omega)) ?_
        refine AO.allF tab_ok (by decide) [(4, .own 26000), (5, .int .i64 0)] [(26000, .arr 55 Y1 v0_4)] (by (simp only [go_sem, hb2, hb5, hz6]) <;> (repeat' with_reducible apply And.intro) <;> first | assumption | rfl | omega | (unfold maxLen; omega)) ?_
        refine athen_n ?_
        refine AW.ret ?_
        obtain rfl := Option.some.inj h
        exact ⟨rfl, [], [], [(2000, 26000)], rfl, (by (simp only [go_sem, hb2, hb5, hz6]) <;> (repeat' with_reducible apply And.intro) <;> first | assumption | rfl | omega | (unfold maxLen; omega))⟩
      · rw [if_neg (Bool.eq_false_iff.1 hb5)] at h
        refine AO.weaken (s' := ⟨fr [(54, .int .i64 v0_3), (55, .fn (.func 112) [] [.bp 7 0, .bp 2 0])], hpGet [(2, .box 22 [.sl Y0 specs]), (7, .box 23 [.own 26000]), (26000, .arr 55 Y1 b1)], gt⟩) (Wk.to (by (simp only [go_sem, hb2, hb5]) <;> (repeat' with_reducible apply And.intro) <;> first | assumption | rfl | omega | (unfold maxLen; omega))) ?_
        obtain ⟨v0_5, hv8, h⟩ := Option.bind_eq_some_iff.1 h
        refine AO.call tab_ok (by decide) rfl rfl rfl (fun _ h => h) [] [(1000, 7), (1001, 2), (1002, 26000)] (hc_history_told_16 v0_3 specs b1 hb5 hv8) rfl (by (simp only [go_sem, hb2, hb5]) <;> (repeat' with_reducible apply And.intro) <;> first | assumption | rfl | omega | (unfold maxLen; omega)) (by (simp only [go_sem, hb2, hb5]) <;> (repeat' with_reducible apply And.intro) <;> first | assumption | rfl | omega | (unfold maxLen; omega)) [(56, .tup [.cv (.slice none 0 0), .int .i64 v0_3])] [] (by (simp only [go_sem, hb2, hb5]) <;> (repeat' with_reducible apply And.intro) <;> first | assumption | rfl | omega | (unfold maxLen; omega)) ?_
        refine AO.allF tab_ok (by decide) [(4, .cv (.slice none 0 0)), (5, .int .i64 v0_3)] [] (by (simp only [go_sem, hb2, hb5]) <;> (repeat' with_reducible apply And.intro) <;> first | assumption | rfl | omega | (unfold maxLen; omega)) ?_
        refine athen_n ?_
        refine AW.ret ?_
        obtain rfl := Option.some.inj h
        exact ⟨rfl, [], [2000], [], rfl, (by (simp only [go_sem, hb2, hb5]) <;> (repeat' with_reducible apply And.intro) <;> first | assumption | rfl | omega | (unfold maxLen; omega))⟩
    · refine AW.seq ?_
      refine AW.seq ?_
      refine AW.ops ?_
      refine AO.allF tab_ok (by decide) [(2, .bp 2 0), (7, .bp 7 0), (17, .sl Y1 word), (18, .int .i64 (word.length : Int)), (19, .int .i64 0)] [(2, .box 22 [.sl Y0 specs]), (7, .box 23 [.own 26000]), (26000, .arr 55 Y1 v0_2)] (by (simp only [go_sem, hb2]) <;> (repeat' with_reducible apply And.intro) <;> first | assumption | rfl | omega | (unfold maxLen; omega)) ?_
      refine athen_n ?_
      refine AW.block ?_
      obtain ⟨rv13, hw9, ho10⟩ := Option.bind_eq_some_iff.1 h
      refine AW.loopO (history_Play_b1 word) (fun st1 => ⟨fr [(2, .bp 2 0), (7, .bp 7 0), (17, .sl Y1 word), (18, .int .i64 (word.length : Int)), (19, .int .i64 st1.2)], hpGet [(2, .box 22 [.sl Y0 specs]), (7, .box 23 [.own 26000]), (26000, .arr 55 Y1 st1.1)], gt⟩) (v0_2, 0) hw9 (Wk.le [] [] [] rfl (by (simp only [go_sem, hb2]) <;> (repeat' with_reducible apply And.intro) <;> first | assumption | rfl | omega | (unfold maxLen; omega)) (by (simp only [go_sem, hb2]) <;> (repeat' with_reducible apply And.intro) <;> first | assumption | rfl | omega | (unfold maxLen; omega))) ?_
      intro st1 x12 h hd11
      unfold history_Play_b1 at h
      refine AW.seq ?_
      refine AW.ops ?_
      refine AO.allF tab_ok (by decide) [(2, .bp 2 0), (7, .bp 7 0), (17, .sl Y1 word), (18, .int .i64 (word.length : Int)), (19, .int .i64 st1.2), (20, .bool (decide (st1.2 < (word.length : Int))))] [(2, .box 22 [.sl Y0 specs]), (7, .box 23 [.own 26000]), (26000, .arr 55 Y1 st1.1)] (by (simp only [go_sem, hb2]) <;> (repeat' with_reducible apply And.intro) <;> first | assumption | rfl | omega | (unfold maxLen; omega)) ?_
      refine athen_n ?_
      refine AW.seq ?_
      refine AW.cond (b := (decide (st1.2 < (word.length : Int)))) rfl (fun hb14 => ?_) (fun hb14 => ?_)
      · rw [if_pos hb14] at h
        refine AW.skip ?_
        refine athen_n ?_
        refine AW.seq ?_
        refine AW.block ?_
        refine AW.seq ?_
        refine AW.ops ?_
        obtain ⟨c15, h⟩ := ck_some.1 h
        obtain ⟨c16, h⟩ := ck_some.1 h
        refine AO.allF tab_ok (by decide) [(2, .bp 2 0), (7, .bp 7 0), (8, .int .i64 st1.2), (9, .bp 9 0), (17, .sl Y1 word), (18, .int .i64 (word.length : Int)), (19, .int .i64 st1.2)] [(2, .box 22 [.sl Y0 specs]), (7, .box 23 [.own 26000]), (9, .box 55 [.int .i64 (word.getD st1.2.toNat (0, 0, 0, 0, 0, 0)).1, .int .i64 (word.getD st1.2.toNat (0, 0, 0, 0, 0, 0)).2.1, .int .i64 (word.getD st1.2.toNat (0, 0, 0, 0, 0, 0)).2.2.1, .int .i64 (word.getD st1.2.toNat (0, 0, 0, 0, 0, 0)).2.2.2.1, .int .i64 (word.getD st1.2.toNat (0, 0, 0, 0, 0, 0)).2.2.2.2.1, .int .i64 (word.getD st1.2.toNat (0, 0, 0, 0, 0, 0)).2.2.2.2.2]), (26000, .arr 55 Y1 st1.1)] (by (simp only [go_sem, hb2, hb14]) <;> (repeat' with_reducible apply And.intro) <;> first | assumption | rfl | omega | (unfold maxLen; omega)) ?_
        refine athen_n ?_
        refine AW.seq ?_
        refine AW.seq ?_
        refine AW.ops ?_
        refine AO.segF tab_ok 4 (by decide) [(2, .bp 2 0), (7, .bp 7 0), (8, .int .i64 st1.2), (9, .bp 9 0), (17, .sl Y1 word), (18, .int .i64 (word.length : Int)), (19, .int .i64 st1.2), (27, .bool (!(decide ((word.getD st1.2.toNat (0, 0, 0, 0, 0, 0)).2.2.2.1 = 0))))] [(2, .box 22 [.sl Y0 specs]), (7, .box 23 [.own 26000]), (9, .box 55 [.int .i64 (word.getD st1.2.toNat (0, 0, 0, 0, 0, 0)).1, .int .i64 (word.getD st1.2.toNat (0, 0, 0, 0, 0, 0)).2.1, .int .i64 (word.getD st1.2.toNat (0, 0, 0, 0, 0, 0)).2.2.1, .int .i64 (word.getD st1.2.toNat (0, 0, 0, 0, 0, 0)).2.2.2.1, .int .i64 (word.getD st1.2.toNat (0, 0, 0, 0, 0, 0)).2.2.2.2.1, .int .i64 (word.getD st1.2.toNat (0, 0, 0, 0, 0, 0)).2.2.2.2.2]), (26000, .arr 55 Y1 st1.1)] (by (simp only [go_sem, hb2, hb14]) <;> (repeat' with_reducible apply And.intro) <;> first | assumption | rfl | omega | (unfold maxLen; omega)) ?_
        rcases Bool.eq_false_or_eq_true (!(decide ((word.getD st1.2.toNat (0, 0, 0, 0, 0, 0)).2.2.2.1 = 0))) with hb17 | hb17
        · rw [if_pos hb17] at h
          refine AO.weaken (s' := ⟨fr [(2, .bp 2 0), (7, .bp 7 0), (8, .int .i64 st1.2), (9, .bp 9 0), (17, .sl Y1 word), (18, .int .i64 (word.length : Int)), (19, .int .i64 st1.2), (27, .bool true)], hpGet [(2, .box 22 [.sl Y0 specs]), (7, .box 23 [.own 26000]), (9, .box 55 [.int .i64 (word.getD st1.2.toNat (0, 0, 0, 0, 0, 0)).1, .int .i64 (word.getD st1.2.toNat (0, 0, 0, 0, 0, 0)).2.1, .int .i64 (word.getD st1.2.toNat (0, 0, 0, 0, 0, 0)).2.2.1, .int .i64 (word.getD st1.2.toNat (0, 0, 0, 0, 0, 0)).2.2.2.1, .int .i64 (word.getD st1.2.toNat (0, 0, 0, 0, 0, 0)).2.2.2.2.1, .int .i64 (word.getD st1.2.toNat (0, 0, 0, 0, 0, 0)).2.2.2.2.2]), (26000, .arr 55 Y1 st1.1)], gt⟩) (Wk.to (by (simp only [go_sem, hb2, hb14, hb17]) <;> (repeat' with_reducible apply And.intro) <;> first | assumption | rfl | omega | (unfold maxLen; omega))) ?_
          refine AO.segF tab_ok 6 (by decide) [(2, .bp 2 0), (7, .bp 7 0), (8, .int .i64 st1.2), (17, .sl Y1 word), (18, .int .i64 (word.length : Int)), (19, .int .i64 st1.2), (32, .bool true), (33, .cv (undef))] [(2, .box 22 [.sl Y0 specs]), (7, .box 23 [.own 26000]), (26000, .arr 55 Y1 st1.1)] (by (simp only [go_sem, hb2, hb14, hb17]) <;> (repeat' with_reducible apply And.intro) <;> first | assumption | rfl | omega | (unfold maxLen; omega)) ?_
          refine AO.allF tab_ok (by decide) [(2, .bp 2 0), (7, .bp 7 0), (8, .int .i64 st1.2), (17, .sl Y1 word), (18, .int .i64 (word.length : Int)), (19, .int .i64 st1.2), (36, .bool true)] [(2, .box 22 [.sl Y0 specs]), (7, .box 23 [.own 26000]), (26000, .arr 55 Y1 st1.1)] (by (simp only [go_sem, hb2, hb14, hb17]) <;> (repeat' with_reducible apply And.intro) <;> first | assumption | rfl | omega | (unfold maxLen; omega)) ?_
          refine athen_n ?_
          refine AW.cond (b := true) rfl (fun _ => ?_) (fun hb18 => by cases hb18)
          refine AW.seq ?_
          refine AW.ops ?_
          refine AO.allF tab_ok (by decide) [(4, .cv (.slice none 0 0)), (5, .int .i64 20)] [] (by (simp only [go_sem, hb2, hb14, hb17]) <;> (repeat' with_reducible apply And.intro) <;> first | assumption | rfl | omega | (unfold maxLen; omega)) ?_
          refine athen_n ?_
          refine AW.ret ?_
          refine athen_r ?_
          refine ablock_r ?_
          refine athen_r ?_
          obtain rfl := Option.some.inj h
          rw [← hd11 _ rfl] at ho10
          have h := ho10
          try simp only at h
          refine athen_r ?_
          refine ablock_r ?_
          refine athen_r ?_
          obtain rfl := Option.some.inj h
          exact ⟨rfl, [], [2000], [], rfl, (by (simp only [go_sem, hb2, hb14, hb17]) <;> (repeat' with_reducible apply And.intro) <;> first | assumption | rfl | omega | (unfold maxLen; omega))⟩
        · rw [if_neg (Bool.eq_false_iff.1 hb17)] at h
          refine AO.weaken (s' := ⟨fr [(2, .bp 2 0), (7, .bp 7 0), (8, .int .i64 st1.2), (9, .bp 9 0), (17, .sl Y1 word), (18, .int .i64 (word.length : Int)), (19, .int .i64 st1.2), (27, .bool false)], hpGet [(2, .box 22 [.sl Y0 specs]), (7, .box 23 [.own 26000]), (9, .box 55 [.int .i64 (word.getD st1.2.toNat (0, 0, 0, 0, 0, 0)).1, .int .i64 (word.getD st1.2.toNat (0, 0, 0, 0, 0, 0)).2.1, .int .i64 (word.getD st1.2.toNat (0, 0, 0, 0, 0, 0)).2.2.1, .int .i64 (word.getD st1.2.toNat (0, 0, 0, 0, 0, 0)).2.2.2.1, .int .i64 (word.getD st1.2.toNat (0, 0, 0, 0, 0, 0)).2.2.2.2.1, .int .i64 (word.getD st1.2.toNat (0, 0, 0, 0, 0, 0)).2.2.2.2.2]), (26000, .arr 55 Y1 st1.1)], gt⟩) (Wk.to (by (simp only [go_sem, hb2, hb14, hb17]) <;> (repeat' with_reducible apply And.intro) <;> first | assumption | rfl | omega | (unfold maxLen; omega))) ?_
          refine AO.segF tab_ok 5 (by decide) [(2, .bp 2 0), (7, .bp 7 0), (8, .int .i64 st1.2), (9, .bp 9 0), (17, .sl Y1 word), (18, .int .i64 (word.length : Int)), (19, .int .i64 st1.2), (32, .bool (!(decide ((word.getD st1.2.toNat (0, 0, 0, 0, 0, 0)).2.2.2.2.1 = 0))))] [(2, .box 22 [.sl Y0 specs]), (7, .box 23 [.own 26000]), (9, .box 55 [.int .i64 (word.getD st1.2.toNat (0, 0, 0, 0, 0, 0)).1, .int .i64 (word.getD st1.2.toNat (0, 0, 0, 0, 0, 0)).2.1, .int .i64 (word.getD st1.2.toNat (0, 0, 0, 0, 0, 0)).2.2.1, .int .i64 (word.getD st1.2.toNat (0, 0, 0, 0, 0, 0)).2.2.2.1, .int .i64 (word.getD st1.2.toNat (0, 0, 0, 0, 0, 0)).2.2.2.2.1, .int .i64 (word.getD st1.2.toNat (0, 0, 0, 0, 0, 0)).2.2.2.2.2]), (26000, .arr 55 Y1 st1.1)] (by (simp only [go_sem, hb2, hb14, hb17]) <;> (repeat' with_reducible apply And.intro) <;> first | assumption | rfl | omega | (unfold maxLen; omega)) ?_
          rcases Bool.eq_false_or_eq_true (!(decide ((word.getD st1.2.toNat (0, 0, 0, 0, 0, 0)).2.2.2.2.1 = 0))) with hb19 | hb19
          · rw [if_pos hb19] at h
            refine AO.weaken (s' := ⟨fr [(2, .bp 2 0), (7, .bp 7 0), (8, .int .i64 st1.2), (9, .bp 9 0), (17, .sl Y1 word), (18, .int .i64 (word.length : Int)), (19, .int .i64 st1.2), (32, .bool true)], hpGet [(2, .box 22 [.sl Y0 specs]), (7, .box 23 [.own 26000]), (9, .box 55 [.int .i64 (word.getD st1.2.toNat (0, 0, 0, 0, 0, 0)).1, .int .i64 (word.getD st1.2.toNat (0, 0, 0, 0, 0, 0)).2.1, .int .i64 (word.getD st1.2.toNat (0, 0, 0, 0, 0, 0)).2.2.1, .int .i64 (word.getD st1.2.toNat (0, 0, 0, 0, 0, 0)).2.2.2.1, .int .i64 (word.getD st1.2.toNat (0, 0, 0, 0, 0, 0)).2.2.2.2.1, .int .i64 (word.getD st1.2.toNat (0, 0, 0, 0, 0, 0)).2.2.2.2.2]), (26000, .arr 55 Y1 st1.1)], gt⟩) (Wk.to (by (simp only [go_sem, hb2, hb14, hb17, hb19]) <;> (repeat' with_reducible apply And.intro) <;> first | assumption | rfl | omega | (unfold maxLen; omega))) ?_
            refine AO.allF tab_ok (by decide) [(2, .bp 2 0), (7, .bp 7 0), (8, .int .i64 st1.2), (17, .sl Y1 word), (18, .int .i64 (word.length : Int)), (19, .int .i64 st1.2), (36, .bool true)] [(2, .box 22 [.sl Y0 specs]), (7, .box 23 [.own 26000]), (26000, .arr 55 Y1 st1.1)] (by (simp only [go_sem, hb2, hb14, hb17, hb19]) <;> (repeat' with_reducible apply And.intro) <;> first | assumption | rfl | omega | (unfold maxLen; omega)) ?_
            refine athen_n ?_
            refine AW.cond (b := true) rfl (fun _ => ?_) (fun hb20 => by cases hb20)
            refine AW.seq ?_
            refine AW.ops ?_
            refine AO.allF tab_ok (by decide) [(4, .cv (.slice none 0 0)), (5, .int .i64 20)] [] (by (simp only [go_sem, hb2, hb14, hb17, hb19]) <;> (repeat' with_reducible apply And.intro) <;> first | assumption | rfl | omega | (unfold maxLen; omega)) ?_
            refine athen_n ?_
            refine AW.ret ?_
            refine athen_r ?_
            refine ablock_r ?_
            refine athen_r ?_
            obtain rfl := Option.some.inj h
            rw [← hd11 _ rfl] at ho10
            have h := ho10
            try simp only at h
            refine athen_r ?_
            refine ablock_r ?_
            refine athen_r ?_
            obtain rfl := Option.some.inj h
            exact ⟨rfl, [], [2000], [], rfl, (by (simp only [go_sem, hb2, hb14, hb17, hb19]) <;> (repeat' with_reducible apply And.intro) <;> first | assumption | rfl | omega | (unfold maxLen; omega))⟩
          · rw [if_neg (Bool.eq_false_iff.1 hb19)] at h
            refine AO.weaken (s' := ⟨fr [(2, .bp 2 0), (7, .bp 7 0), (8, .int .i64 st1.2), (9, .bp 9 0), (17, .sl Y1 word), (18, .int .i64 (word.length : Int)), (19, .int .i64 st1.2), (32, .bool false)], hpGet [(2, .box 22 [.sl Y0 specs]), (7, .box 23 [.own 26000]), (9, .box 55 [.int .i64 (word.getD st1.2.toNat (0, 0, 0, 0, 0, 0)).1, .int .i64 (word.getD st1.2.toNat (0, 0, 0, 0, 0, 0)).2.1, .int .i64 (word.getD st1.2.toNat (0, 0, 0, 0, 0, 0)).2.2.1, .int .i64 (word.getD st1.2.toNat (0, 0, 0, 0, 0, 0)).2.2.2.1, .int .i64 (word.getD st1.2.toNat (0, 0, 0, 0, 0, 0)).2.2.2.2.1, .int .i64 (word.getD st1.2.toNat (0, 0, 0, 0, 0, 0)).2.2.2.2.2]), (26000, .arr 55 Y1 st1.1)], gt⟩) (Wk.to (by (simp only [go_sem, hb2, hb14, hb17, hb19]) <;> (repeat' with_reducible apply And.intro) <;> first | assumption | rfl | omega | (unfold maxLen; omega))) ?_
            refine AO.allF tab_ok (by decide) [(2, .bp 2 0), (7, .bp 7 0), (8, .int .i64 st1.2), (17, .sl Y1 word), (18, .int .i64 (word.length : Int)), (19, .int .i64 st1.2), (36, .bool (!(decide ((word.getD st1.2.toNat (0, 0, 0, 0, 0, 0)).2.2.2.2.2 = 0))))] [(2, .box 22 [.sl Y0 specs]), (7, .box 23 [.own 26000]), (26000, .arr 55 Y1 st1.1)] (by (simp only [go_sem, hb2, hb14, hb17, hb19]) <;> (repeat' with_reducible apply And.intro) <;> first | assumption | rfl | omega | (unfold maxLen; omega)) ?_
            refine athen_n ?_
            refine AW.cond (b := (!(decide ((word.getD st1.2.toNat (0, 0, 0, 0, 0, 0)).2.2.2.2.2 = 0)))) rfl (fun hb21 => ?_) (fun hb21 => ?_)
            · rw [if_pos hb21] at h
              refine AW.seq ?_
              refine AW.ops ?_
              refine AO.allF tab_ok (by decide) [(4, .cv (.slice none 0 0)), (5, .int .i64 20)] [] (by (simp only [go_sem, hb2, hb14, hb17, hb19, hb21]) <;> (repeat' with_reducible apply And.intro) <;> first | assumption | rfl | omega | (unfold maxLen; omega)) ?_
              refine athen_n ?_
              refine AW.ret ?_
              refine athen_r ?_
              refine ablock_r ?_
              refine athen_r ?_
              obtain rfl := Option.some.inj h
              rw [← hd11 _ rfl] at ho10
              have h := ho10
              try simp only at h
              refine athen_r ?_
              refine ablock_r ?_
              refine athen_r ?_
              obtain rfl := Option.some.inj h
              exact ⟨rfl, [], [2000], [], rfl, (by (simp only [go_sem, hb2, hb14, hb17, hb19, hb21]) <;> (repeat' with_reducible apply And.intro) <;> first | assumption | rfl | omega | (unfold maxLen; omega))⟩
            · rw [if_neg (Bool.eq_false_iff.1 hb21)] at h
              refine AW.skip ?_
              refine athen_n ?_
              refine AW.draw tab_ok mixed_ok [(12, [26000]), (15, [26000])] [(2, [7, 26000, 1000026000]), (3, []), (7, []), (8, []), (9, []), (100012, []), (100015, [])] (by decide) (by kernel_rfl) ?_
              obtain ⟨c23, h⟩ := ck_some.1 h
              refine adops_cut 6 (fun K' hK22 => ?_)
              try dsimp only [List.drop_succ_cons, List.drop_zero, List.take_succ_cons, List.take_zero]
              simp only [go_sem, hb2, hb14, hb17, hb19, hb21]
              repeat (with_reducible refine And.intro (by first | assumption | rfl | omega | trivial | (unfold maxLen; omega)) ?_)
              refine hK22 _ ?_
              obtain ⟨c25, h⟩ := ck_some.1 h
              obtain ⟨c26, h⟩ := ck_some.1 h
              obtain ⟨c27, h⟩ := ck_some.1 h
              obtain ⟨c28, h⟩ := ck_some.1 h
              obtain ⟨c29, h⟩ := ck_some.1 h
              refine adops_cut 6 (fun K' hK24 => ?_)
              try dsimp only [List.drop_succ_cons, List.drop_zero, List.take_succ_cons, List.take_zero]
              simp only [go_sem, hb2, hb14, hb17, hb19, hb21]
              repeat (with_reducible refine And.intro (by first | assumption | rfl | omega | trivial | (unfold maxLen; omega)) ?_)
              refine hK24 _ ?_
              obtain ⟨c31, h⟩ := ck_some.1 h
              obtain ⟨c32, h⟩ := ck_some.1 h
              refine adops_cut 4 (fun K' hK30 => ?_)
              try dsimp only [List.drop_succ_cons, List.drop_zero, List.take_succ_cons, List.take_zero]
              simp only [go_sem, hb2, hb14, hb17, hb19, hb21]
              repeat (with_reducible refine And.intro (by first | assumption | rfl | omega | trivial | (unfold maxLen; omega)) ?_)
              refine hK30 _ ?_
              refine adops_nil ?_
              refine ablock_n ?_
              refine athen_n ?_
              refine AW.weaken (s' := ⟨fr [(2, .bp 2 0), (7, .bp 7 0), (17, .sl Y1 word), (18, .int .i64 (word.length : Int)), (19, .int .i64 st1.2)], hpGet [(2, .box 22 [.sl Y0 specs]), (7, .box 23 [.own 26000]), (26000, .arr 55 Y1 ((st1.1.set st1.2.toNat ((st1.1.getD st1.2.toNat (0, 0, 0, 0, 0, 0)).1, (st1.1.getD st1.2.toNat (0, 0, 0, 0, 0, 0)).2.1, (st1.1.getD st1.2.toNat (0, 0, 0, 0, 0, 0)).2.2.1, (st1.1.getD st1.2.toNat (0, 0, 0, 0, 0, 0)).2.2.2.1, ((2 * st1.2) + 1), (st1.1.getD st1.2.toNat (0, 0, 0, 0, 0, 0)).2.2.2.2.2)).set st1.2.toNat (((st1.1.set st1.2.toNat ((st1.1.getD st1.2.toNat (0, 0, 0, 0, 0, 0)).1, (st1.1.getD st1.2.toNat (0, 0, 0, 0, 0, 0)).2.1, (st1.1.getD st1.2.toNat (0, 0, 0, 0, 0, 0)).2.2.1, (st1.1.getD st1.2.toNat (0, 0, 0, 0, 0, 0)).2.2.2.1, ((2 * st1.2) + 1), (st1.1.getD st1.2.toNat (0, 0, 0, 0, 0, 0)).2.2.2.2.2)).getD st1.2.toNat (0, 0, 0, 0, 0, 0)).1, ((st1.1.set st1.2.toNat ((st1.1.getD st1.2.toNat (0, 0, 0, 0, 0, 0)).1, (st1.1.getD st1.2.toNat (0, 0, 0, 0, 0, 0)).2.1, (st1.1.getD st1.2.toNat (0, 0, 0, 0, 0, 0)).2.2.1, (st1.1.getD st1.2.toNat (0, 0, 0, 0, 0, 0)).2.2.2.1, ((2 * st1.2) + 1), (st1.1.getD st1.2.toNat (0, 0, 0, 0, 0, 0)).2.2.2.2.2)).getD st1.2.toNat (0, 0, 0, 0, 0, 0)).2.1, ((st1.1.set st1.2.toNat ((st1.1.getD st1.2.toNat (0, 0, 0, 0, 0, 0)).1, (st1.1.getD st1.2.toNat (0, 0, 0, 0, 0, 0)).2.1, (st1.1.getD st1.2.toNat (0, 0, 0, 0, 0, 0)).2.2.1, (st1.1.getD st1.2.toNat (0, 0, 0, 0, 0, 0)).2.2.2.1, ((2 * st1.2) + 1), (st1.1.getD st1.2.toNat (0, 0, 0, 0, 0, 0)).2.2.2.2.2)).getD st1.2.toNat (0, 0, 0, 0, 0, 0)).2.2.1, ((st1.1.set st1.2.toNat ((st1.1.getD st1.2.toNat (0, 0, 0, 0, 0, 0)).1, (st1.1.getD st1.2.toNat (0, 0, 0, 0, 0, 0)).2.1, (st1.1.getD st1.2.toNat (0, 0, 0, 0, 0, 0)).2.2.1, (st1.1.getD st1.2.toNat (0, 0, 0, 0, 0, 0)).2.2.2.1, ((2 * st1.2) + 1), (st1.1.getD st1.2.toNat (0, 0, 0, 0, 0, 0)).2.2.2.2.2)).getD st1.2.toNat (0, 0, 0, 0, 0, 0)).2.2.2.1, ((st1.1.set st1.2.toNat ((st1.1.getD st1.2.toNat (0, 0, 0, 0, 0, 0)).1, (st1.1.getD st1.2.toNat (0, 0, 0, 0, 0, 0)).2.1, (st1.1.getD st1.2.toNat (0, 0, 0, 0, 0, 0)).2.2.1, (st1.1.getD st1.2.toNat (0, 0, 0, 0, 0, 0)).2.2.2.1, ((2 * st1.2) + 1), (st1.1.getD st1.2.toNat (0, 0, 0, 0, 0, 0)).2.2.2.2.2)).getD st1.2.toNat (0, 0, 0, 0, 0, 0)).2.2.2.2.1, ((2 * st1.2) + 2))))], gt⟩) (Wk.to (by (simp only [go_sem, hb2, hb14, hb17, hb19, hb21]) <;> (repeat' with_reducible apply And.intro) <;> first | assumption | rfl | omega | (unfold maxLen; omega))) ?_
              refine AW.ops ?_
              obtain ⟨c33, h⟩ := ck_some.1 h
              refine AO.allF tab_ok (by decide) [(2, .bp 2 0), (7, .bp 7 0), (17, .sl Y1 word), (18, .int .i64 (word.length : Int)), (19, .int .i64 (st1.2 + 1))] [(2, .box 22 [.sl Y0 specs]), (7, .box 23 [.own 26000]), (26000, .arr 55 Y1 ((st1.1.set st1.2.toNat ((st1.1.getD st1.2.toNat (0, 0, 0, 0, 0, 0)).1, (st1.1.getD st1.2.toNat (0, 0, 0, 0, 0, 0)).2.1, (st1.1.getD st1.2.toNat (0, 0, 0, 0, 0, 0)).2.2.1, (st1.1.getD st1.2.toNat (0, 0, 0, 0, 0, 0)).2.2.2.1, ((2 * st1.2) + 1), (st1.1.getD st1.2.toNat (0, 0, 0, 0, 0, 0)).2.2.2.2.2)).set st1.2.toNat (((st1.1.set st1.2.toNat ((st1.1.getD st1.2.toNat (0, 0, 0, 0, 0, 0)).1, (st1.1.getD st1.2.toNat (0, 0, 0, 0, 0, 0)).2.1, (st1.1.getD st1.2.toNat (0, 0, 0, 0, 0, 0)).2.2.1, (st1.1.getD st1.2.toNat (0, 0, 0, 0, 0, 0)).2.2.2.1, ((2 * st1.2) + 1), (st1.1.getD st1.2.toNat (0, 0, 0, 0, 0, 0)).2.2.2.2.2)).getD st1.2.toNat (0, 0, 0, 0, 0, 0)).1, ((st1.1.set st1.2.toNat ((st1.1.getD st1.2.toNat (0, 0, 0, 0, 0, 0)).1, (st1.1.getD st1.2.toNat (0, 0, 0, 0, 0, 0)).2.1, (st1.1.getD st1.2.toNat (0, 0, 0, 0, 0, 0)).2.2.1, (st1.1.getD st1.2.toNat (0, 0, 0, 0, 0, 0)).2.2.2.1, ((2 * st1.2) + 1), (st1.1.getD st1.2.toNat (0, 0, 0, 0, 0, 0)).2.2.2.2.2)).getD st1.2.toNat (0, 0, 0, 0, 0, 0)).2.1, ((st1.1.set st1.2.toNat ((st1.1.getD st1.2.toNat (0, 0, 0, 0, 0, 0)).1, (st1.1.getD st1.2.toNat (0, 0, 0, 0, 0, 0)).2.1, (st1.1.getD st1.2.toNat (0, 0, 0, 0, 0, 0)).2.2.1, (st1.1.getD st1.2.toNat (0, 0, 0, 0, 0, 0)).2.2.2.1, ((2 * st1.2) + 1), (st1.1.getD st1.2.toNat (0, 0, 0, 0, 0, 0)).2.2.2.2.2)).getD st1.2.toNat (0, 0, 0, 0, 0, 0)).2.2.1, ((st1.1.set st1.2.toNat ((st1.1.getD st1.2.toNat (0, 0, 0, 0, 0, 0)).1, (st1.1.getD st1.2.toNat (0, 0, 0, 0, 0, 0)).2.1, (st1.1.getD st1.2.toNat (0, 0, 0, 0, 0, 0)).2.2.1, (st1.1.getD st1.2.toNat (0, 0, 0, 0, 0, 0)).2.2.2.1, ((2 * st1.2) + 1), (st1.1.getD st1.2.toNat (0, 0, 0, 0, 0, 0)).2.2.2.2.2)).getD st1.2.toNat (0, 0, 0, 0, 0, 0)).2.2.2.1, ((st1.1.set st1.2.toNat ((st1.1.getD st1.2.toNat (0, 0, 0, 0, 0, 0)).1, (st1.1.getD st1.2.toNat (0, 0, 0, 0, 0, 0)).2.1, (st1.1.getD st1.2.toNat (0, 0, 0, 0, 0, 0)).2.2.1, (st1.1.getD st1.2.toNat (0, 0, 0, 0, 0, 0)).2.2.2.1, ((2 * st1.2) + 1), (st1.1.getD st1.2.toNat (0, 0, 0, 0, 0, 0)).2.2.2.2.2)).getD st1.2.toNat (0, 0, 0, 0, 0, 0)).2.2.2.2.1, ((2 * st1.2) + 2))))] (by (simp only [go_sem, hb2, hb14, hb17, hb19, hb21]) <;> (repeat' with_reducible apply And.intro) <;> first | assumption | rfl | omega | (unfold maxLen; omega)) ?_
              obtain rfl := Option.some.inj h
              exact ⟨_, rfl, Wk.le [] [] [] rfl (by (simp only [go_sem, hb2, hb14, hb17, hb19, hb21]) <;> (repeat' with_reducible apply And.intro) <;> first | assumption | rfl | omega | (unfold maxLen; omega)) (by (simp only [go_sem, hb2, hb14, hb17, hb19, hb21]) <;> (repeat' with_reducible apply And.intro) <;> first | assumption | rfl | omega | (unfold maxLen; omega))⟩
      · rw [if_neg (Bool.eq_false_iff.1 hb14)] at h
        refine AW.exit ?_
        refine athen_e ?_
        obtain rfl := Option.some.inj h
        rw [← hd11 _ rfl] at ho10
        have h := ho10
        try simp only at h
        refine athen_e ?_
        refine ablock_s ?_
        refine athen_n ?_
        exact AW.weaken (Wk.le [] [] [] rfl (by (simp only [go_sem, hb2, hb14]) <;> (repeat' with_reducible apply And.intro) <;> first | assumption | rfl | omega | (unfold maxLen; omega)) (by (simp only [go_sem, hb2, hb14]) <;> (repeat' with_reducible apply And.intro) <;> first | assumption | rfl | omega | (unfold maxLen; omega))) (hk_history_Play_k1 _ h)

set_option maxRecDepth 100000 in
set_option maxHeartbeats 2000000 in
theorem hc_history_Orders_1 (a0 : List (Int × Int × (List (List Int)) × (List (List Int)))) (a1 : List (Int × Int × Int × Int × Int × Int)) {r : Int} (h : history_Orders_1 a0 a1 = some r) : HC Try.prog 97 [(1000, .box 22 [.sl Y0 a0]), (1001, .box 23 [.sl Y1 a1])] [.bp 1000 0, .bp 1001 0] [(1000, .box 22 [.sl Y0 a0]), (1001, .box 23 [.sl Y1 a1])] (.int .i64 r) := by
  unfold history_Orders_1 at h
  refine HC.of_body tab_ok (res := [.tmp 2]) Try.func97 rfl (by kernel_rfl) rfl (nt := 8) rfl (by decide) (by simp) ?_
  refine AW.seq ?_
  refine AW.ops ?_
  refine AO.allF tab_ok (by decide) [(0, .bp 1000 0), (1, .bp 1001 0)] [(1000, .box 22 [.sl Y0 a0]), (1001, .box 23 [.sl Y1 a1])] (by (simp only [go_sem]) <;> (repeat' with_reducible apply And.intro) <;> first | assumption | rfl | omega | (unfold maxLen; omega)) ?_
  refine athen_n ?_
  refine AW.seq ?_
  refine AW.ops ?_
  refine AO.segF tab_ok 2 (by decide) [(3, .sl Y0 a0), (4, .sl Y1 a1)] [(1000, .box 22 [.sl Y0 a0]), (1001, .box 23 [.sl Y1 a1])] (by (simp only [go_sem]) <;> (repeat' with_reducible apply And.intro) <;> first | assumption | rfl | omega | (unfold maxLen; omega)) ?_
  obtain ⟨v0, hv1, h⟩ := Option.bind_eq_some_iff.1 h
  refine AO.call tab_ok (by decide) rfl rfl rfl (fun _ h => h) [] [] (hc_history_newSearch a0 a1 hv1) rfl (by (simp only [go_sem]) <;> (repeat' with_reducible apply And.intro) <;> first | assumption | rfl | omega | (unfold maxLen; omega)) (by (simp only [go_sem]) <;> (repeat' with_reducible apply And.intro) <;> first | assumption | rfl | omega | (unfold maxLen; omega)) [(5, .agg [.sl Y0 a0, .sl Y1 a1, .fn (.func 77) [] [], .own 15000])] [(1000, .box 22 [.sl Y0 a0]), (1001, .box 23 [.sl Y1 a1]), (15000, .map true false (.pair (.pair (.int .i64) (.int .i64)) (.int .u64)) (.int .i64) [])] (by (simp only [go_sem]) <;> (repeat' with_reducible apply And.intro) <;> first | assumption | rfl | omega | (unfold maxLen; omega)) ?_
  refine AO.segF tab_ok 1 (by decide) [(5, .agg [.sl Y0 a0, .sl Y1 a1, .fn (.func 77) [] [], .own 15000]), (6, .agg [.int .i64 0, .int .i64 0, .int .u64 0])] [(1000, .box 22 [.sl Y0 a0]), (1001, .box 23 [.sl Y1 a1]), (15000, .map true false (.pair (.pair (.int .i64) (.int .i64)) (.int .u64)) (.int .i64) [])] (by (simp only [go_sem]) <;> (repeat' with_reducible apply And.intro) <;> first | assumption | rfl | omega | (unfold maxLen; omega)) ?_
  obtain ⟨v0_2, hv2, h⟩ := Option.bind_eq_some_iff.1 h
  refine AO.call tab_ok (by decide) rfl rfl rfl (fun _ h => h) [] [(1000, 15000)] (hc_history_search_count fuel a0 a1 ((0, 0), 0) [] hv2) rfl (by (simp only [go_sem]) <;> (repeat' with_reducible apply And.intro) <;> first | assumption | rfl | omega | (unfold maxLen; omega)) (by (simp only [go_sem]) <;> (repeat' with_reducible apply And.intro) <;> first | assumption | rfl | omega | (unfold maxLen; omega)) [(7, .int .i64 v0_2.1)] [(1000, .box 22 [.sl Y0 a0]), (1001, .box 23 [.sl Y1 a1])] (by (simp only [go_sem]) <;> (repeat' with_reducible apply And.intro) <;> first | assumption | rfl | omega | (unfold maxLen; omega)) ?_
  refine AO.allF tab_ok (by decide) [(2, .int .i64 v0_2.1)] [(1000, .box 22 [.sl Y0 a0]), (1001, .box 23 [.sl Y1 a1])] (by (simp only [go_sem]) <;> (repeat' with_reducible apply And.intro) <;> first | assumption | rfl | omega | (unfold maxLen; omega)) ?_
  refine athen_n ?_
  refine AW.ret ?_
  obtain rfl := Option.some.inj h
  exact ⟨rfl, [], [], [], rfl, (by (simp only [go_sem]) <;> (repeat' with_reducible apply And.intro) <;> first | assumption | rfl | omega | (unfold maxLen; omega))⟩

set_option maxRecDepth 100000 in
set_option maxHeartbeats 2000000 in
theorem hc_history_told_19 (c0 : List (Int × Int × (List (List Int)) × (List (List Int)))) (c1 : List (Int × Int × Int × Int × Int × Int)) {r : Int} (h : history_told_19 c0 c1 = some r) : HC Try.prog 96 [(1000, .box 22 [.sl Y0 c0]), (1001, .box 23 [.sl Y1 c1])] [.int .i64 0, .fn (.func 97) [] [.bp 1000 0, .bp 1001 0]] [(1000, .box 22 [.sl Y0 c0]), (1001, .box 23 [.sl Y1 c1])] (.tup [.int .i64 r, .int .i64 0]) := by
  unfold history_told_19 at h
  refine HC.of_body tab_ok (res := [.tmp 4, .tmp 5]) Try.func96 rfl (by kernel_rfl) rfl (nt := 13) rfl (by decide) (by simp) ?_
  refine AW.seq ?_
  refine AW.ops ?_
  refine AO.allF tab_ok (by decide) [(0, .int .i64 0), (1, .fn (.func 97) [] [.bp 1000 0, .bp 1001 0])] [(1000, .box 22 [.sl Y0 c0]), (1001, .box 23 [.sl Y1 c1])] (by (simp only [go_sem]) <;> (repeat' with_reducible apply And.intro) <;> first | assumption | rfl | omega | (unfold maxLen; omega)) ?_
  refine athen_n ?_
  refine AW.seq ?_
  refine AW.seq ?_
  refine AW.ops ?_
  refine AO.allF tab_ok (by decide) [(0, .int .i64 0), (1, .fn (.func 97) [] [.bp 1000 0, .bp 1001 0]), (8, .bool false)] [(1000, .box 22 [.sl Y0 c0]), (1001, .box 23 [.sl Y1 c1])] (by (simp only [go_sem]) <;> (repeat' with_reducible apply And.intro) <;> first | assumption | rfl | omega | (unfold maxLen; omega)) ?_
  refine athen_n ?_
  refine AW.cond (b := false) rfl (fun hb1 => by cases hb1) (fun _ => ?_)
  refine AW.skip ?_
  refine athen_n ?_
  refine AW.seq ?_
  refine AW.ops ?_
  refine AO.segF tab_ok 1 (by decide) [(11, .fn (.func 97) [] [.bp 1000 0, .bp 1001 0])] [(1000, .box 22 [.sl Y0 c0]), (1001, .box 23 [.sl Y1 c1])] (by (simp only [go_sem]) <;> (repeat' with_reducible apply And.intro) <;> first | assumption | rfl | omega | (unfold maxLen; omega)) ?_
  obtain ⟨v0, hv2, h⟩ := Option.bind_eq_some_iff.1 h
  refine AO.call tab_ok (by decide) rfl rfl rfl (fun _ h => h) [] [(1000, 1000), (1001, 1001)] (hc_history_Orders_1 c0 c1 hv2) rfl (by (simp only [go_sem]) <;> (repeat' with_reducible apply And.intro) <;> first | assumption | rfl | omega | (unfold maxLen; omega)) (by (simp only [go_sem]) <;> (repeat' with_reducible apply And.intro) <;> first | assumption | rfl | omega | (unfold maxLen; omega)) [(12, .int .i64 v0)] [(1000, .box 22 [.sl Y0 c0]), (1001, .box 23 [.sl Y1 c1])] (by (simp only [go_sem]) <;> (repeat' with_reducible apply And.intro) <;> first | assumption | rfl | omega | (unfold maxLen; omega)) ?_
  refine AO.allF tab_ok (by decide) [(4, .int .i64 v0), (5, .int .i64 0)] [(1000, .box 22 [.sl Y0 c0]), (1001, .box 23 [.sl Y1 c1])] (by (simp only [go_sem]) <;> (repeat' with_reducible apply And.intro) <;> first | assumption | rfl | omega | (unfold maxLen; omega)) ?_
  refine athen_n ?_
  refine AW.ret ?_
  obtain rfl := Option.some.inj h
  exact ⟨rfl, [], [], [], rfl, (by (simp only [go_sem]) <;> (repeat' with_reducible apply And.intro) <;> first | assumption | rfl | omega | (unfold maxLen; omega))⟩

set_option maxRecDepth 100000 in
set_option maxHeartbeats 2000000 in
theorem hc_history_told_20 (err : Int) (c0 : List (Int × Int × (List (List Int)) × (List (List Int)))) (c1 : List (Int × Int × Int × Int × Int × Int)) (hnz_err : decide (err = 0) = false) {r : Unit} (h : history_told_20 err c0 c1 = some r) : HC Try.prog 96 [(1000, .box 22 [.sl Y0 c0]), (1001, .box 23 [.sl Y1 c1])] [.int .i64 err, .fn (.func 97) [] [.bp 1000 0, .bp 1001 0]] [(1000, .box 22 [.sl Y0 c0]), (1001, .box 23 [.sl Y1 c1])] (.tup [.int .i64 0, .int .i64 err]) := by
  unfold history_told_20 at h
  refine HC.of_body tab_ok (res := [.tmp 4, .tmp 5]) Try.func96 rfl (by kernel_rfl) rfl (nt := 13) rfl (by decide) (by simp) ?_
  refine AW.seq ?_
  refine AW.ops ?_
  refine AO.allF tab_ok (by decide) [(0, .int .i64 err), (1, .fn (.func 97) [] [.bp 1000 0, .bp 1001 0])] [(1000, .box 22 [.sl Y0 c0]), (1001, .box 23 [.sl Y1 c1])] (by (simp only [go_sem, hnz_err]) <;> (repeat' with_reducible apply And.intro) <;> first | assumption | rfl | omega | (unfold maxLen; omega)) ?_
  refine athen_n ?_
  refine AW.seq ?_
  refine AW.seq ?_
  refine AW.ops ?_
  refine AO.allF tab_ok (by decide) [(0, .int .i64 err), (1, .fn (.func 97) [] [.bp 1000 0, .bp 1001 0]), (8, .bool true)] [(1000, .box 22 [.sl Y0 c0]), (1001, .box 23 [.sl Y1 c1])] (by (simp only [go_sem, hnz_err]) <;> (repeat' with_reducible apply And.intro) <;> first | assumption | rfl | omega | (unfold maxLen; omega)) ?_
  refine athen_n ?_
  refine AW.cond (b := true) rfl (fun _ => ?_) (fun hb1 => by cases hb1)
  refine AW.seq ?_
  refine AW.ops ?_
  refine AO.allF tab_ok (by decide) [(0, .int .i64 err), (6, .int .i64 0)] [(1000, .box 22 [.sl Y0 c0]), (1001, .box 23 [.sl Y1 c1])] (by (simp only [go_sem, hnz_err]) <;> (repeat' with_reducible apply And.intro) <;> first | assumption | rfl | omega | (unfold maxLen; omega)) ?_
  refine athen_n ?_
  refine AW.seq ?_
  refine AW.ops ?_
  refine AO.allF tab_ok (by decide) [(4, .int .i64 0), (5, .int .i64 err)] [(1000, .box 22 [.sl Y0 c0]), (1001, .box 23 [.sl Y1 c1])] (by (simp only [go_sem, hnz_err]) <;> (repeat' with_reducible apply And.intro) <;> first | assumption | rfl | omega | (unfold maxLen; omega)) ?_
  refine athen_n ?_
  refine AW.ret ?_
  refine athen_r ?_
  obtain rfl := Option.some.inj h
  exact ⟨rfl, [], [], [], rfl, (by (simp only [go_sem, hnz_err]) <;> (repeat' with_reducible apply And.intro) <;> first | assumption | rfl | omega | (unfold maxLen; omega))⟩

end Go.Proofs.Ytdkdkpenmgkdcaa
