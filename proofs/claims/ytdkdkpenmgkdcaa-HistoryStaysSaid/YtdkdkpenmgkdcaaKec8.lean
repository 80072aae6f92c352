/-
  Made by wip/tool/dc.py out of the print of the program: contracts.
-/
import Derived.Test.YtdkdkpenmgkdcaaHp
import Derived.Test.YtdkdkpenmgkdcaaTbh
import Derived.Test.YtdkdkpenmgkdcaaKec2
import Derived.Test.YtdkdkpenmgkdcaaKec3
import Derived.Test.YtdkdkpenmgkdcaaKec4
import Derived.Test.YtdkdkpenmgkdcaaKec5
import Derived.Test.YtdkdkpenmgkdcaaKec7
namespace Go.Proofs.Ytdkdkpenmgkdcaa
open Go.RowKit

set_option linter.unusedSimpArgs false
set_option linter.unusedVariables false
set_option linter.constructorNameAsVariable false

set_option maxRecDepth 100000 in
set_option maxHeartbeats 2000000 in
theorem hc_linealref02_For (specs : List (Int × Int × (List (List Int)) × (List (List Int)))) (h0 : List (Int × Int × Int × Int × Int × Int)) {r : Bool × Int} (h : linealref02_For specs h0 = some r) : HC Try.prog 21 [] [.sl Y0 specs, .sl Y1 h0] [] (.tup [.bool r.1, .int .i64 r.2]) := by
  unfold linealref02_For at h
  refine HC.of_body tab_ok (res := [.tmp 4, .tmp 5]) Try.func21 rfl (by kernel_rfl) rfl (nt := 12) rfl (by decide) (by simp) ?_
  refine AW.seq ?_
  refine AW.ops ?_
  refine AO.allF tab_ok (by decide) [(0, .sl Y0 specs), (1, .sl Y1 h0)] [] (by (simp only [go_sem]) <;> (repeat' with_reducible apply And.intro) <;> first | assumption | rfl | omega | (unfold maxLen; omega)) ?_
  refine athen_n ?_
  refine AW.seq ?_
  refine AW.seq ?_
  refine AW.ops ?_
  refine AO.segF tab_ok 1 (by decide) [(0, .sl Y0 specs), (1, .sl Y1 h0), (6, .sl Y0 specs)] [] (by (simp only [go_sem]) <;> (repeat' with_reducible apply And.intro) <;> first | assumption | rfl | omega | (unfold maxLen; omega)) ?_
  obtain ⟨v0, hv1, h⟩ := Option.bind_eq_some_iff.1 h
  refine AO.call tab_ok (by decide) rfl rfl rfl (fun _ h => h) [] [] (hc_linealref02_areSpecs specs hv1) rfl (by (simp only [go_sem]) <;> (repeat' with_reducible apply And.intro) <;> first | assumption | rfl | omega | (unfold maxLen; omega)) (by (simp only [go_sem]) <;> (repeat' with_reducible apply And.intro) <;> first | assumption | rfl | omega | (unfold maxLen; omega)) [(0, .sl Y0 specs), (1, .sl Y1 h0), (7, .bool v0)] [] (by (simp only [go_sem]) <;> (repeat' with_reducible apply And.intro) <;> first | assumption | rfl | omega | (unfold maxLen; omega)) ?_
  refine AO.allF tab_ok (by decide) [(0, .sl Y0 specs), (1, .sl Y1 h0), (8, .bool (!v0))] [] (by (simp only [go_sem]) <;> (repeat' with_reducible apply And.intro) <;> first | assumption | rfl | omega | (unfold maxLen; omega)) ?_
  refine athen_n ?_
  refine AW.cond (b := (!v0)) rfl (fun hb2 => ?_) (fun hb2 => ?_)
  · rw [if_pos hb2] at h
    refine AW.seq ?_
    refine AW.ops ?_
    refine AO.allF tab_ok (by decide) [(4, .bool false), (5, .int .i64 10)] [] (by (simp only [go_sem, hb2]) <;> (repeat' with_reducible apply And.intro) <;> first | assumption | rfl | omega | (unfold maxLen; omega)) ?_
    refine athen_n ?_
    refine AW.ret ?_
    refine athen_r ?_
    obtain rfl := Option.some.inj h
    exact ⟨rfl, [], [], [], rfl, (by (simp only [go_sem, hb2]) <;> (repeat' with_reducible apply And.intro) <;> first | assumption | rfl | omega | (unfold maxLen; omega))⟩
  · rw [if_neg (Bool.eq_false_iff.1 hb2)] at h
    refine AW.skip ?_
    refine athen_n ?_
    refine AW.seq ?_
    refine AW.ops ?_
    refine AO.segF tab_ok 2 (by decide) [(9, .sl Y0 specs), (10, .sl Y1 h0)] [] (by (simp only [go_sem, hb2]) <;> (repeat' with_reducible apply And.intro) <;> first | assumption | rfl | omega | (unfold maxLen; omega)) ?_
    obtain ⟨v0_2, hv3, h⟩ := Option.bind_eq_some_iff.1 h
    refine AO.call tab_ok (by decide) rfl rfl rfl (fun _ h => h) [] [] (hc_linealref02_isFor specs h0 hv3) rfl (by (simp only [go_sem, hb2]) <;> (repeat' with_reducible apply And.intro) <;> first | assumption | rfl | omega | (unfold maxLen; omega)) (by (simp only [go_sem, hb2]) <;> (repeat' with_reducible apply And.intro) <;> first | assumption | rfl | omega | (unfold maxLen; omega)) [(11, .bool v0_2)] [] (by (simp only [go_sem, hb2]) <;> (repeat' with_reducible apply And.intro) <;> first | assumption | rfl | omega | (unfold maxLen; omega)) ?_
    refine AO.allF tab_ok (by decide) [(4, .bool v0_2), (5, .int .i64 0)] [] (by (simp only [go_sem, hb2]) <;> (repeat' with_reducible apply And.intro) <;> first | assumption | rfl | omega | (unfold maxLen; omega)) ?_
    refine athen_n ?_
    refine AW.ret ?_
    obtain rfl := Option.some.inj h
    exact ⟨rfl, [], [], [], rfl, (by (simp only [go_sem, hb2]) <;> (repeat' with_reducible apply And.intro) <;> first | assumption | rfl | omega | (unfold maxLen; omega))⟩

set_option maxRecDepth 100000 in
set_option maxHeartbeats 2000000 in
theorem hc_slices_Clone (s : List (Int × Int × Int × Int × Int × Int)) {r : (List (Int × Int × Int × Int × Int × Int))} (h : slices_Clone s = some r) : HC Try.prog 111 [] [.sl Y1 s] [(2000, .arr 55 Y1 r)] (.own 2000) := by
  unfold slices_Clone at h
  refine HC.of_body tab_ok (res := [.tmp 2]) Try.func111 rfl (by kernel_rfl) rfl (nt := 8) rfl (by decide) (by simp) ?_
  refine AW.seq ?_
  refine AW.ops ?_
  refine AO.allF tab_ok (by decide) [(0, .sl Y1 s)] [] (by (simp only [go_sem]) <;> (repeat' with_reducible apply And.intro) <;> first | assumption | rfl | omega | (unfold maxLen; omega)) ?_
  refine athen_n ?_
  refine AW.seq ?_
  refine AW.seq ?_
  refine AW.ops ?_
  refine AO.segF tab_ok 1 (by decide) [(0, .sl Y1 s), (3, .sl Y1 s)] [] (by (simp only [go_sem]) <;> (repeat' with_reducible apply And.intro) <;> first | assumption | rfl | omega | (unfold maxLen; omega)) ?_
  refine AO.nilEq (neg := false) tab_ok (by decide) rfl rfl tab_23 rfl rfl rfl (fun hnil1 => ?_) ?_
  · have h : (some []) = some r := by
      first | (simp only [hnil1] at h ⊢; simpa [ck] using h) | (simp [hnil1, ck] at h ⊢; first | done | exact h)
    refine AO.weaken (s' := ⟨fr [(0, .sl Y1 s), (4, .bool true)], hpGet [], gt⟩) (Wk.to (by (simp only [go_sem]) <;> (repeat' with_reducible apply And.intro) <;> first | assumption | rfl | omega | (unfold maxLen; omega))) ?_
    refine AO.allF tab_ok (by decide) [(0, .sl Y1 s), (4, .bool true)] [] (by (simp only [go_sem]) <;> (repeat' with_reducible apply And.intro) <;> first | assumption | rfl | omega | (unfold maxLen; omega)) ?_
    refine athen_n ?_
    refine AW.cond (b := true) rfl (fun _ => ?_) (fun hb2 => by cases hb2)
    refine AW.seq ?_
    refine AW.ops ?_
    refine AO.allF tab_ok (by decide) [(2, .cv (.slice none 0 0))] [] (by (simp only [go_sem]) <;> (repeat' with_reducible apply And.intro) <;> first | assumption | rfl | omega | (unfold maxLen; omega)) ?_
    refine athen_n ?_
    refine AW.ret ?_
    refine athen_r ?_
    obtain rfl := Option.some.inj h
    exact ⟨rfl, [], [2000], [], rfl, (by (simp only [go_sem]) <;> (repeat' with_reducible apply And.intro) <;> first | assumption | rfl | omega | (unfold maxLen; omega))⟩
  · refine AO.weaken (s' := ⟨fr [(0, .sl Y1 s), (4, .bool false)], hpGet [], gt⟩) (Wk.to (by (simp only [go_sem]) <;> (repeat' with_reducible apply And.intro) <;> first | assumption | rfl | omega | (unfold maxLen; omega))) ?_
    refine AO.allF tab_ok (by decide) [(0, .sl Y1 s), (4, .bool false)] [] (by (simp only [go_sem]) <;> (repeat' with_reducible apply And.intro) <;> first | assumption | rfl | omega | (unfold maxLen; omega)) ?_
    refine athen_n ?_
    refine AW.cond (b := false) rfl (fun hb3 => by cases hb3) (fun _ => ?_)
    refine AW.skip ?_
    refine athen_n ?_
    refine AW.seq ?_
    refine AW.ops ?_
    obtain ⟨c4, h⟩ := ck_some.1 h
    refine AO.allF tab_ok (by decide) [(2, .own 7)] [(7, .arr 55 Y1 s)] (by (simp only [go_sem]) <;> (repeat' with_reducible apply And.intro) <;> first | assumption | rfl | omega | (unfold maxLen; omega)) ?_
    refine athen_n ?_
    refine AW.ret ?_
    obtain rfl := Option.some.inj h
    exact ⟨rfl, [], [], [(2000, 7)], rfl, (by (simp only [go_sem]) <;> (repeat' with_reducible apply And.intro) <;> first | assumption | rfl | omega | (unfold maxLen; omega))⟩

set_option maxRecDepth 100000 in
set_option maxHeartbeats 2000000 in
theorem hc_history_Longer_1 (a0 : List (Int × Int × Int × Int × Int × Int)) {r : Unit} (h : history_Longer_1 a0 = some r) : HC Try.prog 114 [(1000, .box 23 [.own 1001]), (1001, .arr 55 Y1 a0)] [.bp 1000 0] [(1000, .box 23 [.own 1001]), (1001, .arr 55 Y1 a0)] (.own 1001) := by
  unfold history_Longer_1 at h
  refine HC.of_body tab_ok (res := [.tmp 1]) Try.func114 rfl (by kernel_rfl) rfl (nt := 3) rfl (by decide) (by simp) ?_
  refine AW.seq ?_
  refine AW.ops ?_
  refine AO.allF tab_ok (by decide) [(0, .bp 1000 0)] [(1000, .box 23 [.own 1001]), (1001, .arr 55 Y1 a0)] (by (simp only [go_sem]) <;> (repeat' with_reducible apply And.intro) <;> first | assumption | rfl | omega | (unfold maxLen; omega)) ?_
  refine athen_n ?_
  refine AW.seq ?_
  refine AW.ops ?_
  refine AO.allF tab_ok (by decide) [(1, .own 1001)] [(1000, .box 23 [.own 1001]), (1001, .arr 55 Y1 a0)] (by (simp only [go_sem]) <;> (repeat' with_reducible apply And.intro) <;> first | assumption | rfl | omega | (unfold maxLen; omega)) ?_
  refine athen_n ?_
  refine AW.ret ?_
  obtain rfl := Option.some.inj h
  exact ⟨rfl, [], [], [], rfl, (by (simp only [go_sem]) <;> (repeat' with_reducible apply And.intro) <;> first | assumption | rfl | omega | (unfold maxLen; omega))⟩

set_option maxRecDepth 100000 in
set_option maxHeartbeats 2000000 in
theorem hc_history_told_17 (c0 : List (Int × Int × Int × Int × Int × Int)) {r : Unit} (h : history_told_17 c0 = some r) : HC Try.prog 98 [(1000, .box 23 [.own 1001]), (1001, .arr 55 Y1 c0)] [.int .i64 0, .fn (.func 114) [] [.bp 1000 0]] [(1001, .arr 55 Y1 c0)] (.tup [.own 1001, .int .i64 0]) := by
  unfold history_told_17 at h
  refine HC.of_body tab_ok (res := [.tmp 4, .tmp 5]) Try.func98 rfl (by kernel_rfl) rfl (nt := 13) rfl (by decide) (by simp) ?_
  refine AW.seq ?_
  refine AW.ops ?_
  refine AO.allF tab_ok (by decide) [(0, .int .i64 0), (1, .fn (.func 114) [] [.bp 1000 0])] [(1000, .box 23 [.own 1001]), (1001, .arr 55 Y1 c0)] (by (simp only [go_sem]) <;> (repeat' with_reducible apply And.intro) <;> first | assumption | rfl | omega | (unfold maxLen; omega)) ?_
  refine athen_n ?_
  refine AW.seq ?_
  refine AW.seq ?_
  refine AW.ops ?_
  refine AO.allF tab_ok (by decide) [(0, .int .i64 0), (1, .fn (.func 114) [] [.bp 1000 0]), (8, .bool false)] [(1000, .box 23 [.own 1001]), (1001, .arr 55 Y1 c0)] (by (simp only [go_sem]) <;> (repeat' with_reducible apply And.intro) <;> first | assumption | rfl | omega | (unfold maxLen; omega)) ?_
  refine athen_n ?_
  refine AW.cond (b := false) rfl (fun hb1 => by cases hb1) (fun _ => ?_)
  refine AW.skip ?_
  refine athen_n ?_
  refine AW.seq ?_
  refine AW.ops ?_
  refine AO.segF tab_ok 1 (by decide) [(11, .fn (.func 114) [] [.bp 1000 0])] [(1000, .box 23 [.own 1001]), (1001, .arr 55 Y1 c0)] (by (simp only [go_sem]) <;> (repeat' with_reducible apply And.intro) <;> first | assumption | rfl | omega | (unfold maxLen; omega)) ?_
  obtain ⟨v0, hv2, h⟩ := Option.bind_eq_some_iff.1 h
  refine AO.call tab_ok (by decide) rfl rfl rfl (fun _ h => h) [] [(1000, 1000), (1001, 1001)] (hc_history_Longer_1 c0 hv2) rfl (by (simp only [go_sem]) <;> (repeat' with_reducible apply And.intro) <;> first | assumption | rfl | omega | (unfold maxLen; omega)) (by (simp only [go_sem]) <;> (repeat' with_reducible apply And.intro) <;> first | assumption | rfl | omega | (unfold maxLen; omega)) [(12, .own 1001)] [(1000, .box 23 [.own 1001]), (1001, .arr 55 Y1 c0)] (by (simp only [go_sem]) <;> (repeat' with_reducible apply And.intro) <;> first | assumption | rfl | omega | (unfold maxLen; omega)) ?_
  refine AO.allF tab_ok (by decide) [(4, .own 1001), (5, .int .i64 0)] [(1000, .box 23 [.own 1001]), (1001, .arr 55 Y1 c0)] (by (simp only [go_sem]) <;> (repeat' with_reducible apply And.intro) <;> first | assumption | rfl | omega | (unfold maxLen; omega)) ?_
  refine athen_n ?_
  refine AW.ret ?_
  obtain rfl := Option.some.inj h
  exact ⟨rfl, [], [], [], rfl, (by (simp only [go_sem]) <;> (repeat' with_reducible apply And.intro) <;> first | assumption | rfl | omega | (unfold maxLen; omega))⟩

set_option maxRecDepth 100000 in
set_option maxHeartbeats 2000000 in
theorem hc_history_told_18 (err : Int) (c0 : List (Int × Int × Int × Int × Int × Int)) (hnz_err : decide (err = 0) = false) {r : Unit} (h : history_told_18 err c0 = some r) : HC Try.prog 98 [(1000, .box 23 [.own 1001]), (1001, .arr 55 Y1 c0)] [.int .i64 err, .fn (.func 114) [] [.bp 1000 0]] [] (.tup [.cv (.slice none 0 0), .int .i64 err]) := by
  unfold history_told_18 at h
  refine HC.of_body tab_ok (res := [.tmp 4, .tmp 5]) Try.func98 rfl (by kernel_rfl) rfl (nt := 13) rfl (by decide) (by simp) ?_
  refine AW.seq ?_
  refine AW.ops ?_
  refine AO.allF tab_ok (by decide) [(0, .int .i64 err), (1, .fn (.func 114) [] [.bp 1000 0])] [(1000, .box 23 [.own 1001]), (1001, .arr 55 Y1 c0)] (by (simp only [go_sem, hnz_err]) <;> (repeat' with_reducible apply And.intro) <;> first | assumption | rfl | omega | (unfold maxLen; omega)) ?_
  refine athen_n ?_
  refine AW.seq ?_
  refine AW.seq ?_
  refine AW.ops ?_
  refine AO.allF tab_ok (by decide) [(0, .int .i64 err), (1, .fn (.func 114) [] [.bp 1000 0]), (8, .bool true)] [(1000, .box 23 [.own 1001]), (1001, .arr 55 Y1 c0)] (by (simp only [go_sem, hnz_err]) <;> (repeat' with_reducible apply And.intro) <;> first | assumption | rfl | omega | (unfold maxLen; omega)) ?_
  refine athen_n ?_
  refine AW.cond (b := true) rfl (fun _ => ?_) (fun hb1 => by cases hb1)
  refine AW.seq ?_
  refine AW.ops ?_
  refine AO.allF tab_ok (by decide) [(0, .int .i64 err), (6, .cv (.slice none 0 0))] [(1000, .box 23 [.own 1001]), (1001, .arr 55 Y1 c0)] (by (simp only [go_sem, hnz_err]) <;> (repeat' with_reducible apply And.intro) <;> first | assumption | rfl | omega | (unfold maxLen; omega)) ?_
  refine athen_n ?_
  refine AW.seq ?_
  refine AW.ops ?_
  refine AO.allF tab_ok (by decide) [(4, .cv (.slice none 0 0)), (5, .int .i64 err)] [(1000, .box 23 [.own 1001]), (1001, .arr 55 Y1 c0)] (by (simp only [go_sem, hnz_err]) <;> (repeat' with_reducible apply And.intro) <;> first | assumption | rfl | omega | (unfold maxLen; omega)) ?_
  refine athen_n ?_
  refine AW.ret ?_
  refine athen_r ?_
  obtain rfl := Option.some.inj h
  exact ⟨rfl, [], [], [], rfl, (by (simp only [go_sem, hnz_err]) <;> (repeat' with_reducible apply And.intro) <;> first | assumption | rfl | omega | (unfold maxLen; omega))⟩

set_option maxRecDepth 100000 in
set_option maxHeartbeats 2000000 in
theorem hc_history_Longer (h0 : List (Int × Int × Int × Int × Int × Int)) (call : Int) (from0 : Int) (to0 : Int) {r : (List (Int × Int × Int × Int × Int × Int)) × Int} (h : history_Longer h0 call from0 to0 = some r) : HC Try.prog 54 [] [.sl Y1 h0, .int .i64 call, .int .i64 from0, .int .i64 to0] [(2000, .arr 55 Y1 r.1)] (.tup [.own 2000, .int .i64 r.2]) := by
  unfold history_Longer at h
  refine HC.of_body tab_ok (res := [.tmp 8, .tmp 9]) Try.func54 rfl (by kernel_rfl) rfl (nt := 65) rfl (by decide) (by simp) ?_
  refine AW.seq ?_
  refine AW.ops ?_
  refine AO.allF tab_ok (by decide) [(0, .sl Y1 h0), (1, .int .i64 call), (2, .int .i64 from0), (3, .int .i64 to0)] [] (by (simp only [go_sem]) <;> (repeat' with_reducible apply And.intro) <;> first | assumption | rfl | omega | (unfold maxLen; omega)) ?_
  refine athen_n ?_
  refine AW.seq ?_
  refine AW.ops ?_
  refine AO.segF tab_ok 1 (by decide) [(0, .sl Y1 h0), (1, .int .i64 call), (2, .int .i64 from0), (3, .int .i64 to0), (12, .sl Y1 h0)] [] (by (simp only [go_sem]) <;> (repeat' with_reducible apply And.intro) <;> first | assumption | rfl | omega | (unfold maxLen; omega)) ?_
  obtain ⟨v0, hv1, h⟩ := Option.bind_eq_some_iff.1 h
  refine AO.call tab_ok (by decide) rfl rfl rfl (fun _ h => h) [] [] (hc_slices_Clone h0 hv1) rfl (by (simp only [go_sem]) <;> (repeat' with_reducible apply And.intro) <;> first | assumption | rfl | omega | (unfold maxLen; omega)) (by (simp only [go_sem]) <;> (repeat' with_reducible apply And.intro) <;> first | assumption | rfl | omega | (unfold maxLen; omega)) [(0, .sl Y1 h0), (1, .int .i64 call), (2, .int .i64 from0), (3, .int .i64 to0), (13, .own 23000)] [(23000, .arr 55 Y1 v0)] (by (simp only [go_sem]) <;> (repeat' with_reducible apply And.intro) <;> first | assumption | rfl | omega | (unfold maxLen; omega)) ?_
  refine AO.allF tab_ok (by decide) [(0, .sl Y1 h0), (1, .int .i64 call), (2, .int .i64 from0), (3, .int .i64 to0), (10, .bp 10 0)] [(10, .box 23 [.own 23000]), (23000, .arr 55 Y1 v0)] (by (simp only [go_sem]) <;> (repeat' with_reducible apply And.intro) <;> first | assumption | rfl | omega | (unfold maxLen; omega)) ?_
  refine athen_n ?_
  refine AW.have1 (fun b1 : Bool => history_Longer_k1 h0 call from0 to0 v0 b1 = some r) (fun b1 => ⟨fr [(0, .sl Y1 h0), (1, .int .i64 call), (2, .int .i64 from0), (3, .int .i64 to0), (10, .bp 10 0), (11, .bool b1)], hpGet [(10, .box 23 [.own 23000]), (23000, .arr 55 Y1 v0)], gt⟩) (fun b1 h => ?_) (fun hk_history_Longer_k1 => ?_)
  · unfold history_Longer_k1 at h
    refine AW.have1 (fun b2 : (List (Int × Int × Int × Int × Int × Int)) => history_Longer_k2 h0 b1 b2 = some r) (fun b2 => ⟨fr [(0, .sl Y1 h0), (10, .bp 10 0), (11, .bool b1)], hpGet [(10, .box 23 [.own 23000]), (23000, .arr 55 Y1 b2)], gt⟩) (fun b2 h => ?_) (fun hk_history_Longer_k2 => ?_)
    · unfold history_Longer_k2 at h
      refine AW.seq ?_
      refine AW.ops ?_
      refine AO.segF tab_ok 3 (by decide) [(10, .bp 10 0), (54, .sl Y1 h0), (56, .bool b1)] [(10, .box 23 [.own 23000]), (23000, .arr 55 Y1 b2)] (by (simp only [go_sem]) <;> (repeat' with_reducible apply And.intro) <;> first | assumption | rfl | omega | (unfold maxLen; omega)) ?_
      rcases Bool.eq_false_or_eq_true b1 with hb2 | hb2
      · rw [if_pos hb2] at h
        refine AO.weaken (s' := ⟨fr [(10, .bp 10 0), (54, .sl Y1 h0), (56, .bool true)], hpGet [(10, .box 23 [.own 23000]), (23000, .arr 55 Y1 b2)], gt⟩) (Wk.to (by (simp only [go_sem, hb2]) <;> (repeat' with_reducible apply And.intro) <;> first | assumption | rfl | omega | (unfold maxLen; omega))) ?_
        refine AO.segF tab_ok 1 (by decide) [(10, .bp 10 0), (54, .sl Y1 h0), (56, .bool true), (57, .own 23000)] [(10, .box 23 [.own 23000]), (23000, .arr 55 Y1 b2)] (by (simp only [go_sem, hb2]) <;> (repeat' with_reducible apply And.intro) <;> first | assumption | rfl | omega | (unfold maxLen; omega)) ?_
        obtain ⟨v0_3, hv3, h⟩ := Option.bind_eq_some_iff.1 h
        refine AO.call tab_ok (by decide) rfl rfl rfl (fun _ h => ⟨fun _ => h, fun hn => absurd rfl hn⟩) [23000] [] (hc_history_Valid b2 hv3) rfl (by (simp only [go_sem, hb2]) <;> (repeat' with_reducible apply And.intro) <;> first | assumption | rfl | omega | (unfold maxLen; omega)) (by (simp only [go_sem, hb2]) <;> (repeat' with_reducible apply And.intro) <;> first | assumption | rfl | omega | (unfold maxLen; omega)) [(10, .bp 10 0), (54, .sl Y1 h0), (56, .bool true), (58, .bool v0_3)] [(10, .box 23 [.own 23000]), (23000, .arr 55 Y1 b2)] (by (simp only [go_sem, hb2]) <;> (repeat' with_reducible apply And.intro) <;> first | assumption | rfl | omega | (unfold maxLen; omega)) ?_
        refine AO.segF tab_ok 1 (by decide) [(10, .bp 10 0), (54, .sl Y1 h0), (59, .bool v0_3)] [(10, .box 23 [.own 23000]), (23000, .arr 55 Y1 b2)] (by (simp only [go_sem, hb2]) <;> (repeat' with_reducible apply And.intro) <;> first | assumption | rfl | omega | (unfold maxLen; omega)) ?_
        obtain ⟨v0_4, hv4, h⟩ := Option.bind_eq_some_iff.1 h
        refine AO.call tab_ok (by decide) rfl rfl rfl (fun _ h => h) [] [] (hc_history_check h0 v0_3 hv4) rfl (by (simp only [go_sem, hb2]) <;> (repeat' with_reducible apply And.intro) <;> first | assumption | rfl | omega | (unfold maxLen; omega)) (by (simp only [go_sem, hb2]) <;> (repeat' with_reducible apply And.intro) <;> first | assumption | rfl | omega | (unfold maxLen; omega)) [(10, .bp 10 0), (60, .int .i64 v0_4)] [(10, .box 23 [.own 23000]), (23000, .arr 55 Y1 b2)] (by (simp only [go_sem, hb2]) <;> (repeat' with_reducible apply And.intro) <;> first | assumption | rfl | omega | (unfold maxLen; omega)) ?_
        refine AO.segF tab_ok 1 (by decide) [(60, .int .i64 v0_4), (61, .fn (.func 114) [] [.bp 10 0])] [(10, .box 23 [.own 23000]), (23000, .arr 55 Y1 b2)] (by (simp only [go_sem, hb2]) <;> (repeat' with_reducible apply And.intro) <;> first | assumption | rfl | omega | (unfold maxLen; omega)) ?_
        rcases Bool.eq_false_or_eq_true (decide (v0_4 = 0)) with hb5 | hb5
        · rw [if_pos hb5] at h
          have hz6 : v0_4 = 0 := by simpa using hb5
          refine AO.weaken (s' := ⟨fr [(60, .int .i64 0), (61, .fn (.func 114) [] [.bp 10 0])], hpGet [(10, .box 23 [.own 23000]), (23000, .arr 55 Y1 b2)], gt⟩) (Wk.to (by (simp only [go_sem, hb2, hb5, hz6]) <;> (repeat' with_reducible apply And.intro) <;> first | assumption | rfl | omega | (unfold maxLen; omega))) ?_
          obtain ⟨v0_5, hv7, h⟩ := Option.bind_eq_some_iff.1 h
          refine AO.call tab_ok (by decide) rfl rfl rfl (fun _ h => h) [] [(1000, 10), (1001, 23000)] (hc_history_told_17 b2 hv7) rfl (by (simp only [go_sem, hb2, hb5, hz6]) <;> (repeat' with_reducible apply And.intro) <;> first | assumption | rfl | omega | (unfold maxLen; omega)) (by (simp only [go_sem, hb2, hb5, hz6]) <;> (repeat' with_reducible apply And.intro) <;> first | assumption | rfl | omega | (unfold maxLen; omega)) [(62, .tup [.own 23000, .int .i64 0])] [(23000, .arr 55 Y1 b2)] (by (simp only [go_sem, hb2, hb5, hz6]) <;> (repeat' with_reducible apply And.intro) <;> first | assumption | rfl | omega | (unfold maxLen; omega)) ?_
          refine AO.allF tab_ok (by decide) [(8, .own 23000), (9, .int .i64 0)] [(23000, .arr 55 Y1 b2)] (by (simp only [go_sem, hb2, hb5, hz6]) <;> (repeat' with_reducible apply And.intro) <;> first | assumption | rfl | omega | (unfold maxLen; omega)) ?_
          refine athen_n ?_
          refine AW.ret ?_
          obtain rfl := Option.some.inj h
          exact ⟨rfl, [], [], [(2000, 23000)], rfl, (by (simp only [go_sem, hb2, hb5, hz6]) <;> (repeat' with_reducible apply And.intro) <;> first | assumption | rfl | omega | (unfold maxLen; omega))⟩
        · rw [if_neg (Bool.eq_false_iff.1 hb5)] at h
          refine AO.weaken (s' := ⟨fr [(60, .int .i64 v0_4), (61, .fn (.func 114) [] [.bp 10 0])], hpGet [(10, .box 23 [.own 23000]), (23000, .arr 55 Y1 b2)], gt⟩) (Wk.to (by (simp only [go_sem, hb2, hb5]) <;> (repeat' with_reducible apply And.intro) <;> first | assumption | rfl | omega | (unfold maxLen; omega))) ?_
          obtain ⟨v0_6, hv8, h⟩ := Option.bind_eq_some_iff.1 h
          refine AO.call tab_ok (by decide) rfl rfl rfl (fun _ h => h) [] [(1000, 10), (1001, 23000)] (hc_history_told_18 v0_4 b2 hb5 hv8) rfl (by (simp only [go_sem, hb2, hb5]) <;> (repeat' with_reducible apply And.intro) <;> first | assumption | rfl | omega | (unfold maxLen; omega)) (by (simp only [go_sem, hb2, hb5]) <;> (repeat' with_reducible apply And.intro) <;> first | assumption | rfl | omega | (unfold maxLen; omega)) [(62, .tup [.cv (.slice none 0 0), .int .i64 v0_4])] [] (by (simp only [go_sem, hb2, hb5]) <;> (repeat' with_reducible apply And.intro) <;> first | assumption | rfl | omega | (unfold maxLen; omega)) ?_
          refine AO.allF tab_ok (by decide) [(8, .cv (.slice none 0 0)), (9, .int .i64 v0_4)] [] (by (simp only [go_sem, hb2, hb5]) <;> (repeat' with_reducible apply And.intro) <;> first | assumption | rfl | omega | (unfold maxLen; omega)) ?_
          refine athen_n ?_
          refine AW.ret ?_
          obtain rfl := Option.some.inj h
          exact ⟨rfl, [], [2000], [], rfl, (by (simp only [go_sem, hb2, hb5]) <;> (repeat' with_reducible apply And.intro) <;> first | assumption | rfl | omega | (unfold maxLen; omega))⟩
      · rw [if_neg (Bool.eq_false_iff.1 hb2)] at h
        refine AO.weaken (s' := ⟨fr [(10, .bp 10 0), (54, .sl Y1 h0), (56, .bool false)], hpGet [(10, .box 23 [.own 23000]), (23000, .arr 55 Y1 b2)], gt⟩) (Wk.to (by (simp only [go_sem, hb2]) <;> (repeat' with_reducible apply And.intro) <;> first | assumption | rfl | omega | (unfold maxLen; omega))) ?_
        refine AO.segF tab_ok 3 (by decide) [(10, .bp 10 0), (54, .sl Y1 h0), (59, .bool false)] [(10, .box 23 [.own 23000]), (23000, .arr 55 Y1 b2)] (by (simp only [go_sem, hb2]) <;> (repeat' with_reducible apply And.intro) <;> first | assumption | rfl | omega | (unfold maxLen; omega)) ?_
        obtain ⟨v0_7, hv9, h⟩ := Option.bind_eq_some_iff.1 h
        refine AO.call tab_ok (by decide) rfl rfl rfl (fun _ h => h) [] [] (hc_history_check h0 false hv9) rfl (by (simp only [go_sem, hb2]) <;> (repeat' with_reducible apply And.intro) <;> first | assumption | rfl | omega | (unfold maxLen; omega)) (by (simp only [go_sem, hb2]) <;> (repeat' with_reducible apply And.intro) <;> first | assumption | rfl | omega | (unfold maxLen; omega)) [(10, .bp 10 0), (60, .int .i64 v0_7)] [(10, .box 23 [.own 23000]), (23000, .arr 55 Y1 b2)] (by (simp only [go_sem, hb2]) <;> (repeat' with_reducible apply And.intro) <;> first | assumption | rfl | omega | (unfold maxLen; omega)) ?_
        refine AO.segF tab_ok 1 (by decide) [(60, .int .i64 v0_7), (61, .fn (.func 114) [] [.bp 10 0])] [(10, .box 23 [.own 23000]), (23000, .arr 55 Y1 b2)] (by (simp only [go_sem, hb2]) <;> (repeat' with_reducible apply And.intro) <;> first | assumption | rfl | omega | (unfold maxLen; omega)) ?_
        rcases Bool.eq_false_or_eq_true (decide (v0_7 = 0)) with hb10 | hb10
        · rw [if_pos hb10] at h
          have hz11 : v0_7 = 0 := by simpa using hb10
          refine AO.weaken (s' := ⟨fr [(60, .int .i64 0), (61, .fn (.func 114) [] [.bp 10 0])], hpGet [(10, .box 23 [.own 23000]), (23000, .arr 55 Y1 b2)], gt⟩) (Wk.to (by (simp only [go_sem, hb2, hb10, hz11]) <;> (repeat' with_reducible apply And.intro) <;> first | assumption | rfl | omega | (unfold maxLen; omega))) ?_
          obtain ⟨v0_8, hv12, h⟩ := Option.bind_eq_some_iff.1 h
          refine AO.call tab_ok (by decide) rfl rfl rfl (fun _ h => h) [] [(1000, 10), (1001, 23000)] (hc_history_told_17 b2 hv12) rfl (by (simp only [go_sem, hb2, hb10, hz11]) <;> (repeat' with_reducible apply And.intro) <;> first | assumption | rfl | omega | (unfold maxLen; omega)) (by (simp only [go_sem, hb2, hb10, hz11]) <;> (repeat' with_reducible apply And.intro) <;> first | assumption | rfl | omega | (unfold maxLen; omega)) [(62, .tup [.own 23000, .int .i64 0])] [(23000, .arr 55 Y1 b2)] (by (simp only [go_sem, hb2, hb10, hz11]) <;> (repeat' with_reducible apply And.intro) <;> first | assumption | rfl | omega | (unfold maxLen; omega)) ?_
          refine AO.allF tab_ok (by decide) [(8, .own 23000), (9, .int .i64 0)] [(23000, .arr 55 Y1 b2)] (by (simp only [go_sem, hb2, hb10, hz11]) <;> (repeat' with_reducible apply And.intro) <;> first | assumption | rfl | omega | (unfold maxLen; omega)) ?_
          refine athen_n ?_
          refine AW.ret ?_
          obtain rfl := Option.some.inj h
          exact ⟨rfl, [], [], [(2000, 23000)], rfl, (by (simp only [go_sem, hb2, hb10, hz11]) <;> (repeat' with_reducible apply And.intro) <;> first | assumption | rfl | omega | (unfold maxLen; omega))⟩
        · rw [if_neg (Bool.eq_false_iff.1 hb10)] at h
          refine AO.weaken (s' := ⟨fr [(60, .int .i64 v0_7), (61, .fn (.func 114) [] [.bp 10 0])], hpGet [(10, .box 23 [.own 23000]), (23000, .arr 55 Y1 b2)], gt⟩) (Wk.to (by (simp only [go_sem, hb2, hb10]) <;> (repeat' with_reducible apply And.intro) <;> first | assumption | rfl | omega | (unfold maxLen; omega))) ?_
          obtain ⟨v0_9, hv13, h⟩ := Option.bind_eq_some_iff.1 h
          refine AO.call tab_ok (by decide) rfl rfl rfl (fun _ h => h) [] [(1000, 10), (1001, 23000)] (hc_history_told_18 v0_7 b2 hb10 hv13) rfl (by (simp only [go_sem, hb2, hb10]) <;> (repeat' with_reducible apply And.intro) <;> first | assumption | rfl | omega | (unfold maxLen; omega)) (by (simp only [go_sem, hb2, hb10]) <;> (repeat' with_reducible apply And.intro) <;> first | assumption | rfl | omega | (unfold maxLen; omega)) [(62, .tup [.cv (.slice none 0 0), .int .i64 v0_7])] [] (by (simp only [go_sem, hb2, hb10]) <;> (repeat' with_reducible apply And.intro) <;> first | assumption | rfl | omega | (unfold maxLen; omega)) ?_
          refine AO.allF tab_ok (by decide) [(8, .cv (.slice none 0 0)), (9, .int .i64 v0_7)] [] (by (simp only [go_sem, hb2, hb10]) <;> (repeat' with_reducible apply And.intro) <;> first | assumption | rfl | omega | (unfold maxLen; omega)) ?_
          refine athen_n ?_
          refine AW.ret ?_
          obtain rfl := Option.some.inj h
          exact ⟨rfl, [], [2000], [], rfl, (by (simp only [go_sem, hb2, hb10]) <;> (repeat' with_reducible apply And.intro) <;> first | assumption | rfl | omega | (unfold maxLen; omega))⟩
    · refine AW.seq ?_
      refine AW.seq ?_
      refine AW.ops ?_
      refine AO.allF tab_ok (by decide) [(0, .sl Y1 h0), (1, .int .i64 call), (2, .int .i64 from0), (3, .int .i64 to0), (10, .bp 10 0), (11, .bool b1), (43, .bool b1)] [(10, .box 23 [.own 23000]), (23000, .arr 55 Y1 v0)] (by (simp only [go_sem]) <;> (repeat' with_reducible apply And.intro) <;> first | assumption | rfl | omega | (unfold maxLen; omega)) ?_
      refine athen_n ?_
      refine AW.cond (b := b1) rfl (fun hb14 => ?_) (fun hb14 => ?_)
      · rw [if_pos hb14] at h
        refine AW.draw tab_ok mixed_ok [(8, [23000]), (11, [23000])] [(2, [10, 23000, 1000023000]), (3, []), (5, []), (100008, []), (100011, [])] (by decide) (by kernel_rfl) ?_
        refine adops_cut 6 (fun K' hK15 => ?_)
        try dsimp only [List.drop_succ_cons, List.drop_zero, List.take_succ_cons, List.take_zero]
        simp only [go_sem, hb14]
        repeat (with_reducible refine And.intro (by first | assumption | rfl | omega | trivial | (unfold maxLen; omega)) ?_)
        refine hK15 _ ?_
        obtain ⟨c17, h⟩ := ck_some.1 h
        obtain ⟨c18, h⟩ := ck_some.1 h
        obtain ⟨c19, h⟩ := ck_some.1 h
        obtain ⟨c20, h⟩ := ck_some.1 h
        refine adops_cut 6 (fun K' hK16 => ?_)
        try dsimp only [List.drop_succ_cons, List.drop_zero, List.take_succ_cons, List.take_zero]
        simp only [go_sem, hb14]
        repeat (with_reducible refine And.intro (by first | assumption | rfl | omega | trivial | (unfold maxLen; omega)) ?_)
        refine hK16 _ ?_
        refine adops_nil ?_
        refine athen_n ?_
        refine AW.weaken (s' := ⟨fr [(0, .sl Y1 h0), (10, .bp 10 0), (11, .bool b1)], hpGet [(10, .box 23 [.own 23000]), (23000, .arr 55 Y1 ((v0.set call.toNat ((v0.getD call.toNat (0, 0, 0, 0, 0, 0)).1, (v0.getD call.toNat (0, 0, 0, 0, 0, 0)).2.1, (v0.getD call.toNat (0, 0, 0, 0, 0, 0)).2.2.1, (v0.getD call.toNat (0, 0, 0, 0, 0, 0)).2.2.2.1, from0, (v0.getD call.toNat (0, 0, 0, 0, 0, 0)).2.2.2.2.2)).set call.toNat (((v0.set call.toNat ((v0.getD call.toNat (0, 0, 0, 0, 0, 0)).1, (v0.getD call.toNat (0, 0, 0, 0, 0, 0)).2.1, (v0.getD call.toNat (0, 0, 0, 0, 0, 0)).2.2.1, (v0.getD call.toNat (0, 0, 0, 0, 0, 0)).2.2.2.1, from0, (v0.getD call.toNat (0, 0, 0, 0, 0, 0)).2.2.2.2.2)).getD call.toNat (0, 0, 0, 0, 0, 0)).1, ((v0.set call.toNat ((v0.getD call.toNat (0, 0, 0, 0, 0, 0)).1, (v0.getD call.toNat (0, 0, 0, 0, 0, 0)).2.1, (v0.getD call.toNat (0, 0, 0, 0, 0, 0)).2.2.1, (v0.getD call.toNat (0, 0, 0, 0, 0, 0)).2.2.2.1, from0, (v0.getD call.toNat (0, 0, 0, 0, 0, 0)).2.2.2.2.2)).getD call.toNat (0, 0, 0, 0, 0, 0)).2.1, ((v0.set call.toNat ((v0.getD call.toNat (0, 0, 0, 0, 0, 0)).1, (v0.getD call.toNat (0, 0, 0, 0, 0, 0)).2.1, (v0.getD call.toNat (0, 0, 0, 0, 0, 0)).2.2.1, (v0.getD call.toNat (0, 0, 0, 0, 0, 0)).2.2.2.1, from0, (v0.getD call.toNat (0, 0, 0, 0, 0, 0)).2.2.2.2.2)).getD call.toNat (0, 0, 0, 0, 0, 0)).2.2.1, ((v0.set call.toNat ((v0.getD call.toNat (0, 0, 0, 0, 0, 0)).1, (v0.getD call.toNat (0, 0, 0, 0, 0, 0)).2.1, (v0.getD call.toNat (0, 0, 0, 0, 0, 0)).2.2.1, (v0.getD call.toNat (0, 0, 0, 0, 0, 0)).2.2.2.1, from0, (v0.getD call.toNat (0, 0, 0, 0, 0, 0)).2.2.2.2.2)).getD call.toNat (0, 0, 0, 0, 0, 0)).2.2.2.1, ((v0.set call.toNat ((v0.getD call.toNat (0, 0, 0, 0, 0, 0)).1, (v0.getD call.toNat (0, 0, 0, 0, 0, 0)).2.1, (v0.getD call.toNat (0, 0, 0, 0, 0, 0)).2.2.1, (v0.getD call.toNat (0, 0, 0, 0, 0, 0)).2.2.2.1, from0, (v0.getD call.toNat (0, 0, 0, 0, 0, 0)).2.2.2.2.2)).getD call.toNat (0, 0, 0, 0, 0, 0)).2.2.2.2.1, to0)))], gt⟩) (Wk.to (by (simp only [go_sem, hb14]) <;> (repeat' with_reducible apply And.intro) <;> first | assumption | rfl | omega | (unfold maxLen; omega))) ?_
        exact AW.weaken (Wk.le [] [] [] rfl (by (simp only [go_sem, hb14]) <;> (repeat' with_reducible apply And.intro) <;> first | assumption | rfl | omega | (unfold maxLen; omega)) (by (simp only [go_sem, hb14]) <;> (repeat' with_reducible apply And.intro) <;> first | assumption | rfl | omega | (unfold maxLen; omega))) (hk_history_Longer_k2 _ h)
      · rw [if_neg (Bool.eq_false_iff.1 hb14)] at h
        refine AW.skip ?_
        refine athen_n ?_
        exact AW.weaken (Wk.le [] [] [] rfl (by (simp only [go_sem, hb14]) <;> (repeat' with_reducible apply And.intro) <;> first | assumption | rfl | omega | (unfold maxLen; omega)) (by (simp only [go_sem, hb14]) <;> (repeat' with_reducible apply And.intro) <;> first | assumption | rfl | omega | (unfold maxLen; omega))) (hk_history_Longer_k2 _ h)
  · refine AW.seq ?_
    refine AW.ops ?_
    refine AO.segF tab_ok 2 (by decide) [(0, .sl Y1 h0), (1, .int .i64 call), (2, .int .i64 from0), (3, .int .i64 to0), (10, .bp 10 0), (14, .sl Y1 h0), (15, .int .i64 call)] [(10, .box 23 [.own 23000]), (23000, .arr 55 Y1 v0)] (by (simp only [go_sem]) <;> (repeat' with_reducible apply And.intro) <;> first | assumption | rfl | omega | (unfold maxLen; omega)) ?_
    obtain ⟨v0_2, hv21, h⟩ := Option.bind_eq_some_iff.1 h
    refine AO.call tab_ok (by decide) rfl rfl rfl (fun _ h => h) [] [] (hc_history_isIndex h0 call hv21) rfl (by (simp only [go_sem]) <;> (repeat' with_reducible apply And.intro) <;> first | assumption | rfl | omega | (unfold maxLen; omega)) (by (simp only [go_sem]) <;> (repeat' with_reducible apply And.intro) <;> first | assumption | rfl | omega | (unfold maxLen; omega)) [(0, .sl Y1 h0), (1, .int .i64 call), (2, .int .i64 from0), (3, .int .i64 to0), (10, .bp 10 0), (16, .bool v0_2)] [(10, .box 23 [.own 23000]), (23000, .arr 55 Y1 v0)] (by (simp only [go_sem]) <;> (repeat' with_reducible apply And.intro) <;> first | assumption | rfl | omega | (unfold maxLen; omega)) ?_
    refine AO.segF tab_ok 1 (by decide) [(0, .sl Y1 h0), (1, .int .i64 call), (2, .int .i64 from0), (3, .int .i64 to0), (10, .bp 10 0), (17, .bool v0_2)] [(10, .box 23 [.own 23000]), (23000, .arr 55 Y1 v0)] (by (simp only [go_sem]) <;> (repeat' with_reducible apply And.intro) <;> first | assumption | rfl | omega | (unfold maxLen; omega)) ?_
    rcases Bool.eq_false_or_eq_true v0_2 with hb22 | hb22
    · rw [if_pos hb22] at h
      refine AO.weaken (s' := ⟨fr [(0, .sl Y1 h0), (1, .int .i64 call), (2, .int .i64 from0), (3, .int .i64 to0), (10, .bp 10 0), (17, .bool true)], hpGet [(10, .box 23 [.own 23000]), (23000, .arr 55 Y1 v0)], gt⟩) (Wk.to (by (simp only [go_sem, hb22]) <;> (repeat' with_reducible apply And.intro) <;> first | assumption | rfl | omega | (unfold maxLen; omega))) ?_
      obtain ⟨c23, h⟩ := ck_some.1 h
      obtain ⟨c24, h⟩ := ck_some.1 h
      refine AO.segF tab_ok 8 (by decide) [(0, .sl Y1 h0), (1, .int .i64 call), (2, .int .i64 from0), (3, .int .i64 to0), (10, .bp 10 0), (25, .bool (!(decide ((h0.getD call.toNat (0, 0, 0, 0, 0, 0)).2.2.2.2.2 = 0))))] [(10, .box 23 [.own 23000]), (23000, .arr 55 Y1 v0)] (by (simp only [go_sem, hb22]) <;> (repeat' with_reducible apply And.intro) <;> first | assumption | rfl | omega | (unfold maxLen; omega)) ?_
      rcases Bool.eq_false_or_eq_true (!(decide ((h0.getD call.toNat (0, 0, 0, 0, 0, 0)).2.2.2.2.2 = 0))) with hb25 | hb25
      · rw [if_pos hb25] at h
        refine AO.weaken (s' := ⟨fr [(0, .sl Y1 h0), (1, .int .i64 call), (2, .int .i64 from0), (3, .int .i64 to0), (10, .bp 10 0), (25, .bool true)], hpGet [(10, .box 23 [.own 23000]), (23000, .arr 55 Y1 v0)], gt⟩) (Wk.to (by (simp only [go_sem, hb22, hb25]) <;> (repeat' with_reducible apply And.intro) <;> first | assumption | rfl | omega | (unfold maxLen; omega))) ?_
        obtain ⟨c26, h⟩ := ck_some.1 h
        obtain ⟨c27, h⟩ := ck_some.1 h
        refine AO.segF tab_ok 9 (by decide) [(0, .sl Y1 h0), (1, .int .i64 call), (2, .int .i64 from0), (3, .int .i64 to0), (10, .bp 10 0), (34, .bool (decide (from0 ≤ (h0.getD call.toNat (0, 0, 0, 0, 0, 0)).2.2.2.2.1)))] [(10, .box 23 [.own 23000]), (23000, .arr 55 Y1 v0)] (by (simp only [go_sem, hb22, hb25]) <;> (repeat' with_reducible apply And.intro) <;> first | assumption | rfl | omega | (unfold maxLen; omega)) ?_
        rcases Bool.eq_false_or_eq_true (decide (from0 ≤ (h0.getD call.toNat (0, 0, 0, 0, 0, 0)).2.2.2.2.1)) with hb28 | hb28
        · rw [if_pos hb28] at h
          refine AO.weaken (s' := ⟨fr [(0, .sl Y1 h0), (1, .int .i64 call), (2, .int .i64 from0), (3, .int .i64 to0), (10, .bp 10 0), (34, .bool true)], hpGet [(10, .box 23 [.own 23000]), (23000, .arr 55 Y1 v0)], gt⟩) (Wk.to (by (simp only [go_sem, hb22, hb25, hb28]) <;> (repeat' with_reducible apply And.intro) <;> first | assumption | rfl | omega | (unfold maxLen; omega))) ?_
          obtain ⟨c29, h⟩ := ck_some.1 h
          obtain ⟨c30, h⟩ := ck_some.1 h
          refine AO.allF tab_ok (by decide) [(0, .sl Y1 h0), (1, .int .i64 call), (2, .int .i64 from0), (3, .int .i64 to0), (10, .bp 10 0), (11, .bool (decide ((h0.getD call.toNat (0, 0, 0, 0, 0, 0)).2.2.2.2.2 ≤ to0)))] [(10, .box 23 [.own 23000]), (23000, .arr 55 Y1 v0)] (by (simp only [go_sem, hb22, hb25, hb28]) <;> (repeat' with_reducible apply And.intro) <;> first | assumption | rfl | omega | (unfold maxLen; omega)) ?_
          refine athen_n ?_
          exact AW.weaken (Wk.le [] [] [] rfl (by (simp only [go_sem, hb22, hb25, hb28]) <;> (repeat' with_reducible apply And.intro) <;> first | assumption | rfl | omega | (unfold maxLen; omega)) (by (simp only [go_sem, hb22, hb25, hb28]) <;> (repeat' with_reducible apply And.intro) <;> first | assumption | rfl | omega | (unfold maxLen; omega))) (hk_history_Longer_k1 _ h)
        · rw [if_neg (Bool.eq_false_iff.1 hb28)] at h
          refine AO.weaken (s' := ⟨fr [(0, .sl Y1 h0), (1, .int .i64 call), (2, .int .i64 from0), (3, .int .i64 to0), (10, .bp 10 0), (34, .bool false)], hpGet [(10, .box 23 [.own 23000]), (23000, .arr 55 Y1 v0)], gt⟩) (Wk.to (by (simp only [go_sem, hb22, hb25, hb28]) <;> (repeat' with_reducible apply And.intro) <;> first | assumption | rfl | omega | (unfold maxLen; omega))) ?_
          refine AO.segF tab_ok 4 (by decide) [(0, .sl Y1 h0), (1, .int .i64 call), (2, .int .i64 from0), (3, .int .i64 to0), (10, .bp 10 0), (34, .bool false), (35, .cv (undef)), (38, .cv (undef))] [(10, .box 23 [.own 23000]), (23000, .arr 55 Y1 v0)] (by (simp only [go_sem, hb22, hb25, hb28]) <;> (repeat' with_reducible apply And.intro) <;> first | assumption | rfl | omega | (unfold maxLen; omega)) ?_
          refine AO.allF tab_ok (by decide) [(0, .sl Y1 h0), (1, .int .i64 call), (2, .int .i64 from0), (3, .int .i64 to0), (10, .bp 10 0), (11, .bool false)] [(10, .box 23 [.own 23000]), (23000, .arr 55 Y1 v0)] (by (simp only [go_sem, hb22, hb25, hb28]) <;> (repeat' with_reducible apply And.intro) <;> first | assumption | rfl | omega | (unfold maxLen; omega)) ?_
          refine athen_n ?_
          exact AW.weaken (Wk.le [] [] [] rfl (by (simp only [go_sem, hb22, hb25, hb28]) <;> (repeat' with_reducible apply And.intro) <;> first | assumption | rfl | omega | (unfold maxLen; omega)) (by (simp only [go_sem, hb22, hb25, hb28]) <;> (repeat' with_reducible apply And.intro) <;> first | assumption | rfl | omega | (unfold maxLen; omega))) (hk_history_Longer_k1 _ h)
      · rw [if_neg (Bool.eq_false_iff.1 hb25)] at h
        refine AO.weaken (s' := ⟨fr [(0, .sl Y1 h0), (1, .int .i64 call), (2, .int .i64 from0), (3, .int .i64 to0), (10, .bp 10 0), (25, .bool false)], hpGet [(10, .box 23 [.own 23000]), (23000, .arr 55 Y1 v0)], gt⟩) (Wk.to (by (simp only [go_sem, hb22, hb25]) <;> (repeat' with_reducible apply And.intro) <;> first | assumption | rfl | omega | (unfold maxLen; omega))) ?_
        refine AO.segF tab_ok 4 (by decide) [(0, .sl Y1 h0), (1, .int .i64 call), (2, .int .i64 from0), (3, .int .i64 to0), (10, .bp 10 0), (25, .bool false), (26, .cv (undef)), (29, .cv (undef))] [(10, .box 23 [.own 23000]), (23000, .arr 55 Y1 v0)] (by (simp only [go_sem, hb22, hb25]) <;> (repeat' with_reducible apply And.intro) <;> first | assumption | rfl | omega | (unfold maxLen; omega)) ?_
        refine AO.segF tab_ok 6 (by decide) [(0, .sl Y1 h0), (1, .int .i64 call), (2, .int .i64 from0), (3, .int .i64 to0), (10, .bp 10 0), (34, .bool false), (35, .cv (undef))] [(10, .box 23 [.own 23000]), (23000, .arr 55 Y1 v0)] (by (simp only [go_sem, hb22, hb25]) <;> (repeat' with_reducible apply And.intro) <;> first | assumption | rfl | omega | (unfold maxLen; omega)) ?_
        refine AO.segF tab_ok 4 (by decide) [(0, .sl Y1 h0), (1, .int .i64 call), (2, .int .i64 from0), (3, .int .i64 to0), (10, .bp 10 0), (34, .bool false), (35, .cv (undef)), (39, .cv (undef))] [(10, .box 23 [.own 23000]), (23000, .arr 55 Y1 v0)] (by (simp only [go_sem, hb22, hb25]) <;> (repeat' with_reducible apply And.intro) <;> first | assumption | rfl | omega | (unfold maxLen; omega)) ?_
        refine AO.allF tab_ok (by decide) [(0, .sl Y1 h0), (1, .int .i64 call), (2, .int .i64 from0), (3, .int .i64 to0), (10, .bp 10 0), (11, .bool false)] [(10, .box 23 [.own 23000]), (23000, .arr 55 Y1 v0)] (by (simp only [go_sem, hb22, hb25]) <;> (repeat' with_reducible apply And.intro) <;> first | assumption | rfl | omega | (unfold maxLen; omega)) ?_
        refine athen_n ?_
        exact AW.weaken (Wk.le [] [] [] rfl (by (simp only [go_sem, hb22, hb25]) <;> (repeat' with_reducible apply And.intro) <;> first | assumption | rfl | omega | (unfold maxLen; omega)) (by (simp only [go_sem, hb22, hb25]) <;> (repeat' with_reducible apply And.intro) <;> first | assumption | rfl | omega | (unfold maxLen; omega))) (hk_history_Longer_k1 _ h)
    · rw [if_neg (Bool.eq_false_iff.1 hb22)] at h
      refine AO.weaken (s' := ⟨fr [(0, .sl Y1 h0), (1, .int .i64 call), (2, .int .i64 from0), (3, .int .i64 to0), (10, .bp 10 0), (17, .bool false)], hpGet [(10, .box 23 [.own 23000]), (23000, .arr 55 Y1 v0)], gt⟩) (Wk.to (by (simp only [go_sem, hb22]) <;> (repeat' with_reducible apply And.intro) <;> first | assumption | rfl | omega | (unfold maxLen; omega))) ?_
      refine AO.segF tab_ok 4 (by decide) [(0, .sl Y1 h0), (1, .int .i64 call), (2, .int .i64 from0), (3, .int .i64 to0), (10, .bp 10 0), (17, .bool false), (21, .cv (undef))] [(10, .box 23 [.own 23000]), (23000, .arr 55 Y1 v0)] (by (simp only [go_sem, hb22]) <;> (repeat' with_reducible apply And.intro) <;> first | assumption | rfl | omega | (unfold maxLen; omega)) ?_
      refine AO.segF tab_ok 6 (by decide) [(0, .sl Y1 h0), (1, .int .i64 call), (2, .int .i64 from0), (3, .int .i64 to0), (10, .bp 10 0), (25, .bool false), (26, .cv (undef)), (27, .cv (undef))] [(10, .box 23 [.own 23000]), (23000, .arr 55 Y1 v0)] (by (simp only [go_sem, hb22]) <;> (repeat' with_reducible apply And.intro) <;> first | assumption | rfl | omega | (unfold maxLen; omega)) ?_
      refine AO.segF tab_ok 4 (by decide) [(0, .sl Y1 h0), (1, .int .i64 call), (2, .int .i64 from0), (3, .int .i64 to0), (10, .bp 10 0), (25, .bool false), (26, .cv (undef)), (31, .cv (undef))] [(10, .box 23 [.own 23000]), (23000, .arr 55 Y1 v0)] (by (simp only [go_sem, hb22]) <;> (repeat' with_reducible apply And.intro) <;> first | assumption | rfl | omega | (unfold maxLen; omega)) ?_
      refine AO.segF tab_ok 6 (by decide) [(0, .sl Y1 h0), (1, .int .i64 call), (2, .int .i64 from0), (3, .int .i64 to0), (10, .bp 10 0), (34, .bool false), (35, .cv (undef)), (36, .cv (undef)), (37, .cv (undef))] [(10, .box 23 [.own 23000]), (23000, .arr 55 Y1 v0)] (by (simp only [go_sem, hb22]) <;> (repeat' with_reducible apply And.intro) <;> first | assumption | rfl | omega | (unfold maxLen; omega)) ?_
      refine AO.segF tab_ok 4 (by decide) [(0, .sl Y1 h0), (1, .int .i64 call), (2, .int .i64 from0), (3, .int .i64 to0), (10, .bp 10 0), (34, .bool false), (41, .cv (undef))] [(10, .box 23 [.own 23000]), (23000, .arr 55 Y1 v0)] (by (simp only [go_sem, hb22]) <;> (repeat' with_reducible apply And.intro) <;> first | assumption | rfl | omega | (unfold maxLen; omega)) ?_
      refine AO.allF tab_ok (by decide) [(0, .sl Y1 h0), (1, .int .i64 call), (2, .int .i64 from0), (3, .int .i64 to0), (10, .bp 10 0), (11, .bool false)] [(10, .box 23 [.own 23000]), (23000, .arr 55 Y1 v0)] (by (simp only [go_sem, hb22]) <;> (repeat' with_reducible apply And.intro) <;> first | assumption | rfl | omega | (unfold maxLen; omega)) ?_
      refine athen_n ?_
      exact AW.weaken (Wk.le [] [] [] rfl (by (simp only [go_sem, hb22]) <;> (repeat' with_reducible apply And.intro) <;> first | assumption | rfl | omega | (unfold maxLen; omega)) (by (simp only [go_sem, hb22]) <;> (repeat' with_reducible apply And.intro) <;> first | assumption | rfl | omega | (unfold maxLen; omega))) (hk_history_Longer_k1 _ h)

set_option maxRecDepth 100000 in
set_option maxHeartbeats 2000000 in
theorem hc_history_Orders_1 (a0 : List (Int × Int × (List (List Int)) × (List (List Int)))) (a1 : List (Int × Int × Int × Int × Int × Int)) {r : Int} (h : history_Orders_1 a0 a1 = some r) : HC Try.prog 97 [(1000, .box 22 [.sl Y0 a0]), (1001, .box 23 [.sl Y1 a1])] [.bp 1000 0, .bp 1001 0] [(1000, .box 22 [.sl Y0 a0]), (1001, .box 23 [.sl Y1 a1])] (.int .i64 r) := by
  unfold history_Orders_1 at h
  refine HC.of_body tab_ok (res := [.tmp 2]) Try.func97 rfl (by kernel_rfl) rfl (nt := 8) rfl (by decide) (by simp) ?_
  refine AW.seq ?_
  refine AW.ops ?_
  refine AO.allF tab_ok (by decide) [(0, .bp 1000 0), (1, .bp 1001 0)] [(1000, .box 22 [.sl Y0 a0]), (1001, .box 23 [.sl Y1 a1])] (by (simp only [go_sem]) <;> (repeat' with_reducible apply And.intro) <;> first | assumption | rfl | omega | (unfold maxLen; omega)) ?_
  refine athen_n ?_
  refine AW.seq ?_
  refine AW.ops ?_
  refine AO.segF tab_ok 2 (by decide) [(3, .sl Y0 a0), (4, .sl Y1 a1)] [(1000, .box 22 [.sl Y0 a0]), (1001, .box 23 [.sl Y1 a1])] (by (simp only [go_sem]) <;> (repeat' with_reducible apply And.intro) <;> first | assumption | rfl | omega | (unfold maxLen; omega)) ?_
  obtain ⟨v0, hv1, h⟩ := Option.bind_eq_some_iff.1 h
  refine AO.call tab_ok (by decide) rfl rfl rfl (fun _ h => h) [] [] (hc_history_newSearch a0 a1 hv1) rfl (by (simp only [go_sem]) <;> (repeat' with_reducible apply And.intro) <;> first | assumption | rfl | omega | (unfold maxLen; omega)) (by (simp only [go_sem]) <;> (repeat' with_reducible apply And.intro) <;> first | assumption | rfl | omega | (unfold maxLen; omega)) [(5, .agg [.sl Y0 a0, .sl Y1 a1, .fn (.func 77) [] [], .own 15000])] [(1000, .box 22 [.sl Y0 a0]), (1001, .box 23 [.sl Y1 a1]), (15000, .map true false (.pair (.pair (.int .i64) (.int .i64)) (.int .u64)) (.int .i64) [])] (by (simp only [go_sem]) <;> (repeat' with_reducible apply And.intro) <;> first | assumption | rfl | omega | (unfold maxLen; omega)) ?_
  refine AO.segF tab_ok 1 (by decide) [(5, .agg [.sl Y0 a0, .sl Y1 a1, .fn (.func 77) [] [], .own 15000]), (6, .agg [.int .i64 0, .int .i64 0, .int .u64 0])] [(1000, .box 22 [.sl Y0 a0]), (1001, .box 23 [.sl Y1 a1]), (15000, .map true false (.pair (.pair (.int .i64) (.int .i64)) (.int .u64)) (.int .i64) [])] (by (simp only [go_sem]) <;> (repeat' with_reducible apply And.intro) <;> first | assumption | rfl | omega | (unfold maxLen; omega)) ?_
  obtain ⟨v0_2, hv2, h⟩ := Option.bind_eq_some_iff.1 h
  refine AO.call tab_ok (by decide) rfl rfl rfl (fun _ h => h) [] [(1000, 15000)] (hc_history_search_count fuel a0 a1 ((0, 0), 0) [] hv2) rfl (by (simp only [go_sem]) <;> (repeat' with_reducible apply And.intro) <;> first | assumption | rfl | omega | (unfold maxLen; omega)) (by (simp only [go_sem]) <;> (repeat' with_reducible apply And.intro) <;> first | assumption | rfl | omega | (unfold maxLen; omega)) [(7, .int .i64 v0_2.1)] [(1000, .box 22 [.sl Y0 a0]), (1001, .box 23 [.sl Y1 a1])] (by (simp only [go_sem]) <;> (repeat' with_reducible apply And.intro) <;> first | assumption | rfl | omega | (unfold maxLen; omega)) ?_
  refine AO.allF tab_ok (by decide) [(2, .int .i64 v0_2.1)] [(1000, .box 22 [.sl Y0 a0]), (1001, .box 23 [.sl Y1 a1])] (by (simp only [go_sem]) <;> (repeat' with_reducible apply And.intro) <;> first | assumption | rfl | omega | (unfold maxLen; omega)) ?_
  refine athen_n ?_
  refine AW.ret ?_
  obtain rfl := Option.some.inj h
  exact ⟨rfl, [], [], [], rfl, (by (simp only [go_sem]) <;> (repeat' with_reducible apply And.intro) <;> first | assumption | rfl | omega | (unfold maxLen; omega))⟩

set_option maxRecDepth 100000 in
set_option maxHeartbeats 2000000 in
theorem hc_history_told_19 (c0 : List (Int × Int × (List (List Int)) × (List (List Int)))) (c1 : List (Int × Int × Int × Int × Int × Int)) {r : Int} (h : history_told_19 c0 c1 = some r) : HC Try.prog 96 [(1000, .box 22 [.sl Y0 c0]), (1001, .box 23 [.sl Y1 c1])] [.int .i64 0, .fn (.func 97) [] [.bp 1000 0, .bp 1001 0]] [(1000, .box 22 [.sl Y0 c0]), (1001, .box 23 [.sl Y1 c1])] (.tup [.int .i64 r, .int .i64 0]) := by
  unfold history_told_19 at h
  refine HC.of_body tab_ok (res := [.tmp 4, .tmp 5]) Try.func96 rfl (by kernel_rfl) rfl (nt := 13) rfl (by decide) (by simp) ?_
  refine AW.seq ?_
  refine AW.ops ?_
  refine AO.allF tab_ok (by decide) [(0, .int .i64 0), (1, .fn (.func 97) [] [.bp 1000 0, .bp 1001 0])] [(1000, .box 22 [.sl Y0 c0]), (1001, .box 23 [.sl Y1 c1])] (by (simp only [go_sem]) <;> (repeat' with_reducible apply And.intro) <;> first | assumption | rfl | omega | (unfold maxLen; omega)) ?_
  refine athen_n ?_
  refine AW.seq ?_
  refine AW.seq ?_
  refine AW.ops ?_
  refine AO.allF tab_ok (by decide) [(0, .int .i64 0), (1, .fn (.func 97) [] [.bp 1000 0, .bp 1001 0]), (8, .bool false)] [(1000, .box 22 [.sl Y0 c0]), (1001, .box 23 [.sl Y1 c1])] (by (simp only [go_sem]) <;> (repeat' with_reducible apply And.intro) <;> first | assumption | rfl | omega | (unfold maxLen; omega)) ?_
  refine athen_n ?_
  refine AW.cond (b := false) rfl (fun hb1 => by cases hb1) (fun _ => ?_)
  refine AW.skip ?_
  refine athen_n ?_
  refine AW.seq ?_
  refine AW.ops ?_
  refine AO.segF tab_ok 1 (by decide) [(11, .fn (.func 97) [] [.bp 1000 0, .bp 1001 0])] [(1000, .box 22 [.sl Y0 c0]), (1001, .box 23 [.sl Y1 c1])] (by (simp only [go_sem]) <;> (repeat' with_reducible apply And.intro) <;> first | assumption | rfl | omega | (unfold maxLen; omega)) ?_
  obtain ⟨v0, hv2, h⟩ := Option.bind_eq_some_iff.1 h
  refine AO.call tab_ok (by decide) rfl rfl rfl (fun _ h => h) [] [(1000, 1000), (1001, 1001)] (hc_history_Orders_1 c0 c1 hv2) rfl (by (simp only [go_sem]) <;> (repeat' with_reducible apply And.intro) <;> first | assumption | rfl | omega | (unfold maxLen; omega)) (by (simp only [go_sem]) <;> (repeat' with_reducible apply And.intro) <;> first | assumption | rfl | omega | (unfold maxLen; omega)) [(12, .int .i64 v0)] [(1000, .box 22 [.sl Y0 c0]), (1001, .box 23 [.sl Y1 c1])] (by (simp only [go_sem]) <;> (repeat' with_reducible apply And.intro) <;> first | assumption | rfl | omega | (unfold maxLen; omega)) ?_
  refine AO.allF tab_ok (by decide) [(4, .int .i64 v0), (5, .int .i64 0)] [(1000, .box 22 [.sl Y0 c0]), (1001, .box 23 [.sl Y1 c1])] (by (simp only [go_sem]) <;> (repeat' with_reducible apply And.intro) <;> first | assumption | rfl | omega | (unfold maxLen; omega)) ?_
  refine athen_n ?_
  refine AW.ret ?_
  obtain rfl := Option.some.inj h
  exact ⟨rfl, [], [], [], rfl, (by (simp only [go_sem]) <;> (repeat' with_reducible apply And.intro) <;> first | assumption | rfl | omega | (unfold maxLen; omega))⟩

set_option maxRecDepth 100000 in
set_option maxHeartbeats 2000000 in
theorem hc_history_told_20 (err : Int) (c0 : List (Int × Int × (List (List Int)) × (List (List Int)))) (c1 : List (Int × Int × Int × Int × Int × Int)) (hnz_err : decide (err = 0) = false) {r : Unit} (h : history_told_20 err c0 c1 = some r) : HC Try.prog 96 [(1000, .box 22 [.sl Y0 c0]), (1001, .box 23 [.sl Y1 c1])] [.int .i64 err, .fn (.func 97) [] [.bp 1000 0, .bp 1001 0]] [(1000, .box 22 [.sl Y0 c0]), (1001, .box 23 [.sl Y1 c1])] (.tup [.int .i64 0, .int .i64 err]) := by
  unfold history_told_20 at h
  refine HC.of_body tab_ok (res := [.tmp 4, .tmp 5]) Try.func96 rfl (by kernel_rfl) rfl (nt := 13) rfl (by decide) (by simp) ?_
  refine AW.seq ?_
  refine AW.ops ?_
  refine AO.allF tab_ok (by decide) [(0, .int .i64 err), (1, .fn (.func 97) [] [.bp 1000 0, .bp 1001 0])] [(1000, .box 22 [.sl Y0 c0]), (1001, .box 23 [.sl Y1 c1])] (by (simp only [go_sem, hnz_err]) <;> (repeat' with_reducible apply And.intro) <;> first | assumption | rfl | omega | (unfold maxLen; omega)) ?_
  refine athen_n ?_
  refine AW.seq ?_
  refine AW.seq ?_
  refine AW.ops ?_
  refine AO.allF tab_ok (by decide) [(0, .int .i64 err), (1, .fn (.func 97) [] [.bp 1000 0, .bp 1001 0]), (8, .bool true)] [(1000, .box 22 [.sl Y0 c0]), (1001, .box 23 [.sl Y1 c1])] (by (simp only [go_sem, hnz_err]) <;> (repeat' with_reducible apply And.intro) <;> first | assumption | rfl | omega | (unfold maxLen; omega)) ?_
  refine athen_n ?_
  refine AW.cond (b := true) rfl (fun _ => ?_) (fun hb1 => by cases hb1)
  refine AW.seq ?_
  refine AW.ops ?_
  refine AO.allF tab_ok (by decide) [(0, .int .i64 err), (6, .int .i64 0)] [(1000, .box 22 [.sl Y0 c0]), (1001, .box 23 [.sl Y1 c1])] (by (simp only [go_sem, hnz_err]) <;> (repeat' with_reducible apply And.intro) <;> first | assumption | rfl | omega | (unfold maxLen; omega)) ?_
  refine athen_n ?_
  refine AW.seq ?_
  refine AW.ops ?_
  refine AO.allF tab_ok (by decide) [(4, .int .i64 0), (5, .int .i64 err)] [(1000, .box 22 [.sl Y0 c0]), (1001, .box 23 [.sl Y1 c1])] (by (simp only [go_sem, hnz_err]) <;> (repeat' with_reducible apply And.intro) <;> first | assumption | rfl | omega | (unfold maxLen; omega)) ?_
  refine athen_n ?_
  refine AW.ret ?_
  refine athen_r ?_
  obtain rfl := Option.some.inj h
  exact ⟨rfl, [], [], [], rfl, (by (simp only [go_sem, hnz_err]) <;> (repeat' with_reducible apply And.intro) <;> first | assumption | rfl | omega | (unfold maxLen; omega))⟩

set_option maxRecDepth 100000 in
set_option maxHeartbeats 2000000 in
theorem hc_history_Orders (specs : List (Int × Int × (List (List Int)) × (List (List Int)))) (h0 : List (Int × Int × Int × Int × Int × Int)) {r : Int × Int} (h : history_Orders specs h0 = some r) : HC Try.prog 39 [] [.sl Y0 specs, .sl Y1 h0] [] (.tup [.int .i64 r.1, .int .i64 r.2]) := by
  unfold history_Orders at h
  refine HC.of_body tab_ok (res := [.tmp 4, .tmp 5]) Try.func39 rfl (by kernel_rfl) rfl (nt := 13) rfl (by decide) (by simp) ?_
  refine AW.seq ?_
  refine AW.ops ?_
  refine AO.allF tab_ok (by decide) [(2, .bp 2 0), (3, .bp 3 0)] [(2, .box 22 [.sl Y0 specs]), (3, .box 23 [.sl Y1 h0])] (by (simp only [go_sem]) <;> (repeat' with_reducible apply And.intro) <;> first | assumption | rfl | omega | (unfold maxLen; omega)) ?_
  refine athen_n ?_
  refine AW.seq ?_
  refine AW.ops ?_
  refine AO.segF tab_ok 2 (by decide) [(2, .bp 2 0), (3, .bp 3 0), (6, .sl Y0 specs), (7, .sl Y1 h0)] [(2, .box 22 [.sl Y0 specs]), (3, .box 23 [.sl Y1 h0])] (by (simp only [go_sem]) <;> (repeat' with_reducible apply And.intro) <;> first | assumption | rfl | omega | (unfold maxLen; omega)) ?_
  obtain ⟨v0, hv1, h⟩ := Option.bind_eq_some_iff.1 h
  refine AO.call tab_ok (by decide) rfl rfl rfl (fun _ h => h) [] [] (hc_history_checkFor specs h0 hv1) rfl (by (simp only [go_sem]) <;> (repeat' with_reducible apply And.intro) <;> first | assumption | rfl | omega | (unfold maxLen; omega)) (by (simp only [go_sem]) <;> (repeat' with_reducible apply And.intro) <;> first | assumption | rfl | omega | (unfold maxLen; omega)) [(2, .bp 2 0), (3, .bp 3 0), (8, .int .i64 v0)] [(2, .box 22 [.sl Y0 specs]), (3, .box 23 [.sl Y1 h0])] (by (simp only [go_sem]) <;> (repeat' with_reducible apply And.intro) <;> first | assumption | rfl | omega | (unfold maxLen; omega)) ?_
  refine AO.segF tab_ok 1 (by decide) [(8, .int .i64 v0), (9, .fn (.func 97) [] [.bp 2 0, .bp 3 0])] [(2, .box 22 [.sl Y0 specs]), (3, .box 23 [.sl Y1 h0])] (by (simp only [go_sem]) <;> (repeat' with_reducible apply And.intro) <;> first | assumption | rfl | omega | (unfold maxLen; omega)) ?_
  rcases Bool.eq_false_or_eq_true (decide (v0 = 0)) with hb2 | hb2
  · rw [if_pos hb2] at h
    have hz3 : v0 = 0 := by simpa using hb2
    refine AO.weaken (s' := ⟨fr [(8, .int .i64 0), (9, .fn (.func 97) [] [.bp 2 0, .bp 3 0])], hpGet [(2, .box 22 [.sl Y0 specs]), (3, .box 23 [.sl Y1 h0])], gt⟩) (Wk.to (by (simp only [go_sem, hb2, hz3]) <;> (repeat' with_reducible apply And.intro) <;> first | assumption | rfl | omega | (unfold maxLen; omega))) ?_
    obtain ⟨v0_2, hv4, h⟩ := Option.bind_eq_some_iff.1 h
    refine AO.call tab_ok (by decide) rfl rfl rfl (fun _ h => h) [] [(1000, 2), (1001, 3)] (hc_history_told_19 specs h0 hv4) rfl (by (simp only [go_sem, hb2, hz3]) <;> (repeat' with_reducible apply And.intro) <;> first | assumption | rfl | omega | (unfold maxLen; omega)) (by (simp only [go_sem, hb2, hz3]) <;> (repeat' with_reducible apply And.intro) <;> first | assumption | rfl | omega | (unfold maxLen; omega)) [(10, .tup [.int .i64 v0_2, .int .i64 0])] [] (by (simp only [go_sem, hb2, hz3]) <;> (repeat' with_reducible apply And.intro) <;> first | assumption | rfl | omega | (unfold maxLen; omega)) ?_
    refine AO.allF tab_ok (by decide) [(4, .int .i64 v0_2), (5, .int .i64 0)] [] (by (simp only [go_sem, hb2, hz3]) <;> (repeat' with_reducible apply And.intro) <;> first | assumption | rfl | omega | (unfold maxLen; omega)) ?_
    refine athen_n ?_
    refine AW.ret ?_
    obtain rfl := Option.some.inj h
    exact ⟨rfl, [], [], [], rfl, (by (simp only [go_sem, hb2, hz3]) <;> (repeat' with_reducible apply And.intro) <;> first | assumption | rfl | omega | (unfold maxLen; omega))⟩
  · rw [if_neg (Bool.eq_false_iff.1 hb2)] at h
    refine AO.weaken (s' := ⟨fr [(8, .int .i64 v0), (9, .fn (.func 97) [] [.bp 2 0, .bp 3 0])], hpGet [(2, .box 22 [.sl Y0 specs]), (3, .box 23 [.sl Y1 h0])], gt⟩) (Wk.to (by (simp only [go_sem, hb2]) <;> (repeat' with_reducible apply And.intro) <;> first | assumption | rfl | omega | (unfold maxLen; omega))) ?_
    obtain ⟨v0_3, hv5, h⟩ := Option.bind_eq_some_iff.1 h
    refine AO.call tab_ok (by decide) rfl rfl rfl (fun _ h => h) [] [(1000, 2), (1001, 3)] (hc_history_told_20 v0 specs h0 hb2 hv5) rfl (by (simp only [go_sem, hb2]) <;> (repeat' with_reducible apply And.intro) <;> first | assumption | rfl | omega | (unfold maxLen; omega)) (by (simp only [go_sem, hb2]) <;> (repeat' with_reducible apply And.intro) <;> first | assumption | rfl | omega | (unfold maxLen; omega)) [(10, .tup [.int .i64 0, .int .i64 v0])] [] (by (simp only [go_sem, hb2]) <;> (repeat' with_reducible apply And.intro) <;> first | assumption | rfl | omega | (unfold maxLen; omega)) ?_
    refine AO.allF tab_ok (by decide) [(4, .int .i64 0), (5, .int .i64 v0)] [] (by (simp only [go_sem, hb2]) <;> (repeat' with_reducible apply And.intro) <;> first | assumption | rfl | omega | (unfold maxLen; omega)) ?_
    refine athen_n ?_
    refine AW.ret ?_
    obtain rfl := Option.some.inj h
    exact ⟨rfl, [], [], [], rfl, (by (simp only [go_sem, hb2]) <;> (repeat' with_reducible apply And.intro) <;> first | assumption | rfl | omega | (unfold maxLen; omega))⟩

set_option maxRecDepth 100000 in
set_option maxHeartbeats 2000000 in
theorem hc_lineallaw02_isFor (specs : List (Int × Int × (List (List Int)) × (List (List Int)))) (h0 : List (Int × Int × Int × Int × Int × Int)) {r : Bool} (h : lineallaw02_isFor specs h0 = some r) : HC Try.prog 56 [] [.sl Y0 specs, .sl Y1 h0] [] (.bool r) := by
  unfold lineallaw02_isFor at h
  refine HC.of_body tab_ok (res := [.tmp 4]) Try.func56 rfl (by kernel_rfl) rfl (nt := 18) rfl (by decide) (by simp) ?_
  refine AW.seq ?_
  refine AW.ops ?_
  refine AO.allF tab_ok (by decide) [(0, .sl Y0 specs), (1, .sl Y1 h0)] [] (by (simp only [go_sem]) <;> (repeat' with_reducible apply And.intro) <;> first | assumption | rfl | omega | (unfold maxLen; omega)) ?_
  refine athen_n ?_
  refine AW.seq ?_
  refine AW.ops ?_
  refine AO.segF tab_ok 2 (by decide) [(8, .sl Y0 specs), (9, .sl Y1 h0)] [] (by (simp only [go_sem]) <;> (repeat' with_reducible apply And.intro) <;> first | assumption | rfl | omega | (unfold maxLen; omega)) ?_
  obtain ⟨v0, hv1, h⟩ := Option.bind_eq_some_iff.1 h
  refine AO.call tab_ok (by decide) rfl rfl rfl (fun _ h => h) [] [] (hc_linealref02_For specs h0 hv1) rfl (by (simp only [go_sem]) <;> (repeat' with_reducible apply And.intro) <;> first | assumption | rfl | omega | (unfold maxLen; omega)) (by (simp only [go_sem]) <;> (repeat' with_reducible apply And.intro) <;> first | assumption | rfl | omega | (unfold maxLen; omega)) [(10, .tup [.bool v0.1, .int .i64 v0.2])] [] (by (simp only [go_sem]) <;> (repeat' with_reducible apply And.intro) <;> first | assumption | rfl | omega | (unfold maxLen; omega)) ?_
  refine AO.allF tab_ok (by decide) [(5, .bool v0.1), (6, .int .i64 v0.2)] [] (by (simp only [go_sem]) <;> (repeat' with_reducible apply And.intro) <;> first | assumption | rfl | omega | (unfold maxLen; omega)) ?_
  refine athen_n ?_
  refine AW.seq ?_
  refine AW.ops ?_
  refine AO.segF tab_ok 3 (by decide) [(5, .bool v0.1), (15, .bool (decide (v0.2 = 0)))] [] (by (simp only [go_sem]) <;> (repeat' with_reducible apply And.intro) <;> first | assumption | rfl | omega | (unfold maxLen; omega)) ?_
  rcases Bool.eq_false_or_eq_true (decide (v0.2 = 0)) with hb2 | hb2
  · rw [if_pos hb2] at h
    refine AO.weaken (s' := ⟨fr [(5, .bool v0.1), (15, .bool true)], hpGet [], gt⟩) (Wk.to (by (simp only [go_sem, hb2]) <;> (repeat' with_reducible apply And.intro) <;> first | assumption | rfl | omega | (unfold maxLen; omega))) ?_
    refine AO.allF tab_ok (by decide) [(4, .bool v0.1)] [] (by (simp only [go_sem, hb2]) <;> (repeat' with_reducible apply And.intro) <;> first | assumption | rfl | omega | (unfold maxLen; omega)) ?_
    refine athen_n ?_
    refine AW.ret ?_
    obtain rfl := Option.some.inj h
    exact ⟨rfl, [], [], [], rfl, (by (simp only [go_sem, hb2]) <;> (repeat' with_reducible apply And.intro) <;> first | assumption | rfl | omega | (unfold maxLen; omega))⟩
  · rw [if_neg (Bool.eq_false_iff.1 hb2)] at h
    refine AO.weaken (s' := ⟨fr [(5, .bool v0.1), (15, .bool false)], hpGet [], gt⟩) (Wk.to (by (simp only [go_sem, hb2]) <;> (repeat' with_reducible apply And.intro) <;> first | assumption | rfl | omega | (unfold maxLen; omega))) ?_
    refine AO.allF tab_ok (by decide) [(4, .bool false)] [] (by (simp only [go_sem, hb2]) <;> (repeat' with_reducible apply And.intro) <;> first | assumption | rfl | omega | (unfold maxLen; omega)) ?_
    refine athen_n ?_
    refine AW.ret ?_
    obtain rfl := Option.some.inj h
    exact ⟨rfl, [], [], [], rfl, (by (simp only [go_sem, hb2]) <;> (repeat' with_reducible apply And.intro) <;> first | assumption | rfl | omega | (unfold maxLen; omega))⟩

set_option maxRecDepth 100000 in
set_option maxHeartbeats 2000000 in
theorem hc_history_Linear_1 (a0 : List (Int × Int × (List (List Int)) × (List (List Int)))) (a1 : List (Int × Int × Int × Int × Int × Int)) {r : Bool} (h : history_Linear_1 a0 a1 = some r) : HC Try.prog 93 [(1000, .box 22 [.sl Y0 a0]), (1001, .box 23 [.sl Y1 a1])] [.bp 1000 0, .bp 1001 0] [(1000, .box 22 [.sl Y0 a0]), (1001, .box 23 [.sl Y1 a1])] (.bool r) := by
  unfold history_Linear_1 at h
  refine HC.of_body tab_ok (res := [.tmp 2]) Try.func93 rfl (by kernel_rfl) rfl (nt := 9) rfl (by decide) (by simp) ?_
  refine AW.seq ?_
  refine AW.ops ?_
  refine AO.allF tab_ok (by decide) [(0, .bp 1000 0), (1, .bp 1001 0)] [(1000, .box 22 [.sl Y0 a0]), (1001, .box 23 [.sl Y1 a1])] (by (simp only [go_sem]) <;> (repeat' with_reducible apply And.intro) <;> first | assumption | rfl | omega | (unfold maxLen; omega)) ?_
  refine athen_n ?_
  refine AW.seq ?_
  refine AW.ops ?_
  refine AO.segF tab_ok 2 (by decide) [(3, .sl Y0 a0), (4, .sl Y1 a1)] [(1000, .box 22 [.sl Y0 a0]), (1001, .box 23 [.sl Y1 a1])] (by (simp only [go_sem]) <;> (repeat' with_reducible apply And.intro) <;> first | assumption | rfl | omega | (unfold maxLen; omega)) ?_
  obtain ⟨v0, hv1, h⟩ := Option.bind_eq_some_iff.1 h
  refine AO.call tab_ok (by decide) rfl rfl rfl (fun _ h => h) [] [] (hc_history_newSearch a0 a1 hv1) rfl (by (simp only [go_sem]) <;> (repeat' with_reducible apply And.intro) <;> first | assumption | rfl | omega | (unfold maxLen; omega)) (by (simp only [go_sem]) <;> (repeat' with_reducible apply And.intro) <;> first | assumption | rfl | omega | (unfold maxLen; omega)) [(5, .agg [.sl Y0 a0, .sl Y1 a1, .fn (.func 77) [] [], .own 15000])] [(1000, .box 22 [.sl Y0 a0]), (1001, .box 23 [.sl Y1 a1]), (15000, .map true false (.pair (.pair (.int .i64) (.int .i64)) (.int .u64)) (.int .i64) [])] (by (simp only [go_sem]) <;> (repeat' with_reducible apply And.intro) <;> first | assumption | rfl | omega | (unfold maxLen; omega)) ?_
  refine AO.segF tab_ok 1 (by decide) [(5, .agg [.sl Y0 a0, .sl Y1 a1, .fn (.func 77) [] [], .own 15000]), (6, .agg [.int .i64 0, .int .i64 0, .int .u64 0])] [(1000, .box 22 [.sl Y0 a0]), (1001, .box 23 [.sl Y1 a1]), (15000, .map true false (.pair (.pair (.int .i64) (.int .i64)) (.int .u64)) (.int .i64) [])] (by (simp only [go_sem]) <;> (repeat' with_reducible apply And.intro) <;> first | assumption | rfl | omega | (unfold maxLen; omega)) ?_
  obtain ⟨v0_2, hv2, h⟩ := Option.bind_eq_some_iff.1 h
  refine AO.call tab_ok (by decide) rfl rfl rfl (fun _ h => h) [] [(1000, 15000)] (hc_history_search_count fuel a0 a1 ((0, 0), 0) [] hv2) rfl (by (simp only [go_sem]) <;> (repeat' with_reducible apply And.intro) <;> first | assumption | rfl | omega | (unfold maxLen; omega)) (by (simp only [go_sem]) <;> (repeat' with_reducible apply And.intro) <;> first | assumption | rfl | omega | (unfold maxLen; omega)) [(7, .int .i64 v0_2.1)] [(1000, .box 22 [.sl Y0 a0]), (1001, .box 23 [.sl Y1 a1])] (by (simp only [go_sem]) <;> (repeat' with_reducible apply And.intro) <;> first | assumption | rfl | omega | (unfold maxLen; omega)) ?_
  refine AO.allF tab_ok (by decide) [(2, .bool (decide (0 < v0_2.1)))] [(1000, .box 22 [.sl Y0 a0]), (1001, .box 23 [.sl Y1 a1])] (by (simp only [go_sem]) <;> (repeat' with_reducible apply And.intro) <;> first | assumption | rfl | omega | (unfold maxLen; omega)) ?_
  refine athen_n ?_
  refine AW.ret ?_
  obtain rfl := Option.some.inj h
  exact ⟨rfl, [], [], [], rfl, (by (simp only [go_sem]) <;> (repeat' with_reducible apply And.intro) <;> first | assumption | rfl | omega | (unfold maxLen; omega))⟩

set_option maxRecDepth 100000 in
set_option maxHeartbeats 2000000 in
theorem hc_history_told_21 (c0 : List (Int × Int × (List (List Int)) × (List (List Int)))) (c1 : List (Int × Int × Int × Int × Int × Int)) {r : Bool} (h : history_told_21 c0 c1 = some r) : HC Try.prog 58 [(1000, .box 22 [.sl Y0 c0]), (1001, .box 23 [.sl Y1 c1])] [.int .i64 0, .fn (.func 93) [] [.bp 1000 0, .bp 1001 0]] [(1000, .box 22 [.sl Y0 c0]), (1001, .box 23 [.sl Y1 c1])] (.tup [.bool r, .int .i64 0]) := by
  unfold history_told_21 at h
  refine HC.of_body tab_ok (res := [.tmp 4, .tmp 5]) Try.func58 rfl (by kernel_rfl) rfl (nt := 13) rfl (by decide) (by simp) ?_
  refine AW.seq ?_
  refine AW.ops ?_
  refine AO.allF tab_ok (by decide) [(0, .int .i64 0), (1, .fn (.func 93) [] [.bp 1000 0, .bp 1001 0])] [(1000, .box 22 [.sl Y0 c0]), (1001, .box 23 [.sl Y1 c1])] (by (simp only [go_sem]) <;> (repeat' with_reducible apply And.intro) <;> first | assumption | rfl | omega | (unfold maxLen; omega)) ?_
  refine athen_n ?_
  refine AW.seq ?_
  refine AW.seq ?_
  refine AW.ops ?_
  refine AO.allF tab_ok (by decide) [(0, .int .i64 0), (1, .fn (.func 93) [] [.bp 1000 0, .bp 1001 0]), (8, .bool false)] [(1000, .box 22 [.sl Y0 c0]), (1001, .box 23 [.sl Y1 c1])] (by (simp only [go_sem]) <;> (repeat' with_reducible apply And.intro) <;> first | assumption | rfl | omega | (unfold maxLen; omega)) ?_
  refine athen_n ?_
  refine AW.cond (b := false) rfl (fun hb1 => by cases hb1) (fun _ => ?_)
  refine AW.skip ?_
  refine athen_n ?_
  refine AW.seq ?_
  refine AW.ops ?_
  refine AO.segF tab_ok 1 (by decide) [(11, .fn (.func 93) [] [.bp 1000 0, .bp 1001 0])] [(1000, .box 22 [.sl Y0 c0]), (1001, .box 23 [.sl Y1 c1])] (by (simp only [go_sem]) <;> (repeat' with_reducible apply And.intro) <;> first | assumption | rfl | omega | (unfold maxLen; omega)) ?_
  obtain ⟨v0, hv2, h⟩ := Option.bind_eq_some_iff.1 h
  refine AO.call tab_ok (by decide) rfl rfl rfl (fun _ h => h) [] [(1000, 1000), (1001, 1001)] (hc_history_Linear_1 c0 c1 hv2) rfl (by (simp only [go_sem]) <;> (repeat' with_reducible apply And.intro) <;> first | assumption | rfl | omega | (unfold maxLen; omega)) (by (simp only [go_sem]) <;> (repeat' with_reducible apply And.intro) <;> first | assumption | rfl | omega | (unfold maxLen; omega)) [(12, .bool v0)] [(1000, .box 22 [.sl Y0 c0]), (1001, .box 23 [.sl Y1 c1])] (by (simp only [go_sem]) <;> (repeat' with_reducible apply And.intro) <;> first | assumption | rfl | omega | (unfold maxLen; omega)) ?_
  refine AO.allF tab_ok (by decide) [(4, .bool v0), (5, .int .i64 0)] [(1000, .box 22 [.sl Y0 c0]), (1001, .box 23 [.sl Y1 c1])] (by (simp only [go_sem]) <;> (repeat' with_reducible apply And.intro) <;> first | assumption | rfl | omega | (unfold maxLen; omega)) ?_
  refine athen_n ?_
  refine AW.ret ?_
  obtain rfl := Option.some.inj h
  exact ⟨rfl, [], [], [], rfl, (by (simp only [go_sem]) <;> (repeat' with_reducible apply And.intro) <;> first | assumption | rfl | omega | (unfold maxLen; omega))⟩

set_option maxRecDepth 100000 in
set_option maxHeartbeats 2000000 in
theorem hc_history_told_22 (err : Int) (c0 : List (Int × Int × (List (List Int)) × (List (List Int)))) (c1 : List (Int × Int × Int × Int × Int × Int)) (hnz_err : decide (err = 0) = false) {r : Unit} (h : history_told_22 err c0 c1 = some r) : HC Try.prog 58 [(1000, .box 22 [.sl Y0 c0]), (1001, .box 23 [.sl Y1 c1])] [.int .i64 err, .fn (.func 93) [] [.bp 1000 0, .bp 1001 0]] [(1000, .box 22 [.sl Y0 c0]), (1001, .box 23 [.sl Y1 c1])] (.tup [.bool false, .int .i64 err]) := by
  unfold history_told_22 at h
  refine HC.of_body tab_ok (res := [.tmp 4, .tmp 5]) Try.func58 rfl (by kernel_rfl) rfl (nt := 13) rfl (by decide) (by simp) ?_
  refine AW.seq ?_
  refine AW.ops ?_
  refine AO.allF tab_ok (by decide) [(0, .int .i64 err), (1, .fn (.func 93) [] [.bp 1000 0, .bp 1001 0])] [(1000, .box 22 [.sl Y0 c0]), (1001, .box 23 [.sl Y1 c1])] (by (simp only [go_sem, hnz_err]) <;> (repeat' with_reducible apply And.intro) <;> first | assumption | rfl | omega | (unfold maxLen; omega)) ?_
  refine athen_n ?_
  refine AW.seq ?_
  refine AW.seq ?_
  refine AW.ops ?_
  refine AO.allF tab_ok (by decide) [(0, .int .i64 err), (1, .fn (.func 93) [] [.bp 1000 0, .bp 1001 0]), (8, .bool true)] [(1000, .box 22 [.sl Y0 c0]), (1001, .box 23 [.sl Y1 c1])] (by (simp only [go_sem, hnz_err]) <;> (repeat' with_reducible apply And.intro) <;> first | assumption | rfl | omega | (unfold maxLen; omega)) ?_
  refine athen_n ?_
  refine AW.cond (b := true) rfl (fun _ => ?_) (fun hb1 => by cases hb1)
  refine AW.seq ?_
  refine AW.ops ?_
  refine AO.allF tab_ok (by decide) [(0, .int .i64 err), (6, .bool false)] [(1000, .box 22 [.sl Y0 c0]), (1001, .box 23 [.sl Y1 c1])] (by (simp only [go_sem, hnz_err]) <;> (repeat' with_reducible apply And.intro) <;> first | assumption | rfl | omega | (unfold maxLen; omega)) ?_
  refine athen_n ?_
  refine AW.seq ?_
  refine AW.ops ?_
  refine AO.allF tab_ok (by decide) [(4, .bool false), (5, .int .i64 err)] [(1000, .box 22 [.sl Y0 c0]), (1001, .box 23 [.sl Y1 c1])] (by (simp only [go_sem, hnz_err]) <;> (repeat' with_reducible apply And.intro) <;> first | assumption | rfl | omega | (unfold maxLen; omega)) ?_
  refine athen_n ?_
  refine AW.ret ?_
  refine athen_r ?_
  obtain rfl := Option.some.inj h
  exact ⟨rfl, [], [], [], rfl, (by (simp only [go_sem, hnz_err]) <;> (repeat' with_reducible apply And.intro) <;> first | assumption | rfl | omega | (unfold maxLen; omega))⟩

set_option maxRecDepth 100000 in
set_option maxHeartbeats 2000000 in
theorem hc_history_Linear (specs : List (Int × Int × (List (List Int)) × (List (List Int)))) (h0 : List (Int × Int × Int × Int × Int × Int)) {r : Bool × Int} (h : history_Linear specs h0 = some r) : HC Try.prog 35 [] [.sl Y0 specs, .sl Y1 h0] [] (.tup [.bool r.1, .int .i64 r.2]) := by
  unfold history_Linear at h
  refine HC.of_body tab_ok (res := [.tmp 4, .tmp 5]) Try.func35 rfl (by kernel_rfl) rfl (nt := 13) rfl (by decide) (by simp) ?_
  refine AW.seq ?_
  refine AW.ops ?_
  refine AO.allF tab_ok (by decide) [(2, .bp 2 0), (3, .bp 3 0)] [(2, .box 22 [.sl Y0 specs]), (3, .box 23 [.sl Y1 h0])] (by (simp only [go_sem]) <;> (repeat' with_reducible apply And.intro) <;> first | assumption | rfl | omega | (unfold maxLen; omega)) ?_
  refine athen_n ?_
  refine AW.seq ?_
  refine AW.ops ?_
  refine AO.segF tab_ok 2 (by decide) [(2, .bp 2 0), (3, .bp 3 0), (6, .sl Y0 specs), (7, .sl Y1 h0)] [(2, .box 22 [.sl Y0 specs]), (3, .box 23 [.sl Y1 h0])] (by (simp only [go_sem]) <;> (repeat' with_reducible apply And.intro) <;> first | assumption | rfl | omega | (unfold maxLen; omega)) ?_
  obtain ⟨v0, hv1, h⟩ := Option.bind_eq_some_iff.1 h
  refine AO.call tab_ok (by decide) rfl rfl rfl (fun _ h => h) [] [] (hc_history_checkFor specs h0 hv1) rfl (by (simp only [go_sem]) <;> (repeat' with_reducible apply And.intro) <;> first | assumption | rfl | omega | (unfold maxLen; omega)) (by (simp only [go_sem]) <;> (repeat' with_reducible apply And.intro) <;> first | assumption | rfl | omega | (unfold maxLen; omega)) [(2, .bp 2 0), (3, .bp 3 0), (8, .int .i64 v0)] [(2, .box 22 [.sl Y0 specs]), (3, .box 23 [.sl Y1 h0])] (by (simp only [go_sem]) <;> (repeat' with_reducible apply And.intro) <;> first | assumption | rfl | omega | (unfold maxLen; omega)) ?_
  refine AO.segF tab_ok 1 (by decide) [(8, .int .i64 v0), (9, .fn (.func 93) [] [.bp 2 0, .bp 3 0])] [(2, .box 22 [.sl Y0 specs]), (3, .box 23 [.sl Y1 h0])] (by (simp only [go_sem]) <;> (repeat' with_reducible apply And.intro) <;> first | assumption | rfl | omega | (unfold maxLen; omega)) ?_
  rcases Bool.eq_false_or_eq_true (decide (v0 = 0)) with hb2 | hb2
  · rw [if_pos hb2] at h
    have hz3 : v0 = 0 := by simpa using hb2
    refine AO.weaken (s' := ⟨fr [(8, .int .i64 0), (9, .fn (.func 93) [] [.bp 2 0, .bp 3 0])], hpGet [(2, .box 22 [.sl Y0 specs]), (3, .box 23 [.sl Y1 h0])], gt⟩) (Wk.to (by (simp only [go_sem, hb2, hz3]) <;> (repeat' with_reducible apply And.intro) <;> first | assumption | rfl | omega | (unfold maxLen; omega))) ?_
    obtain ⟨v0_2, hv4, h⟩ := Option.bind_eq_some_iff.1 h
    refine AO.call tab_ok (by decide) rfl rfl rfl (fun _ h => h) [] [(1000, 2), (1001, 3)] (hc_history_told_21 specs h0 hv4) rfl (by (simp only [go_sem, hb2, hz3]) <;> (repeat' with_reducible apply And.intro) <;> first | assumption | rfl | omega | (unfold maxLen; omega)) (by (simp only [go_sem, hb2, hz3]) <;> (repeat' with_reducible apply And.intro) <;> first | assumption | rfl | omega | (unfold maxLen; omega)) [(10, .tup [.bool v0_2, .int .i64 0])] [] (by (simp only [go_sem, hb2, hz3]) <;> (repeat' with_reducible apply And.intro) <;> first | assumption | rfl | omega | (unfold maxLen; omega)) ?_
    refine AO.allF tab_ok (by decide) [(4, .bool v0_2), (5, .int .i64 0)] [] (by (simp only [go_sem, hb2, hz3]) <;> (repeat' with_reducible apply And.intro) <;> first | assumption | rfl | omega | (unfold maxLen; omega)) ?_
    refine athen_n ?_
    refine AW.ret ?_
    obtain rfl := Option.some.inj h
    exact ⟨rfl, [], [], [], rfl, (by (simp only [go_sem, hb2, hz3]) <;> (repeat' with_reducible apply And.intro) <;> first | assumption | rfl | omega | (unfold maxLen; omega))⟩
  · rw [if_neg (Bool.eq_false_iff.1 hb2)] at h
    refine AO.weaken (s' := ⟨fr [(8, .int .i64 v0), (9, .fn (.func 93) [] [.bp 2 0, .bp 3 0])], hpGet [(2, .box 22 [.sl Y0 specs]), (3, .box 23 [.sl Y1 h0])], gt⟩) (Wk.to (by (simp only [go_sem, hb2]) <;> (repeat' with_reducible apply And.intro) <;> first | assumption | rfl | omega | (unfold maxLen; omega))) ?_
    obtain ⟨v0_3, hv5, h⟩ := Option.bind_eq_some_iff.1 h
    refine AO.call tab_ok (by decide) rfl rfl rfl (fun _ h => h) [] [(1000, 2), (1001, 3)] (hc_history_told_22 v0 specs h0 hb2 hv5) rfl (by (simp only [go_sem, hb2]) <;> (repeat' with_reducible apply And.intro) <;> first | assumption | rfl | omega | (unfold maxLen; omega)) (by (simp only [go_sem, hb2]) <;> (repeat' with_reducible apply And.intro) <;> first | assumption | rfl | omega | (unfold maxLen; omega)) [(10, .tup [.bool false, .int .i64 v0])] [] (by (simp only [go_sem, hb2]) <;> (repeat' with_reducible apply And.intro) <;> first | assumption | rfl | omega | (unfold maxLen; omega)) ?_
    refine AO.allF tab_ok (by decide) [(4, .bool false), (5, .int .i64 v0)] [] (by (simp only [go_sem, hb2]) <;> (repeat' with_reducible apply And.intro) <;> first | assumption | rfl | omega | (unfold maxLen; omega)) ?_
    refine athen_n ?_
    refine AW.ret ?_
    obtain rfl := Option.some.inj h
    exact ⟨rfl, [], [], [], rfl, (by (simp only [go_sem, hb2]) <;> (repeat' with_reducible apply And.intro) <;> first | assumption | rfl | omega | (unfold maxLen; omega))⟩

end Go.Proofs.Ytdkdkpenmgkdcaa
