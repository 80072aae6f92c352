/-
  Made by wip/tool/dc.py out of the print of the program: contracts.
-/
import Derived.Test.YtdkdkpenmgkdcaaHp
import Derived.Test.YtdkdkpenmgkdcaaTbh
import Derived.Test.YtdkdkpenmgkdcaaKgc1
import Derived.Test.YtdkdkpenmgkdcaaKgc2
namespace Go.Proofs.Ytdkdkpenmgkdcaa
open Go.RowKit

set_option linter.unusedSimpArgs false
set_option linter.unusedVariables false
set_option linter.constructorNameAsVariable false

set_option maxRecDepth 100000 in
set_option maxHeartbeats 2000000 in
theorem hc_history_checkFor (specs : List (Int × Int × (List (List Int)) × (List (List Int)))) (h0 : List (Int × Int × Int × Int × Int × Int)) {r : Int} (h : history_checkFor specs h0 = some r) : HC Try.prog 73 [] [.sl Y0 specs, .sl Y1 h0] [] (.int .i64 r) := by
  unfold history_checkFor at h
  refine HC.of_body tab_ok (res := [.tmp 4]) Try.func73 rfl (by kernel_rfl) rfl (nt := 20) rfl (by decide) (by simp) ?_
  refine AW.seq ?_
  refine AW.ops ?_
  refine AO.allF tab_ok (by decide) [(0, .sl Y0 specs), (1, .sl Y1 h0)] [] (by (simp only [go_sem]) <;> (repeat' with_reducible apply And.intro) <;> first | assumption | rfl | omega) ?_
  refine athen_n ?_
  refine AW.seq ?_
  refine AW.seq ?_
  refine AW.ops ?_
  refine AO.segF tab_ok 1 (by decide) [(0, .sl Y0 specs), (1, .sl Y1 h0), (6, .sl Y0 specs)] [] (by (simp only [go_sem]) <;> (repeat' with_reducible apply And.intro) <;> first | assumption | rfl | omega) ?_
  obtain ⟨v0, hv1, h⟩ := Option.bind_eq_some_iff.1 h
  refine AO.call tab_ok (by decide) rfl rfl rfl (fun _ h => h) [] [] (hc_history_checkSpecs specs hv1) rfl (by (simp only [go_sem]) <;> (repeat' with_reducible apply And.intro) <;> first | assumption | rfl | omega) (by (simp only [go_sem]) <;> (repeat' with_reducible apply And.intro) <;> first | assumption | rfl | omega) [(0, .sl Y0 specs), (1, .sl Y1 h0), (7, .int .i64 v0)] [] (by (simp only [go_sem]) <;> (repeat' with_reducible apply And.intro) <;> first | assumption | rfl | omega) ?_
  refine AO.allF tab_ok (by decide) [(0, .sl Y0 specs), (1, .sl Y1 h0), (5, .int .i64 v0)] [] (by (simp only [go_sem]) <;> (repeat' with_reducible apply And.intro) <;> first | assumption | rfl | omega) ?_
  refine athen_n ?_
  refine AW.seq ?_
  refine AW.ops ?_
  refine AO.allF tab_ok (by decide) [(0, .sl Y0 specs), (1, .sl Y1 h0), (5, .int .i64 v0), (9, .bool (!(decide (v0 = 0))))] [] (by (simp only [go_sem]) <;> (repeat' with_reducible apply And.intro) <;> first | assumption | rfl | omega) ?_
  refine athen_n ?_
  refine AW.cond (b := (!(decide (v0 = 0)))) rfl (fun hb2 => ?_) (fun hb2 => ?_)
  · rw [if_pos hb2] at h
    refine AW.seq ?_
    refine AW.ops ?_
    refine AO.allF tab_ok (by decide) [(4, .int .i64 v0)] [] (by (simp only [go_sem, hb2]) <;> (repeat' with_reducible apply And.intro) <;> first | assumption | rfl | omega) ?_
    refine athen_n ?_
    refine AW.ret ?_
    refine athen_r ?_
    obtain rfl := Option.some.inj h
    exact ⟨rfl, [], [], [], rfl, (by (simp only [go_sem, hb2]) <;> (repeat' with_reducible apply And.intro) <;> first | assumption | rfl | omega)⟩
  · rw [if_neg (Bool.eq_false_iff.1 hb2)] at h
    refine AW.skip ?_
    refine athen_n ?_
    refine AW.seq ?_
    refine AW.seq ?_
    refine AW.ops ?_
    refine AO.segF tab_ok 1 (by decide) [(0, .sl Y0 specs), (1, .sl Y1 h0), (11, .sl Y1 h0)] [] (by (simp only [go_sem, hb2]) <;> (repeat' with_reducible apply And.intro) <;> first | assumption | rfl | omega) ?_
    obtain ⟨v0_2, hv3, h⟩ := Option.bind_eq_some_iff.1 h
    refine AO.call tab_ok (by decide) rfl rfl rfl (fun _ h => h) [] [] (hc_history_Valid h0 hv3) rfl (by (simp only [go_sem, hb2]) <;> (repeat' with_reducible apply And.intro) <;> first | assumption | rfl | omega) (by (simp only [go_sem, hb2]) <;> (repeat' with_reducible apply And.intro) <;> first | assumption | rfl | omega) [(0, .sl Y0 specs), (1, .sl Y1 h0), (12, .bool v0_2)] [] (by (simp only [go_sem, hb2]) <;> (repeat' with_reducible apply And.intro) <;> first | assumption | rfl | omega) ?_
    refine AO.segF tab_ok 2 (by decide) [(0, .sl Y0 specs), (1, .sl Y1 h0), (14, .bool (!v0_2))] [] (by (simp only [go_sem, hb2]) <;> (repeat' with_reducible apply And.intro) <;> first | assumption | rfl | omega) ?_
    rcases Bool.eq_false_or_eq_true (!v0_2) with hb4 | hb4
    · rw [if_pos hb4] at h
      refine AO.weaken (s' := ⟨fr [(0, .sl Y0 specs), (1, .sl Y1 h0), (14, .bool true)], hpGet [], gt⟩) (Wk.to (by (simp only [go_sem, hb2, hb4]) <;> (repeat' with_reducible apply And.intro) <;> first | assumption | rfl | omega)) ?_
      refine AO.segF tab_ok 4 (by decide) [(14, .bool true), (18, .cv (undef))] [] (by (simp only [go_sem, hb2, hb4]) <;> (repeat' with_reducible apply And.intro) <;> first | assumption | rfl | omega) ?_
      refine AO.allF tab_ok (by decide) [(19, .bool true)] [] (by (simp only [go_sem, hb2, hb4]) <;> (repeat' with_reducible apply And.intro) <;> first | assumption | rfl | omega) ?_
      refine athen_n ?_
      refine AW.cond (b := true) rfl (fun _ => ?_) (fun hb5 => by cases hb5)
      refine AW.seq ?_
      refine AW.ops ?_
      refine AO.allF tab_ok (by decide) [(4, .int .i64 20)] [] (by (simp only [go_sem, hb2, hb4]) <;> (repeat' with_reducible apply And.intro) <;> first | assumption | rfl | omega) ?_
      refine athen_n ?_
      refine AW.ret ?_
      refine athen_r ?_
      obtain rfl := Option.some.inj h
      exact ⟨rfl, [], [], [], rfl, (by (simp only [go_sem, hb2, hb4]) <;> (repeat' with_reducible apply And.intro) <;> first | assumption | rfl | omega)⟩
    · rw [if_neg (Bool.eq_false_iff.1 hb4)] at h
      refine AO.weaken (s' := ⟨fr [(0, .sl Y0 specs), (1, .sl Y1 h0), (14, .bool false)], hpGet [], gt⟩) (Wk.to (by (simp only [go_sem, hb2, hb4]) <;> (repeat' with_reducible apply And.intro) <;> first | assumption | rfl | omega)) ?_
      refine AO.segF tab_ok 2 (by decide) [(14, .bool false), (15, .sl Y0 specs), (16, .sl Y1 h0)] [] (by (simp only [go_sem, hb2, hb4]) <;> (repeat' with_reducible apply And.intro) <;> first | assumption | rfl | omega) ?_
      obtain ⟨v0_3, hv6, h⟩ := Option.bind_eq_some_iff.1 h
      refine AO.call tab_ok (by decide) rfl rfl rfl (fun _ h => ⟨fun _ => h, fun hn => absurd rfl hn⟩) [] [] (hc_history_fits specs h0 hv6) rfl (by (simp only [go_sem, hb2, hb4]) <;> (repeat' with_reducible apply And.intro) <;> first | assumption | rfl | omega) (by (simp only [go_sem, hb2, hb4]) <;> (repeat' with_reducible apply And.intro) <;> first | assumption | rfl | omega) [(14, .bool false), (17, .bool v0_3)] [] (by (simp only [go_sem, hb2, hb4]) <;> (repeat' with_reducible apply And.intro) <;> first | assumption | rfl | omega) ?_
      refine AO.allF tab_ok (by decide) [(19, .bool (!v0_3))] [] (by (simp only [go_sem, hb2, hb4]) <;> (repeat' with_reducible apply And.intro) <;> first | assumption | rfl | omega) ?_
      refine athen_n ?_
      refine AW.cond (b := (!v0_3)) rfl (fun hb7 => ?_) (fun hb7 => ?_)
      · rw [if_pos hb7] at h
        refine AW.seq ?_
        refine AW.ops ?_
        refine AO.allF tab_ok (by decide) [(4, .int .i64 20)] [] (by (simp only [go_sem, hb2, hb4, hb7]) <;> (repeat' with_reducible apply And.intro) <;> first | assumption | rfl | omega) ?_
        refine athen_n ?_
        refine AW.ret ?_
        refine athen_r ?_
        obtain rfl := Option.some.inj h
        exact ⟨rfl, [], [], [], rfl, (by (simp only [go_sem, hb2, hb4, hb7]) <;> (repeat' with_reducible apply And.intro) <;> first | assumption | rfl | omega)⟩
      · rw [if_neg (Bool.eq_false_iff.1 hb7)] at h
        refine AW.skip ?_
        refine athen_n ?_
        refine AW.seq ?_
        refine AW.ops ?_
        refine AO.allF tab_ok (by decide) [(4, .int .i64 0)] [] (by (simp only [go_sem, hb2, hb4, hb7]) <;> (repeat' with_reducible apply And.intro) <;> first | assumption | rfl | omega) ?_
        refine athen_n ?_
        refine AW.ret ?_
        obtain rfl := Option.some.inj h
        exact ⟨rfl, [], [], [], rfl, (by (simp only [go_sem, hb2, hb4, hb7]) <;> (repeat' with_reducible apply And.intro) <;> first | assumption | rfl | omega)⟩

set_option maxRecDepth 100000 in
set_option maxHeartbeats 2000000 in
theorem hc_history_newSearch (specs : List (Int × Int × (List (List Int)) × (List (List Int)))) (h0 : List (Int × Int × Int × Int × Int × Int)) {r : Unit} (h : history_newSearch specs h0 = some r) : HC Try.prog 86 [] [.sl Y0 specs, .sl Y1 h0, .fn (.func 77) [] []] [(2000, .map true false (.pair (.pair (.int .i64) (.int .i64)) (.int .u64)) (.int .i64) [])] (.agg [.sl Y0 specs, .sl Y1 h0, .fn (.func 77) [] [], .own 2000]) := by
  unfold history_newSearch at h
  refine HC.of_body tab_ok (res := [.cell 6 76]) Try.func86 rfl (by kernel_rfl) rfl (nt := 12) rfl (by decide) (by simp) ?_
  refine AW.seq ?_
  refine AW.ops ?_
  refine AO.allF tab_ok (by decide) [(0, .sl Y0 specs), (1, .sl Y1 h0), (2, .fn (.func 77) [] []), (6, .bp 6 0)] [(6, .box 76 [.cv (.slice none 0 0), .cv (.slice none 0 0), .cv (.nilFunc), .cv (.map none)])] (by (simp only [go_sem]) <;> (repeat' with_reducible apply And.intro) <;> first | assumption | rfl | omega) ?_
  refine athen_n ?_
  refine AW.seq ?_
  refine AW.ops ?_
  refine AO.segF tab_ok 3 (by decide) [(6, .bp 6 0), (7, .sl Y0 specs), (8, .sl Y1 h0), (9, .fn (.func 77) [] [])] [(6, .box 76 [.cv (.slice none 0 0), .cv (.slice none 0 0), .cv (.nilFunc), .cv (.map none)])] (by (simp only [go_sem]) <;> (repeat' with_reducible apply And.intro) <;> first | assumption | rfl | omega) ?_
  refine AO.makeMap (ak := true) (ae := false) (kt := (.pair (.pair (.int .i64) (.int .i64)) (.int .u64))) (vt := (.int .i64)) (by decide) (by decide) rfl rfl ?_
  refine AO.weaken (s' := ⟨fr [(6, .bp 6 0), (7, .sl Y0 specs), (8, .sl Y1 h0), (9, .fn (.func 77) [] []), (10, .own 10)], hpGet [(6, .box 76 [.cv (.slice none 0 0), .cv (.slice none 0 0), .cv (.nilFunc), .cv (.map none)]), (10, .map true false (.pair (.pair (.int .i64) (.int .i64)) (.int .u64)) (.int .i64) [])], gt⟩) (Wk.to (by (simp only [go_sem]) <;> (repeat' with_reducible apply And.intro) <;> first | assumption | rfl | omega)) ?_
  refine AO.allF tab_ok (by decide) [(6, .bp 6 0)] [(6, .box 76 [.sl Y0 specs, .sl Y1 h0, .fn (.func 77) [] [], .own 10]), (10, .map true false (.pair (.pair (.int .i64) (.int .i64)) (.int .u64)) (.int .i64) [])] (by (simp only [go_sem]) <;> (repeat' with_reducible apply And.intro) <;> first | assumption | rfl | omega) ?_
  refine athen_n ?_
  refine AW.ret ?_
  obtain rfl := Option.some.inj h
  exact ⟨rfl, [], [], [(2000, 10)], rfl, (by (simp only [go_sem]) <;> (repeat' with_reducible apply And.intro) <;> first | assumption | rfl | omega)⟩

set_option maxRecDepth 100000 in
set_option maxHeartbeats 2000000 in
theorem hc_history_Order_1 (a0 : List (Int × Int × (List (List Int)) × (List (List Int)))) (a1 : List (Int × Int × Int × Int × Int × Int)) {r : Unit} (h : history_Order_1 a0 a1 = some r) : HC Try.prog 85 [(1000, .box 22 [.sl Y0 a0]), (1001, .box 23 [.sl Y1 a1])] [.bp 1000 0, .bp 1001 0] [(1000, .box 22 [.sl Y0 a0]), (1001, .box 23 [.sl Y1 a1]), (2000, .map true false (.pair (.pair (.int .i64) (.int .i64)) (.int .u64)) (.int .i64) [])] (.agg [.sl Y0 a0, .sl Y1 a1, .fn (.func 77) [] [], .own 2000]) := by
  unfold history_Order_1 at h
  refine HC.of_body tab_ok (res := [.cell 2 76]) Try.func85 rfl (by kernel_rfl) rfl (nt := 6) rfl (by decide) (by simp) ?_
  refine AW.seq ?_
  refine AW.ops ?_
  refine AO.allF tab_ok (by decide) [(0, .bp 1000 0), (1, .bp 1001 0), (2, .bp 2 0)] [(2, .box 76 [.cv (.slice none 0 0), .cv (.slice none 0 0), .cv (.nilFunc), .cv (.map none)]), (1000, .box 22 [.sl Y0 a0]), (1001, .box 23 [.sl Y1 a1])] (by (simp only [go_sem]) <;> (repeat' with_reducible apply And.intro) <;> first | assumption | rfl | omega) ?_
  refine athen_n ?_
  refine AW.seq ?_
  refine AW.ops ?_
  refine AO.segF tab_ok 2 (by decide) [(2, .bp 2 0), (3, .sl Y0 a0), (4, .sl Y1 a1)] [(2, .box 76 [.cv (.slice none 0 0), .cv (.slice none 0 0), .cv (.nilFunc), .cv (.map none)]), (1000, .box 22 [.sl Y0 a0]), (1001, .box 23 [.sl Y1 a1])] (by (simp only [go_sem]) <;> (repeat' with_reducible apply And.intro) <;> first | assumption | rfl | omega) ?_
  obtain ⟨v0, hv1, h⟩ := Option.bind_eq_some_iff.1 h
  refine AO.call tab_ok (by decide) rfl rfl rfl (fun _ h => h) [] [] (hc_history_newSearch a0 a1 hv1) rfl (by (simp only [go_sem]) <;> (repeat' with_reducible apply And.intro) <;> first | assumption | rfl | omega) (by (simp only [go_sem]) <;> (repeat' with_reducible apply And.intro) <;> first | assumption | rfl | omega) [(2, .bp 2 0), (5, .agg [.sl Y0 a0, .sl Y1 a1, .fn (.func 77) [] [], .own 15000])] [(2, .box 76 [.cv (.slice none 0 0), .cv (.slice none 0 0), .cv (.nilFunc), .cv (.map none)]), (1000, .box 22 [.sl Y0 a0]), (1001, .box 23 [.sl Y1 a1]), (15000, .map true false (.pair (.pair (.int .i64) (.int .i64)) (.int .u64)) (.int .i64) [])] (by (simp only [go_sem]) <;> (repeat' with_reducible apply And.intro) <;> first | assumption | rfl | omega) ?_
  refine AO.allF tab_ok (by decide) [(2, .bp 2 0)] [(2, .box 76 [.sl Y0 a0, .sl Y1 a1, .fn (.func 77) [] [], .own 15000]), (1000, .box 22 [.sl Y0 a0]), (1001, .box 23 [.sl Y1 a1]), (15000, .map true false (.pair (.pair (.int .i64) (.int .i64)) (.int .u64)) (.int .i64) [])] (by (simp only [go_sem]) <;> (repeat' with_reducible apply And.intro) <;> first | assumption | rfl | omega) ?_
  refine athen_n ?_
  refine AW.ret ?_
  obtain rfl := Option.some.inj h
  exact ⟨rfl, [], [], [(2000, 15000)], rfl, (by (simp only [go_sem]) <;> (repeat' with_reducible apply And.intro) <;> first | assumption | rfl | omega)⟩

set_option maxRecDepth 100000 in
set_option maxHeartbeats 2000000 in
theorem hc_history_told (c0 : List (Int × Int × (List (List Int)) × (List (List Int)))) (c1 : List (Int × Int × Int × Int × Int × Int)) {r : Unit} (h : history_told c0 c1 = some r) : HC Try.prog 84 [(1000, .box 22 [.sl Y0 c0]), (1001, .box 23 [.sl Y1 c1])] [.int .i64 0, .fn (.func 85) [] [.bp 1000 0, .bp 1001 0]] [(1000, .box 22 [.sl Y0 c0]), (1001, .box 23 [.sl Y1 c1]), (2000, .map true false (.pair (.pair (.int .i64) (.int .i64)) (.int .u64)) (.int .i64) [])] (.tup [.agg [.sl Y0 c0, .sl Y1 c1, .fn (.func 77) [] [], .own 2000], .int .i64 0]) := by
  unfold history_told at h
  refine HC.of_body tab_ok (res := [.cell 4 76, .tmp 5]) Try.func84 rfl (by kernel_rfl) rfl (nt := 13) rfl (by decide) (by simp) ?_
  refine AW.seq ?_
  refine AW.ops ?_
  refine AO.allF tab_ok (by decide) [(0, .int .i64 0), (1, .fn (.func 85) [] [.bp 1000 0, .bp 1001 0]), (4, .bp 4 0)] [(4, .box 76 [.cv (.slice none 0 0), .cv (.slice none 0 0), .cv (.nilFunc), .cv (.map none)]), (1000, .box 22 [.sl Y0 c0]), (1001, .box 23 [.sl Y1 c1])] (by (simp only [go_sem]) <;> (repeat' with_reducible apply And.intro) <;> first | assumption | rfl | omega) ?_
  refine athen_n ?_
  refine AW.seq ?_
  refine AW.seq ?_
  refine AW.ops ?_
  refine AO.allF tab_ok (by decide) [(0, .int .i64 0), (1, .fn (.func 85) [] [.bp 1000 0, .bp 1001 0]), (4, .bp 4 0), (8, .bool false)] [(4, .box 76 [.cv (.slice none 0 0), .cv (.slice none 0 0), .cv (.nilFunc), .cv (.map none)]), (1000, .box 22 [.sl Y0 c0]), (1001, .box 23 [.sl Y1 c1])] (by (simp only [go_sem]) <;> (repeat' with_reducible apply And.intro) <;> first | assumption | rfl | omega) ?_
  refine athen_n ?_
  refine AW.cond (b := false) rfl (fun hb1 => by cases hb1) (fun _ => ?_)
  refine AW.skip ?_
  refine athen_n ?_
  refine AW.seq ?_
  refine AW.ops ?_
  refine AO.segF tab_ok 1 (by decide) [(4, .bp 4 0), (11, .fn (.func 85) [] [.bp 1000 0, .bp 1001 0])] [(4, .box 76 [.cv (.slice none 0 0), .cv (.slice none 0 0), .cv (.nilFunc), .cv (.map none)]), (1000, .box 22 [.sl Y0 c0]), (1001, .box 23 [.sl Y1 c1])] (by (simp only [go_sem]) <;> (repeat' with_reducible apply And.intro) <;> first | assumption | rfl | omega) ?_
  obtain ⟨v0, hv2, h⟩ := Option.bind_eq_some_iff.1 h
  refine AO.call tab_ok (by decide) rfl rfl rfl (fun _ h => h) [] [(1000, 1000), (1001, 1001)] (hc_history_Order_1 c0 c1 hv2) rfl (by (simp only [go_sem]) <;> (repeat' with_reducible apply And.intro) <;> first | assumption | rfl | omega) (by (simp only [go_sem]) <;> (repeat' with_reducible apply And.intro) <;> first | assumption | rfl | omega) [(4, .bp 4 0), (12, .agg [.sl Y0 c0, .sl Y1 c1, .fn (.func 77) [] [], .own 22000])] [(4, .box 76 [.cv (.slice none 0 0), .cv (.slice none 0 0), .cv (.nilFunc), .cv (.map none)]), (1000, .box 22 [.sl Y0 c0]), (1001, .box 23 [.sl Y1 c1]), (22000, .map true false (.pair (.pair (.int .i64) (.int .i64)) (.int .u64)) (.int .i64) [])] (by (simp only [go_sem]) <;> (repeat' with_reducible apply And.intro) <;> first | assumption | rfl | omega) ?_
  refine AO.allF tab_ok (by decide) [(4, .bp 4 0), (5, .int .i64 0)] [(4, .box 76 [.sl Y0 c0, .sl Y1 c1, .fn (.func 77) [] [], .own 22000]), (1000, .box 22 [.sl Y0 c0]), (1001, .box 23 [.sl Y1 c1]), (22000, .map true false (.pair (.pair (.int .i64) (.int .i64)) (.int .u64)) (.int .i64) [])] (by (simp only [go_sem]) <;> (repeat' with_reducible apply And.intro) <;> first | assumption | rfl | omega) ?_
  refine athen_n ?_
  refine AW.ret ?_
  obtain rfl := Option.some.inj h
  exact ⟨rfl, [], [], [(2000, 22000)], rfl, (by (simp only [go_sem]) <;> (repeat' with_reducible apply And.intro) <;> first | assumption | rfl | omega)⟩

set_option maxRecDepth 100000 in
set_option maxHeartbeats 2000000 in
theorem hc_history_told_2 (err : Int) (c0 : List (Int × Int × (List (List Int)) × (List (List Int)))) (c1 : List (Int × Int × Int × Int × Int × Int)) (hnz_err : decide (err = 0) = false) {r : Unit} (h : history_told_2 err c0 c1 = some r) : HC Try.prog 84 [(1000, .box 22 [.sl Y0 c0]), (1001, .box 23 [.sl Y1 c1])] [.int .i64 err, .fn (.func 85) [] [.bp 1000 0, .bp 1001 0]] [(1000, .box 22 [.sl Y0 c0]), (1001, .box 23 [.sl Y1 c1])] (.tup [.agg [.cv (.slice none 0 0), .cv (.slice none 0 0), .cv (.nilFunc), .cv (.map none)], .int .i64 err]) := by
  unfold history_told_2 at h
  refine HC.of_body tab_ok (res := [.cell 4 76, .tmp 5]) Try.func84 rfl (by kernel_rfl) rfl (nt := 13) rfl (by decide) (by simp) ?_
  refine AW.seq ?_
  refine AW.ops ?_
  refine AO.allF tab_ok (by decide) [(0, .int .i64 err), (1, .fn (.func 85) [] [.bp 1000 0, .bp 1001 0]), (4, .bp 4 0)] [(4, .box 76 [.cv (.slice none 0 0), .cv (.slice none 0 0), .cv (.nilFunc), .cv (.map none)]), (1000, .box 22 [.sl Y0 c0]), (1001, .box 23 [.sl Y1 c1])] (by (simp only [go_sem, hnz_err]) <;> (repeat' with_reducible apply And.intro) <;> first | assumption | rfl | omega) ?_
  refine athen_n ?_
  refine AW.seq ?_
  refine AW.seq ?_
  refine AW.ops ?_
  refine AO.allF tab_ok (by decide) [(0, .int .i64 err), (1, .fn (.func 85) [] [.bp 1000 0, .bp 1001 0]), (4, .bp 4 0), (8, .bool true)] [(4, .box 76 [.cv (.slice none 0 0), .cv (.slice none 0 0), .cv (.nilFunc), .cv (.map none)]), (1000, .box 22 [.sl Y0 c0]), (1001, .box 23 [.sl Y1 c1])] (by (simp only [go_sem, hnz_err]) <;> (repeat' with_reducible apply And.intro) <;> first | assumption | rfl | omega) ?_
  refine athen_n ?_
  refine AW.cond (b := true) rfl (fun _ => ?_) (fun hb1 => by cases hb1)
  refine AW.seq ?_
  refine AW.ops ?_
  refine AO.allF tab_ok (by decide) [(0, .int .i64 err), (4, .bp 4 0), (6, .bp 6 0)] [(4, .box 76 [.cv (.slice none 0 0), .cv (.slice none 0 0), .cv (.nilFunc), .cv (.map none)]), (6, .box 76 [.cv (.slice none 0 0), .cv (.slice none 0 0), .cv (.nilFunc), .cv (.map none)]), (1000, .box 22 [.sl Y0 c0]), (1001, .box 23 [.sl Y1 c1])] (by (simp only [go_sem, hnz_err]) <;> (repeat' with_reducible apply And.intro) <;> first | assumption | rfl | omega) ?_
  refine athen_n ?_
  refine AW.seq ?_
  refine AW.ops ?_
  refine AO.allF tab_ok (by decide) [(4, .bp 4 0), (5, .int .i64 err)] [(4, .box 76 [.cv (.slice none 0 0), .cv (.slice none 0 0), .cv (.nilFunc), .cv (.map none)]), (1000, .box 22 [.sl Y0 c0]), (1001, .box 23 [.sl Y1 c1])] (by (simp only [go_sem, hnz_err]) <;> (repeat' with_reducible apply And.intro) <;> first | assumption | rfl | omega) ?_
  refine athen_n ?_
  refine AW.ret ?_
  refine athen_r ?_
  obtain rfl := Option.some.inj h
  exact ⟨rfl, [], [], [], rfl, (by (simp only [go_sem, hnz_err]) <;> (repeat' with_reducible apply And.intro) <;> first | assumption | rfl | omega)⟩

set_option maxRecDepth 100000 in
set_option maxHeartbeats 2000000 in
theorem hc_history_place_has (p : (Int × Int) × Int) (call : Int) {r : Unit} (h : history_place_has p call = some r) : HC Try.prog 126 [] [.agg [.int .i64 p.1.1, .int .i64 p.1.2, .int .u64 p.2], .int .i64 call] [] (.bool (!(decide ((iand .u64 p.2 (ishl .u64 1 call)) = 0)))) := by
  unfold history_place_has at h
  refine HC.of_body tab_ok (res := [.tmp 4]) Try.func126 rfl (by kernel_rfl) rfl (nt := 11) rfl (by decide) (by simp) ?_
  refine AW.seq ?_
  refine AW.ops ?_
  refine AO.allF tab_ok (by decide) [(1, .int .i64 call), (2, .bp 2 0)] [(2, .box 95 [.int .i64 p.1.1, .int .i64 p.1.2, .int .u64 p.2])] (by (simp only [go_sem]) <;> (repeat' with_reducible apply And.intro) <;> first | assumption | rfl | omega) ?_
  refine athen_n ?_
  refine AW.seq ?_
  refine AW.draw tab_ok mixed_ok [] [] (by decide) (by kernel_rfl) ?_
  obtain ⟨c2, h⟩ := ck_some.1 h
  refine adops_cut 6 (fun K' hK1 => ?_)
  try dsimp only [List.drop_succ_cons, List.drop_zero, List.take_succ_cons, List.take_zero]
  simp only [go_sem]
  repeat (with_reducible refine And.intro (by first | assumption | rfl | omega | trivial) ?_)
  refine hK1 _ ?_
  refine adops_cut 1 (fun K' hK3 => ?_)
  try dsimp only [List.drop_succ_cons, List.drop_zero, List.take_succ_cons, List.take_zero]
  simp only [go_sem]
  repeat (with_reducible refine And.intro (by first | assumption | rfl | omega | trivial) ?_)
  refine hK3 _ ?_
  refine adops_nil ?_
  refine athen_n ?_
  refine AW.weaken (s' := ⟨fr [(4, .bool (!(decide ((iand .u64 p.2 (ishl .u64 1 call)) = 0))))], hpGet [], gt⟩) (Wk.to (by (simp only [go_sem]) <;> (repeat' with_reducible apply And.intro) <;> first | assumption | rfl | omega)) ?_
  refine AW.ret ?_
  obtain rfl := Option.some.inj h
  exact ⟨rfl, [], [], [], rfl, (by (simp only [go_sem]) <;> (repeat' with_reducible apply And.intro) <;> first | assumption | rfl | omega)⟩

set_option maxRecDepth 100000 in
set_option maxHeartbeats 2000000 in
theorem hc_history_search_full (s : List (Int × Int × (List (List Int)) × (List (List Int)))) (s_2 : List (Int × Int × Int × Int × Int × Int)) (at0 : (Int × Int) × Int) {r : Bool} (h : history_search_full s s_2 at0 = some r) : HC Try.prog 118 [] [.agg [.sl Y0 s, .sl Y1 s_2, .fn (.func 77) [] [], .one], .agg [.int .i64 at0.1.1, .int .i64 at0.1.2, .int .u64 at0.2]] [] (.bool r) := by
  unfold history_search_full at h
  refine HC.of_body tab_ok (res := [.tmp 4]) Try.func118 rfl (by kernel_rfl) rfl (nt := 25) rfl (by decide) (by simp) ?_
  refine AW.seq ?_
  refine AW.ops ?_
  refine AO.allF tab_ok (by decide) [(2, .bp 2 0), (3, .bp 3 0)] [(2, .box 76 [.sl Y0 s, .sl Y1 s_2, .fn (.func 77) [] [], .one]), (3, .box 95 [.int .i64 at0.1.1, .int .i64 at0.1.2, .int .u64 at0.2])] (by (simp only [go_sem]) <;> (repeat' with_reducible apply And.intro) <;> first | assumption | rfl | omega) ?_
  refine athen_n ?_
  refine AW.have1 (fun _ : Unit => history_search_full_k1 = some r) (fun _ => ⟨fr [], hpGet [], gt⟩) (fun _ h => ?_) (fun hk_history_search_full_k1 => ?_)
  · unfold history_search_full_k1 at h
    refine AW.seq ?_
    refine AW.ops ?_
    refine AO.allF tab_ok (by decide) [(4, .bool true)] [] (by (simp only [go_sem]) <;> (repeat' with_reducible apply And.intro) <;> first | assumption | rfl | omega) ?_
    refine athen_n ?_
    refine AW.ret ?_
    obtain rfl := Option.some.inj h
    exact ⟨rfl, [], [], [], rfl, (by (simp only [go_sem]) <;> (repeat' with_reducible apply And.intro) <;> first | assumption | rfl | omega)⟩
  · refine AW.seq ?_
    refine AW.seq ?_
    refine AW.ops ?_
    refine AO.allF tab_ok (by decide) [(3, .bp 3 0), (8, .sl Y1 s_2), (9, .int .i64 (s_2.length : Int)), (10, .int .i64 0)] [(3, .box 95 [.int .i64 at0.1.1, .int .i64 at0.1.2, .int .u64 at0.2])] (by (simp only [go_sem]) <;> (repeat' with_reducible apply And.intro) <;> first | assumption | rfl | omega) ?_
    refine athen_n ?_
    refine AW.block ?_
    obtain ⟨rv5, hw1, ho2⟩ := Option.bind_eq_some_iff.1 h
    refine AW.loopO (history_search_full_b1 s_2 at0) (fun st1 => ⟨fr [(3, .bp 3 0), (8, .sl Y1 s_2), (9, .int .i64 (s_2.length : Int)), (10, .int .i64 st1)], hpGet [(3, .box 95 [.int .i64 at0.1.1, .int .i64 at0.1.2, .int .u64 at0.2])], gt⟩) 0 hw1 (Wk.le [] [] [] rfl (by (simp only [go_sem]) <;> (repeat' with_reducible apply And.intro) <;> first | assumption | rfl | omega) (by (simp only [go_sem]) <;> (repeat' with_reducible apply And.intro) <;> first | assumption | rfl | omega)) ?_
    intro st1 x4 h hd3
    unfold history_search_full_b1 at h
    refine AW.seq ?_
    refine AW.ops ?_
    refine AO.allF tab_ok (by decide) [(3, .bp 3 0), (8, .sl Y1 s_2), (9, .int .i64 (s_2.length : Int)), (10, .int .i64 st1), (11, .bool (decide (st1 < (s_2.length : Int))))] [(3, .box 95 [.int .i64 at0.1.1, .int .i64 at0.1.2, .int .u64 at0.2])] (by (simp only [go_sem]) <;> (repeat' with_reducible apply And.intro) <;> first | assumption | rfl | omega) ?_
    refine athen_n ?_
    refine AW.seq ?_
    refine AW.cond (b := (decide (st1 < (s_2.length : Int)))) rfl (fun hb6 => ?_) (fun hb6 => ?_)
    · rw [if_pos hb6] at h
      refine AW.skip ?_
      refine athen_n ?_
      refine AW.seq ?_
      refine AW.block ?_
      refine AW.seq ?_
      refine AW.ops ?_
      obtain ⟨c7, h⟩ := ck_some.1 h
      obtain ⟨c8, h⟩ := ck_some.1 h
      refine AO.allF tab_ok (by decide) [(3, .bp 3 0), (5, .int .i64 st1), (6, .bp 6 0), (8, .sl Y1 s_2), (9, .int .i64 (s_2.length : Int)), (10, .int .i64 st1)] [(3, .box 95 [.int .i64 at0.1.1, .int .i64 at0.1.2, .int .u64 at0.2]), (6, .box 55 [.int .i64 (s_2.getD st1.toNat (0, 0, 0, 0, 0, 0)).1, .int .i64 (s_2.getD st1.toNat (0, 0, 0, 0, 0, 0)).2.1, .int .i64 (s_2.getD st1.toNat (0, 0, 0, 0, 0, 0)).2.2.1, .int .i64 (s_2.getD st1.toNat (0, 0, 0, 0, 0, 0)).2.2.2.1, .int .i64 (s_2.getD st1.toNat (0, 0, 0, 0, 0, 0)).2.2.2.2.1, .int .i64 (s_2.getD st1.toNat (0, 0, 0, 0, 0, 0)).2.2.2.2.2])] (by (simp only [go_sem, hb6]) <;> (repeat' with_reducible apply And.intro) <;> first | assumption | rfl | omega) ?_
      refine athen_n ?_
      refine AW.seq ?_
      refine AW.ops ?_
      refine AO.segF tab_ok 4 (by decide) [(3, .bp 3 0), (5, .int .i64 st1), (8, .sl Y1 s_2), (9, .int .i64 (s_2.length : Int)), (10, .int .i64 st1), (18, .bool (!(decide ((s_2.getD st1.toNat (0, 0, 0, 0, 0, 0)).2.2.2.2.2 = 0))))] [(3, .box 95 [.int .i64 at0.1.1, .int .i64 at0.1.2, .int .u64 at0.2])] (by (simp only [go_sem, hb6]) <;> (repeat' with_reducible apply And.intro) <;> first | assumption | rfl | omega) ?_
      rcases Bool.eq_false_or_eq_true (!(decide ((s_2.getD st1.toNat (0, 0, 0, 0, 0, 0)).2.2.2.2.2 = 0))) with hb9 | hb9
      · rw [if_pos hb9] at h
        refine AO.weaken (s' := ⟨fr [(3, .bp 3 0), (5, .int .i64 st1), (8, .sl Y1 s_2), (9, .int .i64 (s_2.length : Int)), (10, .int .i64 st1), (18, .bool true)], hpGet [(3, .box 95 [.int .i64 at0.1.1, .int .i64 at0.1.2, .int .u64 at0.2])], gt⟩) (Wk.to (by (simp only [go_sem, hb6, hb9]) <;> (repeat' with_reducible apply And.intro) <;> first | assumption | rfl | omega)) ?_
        refine AO.segF tab_ok 2 (by decide) [(3, .bp 3 0), (8, .sl Y1 s_2), (9, .int .i64 (s_2.length : Int)), (10, .int .i64 st1), (18, .bool true), (19, .agg [.int .i64 at0.1.1, .int .i64 at0.1.2, .int .u64 at0.2]), (20, .int .i64 st1)] [(3, .box 95 [.int .i64 at0.1.1, .int .i64 at0.1.2, .int .u64 at0.2])] (by (simp only [go_sem, hb6, hb9]) <;> (repeat' with_reducible apply And.intro) <;> first | assumption | rfl | omega) ?_
        obtain ⟨v0, hv10, h⟩ := Option.bind_eq_some_iff.1 h
        refine AO.call tab_ok (by decide) rfl rfl rfl (fun _ h => ⟨fun _ => h, fun hn => absurd rfl hn⟩) [] [] (hc_history_place_has at0 st1 hv10) rfl (by (simp only [go_sem, hb6, hb9]) <;> (repeat' with_reducible apply And.intro) <;> first | assumption | rfl | omega) (by (simp only [go_sem, hb6, hb9]) <;> (repeat' with_reducible apply And.intro) <;> first | assumption | rfl | omega) [(3, .bp 3 0), (8, .sl Y1 s_2), (9, .int .i64 (s_2.length : Int)), (10, .int .i64 st1), (18, .bool true), (21, .bool (!(decide ((iand .u64 at0.2 (ishl .u64 1 st1)) = 0))))] [(3, .box 95 [.int .i64 at0.1.1, .int .i64 at0.1.2, .int .u64 at0.2])] (by (simp only [go_sem, hb6, hb9]) <;> (repeat' with_reducible apply And.intro) <;> first | assumption | rfl | omega) ?_
        refine AO.allF tab_ok (by decide) [(3, .bp 3 0), (8, .sl Y1 s_2), (9, .int .i64 (s_2.length : Int)), (10, .int .i64 st1), (23, .bool (!(!(decide ((iand .u64 at0.2 (ishl .u64 1 st1)) = 0)))))] [(3, .box 95 [.int .i64 at0.1.1, .int .i64 at0.1.2, .int .u64 at0.2])] (by (simp only [go_sem, hb6, hb9]) <;> (repeat' with_reducible apply And.intro) <;> first | assumption | rfl | omega) ?_
        refine athen_n ?_
        refine AW.cond (b := (!(!(decide ((iand .u64 at0.2 (ishl .u64 1 st1)) = 0))))) rfl (fun hb11 => ?_) (fun hb11 => ?_)
        · rw [if_pos hb11] at h
          refine AW.seq ?_
          refine AW.ops ?_
          refine AO.allF tab_ok (by decide) [(4, .bool false)] [] (by (simp only [go_sem, hb6, hb9, hb11]) <;> (repeat' with_reducible apply And.intro) <;> first | assumption | rfl | omega) ?_
          refine athen_n ?_
          refine AW.ret ?_
          refine ablock_r ?_
          refine athen_r ?_
          obtain rfl := Option.some.inj h
          rw [← hd3 _ rfl] at ho2
          have h := ho2
          try simp only at h
          refine athen_r ?_
          refine ablock_r ?_
          refine athen_r ?_
          obtain rfl := Option.some.inj h
          exact ⟨rfl, [], [], [], rfl, (by (simp only [go_sem, hb6, hb9, hb11]) <;> (repeat' with_reducible apply And.intro) <;> first | assumption | rfl | omega)⟩
        · rw [if_neg (Bool.eq_false_iff.1 hb11)] at h
          refine AW.skip ?_
          refine ablock_n ?_
          refine athen_n ?_
          refine AW.ops ?_
          obtain ⟨c12, h⟩ := ck_some.1 h
          refine AO.allF tab_ok (by decide) [(3, .bp 3 0), (8, .sl Y1 s_2), (9, .int .i64 (s_2.length : Int)), (10, .int .i64 (st1 + 1))] [(3, .box 95 [.int .i64 at0.1.1, .int .i64 at0.1.2, .int .u64 at0.2])] (by (simp only [go_sem, hb6, hb9, hb11]) <;> (repeat' with_reducible apply And.intro) <;> first | assumption | rfl | omega) ?_
          obtain rfl := Option.some.inj h
          exact ⟨_, rfl, Wk.le [] [] [] rfl (by (simp only [go_sem, hb6, hb9, hb11]) <;> (repeat' with_reducible apply And.intro) <;> first | assumption | rfl | omega) (by (simp only [go_sem, hb6, hb9, hb11]) <;> (repeat' with_reducible apply And.intro) <;> first | assumption | rfl | omega)⟩
      · rw [if_neg (Bool.eq_false_iff.1 hb9)] at h
        refine AO.weaken (s' := ⟨fr [(3, .bp 3 0), (5, .int .i64 st1), (8, .sl Y1 s_2), (9, .int .i64 (s_2.length : Int)), (10, .int .i64 st1), (18, .bool false)], hpGet [(3, .box 95 [.int .i64 at0.1.1, .int .i64 at0.1.2, .int .u64 at0.2])], gt⟩) (Wk.to (by (simp only [go_sem, hb6, hb9]) <;> (repeat' with_reducible apply And.intro) <;> first | assumption | rfl | omega)) ?_
        refine AO.segF tab_ok 4 (by decide) [(3, .bp 3 0), (8, .sl Y1 s_2), (9, .int .i64 (s_2.length : Int)), (10, .int .i64 st1), (18, .bool false), (22, .cv (undef))] [(3, .box 95 [.int .i64 at0.1.1, .int .i64 at0.1.2, .int .u64 at0.2])] (by (simp only [go_sem, hb6, hb9]) <;> (repeat' with_reducible apply And.intro) <;> first | assumption | rfl | omega) ?_
        refine AO.allF tab_ok (by decide) [(3, .bp 3 0), (8, .sl Y1 s_2), (9, .int .i64 (s_2.length : Int)), (10, .int .i64 st1), (23, .bool false)] [(3, .box 95 [.int .i64 at0.1.1, .int .i64 at0.1.2, .int .u64 at0.2])] (by (simp only [go_sem, hb6, hb9]) <;> (repeat' with_reducible apply And.intro) <;> first | assumption | rfl | omega) ?_
        refine athen_n ?_
        refine AW.cond (b := false) rfl (fun hb13 => by cases hb13) (fun _ => ?_)
        refine AW.skip ?_
        refine ablock_n ?_
        refine athen_n ?_
        refine AW.ops ?_
        obtain ⟨c14, h⟩ := ck_some.1 h
        refine AO.allF tab_ok (by decide) [(3, .bp 3 0), (8, .sl Y1 s_2), (9, .int .i64 (s_2.length : Int)), (10, .int .i64 (st1 + 1))] [(3, .box 95 [.int .i64 at0.1.1, .int .i64 at0.1.2, .int .u64 at0.2])] (by (simp only [go_sem, hb6, hb9]) <;> (repeat' with_reducible apply And.intro) <;> first | assumption | rfl | omega) ?_
        obtain rfl := Option.some.inj h
        exact ⟨_, rfl, Wk.le [] [] [] rfl (by (simp only [go_sem, hb6, hb9]) <;> (repeat' with_reducible apply And.intro) <;> first | assumption | rfl | omega) (by (simp only [go_sem, hb6, hb9]) <;> (repeat' with_reducible apply And.intro) <;> first | assumption | rfl | omega)⟩
    · rw [if_neg (Bool.eq_false_iff.1 hb6)] at h
      refine AW.exit ?_
      refine athen_e ?_
      obtain rfl := Option.some.inj h
      rw [← hd3 _ rfl] at ho2
      have h := ho2
      try simp only at h
      refine athen_e ?_
      refine ablock_s ?_
      refine athen_n ?_
      exact AW.weaken (Wk.le [] [] [] rfl (by (simp only [go_sem, hb6]) <;> (repeat' with_reducible apply And.intro) <;> first | assumption | rfl | omega) (by (simp only [go_sem, hb6]) <;> (repeat' with_reducible apply And.intro) <;> first | assumption | rfl | omega)) (hk_history_search_full_k1 () h)

set_option maxRecDepth 100000 in
set_option maxHeartbeats 2000000 in
theorem hc_history_search_steps (s : List (Int × Int × (List (List Int)) × (List (List Int)))) (s_2 : List (Int × Int × Int × Int × Int × Int)) (at0 : (Int × Int) × Int) {r : Unit} (h : history_search_steps s s_2 at0 = some r) : HC Try.prog 119 [] [.agg [.sl Y0 s, .sl Y1 s_2, .fn (.func 77) [] [], .one], .agg [.int .i64 at0.1.1, .int .i64 at0.1.2, .int .u64 at0.2]] [(2000, .box 76 [.sl Y0 s, .sl Y1 s_2, .fn (.func 77) [] [], .one]), (2001, .box 95 [.int .i64 at0.1.1, .int .i64 at0.1.2, .int .u64 at0.2])] (.fn (.func 127) [] [.bp 2000 0, .bp 2001 0]) := by
  unfold history_search_steps at h
  refine HC.of_body tab_ok (res := [.tmp 4]) Try.func119 rfl (by kernel_rfl) rfl (nt := 6) rfl (by decide) (by simp) ?_
  refine AW.seq ?_
  refine AW.ops ?_
  refine AO.allF tab_ok (by decide) [(2, .bp 2 0), (3, .bp 3 0)] [(2, .box 76 [.sl Y0 s, .sl Y1 s_2, .fn (.func 77) [] [], .one]), (3, .box 95 [.int .i64 at0.1.1, .int .i64 at0.1.2, .int .u64 at0.2])] (by (simp only [go_sem]) <;> (repeat' with_reducible apply And.intro) <;> first | assumption | rfl | omega) ?_
  refine athen_n ?_
  refine AW.seq ?_
  refine AW.ops ?_
  refine AO.allF tab_ok (by decide) [(4, .fn (.func 127) [] [.bp 2 0, .bp 3 0])] [(2, .box 76 [.sl Y0 s, .sl Y1 s_2, .fn (.func 77) [] [], .one]), (3, .box 95 [.int .i64 at0.1.1, .int .i64 at0.1.2, .int .u64 at0.2])] (by (simp only [go_sem]) <;> (repeat' with_reducible apply And.intro) <;> first | assumption | rfl | omega) ?_
  refine athen_n ?_
  refine AW.ret ?_
  obtain rfl := Option.some.inj h
  exact ⟨rfl, [], [], [(2000, 2), (2001, 3)], rfl, (by (simp only [go_sem]) <;> (repeat' with_reducible apply And.intro) <;> first | assumption | rfl | omega)⟩

set_option maxRecDepth 100000 in
set_option maxHeartbeats 2000000 in
theorem hc_history_inTime (a : Int × Int × Int × Int × Int × Int) (b : Int × Int × Int × Int × Int × Int) {r : Bool} (h : history_inTime a b = some r) : HC Try.prog 77 [] [.agg [.int .i64 a.1, .int .i64 a.2.1, .int .i64 a.2.2.1, .int .i64 a.2.2.2.1, .int .i64 a.2.2.2.2.1, .int .i64 a.2.2.2.2.2], .agg [.int .i64 b.1, .int .i64 b.2.1, .int .i64 b.2.2.1, .int .i64 b.2.2.2.1, .int .i64 b.2.2.2.2.1, .int .i64 b.2.2.2.2.2]] [] (.bool r) := by
  unfold history_inTime at h
  refine HC.of_body tab_ok (res := [.tmp 4]) Try.func77 rfl (by kernel_rfl) rfl (nt := 8) rfl (by decide) (by simp) ?_
  refine AW.seq ?_
  refine AW.ops ?_
  refine AO.allF tab_ok (by decide) [(2, .bp 2 0), (3, .bp 3 0)] [(2, .box 55 [.int .i64 a.1, .int .i64 a.2.1, .int .i64 a.2.2.1, .int .i64 a.2.2.2.1, .int .i64 a.2.2.2.2.1, .int .i64 a.2.2.2.2.2]), (3, .box 55 [.int .i64 b.1, .int .i64 b.2.1, .int .i64 b.2.2.1, .int .i64 b.2.2.2.1, .int .i64 b.2.2.2.2.1, .int .i64 b.2.2.2.2.2])] (by (simp only [go_sem]) <;> (repeat' with_reducible apply And.intro) <;> first | assumption | rfl | omega) ?_
  refine athen_n ?_
  refine AW.seq ?_
  refine AW.ops ?_
  refine AO.segF tab_ok 2 (by decide) [(5, .agg [.int .i64 b.1, .int .i64 b.2.1, .int .i64 b.2.2.1, .int .i64 b.2.2.2.1, .int .i64 b.2.2.2.2.1, .int .i64 b.2.2.2.2.2]), (6, .agg [.int .i64 a.1, .int .i64 a.2.1, .int .i64 a.2.2.1, .int .i64 a.2.2.2.1, .int .i64 a.2.2.2.2.1, .int .i64 a.2.2.2.2.2])] [] (by (simp only [go_sem]) <;> (repeat' with_reducible apply And.intro) <;> first | assumption | rfl | omega) ?_
  obtain ⟨v0, hv1, h⟩ := Option.bind_eq_some_iff.1 h
  refine AO.call tab_ok (by decide) rfl rfl rfl (fun _ h => h) [] [] (hc_history_before b a hv1) rfl (by (simp only [go_sem]) <;> (repeat' with_reducible apply And.intro) <;> first | assumption | rfl | omega) (by (simp only [go_sem]) <;> (repeat' with_reducible apply And.intro) <;> first | assumption | rfl | omega) [(7, .bool v0)] [] (by (simp only [go_sem]) <;> (repeat' with_reducible apply And.intro) <;> first | assumption | rfl | omega) ?_
  refine AO.allF tab_ok (by decide) [(4, .bool v0)] [] (by (simp only [go_sem]) <;> (repeat' with_reducible apply And.intro) <;> first | assumption | rfl | omega) ?_
  refine athen_n ?_
  refine AW.ret ?_
  obtain rfl := Option.some.inj h
  exact ⟨rfl, [], [], [], rfl, (by (simp only [go_sem]) <;> (repeat' with_reducible apply And.intro) <;> first | assumption | rfl | omega)⟩

set_option maxRecDepth 100000 in
set_option maxHeartbeats 2000000 in
theorem hc_history_search_ready (s : List (Int × Int × (List (List Int)) × (List (List Int)))) (s_2 : List (Int × Int × Int × Int × Int × Int)) (at0 : (Int × Int) × Int) (call : Int) {r : Bool} (h : history_search_ready s s_2 at0 call = some r) : HC Try.prog 128 [] [.agg [.sl Y0 s, .sl Y1 s_2, .fn (.func 77) [] [], .one], .agg [.int .i64 at0.1.1, .int .i64 at0.1.2, .int .u64 at0.2], .int .i64 call] [] (.bool r) := by
  unfold history_search_ready at h
  refine HC.of_body tab_ok (res := [.tmp 6]) Try.func128 rfl (by kernel_rfl) rfl (nt := 36) rfl (by decide) (by simp) ?_
  refine AW.seq ?_
  refine AW.ops ?_
  refine AO.allF tab_ok (by decide) [(2, .int .i64 call), (3, .bp 3 0), (4, .bp 4 0)] [(3, .box 76 [.sl Y0 s, .sl Y1 s_2, .fn (.func 77) [] [], .one]), (4, .box 95 [.int .i64 at0.1.1, .int .i64 at0.1.2, .int .u64 at0.2])] (by (simp only [go_sem]) <;> (repeat' with_reducible apply And.intro) <;> first | assumption | rfl | omega) ?_
  refine athen_n ?_
  refine AW.seq ?_
  refine AW.seq ?_
  refine AW.ops ?_
  refine AO.segF tab_ok 2 (by decide) [(2, .int .i64 call), (3, .bp 3 0), (4, .bp 4 0), (9, .agg [.int .i64 at0.1.1, .int .i64 at0.1.2, .int .u64 at0.2]), (10, .int .i64 call)] [(3, .box 76 [.sl Y0 s, .sl Y1 s_2, .fn (.func 77) [] [], .one]), (4, .box 95 [.int .i64 at0.1.1, .int .i64 at0.1.2, .int .u64 at0.2])] (by (simp only [go_sem]) <;> (repeat' with_reducible apply And.intro) <;> first | assumption | rfl | omega) ?_
  obtain ⟨v0, hv1, h⟩ := Option.bind_eq_some_iff.1 h
  refine AO.call tab_ok (by decide) rfl rfl rfl (fun _ h => h) [] [] (hc_history_place_has at0 call hv1) rfl (by (simp only [go_sem]) <;> (repeat' with_reducible apply And.intro) <;> first | assumption | rfl | omega) (by (simp only [go_sem]) <;> (repeat' with_reducible apply And.intro) <;> first | assumption | rfl | omega) [(2, .int .i64 call), (3, .bp 3 0), (4, .bp 4 0), (11, .bool (!(decide ((iand .u64 at0.2 (ishl .u64 1 call)) = 0))))] [(3, .box 76 [.sl Y0 s, .sl Y1 s_2, .fn (.func 77) [] [], .one]), (4, .box 95 [.int .i64 at0.1.1, .int .i64 at0.1.2, .int .u64 at0.2])] (by (simp only [go_sem]) <;> (repeat' with_reducible apply And.intro) <;> first | assumption | rfl | omega) ?_
  refine AO.allF tab_ok (by decide) [(2, .int .i64 call), (3, .bp 3 0), (4, .bp 4 0), (11, .bool (!(decide ((iand .u64 at0.2 (ishl .u64 1 call)) = 0))))] [(3, .box 76 [.sl Y0 s, .sl Y1 s_2, .fn (.func 77) [] [], .one]), (4, .box 95 [.int .i64 at0.1.1, .int .i64 at0.1.2, .int .u64 at0.2])] (by (simp only [go_sem]) <;> (repeat' with_reducible apply And.intro) <;> first | assumption | rfl | omega) ?_
  refine athen_n ?_
  refine AW.cond (b := (!(decide ((iand .u64 at0.2 (ishl .u64 1 call)) = 0)))) rfl (fun hb2 => ?_) (fun hb2 => ?_)
  · rw [if_pos hb2] at h
    refine AW.seq ?_
    refine AW.ops ?_
    refine AO.allF tab_ok (by decide) [(6, .bool false)] [] (by (simp only [go_sem, hb2]) <;> (repeat' with_reducible apply And.intro) <;> first | assumption | rfl | omega) ?_
    refine athen_n ?_
    refine AW.ret ?_
    refine athen_r ?_
    obtain rfl := Option.some.inj h
    exact ⟨rfl, [], [], [], rfl, (by (simp only [go_sem, hb2]) <;> (repeat' with_reducible apply And.intro) <;> first | assumption | rfl | omega)⟩
  · rw [if_neg (Bool.eq_false_iff.1 hb2)] at h
    refine AW.skip ?_
    refine athen_n ?_
    refine AW.have1 (fun _ : Unit => history_search_ready_k1 = some r) (fun _ => ⟨fr [], hpGet [], gt⟩) (fun _ h => ?_) (fun hk_history_search_ready_k1 => ?_)
    · unfold history_search_ready_k1 at h
      refine AW.seq ?_
      refine AW.ops ?_
      refine AO.allF tab_ok (by decide) [(6, .bool true)] [] (by (simp only [go_sem, hb2]) <;> (repeat' with_reducible apply And.intro) <;> first | assumption | rfl | omega) ?_
      refine athen_n ?_
      refine AW.ret ?_
      obtain rfl := Option.some.inj h
      exact ⟨rfl, [], [], [], rfl, (by (simp only [go_sem, hb2]) <;> (repeat' with_reducible apply And.intro) <;> first | assumption | rfl | omega)⟩
    · refine AW.seq ?_
      refine AW.seq ?_
      refine AW.ops ?_
      refine AO.allF tab_ok (by decide) [(2, .int .i64 call), (3, .bp 3 0), (4, .bp 4 0), (13, .sl Y1 s_2), (14, .int .i64 (s_2.length : Int)), (15, .int .i64 0)] [(3, .box 76 [.sl Y0 s, .sl Y1 s_2, .fn (.func 77) [] [], .one]), (4, .box 95 [.int .i64 at0.1.1, .int .i64 at0.1.2, .int .u64 at0.2])] (by (simp only [go_sem, hb2]) <;> (repeat' with_reducible apply And.intro) <;> first | assumption | rfl | omega) ?_
      refine athen_n ?_
      refine AW.block ?_
      obtain ⟨rv7, hw3, ho4⟩ := Option.bind_eq_some_iff.1 h
      refine AW.loopO (history_search_ready_b1 s_2 at0 call) (fun st1 => ⟨fr [(2, .int .i64 call), (3, .bp 3 0), (4, .bp 4 0), (13, .sl Y1 s_2), (14, .int .i64 (s_2.length : Int)), (15, .int .i64 st1)], hpGet [(3, .box 76 [.sl Y0 s, .sl Y1 s_2, .fn (.func 77) [] [], .one]), (4, .box 95 [.int .i64 at0.1.1, .int .i64 at0.1.2, .int .u64 at0.2])], gt⟩) 0 hw3 (Wk.le [] [] [] rfl (by (simp only [go_sem, hb2]) <;> (repeat' with_reducible apply And.intro) <;> first | assumption | rfl | omega) (by (simp only [go_sem, hb2]) <;> (repeat' with_reducible apply And.intro) <;> first | assumption | rfl | omega)) ?_
      intro st1 x6 h hd5
      unfold history_search_ready_b1 at h
      refine AW.seq ?_
      refine AW.ops ?_
      refine AO.allF tab_ok (by decide) [(2, .int .i64 call), (3, .bp 3 0), (4, .bp 4 0), (13, .sl Y1 s_2), (14, .int .i64 (s_2.length : Int)), (15, .int .i64 st1), (16, .bool (decide (st1 < (s_2.length : Int))))] [(3, .box 76 [.sl Y0 s, .sl Y1 s_2, .fn (.func 77) [] [], .one]), (4, .box 95 [.int .i64 at0.1.1, .int .i64 at0.1.2, .int .u64 at0.2])] (by (simp only [go_sem, hb2]) <;> (repeat' with_reducible apply And.intro) <;> first | assumption | rfl | omega) ?_
      refine athen_n ?_
      refine AW.seq ?_
      refine AW.cond (b := (decide (st1 < (s_2.length : Int)))) rfl (fun hb8 => ?_) (fun hb8 => ?_)
      · rw [if_pos hb8] at h
        refine AW.skip ?_
        refine athen_n ?_
        refine AW.seq ?_
        refine AW.block ?_
        refine AW.seq ?_
        refine AW.ops ?_
        obtain ⟨c9, h⟩ := ck_some.1 h
        obtain ⟨c10, h⟩ := ck_some.1 h
        refine AO.allF tab_ok (by decide) [(2, .int .i64 call), (3, .bp 3 0), (4, .bp 4 0), (7, .int .i64 st1), (8, .bp 8 0), (13, .sl Y1 s_2), (14, .int .i64 (s_2.length : Int)), (15, .int .i64 st1)] [(3, .box 76 [.sl Y0 s, .sl Y1 s_2, .fn (.func 77) [] [], .one]), (4, .box 95 [.int .i64 at0.1.1, .int .i64 at0.1.2, .int .u64 at0.2]), (8, .box 55 [.int .i64 (s_2.getD st1.toNat (0, 0, 0, 0, 0, 0)).1, .int .i64 (s_2.getD st1.toNat (0, 0, 0, 0, 0, 0)).2.1, .int .i64 (s_2.getD st1.toNat (0, 0, 0, 0, 0, 0)).2.2.1, .int .i64 (s_2.getD st1.toNat (0, 0, 0, 0, 0, 0)).2.2.2.1, .int .i64 (s_2.getD st1.toNat (0, 0, 0, 0, 0, 0)).2.2.2.2.1, .int .i64 (s_2.getD st1.toNat (0, 0, 0, 0, 0, 0)).2.2.2.2.2])] (by (simp only [go_sem, hb2, hb8]) <;> (repeat' with_reducible apply And.intro) <;> first | assumption | rfl | omega) ?_
        refine athen_n ?_
        refine AW.seq ?_
        refine AW.draw tab_ok mixed_ok [] [] (by decide) (by kernel_rfl) ?_
        obtain ⟨c12, h⟩ := ck_some.1 h
        obtain ⟨c13, h⟩ := ck_some.1 h
        refine adops_cut 6 (fun K' hK11 => ?_)
        try dsimp only [List.drop_succ_cons, List.drop_zero, List.take_succ_cons, List.take_zero]
        simp only [go_sem, hb2, hb8]
        repeat (with_reducible refine And.intro (by first | assumption | rfl | omega | trivial) ?_)
        refine hK11 _ ?_
        refine adops_cut 2 (fun K' hK14 => ?_)
        try dsimp only [List.drop_succ_cons, List.drop_zero, List.take_succ_cons, List.take_zero]
        simp only [go_sem, hb2, hb8]
        repeat (with_reducible refine And.intro (by first | assumption | rfl | omega | trivial) ?_)
        refine hK14 _ ?_
        obtain ⟨v0_2, hv15, h⟩ := Option.bind_eq_some_iff.1 h
        refine adops.call (by first | trivial | rfl) rfl rfl rfl (fun _ h => h) [] [] (hc_history_inTime (s_2.getD call.toNat (0, 0, 0, 0, 0, 0)) (s_2.getD st1.toNat (0, 0, 0, 0, 0, 0)) hv15) rfl (by (simp only [go_sem, hb2, hb8]) <;> (repeat' with_reducible apply And.intro) <;> first | assumption | rfl | omega) (by (simp only [go_sem, hb2, hb8]) <;> (repeat' with_reducible apply And.intro) <;> first | assumption | rfl | omega) rfl ?_
        refine adops_cut 1 (fun K' hK16 => ?_)
        try dsimp only [List.drop_succ_cons, List.drop_zero, List.take_succ_cons, List.take_zero]
        simp only [go_sem, hb2, hb8]
        repeat (with_reducible refine And.intro (by first | assumption | rfl | omega | trivial) ?_)
        refine hK16 _ ?_
        rcases Bool.eq_false_or_eq_true v0_2 with hb17 | hb17
        · rw [if_pos hb17] at h
          simp only [hb17]
          refine adops_cut 2 (fun K' hK18 => ?_)
          try dsimp only [List.drop_succ_cons, List.drop_zero, List.take_succ_cons, List.take_zero]
          simp only [go_sem, hb2, hb8, hb17]
          repeat (with_reducible refine And.intro (by first | assumption | rfl | omega | trivial) ?_)
          refine hK18 _ ?_
          obtain ⟨v0_3, hv19, h⟩ := Option.bind_eq_some_iff.1 h
          refine adops.call (by first | trivial | rfl) rfl rfl rfl (fun _ h => ⟨fun _ => h, fun hn => absurd rfl hn⟩) [] [] (hc_history_place_has at0 st1 hv19) rfl (by (simp only [go_sem, hb2, hb8, hb17]) <;> (repeat' with_reducible apply And.intro) <;> first | assumption | rfl | omega) (by (simp only [go_sem, hb2, hb8, hb17]) <;> (repeat' with_reducible apply And.intro) <;> first | assumption | rfl | omega) rfl ?_
          refine adops_cut 2 (fun K' hK20 => ?_)
          try dsimp only [List.drop_succ_cons, List.drop_zero, List.take_succ_cons, List.take_zero]
          simp only [go_sem, hb2, hb8, hb17]
          repeat (with_reducible refine And.intro (by first | assumption | rfl | omega | trivial) ?_)
          refine hK20 _ ?_
          refine adops_nil ?_
          refine athen_n ?_
          refine AW.weaken (s' := ⟨fr [(2, .int .i64 call), (3, .bp 3 0), (4, .bp 4 0), (13, .sl Y1 s_2), (14, .int .i64 (s_2.length : Int)), (15, .int .i64 st1), (34, .bool (!(!(decide ((iand .u64 at0.2 (ishl .u64 1 st1)) = 0)))))], hpGet [(3, .box 76 [.sl Y0 s, .sl Y1 s_2, .fn (.func 77) [] [], .one]), (4, .box 95 [.int .i64 at0.1.1, .int .i64 at0.1.2, .int .u64 at0.2])], gt⟩) (Wk.to (by (simp only [go_sem, hb2, hb8, hb17]) <;> (repeat' with_reducible apply And.intro) <;> first | assumption | rfl | omega)) ?_
          refine AW.cond (b := (!(!(decide ((iand .u64 at0.2 (ishl .u64 1 st1)) = 0))))) rfl (fun hb21 => ?_) (fun hb21 => ?_)
          · rw [if_pos hb21] at h
            refine AW.seq ?_
            refine AW.ops ?_
            refine AO.allF tab_ok (by decide) [(6, .bool false)] [] (by (simp only [go_sem, hb2, hb8, hb17, hb21]) <;> (repeat' with_reducible apply And.intro) <;> first | assumption | rfl | omega) ?_
            refine athen_n ?_
            refine AW.ret ?_
            refine ablock_r ?_
            refine athen_r ?_
            obtain rfl := Option.some.inj h
            rw [← hd5 _ rfl] at ho4
            have h := ho4
            try simp only at h
            refine athen_r ?_
            refine ablock_r ?_
            refine athen_r ?_
            obtain rfl := Option.some.inj h
            exact ⟨rfl, [], [], [], rfl, (by (simp only [go_sem, hb2, hb8, hb17, hb21]) <;> (repeat' with_reducible apply And.intro) <;> first | assumption | rfl | omega)⟩
          · rw [if_neg (Bool.eq_false_iff.1 hb21)] at h
            refine AW.skip ?_
            refine ablock_n ?_
            refine athen_n ?_
            refine AW.ops ?_
            obtain ⟨c22, h⟩ := ck_some.1 h
            refine AO.allF tab_ok (by decide) [(2, .int .i64 call), (3, .bp 3 0), (4, .bp 4 0), (13, .sl Y1 s_2), (14, .int .i64 (s_2.length : Int)), (15, .int .i64 (st1 + 1))] [(3, .box 76 [.sl Y0 s, .sl Y1 s_2, .fn (.func 77) [] [], .one]), (4, .box 95 [.int .i64 at0.1.1, .int .i64 at0.1.2, .int .u64 at0.2])] (by (simp only [go_sem, hb2, hb8, hb17, hb21]) <;> (repeat' with_reducible apply And.intro) <;> first | assumption | rfl | omega) ?_
            obtain rfl := Option.some.inj h
            exact ⟨_, rfl, Wk.le [] [] [] rfl (by (simp only [go_sem, hb2, hb8, hb17, hb21]) <;> (repeat' with_reducible apply And.intro) <;> first | assumption | rfl | omega) (by (simp only [go_sem, hb2, hb8, hb17, hb21]) <;> (repeat' with_reducible apply And.intro) <;> first | assumption | rfl | omega)⟩
        · rw [if_neg (Bool.eq_false_iff.1 hb17)] at h
          simp only [hb17]
          refine adops_cut 4 (fun K' hK23 => ?_)
          try dsimp only [List.drop_succ_cons, List.drop_zero, List.take_succ_cons, List.take_zero]
          simp only [go_sem, hb2, hb8, hb17]
          repeat (with_reducible refine And.intro (by first | assumption | rfl | omega | trivial) ?_)
          refine hK23 _ ?_
          refine adops_cut 1 (fun K' hK24 => ?_)
          try dsimp only [List.drop_succ_cons, List.drop_zero, List.take_succ_cons, List.take_zero]
          simp only [go_sem, hb2, hb8, hb17]
          repeat (with_reducible refine And.intro (by first | assumption | rfl | omega | trivial) ?_)
          refine hK24 _ ?_
          refine adops_nil ?_
          refine athen_n ?_
          refine AW.weaken (s' := ⟨fr [(2, .int .i64 call), (3, .bp 3 0), (4, .bp 4 0), (13, .sl Y1 s_2), (14, .int .i64 (s_2.length : Int)), (15, .int .i64 st1), (34, .bool false)], hpGet [(3, .box 76 [.sl Y0 s, .sl Y1 s_2, .fn (.func 77) [] [], .one]), (4, .box 95 [.int .i64 at0.1.1, .int .i64 at0.1.2, .int .u64 at0.2])], gt⟩) (Wk.to (by (simp only [go_sem, hb2, hb8, hb17]) <;> (repeat' with_reducible apply And.intro) <;> first | assumption | rfl | omega)) ?_
          refine AW.cond (b := false) rfl (fun hb25 => by cases hb25) (fun _ => ?_)
          refine AW.skip ?_
          refine ablock_n ?_
          refine athen_n ?_
          refine AW.ops ?_
          obtain ⟨c26, h⟩ := ck_some.1 h
          refine AO.allF tab_ok (by decide) [(2, .int .i64 call), (3, .bp 3 0), (4, .bp 4 0), (13, .sl Y1 s_2), (14, .int .i64 (s_2.length : Int)), (15, .int .i64 (st1 + 1))] [(3, .box 76 [.sl Y0 s, .sl Y1 s_2, .fn (.func 77) [] [], .one]), (4, .box 95 [.int .i64 at0.1.1, .int .i64 at0.1.2, .int .u64 at0.2])] (by (simp only [go_sem, hb2, hb8, hb17]) <;> (repeat' with_reducible apply And.intro) <;> first | assumption | rfl | omega) ?_
          obtain rfl := Option.some.inj h
          exact ⟨_, rfl, Wk.le [] [] [] rfl (by (simp only [go_sem, hb2, hb8, hb17]) <;> (repeat' with_reducible apply And.intro) <;> first | assumption | rfl | omega) (by (simp only [go_sem, hb2, hb8, hb17]) <;> (repeat' with_reducible apply And.intro) <;> first | assumption | rfl | omega)⟩
      · rw [if_neg (Bool.eq_false_iff.1 hb8)] at h
        refine AW.exit ?_
        refine athen_e ?_
        obtain rfl := Option.some.inj h
        rw [← hd5 _ rfl] at ho4
        have h := ho4
        try simp only at h
        refine athen_e ?_
        refine ablock_s ?_
        refine athen_n ?_
        exact AW.weaken (Wk.le [] [] [] rfl (by (simp only [go_sem, hb2, hb8]) <;> (repeat' with_reducible apply And.intro) <;> first | assumption | rfl | omega) (by (simp only [go_sem, hb2, hb8]) <;> (repeat' with_reducible apply And.intro) <;> first | assumption | rfl | omega)) (hk_history_search_ready_k1 () h)

set_option maxRecDepth 100000 in
set_option maxHeartbeats 2000000 in
theorem hc_history_states_answer (specs : List (Int × Int × (List (List Int)) × (List (List Int)))) (c : Int × Int × Int × Int × Int × Int) (s : (Int × Int) × Int) {r : Int × Int × Int} (h : history_states_answer specs c s = some r) : HC Try.prog 113 [(1000, .box 95 [.int .i64 s.1.1, .int .i64 s.1.2, .int .u64 s.2])] [.bp 1000 0, .sl Y0 specs, .agg [.int .i64 c.1, .int .i64 c.2.1, .int .i64 c.2.2.1, .int .i64 c.2.2.2.1, .int .i64 c.2.2.2.2.1, .int .i64 c.2.2.2.2.2]] [(1000, .box 95 [.int .i64 r.2.1, .int .i64 r.2.2, .int .u64 s.2])] (.int .i64 r.1) := by
  unfold history_states_answer at h
  refine HC.of_body tab_ok (res := [.tmp 6]) Try.func113 rfl (by kernel_rfl) rfl (nt := 43) rfl (by decide) (by simp) ?_
  refine AW.seq ?_
  refine AW.ops ?_
  refine AO.allF tab_ok (by decide) [(0, .bp 1000 0), (1, .sl Y0 specs), (5, .bp 5 0)] [(5, .box 55 [.int .i64 c.1, .int .i64 c.2.1, .int .i64 c.2.2.1, .int .i64 c.2.2.2.1, .int .i64 c.2.2.2.2.1, .int .i64 c.2.2.2.2.2]), (1000, .box 95 [.int .i64 s.1.1, .int .i64 s.1.2, .int .u64 s.2])] (by (simp only [go_sem]) <;> (repeat' with_reducible apply And.intro) <;> first | assumption | rfl | omega) ?_
  refine athen_n ?_
  refine AW.have1 (fun b1 : Int × Int × Int × (List (List Int)) × (List (List Int)) × Int => history_states_answer_k1 c s b1 = some r) (fun b1 => ⟨fr [(0, .bp 1000 0), (5, .bp 5 0), (7, .bp 7 0), (8, .int .i64 b1.2.2.2.2.2)], hpGet [(5, .box 55 [.int .i64 c.1, .int .i64 b1.1, .int .i64 c.2.2.1, .int .i64 c.2.2.2.1, .int .i64 c.2.2.2.2.1, .int .i64 c.2.2.2.2.2]), (7, .box 64 [.int .i64 b1.2.1, .int .i64 b1.2.2.1, .sl (.sl (.int .i64)) b1.2.2.2.1, .sl (.sl (.int .i64)) b1.2.2.2.2.1]), (1000, .box 95 [.int .i64 s.1.1, .int .i64 s.1.2, .int .u64 s.2])], gt⟩) (fun b1 h => ?_) (fun hk_history_states_answer_k1 => ?_)
  · unfold history_states_answer_k1 at h
    refine AW.have1 (fun b2 : Int × Int × Int => history_states_answer_k2 c b1 b2 = some r) (fun b2 => ⟨fr [(5, .bp 5 0), (7, .bp 7 0), (8, .int .i64 b1.2.2.2.2.2)], hpGet [(5, .box 55 [.int .i64 c.1, .int .i64 b2.1, .int .i64 c.2.2.1, .int .i64 c.2.2.2.1, .int .i64 c.2.2.2.2.1, .int .i64 c.2.2.2.2.2]), (7, .box 64 [.int .i64 b1.2.1, .int .i64 b1.2.2.1, .sl (.sl (.int .i64)) b1.2.2.2.1, .sl (.sl (.int .i64)) b1.2.2.2.2.1]), (1000, .box 95 [.int .i64 b2.2.1, .int .i64 b2.2.2, .int .u64 s.2])], gt⟩) (fun b2 h => ?_) (fun hk_history_states_answer_k2 => ?_)
    · unfold history_states_answer_k2 at h
      refine AW.seq ?_
      refine AW.draw tab_ok mixed_ok [] [] (by decide) (by kernel_rfl) ?_
      obtain ⟨c2, h⟩ := ck_some.1 h
      obtain ⟨c3, h⟩ := ck_some.1 h
      refine adops_cut 6 (fun K' hK1 => ?_)
      try dsimp only [List.drop_succ_cons, List.drop_zero, List.take_succ_cons, List.take_zero]
      simp only [go_sem]
      repeat (with_reducible refine And.intro (by first | assumption | rfl | omega | trivial) ?_)
      refine hK1 _ ?_
      obtain ⟨c5, h⟩ := ck_some.1 h
      obtain ⟨c6, h⟩ := ck_some.1 h
      refine adops_cut 4 (fun K' hK4 => ?_)
      try dsimp only [List.drop_succ_cons, List.drop_zero, List.take_succ_cons, List.take_zero]
      simp only [go_sem]
      repeat (with_reducible refine And.intro (by first | assumption | rfl | omega | trivial) ?_)
      refine hK4 _ ?_
      refine adops_nil ?_
      refine athen_n ?_
      refine AW.weaken (s' := ⟨fr [(6, .int .i64 ((b1.2.2.2.2.1.getD b1.2.2.2.2.2.toNat []).getD c.2.2.1.toNat 0))], hpGet [(1000, .box 95 [.int .i64 b2.2.1, .int .i64 b2.2.2, .int .u64 s.2])], gt⟩) (Wk.to (by (simp only [go_sem]) <;> (repeat' with_reducible apply And.intro) <;> first | assumption | rfl | omega)) ?_
      refine AW.ret ?_
      obtain rfl := Option.some.inj h
      exact ⟨rfl, [], [], [], rfl, (by (simp only [go_sem]) <;> (repeat' with_reducible apply And.intro) <;> first | assumption | rfl | omega)⟩
    · refine AW.seq ?_
      refine AW.draw tab_ok mixed_ok [(14, [1000])] [] (by decide) (by kernel_rfl) ?_
      refine adops_cut 6 (fun K' hK7 => ?_)
      try dsimp only [List.drop_succ_cons, List.drop_zero, List.take_succ_cons, List.take_zero]
      simp only [go_sem]
      repeat (with_reducible refine And.intro (by first | assumption | rfl | omega | trivial) ?_)
      refine hK7 _ ?_
      obtain ⟨c9, h⟩ := ck_some.1 h
      obtain ⟨c10, h⟩ := ck_some.1 h
      obtain ⟨c11, h⟩ := ck_some.1 h
      obtain ⟨c12, h⟩ := ck_some.1 h
      refine adops_cut 6 (fun K' hK8 => ?_)
      try dsimp only [List.drop_succ_cons, List.drop_zero, List.take_succ_cons, List.take_zero]
      simp only [go_sem]
      repeat (with_reducible refine And.intro (by first | assumption | rfl | omega | trivial) ?_)
      refine hK8 _ ?_
      obtain ⟨c14, h⟩ := ck_some.1 h
      obtain ⟨c15, h⟩ := ck_some.1 h
      refine adops_cut 1 (fun K' hK13 => ?_)
      try dsimp only [List.drop_succ_cons, List.drop_zero, List.take_succ_cons, List.take_zero]
      simp only [go_sem]
      repeat (with_reducible refine And.intro (by first | assumption | rfl | omega | trivial) ?_)
      refine hK13 _ ?_
      rcases Bool.eq_false_or_eq_true (decide (b1.1 = 0)) with hb16 | hb16
      · rw [if_pos hb16] at h
        have hz17 : b1.1 = 0 := by simpa using hb16
        refine adops_cut 2 (fun K' hK18 => ?_)
        try dsimp only [List.drop_succ_cons, List.drop_zero, List.take_succ_cons, List.take_zero]
        simp only [go_sem, hb16, hz17]
        repeat (with_reducible refine And.intro (by first | assumption | rfl | omega | trivial) ?_)
        refine hK18 _ ?_
        refine adops_nil ?_
        refine athen_n ?_
        refine AW.weaken (s' := ⟨fr [(5, .bp 5 0), (7, .bp 7 0), (8, .int .i64 b1.2.2.2.2.2)], hpGet [(5, .box 55 [.int .i64 c.1, .int .i64 0, .int .i64 c.2.2.1, .int .i64 c.2.2.2.1, .int .i64 c.2.2.2.2.1, .int .i64 c.2.2.2.2.2]), (7, .box 64 [.int .i64 b1.2.1, .int .i64 b1.2.2.1, .sl (.sl (.int .i64)) b1.2.2.2.1, .sl (.sl (.int .i64)) b1.2.2.2.2.1]), (1000, .box 95 [.int .i64 ((b1.2.2.2.1.getD b1.2.2.2.2.2.toNat []).getD c.2.2.1.toNat 0), .int .i64 s.1.2, .int .u64 s.2])], gt⟩) (Wk.to (by (simp only [go_sem, hb16, hz17]) <;> (repeat' with_reducible apply And.intro) <;> first | assumption | rfl | omega)) ?_
        exact AW.weaken (Wk.le [] [] [] rfl (by (simp only [go_sem, hb16, hz17]) <;> (repeat' with_reducible apply And.intro) <;> first | assumption | rfl | omega) (by (simp only [go_sem, hb16, hz17]) <;> (repeat' with_reducible apply And.intro) <;> first | assumption | rfl | omega)) (hk_history_states_answer_k2 _ h)
      · rw [if_neg (Bool.eq_false_iff.1 hb16)] at h
        have hz17 : b1.1 = 1 := by have := of_decide_eq_false hb16; omega
        refine adops_cut 2 (fun K' hK19 => ?_)
        try dsimp only [List.drop_succ_cons, List.drop_zero, List.take_succ_cons, List.take_zero]
        simp only [go_sem, hb16, hz17]
        repeat (with_reducible refine And.intro (by first | assumption | rfl | omega | trivial) ?_)
        refine hK19 _ ?_
        refine adops_nil ?_
        refine athen_n ?_
        refine AW.weaken (s' := ⟨fr [(5, .bp 5 0), (7, .bp 7 0), (8, .int .i64 b1.2.2.2.2.2)], hpGet [(5, .box 55 [.int .i64 c.1, .int .i64 1, .int .i64 c.2.2.1, .int .i64 c.2.2.2.1, .int .i64 c.2.2.2.2.1, .int .i64 c.2.2.2.2.2]), (7, .box 64 [.int .i64 b1.2.1, .int .i64 b1.2.2.1, .sl (.sl (.int .i64)) b1.2.2.2.1, .sl (.sl (.int .i64)) b1.2.2.2.2.1]), (1000, .box 95 [.int .i64 s.1.1, .int .i64 ((b1.2.2.2.1.getD b1.2.2.2.2.2.toNat []).getD c.2.2.1.toNat 0), .int .u64 s.2])], gt⟩) (Wk.to (by (simp only [go_sem, hb16, hz17]) <;> (repeat' with_reducible apply And.intro) <;> first | assumption | rfl | omega)) ?_
        exact AW.weaken (Wk.le [] [] [] rfl (by (simp only [go_sem, hb16, hz17]) <;> (repeat' with_reducible apply And.intro) <;> first | assumption | rfl | omega) (by (simp only [go_sem, hb16, hz17]) <;> (repeat' with_reducible apply And.intro) <;> first | assumption | rfl | omega)) (hk_history_states_answer_k2 _ h)
  · refine AW.seq ?_
    refine AW.draw tab_ok mixed_ok [(11, [7]), (12, [7])] [(0, []), (1, [5]), (2, [5]), (3, []), (4, []), (5, [1000]), (6, [5]), (7, [5]), (8, [1000]), (9, [1000, 999999]), (10, [1000]), (100012, [])] (by decide) (by kernel_rfl) ?_
    obtain ⟨c21, h⟩ := ck_some.1 h
    obtain ⟨c22, h⟩ := ck_some.1 h
    refine adops_cut 6 (fun K' hK20 => ?_)
    try dsimp only [List.drop_succ_cons, List.drop_zero, List.take_succ_cons, List.take_zero]
    simp only [go_sem]
    repeat (with_reducible refine And.intro (by first | assumption | rfl | omega | trivial) ?_)
    refine hK20 _ ?_
    obtain ⟨c24, h⟩ := ck_some.1 h
    obtain ⟨c25, h⟩ := ck_some.1 h
    refine adops_cut 3 (fun K' hK23 => ?_)
    try dsimp only [List.drop_succ_cons, List.drop_zero, List.take_succ_cons, List.take_zero]
    simp only [go_sem]
    repeat (with_reducible refine And.intro (by first | assumption | rfl | omega | trivial) ?_)
    refine hK23 _ ?_
    rcases Bool.eq_false_or_eq_true (decide (c.2.1 = 0)) with hb26 | hb26
    · rw [if_pos hb26] at h
      have hz27 : c.2.1 = 0 := by simpa using hb26
      refine adops_cut 5 (fun K' hK28 => ?_)
      try dsimp only [List.drop_succ_cons, List.drop_zero, List.take_succ_cons, List.take_zero]
      simp only [go_sem, hb26, hz27]
      repeat (with_reducible refine And.intro (by first | assumption | rfl | omega | trivial) ?_)
      refine hK28 _ ?_
      refine adops_nil ?_
      refine athen_n ?_
      refine AW.weaken (s' := ⟨fr [(0, .bp 1000 0), (5, .bp 5 0), (7, .bp 7 0), (8, .int .i64 s.1.1)], hpGet [(5, .box 55 [.int .i64 c.1, .int .i64 0, .int .i64 c.2.2.1, .int .i64 c.2.2.2.1, .int .i64 c.2.2.2.2.1, .int .i64 c.2.2.2.2.2]), (7, .box 64 [.int .i64 (specs.getD 0 (0, 0, [], [])).1, .int .i64 (specs.getD 0 (0, 0, [], [])).2.1, .sl (.sl (.int .i64)) (specs.getD 0 (0, 0, [], [])).2.2.1, .sl (.sl (.int .i64)) (specs.getD 0 (0, 0, [], [])).2.2.2]), (1000, .box 95 [.int .i64 s.1.1, .int .i64 s.1.2, .int .u64 s.2])], gt⟩) (Wk.to (by (simp only [go_sem, hb26, hz27]) <;> (repeat' with_reducible apply And.intro) <;> first | assumption | rfl | omega)) ?_
      exact AW.weaken (Wk.le [] [] [] rfl (by (simp only [go_sem, hb26, hz27]) <;> (repeat' with_reducible apply And.intro) <;> first | assumption | rfl | omega) (by (simp only [go_sem, hb26, hz27]) <;> (repeat' with_reducible apply And.intro) <;> first | assumption | rfl | omega)) (hk_history_states_answer_k1 _ h)
    · rw [if_neg (Bool.eq_false_iff.1 hb26)] at h
      have hz27 : c.2.1 = 1 := by have := of_decide_eq_false hb26; omega
      refine adops_cut 5 (fun K' hK29 => ?_)
      try dsimp only [List.drop_succ_cons, List.drop_zero, List.take_succ_cons, List.take_zero]
      simp only [go_sem, hb26, hz27]
      repeat (with_reducible refine And.intro (by first | assumption | rfl | omega | trivial) ?_)
      refine hK29 _ ?_
      refine adops_nil ?_
      refine athen_n ?_
      refine AW.weaken (s' := ⟨fr [(0, .bp 1000 0), (5, .bp 5 0), (7, .bp 7 0), (8, .int .i64 s.1.2)], hpGet [(5, .box 55 [.int .i64 c.1, .int .i64 1, .int .i64 c.2.2.1, .int .i64 c.2.2.2.1, .int .i64 c.2.2.2.2.1, .int .i64 c.2.2.2.2.2]), (7, .box 64 [.int .i64 (specs.getD 1 (0, 0, [], [])).1, .int .i64 (specs.getD 1 (0, 0, [], [])).2.1, .sl (.sl (.int .i64)) (specs.getD 1 (0, 0, [], [])).2.2.1, .sl (.sl (.int .i64)) (specs.getD 1 (0, 0, [], [])).2.2.2]), (1000, .box 95 [.int .i64 s.1.1, .int .i64 s.1.2, .int .u64 s.2])], gt⟩) (Wk.to (by (simp only [go_sem, hb26, hz27]) <;> (repeat' with_reducible apply And.intro) <;> first | assumption | rfl | omega)) ?_
      exact AW.weaken (Wk.le [] [] [] rfl (by (simp only [go_sem, hb26, hz27]) <;> (repeat' with_reducible apply And.intro) <;> first | assumption | rfl | omega) (by (simp only [go_sem, hb26, hz27]) <;> (repeat' with_reducible apply And.intro) <;> first | assumption | rfl | omega)) (hk_history_states_answer_k1 _ h)

set_option maxRecDepth 100000 in
set_option maxHeartbeats 2000000 in
theorem hc_history_states_allow (specs : List (Int × Int × (List (List Int)) × (List (List Int)))) (c : Int × Int × Int × Int × Int × Int) (s : (Int × Int) × Int) {r : Bool × Int × Int} (h : history_states_allow specs c s = some r) : HC Try.prog 117 [(1000, .box 95 [.int .i64 s.1.1, .int .i64 s.1.2, .int .u64 s.2])] [.bp 1000 0, .sl Y0 specs, .agg [.int .i64 c.1, .int .i64 c.2.1, .int .i64 c.2.2.1, .int .i64 c.2.2.2.1, .int .i64 c.2.2.2.2.1, .int .i64 c.2.2.2.2.2]] [(1000, .box 95 [.int .i64 r.2.1, .int .i64 r.2.2, .int .u64 s.2])] (.bool r.1) := by
  unfold history_states_allow at h
  refine HC.of_body tab_ok (res := [.tmp 6]) Try.func117 rfl (by kernel_rfl) rfl (nt := 21) rfl (by decide) (by simp) ?_
  refine AW.seq ?_
  refine AW.ops ?_
  refine AO.allF tab_ok (by decide) [(0, .bp 1000 0), (1, .sl Y0 specs), (5, .bp 5 0)] [(5, .box 55 [.int .i64 c.1, .int .i64 c.2.1, .int .i64 c.2.2.1, .int .i64 c.2.2.2.1, .int .i64 c.2.2.2.2.1, .int .i64 c.2.2.2.2.2]), (1000, .box 95 [.int .i64 s.1.1, .int .i64 s.1.2, .int .u64 s.2])] (by (simp only [go_sem]) <;> (repeat' with_reducible apply And.intro) <;> first | assumption | rfl | omega) ?_
  refine athen_n ?_
  refine AW.seq ?_
  refine AW.ops ?_
  refine AO.segF tab_ok 3 (by decide) [(5, .bp 5 0), (8, .bp 1000 0), (9, .sl Y0 specs), (10, .agg [.int .i64 c.1, .int .i64 c.2.1, .int .i64 c.2.2.1, .int .i64 c.2.2.2.1, .int .i64 c.2.2.2.2.1, .int .i64 c.2.2.2.2.2])] [(5, .box 55 [.int .i64 c.1, .int .i64 c.2.1, .int .i64 c.2.2.1, .int .i64 c.2.2.2.1, .int .i64 c.2.2.2.2.1, .int .i64 c.2.2.2.2.2]), (1000, .box 95 [.int .i64 s.1.1, .int .i64 s.1.2, .int .u64 s.2])] (by (simp only [go_sem]) <;> (repeat' with_reducible apply And.intro) <;> first | assumption | rfl | omega) ?_
  obtain ⟨v0, hv1, h⟩ := Option.bind_eq_some_iff.1 h
  refine AO.call tab_ok (by decide) rfl rfl rfl (fun _ h => h) [] [(1000, 1000)] (hc_history_states_answer specs c s hv1) rfl (by (simp only [go_sem]) <;> (repeat' with_reducible apply And.intro) <;> first | assumption | rfl | omega) (by (simp only [go_sem]) <;> (repeat' with_reducible apply And.intro) <;> first | assumption | rfl | omega) [(5, .bp 5 0), (11, .int .i64 v0.1)] [(5, .box 55 [.int .i64 c.1, .int .i64 c.2.1, .int .i64 c.2.2.1, .int .i64 c.2.2.2.1, .int .i64 c.2.2.2.2.1, .int .i64 c.2.2.2.2.2]), (1000, .box 95 [.int .i64 v0.2.1, .int .i64 v0.2.2, .int .u64 s.2])] (by (simp only [go_sem]) <;> (repeat' with_reducible apply And.intro) <;> first | assumption | rfl | omega) ?_
  refine AO.allF tab_ok (by decide) [(5, .bp 5 0), (7, .int .i64 v0.1)] [(5, .box 55 [.int .i64 c.1, .int .i64 c.2.1, .int .i64 c.2.2.1, .int .i64 c.2.2.2.1, .int .i64 c.2.2.2.2.1, .int .i64 c.2.2.2.2.2]), (1000, .box 95 [.int .i64 v0.2.1, .int .i64 v0.2.2, .int .u64 s.2])] (by (simp only [go_sem]) <;> (repeat' with_reducible apply And.intro) <;> first | assumption | rfl | omega) ?_
  refine athen_n ?_
  refine AW.seq ?_
  refine AW.ops ?_
  refine AO.segF tab_ok 4 (by decide) [(5, .bp 5 0), (7, .int .i64 v0.1), (15, .bool (decide (c.2.2.2.2.2 = 0)))] [(5, .box 55 [.int .i64 c.1, .int .i64 c.2.1, .int .i64 c.2.2.1, .int .i64 c.2.2.2.1, .int .i64 c.2.2.2.2.1, .int .i64 c.2.2.2.2.2]), (1000, .box 95 [.int .i64 v0.2.1, .int .i64 v0.2.2, .int .u64 s.2])] (by (simp only [go_sem]) <;> (repeat' with_reducible apply And.intro) <;> first | assumption | rfl | omega) ?_
  rcases Bool.eq_false_or_eq_true (decide (c.2.2.2.2.2 = 0)) with hb2 | hb2
  · rw [if_pos hb2] at h
    refine AO.weaken (s' := ⟨fr [(5, .bp 5 0), (7, .int .i64 v0.1), (15, .bool true)], hpGet [(5, .box 55 [.int .i64 c.1, .int .i64 c.2.1, .int .i64 c.2.2.1, .int .i64 c.2.2.2.1, .int .i64 c.2.2.2.2.1, .int .i64 c.2.2.2.2.2]), (1000, .box 95 [.int .i64 v0.2.1, .int .i64 v0.2.2, .int .u64 s.2])], gt⟩) (Wk.to (by (simp only [go_sem, hb2]) <;> (repeat' with_reducible apply And.intro) <;> first | assumption | rfl | omega)) ?_
    refine AO.segF tab_ok 4 (by decide) [(15, .bool true), (19, .cv (undef))] [(1000, .box 95 [.int .i64 v0.2.1, .int .i64 v0.2.2, .int .u64 s.2])] (by (simp only [go_sem, hb2]) <;> (repeat' with_reducible apply And.intro) <;> first | assumption | rfl | omega) ?_
    refine AO.allF tab_ok (by decide) [(6, .bool true)] [(1000, .box 95 [.int .i64 v0.2.1, .int .i64 v0.2.2, .int .u64 s.2])] (by (simp only [go_sem, hb2]) <;> (repeat' with_reducible apply And.intro) <;> first | assumption | rfl | omega) ?_
    refine athen_n ?_
    refine AW.ret ?_
    obtain rfl := Option.some.inj h
    exact ⟨rfl, [], [], [], rfl, (by (simp only [go_sem, hb2]) <;> (repeat' with_reducible apply And.intro) <;> first | assumption | rfl | omega)⟩
  · rw [if_neg (Bool.eq_false_iff.1 hb2)] at h
    refine AO.weaken (s' := ⟨fr [(5, .bp 5 0), (7, .int .i64 v0.1), (15, .bool false)], hpGet [(5, .box 55 [.int .i64 c.1, .int .i64 c.2.1, .int .i64 c.2.2.1, .int .i64 c.2.2.2.1, .int .i64 c.2.2.2.2.1, .int .i64 c.2.2.2.2.2]), (1000, .box 95 [.int .i64 v0.2.1, .int .i64 v0.2.2, .int .u64 s.2])], gt⟩) (Wk.to (by (simp only [go_sem, hb2]) <;> (repeat' with_reducible apply And.intro) <;> first | assumption | rfl | omega)) ?_
    refine AO.allF tab_ok (by decide) [(6, .bool (decide (v0.1 = c.2.2.2.1)))] [(1000, .box 95 [.int .i64 v0.2.1, .int .i64 v0.2.2, .int .u64 s.2])] (by (simp only [go_sem, hb2]) <;> (repeat' with_reducible apply And.intro) <;> first | assumption | rfl | omega) ?_
    refine athen_n ?_
    refine AW.ret ?_
    obtain rfl := Option.some.inj h
    exact ⟨rfl, [], [], [], rfl, (by (simp only [go_sem, hb2]) <;> (repeat' with_reducible apply And.intro) <;> first | assumption | rfl | omega)⟩

end Go.Proofs.Ytdkdkpenmgkdcaa
