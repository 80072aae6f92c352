/-
  Made by wip/tool/dc.py out of the print of the program: contracts.
-/
import Derived.Test.YtdkdkpenmgkdcaaHp
import Derived.Test.YtdkdkpenmgkdcaaTbh
import Derived.Test.YtdkdkpenmgkdcaaKfc5
import Derived.Test.YtdkdkpenmgkdcaaKfc7
import Derived.Test.YtdkdkpenmgkdcaaKfc8
namespace Go.Proofs.Ytdkdkpenmgkdcaa
open Go.RowKit

set_option linter.unusedSimpArgs false
set_option linter.unusedVariables false
set_option linter.constructorNameAsVariable false

set_option maxRecDepth 100000 in
set_option maxHeartbeats 2000000 in
theorem hc_lineallaw02_HistoryBegins (specs : List (Int × Int × (List (List Int)) × (List (List Int)))) (h0 : List (Int × Int × Int × Int × Int × Int)) (at0 : Int × Int) {r : Bool} (h : lineallaw02_HistoryBegins specs h0 at0 = some r) : HC Try.prog 13 [] [.sl Y0 specs, .sl Y1 h0, .agg [.int .u8 at0.1, .int .u8 at0.2]] [] (.bool r) := by
  unfold lineallaw02_HistoryBegins at h
  refine HC.of_body tab_ok (res := [.tmp 6]) Try.func13 rfl (by kernel_rfl) rfl (nt := 123) rfl (by decide) (by simp) ?_
  refine AW.seq ?_
  refine AW.ops ?_
  refine AO.allF tab_ok (by decide) [(0, .sl Y0 specs), (1, .sl Y1 h0), (5, .bp 5 0)] [(5, .box 56 [.int .u8 at0.1, .int .u8 at0.2])] (by (simp only [go_sem]) <;> (repeat' with_reducible apply And.intro) <;> first | assumption | rfl | omega) ?_
  refine athen_n ?_
  refine AW.seq ?_
  refine AW.seq ?_
  refine AW.ops ?_
  refine AO.segF tab_ok 1 (by decide) [(0, .sl Y0 specs), (1, .sl Y1 h0), (5, .bp 5 0), (20, .sl Y0 specs)] [(5, .box 56 [.int .u8 at0.1, .int .u8 at0.2])] (by (simp only [go_sem]) <;> (repeat' with_reducible apply And.intro) <;> first | assumption | rfl | omega) ?_
  obtain ⟨v0, hv1, h⟩ := Option.bind_eq_some_iff.1 h
  refine AO.call tab_ok (by decide) rfl rfl rfl (fun _ h => h) [] [] (hc_lineallaw02_Large specs hv1) rfl (by (simp only [go_sem]) <;> (repeat' with_reducible apply And.intro) <;> first | assumption | rfl | omega) (by (simp only [go_sem]) <;> (repeat' with_reducible apply And.intro) <;> first | assumption | rfl | omega) [(0, .sl Y0 specs), (1, .sl Y1 h0), (5, .bp 5 0), (21, .bool v0)] [(5, .box 56 [.int .u8 at0.1, .int .u8 at0.2])] (by (simp only [go_sem]) <;> (repeat' with_reducible apply And.intro) <;> first | assumption | rfl | omega) ?_
  refine AO.segF tab_ok 1 (by decide) [(0, .sl Y0 specs), (1, .sl Y1 h0), (5, .bp 5 0), (22, .bool v0)] [(5, .box 56 [.int .u8 at0.1, .int .u8 at0.2])] (by (simp only [go_sem]) <;> (repeat' with_reducible apply And.intro) <;> first | assumption | rfl | omega) ?_
  rcases Bool.eq_false_or_eq_true v0 with hb2 | hb2
  · rw [if_pos hb2] at h
    refine AO.weaken (s' := ⟨fr [(0, .sl Y0 specs), (1, .sl Y1 h0), (5, .bp 5 0), (22, .bool true)], hpGet [(5, .box 56 [.int .u8 at0.1, .int .u8 at0.2])], gt⟩) (Wk.to (by (simp only [go_sem, hb2]) <;> (repeat' with_reducible apply And.intro) <;> first | assumption | rfl | omega)) ?_
    refine AO.segF tab_ok 6 (by decide) [(0, .sl Y0 specs), (1, .sl Y1 h0), (5, .bp 5 0), (26, .bool true), (27, .cv (undef)), (28, .cv (undef))] [(5, .box 56 [.int .u8 at0.1, .int .u8 at0.2])] (by (simp only [go_sem, hb2]) <;> (repeat' with_reducible apply And.intro) <;> first | assumption | rfl | omega) ?_
    refine AO.allF tab_ok (by decide) [(0, .sl Y0 specs), (1, .sl Y1 h0), (5, .bp 5 0), (31, .bool true)] [(5, .box 56 [.int .u8 at0.1, .int .u8 at0.2])] (by (simp only [go_sem, hb2]) <;> (repeat' with_reducible apply And.intro) <;> first | assumption | rfl | omega) ?_
    refine athen_n ?_
    refine AW.cond (b := true) rfl (fun _ => ?_) (fun hb3 => by cases hb3)
    refine AW.seq ?_
    refine AW.ops ?_
    obtain ⟨v0_2, hv4, h⟩ := Option.bind_eq_some_iff.1 h
    refine AO.call tab_ok (by decide) rfl rfl rfl (fun _ h => h) [] [] (hc_lineallaw02_Sane hv4) rfl (by (simp only [go_sem, hb2]) <;> (repeat' with_reducible apply And.intro) <;> first | assumption | rfl | omega) (by (simp only [go_sem, hb2]) <;> (repeat' with_reducible apply And.intro) <;> first | assumption | rfl | omega) [(32, .bool v0_2)] [] (by (simp only [go_sem, hb2]) <;> (repeat' with_reducible apply And.intro) <;> first | assumption | rfl | omega) ?_
    refine AO.allF tab_ok (by decide) [(6, .bool v0_2)] [] (by (simp only [go_sem, hb2]) <;> (repeat' with_reducible apply And.intro) <;> first | assumption | rfl | omega) ?_
    refine athen_n ?_
    refine AW.ret ?_
    refine athen_r ?_
    obtain rfl := Option.some.inj h
    exact ⟨rfl, [], [], [], rfl, (by (simp only [go_sem, hb2]) <;> (repeat' with_reducible apply And.intro) <;> first | assumption | rfl | omega)⟩
  · rw [if_neg (Bool.eq_false_iff.1 hb2)] at h
    refine AO.weaken (s' := ⟨fr [(0, .sl Y0 specs), (1, .sl Y1 h0), (5, .bp 5 0), (22, .bool false)], hpGet [(5, .box 56 [.int .u8 at0.1, .int .u8 at0.2])], gt⟩) (Wk.to (by (simp only [go_sem, hb2]) <;> (repeat' with_reducible apply And.intro) <;> first | assumption | rfl | omega)) ?_
    refine AO.segF tab_ok 1 (by decide) [(0, .sl Y0 specs), (1, .sl Y1 h0), (5, .bp 5 0), (22, .bool false), (23, .sl Y1 h0)] [(5, .box 56 [.int .u8 at0.1, .int .u8 at0.2])] (by (simp only [go_sem, hb2]) <;> (repeat' with_reducible apply And.intro) <;> first | assumption | rfl | omega) ?_
    obtain ⟨v0_3, hv5, h⟩ := Option.bind_eq_some_iff.1 h
    refine AO.call tab_ok (by decide) rfl rfl rfl (fun _ h => ⟨fun _ => h, fun hn => absurd rfl hn⟩) [] [] (hc_lineallaw02_Long h0 hv5) rfl (by (simp only [go_sem, hb2]) <;> (repeat' with_reducible apply And.intro) <;> first | assumption | rfl | omega) (by (simp only [go_sem, hb2]) <;> (repeat' with_reducible apply And.intro) <;> first | assumption | rfl | omega) [(0, .sl Y0 specs), (1, .sl Y1 h0), (5, .bp 5 0), (22, .bool false), (24, .bool (decide (40 < (h0.length : Int))))] [(5, .box 56 [.int .u8 at0.1, .int .u8 at0.2])] (by (simp only [go_sem, hb2]) <;> (repeat' with_reducible apply And.intro) <;> first | assumption | rfl | omega) ?_
    refine AO.segF tab_ok 2 (by decide) [(0, .sl Y0 specs), (1, .sl Y1 h0), (5, .bp 5 0), (26, .bool (decide (40 < (h0.length : Int))))] [(5, .box 56 [.int .u8 at0.1, .int .u8 at0.2])] (by (simp only [go_sem, hb2]) <;> (repeat' with_reducible apply And.intro) <;> first | assumption | rfl | omega) ?_
    rcases Bool.eq_false_or_eq_true (decide (40 < (h0.length : Int))) with hb6 | hb6
    · rw [if_pos hb6] at h
      refine AO.weaken (s' := ⟨fr [(0, .sl Y0 specs), (1, .sl Y1 h0), (5, .bp 5 0), (26, .bool true)], hpGet [(5, .box 56 [.int .u8 at0.1, .int .u8 at0.2])], gt⟩) (Wk.to (by (simp only [go_sem, hb2, hb6]) <;> (repeat' with_reducible apply And.intro) <;> first | assumption | rfl | omega)) ?_
      refine AO.segF tab_ok 4 (by decide) [(0, .sl Y0 specs), (1, .sl Y1 h0), (5, .bp 5 0), (26, .bool true), (30, .cv (undef))] [(5, .box 56 [.int .u8 at0.1, .int .u8 at0.2])] (by (simp only [go_sem, hb2, hb6]) <;> (repeat' with_reducible apply And.intro) <;> first | assumption | rfl | omega) ?_
      refine AO.allF tab_ok (by decide) [(0, .sl Y0 specs), (1, .sl Y1 h0), (5, .bp 5 0), (31, .bool true)] [(5, .box 56 [.int .u8 at0.1, .int .u8 at0.2])] (by (simp only [go_sem, hb2, hb6]) <;> (repeat' with_reducible apply And.intro) <;> first | assumption | rfl | omega) ?_
      refine athen_n ?_
      refine AW.cond (b := true) rfl (fun _ => ?_) (fun hb7 => by cases hb7)
      refine AW.seq ?_
      refine AW.ops ?_
      obtain ⟨v0_4, hv8, h⟩ := Option.bind_eq_some_iff.1 h
      refine AO.call tab_ok (by decide) rfl rfl rfl (fun _ h => h) [] [] (hc_lineallaw02_Sane hv8) rfl (by (simp only [go_sem, hb2, hb6]) <;> (repeat' with_reducible apply And.intro) <;> first | assumption | rfl | omega) (by (simp only [go_sem, hb2, hb6]) <;> (repeat' with_reducible apply And.intro) <;> first | assumption | rfl | omega) [(32, .bool v0_4)] [] (by (simp only [go_sem, hb2, hb6]) <;> (repeat' with_reducible apply And.intro) <;> first | assumption | rfl | omega) ?_
      refine AO.allF tab_ok (by decide) [(6, .bool v0_4)] [] (by (simp only [go_sem, hb2, hb6]) <;> (repeat' with_reducible apply And.intro) <;> first | assumption | rfl | omega) ?_
      refine athen_n ?_
      refine AW.ret ?_
      refine athen_r ?_
      obtain rfl := Option.some.inj h
      exact ⟨rfl, [], [], [], rfl, (by (simp only [go_sem, hb2, hb6]) <;> (repeat' with_reducible apply And.intro) <;> first | assumption | rfl | omega)⟩
    · rw [if_neg (Bool.eq_false_iff.1 hb6)] at h
      refine AO.weaken (s' := ⟨fr [(0, .sl Y0 specs), (1, .sl Y1 h0), (5, .bp 5 0), (26, .bool false)], hpGet [(5, .box 56 [.int .u8 at0.1, .int .u8 at0.2])], gt⟩) (Wk.to (by (simp only [go_sem, hb2, hb6]) <;> (repeat' with_reducible apply And.intro) <;> first | assumption | rfl | omega)) ?_
      refine AO.segF tab_ok 2 (by decide) [(0, .sl Y0 specs), (1, .sl Y1 h0), (5, .bp 5 0), (26, .bool false), (27, .sl Y0 specs), (28, .sl Y1 h0)] [(5, .box 56 [.int .u8 at0.1, .int .u8 at0.2])] (by (simp only [go_sem, hb2, hb6]) <;> (repeat' with_reducible apply And.intro) <;> first | assumption | rfl | omega) ?_
      obtain ⟨v0_5, hv9, h⟩ := Option.bind_eq_some_iff.1 h
      refine AO.call tab_ok (by decide) rfl rfl rfl (fun _ h => ⟨fun _ => h, fun hn => absurd rfl hn⟩) [] [] (hc_lineallaw02_isFor specs h0 hv9) rfl (by (simp only [go_sem, hb2, hb6]) <;> (repeat' with_reducible apply And.intro) <;> first | assumption | rfl | omega) (by (simp only [go_sem, hb2, hb6]) <;> (repeat' with_reducible apply And.intro) <;> first | assumption | rfl | omega) [(0, .sl Y0 specs), (1, .sl Y1 h0), (5, .bp 5 0), (26, .bool false), (29, .bool v0_5)] [(5, .box 56 [.int .u8 at0.1, .int .u8 at0.2])] (by (simp only [go_sem, hb2, hb6]) <;> (repeat' with_reducible apply And.intro) <;> first | assumption | rfl | omega) ?_
      refine AO.allF tab_ok (by decide) [(0, .sl Y0 specs), (1, .sl Y1 h0), (5, .bp 5 0), (31, .bool (!v0_5))] [(5, .box 56 [.int .u8 at0.1, .int .u8 at0.2])] (by (simp only [go_sem, hb2, hb6]) <;> (repeat' with_reducible apply And.intro) <;> first | assumption | rfl | omega) ?_
      refine athen_n ?_
      refine AW.cond (b := (!v0_5)) rfl (fun hb10 => ?_) (fun hb10 => ?_)
      · rw [if_pos hb10] at h
        refine AW.seq ?_
        refine AW.ops ?_
        obtain ⟨v0_6, hv11, h⟩ := Option.bind_eq_some_iff.1 h
        refine AO.call tab_ok (by decide) rfl rfl rfl (fun _ h => h) [] [] (hc_lineallaw02_Sane hv11) rfl (by (simp only [go_sem, hb2, hb6, hb10]) <;> (repeat' with_reducible apply And.intro) <;> first | assumption | rfl | omega) (by (simp only [go_sem, hb2, hb6, hb10]) <;> (repeat' with_reducible apply And.intro) <;> first | assumption | rfl | omega) [(32, .bool v0_6)] [] (by (simp only [go_sem, hb2, hb6, hb10]) <;> (repeat' with_reducible apply And.intro) <;> first | assumption | rfl | omega) ?_
        refine AO.allF tab_ok (by decide) [(6, .bool v0_6)] [] (by (simp only [go_sem, hb2, hb6, hb10]) <;> (repeat' with_reducible apply And.intro) <;> first | assumption | rfl | omega) ?_
        refine athen_n ?_
        refine AW.ret ?_
        refine athen_r ?_
        obtain rfl := Option.some.inj h
        exact ⟨rfl, [], [], [], rfl, (by (simp only [go_sem, hb2, hb6, hb10]) <;> (repeat' with_reducible apply And.intro) <;> first | assumption | rfl | omega)⟩
      · rw [if_neg (Bool.eq_false_iff.1 hb10)] at h
        refine AW.skip ?_
        refine athen_n ?_
        refine AW.seq ?_
        refine AW.draw tab_ok mixed_ok [] [] (by decide) (by kernel_rfl) ?_
        obtain ⟨c13, h⟩ := ck_some.1 h
        obtain ⟨c14, h⟩ := ck_some.1 h
        refine adops_cut 6 (fun K' hK12 => ?_)
        try dsimp only [List.drop_succ_cons, List.drop_zero, List.take_succ_cons, List.take_zero]
        simp only [go_sem, hb2, hb6, hb10]
        repeat (with_reducible refine And.intro (by first | assumption | rfl | omega | trivial) ?_)
        refine hK12 _ ?_
        obtain ⟨c16, h⟩ := ck_some.1 h
        obtain ⟨c17, h⟩ := ck_some.1 h
        refine adops_cut 4 (fun K' hK15 => ?_)
        try dsimp only [List.drop_succ_cons, List.drop_zero, List.take_succ_cons, List.take_zero]
        simp only [go_sem, hb2, hb6, hb10]
        repeat (with_reducible refine And.intro (by first | assumption | rfl | omega | trivial) ?_)
        refine hK15 _ ?_
        refine adops_nil ?_
        refine athen_n ?_
        refine AW.weaken (s' := ⟨fr [(0, .sl Y0 specs), (1, .sl Y1 h0), (7, .int .i64 (at0.1 % 101)), (8, .int .i64 (at0.2 % 101))], hpGet [], gt⟩) (Wk.to (by (simp only [go_sem, hb2, hb6, hb10]) <;> (repeat' with_reducible apply And.intro) <;> first | assumption | rfl | omega)) ?_
        refine AW.seq ?_
        refine AW.ops ?_
        refine AO.allF tab_ok (by decide) [(0, .sl Y0 specs), (1, .sl Y1 h0), (9, .int .i64 (min (at0.1 % 101) (at0.2 % 101))), (10, .int .i64 (max (at0.1 % 101) (at0.2 % 101)))] [] (by (simp only [go_sem, hb2, hb6, hb10]) <;> (repeat' with_reducible apply And.intro) <;> first | assumption | rfl | omega) ?_
        refine athen_n ?_
        refine AW.seq ?_
        refine AW.ops ?_
        refine AO.segF tab_ok 2 (by decide) [(0, .sl Y0 specs), (1, .sl Y1 h0), (9, .int .i64 (min (at0.1 % 101) (at0.2 % 101))), (48, .sl Y1 h0), (49, .int .i64 (max (at0.1 % 101) (at0.2 % 101)))] [] (by (simp only [go_sem, hb2, hb6, hb10]) <;> (repeat' with_reducible apply And.intro) <;> first | assumption | rfl | omega) ?_
        obtain ⟨v0_7, hv18, h⟩ := Option.bind_eq_some_iff.1 h
        refine AO.call tab_ok (by decide) rfl rfl rfl (fun _ h => h) [] [] (hc_history_Until h0 (max (at0.1 % 101) (at0.2 % 101)) hv18) rfl (by (simp only [go_sem, hb2, hb6, hb10]) <;> (repeat' with_reducible apply And.intro) <;> first | assumption | rfl | omega) (by (simp only [go_sem, hb2, hb6, hb10]) <;> (repeat' with_reducible apply And.intro) <;> first | assumption | rfl | omega) [(0, .sl Y0 specs), (1, .sl Y1 h0), (9, .int .i64 (min (at0.1 % 101) (at0.2 % 101))), (50, .tup [.own 60000, .int .i64 v0_7.2])] [(60000, .arr 55 Y1 v0_7.1)] (by (simp only [go_sem, hb2, hb6, hb10]) <;> (repeat' with_reducible apply And.intro) <;> first | assumption | rfl | omega) ?_
        refine AO.allF tab_ok (by decide) [(0, .sl Y0 specs), (1, .sl Y1 h0), (9, .int .i64 (min (at0.1 % 101) (at0.2 % 101))), (11, .own 60000), (12, .int .i64 v0_7.2)] [(60000, .arr 55 Y1 v0_7.1)] (by (simp only [go_sem, hb2, hb6, hb10]) <;> (repeat' with_reducible apply And.intro) <;> first | assumption | rfl | omega) ?_
        refine athen_n ?_
        refine AW.seq ?_
        refine AW.ops ?_
        refine AO.segF tab_ok 2 (by decide) [(0, .sl Y0 specs), (1, .sl Y1 h0), (9, .int .i64 (min (at0.1 % 101) (at0.2 % 101))), (11, .own 60000), (12, .int .i64 v0_7.2), (54, .sl Y1 h0), (55, .int .i64 (min (at0.1 % 101) (at0.2 % 101)))] [(60000, .arr 55 Y1 v0_7.1)] (by (simp only [go_sem, hb2, hb6, hb10]) <;> (repeat' with_reducible apply And.intro) <;> first | assumption | rfl | omega) ?_
        obtain ⟨v0_8, hv19, h⟩ := Option.bind_eq_some_iff.1 h
        refine AO.call tab_ok (by decide) rfl rfl rfl (fun _ h => h) [] [] (hc_history_Until h0 (min (at0.1 % 101) (at0.2 % 101)) hv19) rfl (by (simp only [go_sem, hb2, hb6, hb10]) <;> (repeat' with_reducible apply And.intro) <;> first | assumption | rfl | omega) (by (simp only [go_sem, hb2, hb6, hb10]) <;> (repeat' with_reducible apply And.intro) <;> first | assumption | rfl | omega) [(0, .sl Y0 specs), (1, .sl Y1 h0), (9, .int .i64 (min (at0.1 % 101) (at0.2 % 101))), (11, .own 60000), (12, .int .i64 v0_7.2), (56, .tup [.own 66000, .int .i64 v0_8.2])] [(60000, .arr 55 Y1 v0_7.1), (66000, .arr 55 Y1 v0_8.1)] (by (simp only [go_sem, hb2, hb6, hb10]) <;> (repeat' with_reducible apply And.intro) <;> first | assumption | rfl | omega) ?_
        refine AO.allF tab_ok (by decide) [(0, .sl Y0 specs), (1, .sl Y1 h0), (9, .int .i64 (min (at0.1 % 101) (at0.2 % 101))), (11, .own 60000), (12, .int .i64 v0_7.2), (13, .own 66000), (14, .int .i64 v0_8.2)] [(60000, .arr 55 Y1 v0_7.1), (66000, .arr 55 Y1 v0_8.1)] (by (simp only [go_sem, hb2, hb6, hb10]) <;> (repeat' with_reducible apply And.intro) <;> first | assumption | rfl | omega) ?_
        refine athen_n ?_
        refine AW.seq ?_
        refine AW.ops ?_
        refine AO.segF tab_ok 2 (by decide) [(0, .sl Y0 specs), (1, .sl Y1 h0), (11, .own 60000), (12, .int .i64 v0_7.2), (13, .own 66000), (14, .int .i64 v0_8.2), (60, .own 60000), (61, .int .i64 (min (at0.1 % 101) (at0.2 % 101)))] [(60000, .arr 55 Y1 v0_7.1), (66000, .arr 55 Y1 v0_8.1)] (by (simp only [go_sem, hb2, hb6, hb10]) <;> (repeat' with_reducible apply And.intro) <;> first | assumption | rfl | omega) ?_
        obtain ⟨v0_9, hv20, h⟩ := Option.bind_eq_some_iff.1 h
        refine AO.call tab_ok (by decide) rfl rfl rfl (fun _ h => h) [60000] [] (hc_history_Until v0_7.1 (min (at0.1 % 101) (at0.2 % 101)) hv20) rfl (by (simp only [go_sem, hb2, hb6, hb10]) <;> (repeat' with_reducible apply And.intro) <;> first | assumption | rfl | omega) (by (simp only [go_sem, hb2, hb6, hb10]) <;> (repeat' with_reducible apply And.intro) <;> first | assumption | rfl | omega) [(0, .sl Y0 specs), (1, .sl Y1 h0), (11, .own 60000), (12, .int .i64 v0_7.2), (13, .own 66000), (14, .int .i64 v0_8.2), (62, .tup [.own 72000, .int .i64 v0_9.2])] [(60000, .arr 55 Y1 v0_7.1), (66000, .arr 55 Y1 v0_8.1), (72000, .arr 55 Y1 v0_9.1)] (by (simp only [go_sem, hb2, hb6, hb10]) <;> (repeat' with_reducible apply And.intro) <;> first | assumption | rfl | omega) ?_
        refine AO.allF tab_ok (by decide) [(0, .sl Y0 specs), (1, .sl Y1 h0), (11, .own 60000), (12, .int .i64 v0_7.2), (13, .own 66000), (14, .int .i64 v0_8.2), (15, .own 72000), (16, .int .i64 v0_9.2)] [(60000, .arr 55 Y1 v0_7.1), (66000, .arr 55 Y1 v0_8.1), (72000, .arr 55 Y1 v0_9.1)] (by (simp only [go_sem, hb2, hb6, hb10]) <;> (repeat' with_reducible apply And.intro) <;> first | assumption | rfl | omega) ?_
        refine athen_n ?_
        refine AW.seq ?_
        refine AW.seq ?_
        refine AW.ops ?_
        refine AO.segF tab_ok 3 (by decide) [(0, .sl Y0 specs), (1, .sl Y1 h0), (11, .own 60000), (13, .own 66000), (14, .int .i64 v0_8.2), (15, .own 72000), (16, .int .i64 v0_9.2), (67, .bool (!(decide (v0_7.2 = 0))))] [(60000, .arr 55 Y1 v0_7.1), (66000, .arr 55 Y1 v0_8.1), (72000, .arr 55 Y1 v0_9.1)] (by (simp only [go_sem, hb2, hb6, hb10]) <;> (repeat' with_reducible apply And.intro) <;> first | assumption | rfl | omega) ?_
        rcases Bool.eq_false_or_eq_true (!(decide (v0_7.2 = 0))) with hb21 | hb21
        · rw [if_pos hb21] at h
          refine AO.weaken (s' := ⟨fr [(0, .sl Y0 specs), (1, .sl Y1 h0), (11, .own 60000), (13, .own 66000), (14, .int .i64 v0_8.2), (15, .own 72000), (16, .int .i64 v0_9.2), (67, .bool true)], hpGet [(60000, .arr 55 Y1 v0_7.1), (66000, .arr 55 Y1 v0_8.1), (72000, .arr 55 Y1 v0_9.1)], gt⟩) (Wk.to (by (simp only [go_sem, hb2, hb6, hb10, hb21]) <;> (repeat' with_reducible apply And.intro) <;> first | assumption | rfl | omega)) ?_
          refine AO.segF tab_ok 6 (by decide) [(0, .sl Y0 specs), (1, .sl Y1 h0), (11, .own 60000), (13, .own 66000), (15, .own 72000), (71, .bool true), (73, .cv (undef))] [(60000, .arr 55 Y1 v0_7.1), (66000, .arr 55 Y1 v0_8.1), (72000, .arr 55 Y1 v0_9.1)] (by (simp only [go_sem, hb2, hb6, hb10, hb21]) <;> (repeat' with_reducible apply And.intro) <;> first | assumption | rfl | omega) ?_
          refine AO.segF tab_ok 6 (by decide) [(0, .sl Y0 specs), (1, .sl Y1 h0), (11, .own 60000), (75, .bool true), (79, .cv (undef))] [(60000, .arr 55 Y1 v0_7.1)] (by (simp only [go_sem, hb2, hb6, hb10, hb21]) <;> (repeat' with_reducible apply And.intro) <;> first | assumption | rfl | omega) ?_
          refine AO.allF tab_ok (by decide) [(0, .sl Y0 specs), (1, .sl Y1 h0), (11, .own 60000), (80, .bool true)] [(60000, .arr 55 Y1 v0_7.1)] (by (simp only [go_sem, hb2, hb6, hb10, hb21]) <;> (repeat' with_reducible apply And.intro) <;> first | assumption | rfl | omega) ?_
          refine athen_n ?_
          refine AW.cond (b := true) rfl (fun _ => ?_) (fun hb22 => by cases hb22)
          refine AW.seq ?_
          refine AW.ops ?_
          refine AO.allF tab_ok (by decide) [(6, .bool false)] [] (by (simp only [go_sem, hb2, hb6, hb10, hb21]) <;> (repeat' with_reducible apply And.intro) <;> first | assumption | rfl | omega) ?_
          refine athen_n ?_
          refine AW.ret ?_
          refine athen_r ?_
          obtain rfl := Option.some.inj h
          exact ⟨rfl, [], [], [], rfl, (by (simp only [go_sem, hb2, hb6, hb10, hb21]) <;> (repeat' with_reducible apply And.intro) <;> first | assumption | rfl | omega)⟩
        · rw [if_neg (Bool.eq_false_iff.1 hb21)] at h
          refine AO.weaken (s' := ⟨fr [(0, .sl Y0 specs), (1, .sl Y1 h0), (11, .own 60000), (13, .own 66000), (14, .int .i64 v0_8.2), (15, .own 72000), (16, .int .i64 v0_9.2), (67, .bool false)], hpGet [(60000, .arr 55 Y1 v0_7.1), (66000, .arr 55 Y1 v0_8.1), (72000, .arr 55 Y1 v0_9.1)], gt⟩) (Wk.to (by (simp only [go_sem, hb2, hb6, hb10, hb21]) <;> (repeat' with_reducible apply And.intro) <;> first | assumption | rfl | omega)) ?_
          refine AO.segF tab_ok 4 (by decide) [(0, .sl Y0 specs), (1, .sl Y1 h0), (11, .own 60000), (13, .own 66000), (15, .own 72000), (16, .int .i64 v0_9.2), (71, .bool (!(decide (v0_8.2 = 0))))] [(60000, .arr 55 Y1 v0_7.1), (66000, .arr 55 Y1 v0_8.1), (72000, .arr 55 Y1 v0_9.1)] (by (simp only [go_sem, hb2, hb6, hb10, hb21]) <;> (repeat' with_reducible apply And.intro) <;> first | assumption | rfl | omega) ?_
          rcases Bool.eq_false_or_eq_true (!(decide (v0_8.2 = 0))) with hb23 | hb23
          · rw [if_pos hb23] at h
            refine AO.weaken (s' := ⟨fr [(0, .sl Y0 specs), (1, .sl Y1 h0), (11, .own 60000), (13, .own 66000), (15, .own 72000), (16, .int .i64 v0_9.2), (71, .bool true)], hpGet [(60000, .arr 55 Y1 v0_7.1), (66000, .arr 55 Y1 v0_8.1), (72000, .arr 55 Y1 v0_9.1)], gt⟩) (Wk.to (by (simp only [go_sem, hb2, hb6, hb10, hb21, hb23]) <;> (repeat' with_reducible apply And.intro) <;> first | assumption | rfl | omega)) ?_
            refine AO.segF tab_ok 6 (by decide) [(0, .sl Y0 specs), (1, .sl Y1 h0), (11, .own 60000), (75, .bool true), (76, .cv (undef)), (77, .cv (undef))] [(60000, .arr 55 Y1 v0_7.1)] (by (simp only [go_sem, hb2, hb6, hb10, hb21, hb23]) <;> (repeat' with_reducible apply And.intro) <;> first | assumption | rfl | omega) ?_
            refine AO.allF tab_ok (by decide) [(0, .sl Y0 specs), (1, .sl Y1 h0), (11, .own 60000), (80, .bool true)] [(60000, .arr 55 Y1 v0_7.1)] (by (simp only [go_sem, hb2, hb6, hb10, hb21, hb23]) <;> (repeat' with_reducible apply And.intro) <;> first | assumption | rfl | omega) ?_
            refine athen_n ?_
            refine AW.cond (b := true) rfl (fun _ => ?_) (fun hb24 => by cases hb24)
            refine AW.seq ?_
            refine AW.ops ?_
            refine AO.allF tab_ok (by decide) [(6, .bool false)] [] (by (simp only [go_sem, hb2, hb6, hb10, hb21, hb23]) <;> (repeat' with_reducible apply And.intro) <;> first | assumption | rfl | omega) ?_
            refine athen_n ?_
            refine AW.ret ?_
            refine athen_r ?_
            obtain rfl := Option.some.inj h
            exact ⟨rfl, [], [], [], rfl, (by (simp only [go_sem, hb2, hb6, hb10, hb21, hb23]) <;> (repeat' with_reducible apply And.intro) <;> first | assumption | rfl | omega)⟩
          · rw [if_neg (Bool.eq_false_iff.1 hb23)] at h
            refine AO.weaken (s' := ⟨fr [(0, .sl Y0 specs), (1, .sl Y1 h0), (11, .own 60000), (13, .own 66000), (15, .own 72000), (16, .int .i64 v0_9.2), (71, .bool false)], hpGet [(60000, .arr 55 Y1 v0_7.1), (66000, .arr 55 Y1 v0_8.1), (72000, .arr 55 Y1 v0_9.1)], gt⟩) (Wk.to (by (simp only [go_sem, hb2, hb6, hb10, hb21, hb23]) <;> (repeat' with_reducible apply And.intro) <;> first | assumption | rfl | omega)) ?_
            refine AO.segF tab_ok 4 (by decide) [(0, .sl Y0 specs), (1, .sl Y1 h0), (11, .own 60000), (13, .own 66000), (15, .own 72000), (75, .bool (!(decide (v0_9.2 = 0))))] [(60000, .arr 55 Y1 v0_7.1), (66000, .arr 55 Y1 v0_8.1), (72000, .arr 55 Y1 v0_9.1)] (by (simp only [go_sem, hb2, hb6, hb10, hb21, hb23]) <;> (repeat' with_reducible apply And.intro) <;> first | assumption | rfl | omega) ?_
            rcases Bool.eq_false_or_eq_true (!(decide (v0_9.2 = 0))) with hb25 | hb25
            · rw [if_pos hb25] at h
              refine AO.weaken (s' := ⟨fr [(0, .sl Y0 specs), (1, .sl Y1 h0), (11, .own 60000), (13, .own 66000), (15, .own 72000), (75, .bool true)], hpGet [(60000, .arr 55 Y1 v0_7.1), (66000, .arr 55 Y1 v0_8.1), (72000, .arr 55 Y1 v0_9.1)], gt⟩) (Wk.to (by (simp only [go_sem, hb2, hb6, hb10, hb21, hb23, hb25]) <;> (repeat' with_reducible apply And.intro) <;> first | assumption | rfl | omega)) ?_
              refine AO.segF tab_ok 4 (by decide) [(0, .sl Y0 specs), (1, .sl Y1 h0), (11, .own 60000), (75, .bool true), (79, .cv (undef))] [(60000, .arr 55 Y1 v0_7.1)] (by (simp only [go_sem, hb2, hb6, hb10, hb21, hb23, hb25]) <;> (repeat' with_reducible apply And.intro) <;> first | assumption | rfl | omega) ?_
              refine AO.allF tab_ok (by decide) [(0, .sl Y0 specs), (1, .sl Y1 h0), (11, .own 60000), (80, .bool true)] [(60000, .arr 55 Y1 v0_7.1)] (by (simp only [go_sem, hb2, hb6, hb10, hb21, hb23, hb25]) <;> (repeat' with_reducible apply And.intro) <;> first | assumption | rfl | omega) ?_
              refine athen_n ?_
              refine AW.cond (b := true) rfl (fun _ => ?_) (fun hb26 => by cases hb26)
              refine AW.seq ?_
              refine AW.ops ?_
              refine AO.allF tab_ok (by decide) [(6, .bool false)] [] (by (simp only [go_sem, hb2, hb6, hb10, hb21, hb23, hb25]) <;> (repeat' with_reducible apply And.intro) <;> first | assumption | rfl | omega) ?_
              refine athen_n ?_
              refine AW.ret ?_
              refine athen_r ?_
              obtain rfl := Option.some.inj h
              exact ⟨rfl, [], [], [], rfl, (by (simp only [go_sem, hb2, hb6, hb10, hb21, hb23, hb25]) <;> (repeat' with_reducible apply And.intro) <;> first | assumption | rfl | omega)⟩
            · rw [if_neg (Bool.eq_false_iff.1 hb25)] at h
              refine AO.weaken (s' := ⟨fr [(0, .sl Y0 specs), (1, .sl Y1 h0), (11, .own 60000), (13, .own 66000), (15, .own 72000), (75, .bool false)], hpGet [(60000, .arr 55 Y1 v0_7.1), (66000, .arr 55 Y1 v0_8.1), (72000, .arr 55 Y1 v0_9.1)], gt⟩) (Wk.to (by (simp only [go_sem, hb2, hb6, hb10, hb21, hb23, hb25]) <;> (repeat' with_reducible apply And.intro) <;> first | assumption | rfl | omega)) ?_
              refine AO.segF tab_ok 2 (by decide) [(0, .sl Y0 specs), (1, .sl Y1 h0), (11, .own 60000), (75, .bool false), (76, .own 66000), (77, .own 72000)] [(60000, .arr 55 Y1 v0_7.1), (66000, .arr 55 Y1 v0_8.1), (72000, .arr 55 Y1 v0_9.1)] (by (simp only [go_sem, hb2, hb6, hb10, hb21, hb23, hb25]) <;> (repeat' with_reducible apply And.intro) <;> first | assumption | rfl | omega) ?_
              obtain ⟨v0_10, hv27, h⟩ := Option.bind_eq_some_iff.1 h
              refine AO.call tab_ok (by decide) rfl rfl rfl (fun _ h => ⟨fun _ => h, fun hn => absurd rfl hn⟩) [66000, 72000] [] (hc_linealref02_Same v0_8.1 v0_9.1 hv27) rfl (by (simp only [go_sem, hb2, hb6, hb10, hb21, hb23, hb25]) <;> (repeat' with_reducible apply And.intro) <;> first | assumption | rfl | omega) (by (simp only [go_sem, hb2, hb6, hb10, hb21, hb23, hb25]) <;> (repeat' with_reducible apply And.intro) <;> first | assumption | rfl | omega) [(0, .sl Y0 specs), (1, .sl Y1 h0), (11, .own 60000), (75, .bool false), (78, .bool v0_10)] [(60000, .arr 55 Y1 v0_7.1)] (by (simp only [go_sem, hb2, hb6, hb10, hb21, hb23, hb25]) <;> (repeat' with_reducible apply And.intro) <;> first | assumption | rfl | omega) ?_
              refine AO.allF tab_ok (by decide) [(0, .sl Y0 specs), (1, .sl Y1 h0), (11, .own 60000), (80, .bool (!v0_10))] [(60000, .arr 55 Y1 v0_7.1)] (by (simp only [go_sem, hb2, hb6, hb10, hb21, hb23, hb25]) <;> (repeat' with_reducible apply And.intro) <;> first | assumption | rfl | omega) ?_
              refine athen_n ?_
              refine AW.cond (b := (!v0_10)) rfl (fun hb28 => ?_) (fun hb28 => ?_)
              · rw [if_pos hb28] at h
                refine AW.seq ?_
                refine AW.ops ?_
                refine AO.allF tab_ok (by decide) [(6, .bool false)] [] (by (simp only [go_sem, hb2, hb6, hb10, hb21, hb23, hb25, hb28]) <;> (repeat' with_reducible apply And.intro) <;> first | assumption | rfl | omega) ?_
                refine athen_n ?_
                refine AW.ret ?_
                refine athen_r ?_
                obtain rfl := Option.some.inj h
                exact ⟨rfl, [], [], [], rfl, (by (simp only [go_sem, hb2, hb6, hb10, hb21, hb23, hb25, hb28]) <;> (repeat' with_reducible apply And.intro) <;> first | assumption | rfl | omega)⟩
              · rw [if_neg (Bool.eq_false_iff.1 hb28)] at h
                refine AW.skip ?_
                refine athen_n ?_
                refine AW.seq ?_
                refine AW.ops ?_
                refine AO.segF tab_ok 2 (by decide) [(0, .sl Y0 specs), (1, .sl Y1 h0), (11, .own 60000), (82, .sl Y0 specs), (83, .sl Y1 h0)] [(60000, .arr 55 Y1 v0_7.1)] (by (simp only [go_sem, hb2, hb6, hb10, hb21, hb23, hb25, hb28]) <;> (repeat' with_reducible apply And.intro) <;> first | assumption | rfl | omega) ?_
                obtain ⟨v0_11, hv29, h⟩ := Option.bind_eq_some_iff.1 h
                refine AO.call tab_ok (by decide) rfl rfl rfl (fun _ h => h) [] [] (hc_history_Linear specs h0 hv29) rfl (by (simp only [go_sem, hb2, hb6, hb10, hb21, hb23, hb25, hb28]) <;> (repeat' with_reducible apply And.intro) <;> first | assumption | rfl | omega) (by (simp only [go_sem, hb2, hb6, hb10, hb21, hb23, hb25, hb28]) <;> (repeat' with_reducible apply And.intro) <;> first | assumption | rfl | omega) [(0, .sl Y0 specs), (1, .sl Y1 h0), (11, .own 60000), (84, .tup [.bool v0_11.1, .int .i64 v0_11.2])] [(60000, .arr 55 Y1 v0_7.1)] (by (simp only [go_sem, hb2, hb6, hb10, hb21, hb23, hb25, hb28]) <;> (repeat' with_reducible apply And.intro) <;> first | assumption | rfl | omega) ?_
                refine AO.allF tab_ok (by decide) [(0, .sl Y0 specs), (1, .sl Y1 h0), (11, .own 60000), (12, .int .i64 v0_11.2), (17, .bool v0_11.1)] [(60000, .arr 55 Y1 v0_7.1)] (by (simp only [go_sem, hb2, hb6, hb10, hb21, hb23, hb25, hb28]) <;> (repeat' with_reducible apply And.intro) <;> first | assumption | rfl | omega) ?_
                refine athen_n ?_
                refine AW.seq ?_
                refine AW.ops ?_
                refine AO.segF tab_ok 2 (by decide) [(1, .sl Y1 h0), (12, .int .i64 v0_11.2), (17, .bool v0_11.1), (88, .sl Y0 specs), (89, .own 60000)] [(60000, .arr 55 Y1 v0_7.1)] (by (simp only [go_sem, hb2, hb6, hb10, hb21, hb23, hb25, hb28]) <;> (repeat' with_reducible apply And.intro) <;> first | assumption | rfl | omega) ?_
                obtain ⟨v0_12, hv30, h⟩ := Option.bind_eq_some_iff.1 h
                refine AO.call tab_ok (by decide) rfl rfl rfl (fun _ h => h) [60000] [] (hc_history_Linear specs v0_7.1 hv30) rfl (by (simp only [go_sem, hb2, hb6, hb10, hb21, hb23, hb25, hb28]) <;> (repeat' with_reducible apply And.intro) <;> first | assumption | rfl | omega) (by (simp only [go_sem, hb2, hb6, hb10, hb21, hb23, hb25, hb28]) <;> (repeat' with_reducible apply And.intro) <;> first | assumption | rfl | omega) [(1, .sl Y1 h0), (12, .int .i64 v0_11.2), (17, .bool v0_11.1), (90, .tup [.bool v0_12.1, .int .i64 v0_12.2])] [] (by (simp only [go_sem, hb2, hb6, hb10, hb21, hb23, hb25, hb28]) <;> (repeat' with_reducible apply And.intro) <;> first | assumption | rfl | omega) ?_
                refine AO.allF tab_ok (by decide) [(1, .sl Y1 h0), (12, .int .i64 v0_11.2), (14, .int .i64 v0_12.2), (17, .bool v0_11.1), (18, .bool v0_12.1)] [] (by (simp only [go_sem, hb2, hb6, hb10, hb21, hb23, hb25, hb28]) <;> (repeat' with_reducible apply And.intro) <;> first | assumption | rfl | omega) ?_
                refine athen_n ?_
                refine AW.seq ?_
                refine AW.ops ?_
                refine AO.segF tab_ok 1 (by decide) [(1, .sl Y1 h0), (12, .int .i64 v0_11.2), (14, .int .i64 v0_12.2), (17, .bool v0_11.1), (18, .bool v0_12.1), (94, .sl Y1 h0)] [] (by (simp only [go_sem, hb2, hb6, hb10, hb21, hb23, hb25, hb28]) <;> (repeat' with_reducible apply And.intro) <;> first | assumption | rfl | omega) ?_
                obtain ⟨v0_13, hv31, h⟩ := Option.bind_eq_some_iff.1 h
                refine AO.call tab_ok (by decide) rfl rfl rfl (fun _ h => h) [] [] (hc_history_Until h0 100 hv31) rfl (by (simp only [go_sem, hb2, hb6, hb10, hb21, hb23, hb25, hb28]) <;> (repeat' with_reducible apply And.intro) <;> first | assumption | rfl | omega) (by (simp only [go_sem, hb2, hb6, hb10, hb21, hb23, hb25, hb28]) <;> (repeat' with_reducible apply And.intro) <;> first | assumption | rfl | omega) [(1, .sl Y1 h0), (12, .int .i64 v0_11.2), (14, .int .i64 v0_12.2), (17, .bool v0_11.1), (18, .bool v0_12.1), (95, .tup [.own 105000, .int .i64 v0_13.2])] [(105000, .arr 55 Y1 v0_13.1)] (by (simp only [go_sem, hb2, hb6, hb10, hb21, hb23, hb25, hb28]) <;> (repeat' with_reducible apply And.intro) <;> first | assumption | rfl | omega) ?_
                refine AO.allF tab_ok (by decide) [(1, .sl Y1 h0), (12, .int .i64 v0_11.2), (14, .int .i64 v0_12.2), (16, .int .i64 v0_13.2), (17, .bool v0_11.1), (18, .bool v0_12.1), (19, .own 105000)] [(105000, .arr 55 Y1 v0_13.1)] (by (simp only [go_sem, hb2, hb6, hb10, hb21, hb23, hb25, hb28]) <;> (repeat' with_reducible apply And.intro) <;> first | assumption | rfl | omega) ?_
                refine athen_n ?_
                refine AW.seq ?_
                refine AW.ops ?_
                refine AO.segF tab_ok 3 (by decide) [(1, .sl Y1 h0), (14, .int .i64 v0_12.2), (16, .int .i64 v0_13.2), (17, .bool v0_11.1), (18, .bool v0_12.1), (19, .own 105000), (100, .bool (decide (v0_11.2 = 0)))] [(105000, .arr 55 Y1 v0_13.1)] (by (simp only [go_sem, hb2, hb6, hb10, hb21, hb23, hb25, hb28]) <;> (repeat' with_reducible apply And.intro) <;> first | assumption | rfl | omega) ?_
                rcases Bool.eq_false_or_eq_true (decide (v0_11.2 = 0)) with hb32 | hb32
                · rw [if_pos hb32] at h
                  refine AO.weaken (s' := ⟨fr [(1, .sl Y1 h0), (14, .int .i64 v0_12.2), (16, .int .i64 v0_13.2), (17, .bool v0_11.1), (18, .bool v0_12.1), (19, .own 105000), (100, .bool true)], hpGet [(105000, .arr 55 Y1 v0_13.1)], gt⟩) (Wk.to (by (simp only [go_sem, hb2, hb6, hb10, hb21, hb23, hb25, hb28, hb32]) <;> (repeat' with_reducible apply And.intro) <;> first | assumption | rfl | omega)) ?_
                  refine AO.segF tab_ok 4 (by decide) [(1, .sl Y1 h0), (16, .int .i64 v0_13.2), (17, .bool v0_11.1), (18, .bool v0_12.1), (19, .own 105000), (104, .bool (decide (v0_12.2 = 0)))] [(105000, .arr 55 Y1 v0_13.1)] (by (simp only [go_sem, hb2, hb6, hb10, hb21, hb23, hb25, hb28, hb32]) <;> (repeat' with_reducible apply And.intro) <;> first | assumption | rfl | omega) ?_
                  rcases Bool.eq_false_or_eq_true (decide (v0_12.2 = 0)) with hb33 | hb33
                  · rw [if_pos hb33] at h
                    refine AO.weaken (s' := ⟨fr [(1, .sl Y1 h0), (16, .int .i64 v0_13.2), (17, .bool v0_11.1), (18, .bool v0_12.1), (19, .own 105000), (104, .bool true)], hpGet [(105000, .arr 55 Y1 v0_13.1)], gt⟩) (Wk.to (by (simp only [go_sem, hb2, hb6, hb10, hb21, hb23, hb25, hb28, hb32, hb33]) <;> (repeat' with_reducible apply And.intro) <;> first | assumption | rfl | omega)) ?_
                    refine AO.segF tab_ok 4 (by decide) [(1, .sl Y1 h0), (17, .bool v0_11.1), (18, .bool v0_12.1), (19, .own 105000), (108, .bool (decide (v0_13.2 = 0)))] [(105000, .arr 55 Y1 v0_13.1)] (by (simp only [go_sem, hb2, hb6, hb10, hb21, hb23, hb25, hb28, hb32, hb33]) <;> (repeat' with_reducible apply And.intro) <;> first | assumption | rfl | omega) ?_
                    rcases Bool.eq_false_or_eq_true (decide (v0_13.2 = 0)) with hb34 | hb34
                    · rw [if_pos hb34] at h
                      refine AO.weaken (s' := ⟨fr [(1, .sl Y1 h0), (17, .bool v0_11.1), (18, .bool v0_12.1), (19, .own 105000), (108, .bool true)], hpGet [(105000, .arr 55 Y1 v0_13.1)], gt⟩) (Wk.to (by (simp only [go_sem, hb2, hb6, hb10, hb21, hb23, hb25, hb28, hb32, hb33, hb34]) <;> (repeat' with_reducible apply And.intro) <;> first | assumption | rfl | omega)) ?_
                      refine AO.segF tab_ok 2 (by decide) [(17, .bool v0_11.1), (18, .bool v0_12.1), (108, .bool true), (109, .own 105000), (110, .sl Y1 h0)] [(105000, .arr 55 Y1 v0_13.1)] (by (simp only [go_sem, hb2, hb6, hb10, hb21, hb23, hb25, hb28, hb32, hb33, hb34]) <;> (repeat' with_reducible apply And.intro) <;> first | assumption | rfl | omega) ?_
                      obtain ⟨v0_14, hv35, h⟩ := Option.bind_eq_some_iff.1 h
                      refine AO.call tab_ok (by decide) rfl rfl rfl (fun _ h => ⟨fun _ => h, fun hn => absurd rfl hn⟩) [105000] [] (hc_linealref02_Same v0_13.1 h0 hv35) rfl (by (simp only [go_sem, hb2, hb6, hb10, hb21, hb23, hb25, hb28, hb32, hb33, hb34]) <;> (repeat' with_reducible apply And.intro) <;> first | assumption | rfl | omega) (by (simp only [go_sem, hb2, hb6, hb10, hb21, hb23, hb25, hb28, hb32, hb33, hb34]) <;> (repeat' with_reducible apply And.intro) <;> first | assumption | rfl | omega) [(17, .bool v0_11.1), (18, .bool v0_12.1), (108, .bool true), (111, .bool v0_14)] [] (by (simp only [go_sem, hb2, hb6, hb10, hb21, hb23, hb25, hb28, hb32, hb33, hb34]) <;> (repeat' with_reducible apply And.intro) <;> first | assumption | rfl | omega) ?_
                      refine AO.segF tab_ok 2 (by decide) [(17, .bool v0_11.1), (18, .bool v0_12.1), (113, .bool v0_14)] [] (by (simp only [go_sem, hb2, hb6, hb10, hb21, hb23, hb25, hb28, hb32, hb33, hb34]) <;> (repeat' with_reducible apply And.intro) <;> first | assumption | rfl | omega) ?_
                      rcases Bool.eq_false_or_eq_true v0_14 with hb36 | hb36
                      · rw [if_pos hb36] at h
                        refine AO.weaken (s' := ⟨fr [(17, .bool v0_11.1), (18, .bool v0_12.1), (113, .bool true)], hpGet [], gt⟩) (Wk.to (by (simp only [go_sem, hb2, hb6, hb10, hb21, hb23, hb25, hb28, hb32, hb33, hb34, hb36]) <;> (repeat' with_reducible apply And.intro) <;> first | assumption | rfl | omega)) ?_
                        refine AO.segF tab_ok 3 (by decide) [(18, .bool v0_12.1), (113, .bool true), (116, .bool (!v0_11.1))] [] (by (simp only [go_sem, hb2, hb6, hb10, hb21, hb23, hb25, hb28, hb32, hb33, hb34, hb36]) <;> (repeat' with_reducible apply And.intro) <;> first | assumption | rfl | omega) ?_
                        rcases Bool.eq_false_or_eq_true (!v0_11.1) with hb37 | hb37
                        · rw [if_pos hb37] at h
                          refine AO.weaken (s' := ⟨fr [(18, .bool v0_12.1), (113, .bool true), (116, .bool true)], hpGet [], gt⟩) (Wk.to (by (simp only [go_sem, hb2, hb6, hb10, hb21, hb23, hb25, hb28, hb32, hb33, hb34, hb36, hb37]) <;> (repeat' with_reducible apply And.intro) <;> first | assumption | rfl | omega)) ?_
                          refine AO.segF tab_ok 4 (by decide) [(120, .bool true)] [] (by (simp only [go_sem, hb2, hb6, hb10, hb21, hb23, hb25, hb28, hb32, hb33, hb34, hb36, hb37]) <;> (repeat' with_reducible apply And.intro) <;> first | assumption | rfl | omega) ?_
                          obtain ⟨v0_15, hv38, h⟩ := Option.bind_eq_some_iff.1 h
                          refine AO.call tab_ok (by decide) rfl rfl rfl (fun _ h => ⟨fun _ => h, fun hn => absurd rfl hn⟩) [] [] (hc_lineallaw02_Sane hv38) rfl (by (simp only [go_sem, hb2, hb6, hb10, hb21, hb23, hb25, hb28, hb32, hb33, hb34, hb36, hb37]) <;> (repeat' with_reducible apply And.intro) <;> first | assumption | rfl | omega) (by (simp only [go_sem, hb2, hb6, hb10, hb21, hb23, hb25, hb28, hb32, hb33, hb34, hb36, hb37]) <;> (repeat' with_reducible apply And.intro) <;> first | assumption | rfl | omega) [(120, .bool true), (121, .bool v0_15)] [] (by (simp only [go_sem, hb2, hb6, hb10, hb21, hb23, hb25, hb28, hb32, hb33, hb34, hb36, hb37]) <;> (repeat' with_reducible apply And.intro) <;> first | assumption | rfl | omega) ?_
                          refine AO.allF tab_ok (by decide) [(6, .bool v0_15)] [] (by (simp only [go_sem, hb2, hb6, hb10, hb21, hb23, hb25, hb28, hb32, hb33, hb34, hb36, hb37]) <;> (repeat' with_reducible apply And.intro) <;> first | assumption | rfl | omega) ?_
                          refine athen_n ?_
                          refine AW.ret ?_
                          obtain rfl := Option.some.inj h
                          exact ⟨rfl, [], [], [], rfl, (by (simp only [go_sem, hb2, hb6, hb10, hb21, hb23, hb25, hb28, hb32, hb33, hb34, hb36, hb37]) <;> (repeat' with_reducible apply And.intro) <;> first | assumption | rfl | omega)⟩
                        · rw [if_neg (Bool.eq_false_iff.1 hb37)] at h
                          refine AO.weaken (s' := ⟨fr [(18, .bool v0_12.1), (113, .bool true), (116, .bool false)], hpGet [], gt⟩) (Wk.to (by (simp only [go_sem, hb2, hb6, hb10, hb21, hb23, hb25, hb28, hb32, hb33, hb34, hb36, hb37]) <;> (repeat' with_reducible apply And.intro) <;> first | assumption | rfl | omega)) ?_
                          refine AO.segF tab_ok 4 (by decide) [(120, .bool v0_12.1)] [] (by (simp only [go_sem, hb2, hb6, hb10, hb21, hb23, hb25, hb28, hb32, hb33, hb34, hb36, hb37]) <;> (repeat' with_reducible apply And.intro) <;> first | assumption | rfl | omega) ?_
                          rcases Bool.eq_false_or_eq_true v0_12.1 with hb39 | hb39
                          · rw [if_pos hb39] at h
                            refine AO.weaken (s' := ⟨fr [(120, .bool true)], hpGet [], gt⟩) (Wk.to (by (simp only [go_sem, hb2, hb6, hb10, hb21, hb23, hb25, hb28, hb32, hb33, hb34, hb36, hb37, hb39]) <;> (repeat' with_reducible apply And.intro) <;> first | assumption | rfl | omega)) ?_
                            obtain ⟨v0_16, hv40, h⟩ := Option.bind_eq_some_iff.1 h
                            refine AO.call tab_ok (by decide) rfl rfl rfl (fun _ h => ⟨fun _ => h, fun hn => absurd rfl hn⟩) [] [] (hc_lineallaw02_Sane hv40) rfl (by (simp only [go_sem, hb2, hb6, hb10, hb21, hb23, hb25, hb28, hb32, hb33, hb34, hb36, hb37, hb39]) <;> (repeat' with_reducible apply And.intro) <;> first | assumption | rfl | omega) (by (simp only [go_sem, hb2, hb6, hb10, hb21, hb23, hb25, hb28, hb32, hb33, hb34, hb36, hb37, hb39]) <;> (repeat' with_reducible apply And.intro) <;> first | assumption | rfl | omega) [(120, .bool true), (121, .bool v0_16)] [] (by (simp only [go_sem, hb2, hb6, hb10, hb21, hb23, hb25, hb28, hb32, hb33, hb34, hb36, hb37, hb39]) <;> (repeat' with_reducible apply And.intro) <;> first | assumption | rfl | omega) ?_
                            refine AO.allF tab_ok (by decide) [(6, .bool v0_16)] [] (by (simp only [go_sem, hb2, hb6, hb10, hb21, hb23, hb25, hb28, hb32, hb33, hb34, hb36, hb37, hb39]) <;> (repeat' with_reducible apply And.intro) <;> first | assumption | rfl | omega) ?_
                            refine athen_n ?_
                            refine AW.ret ?_
                            obtain rfl := Option.some.inj h
                            exact ⟨rfl, [], [], [], rfl, (by (simp only [go_sem, hb2, hb6, hb10, hb21, hb23, hb25, hb28, hb32, hb33, hb34, hb36, hb37, hb39]) <;> (repeat' with_reducible apply And.intro) <;> first | assumption | rfl | omega)⟩
                          · rw [if_neg (Bool.eq_false_iff.1 hb39)] at h
                            refine AO.weaken (s' := ⟨fr [(120, .bool false)], hpGet [], gt⟩) (Wk.to (by (simp only [go_sem, hb2, hb6, hb10, hb21, hb23, hb25, hb28, hb32, hb33, hb34, hb36, hb37, hb39]) <;> (repeat' with_reducible apply And.intro) <;> first | assumption | rfl | omega)) ?_
                            refine AO.allF tab_ok (by decide) [(6, .bool false)] [] (by (simp only [go_sem, hb2, hb6, hb10, hb21, hb23, hb25, hb28, hb32, hb33, hb34, hb36, hb37, hb39]) <;> (repeat' with_reducible apply And.intro) <;> first | assumption | rfl | omega) ?_
                            refine athen_n ?_
                            refine AW.ret ?_
                            obtain rfl := Option.some.inj h
                            exact ⟨rfl, [], [], [], rfl, (by (simp only [go_sem, hb2, hb6, hb10, hb21, hb23, hb25, hb28, hb32, hb33, hb34, hb36, hb37, hb39]) <;> (repeat' with_reducible apply And.intro) <;> first | assumption | rfl | omega)⟩
                      · rw [if_neg (Bool.eq_false_iff.1 hb36)] at h
                        refine AO.weaken (s' := ⟨fr [(17, .bool v0_11.1), (18, .bool v0_12.1), (113, .bool false)], hpGet [], gt⟩) (Wk.to (by (simp only [go_sem, hb2, hb6, hb10, hb21, hb23, hb25, hb28, hb32, hb33, hb34, hb36]) <;> (repeat' with_reducible apply And.intro) <;> first | assumption | rfl | omega)) ?_
                        refine AO.segF tab_ok 4 (by decide) [(113, .bool false), (116, .cv (undef)), (117, .cv (undef))] [] (by (simp only [go_sem, hb2, hb6, hb10, hb21, hb23, hb25, hb28, hb32, hb33, hb34, hb36]) <;> (repeat' with_reducible apply And.intro) <;> first | assumption | rfl | omega) ?_
                        refine AO.allF tab_ok (by decide) [(6, .bool false)] [] (by (simp only [go_sem, hb2, hb6, hb10, hb21, hb23, hb25, hb28, hb32, hb33, hb34, hb36]) <;> (repeat' with_reducible apply And.intro) <;> first | assumption | rfl | omega) ?_
                        refine athen_n ?_
                        refine AW.ret ?_
                        obtain rfl := Option.some.inj h
                        exact ⟨rfl, [], [], [], rfl, (by (simp only [go_sem, hb2, hb6, hb10, hb21, hb23, hb25, hb28, hb32, hb33, hb34, hb36]) <;> (repeat' with_reducible apply And.intro) <;> first | assumption | rfl | omega)⟩
                    · rw [if_neg (Bool.eq_false_iff.1 hb34)] at h
                      refine AO.weaken (s' := ⟨fr [(1, .sl Y1 h0), (17, .bool v0_11.1), (18, .bool v0_12.1), (19, .own 105000), (108, .bool false)], hpGet [(105000, .arr 55 Y1 v0_13.1)], gt⟩) (Wk.to (by (simp only [go_sem, hb2, hb6, hb10, hb21, hb23, hb25, hb28, hb32, hb33, hb34]) <;> (repeat' with_reducible apply And.intro) <;> first | assumption | rfl | omega)) ?_
                      refine AO.segF tab_ok 6 (by decide) [(18, .bool v0_12.1), (113, .bool false), (114, .cv (undef))] [] (by (simp only [go_sem, hb2, hb6, hb10, hb21, hb23, hb25, hb28, hb32, hb33, hb34]) <;> (repeat' with_reducible apply And.intro) <;> first | assumption | rfl | omega) ?_
                      refine AO.segF tab_ok 4 (by decide) [(113, .bool false), (118, .cv (undef))] [] (by (simp only [go_sem, hb2, hb6, hb10, hb21, hb23, hb25, hb28, hb32, hb33, hb34]) <;> (repeat' with_reducible apply And.intro) <;> first | assumption | rfl | omega) ?_
                      refine AO.allF tab_ok (by decide) [(6, .bool false)] [] (by (simp only [go_sem, hb2, hb6, hb10, hb21, hb23, hb25, hb28, hb32, hb33, hb34]) <;> (repeat' with_reducible apply And.intro) <;> first | assumption | rfl | omega) ?_
                      refine athen_n ?_
                      refine AW.ret ?_
                      obtain rfl := Option.some.inj h
                      exact ⟨rfl, [], [], [], rfl, (by (simp only [go_sem, hb2, hb6, hb10, hb21, hb23, hb25, hb28, hb32, hb33, hb34]) <;> (repeat' with_reducible apply And.intro) <;> first | assumption | rfl | omega)⟩
                  · rw [if_neg (Bool.eq_false_iff.1 hb33)] at h
                    refine AO.weaken (s' := ⟨fr [(1, .sl Y1 h0), (16, .int .i64 v0_13.2), (17, .bool v0_11.1), (18, .bool v0_12.1), (19, .own 105000), (104, .bool false)], hpGet [(105000, .arr 55 Y1 v0_13.1)], gt⟩) (Wk.to (by (simp only [go_sem, hb2, hb6, hb10, hb21, hb23, hb25, hb28, hb32, hb33]) <;> (repeat' with_reducible apply And.intro) <;> first | assumption | rfl | omega)) ?_
                    refine AO.segF tab_ok 6 (by decide) [(17, .bool v0_11.1), (18, .bool v0_12.1), (108, .bool false), (109, .cv (undef)), (110, .cv (undef))] [] (by (simp only [go_sem, hb2, hb6, hb10, hb21, hb23, hb25, hb28, hb32, hb33]) <;> (repeat' with_reducible apply And.intro) <;> first | assumption | rfl | omega) ?_
                    refine AO.segF tab_ok 6 (by decide) [(18, .bool v0_12.1), (113, .bool false), (116, .cv (undef))] [] (by (simp only [go_sem, hb2, hb6, hb10, hb21, hb23, hb25, hb28, hb32, hb33]) <;> (repeat' with_reducible apply And.intro) <;> first | assumption | rfl | omega) ?_
                    refine AO.allF tab_ok (by decide) [(6, .bool false)] [] (by (simp only [go_sem, hb2, hb6, hb10, hb21, hb23, hb25, hb28, hb32, hb33]) <;> (repeat' with_reducible apply And.intro) <;> first | assumption | rfl | omega) ?_
                    refine athen_n ?_
                    refine AW.ret ?_
                    obtain rfl := Option.some.inj h
                    exact ⟨rfl, [], [], [], rfl, (by (simp only [go_sem, hb2, hb6, hb10, hb21, hb23, hb25, hb28, hb32, hb33]) <;> (repeat' with_reducible apply And.intro) <;> first | assumption | rfl | omega)⟩
                · rw [if_neg (Bool.eq_false_iff.1 hb32)] at h
                  refine AO.weaken (s' := ⟨fr [(1, .sl Y1 h0), (14, .int .i64 v0_12.2), (16, .int .i64 v0_13.2), (17, .bool v0_11.1), (18, .bool v0_12.1), (19, .own 105000), (100, .bool false)], hpGet [(105000, .arr 55 Y1 v0_13.1)], gt⟩) (Wk.to (by (simp only [go_sem, hb2, hb6, hb10, hb21, hb23, hb25, hb28, hb32]) <;> (repeat' with_reducible apply And.intro) <;> first | assumption | rfl | omega)) ?_
                  refine AO.segF tab_ok 6 (by decide) [(1, .sl Y1 h0), (17, .bool v0_11.1), (18, .bool v0_12.1), (19, .own 105000), (104, .bool false), (106, .cv (undef))] [(105000, .arr 55 Y1 v0_13.1)] (by (simp only [go_sem, hb2, hb6, hb10, hb21, hb23, hb25, hb28, hb32]) <;> (repeat' with_reducible apply And.intro) <;> first | assumption | rfl | omega) ?_
                  refine AO.segF tab_ok 8 (by decide) [(18, .bool v0_12.1), (113, .bool false), (114, .cv (undef))] [] (by (simp only [go_sem, hb2, hb6, hb10, hb21, hb23, hb25, hb28, hb32]) <;> (repeat' with_reducible apply And.intro) <;> first | assumption | rfl | omega) ?_
                  refine AO.segF tab_ok 4 (by decide) [(113, .bool false), (118, .cv (undef))] [] (by (simp only [go_sem, hb2, hb6, hb10, hb21, hb23, hb25, hb28, hb32]) <;> (repeat' with_reducible apply And.intro) <;> first | assumption | rfl | omega) ?_
                  refine AO.allF tab_ok (by decide) [(6, .bool false)] [] (by (simp only [go_sem, hb2, hb6, hb10, hb21, hb23, hb25, hb28, hb32]) <;> (repeat' with_reducible apply And.intro) <;> first | assumption | rfl | omega) ?_
                  refine athen_n ?_
                  refine AW.ret ?_
                  obtain rfl := Option.some.inj h
                  exact ⟨rfl, [], [], [], rfl, (by (simp only [go_sem, hb2, hb6, hb10, hb21, hb23, hb25, hb28, hb32]) <;> (repeat' with_reducible apply And.intro) <;> first | assumption | rfl | omega)⟩

end Go.Proofs.Ytdkdkpenmgkdcaa
