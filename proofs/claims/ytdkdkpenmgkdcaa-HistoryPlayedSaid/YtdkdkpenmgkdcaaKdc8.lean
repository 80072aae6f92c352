/-
  Made by wip/tool/dc.py out of the print of the program: contracts.
-/
import Derived.Test.YtdkdkpenmgkdcaaHp
import Derived.Test.YtdkdkpenmgkdcaaTbh
import Derived.Test.YtdkdkpenmgkdcaaAvd
import Derived.Test.YtdkdkpenmgkdcaaKdc4
import Derived.Test.YtdkdkpenmgkdcaaKdc5
import Derived.Test.YtdkdkpenmgkdcaaKdc6
import Derived.Test.YtdkdkpenmgkdcaaKdc7
namespace Go.Proofs.Ytdkdkpenmgkdcaa
open Go.RowKit

set_option linter.unusedSimpArgs false
set_option linter.unusedVariables false
set_option linter.constructorNameAsVariable false

set_option maxRecDepth 100000 in
set_option maxHeartbeats 2000000 in
theorem hc_lineallaw02_HistoryPlayed (specs : List (Int × Int × (List (List Int)) × (List (List Int)))) (word : List (Int × Int × Int × Int × Int × Int)) {r : Bool} (h : lineallaw02_HistoryPlayed specs word = some r) : HC Try.prog 15 [] [.sl Y0 specs, .sl Y1 word] [] (.bool r) := by
  unfold lineallaw02_HistoryPlayed at h
  refine HC.of_body tab_ok (res := [.tmp 4]) Try.func15 rfl (by kernel_rfl) rfl (nt := 173) rfl (by decide) (by simp) ?_
  refine AW.seq ?_
  refine AW.ops ?_
  refine AO.allF tab_ok (by decide) [(0, .sl Y0 specs), (1, .sl Y1 word)] [] (by (simp only [go_sem]) <;> (repeat' with_reducible apply And.intro) <;> first | assumption | rfl | omega) ?_
  refine athen_n ?_
  refine AW.seq ?_
  refine AW.seq ?_
  refine AW.ops ?_
  refine AO.segF tab_ok 1 (by decide) [(0, .sl Y0 specs), (1, .sl Y1 word), (16, .sl Y0 specs)] [] (by (simp only [go_sem]) <;> (repeat' with_reducible apply And.intro) <;> first | assumption | rfl | omega) ?_
  obtain ⟨v0, hv1, h⟩ := Option.bind_eq_some_iff.1 h
  refine AO.call tab_ok (by decide) rfl rfl rfl (fun _ h => h) [] [] (hc_lineallaw02_Large specs hv1) rfl (by (simp only [go_sem]) <;> (repeat' with_reducible apply And.intro) <;> first | assumption | rfl | omega) (by (simp only [go_sem]) <;> (repeat' with_reducible apply And.intro) <;> first | assumption | rfl | omega) [(0, .sl Y0 specs), (1, .sl Y1 word), (17, .bool v0)] [] (by (simp only [go_sem]) <;> (repeat' with_reducible apply And.intro) <;> first | assumption | rfl | omega) ?_
  refine AO.segF tab_ok 1 (by decide) [(0, .sl Y0 specs), (1, .sl Y1 word), (18, .bool v0)] [] (by (simp only [go_sem]) <;> (repeat' with_reducible apply And.intro) <;> first | assumption | rfl | omega) ?_
  rcases Bool.eq_false_or_eq_true v0 with hb2 | hb2
  · rw [if_pos hb2] at h
    refine AO.weaken (s' := ⟨fr [(0, .sl Y0 specs), (1, .sl Y1 word), (18, .bool true)], hpGet [], gt⟩) (Wk.to (by (simp only [go_sem, hb2]) <;> (repeat' with_reducible apply And.intro) <;> first | assumption | rfl | omega)) ?_
    refine AO.allF tab_ok (by decide) [(0, .sl Y0 specs), (1, .sl Y1 word), (21, .bool true)] [] (by (simp only [go_sem, hb2]) <;> (repeat' with_reducible apply And.intro) <;> first | assumption | rfl | omega) ?_
    refine athen_n ?_
    refine AW.cond (b := true) rfl (fun _ => ?_) (fun hb3 => by cases hb3)
    refine AW.seq ?_
    refine AW.ops ?_
    obtain ⟨v0_2, hv4, h⟩ := Option.bind_eq_some_iff.1 h
    refine AO.call tab_ok (by decide) rfl rfl rfl (fun _ h => h) [] [] (hc_lineallaw02_Sane hv4) rfl (by (simp only [go_sem, hb2]) <;> (repeat' with_reducible apply And.intro) <;> first | assumption | rfl | omega) (by (simp only [go_sem, hb2]) <;> (repeat' with_reducible apply And.intro) <;> first | assumption | rfl | omega) [(22, .bool v0_2)] [] (by (simp only [go_sem, hb2]) <;> (repeat' with_reducible apply And.intro) <;> first | assumption | rfl | omega) ?_
    refine AO.allF tab_ok (by decide) [(4, .bool v0_2)] [] (by (simp only [go_sem, hb2]) <;> (repeat' with_reducible apply And.intro) <;> first | assumption | rfl | omega) ?_
    refine athen_n ?_
    refine AW.ret ?_
    refine athen_r ?_
    obtain rfl := Option.some.inj h
    exact ⟨rfl, [], [], [], rfl, (by (simp only [go_sem, hb2]) <;> (repeat' with_reducible apply And.intro) <;> first | assumption | rfl | omega)⟩
  · rw [if_neg (Bool.eq_false_iff.1 hb2)] at h
    refine AO.weaken (s' := ⟨fr [(0, .sl Y0 specs), (1, .sl Y1 word), (18, .bool false)], hpGet [], gt⟩) (Wk.to (by (simp only [go_sem, hb2]) <;> (repeat' with_reducible apply And.intro) <;> first | assumption | rfl | omega)) ?_
    refine AO.segF tab_ok 1 (by decide) [(0, .sl Y0 specs), (1, .sl Y1 word), (18, .bool false), (19, .sl Y1 word)] [] (by (simp only [go_sem, hb2]) <;> (repeat' with_reducible apply And.intro) <;> first | assumption | rfl | omega) ?_
    obtain ⟨v0_3, hv5, h⟩ := Option.bind_eq_some_iff.1 h
    refine AO.call tab_ok (by decide) rfl rfl rfl (fun _ h => ⟨fun _ => h, fun hn => absurd rfl hn⟩) [] [] (hc_lineallaw02_Long word hv5) rfl (by (simp only [go_sem, hb2]) <;> (repeat' with_reducible apply And.intro) <;> first | assumption | rfl | omega) (by (simp only [go_sem, hb2]) <;> (repeat' with_reducible apply And.intro) <;> first | assumption | rfl | omega) [(0, .sl Y0 specs), (1, .sl Y1 word), (18, .bool false), (20, .bool (decide (40 < (word.length : Int))))] [] (by (simp only [go_sem, hb2]) <;> (repeat' with_reducible apply And.intro) <;> first | assumption | rfl | omega) ?_
    refine AO.allF tab_ok (by decide) [(0, .sl Y0 specs), (1, .sl Y1 word), (21, .bool (decide (40 < (word.length : Int))))] [] (by (simp only [go_sem, hb2]) <;> (repeat' with_reducible apply And.intro) <;> first | assumption | rfl | omega) ?_
    refine athen_n ?_
    refine AW.cond (b := (decide (40 < (word.length : Int)))) rfl (fun hb6 => ?_) (fun hb6 => ?_)
    · rw [if_pos hb6] at h
      refine AW.seq ?_
      refine AW.ops ?_
      obtain ⟨v0_4, hv7, h⟩ := Option.bind_eq_some_iff.1 h
      refine AO.call tab_ok (by decide) rfl rfl rfl (fun _ h => h) [] [] (hc_lineallaw02_Sane hv7) rfl (by (simp only [go_sem, hb2, hb6]) <;> (repeat' with_reducible apply And.intro) <;> first | assumption | rfl | omega) (by (simp only [go_sem, hb2, hb6]) <;> (repeat' with_reducible apply And.intro) <;> first | assumption | rfl | omega) [(22, .bool v0_4)] [] (by (simp only [go_sem, hb2, hb6]) <;> (repeat' with_reducible apply And.intro) <;> first | assumption | rfl | omega) ?_
      refine AO.allF tab_ok (by decide) [(4, .bool v0_4)] [] (by (simp only [go_sem, hb2, hb6]) <;> (repeat' with_reducible apply And.intro) <;> first | assumption | rfl | omega) ?_
      refine athen_n ?_
      refine AW.ret ?_
      refine athen_r ?_
      obtain rfl := Option.some.inj h
      exact ⟨rfl, [], [], [], rfl, (by (simp only [go_sem, hb2, hb6]) <;> (repeat' with_reducible apply And.intro) <;> first | assumption | rfl | omega)⟩
    · rw [if_neg (Bool.eq_false_iff.1 hb6)] at h
      refine AW.skip ?_
      refine athen_n ?_
      refine AW.seq ?_
      refine AW.ops ?_
      refine AO.segF tab_ok 2 (by decide) [(0, .sl Y0 specs), (1, .sl Y1 word), (24, .sl Y0 specs), (25, .sl Y1 word)] [] (by (simp only [go_sem, hb2, hb6]) <;> (repeat' with_reducible apply And.intro) <;> first | assumption | rfl | omega) ?_
      obtain ⟨v0_5, hv8, h⟩ := Option.bind_eq_some_iff.1 h
      refine AO.call tab_ok (by decide) rfl rfl rfl (fun _ h => h) [] [] (hc_history_Play specs word hv8) rfl (by (simp only [go_sem, hb2, hb6]) <;> (repeat' with_reducible apply And.intro) <;> first | assumption | rfl | omega) (by (simp only [go_sem, hb2, hb6]) <;> (repeat' with_reducible apply And.intro) <;> first | assumption | rfl | omega) [(0, .sl Y0 specs), (1, .sl Y1 word), (26, .tup [.own 36000, .int .i64 v0_5.2])] [(36000, .arr 55 Y1 v0_5.1)] (by (simp only [go_sem, hb2, hb6]) <;> (repeat' with_reducible apply And.intro) <;> first | assumption | rfl | omega) ?_
      refine AO.allF tab_ok (by decide) [(0, .sl Y0 specs), (1, .sl Y1 word), (5, .own 36000), (6, .int .i64 v0_5.2)] [(36000, .arr 55 Y1 v0_5.1)] (by (simp only [go_sem, hb2, hb6]) <;> (repeat' with_reducible apply And.intro) <;> first | assumption | rfl | omega) ?_
      refine athen_n ?_
      refine AW.seq ?_
      refine AW.seq ?_
      refine AW.ops ?_
      refine AO.allF tab_ok (by decide) [(0, .sl Y0 specs), (1, .sl Y1 word), (5, .own 36000), (6, .int .i64 v0_5.2), (30, .bool (!(decide (v0_5.2 = 0))))] [(36000, .arr 55 Y1 v0_5.1)] (by (simp only [go_sem, hb2, hb6]) <;> (repeat' with_reducible apply And.intro) <;> first | assumption | rfl | omega) ?_
      refine athen_n ?_
      refine AW.cond (b := (!(decide (v0_5.2 = 0)))) rfl (fun hb9 => ?_) (fun hb9 => ?_)
      · rw [if_pos hb9] at h
        refine AW.seq ?_
        refine AW.ops ?_
        refine AO.segF tab_ok 4 (by decide) [(6, .int .i64 v0_5.2), (34, .bool (decide ((v0_5.1.length : Int) = 0)))] [] (by (simp only [go_sem, hb2, hb6, hb9]) <;> (repeat' with_reducible apply And.intro) <;> first | assumption | rfl | omega) ?_
        rcases Bool.eq_false_or_eq_true (decide ((v0_5.1.length : Int) = 0)) with hb10 | hb10
        · rw [if_pos hb10] at h
          refine AO.weaken (s' := ⟨fr [(6, .int .i64 v0_5.2), (34, .bool true)], hpGet [], gt⟩) (Wk.to (by (simp only [go_sem, hb2, hb6, hb9, hb10]) <;> (repeat' with_reducible apply And.intro) <;> first | assumption | rfl | omega)) ?_
          refine AO.segF tab_ok 3 (by decide) [(6, .int .i64 v0_5.2), (34, .bool true), (37, .bool (decide (v0_5.2 = 10)))] [] (by (simp only [go_sem, hb2, hb6, hb9, hb10]) <;> (repeat' with_reducible apply And.intro) <;> first | assumption | rfl | omega) ?_
          rcases Bool.eq_false_or_eq_true (decide (v0_5.2 = 10)) with hb11 | hb11
          · rw [if_pos hb11] at h
            refine AO.weaken (s' := ⟨fr [(6, .int .i64 v0_5.2), (34, .bool true), (37, .bool true)], hpGet [], gt⟩) (Wk.to (by (simp only [go_sem, hb2, hb6, hb9, hb10, hb11]) <;> (repeat' with_reducible apply And.intro) <;> first | assumption | rfl | omega)) ?_
            refine AO.segF tab_ok 5 (by decide) [(42, .bool true)] [] (by (simp only [go_sem, hb2, hb6, hb9, hb10, hb11]) <;> (repeat' with_reducible apply And.intro) <;> first | assumption | rfl | omega) ?_
            obtain ⟨v0_6, hv12, h⟩ := Option.bind_eq_some_iff.1 h
            refine AO.call tab_ok (by decide) rfl rfl rfl (fun _ h => ⟨fun _ => h, fun hn => absurd rfl hn⟩) [] [] (hc_lineallaw02_Sane hv12) rfl (by (simp only [go_sem, hb2, hb6, hb9, hb10, hb11]) <;> (repeat' with_reducible apply And.intro) <;> first | assumption | rfl | omega) (by (simp only [go_sem, hb2, hb6, hb9, hb10, hb11]) <;> (repeat' with_reducible apply And.intro) <;> first | assumption | rfl | omega) [(42, .bool true), (43, .bool v0_6)] [] (by (simp only [go_sem, hb2, hb6, hb9, hb10, hb11]) <;> (repeat' with_reducible apply And.intro) <;> first | assumption | rfl | omega) ?_
            refine AO.allF tab_ok (by decide) [(4, .bool v0_6)] [] (by (simp only [go_sem, hb2, hb6, hb9, hb10, hb11]) <;> (repeat' with_reducible apply And.intro) <;> first | assumption | rfl | omega) ?_
            refine athen_n ?_
            refine AW.ret ?_
            refine athen_r ?_
            obtain rfl := Option.some.inj h
            exact ⟨rfl, [], [], [], rfl, (by (simp only [go_sem, hb2, hb6, hb9, hb10, hb11]) <;> (repeat' with_reducible apply And.intro) <;> first | assumption | rfl | omega)⟩
          · rw [if_neg (Bool.eq_false_iff.1 hb11)] at h
            refine AO.weaken (s' := ⟨fr [(6, .int .i64 v0_5.2), (34, .bool true), (37, .bool false)], hpGet [], gt⟩) (Wk.to (by (simp only [go_sem, hb2, hb6, hb9, hb10, hb11]) <;> (repeat' with_reducible apply And.intro) <;> first | assumption | rfl | omega)) ?_
            refine AO.segF tab_ok 5 (by decide) [(42, .bool (decide (v0_5.2 = 20)))] [] (by (simp only [go_sem, hb2, hb6, hb9, hb10, hb11]) <;> (repeat' with_reducible apply And.intro) <;> first | assumption | rfl | omega) ?_
            rcases Bool.eq_false_or_eq_true (decide (v0_5.2 = 20)) with hb13 | hb13
            · rw [if_pos hb13] at h
              refine AO.weaken (s' := ⟨fr [(42, .bool true)], hpGet [], gt⟩) (Wk.to (by (simp only [go_sem, hb2, hb6, hb9, hb10, hb11, hb13]) <;> (repeat' with_reducible apply And.intro) <;> first | assumption | rfl | omega)) ?_
              obtain ⟨v0_7, hv14, h⟩ := Option.bind_eq_some_iff.1 h
              refine AO.call tab_ok (by decide) rfl rfl rfl (fun _ h => ⟨fun _ => h, fun hn => absurd rfl hn⟩) [] [] (hc_lineallaw02_Sane hv14) rfl (by (simp only [go_sem, hb2, hb6, hb9, hb10, hb11, hb13]) <;> (repeat' with_reducible apply And.intro) <;> first | assumption | rfl | omega) (by (simp only [go_sem, hb2, hb6, hb9, hb10, hb11, hb13]) <;> (repeat' with_reducible apply And.intro) <;> first | assumption | rfl | omega) [(42, .bool true), (43, .bool v0_7)] [] (by (simp only [go_sem, hb2, hb6, hb9, hb10, hb11, hb13]) <;> (repeat' with_reducible apply And.intro) <;> first | assumption | rfl | omega) ?_
              refine AO.allF tab_ok (by decide) [(4, .bool v0_7)] [] (by (simp only [go_sem, hb2, hb6, hb9, hb10, hb11, hb13]) <;> (repeat' with_reducible apply And.intro) <;> first | assumption | rfl | omega) ?_
              refine athen_n ?_
              refine AW.ret ?_
              refine athen_r ?_
              obtain rfl := Option.some.inj h
              exact ⟨rfl, [], [], [], rfl, (by (simp only [go_sem, hb2, hb6, hb9, hb10, hb11, hb13]) <;> (repeat' with_reducible apply And.intro) <;> first | assumption | rfl | omega)⟩
            · rw [if_neg (Bool.eq_false_iff.1 hb13)] at h
              refine AO.weaken (s' := ⟨fr [(42, .bool false)], hpGet [], gt⟩) (Wk.to (by (simp only [go_sem, hb2, hb6, hb9, hb10, hb11, hb13]) <;> (repeat' with_reducible apply And.intro) <;> first | assumption | rfl | omega)) ?_
              refine AO.allF tab_ok (by decide) [(4, .bool false)] [] (by (simp only [go_sem, hb2, hb6, hb9, hb10, hb11, hb13]) <;> (repeat' with_reducible apply And.intro) <;> first | assumption | rfl | omega) ?_
              refine athen_n ?_
              refine AW.ret ?_
              refine athen_r ?_
              obtain rfl := Option.some.inj h
              exact ⟨rfl, [], [], [], rfl, (by (simp only [go_sem, hb2, hb6, hb9, hb10, hb11, hb13]) <;> (repeat' with_reducible apply And.intro) <;> first | assumption | rfl | omega)⟩
        · rw [if_neg (Bool.eq_false_iff.1 hb10)] at h
          refine AO.weaken (s' := ⟨fr [(6, .int .i64 v0_5.2), (34, .bool false)], hpGet [], gt⟩) (Wk.to (by (simp only [go_sem, hb2, hb6, hb9, hb10]) <;> (repeat' with_reducible apply And.intro) <;> first | assumption | rfl | omega)) ?_
          refine AO.segF tab_ok 4 (by decide) [(34, .bool false), (37, .cv (undef)), (38, .cv (undef))] [] (by (simp only [go_sem, hb2, hb6, hb9, hb10]) <;> (repeat' with_reducible apply And.intro) <;> first | assumption | rfl | omega) ?_
          refine AO.allF tab_ok (by decide) [(4, .bool false)] [] (by (simp only [go_sem, hb2, hb6, hb9, hb10]) <;> (repeat' with_reducible apply And.intro) <;> first | assumption | rfl | omega) ?_
          refine athen_n ?_
          refine AW.ret ?_
          refine athen_r ?_
          obtain rfl := Option.some.inj h
          exact ⟨rfl, [], [], [], rfl, (by (simp only [go_sem, hb2, hb6, hb9, hb10]) <;> (repeat' with_reducible apply And.intro) <;> first | assumption | rfl | omega)⟩
      · rw [if_neg (Bool.eq_false_iff.1 hb9)] at h
        refine AW.skip ?_
        refine athen_n ?_
        refine AW.seq ?_
        refine AW.ops ?_
        refine AO.segF tab_ok 2 (by decide) [(0, .sl Y0 specs), (1, .sl Y1 word), (5, .own 36000), (46, .sl Y0 specs), (47, .own 36000)] [(36000, .arr 55 Y1 v0_5.1)] (by (simp only [go_sem, hb2, hb6, hb9]) <;> (repeat' with_reducible apply And.intro) <;> first | assumption | rfl | omega) ?_
        obtain ⟨v0_8, hv15, h⟩ := Option.bind_eq_some_iff.1 h
        refine AO.call tab_ok (by decide) rfl rfl rfl (fun _ h => h) [36000] [] (hc_history_For specs v0_5.1 hv15) rfl (by (simp only [go_sem, hb2, hb6, hb9]) <;> (repeat' with_reducible apply And.intro) <;> first | assumption | rfl | omega) (by (simp only [go_sem, hb2, hb6, hb9]) <;> (repeat' with_reducible apply And.intro) <;> first | assumption | rfl | omega) [(0, .sl Y0 specs), (1, .sl Y1 word), (5, .own 36000), (48, .tup [.bool v0_8.1, .int .i64 v0_8.2])] [(36000, .arr 55 Y1 v0_5.1)] (by (simp only [go_sem, hb2, hb6, hb9]) <;> (repeat' with_reducible apply And.intro) <;> first | assumption | rfl | omega) ?_
        refine AO.allF tab_ok (by decide) [(0, .sl Y0 specs), (1, .sl Y1 word), (5, .own 36000), (6, .int .i64 v0_8.2), (7, .bool v0_8.1)] [(36000, .arr 55 Y1 v0_5.1)] (by (simp only [go_sem, hb2, hb6, hb9]) <;> (repeat' with_reducible apply And.intro) <;> first | assumption | rfl | omega) ?_
        refine athen_n ?_
        refine AW.seq ?_
        refine AW.ops ?_
        refine AO.segF tab_ok 1 (by decide) [(0, .sl Y0 specs), (1, .sl Y1 word), (5, .own 36000), (6, .int .i64 v0_8.2), (7, .bool v0_8.1), (52, .own 36000)] [(36000, .arr 55 Y1 v0_5.1)] (by (simp only [go_sem, hb2, hb6, hb9]) <;> (repeat' with_reducible apply And.intro) <;> first | assumption | rfl | omega) ?_
        obtain ⟨v0_9, hv16, h⟩ := Option.bind_eq_some_iff.1 h
        refine AO.call tab_ok (by decide) rfl rfl rfl (fun _ h => h) [36000] [] (hc_history_Alone v0_5.1 hv16) rfl (by (simp only [go_sem, hb2, hb6, hb9]) <;> (repeat' with_reducible apply And.intro) <;> first | assumption | rfl | omega) (by (simp only [go_sem, hb2, hb6, hb9]) <;> (repeat' with_reducible apply And.intro) <;> first | assumption | rfl | omega) [(0, .sl Y0 specs), (1, .sl Y1 word), (5, .own 36000), (6, .int .i64 v0_8.2), (7, .bool v0_8.1), (53, .tup [.bool v0_9.1, .int .i64 v0_9.2])] [(36000, .arr 55 Y1 v0_5.1)] (by (simp only [go_sem, hb2, hb6, hb9]) <;> (repeat' with_reducible apply And.intro) <;> first | assumption | rfl | omega) ?_
        refine AO.allF tab_ok (by decide) [(0, .sl Y0 specs), (1, .sl Y1 word), (5, .own 36000), (6, .int .i64 v0_8.2), (7, .bool v0_8.1), (8, .bool v0_9.1), (9, .int .i64 v0_9.2)] [(36000, .arr 55 Y1 v0_5.1)] (by (simp only [go_sem, hb2, hb6, hb9]) <;> (repeat' with_reducible apply And.intro) <;> first | assumption | rfl | omega) ?_
        refine athen_n ?_
        refine AW.seq ?_
        refine AW.ops ?_
        refine AO.segF tab_ok 1 (by decide) [(0, .sl Y0 specs), (1, .sl Y1 word), (5, .own 36000), (6, .int .i64 v0_8.2), (7, .bool v0_8.1), (8, .bool v0_9.1), (9, .int .i64 v0_9.2), (57, .own 36000)] [(36000, .arr 55 Y1 v0_5.1)] (by (simp only [go_sem, hb2, hb6, hb9]) <;> (repeat' with_reducible apply And.intro) <;> first | assumption | rfl | omega) ?_
        obtain ⟨v0_10, hv17, h⟩ := Option.bind_eq_some_iff.1 h
        refine AO.call tab_ok (by decide) rfl rfl rfl (fun _ h => h) [36000] [] (hc_history_Width v0_5.1 hv17) rfl (by (simp only [go_sem, hb2, hb6, hb9]) <;> (repeat' with_reducible apply And.intro) <;> first | assumption | rfl | omega) (by (simp only [go_sem, hb2, hb6, hb9]) <;> (repeat' with_reducible apply And.intro) <;> first | assumption | rfl | omega) [(0, .sl Y0 specs), (1, .sl Y1 word), (5, .own 36000), (6, .int .i64 v0_8.2), (7, .bool v0_8.1), (8, .bool v0_9.1), (9, .int .i64 v0_9.2), (58, .tup [.int .i64 v0_10.1, .int .i64 v0_10.2])] [(36000, .arr 55 Y1 v0_5.1)] (by (simp only [go_sem, hb2, hb6, hb9]) <;> (repeat' with_reducible apply And.intro) <;> first | assumption | rfl | omega) ?_
        refine AO.allF tab_ok (by decide) [(0, .sl Y0 specs), (1, .sl Y1 word), (5, .own 36000), (6, .int .i64 v0_8.2), (7, .bool v0_8.1), (8, .bool v0_9.1), (9, .int .i64 v0_9.2), (10, .int .i64 v0_10.1), (11, .int .i64 v0_10.2)] [(36000, .arr 55 Y1 v0_5.1)] (by (simp only [go_sem, hb2, hb6, hb9]) <;> (repeat' with_reducible apply And.intro) <;> first | assumption | rfl | omega) ?_
        refine athen_n ?_
        refine AW.seq ?_
        refine AW.ops ?_
        refine AO.segF tab_ok 2 (by decide) [(0, .sl Y0 specs), (1, .sl Y1 word), (5, .own 36000), (6, .int .i64 v0_8.2), (7, .bool v0_8.1), (8, .bool v0_9.1), (9, .int .i64 v0_9.2), (10, .int .i64 v0_10.1), (11, .int .i64 v0_10.2), (62, .sl Y0 specs), (63, .own 36000)] [(36000, .arr 55 Y1 v0_5.1)] (by (simp only [go_sem, hb2, hb6, hb9]) <;> (repeat' with_reducible apply And.intro) <;> first | assumption | rfl | omega) ?_
        obtain ⟨v0_11, hv18, h⟩ := Option.bind_eq_some_iff.1 h
        refine AO.call tab_ok (by decide) rfl rfl rfl (fun _ h => h) [36000] [] (hc_history_Order specs v0_5.1 hv18) rfl (by (simp only [go_sem, hb2, hb6, hb9]) <;> (repeat' with_reducible apply And.intro) <;> first | assumption | rfl | omega) (by (simp only [go_sem, hb2, hb6, hb9]) <;> (repeat' with_reducible apply And.intro) <;> first | assumption | rfl | omega) [(0, .sl Y0 specs), (1, .sl Y1 word), (5, .own 36000), (6, .int .i64 v0_8.2), (7, .bool v0_8.1), (8, .bool v0_9.1), (9, .int .i64 v0_9.2), (10, .int .i64 v0_10.1), (11, .int .i64 v0_10.2), (64, .tup [.own 74000, .int .i64 v0_11.2])] [(36000, .arr 55 Y1 v0_5.1), (74000, .arr 3 (.int .i64) v0_11.1)] (by (simp only [go_sem, hb2, hb6, hb9]) <;> (repeat' with_reducible apply And.intro) <;> first | assumption | rfl | omega) ?_
        refine AO.allF tab_ok (by decide) [(0, .sl Y0 specs), (1, .sl Y1 word), (5, .own 36000), (6, .int .i64 v0_8.2), (7, .bool v0_8.1), (8, .bool v0_9.1), (9, .int .i64 v0_9.2), (10, .int .i64 v0_10.1), (11, .int .i64 v0_10.2), (12, .own 74000), (13, .int .i64 v0_11.2)] [(36000, .arr 55 Y1 v0_5.1), (74000, .arr 3 (.int .i64) v0_11.1)] (by (simp only [go_sem, hb2, hb6, hb9]) <;> (repeat' with_reducible apply And.intro) <;> first | assumption | rfl | omega) ?_
        refine athen_n ?_
        refine AW.seq ?_
        refine AW.seq ?_
        refine AW.ops ?_
        refine AO.segF tab_ok 3 (by decide) [(0, .sl Y0 specs), (1, .sl Y1 word), (5, .own 36000), (7, .bool v0_8.1), (8, .bool v0_9.1), (9, .int .i64 v0_9.2), (10, .int .i64 v0_10.1), (11, .int .i64 v0_10.2), (12, .own 74000), (13, .int .i64 v0_11.2), (69, .bool (!(decide (v0_8.2 = 0))))] [(36000, .arr 55 Y1 v0_5.1), (74000, .arr 3 (.int .i64) v0_11.1)] (by (simp only [go_sem, hb2, hb6, hb9]) <;> (repeat' with_reducible apply And.intro) <;> first | assumption | rfl | omega) ?_
        rcases Bool.eq_false_or_eq_true (!(decide (v0_8.2 = 0))) with hb19 | hb19
        · rw [if_pos hb19] at h
          refine AO.weaken (s' := ⟨fr [(0, .sl Y0 specs), (1, .sl Y1 word), (5, .own 36000), (7, .bool v0_8.1), (8, .bool v0_9.1), (9, .int .i64 v0_9.2), (10, .int .i64 v0_10.1), (11, .int .i64 v0_10.2), (12, .own 74000), (13, .int .i64 v0_11.2), (69, .bool true)], hpGet [(36000, .arr 55 Y1 v0_5.1), (74000, .arr 3 (.int .i64) v0_11.1)], gt⟩) (Wk.to (by (simp only [go_sem, hb2, hb6, hb9, hb19]) <;> (repeat' with_reducible apply And.intro) <;> first | assumption | rfl | omega)) ?_
          refine AO.segF tab_ok 6 (by decide) [(0, .sl Y0 specs), (1, .sl Y1 word), (5, .own 36000), (7, .bool v0_8.1), (8, .bool v0_9.1), (10, .int .i64 v0_10.1), (12, .own 74000), (13, .int .i64 v0_11.2), (73, .bool true), (75, .cv (undef))] [(36000, .arr 55 Y1 v0_5.1), (74000, .arr 3 (.int .i64) v0_11.1)] (by (simp only [go_sem, hb2, hb6, hb9, hb19]) <;> (repeat' with_reducible apply And.intro) <;> first | assumption | rfl | omega) ?_
          refine AO.segF tab_ok 8 (by decide) [(0, .sl Y0 specs), (1, .sl Y1 word), (5, .own 36000), (8, .bool v0_9.1), (10, .int .i64 v0_10.1), (12, .own 74000), (81, .bool true), (83, .cv (undef))] [(36000, .arr 55 Y1 v0_5.1), (74000, .arr 3 (.int .i64) v0_11.1)] (by (simp only [go_sem, hb2, hb6, hb9, hb19]) <;> (repeat' with_reducible apply And.intro) <;> first | assumption | rfl | omega) ?_
          refine AO.segF tab_ok 8 (by decide) [(0, .sl Y0 specs), (1, .sl Y1 word), (5, .own 36000), (12, .own 74000), (89, .bool true), (91, .cv (undef))] [(36000, .arr 55 Y1 v0_5.1), (74000, .arr 3 (.int .i64) v0_11.1)] (by (simp only [go_sem, hb2, hb6, hb9, hb19]) <;> (repeat' with_reducible apply And.intro) <;> first | assumption | rfl | omega) ?_
          refine AO.segF tab_ok 6 (by decide) [(0, .sl Y0 specs), (1, .sl Y1 word), (5, .own 36000), (12, .own 74000), (93, .bool true), (95, .cv (undef)), (97, .cv (undef))] [(36000, .arr 55 Y1 v0_5.1), (74000, .arr 3 (.int .i64) v0_11.1)] (by (simp only [go_sem, hb2, hb6, hb9, hb19]) <;> (repeat' with_reducible apply And.intro) <;> first | assumption | rfl | omega) ?_
          refine AO.segF tab_ok 6 (by decide) [(0, .sl Y0 specs), (1, .sl Y1 word), (5, .own 36000), (12, .own 74000), (100, .bool true), (102, .cv (undef)), (103, .cv (undef))] [(36000, .arr 55 Y1 v0_5.1), (74000, .arr 3 (.int .i64) v0_11.1)] (by (simp only [go_sem, hb2, hb6, hb9, hb19]) <;> (repeat' with_reducible apply And.intro) <;> first | assumption | rfl | omega) ?_
          refine AO.allF tab_ok (by decide) [(0, .sl Y0 specs), (1, .sl Y1 word), (5, .own 36000), (12, .own 74000), (106, .bool true)] [(36000, .arr 55 Y1 v0_5.1), (74000, .arr 3 (.int .i64) v0_11.1)] (by (simp only [go_sem, hb2, hb6, hb9, hb19]) <;> (repeat' with_reducible apply And.intro) <;> first | assumption | rfl | omega) ?_
          refine athen_n ?_
          refine AW.cond (b := true) rfl (fun _ => ?_) (fun hb20 => by cases hb20)
          refine AW.seq ?_
          refine AW.ops ?_
          refine AO.allF tab_ok (by decide) [(4, .bool false)] [] (by (simp only [go_sem, hb2, hb6, hb9, hb19]) <;> (repeat' with_reducible apply And.intro) <;> first | assumption | rfl | omega) ?_
          refine athen_n ?_
          refine AW.ret ?_
          refine athen_r ?_
          obtain rfl := Option.some.inj h
          exact ⟨rfl, [], [], [], rfl, (by (simp only [go_sem, hb2, hb6, hb9, hb19]) <;> (repeat' with_reducible apply And.intro) <;> first | assumption | rfl | omega)⟩
        · rw [if_neg (Bool.eq_false_iff.1 hb19)] at h
          refine AO.weaken (s' := ⟨fr [(0, .sl Y0 specs), (1, .sl Y1 word), (5, .own 36000), (7, .bool v0_8.1), (8, .bool v0_9.1), (9, .int .i64 v0_9.2), (10, .int .i64 v0_10.1), (11, .int .i64 v0_10.2), (12, .own 74000), (13, .int .i64 v0_11.2), (69, .bool false)], hpGet [(36000, .arr 55 Y1 v0_5.1), (74000, .arr 3 (.int .i64) v0_11.1)], gt⟩) (Wk.to (by (simp only [go_sem, hb2, hb6, hb9, hb19]) <;> (repeat' with_reducible apply And.intro) <;> first | assumption | rfl | omega)) ?_
          refine AO.segF tab_ok 4 (by decide) [(0, .sl Y0 specs), (1, .sl Y1 word), (5, .own 36000), (7, .bool v0_8.1), (8, .bool v0_9.1), (10, .int .i64 v0_10.1), (11, .int .i64 v0_10.2), (12, .own 74000), (13, .int .i64 v0_11.2), (73, .bool (!(decide (v0_9.2 = 0))))] [(36000, .arr 55 Y1 v0_5.1), (74000, .arr 3 (.int .i64) v0_11.1)] (by (simp only [go_sem, hb2, hb6, hb9, hb19]) <;> (repeat' with_reducible apply And.intro) <;> first | assumption | rfl | omega) ?_
          rcases Bool.eq_false_or_eq_true (!(decide (v0_9.2 = 0))) with hb21 | hb21
          · rw [if_pos hb21] at h
            refine AO.weaken (s' := ⟨fr [(0, .sl Y0 specs), (1, .sl Y1 word), (5, .own 36000), (7, .bool v0_8.1), (8, .bool v0_9.1), (10, .int .i64 v0_10.1), (11, .int .i64 v0_10.2), (12, .own 74000), (13, .int .i64 v0_11.2), (73, .bool true)], hpGet [(36000, .arr 55 Y1 v0_5.1), (74000, .arr 3 (.int .i64) v0_11.1)], gt⟩) (Wk.to (by (simp only [go_sem, hb2, hb6, hb9, hb19, hb21]) <;> (repeat' with_reducible apply And.intro) <;> first | assumption | rfl | omega)) ?_
            refine AO.segF tab_ok 6 (by decide) [(0, .sl Y0 specs), (1, .sl Y1 word), (5, .own 36000), (7, .bool v0_8.1), (8, .bool v0_9.1), (10, .int .i64 v0_10.1), (12, .own 74000), (77, .bool true), (79, .cv (undef))] [(36000, .arr 55 Y1 v0_5.1), (74000, .arr 3 (.int .i64) v0_11.1)] (by (simp only [go_sem, hb2, hb6, hb9, hb19, hb21]) <;> (repeat' with_reducible apply And.intro) <;> first | assumption | rfl | omega) ?_
            refine AO.segF tab_ok 8 (by decide) [(0, .sl Y0 specs), (1, .sl Y1 word), (5, .own 36000), (10, .int .i64 v0_10.1), (12, .own 74000), (85, .bool true), (87, .cv (undef))] [(36000, .arr 55 Y1 v0_5.1), (74000, .arr 3 (.int .i64) v0_11.1)] (by (simp only [go_sem, hb2, hb6, hb9, hb19, hb21]) <;> (repeat' with_reducible apply And.intro) <;> first | assumption | rfl | omega) ?_
            refine AO.segF tab_ok 8 (by decide) [(0, .sl Y0 specs), (1, .sl Y1 word), (5, .own 36000), (12, .own 74000), (93, .bool true), (95, .cv (undef))] [(36000, .arr 55 Y1 v0_5.1), (74000, .arr 3 (.int .i64) v0_11.1)] (by (simp only [go_sem, hb2, hb6, hb9, hb19, hb21]) <;> (repeat' with_reducible apply And.intro) <;> first | assumption | rfl | omega) ?_
            refine AO.segF tab_ok 6 (by decide) [(0, .sl Y0 specs), (1, .sl Y1 word), (5, .own 36000), (12, .own 74000), (100, .bool true), (101, .cv (undef))] [(36000, .arr 55 Y1 v0_5.1), (74000, .arr 3 (.int .i64) v0_11.1)] (by (simp only [go_sem, hb2, hb6, hb9, hb19, hb21]) <;> (repeat' with_reducible apply And.intro) <;> first | assumption | rfl | omega) ?_
            refine AO.segF tab_ok 4 (by decide) [(0, .sl Y0 specs), (1, .sl Y1 word), (5, .own 36000), (12, .own 74000), (100, .bool true), (105, .cv (undef))] [(36000, .arr 55 Y1 v0_5.1), (74000, .arr 3 (.int .i64) v0_11.1)] (by (simp only [go_sem, hb2, hb6, hb9, hb19, hb21]) <;> (repeat' with_reducible apply And.intro) <;> first | assumption | rfl | omega) ?_
            refine AO.allF tab_ok (by decide) [(0, .sl Y0 specs), (1, .sl Y1 word), (5, .own 36000), (12, .own 74000), (106, .bool true)] [(36000, .arr 55 Y1 v0_5.1), (74000, .arr 3 (.int .i64) v0_11.1)] (by (simp only [go_sem, hb2, hb6, hb9, hb19, hb21]) <;> (repeat' with_reducible apply And.intro) <;> first | assumption | rfl | omega) ?_
            refine athen_n ?_
            refine AW.cond (b := true) rfl (fun _ => ?_) (fun hb22 => by cases hb22)
            refine AW.seq ?_
            refine AW.ops ?_
            refine AO.allF tab_ok (by decide) [(4, .bool false)] [] (by (simp only [go_sem, hb2, hb6, hb9, hb19, hb21]) <;> (repeat' with_reducible apply And.intro) <;> first | assumption | rfl | omega) ?_
            refine athen_n ?_
            refine AW.ret ?_
            refine athen_r ?_
            obtain rfl := Option.some.inj h
            exact ⟨rfl, [], [], [], rfl, (by (simp only [go_sem, hb2, hb6, hb9, hb19, hb21]) <;> (repeat' with_reducible apply And.intro) <;> first | assumption | rfl | omega)⟩
          · rw [if_neg (Bool.eq_false_iff.1 hb21)] at h
            refine AO.weaken (s' := ⟨fr [(0, .sl Y0 specs), (1, .sl Y1 word), (5, .own 36000), (7, .bool v0_8.1), (8, .bool v0_9.1), (10, .int .i64 v0_10.1), (11, .int .i64 v0_10.2), (12, .own 74000), (13, .int .i64 v0_11.2), (73, .bool false)], hpGet [(36000, .arr 55 Y1 v0_5.1), (74000, .arr 3 (.int .i64) v0_11.1)], gt⟩) (Wk.to (by (simp only [go_sem, hb2, hb6, hb9, hb19, hb21]) <;> (repeat' with_reducible apply And.intro) <;> first | assumption | rfl | omega)) ?_
            refine AO.segF tab_ok 4 (by decide) [(0, .sl Y0 specs), (1, .sl Y1 word), (5, .own 36000), (7, .bool v0_8.1), (8, .bool v0_9.1), (10, .int .i64 v0_10.1), (12, .own 74000), (13, .int .i64 v0_11.2), (77, .bool (!(decide (v0_10.2 = 0))))] [(36000, .arr 55 Y1 v0_5.1), (74000, .arr 3 (.int .i64) v0_11.1)] (by (simp only [go_sem, hb2, hb6, hb9, hb19, hb21]) <;> (repeat' with_reducible apply And.intro) <;> first | assumption | rfl | omega) ?_
            rcases Bool.eq_false_or_eq_true (!(decide (v0_10.2 = 0))) with hb23 | hb23
            · rw [if_pos hb23] at h
              refine AO.weaken (s' := ⟨fr [(0, .sl Y0 specs), (1, .sl Y1 word), (5, .own 36000), (7, .bool v0_8.1), (8, .bool v0_9.1), (10, .int .i64 v0_10.1), (12, .own 74000), (13, .int .i64 v0_11.2), (77, .bool true)], hpGet [(36000, .arr 55 Y1 v0_5.1), (74000, .arr 3 (.int .i64) v0_11.1)], gt⟩) (Wk.to (by (simp only [go_sem, hb2, hb6, hb9, hb19, hb21, hb23]) <;> (repeat' with_reducible apply And.intro) <;> first | assumption | rfl | omega)) ?_
              refine AO.segF tab_ok 6 (by decide) [(0, .sl Y0 specs), (1, .sl Y1 word), (5, .own 36000), (8, .bool v0_9.1), (10, .int .i64 v0_10.1), (12, .own 74000), (81, .bool true), (83, .cv (undef))] [(36000, .arr 55 Y1 v0_5.1), (74000, .arr 3 (.int .i64) v0_11.1)] (by (simp only [go_sem, hb2, hb6, hb9, hb19, hb21, hb23]) <;> (repeat' with_reducible apply And.intro) <;> first | assumption | rfl | omega) ?_
              refine AO.segF tab_ok 8 (by decide) [(0, .sl Y0 specs), (1, .sl Y1 word), (5, .own 36000), (12, .own 74000), (89, .bool true), (91, .cv (undef))] [(36000, .arr 55 Y1 v0_5.1), (74000, .arr 3 (.int .i64) v0_11.1)] (by (simp only [go_sem, hb2, hb6, hb9, hb19, hb21, hb23]) <;> (repeat' with_reducible apply And.intro) <;> first | assumption | rfl | omega) ?_
              refine AO.segF tab_ok 6 (by decide) [(0, .sl Y0 specs), (1, .sl Y1 word), (5, .own 36000), (12, .own 74000), (93, .bool true), (95, .cv (undef)), (97, .cv (undef))] [(36000, .arr 55 Y1 v0_5.1), (74000, .arr 3 (.int .i64) v0_11.1)] (by (simp only [go_sem, hb2, hb6, hb9, hb19, hb21, hb23]) <;> (repeat' with_reducible apply And.intro) <;> first | assumption | rfl | omega) ?_
              refine AO.segF tab_ok 6 (by decide) [(0, .sl Y0 specs), (1, .sl Y1 word), (5, .own 36000), (12, .own 74000), (100, .bool true), (102, .cv (undef)), (103, .cv (undef))] [(36000, .arr 55 Y1 v0_5.1), (74000, .arr 3 (.int .i64) v0_11.1)] (by (simp only [go_sem, hb2, hb6, hb9, hb19, hb21, hb23]) <;> (repeat' with_reducible apply And.intro) <;> first | assumption | rfl | omega) ?_
              refine AO.allF tab_ok (by decide) [(0, .sl Y0 specs), (1, .sl Y1 word), (5, .own 36000), (12, .own 74000), (106, .bool true)] [(36000, .arr 55 Y1 v0_5.1), (74000, .arr 3 (.int .i64) v0_11.1)] (by (simp only [go_sem, hb2, hb6, hb9, hb19, hb21, hb23]) <;> (repeat' with_reducible apply And.intro) <;> first | assumption | rfl | omega) ?_
              refine athen_n ?_
              refine AW.cond (b := true) rfl (fun _ => ?_) (fun hb24 => by cases hb24)
              refine AW.seq ?_
              refine AW.ops ?_
              refine AO.allF tab_ok (by decide) [(4, .bool false)] [] (by (simp only [go_sem, hb2, hb6, hb9, hb19, hb21, hb23]) <;> (repeat' with_reducible apply And.intro) <;> first | assumption | rfl | omega) ?_
              refine athen_n ?_
              refine AW.ret ?_
              refine athen_r ?_
              obtain rfl := Option.some.inj h
              exact ⟨rfl, [], [], [], rfl, (by (simp only [go_sem, hb2, hb6, hb9, hb19, hb21, hb23]) <;> (repeat' with_reducible apply And.intro) <;> first | assumption | rfl | omega)⟩
            · rw [if_neg (Bool.eq_false_iff.1 hb23)] at h
              refine AO.weaken (s' := ⟨fr [(0, .sl Y0 specs), (1, .sl Y1 word), (5, .own 36000), (7, .bool v0_8.1), (8, .bool v0_9.1), (10, .int .i64 v0_10.1), (12, .own 74000), (13, .int .i64 v0_11.2), (77, .bool false)], hpGet [(36000, .arr 55 Y1 v0_5.1), (74000, .arr 3 (.int .i64) v0_11.1)], gt⟩) (Wk.to (by (simp only [go_sem, hb2, hb6, hb9, hb19, hb21, hb23]) <;> (repeat' with_reducible apply And.intro) <;> first | assumption | rfl | omega)) ?_
              refine AO.segF tab_ok 4 (by decide) [(0, .sl Y0 specs), (1, .sl Y1 word), (5, .own 36000), (7, .bool v0_8.1), (8, .bool v0_9.1), (10, .int .i64 v0_10.1), (12, .own 74000), (81, .bool (!(decide (v0_11.2 = 0))))] [(36000, .arr 55 Y1 v0_5.1), (74000, .arr 3 (.int .i64) v0_11.1)] (by (simp only [go_sem, hb2, hb6, hb9, hb19, hb21, hb23]) <;> (repeat' with_reducible apply And.intro) <;> first | assumption | rfl | omega) ?_
              rcases Bool.eq_false_or_eq_true (!(decide (v0_11.2 = 0))) with hb25 | hb25
              · rw [if_pos hb25] at h
                refine AO.weaken (s' := ⟨fr [(0, .sl Y0 specs), (1, .sl Y1 word), (5, .own 36000), (7, .bool v0_8.1), (8, .bool v0_9.1), (10, .int .i64 v0_10.1), (12, .own 74000), (81, .bool true)], hpGet [(36000, .arr 55 Y1 v0_5.1), (74000, .arr 3 (.int .i64) v0_11.1)], gt⟩) (Wk.to (by (simp only [go_sem, hb2, hb6, hb9, hb19, hb21, hb23, hb25]) <;> (repeat' with_reducible apply And.intro) <;> first | assumption | rfl | omega)) ?_
                refine AO.segF tab_ok 6 (by decide) [(0, .sl Y0 specs), (1, .sl Y1 word), (5, .own 36000), (10, .int .i64 v0_10.1), (12, .own 74000), (85, .bool true), (87, .cv (undef))] [(36000, .arr 55 Y1 v0_5.1), (74000, .arr 3 (.int .i64) v0_11.1)] (by (simp only [go_sem, hb2, hb6, hb9, hb19, hb21, hb23, hb25]) <;> (repeat' with_reducible apply And.intro) <;> first | assumption | rfl | omega) ?_
                refine AO.segF tab_ok 8 (by decide) [(0, .sl Y0 specs), (1, .sl Y1 word), (5, .own 36000), (12, .own 74000), (93, .bool true), (95, .cv (undef))] [(36000, .arr 55 Y1 v0_5.1), (74000, .arr 3 (.int .i64) v0_11.1)] (by (simp only [go_sem, hb2, hb6, hb9, hb19, hb21, hb23, hb25]) <;> (repeat' with_reducible apply And.intro) <;> first | assumption | rfl | omega) ?_
                refine AO.segF tab_ok 6 (by decide) [(0, .sl Y0 specs), (1, .sl Y1 word), (5, .own 36000), (12, .own 74000), (100, .bool true), (101, .cv (undef))] [(36000, .arr 55 Y1 v0_5.1), (74000, .arr 3 (.int .i64) v0_11.1)] (by (simp only [go_sem, hb2, hb6, hb9, hb19, hb21, hb23, hb25]) <;> (repeat' with_reducible apply And.intro) <;> first | assumption | rfl | omega) ?_
                refine AO.segF tab_ok 4 (by decide) [(0, .sl Y0 specs), (1, .sl Y1 word), (5, .own 36000), (12, .own 74000), (100, .bool true), (105, .cv (undef))] [(36000, .arr 55 Y1 v0_5.1), (74000, .arr 3 (.int .i64) v0_11.1)] (by (simp only [go_sem, hb2, hb6, hb9, hb19, hb21, hb23, hb25]) <;> (repeat' with_reducible apply And.intro) <;> first | assumption | rfl | omega) ?_
                refine AO.allF tab_ok (by decide) [(0, .sl Y0 specs), (1, .sl Y1 word), (5, .own 36000), (12, .own 74000), (106, .bool true)] [(36000, .arr 55 Y1 v0_5.1), (74000, .arr 3 (.int .i64) v0_11.1)] (by (simp only [go_sem, hb2, hb6, hb9, hb19, hb21, hb23, hb25]) <;> (repeat' with_reducible apply And.intro) <;> first | assumption | rfl | omega) ?_
                refine athen_n ?_
                refine AW.cond (b := true) rfl (fun _ => ?_) (fun hb26 => by cases hb26)
                refine AW.seq ?_
                refine AW.ops ?_
                refine AO.allF tab_ok (by decide) [(4, .bool false)] [] (by (simp only [go_sem, hb2, hb6, hb9, hb19, hb21, hb23, hb25]) <;> (repeat' with_reducible apply And.intro) <;> first | assumption | rfl | omega) ?_
                refine athen_n ?_
                refine AW.ret ?_
                refine athen_r ?_
                obtain rfl := Option.some.inj h
                exact ⟨rfl, [], [], [], rfl, (by (simp only [go_sem, hb2, hb6, hb9, hb19, hb21, hb23, hb25]) <;> (repeat' with_reducible apply And.intro) <;> first | assumption | rfl | omega)⟩
              · rw [if_neg (Bool.eq_false_iff.1 hb25)] at h
                refine AO.weaken (s' := ⟨fr [(0, .sl Y0 specs), (1, .sl Y1 word), (5, .own 36000), (7, .bool v0_8.1), (8, .bool v0_9.1), (10, .int .i64 v0_10.1), (12, .own 74000), (81, .bool false)], hpGet [(36000, .arr 55 Y1 v0_5.1), (74000, .arr 3 (.int .i64) v0_11.1)], gt⟩) (Wk.to (by (simp only [go_sem, hb2, hb6, hb9, hb19, hb21, hb23, hb25]) <;> (repeat' with_reducible apply And.intro) <;> first | assumption | rfl | omega)) ?_
                refine AO.segF tab_ok 4 (by decide) [(0, .sl Y0 specs), (1, .sl Y1 word), (5, .own 36000), (8, .bool v0_9.1), (10, .int .i64 v0_10.1), (12, .own 74000), (85, .bool (!v0_8.1))] [(36000, .arr 55 Y1 v0_5.1), (74000, .arr 3 (.int .i64) v0_11.1)] (by (simp only [go_sem, hb2, hb6, hb9, hb19, hb21, hb23, hb25]) <;> (repeat' with_reducible apply And.intro) <;> first | assumption | rfl | omega) ?_
                rcases Bool.eq_false_or_eq_true (!v0_8.1) with hb27 | hb27
                · rw [if_pos hb27] at h
                  refine AO.weaken (s' := ⟨fr [(0, .sl Y0 specs), (1, .sl Y1 word), (5, .own 36000), (8, .bool v0_9.1), (10, .int .i64 v0_10.1), (12, .own 74000), (85, .bool true)], hpGet [(36000, .arr 55 Y1 v0_5.1), (74000, .arr 3 (.int .i64) v0_11.1)], gt⟩) (Wk.to (by (simp only [go_sem, hb2, hb6, hb9, hb19, hb21, hb23, hb25, hb27]) <;> (repeat' with_reducible apply And.intro) <;> first | assumption | rfl | omega)) ?_
                  refine AO.segF tab_ok 6 (by decide) [(0, .sl Y0 specs), (1, .sl Y1 word), (5, .own 36000), (12, .own 74000), (89, .bool true), (91, .cv (undef))] [(36000, .arr 55 Y1 v0_5.1), (74000, .arr 3 (.int .i64) v0_11.1)] (by (simp only [go_sem, hb2, hb6, hb9, hb19, hb21, hb23, hb25, hb27]) <;> (repeat' with_reducible apply And.intro) <;> first | assumption | rfl | omega) ?_
                  refine AO.segF tab_ok 6 (by decide) [(0, .sl Y0 specs), (1, .sl Y1 word), (5, .own 36000), (12, .own 74000), (93, .bool true), (95, .cv (undef)), (97, .cv (undef))] [(36000, .arr 55 Y1 v0_5.1), (74000, .arr 3 (.int .i64) v0_11.1)] (by (simp only [go_sem, hb2, hb6, hb9, hb19, hb21, hb23, hb25, hb27]) <;> (repeat' with_reducible apply And.intro) <;> first | assumption | rfl | omega) ?_
                  refine AO.segF tab_ok 6 (by decide) [(0, .sl Y0 specs), (1, .sl Y1 word), (5, .own 36000), (12, .own 74000), (100, .bool true), (102, .cv (undef)), (103, .cv (undef))] [(36000, .arr 55 Y1 v0_5.1), (74000, .arr 3 (.int .i64) v0_11.1)] (by (simp only [go_sem, hb2, hb6, hb9, hb19, hb21, hb23, hb25, hb27]) <;> (repeat' with_reducible apply And.intro) <;> first | assumption | rfl | omega) ?_
                  refine AO.allF tab_ok (by decide) [(0, .sl Y0 specs), (1, .sl Y1 word), (5, .own 36000), (12, .own 74000), (106, .bool true)] [(36000, .arr 55 Y1 v0_5.1), (74000, .arr 3 (.int .i64) v0_11.1)] (by (simp only [go_sem, hb2, hb6, hb9, hb19, hb21, hb23, hb25, hb27]) <;> (repeat' with_reducible apply And.intro) <;> first | assumption | rfl | omega) ?_
                  refine athen_n ?_
                  refine AW.cond (b := true) rfl (fun _ => ?_) (fun hb28 => by cases hb28)
                  refine AW.seq ?_
                  refine AW.ops ?_
                  refine AO.allF tab_ok (by decide) [(4, .bool false)] [] (by (simp only [go_sem, hb2, hb6, hb9, hb19, hb21, hb23, hb25, hb27]) <;> (repeat' with_reducible apply And.intro) <;> first | assumption | rfl | omega) ?_
                  refine athen_n ?_
                  refine AW.ret ?_
                  refine athen_r ?_
                  obtain rfl := Option.some.inj h
                  exact ⟨rfl, [], [], [], rfl, (by (simp only [go_sem, hb2, hb6, hb9, hb19, hb21, hb23, hb25, hb27]) <;> (repeat' with_reducible apply And.intro) <;> first | assumption | rfl | omega)⟩
                · rw [if_neg (Bool.eq_false_iff.1 hb27)] at h
                  refine AO.weaken (s' := ⟨fr [(0, .sl Y0 specs), (1, .sl Y1 word), (5, .own 36000), (8, .bool v0_9.1), (10, .int .i64 v0_10.1), (12, .own 74000), (85, .bool false)], hpGet [(36000, .arr 55 Y1 v0_5.1), (74000, .arr 3 (.int .i64) v0_11.1)], gt⟩) (Wk.to (by (simp only [go_sem, hb2, hb6, hb9, hb19, hb21, hb23, hb25, hb27]) <;> (repeat' with_reducible apply And.intro) <;> first | assumption | rfl | omega)) ?_
                  refine AO.segF tab_ok 4 (by decide) [(0, .sl Y0 specs), (1, .sl Y1 word), (5, .own 36000), (10, .int .i64 v0_10.1), (12, .own 74000), (89, .bool (!v0_9.1))] [(36000, .arr 55 Y1 v0_5.1), (74000, .arr 3 (.int .i64) v0_11.1)] (by (simp only [go_sem, hb2, hb6, hb9, hb19, hb21, hb23, hb25, hb27]) <;> (repeat' with_reducible apply And.intro) <;> first | assumption | rfl | omega) ?_
                  rcases Bool.eq_false_or_eq_true (!v0_9.1) with hb29 | hb29
                  · rw [if_pos hb29] at h
                    refine AO.weaken (s' := ⟨fr [(0, .sl Y0 specs), (1, .sl Y1 word), (5, .own 36000), (10, .int .i64 v0_10.1), (12, .own 74000), (89, .bool true)], hpGet [(36000, .arr 55 Y1 v0_5.1), (74000, .arr 3 (.int .i64) v0_11.1)], gt⟩) (Wk.to (by (simp only [go_sem, hb2, hb6, hb9, hb19, hb21, hb23, hb25, hb27, hb29]) <;> (repeat' with_reducible apply And.intro) <;> first | assumption | rfl | omega)) ?_
                    refine AO.segF tab_ok 6 (by decide) [(0, .sl Y0 specs), (1, .sl Y1 word), (5, .own 36000), (12, .own 74000), (93, .bool true), (95, .cv (undef))] [(36000, .arr 55 Y1 v0_5.1), (74000, .arr 3 (.int .i64) v0_11.1)] (by (simp only [go_sem, hb2, hb6, hb9, hb19, hb21, hb23, hb25, hb27, hb29]) <;> (repeat' with_reducible apply And.intro) <;> first | assumption | rfl | omega) ?_
                    refine AO.segF tab_ok 6 (by decide) [(0, .sl Y0 specs), (1, .sl Y1 word), (5, .own 36000), (12, .own 74000), (100, .bool true), (101, .cv (undef))] [(36000, .arr 55 Y1 v0_5.1), (74000, .arr 3 (.int .i64) v0_11.1)] (by (simp only [go_sem, hb2, hb6, hb9, hb19, hb21, hb23, hb25, hb27, hb29]) <;> (repeat' with_reducible apply And.intro) <;> first | assumption | rfl | omega) ?_
                    refine AO.segF tab_ok 4 (by decide) [(0, .sl Y0 specs), (1, .sl Y1 word), (5, .own 36000), (12, .own 74000), (100, .bool true), (105, .cv (undef))] [(36000, .arr 55 Y1 v0_5.1), (74000, .arr 3 (.int .i64) v0_11.1)] (by (simp only [go_sem, hb2, hb6, hb9, hb19, hb21, hb23, hb25, hb27, hb29]) <;> (repeat' with_reducible apply And.intro) <;> first | assumption | rfl | omega) ?_
                    refine AO.allF tab_ok (by decide) [(0, .sl Y0 specs), (1, .sl Y1 word), (5, .own 36000), (12, .own 74000), (106, .bool true)] [(36000, .arr 55 Y1 v0_5.1), (74000, .arr 3 (.int .i64) v0_11.1)] (by (simp only [go_sem, hb2, hb6, hb9, hb19, hb21, hb23, hb25, hb27, hb29]) <;> (repeat' with_reducible apply And.intro) <;> first | assumption | rfl | omega) ?_
                    refine athen_n ?_
                    refine AW.cond (b := true) rfl (fun _ => ?_) (fun hb30 => by cases hb30)
                    refine AW.seq ?_
                    refine AW.ops ?_
                    refine AO.allF tab_ok (by decide) [(4, .bool false)] [] (by (simp only [go_sem, hb2, hb6, hb9, hb19, hb21, hb23, hb25, hb27, hb29]) <;> (repeat' with_reducible apply And.intro) <;> first | assumption | rfl | omega) ?_
                    refine athen_n ?_
                    refine AW.ret ?_
                    refine athen_r ?_
                    obtain rfl := Option.some.inj h
                    exact ⟨rfl, [], [], [], rfl, (by (simp only [go_sem, hb2, hb6, hb9, hb19, hb21, hb23, hb25, hb27, hb29]) <;> (repeat' with_reducible apply And.intro) <;> first | assumption | rfl | omega)⟩
                  · rw [if_neg (Bool.eq_false_iff.1 hb29)] at h
                    refine AO.weaken (s' := ⟨fr [(0, .sl Y0 specs), (1, .sl Y1 word), (5, .own 36000), (10, .int .i64 v0_10.1), (12, .own 74000), (89, .bool false)], hpGet [(36000, .arr 55 Y1 v0_5.1), (74000, .arr 3 (.int .i64) v0_11.1)], gt⟩) (Wk.to (by (simp only [go_sem, hb2, hb6, hb9, hb19, hb21, hb23, hb25, hb27, hb29]) <;> (repeat' with_reducible apply And.intro) <;> first | assumption | rfl | omega)) ?_
                    refine AO.segF tab_ok 4 (by decide) [(0, .sl Y0 specs), (1, .sl Y1 word), (5, .own 36000), (12, .own 74000), (93, .bool (decide (1 < v0_10.1)))] [(36000, .arr 55 Y1 v0_5.1), (74000, .arr 3 (.int .i64) v0_11.1)] (by (simp only [go_sem, hb2, hb6, hb9, hb19, hb21, hb23, hb25, hb27, hb29]) <;> (repeat' with_reducible apply And.intro) <;> first | assumption | rfl | omega) ?_
                    rcases Bool.eq_false_or_eq_true (decide (1 < v0_10.1)) with hb31 | hb31
                    · rw [if_pos hb31] at h
                      refine AO.weaken (s' := ⟨fr [(0, .sl Y0 specs), (1, .sl Y1 word), (5, .own 36000), (12, .own 74000), (93, .bool true)], hpGet [(36000, .arr 55 Y1 v0_5.1), (74000, .arr 3 (.int .i64) v0_11.1)], gt⟩) (Wk.to (by (simp only [go_sem, hb2, hb6, hb9, hb19, hb21, hb23, hb25, hb27, hb29, hb31]) <;> (repeat' with_reducible apply And.intro) <;> first | assumption | rfl | omega)) ?_
                      refine AO.segF tab_ok 4 (by decide) [(0, .sl Y0 specs), (1, .sl Y1 word), (5, .own 36000), (12, .own 74000), (93, .bool true), (95, .cv (undef)), (97, .cv (undef))] [(36000, .arr 55 Y1 v0_5.1), (74000, .arr 3 (.int .i64) v0_11.1)] (by (simp only [go_sem, hb2, hb6, hb9, hb19, hb21, hb23, hb25, hb27, hb29, hb31]) <;> (repeat' with_reducible apply And.intro) <;> first | assumption | rfl | omega) ?_
                      refine AO.segF tab_ok 6 (by decide) [(0, .sl Y0 specs), (1, .sl Y1 word), (5, .own 36000), (12, .own 74000), (100, .bool true), (102, .cv (undef)), (103, .cv (undef))] [(36000, .arr 55 Y1 v0_5.1), (74000, .arr 3 (.int .i64) v0_11.1)] (by (simp only [go_sem, hb2, hb6, hb9, hb19, hb21, hb23, hb25, hb27, hb29, hb31]) <;> (repeat' with_reducible apply And.intro) <;> first | assumption | rfl | omega) ?_
                      refine AO.allF tab_ok (by decide) [(0, .sl Y0 specs), (1, .sl Y1 word), (5, .own 36000), (12, .own 74000), (106, .bool true)] [(36000, .arr 55 Y1 v0_5.1), (74000, .arr 3 (.int .i64) v0_11.1)] (by (simp only [go_sem, hb2, hb6, hb9, hb19, hb21, hb23, hb25, hb27, hb29, hb31]) <;> (repeat' with_reducible apply And.intro) <;> first | assumption | rfl | omega) ?_
                      refine athen_n ?_
                      refine AW.cond (b := true) rfl (fun _ => ?_) (fun hb32 => by cases hb32)
                      refine AW.seq ?_
                      refine AW.ops ?_
                      refine AO.allF tab_ok (by decide) [(4, .bool false)] [] (by (simp only [go_sem, hb2, hb6, hb9, hb19, hb21, hb23, hb25, hb27, hb29, hb31]) <;> (repeat' with_reducible apply And.intro) <;> first | assumption | rfl | omega) ?_
                      refine athen_n ?_
                      refine AW.ret ?_
                      refine athen_r ?_
                      obtain rfl := Option.some.inj h
                      exact ⟨rfl, [], [], [], rfl, (by (simp only [go_sem, hb2, hb6, hb9, hb19, hb21, hb23, hb25, hb27, hb29, hb31]) <;> (repeat' with_reducible apply And.intro) <;> first | assumption | rfl | omega)⟩
                    · rw [if_neg (Bool.eq_false_iff.1 hb31)] at h
                      refine AO.weaken (s' := ⟨fr [(0, .sl Y0 specs), (1, .sl Y1 word), (5, .own 36000), (12, .own 74000), (93, .bool false)], hpGet [(36000, .arr 55 Y1 v0_5.1), (74000, .arr 3 (.int .i64) v0_11.1)], gt⟩) (Wk.to (by (simp only [go_sem, hb2, hb6, hb9, hb19, hb21, hb23, hb25, hb27, hb29, hb31]) <;> (repeat' with_reducible apply And.intro) <;> first | assumption | rfl | omega)) ?_
                      refine AO.segF tab_ok 7 (by decide) [(0, .sl Y0 specs), (1, .sl Y1 word), (5, .own 36000), (12, .own 74000), (100, .bool (!(decide ((v0_5.1.length : Int) = (word.length : Int)))))] [(36000, .arr 55 Y1 v0_5.1), (74000, .arr 3 (.int .i64) v0_11.1)] (by (simp only [go_sem, hb2, hb6, hb9, hb19, hb21, hb23, hb25, hb27, hb29, hb31]) <;> (repeat' with_reducible apply And.intro) <;> first | assumption | rfl | omega) ?_
                      rcases Bool.eq_false_or_eq_true (!(decide ((v0_5.1.length : Int) = (word.length : Int)))) with hb33 | hb33
                      · rw [if_pos hb33] at h
                        refine AO.weaken (s' := ⟨fr [(0, .sl Y0 specs), (1, .sl Y1 word), (5, .own 36000), (12, .own 74000), (100, .bool true)], hpGet [(36000, .arr 55 Y1 v0_5.1), (74000, .arr 3 (.int .i64) v0_11.1)], gt⟩) (Wk.to (by (simp only [go_sem, hb2, hb6, hb9, hb19, hb21, hb23, hb25, hb27, hb29, hb31, hb33]) <;> (repeat' with_reducible apply And.intro) <;> first | assumption | rfl | omega)) ?_
                        refine AO.segF tab_ok 4 (by decide) [(0, .sl Y0 specs), (1, .sl Y1 word), (5, .own 36000), (12, .own 74000), (100, .bool true), (102, .cv (undef)), (104, .cv (undef))] [(36000, .arr 55 Y1 v0_5.1), (74000, .arr 3 (.int .i64) v0_11.1)] (by (simp only [go_sem, hb2, hb6, hb9, hb19, hb21, hb23, hb25, hb27, hb29, hb31, hb33]) <;> (repeat' with_reducible apply And.intro) <;> first | assumption | rfl | omega) ?_
                        refine AO.allF tab_ok (by decide) [(0, .sl Y0 specs), (1, .sl Y1 word), (5, .own 36000), (12, .own 74000), (106, .bool true)] [(36000, .arr 55 Y1 v0_5.1), (74000, .arr 3 (.int .i64) v0_11.1)] (by (simp only [go_sem, hb2, hb6, hb9, hb19, hb21, hb23, hb25, hb27, hb29, hb31, hb33]) <;> (repeat' with_reducible apply And.intro) <;> first | assumption | rfl | omega) ?_
                        refine athen_n ?_
                        refine AW.cond (b := true) rfl (fun _ => ?_) (fun hb34 => by cases hb34)
                        refine AW.seq ?_
                        refine AW.ops ?_
                        refine AO.allF tab_ok (by decide) [(4, .bool false)] [] (by (simp only [go_sem, hb2, hb6, hb9, hb19, hb21, hb23, hb25, hb27, hb29, hb31, hb33]) <;> (repeat' with_reducible apply And.intro) <;> first | assumption | rfl | omega) ?_
                        refine athen_n ?_
                        refine AW.ret ?_
                        refine athen_r ?_
                        obtain rfl := Option.some.inj h
                        exact ⟨rfl, [], [], [], rfl, (by (simp only [go_sem, hb2, hb6, hb9, hb19, hb21, hb23, hb25, hb27, hb29, hb31, hb33]) <;> (repeat' with_reducible apply And.intro) <;> first | assumption | rfl | omega)⟩
                      · rw [if_neg (Bool.eq_false_iff.1 hb33)] at h
                        refine AO.weaken (s' := ⟨fr [(0, .sl Y0 specs), (1, .sl Y1 word), (5, .own 36000), (12, .own 74000), (100, .bool false)], hpGet [(36000, .arr 55 Y1 v0_5.1), (74000, .arr 3 (.int .i64) v0_11.1)], gt⟩) (Wk.to (by (simp only [go_sem, hb2, hb6, hb9, hb19, hb21, hb23, hb25, hb27, hb29, hb31, hb33]) <;> (repeat' with_reducible apply And.intro) <;> first | assumption | rfl | omega)) ?_
                        refine AO.allF tab_ok (by decide) [(0, .sl Y0 specs), (1, .sl Y1 word), (5, .own 36000), (12, .own 74000), (106, .bool (!(decide ((v0_11.1.length : Int) = (v0_5.1.length : Int)))))] [(36000, .arr 55 Y1 v0_5.1), (74000, .arr 3 (.int .i64) v0_11.1)] (by (simp only [go_sem, hb2, hb6, hb9, hb19, hb21, hb23, hb25, hb27, hb29, hb31, hb33]) <;> (repeat' with_reducible apply And.intro) <;> first | assumption | rfl | omega) ?_
                        refine athen_n ?_
                        refine AW.cond (b := (!(decide ((v0_11.1.length : Int) = (v0_5.1.length : Int))))) rfl (fun hb35 => ?_) (fun hb35 => ?_)
                        · rw [if_pos hb35] at h
                          refine AW.seq ?_
                          refine AW.ops ?_
                          refine AO.allF tab_ok (by decide) [(4, .bool false)] [] (by (simp only [go_sem, hb2, hb6, hb9, hb19, hb21, hb23, hb25, hb27, hb29, hb31, hb33, hb35]) <;> (repeat' with_reducible apply And.intro) <;> first | assumption | rfl | omega) ?_
                          refine athen_n ?_
                          refine AW.ret ?_
                          refine athen_r ?_
                          obtain rfl := Option.some.inj h
                          exact ⟨rfl, [], [], [], rfl, (by (simp only [go_sem, hb2, hb6, hb9, hb19, hb21, hb23, hb25, hb27, hb29, hb31, hb33, hb35]) <;> (repeat' with_reducible apply And.intro) <;> first | assumption | rfl | omega)⟩
                        · rw [if_neg (Bool.eq_false_iff.1 hb35)] at h
                          refine AW.skip ?_
                          refine athen_n ?_
                          refine AW.have1 (fun _ : Unit => lineallaw02_HistoryPlayed_k1 specs v0_5 = some r) (fun _ => ⟨fr [(0, .sl Y0 specs), (5, .own 36000)], hpGet [(36000, .arr 55 Y1 v0_5.1)], gt⟩) (fun _ h => ?_) (fun hk_lineallaw02_HistoryPlayed_k1 => ?_)
                          · unfold lineallaw02_HistoryPlayed_k1 at h
                            refine AW.seq ?_
                            refine AW.ops ?_
                            refine AO.segF tab_ok 2 (by decide) [(159, .sl Y0 specs), (160, .own 36000)] [(36000, .arr 55 Y1 v0_5.1)] (by (simp only [go_sem, hb2, hb6, hb9, hb19, hb21, hb23, hb25, hb27, hb29, hb31, hb33, hb35]) <;> (repeat' with_reducible apply And.intro) <;> first | assumption | rfl | omega) ?_
                            obtain ⟨v0_12, hv36, h⟩ := Option.bind_eq_some_iff.1 h
                            refine AO.call tab_ok (by decide) rfl rfl rfl (fun _ h => h) [36000] [] (hc_history_Orders specs v0_5.1 hv36) rfl (by (simp only [go_sem, hb2, hb6, hb9, hb19, hb21, hb23, hb25, hb27, hb29, hb31, hb33, hb35]) <;> (repeat' with_reducible apply And.intro) <;> first | assumption | rfl | omega) (by (simp only [go_sem, hb2, hb6, hb9, hb19, hb21, hb23, hb25, hb27, hb29, hb31, hb33, hb35]) <;> (repeat' with_reducible apply And.intro) <;> first | assumption | rfl | omega) [(161, .tup [.int .i64 v0_12.1, .int .i64 v0_12.2])] [] (by (simp only [go_sem, hb2, hb6, hb9, hb19, hb21, hb23, hb25, hb27, hb29, hb31, hb33, hb35]) <;> (repeat' with_reducible apply And.intro) <;> first | assumption | rfl | omega) ?_
                            refine AO.allF tab_ok (by decide) [(6, .int .i64 v0_12.2), (15, .int .i64 v0_12.1)] [] (by (simp only [go_sem, hb2, hb6, hb9, hb19, hb21, hb23, hb25, hb27, hb29, hb31, hb33, hb35]) <;> (repeat' with_reducible apply And.intro) <;> first | assumption | rfl | omega) ?_
                            refine athen_n ?_
                            refine AW.seq ?_
                            refine AW.ops ?_
                            refine AO.segF tab_ok 3 (by decide) [(15, .int .i64 v0_12.1), (166, .bool (decide (v0_12.2 = 0)))] [] (by (simp only [go_sem, hb2, hb6, hb9, hb19, hb21, hb23, hb25, hb27, hb29, hb31, hb33, hb35]) <;> (repeat' with_reducible apply And.intro) <;> first | assumption | rfl | omega) ?_
                            rcases Bool.eq_false_or_eq_true (decide (v0_12.2 = 0)) with hb37 | hb37
                            · rw [if_pos hb37] at h
                              refine AO.weaken (s' := ⟨fr [(15, .int .i64 v0_12.1), (166, .bool true)], hpGet [], gt⟩) (Wk.to (by (simp only [go_sem, hb2, hb6, hb9, hb19, hb21, hb23, hb25, hb27, hb29, hb31, hb33, hb35, hb37]) <;> (repeat' with_reducible apply And.intro) <;> first | assumption | rfl | omega)) ?_
                              refine AO.segF tab_ok 4 (by decide) [(170, .bool (decide (v0_12.1 = 1)))] [] (by (simp only [go_sem, hb2, hb6, hb9, hb19, hb21, hb23, hb25, hb27, hb29, hb31, hb33, hb35, hb37]) <;> (repeat' with_reducible apply And.intro) <;> first | assumption | rfl | omega) ?_
                              rcases Bool.eq_false_or_eq_true (decide (v0_12.1 = 1)) with hb38 | hb38
                              · rw [if_pos hb38] at h
                                refine AO.weaken (s' := ⟨fr [(170, .bool true)], hpGet [], gt⟩) (Wk.to (by (simp only [go_sem, hb2, hb6, hb9, hb19, hb21, hb23, hb25, hb27, hb29, hb31, hb33, hb35, hb37, hb38]) <;> (repeat' with_reducible apply And.intro) <;> first | assumption | rfl | omega)) ?_
                                obtain ⟨v0_13, hv39, h⟩ := Option.bind_eq_some_iff.1 h
                                refine AO.call tab_ok (by decide) rfl rfl rfl (fun _ h => ⟨fun _ => h, fun hn => absurd rfl hn⟩) [] [] (hc_lineallaw02_Sane hv39) rfl (by (simp only [go_sem, hb2, hb6, hb9, hb19, hb21, hb23, hb25, hb27, hb29, hb31, hb33, hb35, hb37, hb38]) <;> (repeat' with_reducible apply And.intro) <;> first | assumption | rfl | omega) (by (simp only [go_sem, hb2, hb6, hb9, hb19, hb21, hb23, hb25, hb27, hb29, hb31, hb33, hb35, hb37, hb38]) <;> (repeat' with_reducible apply And.intro) <;> first | assumption | rfl | omega) [(170, .bool true), (171, .bool v0_13)] [] (by (simp only [go_sem, hb2, hb6, hb9, hb19, hb21, hb23, hb25, hb27, hb29, hb31, hb33, hb35, hb37, hb38]) <;> (repeat' with_reducible apply And.intro) <;> first | assumption | rfl | omega) ?_
                                refine AO.allF tab_ok (by decide) [(4, .bool v0_13)] [] (by (simp only [go_sem, hb2, hb6, hb9, hb19, hb21, hb23, hb25, hb27, hb29, hb31, hb33, hb35, hb37, hb38]) <;> (repeat' with_reducible apply And.intro) <;> first | assumption | rfl | omega) ?_
                                refine athen_n ?_
                                refine AW.ret ?_
                                obtain rfl := Option.some.inj h
                                exact ⟨rfl, [], [], [], rfl, (by (simp only [go_sem, hb2, hb6, hb9, hb19, hb21, hb23, hb25, hb27, hb29, hb31, hb33, hb35, hb37, hb38]) <;> (repeat' with_reducible apply And.intro) <;> first | assumption | rfl | omega)⟩
                              · rw [if_neg (Bool.eq_false_iff.1 hb38)] at h
                                refine AO.weaken (s' := ⟨fr [(170, .bool false)], hpGet [], gt⟩) (Wk.to (by (simp only [go_sem, hb2, hb6, hb9, hb19, hb21, hb23, hb25, hb27, hb29, hb31, hb33, hb35, hb37, hb38]) <;> (repeat' with_reducible apply And.intro) <;> first | assumption | rfl | omega)) ?_
                                refine AO.allF tab_ok (by decide) [(4, .bool false)] [] (by (simp only [go_sem, hb2, hb6, hb9, hb19, hb21, hb23, hb25, hb27, hb29, hb31, hb33, hb35, hb37, hb38]) <;> (repeat' with_reducible apply And.intro) <;> first | assumption | rfl | omega) ?_
                                refine athen_n ?_
                                refine AW.ret ?_
                                obtain rfl := Option.some.inj h
                                exact ⟨rfl, [], [], [], rfl, (by (simp only [go_sem, hb2, hb6, hb9, hb19, hb21, hb23, hb25, hb27, hb29, hb31, hb33, hb35, hb37, hb38]) <;> (repeat' with_reducible apply And.intro) <;> first | assumption | rfl | omega)⟩
                            · rw [if_neg (Bool.eq_false_iff.1 hb37)] at h
                              refine AO.weaken (s' := ⟨fr [(15, .int .i64 v0_12.1), (166, .bool false)], hpGet [], gt⟩) (Wk.to (by (simp only [go_sem, hb2, hb6, hb9, hb19, hb21, hb23, hb25, hb27, hb29, hb31, hb33, hb35, hb37]) <;> (repeat' with_reducible apply And.intro) <;> first | assumption | rfl | omega)) ?_
                              refine AO.allF tab_ok (by decide) [(4, .bool false)] [] (by (simp only [go_sem, hb2, hb6, hb9, hb19, hb21, hb23, hb25, hb27, hb29, hb31, hb33, hb35, hb37]) <;> (repeat' with_reducible apply And.intro) <;> first | assumption | rfl | omega) ?_
                              refine athen_n ?_
                              refine AW.ret ?_
                              obtain rfl := Option.some.inj h
                              exact ⟨rfl, [], [], [], rfl, (by (simp only [go_sem, hb2, hb6, hb9, hb19, hb21, hb23, hb25, hb27, hb29, hb31, hb33, hb35, hb37]) <;> (repeat' with_reducible apply And.intro) <;> first | assumption | rfl | omega)⟩
                          · refine AW.seq ?_
                            refine AW.seq ?_
                            refine AW.ops ?_
                            refine AO.allF tab_ok (by decide) [(0, .sl Y0 specs), (1, .sl Y1 word), (5, .own 36000), (12, .own 74000), (14, .int .i64 0)] [(36000, .arr 55 Y1 v0_5.1), (74000, .arr 3 (.int .i64) v0_11.1)] (by (simp only [go_sem, hb2, hb6, hb9, hb19, hb21, hb23, hb25, hb27, hb29, hb31, hb33, hb35]) <;> (repeat' with_reducible apply And.intro) <;> first | assumption | rfl | omega) ?_
                            refine athen_n ?_
                            refine AW.block ?_
                            obtain ⟨rv44, hw40, ho41⟩ := Option.bind_eq_some_iff.1 h
                            refine AW.loopO (lineallaw02_HistoryPlayed_b1 word v0_5 v0_11) (fun st1 => ⟨fr [(0, .sl Y0 specs), (1, .sl Y1 word), (5, .own 36000), (12, .own 74000), (14, .int .i64 st1)], hpGet [(36000, .arr 55 Y1 v0_5.1), (74000, .arr 3 (.int .i64) v0_11.1)], gt⟩) 0 hw40 (Wk.le [] [] [] rfl (by (simp only [go_sem, hb2, hb6, hb9, hb19, hb21, hb23, hb25, hb27, hb29, hb31, hb33, hb35]) <;> (repeat' with_reducible apply And.intro) <;> first | assumption | rfl | omega) (by (simp only [go_sem, hb2, hb6, hb9, hb19, hb21, hb23, hb25, hb27, hb29, hb31, hb33, hb35]) <;> (repeat' with_reducible apply And.intro) <;> first | assumption | rfl | omega)) ?_
                            intro st1 x43 h hd42
                            unfold lineallaw02_HistoryPlayed_b1 at h
                            refine AW.seq ?_
                            refine AW.seq ?_
                            refine AW.ops ?_
                            refine AO.allF tab_ok (by decide) [(0, .sl Y0 specs), (1, .sl Y1 word), (5, .own 36000), (12, .own 74000), (14, .int .i64 st1), (110, .bool (decide (st1 < (v0_11.1.length : Int))))] [(36000, .arr 55 Y1 v0_5.1), (74000, .arr 3 (.int .i64) v0_11.1)] (by (simp only [go_sem, hb2, hb6, hb9, hb19, hb21, hb23, hb25, hb27, hb29, hb31, hb33, hb35]) <;> (repeat' with_reducible apply And.intro) <;> first | assumption | rfl | omega) ?_
                            refine athen_n ?_
                            refine AW.cond (b := (decide (st1 < (v0_11.1.length : Int)))) rfl (fun hb45 => ?_) (fun hb45 => ?_)
                            · rw [if_pos hb45] at h
                              refine AW.skip ?_
                              refine athen_n ?_
                              refine AW.seq ?_
                              refine AW.block ?_
                              refine AW.seq ?_
                              refine AW.draw tab_ok mixed_ok [] [] (by decide) (lex_fast (by kernel_rfl)) ?_
                              obtain ⟨c47, h⟩ := ck_some.1 h
                              obtain ⟨c48, h⟩ := ck_some.1 h
                              refine adops_cut 6 (fun K' hK46 => ?_)
                              try dsimp only [List.drop_succ_cons, List.drop_zero, List.take_succ_cons, List.take_zero]
                              simp only [go_sem, hb2, hb6, hb9, hb19, hb21, hb23, hb25, hb27, hb29, hb31, hb33, hb35, hb45]
                              repeat (with_reducible refine And.intro (by first | assumption | rfl | omega | trivial) ?_)
                              refine hK46 _ ?_
                              refine adops_cut 1 (fun K' hK49 => ?_)
                              try dsimp only [List.drop_succ_cons, List.drop_zero, List.take_succ_cons, List.take_zero]
                              simp only [go_sem, hb2, hb6, hb9, hb19, hb21, hb23, hb25, hb27, hb29, hb31, hb33, hb35, hb45]
                              repeat (with_reducible refine And.intro (by first | assumption | rfl | omega | trivial) ?_)
                              refine hK49 _ ?_
                              rcases Bool.eq_false_or_eq_true (!(decide ((v0_11.1.getD st1.toNat 0) = st1))) with hb50 | hb50
                              · rw [if_pos hb50] at h
                                simp only [hb50]
                                refine adops_cut 4 (fun K' hK51 => ?_)
                                try dsimp only [List.drop_succ_cons, List.drop_zero, List.take_succ_cons, List.take_zero]
                                simp only [go_sem, hb2, hb6, hb9, hb19, hb21, hb23, hb25, hb27, hb29, hb31, hb33, hb35, hb45, hb50]
                                repeat (with_reducible refine And.intro (by first | assumption | rfl | omega | trivial) ?_)
                                refine hK51 _ ?_
                                refine adops_cut 4 (fun K' hK52 => ?_)
                                try dsimp only [List.drop_succ_cons, List.drop_zero, List.take_succ_cons, List.take_zero]
                                simp only [go_sem, hb2, hb6, hb9, hb19, hb21, hb23, hb25, hb27, hb29, hb31, hb33, hb35, hb45, hb50]
                                repeat (with_reducible refine And.intro (by first | assumption | rfl | omega | trivial) ?_)
                                refine hK52 _ ?_
                                refine adops_cut 6 (fun K' hK53 => ?_)
                                try dsimp only [List.drop_succ_cons, List.drop_zero, List.take_succ_cons, List.take_zero]
                                simp only [go_sem, hb2, hb6, hb9, hb19, hb21, hb23, hb25, hb27, hb29, hb31, hb33, hb35, hb45, hb50]
                                repeat (with_reducible refine And.intro (by first | assumption | rfl | omega | trivial) ?_)
                                refine hK53 _ ?_
                                refine adops_cut 4 (fun K' hK54 => ?_)
                                try dsimp only [List.drop_succ_cons, List.drop_zero, List.take_succ_cons, List.take_zero]
                                simp only [go_sem, hb2, hb6, hb9, hb19, hb21, hb23, hb25, hb27, hb29, hb31, hb33, hb35, hb45, hb50]
                                repeat (with_reducible refine And.intro (by first | assumption | rfl | omega | trivial) ?_)
                                refine hK54 _ ?_
                                refine adops_cut 4 (fun K' hK55 => ?_)
                                try dsimp only [List.drop_succ_cons, List.drop_zero, List.take_succ_cons, List.take_zero]
                                simp only [go_sem, hb2, hb6, hb9, hb19, hb21, hb23, hb25, hb27, hb29, hb31, hb33, hb35, hb45, hb50]
                                repeat (with_reducible refine And.intro (by first | assumption | rfl | omega | trivial) ?_)
                                refine hK55 _ ?_
                                refine adops_cut 6 (fun K' hK56 => ?_)
                                try dsimp only [List.drop_succ_cons, List.drop_zero, List.take_succ_cons, List.take_zero]
                                simp only [go_sem, hb2, hb6, hb9, hb19, hb21, hb23, hb25, hb27, hb29, hb31, hb33, hb35, hb45, hb50]
                                repeat (with_reducible refine And.intro (by first | assumption | rfl | omega | trivial) ?_)
                                refine hK56 _ ?_
                                refine adops_cut 4 (fun K' hK57 => ?_)
                                try dsimp only [List.drop_succ_cons, List.drop_zero, List.take_succ_cons, List.take_zero]
                                simp only [go_sem, hb2, hb6, hb9, hb19, hb21, hb23, hb25, hb27, hb29, hb31, hb33, hb35, hb45, hb50]
                                repeat (with_reducible refine And.intro (by first | assumption | rfl | omega | trivial) ?_)
                                refine hK57 _ ?_
                                refine adops_cut 4 (fun K' hK58 => ?_)
                                try dsimp only [List.drop_succ_cons, List.drop_zero, List.take_succ_cons, List.take_zero]
                                simp only [go_sem, hb2, hb6, hb9, hb19, hb21, hb23, hb25, hb27, hb29, hb31, hb33, hb35, hb45, hb50]
                                repeat (with_reducible refine And.intro (by first | assumption | rfl | omega | trivial) ?_)
                                refine hK58 _ ?_
                                refine adops_cut 2 (fun K' hK59 => ?_)
                                try dsimp only [List.drop_succ_cons, List.drop_zero, List.take_succ_cons, List.take_zero]
                                simp only [go_sem, hb2, hb6, hb9, hb19, hb21, hb23, hb25, hb27, hb29, hb31, hb33, hb35, hb45, hb50]
                                repeat (with_reducible refine And.intro (by first | assumption | rfl | omega | trivial) ?_)
                                refine hK59 _ ?_
                                refine adops_nil ?_
                                refine athen_n ?_
                                refine AW.weaken (s' := ⟨fr [(0, .sl Y0 specs), (1, .sl Y1 word), (5, .own 36000), (12, .own 74000), (14, .int .i64 st1), (157, .bool true)], hpGet [(36000, .arr 55 Y1 v0_5.1), (74000, .arr 3 (.int .i64) v0_11.1)], gt⟩) (Wk.to (by (simp only [go_sem, hb2, hb6, hb9, hb19, hb21, hb23, hb25, hb27, hb29, hb31, hb33, hb35, hb45, hb50]) <;> (repeat' with_reducible apply And.intro) <;> first | assumption | rfl | omega)) ?_
                                refine AW.cond (b := true) rfl (fun _ => ?_) (fun hb60 => by cases hb60)
                                refine AW.seq ?_
                                refine AW.ops ?_
                                refine AO.allF tab_ok (by decide) [(4, .bool false)] [] (by (simp only [go_sem, hb2, hb6, hb9, hb19, hb21, hb23, hb25, hb27, hb29, hb31, hb33, hb35, hb45, hb50]) <;> (repeat' with_reducible apply And.intro) <;> first | assumption | rfl | omega) ?_
                                refine athen_n ?_
                                refine AW.ret ?_
                                refine ablock_r ?_
                                refine athen_r ?_
                                obtain rfl := Option.some.inj h
                                rw [← hd42 _ rfl] at ho41
                                have h := ho41
                                try simp only at h
                                refine athen_r ?_
                                refine ablock_r ?_
                                refine athen_r ?_
                                obtain rfl := Option.some.inj h
                                exact ⟨rfl, [], [], [], rfl, (by (simp only [go_sem, hb2, hb6, hb9, hb19, hb21, hb23, hb25, hb27, hb29, hb31, hb33, hb35, hb45, hb50]) <;> (repeat' with_reducible apply And.intro) <;> first | assumption | rfl | omega)⟩
                              · rw [if_neg (Bool.eq_false_iff.1 hb50)] at h
                                simp only [hb50]
                                obtain ⟨c62, h⟩ := ck_some.1 h
                                obtain ⟨c63, h⟩ := ck_some.1 h
                                refine adops_cut 6 (fun K' hK61 => ?_)
                                try dsimp only [List.drop_succ_cons, List.drop_zero, List.take_succ_cons, List.take_zero]
                                simp only [go_sem, hb2, hb6, hb9, hb19, hb21, hb23, hb25, hb27, hb29, hb31, hb33, hb35, hb45, hb50]
                                repeat (with_reducible refine And.intro (by first | assumption | rfl | omega | trivial) ?_)
                                refine hK61 _ ?_
                                obtain ⟨c65, h⟩ := ck_some.1 h
                                obtain ⟨c66, h⟩ := ck_some.1 h
                                refine adops_cut 6 (fun K' hK64 => ?_)
                                try dsimp only [List.drop_succ_cons, List.drop_zero, List.take_succ_cons, List.take_zero]
                                simp only [go_sem, hb2, hb6, hb9, hb19, hb21, hb23, hb25, hb27, hb29, hb31, hb33, hb35, hb45, hb50]
                                repeat (with_reducible refine And.intro (by first | assumption | rfl | omega | trivial) ?_)
                                refine hK64 _ ?_
                                refine adops_cut 1 (fun K' hK67 => ?_)
                                try dsimp only [List.drop_succ_cons, List.drop_zero, List.take_succ_cons, List.take_zero]
                                simp only [go_sem, hb2, hb6, hb9, hb19, hb21, hb23, hb25, hb27, hb29, hb31, hb33, hb35, hb45, hb50]
                                repeat (with_reducible refine And.intro (by first | assumption | rfl | omega | trivial) ?_)
                                refine hK67 _ ?_
                                rcases Bool.eq_false_or_eq_true (!(decide ((v0_5.1.getD st1.toNat (0, 0, 0, 0, 0, 0)).1 = (word.getD st1.toNat (0, 0, 0, 0, 0, 0)).1))) with hb68 | hb68
                                · rw [if_pos hb68] at h
                                  simp only [hb68]
                                  refine adops_cut 4 (fun K' hK69 => ?_)
                                  try dsimp only [List.drop_succ_cons, List.drop_zero, List.take_succ_cons, List.take_zero]
                                  simp only [go_sem, hb2, hb6, hb9, hb19, hb21, hb23, hb25, hb27, hb29, hb31, hb33, hb35, hb45, hb50, hb68]
                                  repeat (with_reducible refine And.intro (by first | assumption | rfl | omega | trivial) ?_)
                                  refine hK69 _ ?_
                                  refine adops_cut 4 (fun K' hK70 => ?_)
                                  try dsimp only [List.drop_succ_cons, List.drop_zero, List.take_succ_cons, List.take_zero]
                                  simp only [go_sem, hb2, hb6, hb9, hb19, hb21, hb23, hb25, hb27, hb29, hb31, hb33, hb35, hb45, hb50, hb68]
                                  repeat (with_reducible refine And.intro (by first | assumption | rfl | omega | trivial) ?_)
                                  refine hK70 _ ?_
                                  refine adops_cut 6 (fun K' hK71 => ?_)
                                  try dsimp only [List.drop_succ_cons, List.drop_zero, List.take_succ_cons, List.take_zero]
                                  simp only [go_sem, hb2, hb6, hb9, hb19, hb21, hb23, hb25, hb27, hb29, hb31, hb33, hb35, hb45, hb50, hb68]
                                  repeat (with_reducible refine And.intro (by first | assumption | rfl | omega | trivial) ?_)
                                  refine hK71 _ ?_
                                  refine adops_cut 4 (fun K' hK72 => ?_)
                                  try dsimp only [List.drop_succ_cons, List.drop_zero, List.take_succ_cons, List.take_zero]
                                  simp only [go_sem, hb2, hb6, hb9, hb19, hb21, hb23, hb25, hb27, hb29, hb31, hb33, hb35, hb45, hb50, hb68]
                                  repeat (with_reducible refine And.intro (by first | assumption | rfl | omega | trivial) ?_)
                                  refine hK72 _ ?_
                                  refine adops_cut 4 (fun K' hK73 => ?_)
                                  try dsimp only [List.drop_succ_cons, List.drop_zero, List.take_succ_cons, List.take_zero]
                                  simp only [go_sem, hb2, hb6, hb9, hb19, hb21, hb23, hb25, hb27, hb29, hb31, hb33, hb35, hb45, hb50, hb68]
                                  repeat (with_reducible refine And.intro (by first | assumption | rfl | omega | trivial) ?_)
                                  refine hK73 _ ?_
                                  refine adops_cut 3 (fun K' hK74 => ?_)
                                  try dsimp only [List.drop_succ_cons, List.drop_zero, List.take_succ_cons, List.take_zero]
                                  simp only [go_sem, hb2, hb6, hb9, hb19, hb21, hb23, hb25, hb27, hb29, hb31, hb33, hb35, hb45, hb50, hb68]
                                  repeat (with_reducible refine And.intro (by first | assumption | rfl | omega | trivial) ?_)
                                  refine hK74 _ ?_
                                  refine adops_nil ?_
                                  refine athen_n ?_
                                  refine AW.weaken (s' := ⟨fr [(0, .sl Y0 specs), (1, .sl Y1 word), (5, .own 36000), (12, .own 74000), (14, .int .i64 st1), (157, .bool true)], hpGet [(36000, .arr 55 Y1 v0_5.1), (74000, .arr 3 (.int .i64) v0_11.1)], gt⟩) (Wk.to (by (simp only [go_sem, hb2, hb6, hb9, hb19, hb21, hb23, hb25, hb27, hb29, hb31, hb33, hb35, hb45, hb50, hb68]) <;> (repeat' with_reducible apply And.intro) <;> first | assumption | rfl | omega)) ?_
                                  refine AW.cond (b := true) rfl (fun _ => ?_) (fun hb75 => by cases hb75)
                                  refine AW.seq ?_
                                  refine AW.ops ?_
                                  refine AO.allF tab_ok (by decide) [(4, .bool false)] [] (by (simp only [go_sem, hb2, hb6, hb9, hb19, hb21, hb23, hb25, hb27, hb29, hb31, hb33, hb35, hb45, hb50, hb68]) <;> (repeat' with_reducible apply And.intro) <;> first | assumption | rfl | omega) ?_
                                  refine athen_n ?_
                                  refine AW.ret ?_
                                  refine ablock_r ?_
                                  refine athen_r ?_
                                  obtain rfl := Option.some.inj h
                                  rw [← hd42 _ rfl] at ho41
                                  have h := ho41
                                  try simp only at h
                                  refine athen_r ?_
                                  refine ablock_r ?_
                                  refine athen_r ?_
                                  obtain rfl := Option.some.inj h
                                  exact ⟨rfl, [], [], [], rfl, (by (simp only [go_sem, hb2, hb6, hb9, hb19, hb21, hb23, hb25, hb27, hb29, hb31, hb33, hb35, hb45, hb50, hb68]) <;> (repeat' with_reducible apply And.intro) <;> first | assumption | rfl | omega)⟩
                                · rw [if_neg (Bool.eq_false_iff.1 hb68)] at h
                                  simp only [hb68]
                                  obtain ⟨c77, h⟩ := ck_some.1 h
                                  obtain ⟨c78, h⟩ := ck_some.1 h
                                  refine adops_cut 6 (fun K' hK76 => ?_)
                                  try dsimp only [List.drop_succ_cons, List.drop_zero, List.take_succ_cons, List.take_zero]
                                  simp only [go_sem, hb2, hb6, hb9, hb19, hb21, hb23, hb25, hb27, hb29, hb31, hb33, hb35, hb45, hb50, hb68]
                                  repeat (with_reducible refine And.intro (by first | assumption | rfl | omega | trivial) ?_)
                                  refine hK76 _ ?_
                                  obtain ⟨c80, h⟩ := ck_some.1 h
                                  obtain ⟨c81, h⟩ := ck_some.1 h
                                  refine adops_cut 6 (fun K' hK79 => ?_)
                                  try dsimp only [List.drop_succ_cons, List.drop_zero, List.take_succ_cons, List.take_zero]
                                  simp only [go_sem, hb2, hb6, hb9, hb19, hb21, hb23, hb25, hb27, hb29, hb31, hb33, hb35, hb45, hb50, hb68]
                                  repeat (with_reducible refine And.intro (by first | assumption | rfl | omega | trivial) ?_)
                                  refine hK79 _ ?_
                                  refine adops_cut 1 (fun K' hK82 => ?_)
                                  try dsimp only [List.drop_succ_cons, List.drop_zero, List.take_succ_cons, List.take_zero]
                                  simp only [go_sem, hb2, hb6, hb9, hb19, hb21, hb23, hb25, hb27, hb29, hb31, hb33, hb35, hb45, hb50, hb68]
                                  repeat (with_reducible refine And.intro (by first | assumption | rfl | omega | trivial) ?_)
                                  refine hK82 _ ?_
                                  rcases Bool.eq_false_or_eq_true (!(decide ((v0_5.1.getD st1.toNat (0, 0, 0, 0, 0, 0)).2.1 = (word.getD st1.toNat (0, 0, 0, 0, 0, 0)).2.1))) with hb83 | hb83
                                  · rw [if_pos hb83] at h
                                    simp only [hb83]
                                    refine adops_cut 4 (fun K' hK84 => ?_)
                                    try dsimp only [List.drop_succ_cons, List.drop_zero, List.take_succ_cons, List.take_zero]
                                    simp only [go_sem, hb2, hb6, hb9, hb19, hb21, hb23, hb25, hb27, hb29, hb31, hb33, hb35, hb45, hb50, hb68, hb83]
                                    repeat (with_reducible refine And.intro (by first | assumption | rfl | omega | trivial) ?_)
                                    refine hK84 _ ?_
                                    refine adops_cut 4 (fun K' hK85 => ?_)
                                    try dsimp only [List.drop_succ_cons, List.drop_zero, List.take_succ_cons, List.take_zero]
                                    simp only [go_sem, hb2, hb6, hb9, hb19, hb21, hb23, hb25, hb27, hb29, hb31, hb33, hb35, hb45, hb50, hb68, hb83]
                                    repeat (with_reducible refine And.intro (by first | assumption | rfl | omega | trivial) ?_)
                                    refine hK85 _ ?_
                                    refine adops_cut 4 (fun K' hK86 => ?_)
                                    try dsimp only [List.drop_succ_cons, List.drop_zero, List.take_succ_cons, List.take_zero]
                                    simp only [go_sem, hb2, hb6, hb9, hb19, hb21, hb23, hb25, hb27, hb29, hb31, hb33, hb35, hb45, hb50, hb68, hb83]
                                    repeat (with_reducible refine And.intro (by first | assumption | rfl | omega | trivial) ?_)
                                    refine hK86 _ ?_
                                    refine adops_nil ?_
                                    refine athen_n ?_
                                    refine AW.weaken (s' := ⟨fr [(0, .sl Y0 specs), (1, .sl Y1 word), (5, .own 36000), (12, .own 74000), (14, .int .i64 st1), (157, .bool true)], hpGet [(36000, .arr 55 Y1 v0_5.1), (74000, .arr 3 (.int .i64) v0_11.1)], gt⟩) (Wk.to (by (simp only [go_sem, hb2, hb6, hb9, hb19, hb21, hb23, hb25, hb27, hb29, hb31, hb33, hb35, hb45, hb50, hb68, hb83]) <;> (repeat' with_reducible apply And.intro) <;> first | assumption | rfl | omega)) ?_
                                    refine AW.cond (b := true) rfl (fun _ => ?_) (fun hb87 => by cases hb87)
                                    refine AW.seq ?_
                                    refine AW.ops ?_
                                    refine AO.allF tab_ok (by decide) [(4, .bool false)] [] (by (simp only [go_sem, hb2, hb6, hb9, hb19, hb21, hb23, hb25, hb27, hb29, hb31, hb33, hb35, hb45, hb50, hb68, hb83]) <;> (repeat' with_reducible apply And.intro) <;> first | assumption | rfl | omega) ?_
                                    refine athen_n ?_
                                    refine AW.ret ?_
                                    refine ablock_r ?_
                                    refine athen_r ?_
                                    obtain rfl := Option.some.inj h
                                    rw [← hd42 _ rfl] at ho41
                                    have h := ho41
                                    try simp only at h
                                    refine athen_r ?_
                                    refine ablock_r ?_
                                    refine athen_r ?_
                                    obtain rfl := Option.some.inj h
                                    exact ⟨rfl, [], [], [], rfl, (by (simp only [go_sem, hb2, hb6, hb9, hb19, hb21, hb23, hb25, hb27, hb29, hb31, hb33, hb35, hb45, hb50, hb68, hb83]) <;> (repeat' with_reducible apply And.intro) <;> first | assumption | rfl | omega)⟩
                                  · rw [if_neg (Bool.eq_false_iff.1 hb83)] at h
                                    simp only [hb83]
                                    obtain ⟨c89, h⟩ := ck_some.1 h
                                    obtain ⟨c90, h⟩ := ck_some.1 h
                                    refine adops_cut 6 (fun K' hK88 => ?_)
                                    try dsimp only [List.drop_succ_cons, List.drop_zero, List.take_succ_cons, List.take_zero]
                                    simp only [go_sem, hb2, hb6, hb9, hb19, hb21, hb23, hb25, hb27, hb29, hb31, hb33, hb35, hb45, hb50, hb68, hb83]
                                    repeat (with_reducible refine And.intro (by first | assumption | rfl | omega | trivial) ?_)
                                    refine hK88 _ ?_
                                    obtain ⟨c92, h⟩ := ck_some.1 h
                                    obtain ⟨c93, h⟩ := ck_some.1 h
                                    refine adops_cut 6 (fun K' hK91 => ?_)
                                    try dsimp only [List.drop_succ_cons, List.drop_zero, List.take_succ_cons, List.take_zero]
                                    simp only [go_sem, hb2, hb6, hb9, hb19, hb21, hb23, hb25, hb27, hb29, hb31, hb33, hb35, hb45, hb50, hb68, hb83]
                                    repeat (with_reducible refine And.intro (by first | assumption | rfl | omega | trivial) ?_)
                                    refine hK91 _ ?_
                                    refine adops_nil ?_
                                    refine athen_n ?_
                                    refine AW.weaken (s' := ⟨fr [(0, .sl Y0 specs), (1, .sl Y1 word), (5, .own 36000), (12, .own 74000), (14, .int .i64 st1), (157, .bool (!(decide ((v0_5.1.getD st1.toNat (0, 0, 0, 0, 0, 0)).2.2.1 = (word.getD st1.toNat (0, 0, 0, 0, 0, 0)).2.2.1))))], hpGet [(36000, .arr 55 Y1 v0_5.1), (74000, .arr 3 (.int .i64) v0_11.1)], gt⟩) (Wk.to (by (simp only [go_sem, hb2, hb6, hb9, hb19, hb21, hb23, hb25, hb27, hb29, hb31, hb33, hb35, hb45, hb50, hb68, hb83]) <;> (repeat' with_reducible apply And.intro) <;> first | assumption | rfl | omega)) ?_
                                    refine AW.cond (b := (!(decide ((v0_5.1.getD st1.toNat (0, 0, 0, 0, 0, 0)).2.2.1 = (word.getD st1.toNat (0, 0, 0, 0, 0, 0)).2.2.1)))) rfl (fun hb94 => ?_) (fun hb94 => ?_)
                                    · rw [if_pos hb94] at h
                                      refine AW.seq ?_
                                      refine AW.ops ?_
                                      refine AO.allF tab_ok (by decide) [(4, .bool false)] [] (by (simp only [go_sem, hb2, hb6, hb9, hb19, hb21, hb23, hb25, hb27, hb29, hb31, hb33, hb35, hb45, hb50, hb68, hb83, hb94]) <;> (repeat' with_reducible apply And.intro) <;> first | assumption | rfl | omega) ?_
                                      refine athen_n ?_
                                      refine AW.ret ?_
                                      refine ablock_r ?_
                                      refine athen_r ?_
                                      obtain rfl := Option.some.inj h
                                      rw [← hd42 _ rfl] at ho41
                                      have h := ho41
                                      try simp only at h
                                      refine athen_r ?_
                                      refine ablock_r ?_
                                      refine athen_r ?_
                                      obtain rfl := Option.some.inj h
                                      exact ⟨rfl, [], [], [], rfl, (by (simp only [go_sem, hb2, hb6, hb9, hb19, hb21, hb23, hb25, hb27, hb29, hb31, hb33, hb35, hb45, hb50, hb68, hb83, hb94]) <;> (repeat' with_reducible apply And.intro) <;> first | assumption | rfl | omega)⟩
                                    · rw [if_neg (Bool.eq_false_iff.1 hb94)] at h
                                      refine AW.skip ?_
                                      refine ablock_n ?_
                                      refine athen_n ?_
                                      refine AW.ops ?_
                                      obtain ⟨c95, h⟩ := ck_some.1 h
                                      refine AO.allF tab_ok (by decide) [(0, .sl Y0 specs), (1, .sl Y1 word), (5, .own 36000), (12, .own 74000), (14, .int .i64 (st1 + 1))] [(36000, .arr 55 Y1 v0_5.1), (74000, .arr 3 (.int .i64) v0_11.1)] (by (simp only [go_sem, hb2, hb6, hb9, hb19, hb21, hb23, hb25, hb27, hb29, hb31, hb33, hb35, hb45, hb50, hb68, hb83, hb94]) <;> (repeat' with_reducible apply And.intro) <;> first | assumption | rfl | omega) ?_
                                      obtain rfl := Option.some.inj h
                                      exact ⟨_, rfl, Wk.le [] [] [] rfl (by (simp only [go_sem, hb2, hb6, hb9, hb19, hb21, hb23, hb25, hb27, hb29, hb31, hb33, hb35, hb45, hb50, hb68, hb83, hb94]) <;> (repeat' with_reducible apply And.intro) <;> first | assumption | rfl | omega) (by (simp only [go_sem, hb2, hb6, hb9, hb19, hb21, hb23, hb25, hb27, hb29, hb31, hb33, hb35, hb45, hb50, hb68, hb83, hb94]) <;> (repeat' with_reducible apply And.intro) <;> first | assumption | rfl | omega)⟩
                            · rw [if_neg (Bool.eq_false_iff.1 hb45)] at h
                              refine AW.exit ?_
                              refine athen_e ?_
                              obtain rfl := Option.some.inj h
                              rw [← hd42 _ rfl] at ho41
                              have h := ho41
                              try simp only at h
                              refine athen_e ?_
                              refine ablock_s ?_
                              refine athen_n ?_
                              exact AW.weaken (Wk.le [] [] [] rfl (by (simp only [go_sem, hb2, hb6, hb9, hb19, hb21, hb23, hb25, hb27, hb29, hb31, hb33, hb35, hb45]) <;> (repeat' with_reducible apply And.intro) <;> first | assumption | rfl | omega) (by (simp only [go_sem, hb2, hb6, hb9, hb19, hb21, hb23, hb25, hb27, hb29, hb31, hb33, hb35, hb45]) <;> (repeat' with_reducible apply And.intro) <;> first | assumption | rfl | omega)) (hk_lineallaw02_HistoryPlayed_k1 () h)

end Go.Proofs.Ytdkdkpenmgkdcaa
