/-
  Made by wip/tool/dc.py out of the print of the program: contracts.
-/
import Derived.Test.YtcijihofjcfpoabWp
import Derived.Test.YtcijihofjcfpoabTb3
import Derived.Test.YtcijihofjcfpoabXec2
import Derived.Test.YtcijihofjcfpoabXec4
import Derived.Test.YtcijihofjcfpoabXec5
namespace Go.Proofs.Ytcijihofjcfpoab
open Go.RowKit

set_option linter.unusedSimpArgs false
set_option linter.unusedVariables false
set_option linter.constructorNameAsVariable false

set_option maxRecDepth 100000 in
set_option maxHeartbeats 2000000 in
theorem hc_lineallaw03_WeaveShares (l : Int × (List (Int × Int))) (w : List Int) (v0 : List Int) {r : Bool} (h : lineallaw03_WeaveShares l w v0 = some r) : HC Try.prog 8 [] [.agg [.int .i64 l.1, .sl (.pair (.int .i64) (.int .i64)) l.2], .sl (.int .i64) w, .sl (.int .i64) v0] [] (.bool r) := by
  unfold lineallaw03_WeaveShares at h
  refine HC.of_body tab_ok (res := [.tmp 6]) Try.func8 rfl (by kernel_rfl) rfl (nt := 65) rfl (by decide) (by simp) ?_
  refine AW.seq ?_
  refine AW.ops ?_
  refine AO.allF tab_ok (by decide) [(1, .sl (.int .i64) w), (2, .sl (.int .i64) v0), (3, .bp 3 0)] [(3, .box 24 [.int .i64 l.1, .sl (.pair (.int .i64) (.int .i64)) l.2])] (by (simp only [go_sem]) <;> (repeat' with_reducible apply And.intro) <;> first | assumption | rfl | omega | (unfold maxLen; omega)) ?_
  refine athen_n ?_
  refine AW.seq ?_
  refine AW.seq ?_
  refine AW.ops ?_
  refine AO.segF tab_ok 4 (by decide) [(1, .sl (.int .i64) w), (2, .sl (.int .i64) v0), (3, .bp 3 0), (11, .agg [.int .i64 l.1, .sl (.pair (.int .i64) (.int .i64)) l.2]), (14, .own 14)] [(3, .box 24 [.int .i64 l.1, .sl (.pair (.int .i64) (.int .i64)) l.2]), (14, .arr 25 (.sl (.int .i64)) [w, v0])] (by (simp only [go_sem]) <;> (repeat' with_reducible apply And.intro) <;> first | assumption | rfl | omega | (unfold maxLen; omega)) ?_
  obtain ⟨v0_2, hv1, h⟩ := Option.bind_eq_some_iff.1 h
  refine AO.call tab_ok (by decide) rfl rfl rfl (fun _ h => h) [14] [] (hc_lineallaw03_Long l [w, v0] hv1) rfl (by (simp only [go_sem]) <;> (repeat' with_reducible apply And.intro) <;> first | assumption | rfl | omega | (unfold maxLen; omega)) (by (simp only [go_sem]) <;> (repeat' with_reducible apply And.intro) <;> first | assumption | rfl | omega | (unfold maxLen; omega)) [(1, .sl (.int .i64) w), (2, .sl (.int .i64) v0), (3, .bp 3 0), (15, .bool v0_2)] [(3, .box 24 [.int .i64 l.1, .sl (.pair (.int .i64) (.int .i64)) l.2])] (by (simp only [go_sem]) <;> (repeat' with_reducible apply And.intro) <;> first | assumption | rfl | omega | (unfold maxLen; omega)) ?_
  refine AO.allF tab_ok (by decide) [(1, .sl (.int .i64) w), (2, .sl (.int .i64) v0), (3, .bp 3 0), (15, .bool v0_2)] [(3, .box 24 [.int .i64 l.1, .sl (.pair (.int .i64) (.int .i64)) l.2])] (by (simp only [go_sem]) <;> (repeat' with_reducible apply And.intro) <;> first | assumption | rfl | omega | (unfold maxLen; omega)) ?_
  refine athen_n ?_
  refine AW.cond (b := v0_2) rfl (fun hb2 => ?_) (fun hb2 => ?_)
  · rw [if_pos hb2] at h
    refine AW.seq ?_
    refine AW.ops ?_
    obtain ⟨v0_3, hv3, h⟩ := Option.bind_eq_some_iff.1 h
    refine AO.call tab_ok (by decide) rfl rfl rfl (fun _ h => h) [] [] (hc_lineallaw03_Awake hv3) rfl (by (simp only [go_sem, hb2]) <;> (repeat' with_reducible apply And.intro) <;> first | assumption | rfl | omega | (unfold maxLen; omega)) (by (simp only [go_sem, hb2]) <;> (repeat' with_reducible apply And.intro) <;> first | assumption | rfl | omega | (unfold maxLen; omega)) [(16, .bool v0_3)] [] (by (simp only [go_sem, hb2]) <;> (repeat' with_reducible apply And.intro) <;> first | assumption | rfl | omega | (unfold maxLen; omega)) ?_
    refine AO.allF tab_ok (by decide) [(6, .bool v0_3)] [] (by (simp only [go_sem, hb2]) <;> (repeat' with_reducible apply And.intro) <;> first | assumption | rfl | omega | (unfold maxLen; omega)) ?_
    refine athen_n ?_
    refine AW.ret ?_
    refine athen_r ?_
    obtain rfl := Option.some.inj h
    exact ⟨rfl, [], [], [], rfl, (by (simp only [go_sem, hb2]) <;> (repeat' with_reducible apply And.intro) <;> first | assumption | rfl | omega | (unfold maxLen; omega))⟩
  · rw [if_neg (Bool.eq_false_iff.1 hb2)] at h
    refine AW.skip ?_
    refine athen_n ?_
    refine AW.seq ?_
    refine AW.ops ?_
    refine AO.segF tab_ok 3 (by decide) [(1, .sl (.int .i64) w), (2, .sl (.int .i64) v0), (3, .bp 3 0), (18, .agg [.int .i64 l.1, .sl (.pair (.int .i64) (.int .i64)) l.2]), (19, .sl (.int .i64) w), (20, .sl (.int .i64) v0)] [(3, .box 24 [.int .i64 l.1, .sl (.pair (.int .i64) (.int .i64)) l.2])] (by (simp only [go_sem, hb2]) <;> (repeat' with_reducible apply And.intro) <;> first | assumption | rfl | omega | (unfold maxLen; omega)) ?_
    obtain ⟨v0_4, hv4, h⟩ := Option.bind_eq_some_iff.1 h
    refine AO.call tab_ok (by decide) rfl rfl rfl (fun _ h => h) [] [] (hc_weave_Common l w v0 hv4) rfl (by (simp only [go_sem, hb2]) <;> (repeat' with_reducible apply And.intro) <;> first | assumption | rfl | omega | (unfold maxLen; omega)) (by (simp only [go_sem, hb2]) <;> (repeat' with_reducible apply And.intro) <;> first | assumption | rfl | omega | (unfold maxLen; omega)) [(1, .sl (.int .i64) w), (2, .sl (.int .i64) v0), (3, .bp 3 0), (21, .tup [.sl (.int .i64) v0_4.1, .int .i64 v0_4.2])] [(3, .box 24 [.int .i64 l.1, .sl (.pair (.int .i64) (.int .i64)) l.2])] (by (simp only [go_sem, hb2]) <;> (repeat' with_reducible apply And.intro) <;> first | assumption | rfl | omega | (unfold maxLen; omega)) ?_
    refine AO.allF tab_ok (by decide) [(1, .sl (.int .i64) w), (2, .sl (.int .i64) v0), (3, .bp 3 0), (7, .sl (.int .i64) v0_4.1), (8, .int .i64 v0_4.2)] [(3, .box 24 [.int .i64 l.1, .sl (.pair (.int .i64) (.int .i64)) l.2])] (by (simp only [go_sem, hb2]) <;> (repeat' with_reducible apply And.intro) <;> first | assumption | rfl | omega | (unfold maxLen; omega)) ?_
    refine athen_n ?_
    refine AW.seq ?_
    refine AW.ops ?_
    refine AO.segF tab_ok 3 (by decide) [(1, .sl (.int .i64) w), (2, .sl (.int .i64) v0), (3, .bp 3 0), (7, .sl (.int .i64) v0_4.1), (8, .int .i64 v0_4.2), (25, .agg [.int .i64 l.1, .sl (.pair (.int .i64) (.int .i64)) l.2]), (26, .sl (.int .i64) w), (27, .sl (.int .i64) v0)] [(3, .box 24 [.int .i64 l.1, .sl (.pair (.int .i64) (.int .i64)) l.2])] (by (simp only [go_sem, hb2]) <;> (repeat' with_reducible apply And.intro) <;> first | assumption | rfl | omega | (unfold maxLen; omega)) ?_
    obtain ⟨v0_5, hv5, h⟩ := Option.bind_eq_some_iff.1 h
    refine AO.call tab_ok (by decide) rfl rfl rfl (fun _ h => h) [] [] (hc_linealref03_Common l w v0 hv5) rfl (by (simp only [go_sem, hb2]) <;> (repeat' with_reducible apply And.intro) <;> first | assumption | rfl | omega | (unfold maxLen; omega)) (by (simp only [go_sem, hb2]) <;> (repeat' with_reducible apply And.intro) <;> first | assumption | rfl | omega | (unfold maxLen; omega)) [(1, .sl (.int .i64) w), (2, .sl (.int .i64) v0), (3, .bp 3 0), (7, .sl (.int .i64) v0_4.1), (8, .int .i64 v0_4.2), (28, .tup [.own 38000, .int .i64 v0_5.2])] [(3, .box 24 [.int .i64 l.1, .sl (.pair (.int .i64) (.int .i64)) l.2]), (38000, .arr 3 (.int .i64) v0_5.1)] (by (simp only [go_sem, hb2]) <;> (repeat' with_reducible apply And.intro) <;> first | assumption | rfl | omega | (unfold maxLen; omega)) ?_
    refine AO.allF tab_ok (by decide) [(1, .sl (.int .i64) w), (2, .sl (.int .i64) v0), (3, .bp 3 0), (7, .sl (.int .i64) v0_4.1), (8, .int .i64 v0_4.2), (9, .own 38000), (10, .int .i64 v0_5.2)] [(3, .box 24 [.int .i64 l.1, .sl (.pair (.int .i64) (.int .i64)) l.2]), (38000, .arr 3 (.int .i64) v0_5.1)] (by (simp only [go_sem, hb2]) <;> (repeat' with_reducible apply And.intro) <;> first | assumption | rfl | omega | (unfold maxLen; omega)) ?_
    refine athen_n ?_
    refine AW.seq ?_
    refine AW.seq ?_
    refine AW.ops ?_
    refine AO.segF tab_ok 2 (by decide) [(1, .sl (.int .i64) w), (2, .sl (.int .i64) v0), (3, .bp 3 0), (8, .int .i64 v0_4.2), (10, .int .i64 v0_5.2), (31, .sl (.int .i64) v0_4.1), (32, .own 38000)] [(3, .box 24 [.int .i64 l.1, .sl (.pair (.int .i64) (.int .i64)) l.2]), (38000, .arr 3 (.int .i64) v0_5.1)] (by (simp only [go_sem, hb2]) <;> (repeat' with_reducible apply And.intro) <;> first | assumption | rfl | omega | (unfold maxLen; omega)) ?_
    obtain ⟨v0_6, hv6, h⟩ := Option.bind_eq_some_iff.1 h
    refine AO.call tab_ok (by decide) rfl rfl rfl (fun _ h => h) [38000] [] (hc_linealref03_SameInts v0_4.1 v0_5.1 hv6) rfl (by (simp only [go_sem, hb2]) <;> (repeat' with_reducible apply And.intro) <;> first | assumption | rfl | omega | (unfold maxLen; omega)) (by (simp only [go_sem, hb2]) <;> (repeat' with_reducible apply And.intro) <;> first | assumption | rfl | omega | (unfold maxLen; omega)) [(1, .sl (.int .i64) w), (2, .sl (.int .i64) v0), (3, .bp 3 0), (8, .int .i64 v0_4.2), (10, .int .i64 v0_5.2), (33, .bool v0_6)] [(3, .box 24 [.int .i64 l.1, .sl (.pair (.int .i64) (.int .i64)) l.2])] (by (simp only [go_sem, hb2]) <;> (repeat' with_reducible apply And.intro) <;> first | assumption | rfl | omega | (unfold maxLen; omega)) ?_
    refine AO.segF tab_ok 2 (by decide) [(1, .sl (.int .i64) w), (2, .sl (.int .i64) v0), (3, .bp 3 0), (8, .int .i64 v0_4.2), (10, .int .i64 v0_5.2), (35, .bool (!v0_6))] [(3, .box 24 [.int .i64 l.1, .sl (.pair (.int .i64) (.int .i64)) l.2])] (by (simp only [go_sem, hb2]) <;> (repeat' with_reducible apply And.intro) <;> first | assumption | rfl | omega | (unfold maxLen; omega)) ?_
    rcases Bool.eq_false_or_eq_true (!v0_6) with hb7 | hb7
    · rw [if_pos hb7] at h
      refine AO.weaken (s' := ⟨fr [(1, .sl (.int .i64) w), (2, .sl (.int .i64) v0), (3, .bp 3 0), (8, .int .i64 v0_4.2), (10, .int .i64 v0_5.2), (35, .bool true)], hpGet [(3, .box 24 [.int .i64 l.1, .sl (.pair (.int .i64) (.int .i64)) l.2])], gt⟩) (Wk.to (by (simp only [go_sem, hb2, hb7]) <;> (repeat' with_reducible apply And.intro) <;> first | assumption | rfl | omega | (unfold maxLen; omega))) ?_
      refine AO.allF tab_ok (by decide) [(1, .sl (.int .i64) w), (2, .sl (.int .i64) v0), (3, .bp 3 0), (39, .bool true)] [(3, .box 24 [.int .i64 l.1, .sl (.pair (.int .i64) (.int .i64)) l.2])] (by (simp only [go_sem, hb2, hb7]) <;> (repeat' with_reducible apply And.intro) <;> first | assumption | rfl | omega | (unfold maxLen; omega)) ?_
      refine athen_n ?_
      refine AW.cond (b := true) rfl (fun _ => ?_) (fun hb8 => by cases hb8)
      refine AW.seq ?_
      refine AW.ops ?_
      refine AO.allF tab_ok (by decide) [(6, .bool false)] [] (by (simp only [go_sem, hb2, hb7]) <;> (repeat' with_reducible apply And.intro) <;> first | assumption | rfl | omega | (unfold maxLen; omega)) ?_
      refine athen_n ?_
      refine AW.ret ?_
      refine athen_r ?_
      obtain rfl := Option.some.inj h
      exact ⟨rfl, [], [], [], rfl, (by (simp only [go_sem, hb2, hb7]) <;> (repeat' with_reducible apply And.intro) <;> first | assumption | rfl | omega | (unfold maxLen; omega))⟩
    · rw [if_neg (Bool.eq_false_iff.1 hb7)] at h
      refine AO.weaken (s' := ⟨fr [(1, .sl (.int .i64) w), (2, .sl (.int .i64) v0), (3, .bp 3 0), (8, .int .i64 v0_4.2), (10, .int .i64 v0_5.2), (35, .bool false)], hpGet [(3, .box 24 [.int .i64 l.1, .sl (.pair (.int .i64) (.int .i64)) l.2])], gt⟩) (Wk.to (by (simp only [go_sem, hb2, hb7]) <;> (repeat' with_reducible apply And.intro) <;> first | assumption | rfl | omega | (unfold maxLen; omega))) ?_
      refine AO.allF tab_ok (by decide) [(1, .sl (.int .i64) w), (2, .sl (.int .i64) v0), (3, .bp 3 0), (39, .bool (!(decide (v0_4.2 = v0_5.2))))] [(3, .box 24 [.int .i64 l.1, .sl (.pair (.int .i64) (.int .i64)) l.2])] (by (simp only [go_sem, hb2, hb7]) <;> (repeat' with_reducible apply And.intro) <;> first | assumption | rfl | omega | (unfold maxLen; omega)) ?_
      refine athen_n ?_
      refine AW.cond (b := (!(decide (v0_4.2 = v0_5.2)))) rfl (fun hb9 => ?_) (fun hb9 => ?_)
      · rw [if_pos hb9] at h
        refine AW.seq ?_
        refine AW.ops ?_
        refine AO.allF tab_ok (by decide) [(6, .bool false)] [] (by (simp only [go_sem, hb2, hb7, hb9]) <;> (repeat' with_reducible apply And.intro) <;> first | assumption | rfl | omega | (unfold maxLen; omega)) ?_
        refine athen_n ?_
        refine AW.ret ?_
        refine athen_r ?_
        obtain rfl := Option.some.inj h
        exact ⟨rfl, [], [], [], rfl, (by (simp only [go_sem, hb2, hb7, hb9]) <;> (repeat' with_reducible apply And.intro) <;> first | assumption | rfl | omega | (unfold maxLen; omega))⟩
      · rw [if_neg (Bool.eq_false_iff.1 hb9)] at h
        refine AW.skip ?_
        refine athen_n ?_
        refine AW.seq ?_
        refine AW.ops ?_
        refine AO.segF tab_ok 3 (by decide) [(1, .sl (.int .i64) w), (2, .sl (.int .i64) v0), (3, .bp 3 0), (41, .agg [.int .i64 l.1, .sl (.pair (.int .i64) (.int .i64)) l.2]), (42, .sl (.int .i64) w), (43, .sl (.int .i64) v0)] [(3, .box 24 [.int .i64 l.1, .sl (.pair (.int .i64) (.int .i64)) l.2])] (by (simp only [go_sem, hb2, hb7, hb9]) <;> (repeat' with_reducible apply And.intro) <;> first | assumption | rfl | omega | (unfold maxLen; omega)) ?_
        obtain ⟨v0_7, hv10, h⟩ := Option.bind_eq_some_iff.1 h
        refine AO.call tab_ok (by decide) rfl rfl rfl (fun _ h => h) [] [] (hc_weave_Both l w v0 hv10) rfl (by (simp only [go_sem, hb2, hb7, hb9]) <;> (repeat' with_reducible apply And.intro) <;> first | assumption | rfl | omega | (unfold maxLen; omega)) (by (simp only [go_sem, hb2, hb7, hb9]) <;> (repeat' with_reducible apply And.intro) <;> first | assumption | rfl | omega | (unfold maxLen; omega)) [(1, .sl (.int .i64) w), (2, .sl (.int .i64) v0), (3, .bp 3 0), (44, .tup [.sl (.int .i64) v0_7.1, .int .i64 v0_7.2])] [(3, .box 24 [.int .i64 l.1, .sl (.pair (.int .i64) (.int .i64)) l.2])] (by (simp only [go_sem, hb2, hb7, hb9]) <;> (repeat' with_reducible apply And.intro) <;> first | assumption | rfl | omega | (unfold maxLen; omega)) ?_
        refine AO.allF tab_ok (by decide) [(1, .sl (.int .i64) w), (2, .sl (.int .i64) v0), (3, .bp 3 0), (7, .sl (.int .i64) v0_7.1), (8, .int .i64 v0_7.2)] [(3, .box 24 [.int .i64 l.1, .sl (.pair (.int .i64) (.int .i64)) l.2])] (by (simp only [go_sem, hb2, hb7, hb9]) <;> (repeat' with_reducible apply And.intro) <;> first | assumption | rfl | omega | (unfold maxLen; omega)) ?_
        refine athen_n ?_
        refine AW.seq ?_
        refine AW.ops ?_
        refine AO.segF tab_ok 3 (by decide) [(7, .sl (.int .i64) v0_7.1), (8, .int .i64 v0_7.2), (48, .agg [.int .i64 l.1, .sl (.pair (.int .i64) (.int .i64)) l.2]), (49, .sl (.int .i64) w), (50, .sl (.int .i64) v0)] [] (by (simp only [go_sem, hb2, hb7, hb9]) <;> (repeat' with_reducible apply And.intro) <;> first | assumption | rfl | omega | (unfold maxLen; omega)) ?_
        obtain ⟨v0_8, hv11, h⟩ := Option.bind_eq_some_iff.1 h
        refine AO.call tab_ok (by decide) rfl rfl rfl (fun _ h => h) [] [] (hc_linealref03_Both l w v0 hv11) rfl (by (simp only [go_sem, hb2, hb7, hb9]) <;> (repeat' with_reducible apply And.intro) <;> first | assumption | rfl | omega | (unfold maxLen; omega)) (by (simp only [go_sem, hb2, hb7, hb9]) <;> (repeat' with_reducible apply And.intro) <;> first | assumption | rfl | omega | (unfold maxLen; omega)) [(7, .sl (.int .i64) v0_7.1), (8, .int .i64 v0_7.2), (51, .tup [.own 61000, .int .i64 v0_8.2])] [(61000, .arr 3 (.int .i64) v0_8.1)] (by (simp only [go_sem, hb2, hb7, hb9]) <;> (repeat' with_reducible apply And.intro) <;> first | assumption | rfl | omega | (unfold maxLen; omega)) ?_
        refine AO.allF tab_ok (by decide) [(7, .sl (.int .i64) v0_7.1), (8, .int .i64 v0_7.2), (9, .own 61000), (10, .int .i64 v0_8.2)] [(61000, .arr 3 (.int .i64) v0_8.1)] (by (simp only [go_sem, hb2, hb7, hb9]) <;> (repeat' with_reducible apply And.intro) <;> first | assumption | rfl | omega | (unfold maxLen; omega)) ?_
        refine athen_n ?_
        refine AW.seq ?_
        refine AW.ops ?_
        refine AO.segF tab_ok 2 (by decide) [(8, .int .i64 v0_7.2), (10, .int .i64 v0_8.2), (54, .sl (.int .i64) v0_7.1), (55, .own 61000)] [(61000, .arr 3 (.int .i64) v0_8.1)] (by (simp only [go_sem, hb2, hb7, hb9]) <;> (repeat' with_reducible apply And.intro) <;> first | assumption | rfl | omega | (unfold maxLen; omega)) ?_
        obtain ⟨v0_9, hv12, h⟩ := Option.bind_eq_some_iff.1 h
        refine AO.call tab_ok (by decide) rfl rfl rfl (fun _ h => h) [61000] [] (hc_linealref03_SameInts v0_7.1 v0_8.1 hv12) rfl (by (simp only [go_sem, hb2, hb7, hb9]) <;> (repeat' with_reducible apply And.intro) <;> first | assumption | rfl | omega | (unfold maxLen; omega)) (by (simp only [go_sem, hb2, hb7, hb9]) <;> (repeat' with_reducible apply And.intro) <;> first | assumption | rfl | omega | (unfold maxLen; omega)) [(8, .int .i64 v0_7.2), (10, .int .i64 v0_8.2), (56, .bool v0_9)] [] (by (simp only [go_sem, hb2, hb7, hb9]) <;> (repeat' with_reducible apply And.intro) <;> first | assumption | rfl | omega | (unfold maxLen; omega)) ?_
        refine AO.segF tab_ok 1 (by decide) [(8, .int .i64 v0_7.2), (10, .int .i64 v0_8.2), (57, .bool v0_9)] [] (by (simp only [go_sem, hb2, hb7, hb9]) <;> (repeat' with_reducible apply And.intro) <;> first | assumption | rfl | omega | (unfold maxLen; omega)) ?_
        rcases Bool.eq_false_or_eq_true v0_9 with hb13 | hb13
        · rw [if_pos hb13] at h
          refine AO.weaken (s' := ⟨fr [(8, .int .i64 v0_7.2), (10, .int .i64 v0_8.2), (57, .bool true)], hpGet [], gt⟩) (Wk.to (by (simp only [go_sem, hb2, hb7, hb9, hb13]) <;> (repeat' with_reducible apply And.intro) <;> first | assumption | rfl | omega | (unfold maxLen; omega))) ?_
          refine AO.segF tab_ok 5 (by decide) [(62, .bool (decide (v0_7.2 = v0_8.2)))] [] (by (simp only [go_sem, hb2, hb7, hb9, hb13]) <;> (repeat' with_reducible apply And.intro) <;> first | assumption | rfl | omega | (unfold maxLen; omega)) ?_
          rcases Bool.eq_false_or_eq_true (decide (v0_7.2 = v0_8.2)) with hb14 | hb14
          · rw [if_pos hb14] at h
            refine AO.weaken (s' := ⟨fr [(62, .bool true)], hpGet [], gt⟩) (Wk.to (by (simp only [go_sem, hb2, hb7, hb9, hb13, hb14]) <;> (repeat' with_reducible apply And.intro) <;> first | assumption | rfl | omega | (unfold maxLen; omega))) ?_
            obtain ⟨v0_10, hv15, h⟩ := Option.bind_eq_some_iff.1 h
            refine AO.call tab_ok (by decide) rfl rfl rfl (fun _ h => ⟨fun _ => h, fun hn => absurd rfl hn⟩) [] [] (hc_lineallaw03_Awake hv15) rfl (by (simp only [go_sem, hb2, hb7, hb9, hb13, hb14]) <;> (repeat' with_reducible apply And.intro) <;> first | assumption | rfl | omega | (unfold maxLen; omega)) (by (simp only [go_sem, hb2, hb7, hb9, hb13, hb14]) <;> (repeat' with_reducible apply And.intro) <;> first | assumption | rfl | omega | (unfold maxLen; omega)) [(62, .bool true), (63, .bool v0_10)] [] (by (simp only [go_sem, hb2, hb7, hb9, hb13, hb14]) <;> (repeat' with_reducible apply And.intro) <;> first | assumption | rfl | omega | (unfold maxLen; omega)) ?_
            refine AO.allF tab_ok (by decide) [(6, .bool v0_10)] [] (by (simp only [go_sem, hb2, hb7, hb9, hb13, hb14]) <;> (repeat' with_reducible apply And.intro) <;> first | assumption | rfl | omega | (unfold maxLen; omega)) ?_
            refine athen_n ?_
            refine AW.ret ?_
            obtain rfl := Option.some.inj h
            exact ⟨rfl, [], [], [], rfl, (by (simp only [go_sem, hb2, hb7, hb9, hb13, hb14]) <;> (repeat' with_reducible apply And.intro) <;> first | assumption | rfl | omega | (unfold maxLen; omega))⟩
          · rw [if_neg (Bool.eq_false_iff.1 hb14)] at h
            refine AO.weaken (s' := ⟨fr [(62, .bool false)], hpGet [], gt⟩) (Wk.to (by (simp only [go_sem, hb2, hb7, hb9, hb13, hb14]) <;> (repeat' with_reducible apply And.intro) <;> first | assumption | rfl | omega | (unfold maxLen; omega))) ?_
            refine AO.allF tab_ok (by decide) [(6, .bool false)] [] (by (simp only [go_sem, hb2, hb7, hb9, hb13, hb14]) <;> (repeat' with_reducible apply And.intro) <;> first | assumption | rfl | omega | (unfold maxLen; omega)) ?_
            refine athen_n ?_
            refine AW.ret ?_
            obtain rfl := Option.some.inj h
            exact ⟨rfl, [], [], [], rfl, (by (simp only [go_sem, hb2, hb7, hb9, hb13, hb14]) <;> (repeat' with_reducible apply And.intro) <;> first | assumption | rfl | omega | (unfold maxLen; omega))⟩
        · rw [if_neg (Bool.eq_false_iff.1 hb13)] at h
          refine AO.weaken (s' := ⟨fr [(8, .int .i64 v0_7.2), (10, .int .i64 v0_8.2), (57, .bool false)], hpGet [], gt⟩) (Wk.to (by (simp only [go_sem, hb2, hb7, hb9, hb13]) <;> (repeat' with_reducible apply And.intro) <;> first | assumption | rfl | omega | (unfold maxLen; omega))) ?_
          refine AO.segF tab_ok 6 (by decide) [(62, .bool false), (63, .cv (undef))] [] (by (simp only [go_sem, hb2, hb7, hb9, hb13]) <;> (repeat' with_reducible apply And.intro) <;> first | assumption | rfl | omega | (unfold maxLen; omega)) ?_
          refine AO.allF tab_ok (by decide) [(6, .bool false)] [] (by (simp only [go_sem, hb2, hb7, hb9, hb13]) <;> (repeat' with_reducible apply And.intro) <;> first | assumption | rfl | omega | (unfold maxLen; omega)) ?_
          refine athen_n ?_
          refine AW.ret ?_
          obtain rfl := Option.some.inj h
          exact ⟨rfl, [], [], [], rfl, (by (simp only [go_sem, hb2, hb7, hb9, hb13]) <;> (repeat' with_reducible apply And.intro) <;> first | assumption | rfl | omega | (unfold maxLen; omega))⟩

end Go.Proofs.Ytcijihofjcfpoab
