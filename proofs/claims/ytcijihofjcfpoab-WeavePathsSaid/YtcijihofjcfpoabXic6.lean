/-
  Made by wip/tool/dc.py out of the print of the program: contracts.
-/
import Derived.Test.YtcijihofjcfpoabWp
import Derived.Test.YtcijihofjcfpoabTb3
import Derived.Test.YtcijihofjcfpoabXic2
import Derived.Test.YtcijihofjcfpoabXic5
namespace Go.Proofs.Ytcijihofjcfpoab
open Go.RowKit

set_option linter.unusedSimpArgs false
set_option linter.unusedVariables false
set_option linter.constructorNameAsVariable false

set_option maxRecDepth 100000 in
set_option maxHeartbeats 2000000 in
theorem hc_lineallaw03_WeavePaths (l : Int × (List (Int × Int))) (w : List Int) (v0 : List Int) (path : List Int) {r : Bool} (h : lineallaw03_WeavePaths l w v0 path = some r) : HC Try.prog 4 [] [.agg [.int .i64 l.1, .sl (.pair (.int .i64) (.int .i64)) l.2], .sl (.int .i64) w, .sl (.int .i64) v0, .sl (.int .i64) path] [] (.bool r) := by
  unfold lineallaw03_WeavePaths at h
  refine HC.of_body tab_ok (res := [.tmp 8]) Try.func4 rfl (by kernel_rfl) rfl (nt := 136) rfl (by decide) (by simp) ?_
  refine AW.seq ?_
  refine AW.ops ?_
  refine AO.allF tab_ok (by decide) [(1, .sl (.int .i64) w), (2, .sl (.int .i64) v0), (3, .sl (.int .i64) path), (4, .bp 4 0)] [(4, .box 24 [.int .i64 l.1, .sl (.pair (.int .i64) (.int .i64)) l.2])] (by (simp only [go_sem]) <;> (repeat' with_reducible apply And.intro) <;> first | assumption | rfl | omega | (unfold maxLen; omega)) ?_
  refine athen_n ?_
  refine AW.seq ?_
  refine AW.seq ?_
  refine AW.ops ?_
  refine AO.segF tab_ok 4 (by decide) [(1, .sl (.int .i64) w), (2, .sl (.int .i64) v0), (3, .sl (.int .i64) path), (4, .bp 4 0), (17, .agg [.int .i64 l.1, .sl (.pair (.int .i64) (.int .i64)) l.2]), (20, .own 20)] [(4, .box 24 [.int .i64 l.1, .sl (.pair (.int .i64) (.int .i64)) l.2]), (20, .arr 25 (.sl (.int .i64)) [w, v0])] (by (simp only [go_sem]) <;> (repeat' with_reducible apply And.intro) <;> first | assumption | rfl | omega | (unfold maxLen; omega)) ?_
  obtain ⟨v0_2, hv1, h⟩ := Option.bind_eq_some_iff.1 h
  refine AO.call tab_ok (by decide) rfl rfl rfl (fun _ h => h) [20] [] (hc_lineallaw03_Long l [w, v0] hv1) rfl (by (simp only [go_sem]) <;> (repeat' with_reducible apply And.intro) <;> first | assumption | rfl | omega | (unfold maxLen; omega)) (by (simp only [go_sem]) <;> (repeat' with_reducible apply And.intro) <;> first | assumption | rfl | omega | (unfold maxLen; omega)) [(1, .sl (.int .i64) w), (2, .sl (.int .i64) v0), (3, .sl (.int .i64) path), (4, .bp 4 0), (21, .bool v0_2)] [(4, .box 24 [.int .i64 l.1, .sl (.pair (.int .i64) (.int .i64)) l.2])] (by (simp only [go_sem]) <;> (repeat' with_reducible apply And.intro) <;> first | assumption | rfl | omega | (unfold maxLen; omega)) ?_
  refine AO.segF tab_ok 1 (by decide) [(1, .sl (.int .i64) w), (2, .sl (.int .i64) v0), (3, .sl (.int .i64) path), (4, .bp 4 0), (22, .bool v0_2)] [(4, .box 24 [.int .i64 l.1, .sl (.pair (.int .i64) (.int .i64)) l.2])] (by (simp only [go_sem]) <;> (repeat' with_reducible apply And.intro) <;> first | assumption | rfl | omega | (unfold maxLen; omega)) ?_
  rcases Bool.eq_false_or_eq_true v0_2 with hb2 | hb2
  · rw [if_pos hb2] at h
    refine AO.weaken (s' := ⟨fr [(1, .sl (.int .i64) w), (2, .sl (.int .i64) v0), (3, .sl (.int .i64) path), (4, .bp 4 0), (22, .bool true)], hpGet [(4, .box 24 [.int .i64 l.1, .sl (.pair (.int .i64) (.int .i64)) l.2])], gt⟩) (Wk.to (by (simp only [go_sem, hb2]) <;> (repeat' with_reducible apply And.intro) <;> first | assumption | rfl | omega | (unfold maxLen; omega))) ?_
    refine AO.allF tab_ok (by decide) [(1, .sl (.int .i64) w), (2, .sl (.int .i64) v0), (3, .sl (.int .i64) path), (4, .bp 4 0), (26, .bool true)] [(4, .box 24 [.int .i64 l.1, .sl (.pair (.int .i64) (.int .i64)) l.2])] (by (simp only [go_sem, hb2]) <;> (repeat' with_reducible apply And.intro) <;> first | assumption | rfl | omega | (unfold maxLen; omega)) ?_
    refine athen_n ?_
    refine AW.cond (b := true) rfl (fun _ => ?_) (fun hb3 => by cases hb3)
    refine AW.seq ?_
    refine AW.ops ?_
    obtain ⟨v0_3, hv4, h⟩ := Option.bind_eq_some_iff.1 h
    refine AO.call tab_ok (by decide) rfl rfl rfl (fun _ h => h) [] [] (hc_lineallaw03_Awake hv4) rfl (by (simp only [go_sem, hb2]) <;> (repeat' with_reducible apply And.intro) <;> first | assumption | rfl | omega | (unfold maxLen; omega)) (by (simp only [go_sem, hb2]) <;> (repeat' with_reducible apply And.intro) <;> first | assumption | rfl | omega | (unfold maxLen; omega)) [(27, .bool v0_3)] [] (by (simp only [go_sem, hb2]) <;> (repeat' with_reducible apply And.intro) <;> first | assumption | rfl | omega | (unfold maxLen; omega)) ?_
    refine AO.allF tab_ok (by decide) [(8, .bool v0_3)] [] (by (simp only [go_sem, hb2]) <;> (repeat' with_reducible apply And.intro) <;> first | assumption | rfl | omega | (unfold maxLen; omega)) ?_
    refine athen_n ?_
    refine AW.ret ?_
    refine athen_r ?_
    obtain rfl := Option.some.inj h
    exact ⟨rfl, [], [], [], rfl, (by (simp only [go_sem, hb2]) <;> (repeat' with_reducible apply And.intro) <;> first | assumption | rfl | omega | (unfold maxLen; omega))⟩
  · rw [if_neg (Bool.eq_false_iff.1 hb2)] at h
    refine AO.weaken (s' := ⟨fr [(1, .sl (.int .i64) w), (2, .sl (.int .i64) v0), (3, .sl (.int .i64) path), (4, .bp 4 0), (22, .bool false)], hpGet [(4, .box 24 [.int .i64 l.1, .sl (.pair (.int .i64) (.int .i64)) l.2])], gt⟩) (Wk.to (by (simp only [go_sem, hb2]) <;> (repeat' with_reducible apply And.intro) <;> first | assumption | rfl | omega | (unfold maxLen; omega))) ?_
    refine AO.allF tab_ok (by decide) [(1, .sl (.int .i64) w), (2, .sl (.int .i64) v0), (3, .sl (.int .i64) path), (4, .bp 4 0), (26, .bool (decide (1100 < (path.length : Int))))] [(4, .box 24 [.int .i64 l.1, .sl (.pair (.int .i64) (.int .i64)) l.2])] (by (simp only [go_sem, hb2]) <;> (repeat' with_reducible apply And.intro) <;> first | assumption | rfl | omega | (unfold maxLen; omega)) ?_
    refine athen_n ?_
    refine AW.cond (b := (decide (1100 < (path.length : Int)))) rfl (fun hb5 => ?_) (fun hb5 => ?_)
    · rw [if_pos hb5] at h
      refine AW.seq ?_
      refine AW.ops ?_
      obtain ⟨v0_4, hv6, h⟩ := Option.bind_eq_some_iff.1 h
      refine AO.call tab_ok (by decide) rfl rfl rfl (fun _ h => h) [] [] (hc_lineallaw03_Awake hv6) rfl (by (simp only [go_sem, hb2, hb5]) <;> (repeat' with_reducible apply And.intro) <;> first | assumption | rfl | omega | (unfold maxLen; omega)) (by (simp only [go_sem, hb2, hb5]) <;> (repeat' with_reducible apply And.intro) <;> first | assumption | rfl | omega | (unfold maxLen; omega)) [(27, .bool v0_4)] [] (by (simp only [go_sem, hb2, hb5]) <;> (repeat' with_reducible apply And.intro) <;> first | assumption | rfl | omega | (unfold maxLen; omega)) ?_
      refine AO.allF tab_ok (by decide) [(8, .bool v0_4)] [] (by (simp only [go_sem, hb2, hb5]) <;> (repeat' with_reducible apply And.intro) <;> first | assumption | rfl | omega | (unfold maxLen; omega)) ?_
      refine athen_n ?_
      refine AW.ret ?_
      refine athen_r ?_
      obtain rfl := Option.some.inj h
      exact ⟨rfl, [], [], [], rfl, (by (simp only [go_sem, hb2, hb5]) <;> (repeat' with_reducible apply And.intro) <;> first | assumption | rfl | omega | (unfold maxLen; omega))⟩
    · rw [if_neg (Bool.eq_false_iff.1 hb5)] at h
      refine AW.skip ?_
      refine athen_n ?_
      refine AW.seq ?_
      refine AW.ops ?_
      refine AO.segF tab_ok 3 (by decide) [(1, .sl (.int .i64) w), (2, .sl (.int .i64) v0), (3, .sl (.int .i64) path), (4, .bp 4 0), (29, .agg [.int .i64 l.1, .sl (.pair (.int .i64) (.int .i64)) l.2]), (30, .sl (.int .i64) w), (31, .sl (.int .i64) v0)] [(4, .box 24 [.int .i64 l.1, .sl (.pair (.int .i64) (.int .i64)) l.2])] (by (simp only [go_sem, hb2, hb5]) <;> (repeat' with_reducible apply And.intro) <;> first | assumption | rfl | omega | (unfold maxLen; omega)) ?_
      obtain ⟨v0_5, hv7, h⟩ := Option.bind_eq_some_iff.1 h
      refine AO.call tab_ok (by decide) rfl rfl rfl (fun _ h => h) [] [] (hc_weave_Equal l w v0 hv7) rfl (by (simp only [go_sem, hb2, hb5]) <;> (repeat' with_reducible apply And.intro) <;> first | assumption | rfl | omega | (unfold maxLen; omega)) (by (simp only [go_sem, hb2, hb5]) <;> (repeat' with_reducible apply And.intro) <;> first | assumption | rfl | omega | (unfold maxLen; omega)) [(1, .sl (.int .i64) w), (2, .sl (.int .i64) v0), (3, .sl (.int .i64) path), (4, .bp 4 0), (32, .tup [.bool v0_5.1, .int .i64 v0_5.2])] [(4, .box 24 [.int .i64 l.1, .sl (.pair (.int .i64) (.int .i64)) l.2])] (by (simp only [go_sem, hb2, hb5]) <;> (repeat' with_reducible apply And.intro) <;> first | assumption | rfl | omega | (unfold maxLen; omega)) ?_
      refine AO.allF tab_ok (by decide) [(1, .sl (.int .i64) w), (2, .sl (.int .i64) v0), (3, .sl (.int .i64) path), (4, .bp 4 0), (9, .bool v0_5.1), (10, .int .i64 v0_5.2)] [(4, .box 24 [.int .i64 l.1, .sl (.pair (.int .i64) (.int .i64)) l.2])] (by (simp only [go_sem, hb2, hb5]) <;> (repeat' with_reducible apply And.intro) <;> first | assumption | rfl | omega | (unfold maxLen; omega)) ?_
      refine athen_n ?_
      refine AW.seq ?_
      refine AW.ops ?_
      refine AO.segF tab_ok 3 (by decide) [(1, .sl (.int .i64) w), (2, .sl (.int .i64) v0), (3, .sl (.int .i64) path), (4, .bp 4 0), (9, .bool v0_5.1), (10, .int .i64 v0_5.2), (36, .agg [.int .i64 l.1, .sl (.pair (.int .i64) (.int .i64)) l.2]), (37, .sl (.int .i64) w), (38, .sl (.int .i64) v0)] [(4, .box 24 [.int .i64 l.1, .sl (.pair (.int .i64) (.int .i64)) l.2])] (by (simp only [go_sem, hb2, hb5]) <;> (repeat' with_reducible apply And.intro) <;> first | assumption | rfl | omega | (unfold maxLen; omega)) ?_
      obtain ⟨v0_6, hv8, h⟩ := Option.bind_eq_some_iff.1 h
      refine AO.call tab_ok (by decide) rfl rfl rfl (fun _ h => h) [] [] (hc_linealref03_Equal l w v0 hv8) rfl (by (simp only [go_sem, hb2, hb5]) <;> (repeat' with_reducible apply And.intro) <;> first | assumption | rfl | omega | (unfold maxLen; omega)) (by (simp only [go_sem, hb2, hb5]) <;> (repeat' with_reducible apply And.intro) <;> first | assumption | rfl | omega | (unfold maxLen; omega)) [(1, .sl (.int .i64) w), (2, .sl (.int .i64) v0), (3, .sl (.int .i64) path), (4, .bp 4 0), (9, .bool v0_5.1), (10, .int .i64 v0_5.2), (39, .tup [.bool v0_6.1, .int .i64 v0_6.2])] [(4, .box 24 [.int .i64 l.1, .sl (.pair (.int .i64) (.int .i64)) l.2])] (by (simp only [go_sem, hb2, hb5]) <;> (repeat' with_reducible apply And.intro) <;> first | assumption | rfl | omega | (unfold maxLen; omega)) ?_
      refine AO.allF tab_ok (by decide) [(1, .sl (.int .i64) w), (2, .sl (.int .i64) v0), (3, .sl (.int .i64) path), (4, .bp 4 0), (9, .bool v0_5.1), (10, .int .i64 v0_5.2), (11, .bool v0_6.1), (12, .int .i64 v0_6.2)] [(4, .box 24 [.int .i64 l.1, .sl (.pair (.int .i64) (.int .i64)) l.2])] (by (simp only [go_sem, hb2, hb5]) <;> (repeat' with_reducible apply And.intro) <;> first | assumption | rfl | omega | (unfold maxLen; omega)) ?_
      refine athen_n ?_
      refine AW.seq ?_
      refine AW.seq ?_
      refine AW.ops ?_
      refine AO.segF tab_ok 4 (by decide) [(1, .sl (.int .i64) w), (2, .sl (.int .i64) v0), (3, .sl (.int .i64) path), (4, .bp 4 0), (9, .bool v0_5.1), (10, .int .i64 v0_5.2), (12, .int .i64 v0_6.2), (45, .bool ((v0_5.1 == v0_6.1) != true))] [(4, .box 24 [.int .i64 l.1, .sl (.pair (.int .i64) (.int .i64)) l.2])] (by (simp only [go_sem, hb2, hb5]) <;> (repeat' with_reducible apply And.intro) <;> first | assumption | rfl | omega | (unfold maxLen; omega)) ?_
      rcases Bool.eq_false_or_eq_true ((v0_5.1 == v0_6.1) != true) with hb9 | hb9
      · rw [if_pos hb9] at h
        refine AO.weaken (s' := ⟨fr [(1, .sl (.int .i64) w), (2, .sl (.int .i64) v0), (3, .sl (.int .i64) path), (4, .bp 4 0), (9, .bool v0_5.1), (10, .int .i64 v0_5.2), (12, .int .i64 v0_6.2), (45, .bool true)], hpGet [(4, .box 24 [.int .i64 l.1, .sl (.pair (.int .i64) (.int .i64)) l.2])], gt⟩) (Wk.to (by (simp only [go_sem, hb2, hb5, hb9]) <;> (repeat' with_reducible apply And.intro) <;> first | assumption | rfl | omega | (unfold maxLen; omega))) ?_
        refine AO.allF tab_ok (by decide) [(1, .sl (.int .i64) w), (2, .sl (.int .i64) v0), (3, .sl (.int .i64) path), (4, .bp 4 0), (9, .bool v0_5.1), (10, .int .i64 v0_5.2), (49, .bool true)] [(4, .box 24 [.int .i64 l.1, .sl (.pair (.int .i64) (.int .i64)) l.2])] (by (simp only [go_sem, hb2, hb5, hb9]) <;> (repeat' with_reducible apply And.intro) <;> first | assumption | rfl | omega | (unfold maxLen; omega)) ?_
        refine athen_n ?_
        refine AW.cond (b := true) rfl (fun _ => ?_) (fun hb10 => by cases hb10)
        refine AW.seq ?_
        refine AW.ops ?_
        refine AO.allF tab_ok (by decide) [(8, .bool false)] [] (by (simp only [go_sem, hb2, hb5, hb9]) <;> (repeat' with_reducible apply And.intro) <;> first | assumption | rfl | omega | (unfold maxLen; omega)) ?_
        refine athen_n ?_
        refine AW.ret ?_
        refine athen_r ?_
        obtain rfl := Option.some.inj h
        exact ⟨rfl, [], [], [], rfl, (by (simp only [go_sem, hb2, hb5, hb9]) <;> (repeat' with_reducible apply And.intro) <;> first | assumption | rfl | omega | (unfold maxLen; omega))⟩
      · rw [if_neg (Bool.eq_false_iff.1 hb9)] at h
        refine AO.weaken (s' := ⟨fr [(1, .sl (.int .i64) w), (2, .sl (.int .i64) v0), (3, .sl (.int .i64) path), (4, .bp 4 0), (9, .bool v0_5.1), (10, .int .i64 v0_5.2), (12, .int .i64 v0_6.2), (45, .bool false)], hpGet [(4, .box 24 [.int .i64 l.1, .sl (.pair (.int .i64) (.int .i64)) l.2])], gt⟩) (Wk.to (by (simp only [go_sem, hb2, hb5, hb9]) <;> (repeat' with_reducible apply And.intro) <;> first | assumption | rfl | omega | (unfold maxLen; omega))) ?_
        refine AO.allF tab_ok (by decide) [(1, .sl (.int .i64) w), (2, .sl (.int .i64) v0), (3, .sl (.int .i64) path), (4, .bp 4 0), (9, .bool v0_5.1), (10, .int .i64 v0_5.2), (49, .bool (!(decide (v0_5.2 = v0_6.2))))] [(4, .box 24 [.int .i64 l.1, .sl (.pair (.int .i64) (.int .i64)) l.2])] (by (simp only [go_sem, hb2, hb5, hb9]) <;> (repeat' with_reducible apply And.intro) <;> first | assumption | rfl | omega | (unfold maxLen; omega)) ?_
        refine athen_n ?_
        refine AW.cond (b := (!(decide (v0_5.2 = v0_6.2)))) rfl (fun hb11 => ?_) (fun hb11 => ?_)
        · rw [if_pos hb11] at h
          refine AW.seq ?_
          refine AW.ops ?_
          refine AO.allF tab_ok (by decide) [(8, .bool false)] [] (by (simp only [go_sem, hb2, hb5, hb9, hb11]) <;> (repeat' with_reducible apply And.intro) <;> first | assumption | rfl | omega | (unfold maxLen; omega)) ?_
          refine athen_n ?_
          refine AW.ret ?_
          refine athen_r ?_
          obtain rfl := Option.some.inj h
          exact ⟨rfl, [], [], [], rfl, (by (simp only [go_sem, hb2, hb5, hb9, hb11]) <;> (repeat' with_reducible apply And.intro) <;> first | assumption | rfl | omega | (unfold maxLen; omega))⟩
        · rw [if_neg (Bool.eq_false_iff.1 hb11)] at h
          refine AW.skip ?_
          refine athen_n ?_
          refine AW.seq ?_
          refine AW.ops ?_
          refine AO.segF tab_ok 3 (by decide) [(1, .sl (.int .i64) w), (2, .sl (.int .i64) v0), (3, .sl (.int .i64) path), (4, .bp 4 0), (9, .bool v0_5.1), (10, .int .i64 v0_5.2), (51, .agg [.int .i64 l.1, .sl (.pair (.int .i64) (.int .i64)) l.2]), (52, .sl (.int .i64) w), (53, .sl (.int .i64) v0)] [(4, .box 24 [.int .i64 l.1, .sl (.pair (.int .i64) (.int .i64)) l.2])] (by (simp only [go_sem, hb2, hb5, hb9, hb11]) <;> (repeat' with_reducible apply And.intro) <;> first | assumption | rfl | omega | (unfold maxLen; omega)) ?_
          obtain ⟨v0_7, hv12, h⟩ := Option.bind_eq_some_iff.1 h
          refine AO.call tab_ok (by decide) rfl rfl rfl (fun _ h => h) [] [] (hc_weave_Path l w v0 hv12) rfl (by (simp only [go_sem, hb2, hb5, hb9, hb11]) <;> (repeat' with_reducible apply And.intro) <;> first | assumption | rfl | omega | (unfold maxLen; omega)) (by (simp only [go_sem, hb2, hb5, hb9, hb11]) <;> (repeat' with_reducible apply And.intro) <;> first | assumption | rfl | omega | (unfold maxLen; omega)) [(1, .sl (.int .i64) w), (2, .sl (.int .i64) v0), (3, .sl (.int .i64) path), (4, .bp 4 0), (9, .bool v0_5.1), (10, .int .i64 v0_5.2), (54, .tup [.own 64000, .int .i64 v0_7.2])] [(4, .box 24 [.int .i64 l.1, .sl (.pair (.int .i64) (.int .i64)) l.2]), (64000, .arr 3 (.int .i64) v0_7.1)] (by (simp only [go_sem, hb2, hb5, hb9, hb11]) <;> (repeat' with_reducible apply And.intro) <;> first | assumption | rfl | omega | (unfold maxLen; omega)) ?_
          refine AO.allF tab_ok (by decide) [(1, .sl (.int .i64) w), (2, .sl (.int .i64) v0), (3, .sl (.int .i64) path), (4, .bp 4 0), (9, .bool v0_5.1), (10, .int .i64 v0_5.2), (13, .own 64000), (14, .int .i64 v0_7.2)] [(4, .box 24 [.int .i64 l.1, .sl (.pair (.int .i64) (.int .i64)) l.2]), (64000, .arr 3 (.int .i64) v0_7.1)] (by (simp only [go_sem, hb2, hb5, hb9, hb11]) <;> (repeat' with_reducible apply And.intro) <;> first | assumption | rfl | omega | (unfold maxLen; omega)) ?_
          refine athen_n ?_
          refine AW.seq ?_
          refine AW.ops ?_
          refine AO.segF tab_ok 4 (by decide) [(1, .sl (.int .i64) w), (2, .sl (.int .i64) v0), (3, .sl (.int .i64) path), (4, .bp 4 0), (9, .bool v0_5.1), (10, .int .i64 v0_5.2), (13, .own 64000), (14, .int .i64 v0_7.2), (58, .agg [.int .i64 l.1, .sl (.pair (.int .i64) (.int .i64)) l.2]), (59, .sl (.int .i64) w), (60, .sl (.int .i64) v0), (61, .own 64000)] [(4, .box 24 [.int .i64 l.1, .sl (.pair (.int .i64) (.int .i64)) l.2]), (64000, .arr 3 (.int .i64) v0_7.1)] (by (simp only [go_sem, hb2, hb5, hb9, hb11]) <;> (repeat' with_reducible apply And.intro) <;> first | assumption | rfl | omega | (unfold maxLen; omega)) ?_
          obtain ⟨v0_8, hv13, h⟩ := Option.bind_eq_some_iff.1 h
          refine AO.call tab_ok (by decide) rfl rfl rfl (fun _ h => h) [64000] [] (hc_linealref03_IsPath l w v0 v0_7.1 hv13) rfl (by (simp only [go_sem, hb2, hb5, hb9, hb11]) <;> (repeat' with_reducible apply And.intro) <;> first | assumption | rfl | omega | (unfold maxLen; omega)) (by (simp only [go_sem, hb2, hb5, hb9, hb11]) <;> (repeat' with_reducible apply And.intro) <;> first | assumption | rfl | omega | (unfold maxLen; omega)) [(1, .sl (.int .i64) w), (2, .sl (.int .i64) v0), (3, .sl (.int .i64) path), (4, .bp 4 0), (9, .bool v0_5.1), (10, .int .i64 v0_5.2), (13, .own 64000), (14, .int .i64 v0_7.2), (62, .tup [.bool v0_8.1, .int .i64 v0_8.2])] [(4, .box 24 [.int .i64 l.1, .sl (.pair (.int .i64) (.int .i64)) l.2]), (64000, .arr 3 (.int .i64) v0_7.1)] (by (simp only [go_sem, hb2, hb5, hb9, hb11]) <;> (repeat' with_reducible apply And.intro) <;> first | assumption | rfl | omega | (unfold maxLen; omega)) ?_
          refine AO.allF tab_ok (by decide) [(1, .sl (.int .i64) w), (2, .sl (.int .i64) v0), (3, .sl (.int .i64) path), (4, .bp 4 0), (9, .bool v0_5.1), (10, .int .i64 v0_5.2), (13, .own 64000), (14, .int .i64 v0_7.2), (15, .bool v0_8.1), (16, .int .i64 v0_8.2)] [(4, .box 24 [.int .i64 l.1, .sl (.pair (.int .i64) (.int .i64)) l.2]), (64000, .arr 3 (.int .i64) v0_7.1)] (by (simp only [go_sem, hb2, hb5, hb9, hb11]) <;> (repeat' with_reducible apply And.intro) <;> first | assumption | rfl | omega | (unfold maxLen; omega)) ?_
          refine athen_n ?_
          refine AW.seq ?_
          refine AW.seq ?_
          refine AW.ops ?_
          refine AO.allF tab_ok (by decide) [(1, .sl (.int .i64) w), (2, .sl (.int .i64) v0), (3, .sl (.int .i64) path), (4, .bp 4 0), (9, .bool v0_5.1), (10, .int .i64 v0_5.2), (13, .own 64000), (14, .int .i64 v0_7.2), (15, .bool v0_8.1), (16, .int .i64 v0_8.2), (66, .bool (!(decide (v0_5.2 = 0))))] [(4, .box 24 [.int .i64 l.1, .sl (.pair (.int .i64) (.int .i64)) l.2]), (64000, .arr 3 (.int .i64) v0_7.1)] (by (simp only [go_sem, hb2, hb5, hb9, hb11]) <;> (repeat' with_reducible apply And.intro) <;> first | assumption | rfl | omega | (unfold maxLen; omega)) ?_
          refine athen_n ?_
          refine AW.cond (b := (!(decide (v0_5.2 = 0)))) rfl (fun hb14 => ?_) (fun hb14 => ?_)
          · rw [if_pos hb14] at h
            refine AW.seq ?_
            refine AW.ops ?_
            refine AO.segF tab_ok 4 (by decide) [(13, .own 64000), (70, .bool (decide (v0_7.2 = v0_5.2)))] [(64000, .arr 3 (.int .i64) v0_7.1)] (by (simp only [go_sem, hb2, hb5, hb9, hb11, hb14]) <;> (repeat' with_reducible apply And.intro) <;> first | assumption | rfl | omega | (unfold maxLen; omega)) ?_
            rcases Bool.eq_false_or_eq_true (decide (v0_7.2 = v0_5.2)) with hb15 | hb15
            · rw [if_pos hb15] at h
              refine AO.weaken (s' := ⟨fr [(13, .own 64000), (70, .bool true)], hpGet [(64000, .arr 3 (.int .i64) v0_7.1)], gt⟩) (Wk.to (by (simp only [go_sem, hb2, hb5, hb9, hb11, hb14, hb15]) <;> (repeat' with_reducible apply And.intro) <;> first | assumption | rfl | omega | (unfold maxLen; omega))) ?_
              refine AO.segF tab_ok 5 (by decide) [(75, .bool (decide ((v0_7.1.length : Int) = 0)))] [] (by (simp only [go_sem, hb2, hb5, hb9, hb11, hb14, hb15]) <;> (repeat' with_reducible apply And.intro) <;> first | assumption | rfl | omega | (unfold maxLen; omega)) ?_
              rcases Bool.eq_false_or_eq_true (decide ((v0_7.1.length : Int) = 0)) with hb16 | hb16
              · rw [if_pos hb16] at h
                refine AO.weaken (s' := ⟨fr [(75, .bool true)], hpGet [], gt⟩) (Wk.to (by (simp only [go_sem, hb2, hb5, hb9, hb11, hb14, hb15, hb16]) <;> (repeat' with_reducible apply And.intro) <;> first | assumption | rfl | omega | (unfold maxLen; omega))) ?_
                obtain ⟨v0_9, hv17, h⟩ := Option.bind_eq_some_iff.1 h
                refine AO.call tab_ok (by decide) rfl rfl rfl (fun _ h => ⟨fun _ => h, fun hn => absurd rfl hn⟩) [] [] (hc_lineallaw03_Awake hv17) rfl (by (simp only [go_sem, hb2, hb5, hb9, hb11, hb14, hb15, hb16]) <;> (repeat' with_reducible apply And.intro) <;> first | assumption | rfl | omega | (unfold maxLen; omega)) (by (simp only [go_sem, hb2, hb5, hb9, hb11, hb14, hb15, hb16]) <;> (repeat' with_reducible apply And.intro) <;> first | assumption | rfl | omega | (unfold maxLen; omega)) [(75, .bool true), (76, .bool v0_9)] [] (by (simp only [go_sem, hb2, hb5, hb9, hb11, hb14, hb15, hb16]) <;> (repeat' with_reducible apply And.intro) <;> first | assumption | rfl | omega | (unfold maxLen; omega)) ?_
                refine AO.allF tab_ok (by decide) [(8, .bool v0_9)] [] (by (simp only [go_sem, hb2, hb5, hb9, hb11, hb14, hb15, hb16]) <;> (repeat' with_reducible apply And.intro) <;> first | assumption | rfl | omega | (unfold maxLen; omega)) ?_
                refine athen_n ?_
                refine AW.ret ?_
                refine athen_r ?_
                obtain rfl := Option.some.inj h
                exact ⟨rfl, [], [], [], rfl, (by (simp only [go_sem, hb2, hb5, hb9, hb11, hb14, hb15, hb16]) <;> (repeat' with_reducible apply And.intro) <;> first | assumption | rfl | omega | (unfold maxLen; omega))⟩
              · rw [if_neg (Bool.eq_false_iff.1 hb16)] at h
                refine AO.weaken (s' := ⟨fr [(75, .bool false)], hpGet [], gt⟩) (Wk.to (by (simp only [go_sem, hb2, hb5, hb9, hb11, hb14, hb15, hb16]) <;> (repeat' with_reducible apply And.intro) <;> first | assumption | rfl | omega | (unfold maxLen; omega))) ?_
                refine AO.allF tab_ok (by decide) [(8, .bool false)] [] (by (simp only [go_sem, hb2, hb5, hb9, hb11, hb14, hb15, hb16]) <;> (repeat' with_reducible apply And.intro) <;> first | assumption | rfl | omega | (unfold maxLen; omega)) ?_
                refine athen_n ?_
                refine AW.ret ?_
                refine athen_r ?_
                obtain rfl := Option.some.inj h
                exact ⟨rfl, [], [], [], rfl, (by (simp only [go_sem, hb2, hb5, hb9, hb11, hb14, hb15, hb16]) <;> (repeat' with_reducible apply And.intro) <;> first | assumption | rfl | omega | (unfold maxLen; omega))⟩
            · rw [if_neg (Bool.eq_false_iff.1 hb15)] at h
              refine AO.weaken (s' := ⟨fr [(13, .own 64000), (70, .bool false)], hpGet [(64000, .arr 3 (.int .i64) v0_7.1)], gt⟩) (Wk.to (by (simp only [go_sem, hb2, hb5, hb9, hb11, hb14, hb15]) <;> (repeat' with_reducible apply And.intro) <;> first | assumption | rfl | omega | (unfold maxLen; omega))) ?_
              refine AO.segF tab_ok 6 (by decide) [(75, .bool false), (76, .cv (undef))] [] (by (simp only [go_sem, hb2, hb5, hb9, hb11, hb14, hb15]) <;> (repeat' with_reducible apply And.intro) <;> first | assumption | rfl | omega | (unfold maxLen; omega)) ?_
              refine AO.allF tab_ok (by decide) [(8, .bool false)] [] (by (simp only [go_sem, hb2, hb5, hb9, hb11, hb14, hb15]) <;> (repeat' with_reducible apply And.intro) <;> first | assumption | rfl | omega | (unfold maxLen; omega)) ?_
              refine athen_n ?_
              refine AW.ret ?_
              refine athen_r ?_
              obtain rfl := Option.some.inj h
              exact ⟨rfl, [], [], [], rfl, (by (simp only [go_sem, hb2, hb5, hb9, hb11, hb14, hb15]) <;> (repeat' with_reducible apply And.intro) <;> first | assumption | rfl | omega | (unfold maxLen; omega))⟩
          · rw [if_neg (Bool.eq_false_iff.1 hb14)] at h
            refine AW.skip ?_
            refine athen_n ?_
            refine AW.have1 (fun _ : Unit => lineallaw03_WeavePaths_k1 l w v0 path = some r) (fun _ => ⟨fr [(1, .sl (.int .i64) w), (2, .sl (.int .i64) v0), (3, .sl (.int .i64) path), (4, .bp 4 0)], hpGet [(4, .box 24 [.int .i64 l.1, .sl (.pair (.int .i64) (.int .i64)) l.2])], gt⟩) (fun _ h => ?_) (fun hk_lineallaw03_WeavePaths_k1 => ?_)
            · unfold lineallaw03_WeavePaths_k1 at h
              refine AW.seq ?_
              refine AW.ops ?_
              refine AO.segF tab_ok 4 (by decide) [(1, .sl (.int .i64) w), (2, .sl (.int .i64) v0), (3, .sl (.int .i64) path), (4, .bp 4 0), (110, .agg [.int .i64 l.1, .sl (.pair (.int .i64) (.int .i64)) l.2]), (111, .sl (.int .i64) w), (112, .sl (.int .i64) v0), (113, .sl (.int .i64) path)] [(4, .box 24 [.int .i64 l.1, .sl (.pair (.int .i64) (.int .i64)) l.2])] (by (simp only [go_sem, hb2, hb5, hb9, hb11, hb14]) <;> (repeat' with_reducible apply And.intro) <;> first | assumption | rfl | omega | (unfold maxLen; omega)) ?_
              obtain ⟨v0_10, hv18, h⟩ := Option.bind_eq_some_iff.1 h
              refine AO.call tab_ok (by decide) rfl rfl rfl (fun _ h => h) [] [] (hc_weave_IsPath l w v0 path hv18) rfl (by (simp only [go_sem, hb2, hb5, hb9, hb11, hb14]) <;> (repeat' with_reducible apply And.intro) <;> first | assumption | rfl | omega | (unfold maxLen; omega)) (by (simp only [go_sem, hb2, hb5, hb9, hb11, hb14]) <;> (repeat' with_reducible apply And.intro) <;> first | assumption | rfl | omega | (unfold maxLen; omega)) [(1, .sl (.int .i64) w), (2, .sl (.int .i64) v0), (3, .sl (.int .i64) path), (4, .bp 4 0), (114, .tup [.bool v0_10.1, .int .i64 v0_10.2])] [(4, .box 24 [.int .i64 l.1, .sl (.pair (.int .i64) (.int .i64)) l.2])] (by (simp only [go_sem, hb2, hb5, hb9, hb11, hb14]) <;> (repeat' with_reducible apply And.intro) <;> first | assumption | rfl | omega | (unfold maxLen; omega)) ?_
              refine AO.allF tab_ok (by decide) [(1, .sl (.int .i64) w), (2, .sl (.int .i64) v0), (3, .sl (.int .i64) path), (4, .bp 4 0), (9, .bool v0_10.1), (10, .int .i64 v0_10.2)] [(4, .box 24 [.int .i64 l.1, .sl (.pair (.int .i64) (.int .i64)) l.2])] (by (simp only [go_sem, hb2, hb5, hb9, hb11, hb14]) <;> (repeat' with_reducible apply And.intro) <;> first | assumption | rfl | omega | (unfold maxLen; omega)) ?_
              refine athen_n ?_
              refine AW.seq ?_
              refine AW.ops ?_
              refine AO.segF tab_ok 4 (by decide) [(9, .bool v0_10.1), (10, .int .i64 v0_10.2), (118, .agg [.int .i64 l.1, .sl (.pair (.int .i64) (.int .i64)) l.2]), (119, .sl (.int .i64) w), (120, .sl (.int .i64) v0), (121, .sl (.int .i64) path)] [] (by (simp only [go_sem, hb2, hb5, hb9, hb11, hb14]) <;> (repeat' with_reducible apply And.intro) <;> first | assumption | rfl | omega | (unfold maxLen; omega)) ?_
              obtain ⟨v0_11, hv19, h⟩ := Option.bind_eq_some_iff.1 h
              refine AO.call tab_ok (by decide) rfl rfl rfl (fun _ h => h) [] [] (hc_linealref03_IsPath l w v0 path hv19) rfl (by (simp only [go_sem, hb2, hb5, hb9, hb11, hb14]) <;> (repeat' with_reducible apply And.intro) <;> first | assumption | rfl | omega | (unfold maxLen; omega)) (by (simp only [go_sem, hb2, hb5, hb9, hb11, hb14]) <;> (repeat' with_reducible apply And.intro) <;> first | assumption | rfl | omega | (unfold maxLen; omega)) [(9, .bool v0_10.1), (10, .int .i64 v0_10.2), (122, .tup [.bool v0_11.1, .int .i64 v0_11.2])] [] (by (simp only [go_sem, hb2, hb5, hb9, hb11, hb14]) <;> (repeat' with_reducible apply And.intro) <;> first | assumption | rfl | omega | (unfold maxLen; omega)) ?_
              refine AO.allF tab_ok (by decide) [(9, .bool v0_10.1), (10, .int .i64 v0_10.2), (11, .bool v0_11.1), (12, .int .i64 v0_11.2)] [] (by (simp only [go_sem, hb2, hb5, hb9, hb11, hb14]) <;> (repeat' with_reducible apply And.intro) <;> first | assumption | rfl | omega | (unfold maxLen; omega)) ?_
              refine athen_n ?_
              refine AW.seq ?_
              refine AW.ops ?_
              refine AO.segF tab_ok 4 (by decide) [(10, .int .i64 v0_10.2), (12, .int .i64 v0_11.2), (128, .bool ((v0_10.1 == v0_11.1) != false))] [] (by (simp only [go_sem, hb2, hb5, hb9, hb11, hb14]) <;> (repeat' with_reducible apply And.intro) <;> first | assumption | rfl | omega | (unfold maxLen; omega)) ?_
              rcases Bool.eq_false_or_eq_true ((v0_10.1 == v0_11.1) != false) with hb20 | hb20
              · rw [if_pos hb20] at h
                refine AO.weaken (s' := ⟨fr [(10, .int .i64 v0_10.2), (12, .int .i64 v0_11.2), (128, .bool true)], hpGet [], gt⟩) (Wk.to (by (simp only [go_sem, hb2, hb5, hb9, hb11, hb14, hb20]) <;> (repeat' with_reducible apply And.intro) <;> first | assumption | rfl | omega | (unfold maxLen; omega))) ?_
                refine AO.segF tab_ok 5 (by decide) [(133, .bool (decide (v0_10.2 = v0_11.2)))] [] (by (simp only [go_sem, hb2, hb5, hb9, hb11, hb14, hb20]) <;> (repeat' with_reducible apply And.intro) <;> first | assumption | rfl | omega | (unfold maxLen; omega)) ?_
                rcases Bool.eq_false_or_eq_true (decide (v0_10.2 = v0_11.2)) with hb21 | hb21
                · rw [if_pos hb21] at h
                  refine AO.weaken (s' := ⟨fr [(133, .bool true)], hpGet [], gt⟩) (Wk.to (by (simp only [go_sem, hb2, hb5, hb9, hb11, hb14, hb20, hb21]) <;> (repeat' with_reducible apply And.intro) <;> first | assumption | rfl | omega | (unfold maxLen; omega))) ?_
                  obtain ⟨v0_12, hv22, h⟩ := Option.bind_eq_some_iff.1 h
                  refine AO.call tab_ok (by decide) rfl rfl rfl (fun _ h => ⟨fun _ => h, fun hn => absurd rfl hn⟩) [] [] (hc_lineallaw03_Awake hv22) rfl (by (simp only [go_sem, hb2, hb5, hb9, hb11, hb14, hb20, hb21]) <;> (repeat' with_reducible apply And.intro) <;> first | assumption | rfl | omega | (unfold maxLen; omega)) (by (simp only [go_sem, hb2, hb5, hb9, hb11, hb14, hb20, hb21]) <;> (repeat' with_reducible apply And.intro) <;> first | assumption | rfl | omega | (unfold maxLen; omega)) [(133, .bool true), (134, .bool v0_12)] [] (by (simp only [go_sem, hb2, hb5, hb9, hb11, hb14, hb20, hb21]) <;> (repeat' with_reducible apply And.intro) <;> first | assumption | rfl | omega | (unfold maxLen; omega)) ?_
                  refine AO.allF tab_ok (by decide) [(8, .bool v0_12)] [] (by (simp only [go_sem, hb2, hb5, hb9, hb11, hb14, hb20, hb21]) <;> (repeat' with_reducible apply And.intro) <;> first | assumption | rfl | omega | (unfold maxLen; omega)) ?_
                  refine athen_n ?_
                  refine AW.ret ?_
                  obtain rfl := Option.some.inj h
                  exact ⟨rfl, [], [], [], rfl, (by (simp only [go_sem, hb2, hb5, hb9, hb11, hb14, hb20, hb21]) <;> (repeat' with_reducible apply And.intro) <;> first | assumption | rfl | omega | (unfold maxLen; omega))⟩
                · rw [if_neg (Bool.eq_false_iff.1 hb21)] at h
                  refine AO.weaken (s' := ⟨fr [(133, .bool false)], hpGet [], gt⟩) (Wk.to (by (simp only [go_sem, hb2, hb5, hb9, hb11, hb14, hb20, hb21]) <;> (repeat' with_reducible apply And.intro) <;> first | assumption | rfl | omega | (unfold maxLen; omega))) ?_
                  refine AO.allF tab_ok (by decide) [(8, .bool false)] [] (by (simp only [go_sem, hb2, hb5, hb9, hb11, hb14, hb20, hb21]) <;> (repeat' with_reducible apply And.intro) <;> first | assumption | rfl | omega | (unfold maxLen; omega)) ?_
                  refine athen_n ?_
                  refine AW.ret ?_
                  obtain rfl := Option.some.inj h
                  exact ⟨rfl, [], [], [], rfl, (by (simp only [go_sem, hb2, hb5, hb9, hb11, hb14, hb20, hb21]) <;> (repeat' with_reducible apply And.intro) <;> first | assumption | rfl | omega | (unfold maxLen; omega))⟩
              · rw [if_neg (Bool.eq_false_iff.1 hb20)] at h
                refine AO.weaken (s' := ⟨fr [(10, .int .i64 v0_10.2), (12, .int .i64 v0_11.2), (128, .bool false)], hpGet [], gt⟩) (Wk.to (by (simp only [go_sem, hb2, hb5, hb9, hb11, hb14, hb20]) <;> (repeat' with_reducible apply And.intro) <;> first | assumption | rfl | omega | (unfold maxLen; omega))) ?_
                refine AO.segF tab_ok 6 (by decide) [(133, .bool false), (134, .cv (undef))] [] (by (simp only [go_sem, hb2, hb5, hb9, hb11, hb14, hb20]) <;> (repeat' with_reducible apply And.intro) <;> first | assumption | rfl | omega | (unfold maxLen; omega)) ?_
                refine AO.allF tab_ok (by decide) [(8, .bool false)] [] (by (simp only [go_sem, hb2, hb5, hb9, hb11, hb14, hb20]) <;> (repeat' with_reducible apply And.intro) <;> first | assumption | rfl | omega | (unfold maxLen; omega)) ?_
                refine athen_n ?_
                refine AW.ret ?_
                obtain rfl := Option.some.inj h
                exact ⟨rfl, [], [], [], rfl, (by (simp only [go_sem, hb2, hb5, hb9, hb11, hb14, hb20]) <;> (repeat' with_reducible apply And.intro) <;> first | assumption | rfl | omega | (unfold maxLen; omega))⟩
            · refine AW.seq ?_
              refine AW.seq ?_
              refine AW.ops ?_
              refine AO.segF tab_ok 2 (by decide) [(1, .sl (.int .i64) w), (2, .sl (.int .i64) v0), (3, .sl (.int .i64) path), (4, .bp 4 0), (9, .bool v0_5.1), (13, .own 64000), (14, .int .i64 v0_7.2), (15, .bool v0_8.1), (16, .int .i64 v0_8.2), (79, .bool v0_5.1)] [(4, .box 24 [.int .i64 l.1, .sl (.pair (.int .i64) (.int .i64)) l.2]), (64000, .arr 3 (.int .i64) v0_7.1)] (by (simp only [go_sem, hb2, hb5, hb9, hb11, hb14]) <;> (repeat' with_reducible apply And.intro) <;> first | assumption | rfl | omega | (unfold maxLen; omega)) ?_
              rcases Bool.eq_false_or_eq_true v0_5.1 with hb23 | hb23
              · rw [if_pos hb23] at h
                refine AO.weaken (s' := ⟨fr [(1, .sl (.int .i64) w), (2, .sl (.int .i64) v0), (3, .sl (.int .i64) path), (4, .bp 4 0), (9, .bool true), (13, .own 64000), (14, .int .i64 v0_7.2), (15, .bool v0_8.1), (16, .int .i64 v0_8.2), (79, .bool true)], hpGet [(4, .box 24 [.int .i64 l.1, .sl (.pair (.int .i64) (.int .i64)) l.2]), (64000, .arr 3 (.int .i64) v0_7.1)], gt⟩) (Wk.to (by (simp only [go_sem, hb2, hb5, hb9, hb11, hb14, hb23]) <;> (repeat' with_reducible apply And.intro) <;> first | assumption | rfl | omega | (unfold maxLen; omega))) ?_
                refine AO.segF tab_ok 3 (by decide) [(1, .sl (.int .i64) w), (2, .sl (.int .i64) v0), (3, .sl (.int .i64) path), (4, .bp 4 0), (9, .bool true), (13, .own 64000), (14, .int .i64 v0_7.2), (15, .bool v0_8.1), (16, .int .i64 v0_8.2), (79, .bool true), (82, .bool (!(decide (v0_7.2 = 0))))] [(4, .box 24 [.int .i64 l.1, .sl (.pair (.int .i64) (.int .i64)) l.2]), (64000, .arr 3 (.int .i64) v0_7.1)] (by (simp only [go_sem, hb2, hb5, hb9, hb11, hb14, hb23]) <;> (repeat' with_reducible apply And.intro) <;> first | assumption | rfl | omega | (unfold maxLen; omega)) ?_
                rcases Bool.eq_false_or_eq_true (!(decide (v0_7.2 = 0))) with hb24 | hb24
                · rw [if_pos hb24] at h
                  refine AO.weaken (s' := ⟨fr [(1, .sl (.int .i64) w), (2, .sl (.int .i64) v0), (3, .sl (.int .i64) path), (4, .bp 4 0), (9, .bool true), (13, .own 64000), (14, .int .i64 v0_7.2), (15, .bool v0_8.1), (16, .int .i64 v0_8.2), (79, .bool true), (82, .bool true)], hpGet [(4, .box 24 [.int .i64 l.1, .sl (.pair (.int .i64) (.int .i64)) l.2]), (64000, .arr 3 (.int .i64) v0_7.1)], gt⟩) (Wk.to (by (simp only [go_sem, hb2, hb5, hb9, hb11, hb14, hb23, hb24]) <;> (repeat' with_reducible apply And.intro) <;> first | assumption | rfl | omega | (unfold maxLen; omega))) ?_
                  refine AO.segF tab_ok 6 (by decide) [(1, .sl (.int .i64) w), (2, .sl (.int .i64) v0), (3, .sl (.int .i64) path), (4, .bp 4 0), (9, .bool true), (13, .own 64000), (14, .int .i64 v0_7.2), (79, .bool true), (86, .bool true), (88, .cv (undef))] [(4, .box 24 [.int .i64 l.1, .sl (.pair (.int .i64) (.int .i64)) l.2]), (64000, .arr 3 (.int .i64) v0_7.1)] (by (simp only [go_sem, hb2, hb5, hb9, hb11, hb14, hb23, hb24]) <;> (repeat' with_reducible apply And.intro) <;> first | assumption | rfl | omega | (unfold maxLen; omega)) ?_
                  refine AO.segF tab_ok 9 (by decide) [(1, .sl (.int .i64) w), (2, .sl (.int .i64) v0), (3, .sl (.int .i64) path), (4, .bp 4 0), (13, .own 64000), (14, .int .i64 v0_7.2), (96, .bool true), (97, .cv (undef))] [(4, .box 24 [.int .i64 l.1, .sl (.pair (.int .i64) (.int .i64)) l.2]), (64000, .arr 3 (.int .i64) v0_7.1)] (by (simp only [go_sem, hb2, hb5, hb9, hb11, hb14, hb23, hb24]) <;> (repeat' with_reducible apply And.intro) <;> first | assumption | rfl | omega | (unfold maxLen; omega)) ?_
                  refine AO.segF tab_ok 4 (by decide) [(1, .sl (.int .i64) w), (2, .sl (.int .i64) v0), (3, .sl (.int .i64) path), (4, .bp 4 0), (13, .own 64000), (96, .bool true), (99, .cv (undef)), (101, .cv (undef))] [(4, .box 24 [.int .i64 l.1, .sl (.pair (.int .i64) (.int .i64)) l.2]), (64000, .arr 3 (.int .i64) v0_7.1)] (by (simp only [go_sem, hb2, hb5, hb9, hb11, hb14, hb23, hb24]) <;> (repeat' with_reducible apply And.intro) <;> first | assumption | rfl | omega | (unfold maxLen; omega)) ?_
                  refine AO.segF tab_ok 4 (by decide) [(1, .sl (.int .i64) w), (2, .sl (.int .i64) v0), (3, .sl (.int .i64) path), (4, .bp 4 0), (96, .bool true), (99, .cv (undef)), (102, .cv (undef)), (105, .cv (undef))] [(4, .box 24 [.int .i64 l.1, .sl (.pair (.int .i64) (.int .i64)) l.2])] (by (simp only [go_sem, hb2, hb5, hb9, hb11, hb14, hb23, hb24]) <;> (repeat' with_reducible apply And.intro) <;> first | assumption | rfl | omega | (unfold maxLen; omega)) ?_
                  refine AO.allF tab_ok (by decide) [(1, .sl (.int .i64) w), (2, .sl (.int .i64) v0), (3, .sl (.int .i64) path), (4, .bp 4 0), (108, .bool true)] [(4, .box 24 [.int .i64 l.1, .sl (.pair (.int .i64) (.int .i64)) l.2])] (by (simp only [go_sem, hb2, hb5, hb9, hb11, hb14, hb23, hb24]) <;> (repeat' with_reducible apply And.intro) <;> first | assumption | rfl | omega | (unfold maxLen; omega)) ?_
                  refine athen_n ?_
                  refine AW.cond (b := true) rfl (fun _ => ?_) (fun hb25 => by cases hb25)
                  refine AW.seq ?_
                  refine AW.ops ?_
                  refine AO.allF tab_ok (by decide) [(8, .bool false)] [] (by (simp only [go_sem, hb2, hb5, hb9, hb11, hb14, hb23, hb24]) <;> (repeat' with_reducible apply And.intro) <;> first | assumption | rfl | omega | (unfold maxLen; omega)) ?_
                  refine athen_n ?_
                  refine AW.ret ?_
                  refine athen_r ?_
                  obtain rfl := Option.some.inj h
                  exact ⟨rfl, [], [], [], rfl, (by (simp only [go_sem, hb2, hb5, hb9, hb11, hb14, hb23, hb24]) <;> (repeat' with_reducible apply And.intro) <;> first | assumption | rfl | omega | (unfold maxLen; omega))⟩
                · rw [if_neg (Bool.eq_false_iff.1 hb24)] at h
                  refine AO.weaken (s' := ⟨fr [(1, .sl (.int .i64) w), (2, .sl (.int .i64) v0), (3, .sl (.int .i64) path), (4, .bp 4 0), (9, .bool true), (13, .own 64000), (14, .int .i64 v0_7.2), (15, .bool v0_8.1), (16, .int .i64 v0_8.2), (79, .bool true), (82, .bool false)], hpGet [(4, .box 24 [.int .i64 l.1, .sl (.pair (.int .i64) (.int .i64)) l.2]), (64000, .arr 3 (.int .i64) v0_7.1)], gt⟩) (Wk.to (by (simp only [go_sem, hb2, hb5, hb9, hb11, hb14, hb23, hb24]) <;> (repeat' with_reducible apply And.intro) <;> first | assumption | rfl | omega | (unfold maxLen; omega))) ?_
                  refine AO.segF tab_ok 4 (by decide) [(1, .sl (.int .i64) w), (2, .sl (.int .i64) v0), (3, .sl (.int .i64) path), (4, .bp 4 0), (9, .bool true), (13, .own 64000), (14, .int .i64 v0_7.2), (15, .bool v0_8.1), (79, .bool true), (86, .bool (!(decide (v0_8.2 = 0))))] [(4, .box 24 [.int .i64 l.1, .sl (.pair (.int .i64) (.int .i64)) l.2]), (64000, .arr 3 (.int .i64) v0_7.1)] (by (simp only [go_sem, hb2, hb5, hb9, hb11, hb14, hb23, hb24]) <;> (repeat' with_reducible apply And.intro) <;> first | assumption | rfl | omega | (unfold maxLen; omega)) ?_
                  rcases Bool.eq_false_or_eq_true (!(decide (v0_8.2 = 0))) with hb26 | hb26
                  · rw [if_pos hb26] at h
                    refine AO.weaken (s' := ⟨fr [(1, .sl (.int .i64) w), (2, .sl (.int .i64) v0), (3, .sl (.int .i64) path), (4, .bp 4 0), (9, .bool true), (13, .own 64000), (14, .int .i64 v0_7.2), (15, .bool v0_8.1), (79, .bool true), (86, .bool true)], hpGet [(4, .box 24 [.int .i64 l.1, .sl (.pair (.int .i64) (.int .i64)) l.2]), (64000, .arr 3 (.int .i64) v0_7.1)], gt⟩) (Wk.to (by (simp only [go_sem, hb2, hb5, hb9, hb11, hb14, hb23, hb24, hb26]) <;> (repeat' with_reducible apply And.intro) <;> first | assumption | rfl | omega | (unfold maxLen; omega))) ?_
                    refine AO.segF tab_ok 6 (by decide) [(1, .sl (.int .i64) w), (2, .sl (.int .i64) v0), (3, .sl (.int .i64) path), (4, .bp 4 0), (9, .bool true), (13, .own 64000), (14, .int .i64 v0_7.2), (79, .bool true), (90, .bool true), (92, .cv (undef))] [(4, .box 24 [.int .i64 l.1, .sl (.pair (.int .i64) (.int .i64)) l.2]), (64000, .arr 3 (.int .i64) v0_7.1)] (by (simp only [go_sem, hb2, hb5, hb9, hb11, hb14, hb23, hb24, hb26]) <;> (repeat' with_reducible apply And.intro) <;> first | assumption | rfl | omega | (unfold maxLen; omega)) ?_
                    refine AO.segF tab_ok 7 (by decide) [(1, .sl (.int .i64) w), (2, .sl (.int .i64) v0), (3, .sl (.int .i64) path), (4, .bp 4 0), (13, .own 64000), (14, .int .i64 v0_7.2), (96, .bool true), (99, .cv (undef))] [(4, .box 24 [.int .i64 l.1, .sl (.pair (.int .i64) (.int .i64)) l.2]), (64000, .arr 3 (.int .i64) v0_7.1)] (by (simp only [go_sem, hb2, hb5, hb9, hb11, hb14, hb23, hb24, hb26]) <;> (repeat' with_reducible apply And.intro) <;> first | assumption | rfl | omega | (unfold maxLen; omega)) ?_
                    refine AO.segF tab_ok 4 (by decide) [(1, .sl (.int .i64) w), (2, .sl (.int .i64) v0), (3, .sl (.int .i64) path), (4, .bp 4 0), (96, .bool true), (99, .cv (undef)), (102, .cv (undef)), (103, .cv (undef))] [(4, .box 24 [.int .i64 l.1, .sl (.pair (.int .i64) (.int .i64)) l.2])] (by (simp only [go_sem, hb2, hb5, hb9, hb11, hb14, hb23, hb24, hb26]) <;> (repeat' with_reducible apply And.intro) <;> first | assumption | rfl | omega | (unfold maxLen; omega)) ?_
                    refine AO.segF tab_ok 4 (by decide) [(1, .sl (.int .i64) w), (2, .sl (.int .i64) v0), (3, .sl (.int .i64) path), (4, .bp 4 0), (96, .bool true), (107, .cv (undef))] [(4, .box 24 [.int .i64 l.1, .sl (.pair (.int .i64) (.int .i64)) l.2])] (by (simp only [go_sem, hb2, hb5, hb9, hb11, hb14, hb23, hb24, hb26]) <;> (repeat' with_reducible apply And.intro) <;> first | assumption | rfl | omega | (unfold maxLen; omega)) ?_
                    refine AO.allF tab_ok (by decide) [(1, .sl (.int .i64) w), (2, .sl (.int .i64) v0), (3, .sl (.int .i64) path), (4, .bp 4 0), (108, .bool true)] [(4, .box 24 [.int .i64 l.1, .sl (.pair (.int .i64) (.int .i64)) l.2])] (by (simp only [go_sem, hb2, hb5, hb9, hb11, hb14, hb23, hb24, hb26]) <;> (repeat' with_reducible apply And.intro) <;> first | assumption | rfl | omega | (unfold maxLen; omega)) ?_
                    refine athen_n ?_
                    refine AW.cond (b := true) rfl (fun _ => ?_) (fun hb27 => by cases hb27)
                    refine AW.seq ?_
                    refine AW.ops ?_
                    refine AO.allF tab_ok (by decide) [(8, .bool false)] [] (by (simp only [go_sem, hb2, hb5, hb9, hb11, hb14, hb23, hb24, hb26]) <;> (repeat' with_reducible apply And.intro) <;> first | assumption | rfl | omega | (unfold maxLen; omega)) ?_
                    refine athen_n ?_
                    refine AW.ret ?_
                    refine athen_r ?_
                    obtain rfl := Option.some.inj h
                    exact ⟨rfl, [], [], [], rfl, (by (simp only [go_sem, hb2, hb5, hb9, hb11, hb14, hb23, hb24, hb26]) <;> (repeat' with_reducible apply And.intro) <;> first | assumption | rfl | omega | (unfold maxLen; omega))⟩
                  · rw [if_neg (Bool.eq_false_iff.1 hb26)] at h
                    refine AO.weaken (s' := ⟨fr [(1, .sl (.int .i64) w), (2, .sl (.int .i64) v0), (3, .sl (.int .i64) path), (4, .bp 4 0), (9, .bool true), (13, .own 64000), (14, .int .i64 v0_7.2), (15, .bool v0_8.1), (79, .bool true), (86, .bool false)], hpGet [(4, .box 24 [.int .i64 l.1, .sl (.pair (.int .i64) (.int .i64)) l.2]), (64000, .arr 3 (.int .i64) v0_7.1)], gt⟩) (Wk.to (by (simp only [go_sem, hb2, hb5, hb9, hb11, hb14, hb23, hb24, hb26]) <;> (repeat' with_reducible apply And.intro) <;> first | assumption | rfl | omega | (unfold maxLen; omega))) ?_
                    refine AO.segF tab_ok 4 (by decide) [(1, .sl (.int .i64) w), (2, .sl (.int .i64) v0), (3, .sl (.int .i64) path), (4, .bp 4 0), (9, .bool true), (13, .own 64000), (14, .int .i64 v0_7.2), (79, .bool true), (90, .bool (!v0_8.1))] [(4, .box 24 [.int .i64 l.1, .sl (.pair (.int .i64) (.int .i64)) l.2]), (64000, .arr 3 (.int .i64) v0_7.1)] (by (simp only [go_sem, hb2, hb5, hb9, hb11, hb14, hb23, hb24, hb26]) <;> (repeat' with_reducible apply And.intro) <;> first | assumption | rfl | omega | (unfold maxLen; omega)) ?_
                    rcases Bool.eq_false_or_eq_true (!v0_8.1) with hb28 | hb28
                    · rw [if_pos hb28] at h
                      refine AO.weaken (s' := ⟨fr [(1, .sl (.int .i64) w), (2, .sl (.int .i64) v0), (3, .sl (.int .i64) path), (4, .bp 4 0), (9, .bool true), (13, .own 64000), (14, .int .i64 v0_7.2), (79, .bool true), (90, .bool true)], hpGet [(4, .box 24 [.int .i64 l.1, .sl (.pair (.int .i64) (.int .i64)) l.2]), (64000, .arr 3 (.int .i64) v0_7.1)], gt⟩) (Wk.to (by (simp only [go_sem, hb2, hb5, hb9, hb11, hb14, hb23, hb24, hb26, hb28]) <;> (repeat' with_reducible apply And.intro) <;> first | assumption | rfl | omega | (unfold maxLen; omega))) ?_
                      refine AO.segF tab_ok 7 (by decide) [(1, .sl (.int .i64) w), (2, .sl (.int .i64) v0), (3, .sl (.int .i64) path), (4, .bp 4 0), (13, .own 64000), (14, .int .i64 v0_7.2), (96, .bool true), (97, .cv (undef))] [(4, .box 24 [.int .i64 l.1, .sl (.pair (.int .i64) (.int .i64)) l.2]), (64000, .arr 3 (.int .i64) v0_7.1)] (by (simp only [go_sem, hb2, hb5, hb9, hb11, hb14, hb23, hb24, hb26, hb28]) <;> (repeat' with_reducible apply And.intro) <;> first | assumption | rfl | omega | (unfold maxLen; omega)) ?_
                      refine AO.segF tab_ok 4 (by decide) [(1, .sl (.int .i64) w), (2, .sl (.int .i64) v0), (3, .sl (.int .i64) path), (4, .bp 4 0), (13, .own 64000), (96, .bool true), (99, .cv (undef)), (101, .cv (undef))] [(4, .box 24 [.int .i64 l.1, .sl (.pair (.int .i64) (.int .i64)) l.2]), (64000, .arr 3 (.int .i64) v0_7.1)] (by (simp only [go_sem, hb2, hb5, hb9, hb11, hb14, hb23, hb24, hb26, hb28]) <;> (repeat' with_reducible apply And.intro) <;> first | assumption | rfl | omega | (unfold maxLen; omega)) ?_
                      refine AO.segF tab_ok 4 (by decide) [(1, .sl (.int .i64) w), (2, .sl (.int .i64) v0), (3, .sl (.int .i64) path), (4, .bp 4 0), (96, .bool true), (99, .cv (undef)), (102, .cv (undef)), (105, .cv (undef))] [(4, .box 24 [.int .i64 l.1, .sl (.pair (.int .i64) (.int .i64)) l.2])] (by (simp only [go_sem, hb2, hb5, hb9, hb11, hb14, hb23, hb24, hb26, hb28]) <;> (repeat' with_reducible apply And.intro) <;> first | assumption | rfl | omega | (unfold maxLen; omega)) ?_
                      refine AO.allF tab_ok (by decide) [(1, .sl (.int .i64) w), (2, .sl (.int .i64) v0), (3, .sl (.int .i64) path), (4, .bp 4 0), (108, .bool true)] [(4, .box 24 [.int .i64 l.1, .sl (.pair (.int .i64) (.int .i64)) l.2])] (by (simp only [go_sem, hb2, hb5, hb9, hb11, hb14, hb23, hb24, hb26, hb28]) <;> (repeat' with_reducible apply And.intro) <;> first | assumption | rfl | omega | (unfold maxLen; omega)) ?_
                      refine athen_n ?_
                      refine AW.cond (b := true) rfl (fun _ => ?_) (fun hb29 => by cases hb29)
                      refine AW.seq ?_
                      refine AW.ops ?_
                      refine AO.allF tab_ok (by decide) [(8, .bool false)] [] (by (simp only [go_sem, hb2, hb5, hb9, hb11, hb14, hb23, hb24, hb26, hb28]) <;> (repeat' with_reducible apply And.intro) <;> first | assumption | rfl | omega | (unfold maxLen; omega)) ?_
                      refine athen_n ?_
                      refine AW.ret ?_
                      refine athen_r ?_
                      obtain rfl := Option.some.inj h
                      exact ⟨rfl, [], [], [], rfl, (by (simp only [go_sem, hb2, hb5, hb9, hb11, hb14, hb23, hb24, hb26, hb28]) <;> (repeat' with_reducible apply And.intro) <;> first | assumption | rfl | omega | (unfold maxLen; omega))⟩
                    · rw [if_neg (Bool.eq_false_iff.1 hb28)] at h
                      refine AO.weaken (s' := ⟨fr [(1, .sl (.int .i64) w), (2, .sl (.int .i64) v0), (3, .sl (.int .i64) path), (4, .bp 4 0), (9, .bool true), (13, .own 64000), (14, .int .i64 v0_7.2), (79, .bool true), (90, .bool false)], hpGet [(4, .box 24 [.int .i64 l.1, .sl (.pair (.int .i64) (.int .i64)) l.2]), (64000, .arr 3 (.int .i64) v0_7.1)], gt⟩) (Wk.to (by (simp only [go_sem, hb2, hb5, hb9, hb11, hb14, hb23, hb24, hb26, hb28]) <;> (repeat' with_reducible apply And.intro) <;> first | assumption | rfl | omega | (unfold maxLen; omega))) ?_
                      refine AO.segF tab_ok 6 (by decide) [(1, .sl (.int .i64) w), (2, .sl (.int .i64) v0), (3, .sl (.int .i64) path), (4, .bp 4 0), (9, .bool true), (13, .own 64000), (14, .int .i64 v0_7.2), (96, .bool (decide (45 < (v0_7.1.length : Int))))] [(4, .box 24 [.int .i64 l.1, .sl (.pair (.int .i64) (.int .i64)) l.2]), (64000, .arr 3 (.int .i64) v0_7.1)] (by (simp only [go_sem, hb2, hb5, hb9, hb11, hb14, hb23, hb24, hb26, hb28]) <;> (repeat' with_reducible apply And.intro) <;> first | assumption | rfl | omega | (unfold maxLen; omega)) ?_
                      rcases Bool.eq_false_or_eq_true (decide (45 < (v0_7.1.length : Int))) with hb30 | hb30
                      · rw [if_pos hb30] at h
                        refine AO.weaken (s' := ⟨fr [(1, .sl (.int .i64) w), (2, .sl (.int .i64) v0), (3, .sl (.int .i64) path), (4, .bp 4 0), (9, .bool true), (13, .own 64000), (14, .int .i64 v0_7.2), (96, .bool true)], hpGet [(4, .box 24 [.int .i64 l.1, .sl (.pair (.int .i64) (.int .i64)) l.2]), (64000, .arr 3 (.int .i64) v0_7.1)], gt⟩) (Wk.to (by (simp only [go_sem, hb2, hb5, hb9, hb11, hb14, hb23, hb24, hb26, hb28, hb30]) <;> (repeat' with_reducible apply And.intro) <;> first | assumption | rfl | omega | (unfold maxLen; omega))) ?_
                        refine AO.segF tab_ok 4 (by decide) [(1, .sl (.int .i64) w), (2, .sl (.int .i64) v0), (3, .sl (.int .i64) path), (4, .bp 4 0), (13, .own 64000), (96, .bool true), (99, .cv (undef)), (100, .cv (undef))] [(4, .box 24 [.int .i64 l.1, .sl (.pair (.int .i64) (.int .i64)) l.2]), (64000, .arr 3 (.int .i64) v0_7.1)] (by (simp only [go_sem, hb2, hb5, hb9, hb11, hb14, hb23, hb24, hb26, hb28, hb30]) <;> (repeat' with_reducible apply And.intro) <;> first | assumption | rfl | omega | (unfold maxLen; omega)) ?_
                        refine AO.segF tab_ok 4 (by decide) [(1, .sl (.int .i64) w), (2, .sl (.int .i64) v0), (3, .sl (.int .i64) path), (4, .bp 4 0), (96, .bool true), (99, .cv (undef)), (102, .cv (undef)), (104, .cv (undef))] [(4, .box 24 [.int .i64 l.1, .sl (.pair (.int .i64) (.int .i64)) l.2])] (by (simp only [go_sem, hb2, hb5, hb9, hb11, hb14, hb23, hb24, hb26, hb28, hb30]) <;> (repeat' with_reducible apply And.intro) <;> first | assumption | rfl | omega | (unfold maxLen; omega)) ?_
                        refine AO.allF tab_ok (by decide) [(1, .sl (.int .i64) w), (2, .sl (.int .i64) v0), (3, .sl (.int .i64) path), (4, .bp 4 0), (108, .bool true)] [(4, .box 24 [.int .i64 l.1, .sl (.pair (.int .i64) (.int .i64)) l.2])] (by (simp only [go_sem, hb2, hb5, hb9, hb11, hb14, hb23, hb24, hb26, hb28, hb30]) <;> (repeat' with_reducible apply And.intro) <;> first | assumption | rfl | omega | (unfold maxLen; omega)) ?_
                        refine athen_n ?_
                        refine AW.cond (b := true) rfl (fun _ => ?_) (fun hb31 => by cases hb31)
                        refine AW.seq ?_
                        refine AW.ops ?_
                        refine AO.allF tab_ok (by decide) [(8, .bool false)] [] (by (simp only [go_sem, hb2, hb5, hb9, hb11, hb14, hb23, hb24, hb26, hb28, hb30]) <;> (repeat' with_reducible apply And.intro) <;> first | assumption | rfl | omega | (unfold maxLen; omega)) ?_
                        refine athen_n ?_
                        refine AW.ret ?_
                        refine athen_r ?_
                        obtain rfl := Option.some.inj h
                        exact ⟨rfl, [], [], [], rfl, (by (simp only [go_sem, hb2, hb5, hb9, hb11, hb14, hb23, hb24, hb26, hb28, hb30]) <;> (repeat' with_reducible apply And.intro) <;> first | assumption | rfl | omega | (unfold maxLen; omega))⟩
                      · rw [if_neg (Bool.eq_false_iff.1 hb30)] at h
                        refine AO.weaken (s' := ⟨fr [(1, .sl (.int .i64) w), (2, .sl (.int .i64) v0), (3, .sl (.int .i64) path), (4, .bp 4 0), (9, .bool true), (13, .own 64000), (14, .int .i64 v0_7.2), (96, .bool false)], hpGet [(4, .box 24 [.int .i64 l.1, .sl (.pair (.int .i64) (.int .i64)) l.2]), (64000, .arr 3 (.int .i64) v0_7.1)], gt⟩) (Wk.to (by (simp only [go_sem, hb2, hb5, hb9, hb11, hb14, hb23, hb24, hb26, hb28, hb30]) <;> (repeat' with_reducible apply And.intro) <;> first | assumption | rfl | omega | (unfold maxLen; omega))) ?_
                        refine AO.segF tab_ok 7 (by decide) [(1, .sl (.int .i64) w), (2, .sl (.int .i64) v0), (3, .sl (.int .i64) path), (4, .bp 4 0), (96, .bool false), (99, .bool false), (102, .cv (undef)), (103, .cv (undef))] [(4, .box 24 [.int .i64 l.1, .sl (.pair (.int .i64) (.int .i64)) l.2])] (by (simp only [go_sem, hb2, hb5, hb9, hb11, hb14, hb23, hb24, hb26, hb28, hb30]) <;> (repeat' with_reducible apply And.intro) <;> first | assumption | rfl | omega | (unfold maxLen; omega)) ?_
                        refine AO.allF tab_ok (by decide) [(1, .sl (.int .i64) w), (2, .sl (.int .i64) v0), (3, .sl (.int .i64) path), (4, .bp 4 0), (108, .bool false)] [(4, .box 24 [.int .i64 l.1, .sl (.pair (.int .i64) (.int .i64)) l.2])] (by (simp only [go_sem, hb2, hb5, hb9, hb11, hb14, hb23, hb24, hb26, hb28, hb30]) <;> (repeat' with_reducible apply And.intro) <;> first | assumption | rfl | omega | (unfold maxLen; omega)) ?_
                        refine athen_n ?_
                        refine AW.cond (b := false) rfl (fun hb32 => by cases hb32) (fun _ => ?_)
                        refine AW.skip ?_
                        refine athen_n ?_
                        exact AW.weaken (Wk.le [] [] [] rfl (by (simp only [go_sem, hb2, hb5, hb9, hb11, hb14, hb23, hb24, hb26, hb28, hb30]) <;> (repeat' with_reducible apply And.intro) <;> first | assumption | rfl | omega | (unfold maxLen; omega)) (by (simp only [go_sem, hb2, hb5, hb9, hb11, hb14, hb23, hb24, hb26, hb28, hb30]) <;> (repeat' with_reducible apply And.intro) <;> first | assumption | rfl | omega | (unfold maxLen; omega))) (hk_lineallaw03_WeavePaths_k1 () h)
              · rw [if_neg (Bool.eq_false_iff.1 hb23)] at h
                refine AO.weaken (s' := ⟨fr [(1, .sl (.int .i64) w), (2, .sl (.int .i64) v0), (3, .sl (.int .i64) path), (4, .bp 4 0), (9, .bool false), (13, .own 64000), (14, .int .i64 v0_7.2), (15, .bool v0_8.1), (16, .int .i64 v0_8.2), (79, .bool false)], hpGet [(4, .box 24 [.int .i64 l.1, .sl (.pair (.int .i64) (.int .i64)) l.2]), (64000, .arr 3 (.int .i64) v0_7.1)], gt⟩) (Wk.to (by (simp only [go_sem, hb2, hb5, hb9, hb11, hb14, hb23]) <;> (repeat' with_reducible apply And.intro) <;> first | assumption | rfl | omega | (unfold maxLen; omega))) ?_
                refine AO.segF tab_ok 4 (by decide) [(1, .sl (.int .i64) w), (2, .sl (.int .i64) v0), (3, .sl (.int .i64) path), (4, .bp 4 0), (9, .bool false), (13, .own 64000), (14, .int .i64 v0_7.2), (15, .bool v0_8.1), (79, .bool false), (82, .cv (undef)), (83, .cv (undef))] [(4, .box 24 [.int .i64 l.1, .sl (.pair (.int .i64) (.int .i64)) l.2]), (64000, .arr 3 (.int .i64) v0_7.1)] (by (simp only [go_sem, hb2, hb5, hb9, hb11, hb14, hb23]) <;> (repeat' with_reducible apply And.intro) <;> first | assumption | rfl | omega | (unfold maxLen; omega)) ?_
                refine AO.segF tab_ok 4 (by decide) [(1, .sl (.int .i64) w), (2, .sl (.int .i64) v0), (3, .sl (.int .i64) path), (4, .bp 4 0), (9, .bool false), (13, .own 64000), (14, .int .i64 v0_7.2), (79, .bool false), (86, .cv (undef)), (87, .cv (undef))] [(4, .box 24 [.int .i64 l.1, .sl (.pair (.int .i64) (.int .i64)) l.2]), (64000, .arr 3 (.int .i64) v0_7.1)] (by (simp only [go_sem, hb2, hb5, hb9, hb11, hb14, hb23]) <;> (repeat' with_reducible apply And.intro) <;> first | assumption | rfl | omega | (unfold maxLen; omega)) ?_
                refine AO.segF tab_ok 4 (by decide) [(1, .sl (.int .i64) w), (2, .sl (.int .i64) v0), (3, .sl (.int .i64) path), (4, .bp 4 0), (9, .bool false), (13, .own 64000), (14, .int .i64 v0_7.2), (79, .bool false), (90, .cv (undef)), (91, .cv (undef))] [(4, .box 24 [.int .i64 l.1, .sl (.pair (.int .i64) (.int .i64)) l.2]), (64000, .arr 3 (.int .i64) v0_7.1)] (by (simp only [go_sem, hb2, hb5, hb9, hb11, hb14, hb23]) <;> (repeat' with_reducible apply And.intro) <;> first | assumption | rfl | omega | (unfold maxLen; omega)) ?_
                refine AO.segF tab_ok 11 (by decide) [(1, .sl (.int .i64) w), (2, .sl (.int .i64) v0), (3, .sl (.int .i64) path), (4, .bp 4 0), (13, .own 64000), (96, .bool false), (99, .bool true), (102, .bool (!(decide (v0_7.2 = 5))))] [(4, .box 24 [.int .i64 l.1, .sl (.pair (.int .i64) (.int .i64)) l.2]), (64000, .arr 3 (.int .i64) v0_7.1)] (by (simp only [go_sem, hb2, hb5, hb9, hb11, hb14, hb23]) <;> (repeat' with_reducible apply And.intro) <;> first | assumption | rfl | omega | (unfold maxLen; omega)) ?_
                rcases Bool.eq_false_or_eq_true (!(decide (v0_7.2 = 5))) with hb33 | hb33
                · rw [if_pos hb33] at h
                  refine AO.weaken (s' := ⟨fr [(1, .sl (.int .i64) w), (2, .sl (.int .i64) v0), (3, .sl (.int .i64) path), (4, .bp 4 0), (13, .own 64000), (96, .bool false), (99, .bool true), (102, .bool true)], hpGet [(4, .box 24 [.int .i64 l.1, .sl (.pair (.int .i64) (.int .i64)) l.2]), (64000, .arr 3 (.int .i64) v0_7.1)], gt⟩) (Wk.to (by (simp only [go_sem, hb2, hb5, hb9, hb11, hb14, hb23, hb33]) <;> (repeat' with_reducible apply And.intro) <;> first | assumption | rfl | omega | (unfold maxLen; omega))) ?_
                  refine AO.allF tab_ok (by decide) [(1, .sl (.int .i64) w), (2, .sl (.int .i64) v0), (3, .sl (.int .i64) path), (4, .bp 4 0), (108, .bool true)] [(4, .box 24 [.int .i64 l.1, .sl (.pair (.int .i64) (.int .i64)) l.2])] (by (simp only [go_sem, hb2, hb5, hb9, hb11, hb14, hb23, hb33]) <;> (repeat' with_reducible apply And.intro) <;> first | assumption | rfl | omega | (unfold maxLen; omega)) ?_
                  refine athen_n ?_
                  refine AW.cond (b := true) rfl (fun _ => ?_) (fun hb34 => by cases hb34)
                  refine AW.seq ?_
                  refine AW.ops ?_
                  refine AO.allF tab_ok (by decide) [(8, .bool false)] [] (by (simp only [go_sem, hb2, hb5, hb9, hb11, hb14, hb23, hb33]) <;> (repeat' with_reducible apply And.intro) <;> first | assumption | rfl | omega | (unfold maxLen; omega)) ?_
                  refine athen_n ?_
                  refine AW.ret ?_
                  refine athen_r ?_
                  obtain rfl := Option.some.inj h
                  exact ⟨rfl, [], [], [], rfl, (by (simp only [go_sem, hb2, hb5, hb9, hb11, hb14, hb23, hb33]) <;> (repeat' with_reducible apply And.intro) <;> first | assumption | rfl | omega | (unfold maxLen; omega))⟩
                · rw [if_neg (Bool.eq_false_iff.1 hb33)] at h
                  refine AO.weaken (s' := ⟨fr [(1, .sl (.int .i64) w), (2, .sl (.int .i64) v0), (3, .sl (.int .i64) path), (4, .bp 4 0), (13, .own 64000), (96, .bool false), (99, .bool true), (102, .bool false)], hpGet [(4, .box 24 [.int .i64 l.1, .sl (.pair (.int .i64) (.int .i64)) l.2]), (64000, .arr 3 (.int .i64) v0_7.1)], gt⟩) (Wk.to (by (simp only [go_sem, hb2, hb5, hb9, hb11, hb14, hb23, hb33]) <;> (repeat' with_reducible apply And.intro) <;> first | assumption | rfl | omega | (unfold maxLen; omega))) ?_
                  refine AO.allF tab_ok (by decide) [(1, .sl (.int .i64) w), (2, .sl (.int .i64) v0), (3, .sl (.int .i64) path), (4, .bp 4 0), (108, .bool (!(decide ((v0_7.1.length : Int) = 0))))] [(4, .box 24 [.int .i64 l.1, .sl (.pair (.int .i64) (.int .i64)) l.2])] (by (simp only [go_sem, hb2, hb5, hb9, hb11, hb14, hb23, hb33]) <;> (repeat' with_reducible apply And.intro) <;> first | assumption | rfl | omega | (unfold maxLen; omega)) ?_
                  refine athen_n ?_
                  refine AW.cond (b := (!(decide ((v0_7.1.length : Int) = 0)))) rfl (fun hb35 => ?_) (fun hb35 => ?_)
                  · rw [if_pos hb35] at h
                    refine AW.seq ?_
                    refine AW.ops ?_
                    refine AO.allF tab_ok (by decide) [(8, .bool false)] [] (by (simp only [go_sem, hb2, hb5, hb9, hb11, hb14, hb23, hb33, hb35]) <;> (repeat' with_reducible apply And.intro) <;> first | assumption | rfl | omega | (unfold maxLen; omega)) ?_
                    refine athen_n ?_
                    refine AW.ret ?_
                    refine athen_r ?_
                    obtain rfl := Option.some.inj h
                    exact ⟨rfl, [], [], [], rfl, (by (simp only [go_sem, hb2, hb5, hb9, hb11, hb14, hb23, hb33, hb35]) <;> (repeat' with_reducible apply And.intro) <;> first | assumption | rfl | omega | (unfold maxLen; omega))⟩
                  · rw [if_neg (Bool.eq_false_iff.1 hb35)] at h
                    refine AW.skip ?_
                    refine athen_n ?_
                    exact AW.weaken (Wk.le [] [] [] rfl (by (simp only [go_sem, hb2, hb5, hb9, hb11, hb14, hb23, hb33, hb35]) <;> (repeat' with_reducible apply And.intro) <;> first | assumption | rfl | omega | (unfold maxLen; omega)) (by (simp only [go_sem, hb2, hb5, hb9, hb11, hb14, hb23, hb33, hb35]) <;> (repeat' with_reducible apply And.intro) <;> first | assumption | rfl | omega | (unfold maxLen; omega))) (hk_lineallaw03_WeavePaths_k1 () h)

end Go.Proofs.Ytcijihofjcfpoab
