/-
  Made by wip/tool/dc.py out of the print of the program: contracts.
-/
import Derived.Test.YtmcgmlcfogdioaaQp
import Derived.Test.YtmcgmlcfogdioaaTb
import Derived.Test.YtmcgmlcfogdioaaQc1
import Derived.Test.YtmcgmlcfogdioaaQc3
import Derived.Test.YtmcgmlcfogdioaaQc4
namespace Go.Proofs.Ytmcgmlcfogdioaa
open Go.RowKit

set_option linter.unusedSimpArgs false
set_option linter.unusedVariables false
set_option linter.constructorNameAsVariable false

set_option maxRecDepth 100000 in
set_option maxHeartbeats 2000000 in
theorem hc_lineallaw01_SpecBegun (s : Int × Int × (List (List Int)) × (List (List Int))) (state : Int) {r : Bool} (h : lineallaw01_SpecBegun s state = some r) : HC Try.prog 8 [] [.agg [.int .i64 s.1, .int .i64 s.2.1, .sl (.sl (.int .i64)) s.2.2.1, .sl (.sl (.int .i64)) s.2.2.2], .int .i64 state] [] (.bool r) := by
  unfold lineallaw01_SpecBegun at h
  refine HC.of_body tab_ok (res := [.tmp 4]) Try.func8 rfl (by kernel_rfl) rfl (nt := 35) rfl (by decide) (by simp) ?_
  refine AW.seq ?_
  refine AW.ops ?_
  refine AO.allF tab_ok (by decide) [(1, .int .i64 state), (2, .bp 2 0)] [(2, .box 24 [.int .i64 s.1, .int .i64 s.2.1, .sl (.sl (.int .i64)) s.2.2.1, .sl (.sl (.int .i64)) s.2.2.2])] (by (simp only [go_sem]) <;> (repeat' with_reducible apply And.intro) <;> first | assumption | rfl | omega | (unfold maxLen; omega)) ?_
  refine athen_n ?_
  refine AW.seq ?_
  refine AW.seq ?_
  refine AW.ops ?_
  refine AO.segF tab_ok 1 (by decide) [(1, .int .i64 state), (2, .bp 2 0), (9, .agg [.int .i64 s.1, .int .i64 s.2.1, .sl (.sl (.int .i64)) s.2.2.1, .sl (.sl (.int .i64)) s.2.2.2])] [(2, .box 24 [.int .i64 s.1, .int .i64 s.2.1, .sl (.sl (.int .i64)) s.2.2.1, .sl (.sl (.int .i64)) s.2.2.2])] (by (simp only [go_sem]) <;> (repeat' with_reducible apply And.intro) <;> first | assumption | rfl | omega | (unfold maxLen; omega)) ?_
  obtain ⟨v0, hv1, h⟩ := Option.bind_eq_some_iff.1 h
  refine AO.call tab_ok (by decide) rfl rfl rfl (fun _ h => h) [] [] (hc_lineallaw01_Long s hv1) rfl (by (simp only [go_sem]) <;> (repeat' with_reducible apply And.intro) <;> first | assumption | rfl | omega | (unfold maxLen; omega)) (by (simp only [go_sem]) <;> (repeat' with_reducible apply And.intro) <;> first | assumption | rfl | omega | (unfold maxLen; omega)) [(1, .int .i64 state), (2, .bp 2 0), (10, .bool v0)] [(2, .box 24 [.int .i64 s.1, .int .i64 s.2.1, .sl (.sl (.int .i64)) s.2.2.1, .sl (.sl (.int .i64)) s.2.2.2])] (by (simp only [go_sem]) <;> (repeat' with_reducible apply And.intro) <;> first | assumption | rfl | omega | (unfold maxLen; omega)) ?_
  refine AO.allF tab_ok (by decide) [(1, .int .i64 state), (2, .bp 2 0), (10, .bool v0)] [(2, .box 24 [.int .i64 s.1, .int .i64 s.2.1, .sl (.sl (.int .i64)) s.2.2.1, .sl (.sl (.int .i64)) s.2.2.2])] (by (simp only [go_sem]) <;> (repeat' with_reducible apply And.intro) <;> first | assumption | rfl | omega | (unfold maxLen; omega)) ?_
  refine athen_n ?_
  refine AW.cond (b := v0) rfl (fun hb2 => ?_) (fun hb2 => ?_)
  · rw [if_pos hb2] at h
    refine AW.seq ?_
    refine AW.ops ?_
    obtain ⟨v0_2, hv3, h⟩ := Option.bind_eq_some_iff.1 h
    refine AO.call tab_ok (by decide) rfl rfl rfl (fun _ h => h) [] [] (hc_lineallaw01_Awake hv3) rfl (by (simp only [go_sem, hb2]) <;> (repeat' with_reducible apply And.intro) <;> first | assumption | rfl | omega | (unfold maxLen; omega)) (by (simp only [go_sem, hb2]) <;> (repeat' with_reducible apply And.intro) <;> first | assumption | rfl | omega | (unfold maxLen; omega)) [(11, .bool v0_2)] [] (by (simp only [go_sem, hb2]) <;> (repeat' with_reducible apply And.intro) <;> first | assumption | rfl | omega | (unfold maxLen; omega)) ?_
    refine AO.allF tab_ok (by decide) [(4, .bool v0_2)] [] (by (simp only [go_sem, hb2]) <;> (repeat' with_reducible apply And.intro) <;> first | assumption | rfl | omega | (unfold maxLen; omega)) ?_
    refine athen_n ?_
    refine AW.ret ?_
    refine athen_r ?_
    obtain rfl := Option.some.inj h
    exact ⟨rfl, [], [], [], rfl, (by (simp only [go_sem, hb2]) <;> (repeat' with_reducible apply And.intro) <;> first | assumption | rfl | omega | (unfold maxLen; omega))⟩
  · rw [if_neg (Bool.eq_false_iff.1 hb2)] at h
    refine AW.skip ?_
    refine athen_n ?_
    refine AW.seq ?_
    refine AW.ops ?_
    refine AO.segF tab_ok 2 (by decide) [(1, .int .i64 state), (2, .bp 2 0), (13, .agg [.int .i64 s.1, .int .i64 s.2.1, .sl (.sl (.int .i64)) s.2.2.1, .sl (.sl (.int .i64)) s.2.2.2]), (14, .int .i64 state)] [(2, .box 24 [.int .i64 s.1, .int .i64 s.2.1, .sl (.sl (.int .i64)) s.2.2.1, .sl (.sl (.int .i64)) s.2.2.2])] (by (simp only [go_sem, hb2]) <;> (repeat' with_reducible apply And.intro) <;> first | assumption | rfl | omega | (unfold maxLen; omega)) ?_
    obtain ⟨v0_3, hv4, h⟩ := Option.bind_eq_some_iff.1 h
    refine AO.call tab_ok (by decide) rfl rfl rfl (fun _ h => h) [] [] (hc_spec_Begun s state hv4) rfl (by (simp only [go_sem, hb2]) <;> (repeat' with_reducible apply And.intro) <;> first | assumption | rfl | omega | (unfold maxLen; omega)) (by (simp only [go_sem, hb2]) <;> (repeat' with_reducible apply And.intro) <;> first | assumption | rfl | omega | (unfold maxLen; omega)) [(1, .int .i64 state), (2, .bp 2 0), (15, .tup [.agg [.int .i64 v0_3.1, .int .i64 v0_3.2.1, .own 25000, .own 25001], .int .i64 v0_3.2.2.2.2])] [(2, .box 24 [.int .i64 s.1, .int .i64 s.2.1, .sl (.sl (.int .i64)) s.2.2.1, .sl (.sl (.int .i64)) s.2.2.2]), (25000, .arr 25 (.sl (.int .i64)) v0_3.2.2.1), (25001, .arr 25 (.sl (.int .i64)) v0_3.2.2.2.1)] (by (simp only [go_sem, hb2]) <;> (repeat' with_reducible apply And.intro) <;> first | assumption | rfl | omega | (unfold maxLen; omega)) ?_
    refine AO.allF tab_ok (by decide) [(1, .int .i64 state), (2, .bp 2 0), (5, .bp 5 0), (6, .int .i64 v0_3.2.2.2.2)] [(2, .box 24 [.int .i64 s.1, .int .i64 s.2.1, .sl (.sl (.int .i64)) s.2.2.1, .sl (.sl (.int .i64)) s.2.2.2]), (5, .box 24 [.int .i64 v0_3.1, .int .i64 v0_3.2.1, .own 25000, .own 25001]), (25000, .arr 25 (.sl (.int .i64)) v0_3.2.2.1), (25001, .arr 25 (.sl (.int .i64)) v0_3.2.2.2.1)] (by (simp only [go_sem, hb2]) <;> (repeat' with_reducible apply And.intro) <;> first | assumption | rfl | omega | (unfold maxLen; omega)) ?_
    refine athen_n ?_
    refine AW.seq ?_
    refine AW.ops ?_
    refine AO.segF tab_ok 2 (by decide) [(5, .bp 5 0), (6, .int .i64 v0_3.2.2.2.2), (19, .agg [.int .i64 s.1, .int .i64 s.2.1, .sl (.sl (.int .i64)) s.2.2.1, .sl (.sl (.int .i64)) s.2.2.2]), (20, .int .i64 state)] [(5, .box 24 [.int .i64 v0_3.1, .int .i64 v0_3.2.1, .own 25000, .own 25001]), (25000, .arr 25 (.sl (.int .i64)) v0_3.2.2.1), (25001, .arr 25 (.sl (.int .i64)) v0_3.2.2.2.1)] (by (simp only [go_sem, hb2]) <;> (repeat' with_reducible apply And.intro) <;> first | assumption | rfl | omega | (unfold maxLen; omega)) ?_
    obtain ⟨v0_4, hv5, h⟩ := Option.bind_eq_some_iff.1 h
    refine AO.call tab_ok (by decide) rfl rfl rfl (fun _ h => h) [] [] (hc_linealref01_Begun s state hv5) rfl (by (simp only [go_sem, hb2]) <;> (repeat' with_reducible apply And.intro) <;> first | assumption | rfl | omega | (unfold maxLen; omega)) (by (simp only [go_sem, hb2]) <;> (repeat' with_reducible apply And.intro) <;> first | assumption | rfl | omega | (unfold maxLen; omega)) [(5, .bp 5 0), (6, .int .i64 v0_3.2.2.2.2), (21, .tup [.agg [.int .i64 v0_4.1, .int .i64 v0_4.2.1, .own 31000, .own 31001], .int .i64 v0_4.2.2.2.2])] [(5, .box 24 [.int .i64 v0_3.1, .int .i64 v0_3.2.1, .own 25000, .own 25001]), (25000, .arr 25 (.sl (.int .i64)) v0_3.2.2.1), (25001, .arr 25 (.sl (.int .i64)) v0_3.2.2.2.1), (31000, .arr 25 (.sl (.int .i64)) v0_4.2.2.1), (31001, .arr 25 (.sl (.int .i64)) v0_4.2.2.2.1)] (by (simp only [go_sem, hb2]) <;> (repeat' with_reducible apply And.intro) <;> first | assumption | rfl | omega | (unfold maxLen; omega)) ?_
    refine AO.allF tab_ok (by decide) [(5, .bp 5 0), (6, .int .i64 v0_3.2.2.2.2), (7, .bp 7 0), (8, .int .i64 v0_4.2.2.2.2)] [(5, .box 24 [.int .i64 v0_3.1, .int .i64 v0_3.2.1, .own 25000, .own 25001]), (7, .box 24 [.int .i64 v0_4.1, .int .i64 v0_4.2.1, .own 31000, .own 31001]), (25000, .arr 25 (.sl (.int .i64)) v0_3.2.2.1), (25001, .arr 25 (.sl (.int .i64)) v0_3.2.2.2.1), (31000, .arr 25 (.sl (.int .i64)) v0_4.2.2.1), (31001, .arr 25 (.sl (.int .i64)) v0_4.2.2.2.1)] (by (simp only [go_sem, hb2]) <;> (repeat' with_reducible apply And.intro) <;> first | assumption | rfl | omega | (unfold maxLen; omega)) ?_
    refine athen_n ?_
    refine AW.seq ?_
    refine AW.ops ?_
    refine AO.segF tab_ok 2 (by decide) [(6, .int .i64 v0_3.2.2.2.2), (8, .int .i64 v0_4.2.2.2.2), (24, .agg [.int .i64 v0_3.1, .int .i64 v0_3.2.1, .own 25000, .own 25001]), (25, .agg [.int .i64 v0_4.1, .int .i64 v0_4.2.1, .own 31000, .own 31001])] [(25000, .arr 25 (.sl (.int .i64)) v0_3.2.2.1), (25001, .arr 25 (.sl (.int .i64)) v0_3.2.2.2.1), (31000, .arr 25 (.sl (.int .i64)) v0_4.2.2.1), (31001, .arr 25 (.sl (.int .i64)) v0_4.2.2.2.1)] (by (simp only [go_sem, hb2]) <;> (repeat' with_reducible apply And.intro) <;> first | assumption | rfl | omega | (unfold maxLen; omega)) ?_
    obtain ⟨v0_5, hv6, h⟩ := Option.bind_eq_some_iff.1 h
    refine AO.call tab_ok (by decide) rfl rfl rfl (fun _ h => h) [25000, 25001, 31000, 31001] [] (hc_linealref01_Equal (v0_3.1, v0_3.2.1, v0_3.2.2.1, v0_3.2.2.2.1) (v0_4.1, v0_4.2.1, v0_4.2.2.1, v0_4.2.2.2.1) hv6) rfl (by (simp only [go_sem, hb2]) <;> (repeat' with_reducible apply And.intro) <;> first | assumption | rfl | omega | (unfold maxLen; omega)) (by (simp only [go_sem, hb2]) <;> (repeat' with_reducible apply And.intro) <;> first | assumption | rfl | omega | (unfold maxLen; omega)) [(6, .int .i64 v0_3.2.2.2.2), (8, .int .i64 v0_4.2.2.2.2), (26, .bool v0_5)] [] (by (simp only [go_sem, hb2]) <;> (repeat' with_reducible apply And.intro) <;> first | assumption | rfl | omega | (unfold maxLen; omega)) ?_
    refine AO.segF tab_ok 1 (by decide) [(6, .int .i64 v0_3.2.2.2.2), (8, .int .i64 v0_4.2.2.2.2), (27, .bool v0_5)] [] (by (simp only [go_sem, hb2]) <;> (repeat' with_reducible apply And.intro) <;> first | assumption | rfl | omega | (unfold maxLen; omega)) ?_
    rcases Bool.eq_false_or_eq_true v0_5 with hb7 | hb7
    · rw [if_pos hb7] at h
      refine AO.weaken (s' := ⟨fr [(6, .int .i64 v0_3.2.2.2.2), (8, .int .i64 v0_4.2.2.2.2), (27, .bool true)], hpGet [], gt⟩) (Wk.to (by (simp only [go_sem, hb2, hb7]) <;> (repeat' with_reducible apply And.intro) <;> first | assumption | rfl | omega | (unfold maxLen; omega))) ?_
      refine AO.segF tab_ok 5 (by decide) [(32, .bool (decide (v0_3.2.2.2.2 = v0_4.2.2.2.2)))] [] (by (simp only [go_sem, hb2, hb7]) <;> (repeat' with_reducible apply And.intro) <;> first | assumption | rfl | omega | (unfold maxLen; omega)) ?_
      rcases Bool.eq_false_or_eq_true (decide (v0_3.2.2.2.2 = v0_4.2.2.2.2)) with hb8 | hb8
      · rw [if_pos hb8] at h
        refine AO.weaken (s' := ⟨fr [(32, .bool true)], hpGet [], gt⟩) (Wk.to (by (simp only [go_sem, hb2, hb7, hb8]) <;> (repeat' with_reducible apply And.intro) <;> first | assumption | rfl | omega | (unfold maxLen; omega))) ?_
        obtain ⟨v0_6, hv9, h⟩ := Option.bind_eq_some_iff.1 h
        refine AO.call tab_ok (by decide) rfl rfl rfl (fun _ h => ⟨fun _ => h, fun hn => absurd rfl hn⟩) [] [] (hc_lineallaw01_Awake hv9) rfl (by (simp only [go_sem, hb2, hb7, hb8]) <;> (repeat' with_reducible apply And.intro) <;> first | assumption | rfl | omega | (unfold maxLen; omega)) (by (simp only [go_sem, hb2, hb7, hb8]) <;> (repeat' with_reducible apply And.intro) <;> first | assumption | rfl | omega | (unfold maxLen; omega)) [(32, .bool true), (33, .bool v0_6)] [] (by (simp only [go_sem, hb2, hb7, hb8]) <;> (repeat' with_reducible apply And.intro) <;> first | assumption | rfl | omega | (unfold maxLen; omega)) ?_
        refine AO.allF tab_ok (by decide) [(4, .bool v0_6)] [] (by (simp only [go_sem, hb2, hb7, hb8]) <;> (repeat' with_reducible apply And.intro) <;> first | assumption | rfl | omega | (unfold maxLen; omega)) ?_
        refine athen_n ?_
        refine AW.ret ?_
        obtain rfl := Option.some.inj h
        exact ⟨rfl, [], [], [], rfl, (by (simp only [go_sem, hb2, hb7, hb8]) <;> (repeat' with_reducible apply And.intro) <;> first | assumption | rfl | omega | (unfold maxLen; omega))⟩
      · rw [if_neg (Bool.eq_false_iff.1 hb8)] at h
        refine AO.weaken (s' := ⟨fr [(32, .bool false)], hpGet [], gt⟩) (Wk.to (by (simp only [go_sem, hb2, hb7, hb8]) <;> (repeat' with_reducible apply And.intro) <;> first | assumption | rfl | omega | (unfold maxLen; omega))) ?_
        refine AO.allF tab_ok (by decide) [(4, .bool false)] [] (by (simp only [go_sem, hb2, hb7, hb8]) <;> (repeat' with_reducible apply And.intro) <;> first | assumption | rfl | omega | (unfold maxLen; omega)) ?_
        refine athen_n ?_
        refine AW.ret ?_
        obtain rfl := Option.some.inj h
        exact ⟨rfl, [], [], [], rfl, (by (simp only [go_sem, hb2, hb7, hb8]) <;> (repeat' with_reducible apply And.intro) <;> first | assumption | rfl | omega | (unfold maxLen; omega))⟩
    · rw [if_neg (Bool.eq_false_iff.1 hb7)] at h
      refine AO.weaken (s' := ⟨fr [(6, .int .i64 v0_3.2.2.2.2), (8, .int .i64 v0_4.2.2.2.2), (27, .bool false)], hpGet [], gt⟩) (Wk.to (by (simp only [go_sem, hb2, hb7]) <;> (repeat' with_reducible apply And.intro) <;> first | assumption | rfl | omega | (unfold maxLen; omega))) ?_
      refine AO.segF tab_ok 6 (by decide) [(32, .bool false), (33, .cv (undef))] [] (by (simp only [go_sem, hb2, hb7]) <;> (repeat' with_reducible apply And.intro) <;> first | assumption | rfl | omega | (unfold maxLen; omega)) ?_
      refine AO.allF tab_ok (by decide) [(4, .bool false)] [] (by (simp only [go_sem, hb2, hb7]) <;> (repeat' with_reducible apply And.intro) <;> first | assumption | rfl | omega | (unfold maxLen; omega)) ?_
      refine athen_n ?_
      refine AW.ret ?_
      obtain rfl := Option.some.inj h
      exact ⟨rfl, [], [], [], rfl, (by (simp only [go_sem, hb2, hb7]) <;> (repeat' with_reducible apply And.intro) <;> first | assumption | rfl | omega | (unfold maxLen; omega))⟩

set_option maxRecDepth 100000 in
set_option maxHeartbeats 2000000 in
theorem hc_linealref01_IsOp (s : Int × Int × (List (List Int)) × (List (List Int))) (n : Int) {r : Bool} (h : linealref01_IsOp s n = some r) : HC Try.prog 92 [] [.agg [.int .i64 s.1, .int .i64 s.2.1, .sl (.sl (.int .i64)) s.2.2.1, .sl (.sl (.int .i64)) s.2.2.2], .int .i64 n] [] (.bool r) := by
  unfold linealref01_IsOp at h
  refine HC.of_body tab_ok (res := [.tmp 4]) Try.func92 rfl (by kernel_rfl) rfl (nt := 13) rfl (by decide) (by simp) ?_
  refine AW.seq ?_
  refine AW.ops ?_
  refine AO.allF tab_ok (by decide) [(1, .int .i64 n), (2, .bp 2 0)] [(2, .box 24 [.int .i64 s.1, .int .i64 s.2.1, .sl (.sl (.int .i64)) s.2.2.1, .sl (.sl (.int .i64)) s.2.2.2])] (by (simp only [go_sem]) <;> (repeat' with_reducible apply And.intro) <;> first | assumption | rfl | omega | (unfold maxLen; omega)) ?_
  refine athen_n ?_
  refine AW.seq ?_
  refine AW.ops ?_
  refine AO.segF tab_ok 3 (by decide) [(1, .int .i64 n), (2, .bp 2 0), (7, .bool (decide (0 ≤ n)))] [(2, .box 24 [.int .i64 s.1, .int .i64 s.2.1, .sl (.sl (.int .i64)) s.2.2.1, .sl (.sl (.int .i64)) s.2.2.2])] (by (simp only [go_sem]) <;> (repeat' with_reducible apply And.intro) <;> first | assumption | rfl | omega | (unfold maxLen; omega)) ?_
  rcases Bool.eq_false_or_eq_true (decide (0 ≤ n)) with hb1 | hb1
  · rw [if_pos hb1] at h
    refine AO.weaken (s' := ⟨fr [(1, .int .i64 n), (2, .bp 2 0), (7, .bool true)], hpGet [(2, .box 24 [.int .i64 s.1, .int .i64 s.2.1, .sl (.sl (.int .i64)) s.2.2.1, .sl (.sl (.int .i64)) s.2.2.2])], gt⟩) (Wk.to (by (simp only [go_sem, hb1]) <;> (repeat' with_reducible apply And.intro) <;> first | assumption | rfl | omega | (unfold maxLen; omega))) ?_
    refine AO.allF tab_ok (by decide) [(4, .bool (decide (n < s.2.1)))] [] (by (simp only [go_sem, hb1]) <;> (repeat' with_reducible apply And.intro) <;> first | assumption | rfl | omega | (unfold maxLen; omega)) ?_
    refine athen_n ?_
    refine AW.ret ?_
    obtain rfl := Option.some.inj h
    exact ⟨rfl, [], [], [], rfl, (by (simp only [go_sem, hb1]) <;> (repeat' with_reducible apply And.intro) <;> first | assumption | rfl | omega | (unfold maxLen; omega))⟩
  · rw [if_neg (Bool.eq_false_iff.1 hb1)] at h
    refine AO.weaken (s' := ⟨fr [(1, .int .i64 n), (2, .bp 2 0), (7, .bool false)], hpGet [(2, .box 24 [.int .i64 s.1, .int .i64 s.2.1, .sl (.sl (.int .i64)) s.2.2.1, .sl (.sl (.int .i64)) s.2.2.2])], gt⟩) (Wk.to (by (simp only [go_sem, hb1]) <;> (repeat' with_reducible apply And.intro) <;> first | assumption | rfl | omega | (unfold maxLen; omega))) ?_
    refine AO.segF tab_ok 4 (by decide) [(7, .bool false), (11, .cv (undef))] [] (by (simp only [go_sem, hb1]) <;> (repeat' with_reducible apply And.intro) <;> first | assumption | rfl | omega | (unfold maxLen; omega)) ?_
    refine AO.allF tab_ok (by decide) [(4, .bool false)] [] (by (simp only [go_sem, hb1]) <;> (repeat' with_reducible apply And.intro) <;> first | assumption | rfl | omega | (unfold maxLen; omega)) ?_
    refine athen_n ?_
    refine AW.ret ?_
    obtain rfl := Option.some.inj h
    exact ⟨rfl, [], [], [], rfl, (by (simp only [go_sem, hb1]) <;> (repeat' with_reducible apply And.intro) <;> first | assumption | rfl | omega | (unfold maxLen; omega))⟩

set_option maxRecDepth 100000 in
set_option maxHeartbeats 2000000 in
theorem hc_linealref01_IsWord (s : Int × Int × (List (List Int)) × (List (List Int))) (word : List Int) {r : Bool} (h : linealref01_IsWord s word = some r) : HC Try.prog 53 [] [.agg [.int .i64 s.1, .int .i64 s.2.1, .sl (.sl (.int .i64)) s.2.2.1, .sl (.sl (.int .i64)) s.2.2.2], .sl (.int .i64) word] [] (.bool r) := by
  unfold linealref01_IsWord at h
  refine HC.of_body tab_ok (res := [.tmp 4]) Try.func53 rfl (by kernel_rfl) rfl (nt := 21) rfl (by decide) (by simp) ?_
  refine AW.seq ?_
  refine AW.ops ?_
  refine AO.allF tab_ok (by decide) [(1, .sl (.int .i64) word), (2, .bp 2 0)] [(2, .box 24 [.int .i64 s.1, .int .i64 s.2.1, .sl (.sl (.int .i64)) s.2.2.1, .sl (.sl (.int .i64)) s.2.2.2])] (by (simp only [go_sem]) <;> (repeat' with_reducible apply And.intro) <;> first | assumption | rfl | omega | (unfold maxLen; omega)) ?_
  refine athen_n ?_
  refine AW.have1 (fun _ : Unit => linealref01_IsWord_k1 word = some r) (fun _ => ⟨fr [(1, .sl (.int .i64) word)], hpGet [], gt⟩) (fun _ h => ?_) (fun hk_linealref01_IsWord_k1 => ?_)
  · unfold linealref01_IsWord_k1 at h
    refine AW.seq ?_
    refine AW.ops ?_
    refine AO.allF tab_ok (by decide) [(4, .bool (decide ((word.length : Int) ≤ 20)))] [] (by (simp only [go_sem]) <;> (repeat' with_reducible apply And.intro) <;> first | assumption | rfl | omega | (unfold maxLen; omega)) ?_
    refine athen_n ?_
    refine AW.ret ?_
    obtain rfl := Option.some.inj h
    exact ⟨rfl, [], [], [], rfl, (by (simp only [go_sem]) <;> (repeat' with_reducible apply And.intro) <;> first | assumption | rfl | omega | (unfold maxLen; omega))⟩
  · refine AW.seq ?_
    refine AW.seq ?_
    refine AW.ops ?_
    refine AO.allF tab_ok (by decide) [(1, .sl (.int .i64) word), (2, .bp 2 0), (7, .sl (.int .i64) word), (8, .int .i64 (word.length : Int)), (9, .int .i64 0)] [(2, .box 24 [.int .i64 s.1, .int .i64 s.2.1, .sl (.sl (.int .i64)) s.2.2.1, .sl (.sl (.int .i64)) s.2.2.2])] (by (simp only [go_sem]) <;> (repeat' with_reducible apply And.intro) <;> first | assumption | rfl | omega | (unfold maxLen; omega)) ?_
    refine athen_n ?_
    refine AW.block ?_
    obtain ⟨rv5, hw1, ho2⟩ := Option.bind_eq_some_iff.1 h
    refine AW.loopO (linealref01_IsWord_b1 s word) (fun st1 => ⟨fr [(1, .sl (.int .i64) word), (2, .bp 2 0), (7, .sl (.int .i64) word), (8, .int .i64 (word.length : Int)), (9, .int .i64 st1)], hpGet [(2, .box 24 [.int .i64 s.1, .int .i64 s.2.1, .sl (.sl (.int .i64)) s.2.2.1, .sl (.sl (.int .i64)) s.2.2.2])], gt⟩) 0 hw1 (Wk.le [] [] [] rfl (by (simp only [go_sem]) <;> (repeat' with_reducible apply And.intro) <;> first | assumption | rfl | omega | (unfold maxLen; omega)) (by (simp only [go_sem]) <;> (repeat' with_reducible apply And.intro) <;> first | assumption | rfl | omega | (unfold maxLen; omega))) ?_
    intro st1 x4 h hd3
    unfold linealref01_IsWord_b1 at h
    refine AW.seq ?_
    refine AW.ops ?_
    refine AO.allF tab_ok (by decide) [(1, .sl (.int .i64) word), (2, .bp 2 0), (7, .sl (.int .i64) word), (8, .int .i64 (word.length : Int)), (9, .int .i64 st1), (10, .bool (decide (st1 < (word.length : Int))))] [(2, .box 24 [.int .i64 s.1, .int .i64 s.2.1, .sl (.sl (.int .i64)) s.2.2.1, .sl (.sl (.int .i64)) s.2.2.2])] (by (simp only [go_sem]) <;> (repeat' with_reducible apply And.intro) <;> first | assumption | rfl | omega | (unfold maxLen; omega)) ?_
    refine athen_n ?_
    refine AW.seq ?_
    refine AW.cond (b := (decide (st1 < (word.length : Int)))) rfl (fun hb6 => ?_) (fun hb6 => ?_)
    · rw [if_pos hb6] at h
      refine AW.skip ?_
      refine athen_n ?_
      refine AW.seq ?_
      refine AW.block ?_
      refine AW.seq ?_
      refine AW.ops ?_
      obtain ⟨c7, h⟩ := ck_some.1 h
      obtain ⟨c8, h⟩ := ck_some.1 h
      refine AO.allF tab_ok (by decide) [(1, .sl (.int .i64) word), (2, .bp 2 0), (6, .int .i64 (word.getD st1.toNat 0)), (7, .sl (.int .i64) word), (8, .int .i64 (word.length : Int)), (9, .int .i64 st1)] [(2, .box 24 [.int .i64 s.1, .int .i64 s.2.1, .sl (.sl (.int .i64)) s.2.2.1, .sl (.sl (.int .i64)) s.2.2.2])] (by (simp only [go_sem, hb6]) <;> (repeat' with_reducible apply And.intro) <;> first | assumption | rfl | omega | (unfold maxLen; omega)) ?_
      refine athen_n ?_
      refine AW.seq ?_
      refine AW.ops ?_
      refine AO.segF tab_ok 2 (by decide) [(1, .sl (.int .i64) word), (2, .bp 2 0), (7, .sl (.int .i64) word), (8, .int .i64 (word.length : Int)), (9, .int .i64 st1), (13, .agg [.int .i64 s.1, .int .i64 s.2.1, .sl (.sl (.int .i64)) s.2.2.1, .sl (.sl (.int .i64)) s.2.2.2]), (14, .int .i64 (word.getD st1.toNat 0))] [(2, .box 24 [.int .i64 s.1, .int .i64 s.2.1, .sl (.sl (.int .i64)) s.2.2.1, .sl (.sl (.int .i64)) s.2.2.2])] (by (simp only [go_sem, hb6]) <;> (repeat' with_reducible apply And.intro) <;> first | assumption | rfl | omega | (unfold maxLen; omega)) ?_
      obtain ⟨v0, hv9, h⟩ := Option.bind_eq_some_iff.1 h
      refine AO.call tab_ok (by decide) rfl rfl rfl (fun _ h => h) [] [] (hc_linealref01_IsOp s (word.getD st1.toNat 0) hv9) rfl (by (simp only [go_sem, hb6]) <;> (repeat' with_reducible apply And.intro) <;> first | assumption | rfl | omega | (unfold maxLen; omega)) (by (simp only [go_sem, hb6]) <;> (repeat' with_reducible apply And.intro) <;> first | assumption | rfl | omega | (unfold maxLen; omega)) [(1, .sl (.int .i64) word), (2, .bp 2 0), (7, .sl (.int .i64) word), (8, .int .i64 (word.length : Int)), (9, .int .i64 st1), (15, .bool v0)] [(2, .box 24 [.int .i64 s.1, .int .i64 s.2.1, .sl (.sl (.int .i64)) s.2.2.1, .sl (.sl (.int .i64)) s.2.2.2])] (by (simp only [go_sem, hb6]) <;> (repeat' with_reducible apply And.intro) <;> first | assumption | rfl | omega | (unfold maxLen; omega)) ?_
      refine AO.allF tab_ok (by decide) [(1, .sl (.int .i64) word), (2, .bp 2 0), (7, .sl (.int .i64) word), (8, .int .i64 (word.length : Int)), (9, .int .i64 st1), (16, .bool (!v0))] [(2, .box 24 [.int .i64 s.1, .int .i64 s.2.1, .sl (.sl (.int .i64)) s.2.2.1, .sl (.sl (.int .i64)) s.2.2.2])] (by (simp only [go_sem, hb6]) <;> (repeat' with_reducible apply And.intro) <;> first | assumption | rfl | omega | (unfold maxLen; omega)) ?_
      refine athen_n ?_
      refine AW.cond (b := (!v0)) rfl (fun hb10 => ?_) (fun hb10 => ?_)
      · rw [if_pos hb10] at h
        refine AW.seq ?_
        refine AW.ops ?_
        refine AO.allF tab_ok (by decide) [(4, .bool false)] [] (by (simp only [go_sem, hb6, hb10]) <;> (repeat' with_reducible apply And.intro) <;> first | assumption | rfl | omega | (unfold maxLen; omega)) ?_
        refine athen_n ?_
        refine AW.ret ?_
        refine ablock_r ?_
        refine athen_r ?_
        obtain rfl := Option.some.inj h
        rw [← hd3 _ rfl] at ho2
        have h := ho2
        try simp only at h
        refine athen_r ?_
        refine ablock_r ?_
        refine athen_r ?_
        obtain rfl := Option.some.inj h
        exact ⟨rfl, [], [], [], rfl, (by (simp only [go_sem, hb6, hb10]) <;> (repeat' with_reducible apply And.intro) <;> first | assumption | rfl | omega | (unfold maxLen; omega))⟩
      · rw [if_neg (Bool.eq_false_iff.1 hb10)] at h
        refine AW.skip ?_
        refine ablock_n ?_
        refine athen_n ?_
        refine AW.ops ?_
        obtain ⟨c11, h⟩ := ck_some.1 h
        refine AO.allF tab_ok (by decide) [(1, .sl (.int .i64) word), (2, .bp 2 0), (7, .sl (.int .i64) word), (8, .int .i64 (word.length : Int)), (9, .int .i64 (st1 + 1))] [(2, .box 24 [.int .i64 s.1, .int .i64 s.2.1, .sl (.sl (.int .i64)) s.2.2.1, .sl (.sl (.int .i64)) s.2.2.2])] (by (simp only [go_sem, hb6, hb10]) <;> (repeat' with_reducible apply And.intro) <;> first | assumption | rfl | omega | (unfold maxLen; omega)) ?_
        obtain rfl := Option.some.inj h
        exact ⟨_, rfl, Wk.le [] [] [] rfl (by (simp only [go_sem, hb6, hb10]) <;> (repeat' with_reducible apply And.intro) <;> first | assumption | rfl | omega | (unfold maxLen; omega)) (by (simp only [go_sem, hb6, hb10]) <;> (repeat' with_reducible apply And.intro) <;> first | assumption | rfl | omega | (unfold maxLen; omega))⟩
    · rw [if_neg (Bool.eq_false_iff.1 hb6)] at h
      refine AW.exit ?_
      refine athen_e ?_
      obtain rfl := Option.some.inj h
      rw [← hd3 _ rfl] at ho2
      have h := ho2
      try simp only at h
      refine athen_e ?_
      refine ablock_s ?_
      refine athen_n ?_
      exact AW.weaken (Wk.le [] [] [] rfl (by (simp only [go_sem, hb6]) <;> (repeat' with_reducible apply And.intro) <;> first | assumption | rfl | omega | (unfold maxLen; omega)) (by (simp only [go_sem, hb6]) <;> (repeat' with_reducible apply And.intro) <;> first | assumption | rfl | omega | (unfold maxLen; omega))) (hk_linealref01_IsWord_k1 () h)

set_option maxRecDepth 100000 in
set_option maxHeartbeats 2000000 in
theorem hc_spec_machine_isCall (m : Int × Int × (List (List Int)) × (List (List Int))) (n : Int) {r : Bool} (h : spec_machine_isCall m n = some r) : HC Try.prog 89 [] [.agg [.int .i64 m.1, .int .i64 m.2.1, .sl (.sl (.int .i64)) m.2.2.1, .sl (.sl (.int .i64)) m.2.2.2], .int .i64 n] [] (.bool r) := by
  unfold spec_machine_isCall at h
  refine HC.of_body tab_ok (res := [.tmp 4]) Try.func89 rfl (by kernel_rfl) rfl (nt := 13) rfl (by decide) (by simp) ?_
  refine AW.seq ?_
  refine AW.ops ?_
  refine AO.allF tab_ok (by decide) [(1, .int .i64 n), (2, .bp 2 0)] [(2, .box 60 [.int .i64 m.1, .int .i64 m.2.1, .sl (.sl (.int .i64)) m.2.2.1, .sl (.sl (.int .i64)) m.2.2.2])] (by (simp only [go_sem]) <;> (repeat' with_reducible apply And.intro) <;> first | assumption | rfl | omega | (unfold maxLen; omega)) ?_
  refine athen_n ?_
  refine AW.seq ?_
  refine AW.ops ?_
  refine AO.segF tab_ok 3 (by decide) [(1, .int .i64 n), (2, .bp 2 0), (7, .bool (decide (0 ≤ n)))] [(2, .box 60 [.int .i64 m.1, .int .i64 m.2.1, .sl (.sl (.int .i64)) m.2.2.1, .sl (.sl (.int .i64)) m.2.2.2])] (by (simp only [go_sem]) <;> (repeat' with_reducible apply And.intro) <;> first | assumption | rfl | omega | (unfold maxLen; omega)) ?_
  rcases Bool.eq_false_or_eq_true (decide (0 ≤ n)) with hb1 | hb1
  · rw [if_pos hb1] at h
    refine AO.weaken (s' := ⟨fr [(1, .int .i64 n), (2, .bp 2 0), (7, .bool true)], hpGet [(2, .box 60 [.int .i64 m.1, .int .i64 m.2.1, .sl (.sl (.int .i64)) m.2.2.1, .sl (.sl (.int .i64)) m.2.2.2])], gt⟩) (Wk.to (by (simp only [go_sem, hb1]) <;> (repeat' with_reducible apply And.intro) <;> first | assumption | rfl | omega | (unfold maxLen; omega))) ?_
    refine AO.allF tab_ok (by decide) [(4, .bool (decide (n < m.2.1)))] [] (by (simp only [go_sem, hb1]) <;> (repeat' with_reducible apply And.intro) <;> first | assumption | rfl | omega | (unfold maxLen; omega)) ?_
    refine athen_n ?_
    refine AW.ret ?_
    obtain rfl := Option.some.inj h
    exact ⟨rfl, [], [], [], rfl, (by (simp only [go_sem, hb1]) <;> (repeat' with_reducible apply And.intro) <;> first | assumption | rfl | omega | (unfold maxLen; omega))⟩
  · rw [if_neg (Bool.eq_false_iff.1 hb1)] at h
    refine AO.weaken (s' := ⟨fr [(1, .int .i64 n), (2, .bp 2 0), (7, .bool false)], hpGet [(2, .box 60 [.int .i64 m.1, .int .i64 m.2.1, .sl (.sl (.int .i64)) m.2.2.1, .sl (.sl (.int .i64)) m.2.2.2])], gt⟩) (Wk.to (by (simp only [go_sem, hb1]) <;> (repeat' with_reducible apply And.intro) <;> first | assumption | rfl | omega | (unfold maxLen; omega))) ?_
    refine AO.segF tab_ok 4 (by decide) [(7, .bool false), (11, .cv (undef))] [] (by (simp only [go_sem, hb1]) <;> (repeat' with_reducible apply And.intro) <;> first | assumption | rfl | omega | (unfold maxLen; omega)) ?_
    refine AO.allF tab_ok (by decide) [(4, .bool false)] [] (by (simp only [go_sem, hb1]) <;> (repeat' with_reducible apply And.intro) <;> first | assumption | rfl | omega | (unfold maxLen; omega)) ?_
    refine athen_n ?_
    refine AW.ret ?_
    obtain rfl := Option.some.inj h
    exact ⟨rfl, [], [], [], rfl, (by (simp only [go_sem, hb1]) <;> (repeat' with_reducible apply And.intro) <;> first | assumption | rfl | omega | (unfold maxLen; omega))⟩

set_option maxRecDepth 100000 in
set_option maxHeartbeats 2000000 in
theorem hc_spec_all_3 (is0 : Int × Int × (List (List Int)) × (List (List Int))) (numbers : List Int) {r : Bool} (h : spec_all_3 is0 numbers = some r) : HC Try.prog 93 [] [.fn (.func 89) [.agg [.int .i64 is0.1, .int .i64 is0.2.1, .sl (.sl (.int .i64)) is0.2.2.1, .sl (.sl (.int .i64)) is0.2.2.2]] [], .sl (.int .i64) numbers] [] (.bool r) := by
  unfold spec_all_3 at h
  refine HC.of_body tab_ok (res := [.tmp 4]) Try.func93 rfl (by kernel_rfl) rfl (nt := 18) rfl (by decide) (by simp) ?_
  refine AW.seq ?_
  refine AW.ops ?_
  refine AO.allF tab_ok (by decide) [(0, .fn (.func 89) [.agg [.int .i64 is0.1, .int .i64 is0.2.1, .sl (.sl (.int .i64)) is0.2.2.1, .sl (.sl (.int .i64)) is0.2.2.2]] []), (1, .sl (.int .i64) numbers)] [] (by (simp only [go_sem]) <;> (repeat' with_reducible apply And.intro) <;> first | assumption | rfl | omega | (unfold maxLen; omega)) ?_
  refine athen_n ?_
  refine AW.have1 (fun _ : Unit => spec_all_3_k1 = some r) (fun _ => ⟨fr [], hpGet [], gt⟩) (fun _ h => ?_) (fun hk_spec_all_3_k1 => ?_)
  · unfold spec_all_3_k1 at h
    refine AW.seq ?_
    refine AW.ops ?_
    refine AO.allF tab_ok (by decide) [(4, .bool true)] [] (by (simp only [go_sem]) <;> (repeat' with_reducible apply And.intro) <;> first | assumption | rfl | omega | (unfold maxLen; omega)) ?_
    refine athen_n ?_
    refine AW.ret ?_
    obtain rfl := Option.some.inj h
    exact ⟨rfl, [], [], [], rfl, (by (simp only [go_sem]) <;> (repeat' with_reducible apply And.intro) <;> first | assumption | rfl | omega | (unfold maxLen; omega))⟩
  · refine AW.seq ?_
    refine AW.seq ?_
    refine AW.ops ?_
    refine AO.allF tab_ok (by decide) [(0, .fn (.func 89) [.agg [.int .i64 is0.1, .int .i64 is0.2.1, .sl (.sl (.int .i64)) is0.2.2.1, .sl (.sl (.int .i64)) is0.2.2.2]] []), (7, .sl (.int .i64) numbers), (8, .int .i64 (numbers.length : Int)), (9, .int .i64 0)] [] (by (simp only [go_sem]) <;> (repeat' with_reducible apply And.intro) <;> first | assumption | rfl | omega | (unfold maxLen; omega)) ?_
    refine athen_n ?_
    refine AW.block ?_
    obtain ⟨rv5, hw1, ho2⟩ := Option.bind_eq_some_iff.1 h
    refine AW.loopO (spec_all_3_b1 is0 numbers) (fun st1 => ⟨fr [(0, .fn (.func 89) [.agg [.int .i64 is0.1, .int .i64 is0.2.1, .sl (.sl (.int .i64)) is0.2.2.1, .sl (.sl (.int .i64)) is0.2.2.2]] []), (7, .sl (.int .i64) numbers), (8, .int .i64 (numbers.length : Int)), (9, .int .i64 st1)], hpGet [], gt⟩) 0 hw1 (Wk.le [] [] [] rfl (by (simp only [go_sem]) <;> (repeat' with_reducible apply And.intro) <;> first | assumption | rfl | omega | (unfold maxLen; omega)) (by (simp only [go_sem]) <;> (repeat' with_reducible apply And.intro) <;> first | assumption | rfl | omega | (unfold maxLen; omega))) ?_
    intro st1 x4 h hd3
    unfold spec_all_3_b1 at h
    refine AW.seq ?_
    refine AW.ops ?_
    refine AO.allF tab_ok (by decide) [(0, .fn (.func 89) [.agg [.int .i64 is0.1, .int .i64 is0.2.1, .sl (.sl (.int .i64)) is0.2.2.1, .sl (.sl (.int .i64)) is0.2.2.2]] []), (7, .sl (.int .i64) numbers), (8, .int .i64 (numbers.length : Int)), (9, .int .i64 st1), (10, .bool (decide (st1 < (numbers.length : Int))))] [] (by (simp only [go_sem]) <;> (repeat' with_reducible apply And.intro) <;> first | assumption | rfl | omega | (unfold maxLen; omega)) ?_
    refine athen_n ?_
    refine AW.seq ?_
    refine AW.cond (b := (decide (st1 < (numbers.length : Int)))) rfl (fun hb6 => ?_) (fun hb6 => ?_)
    · rw [if_pos hb6] at h
      refine AW.skip ?_
      refine athen_n ?_
      refine AW.seq ?_
      refine AW.block ?_
      refine AW.seq ?_
      refine AW.ops ?_
      obtain ⟨c7, h⟩ := ck_some.1 h
      obtain ⟨c8, h⟩ := ck_some.1 h
      refine AO.allF tab_ok (by decide) [(0, .fn (.func 89) [.agg [.int .i64 is0.1, .int .i64 is0.2.1, .sl (.sl (.int .i64)) is0.2.2.1, .sl (.sl (.int .i64)) is0.2.2.2]] []), (6, .int .i64 (numbers.getD st1.toNat 0)), (7, .sl (.int .i64) numbers), (8, .int .i64 (numbers.length : Int)), (9, .int .i64 st1)] [] (by (simp only [go_sem, hb6]) <;> (repeat' with_reducible apply And.intro) <;> first | assumption | rfl | omega | (unfold maxLen; omega)) ?_
      refine athen_n ?_
      refine AW.seq ?_
      refine AW.ops ?_
      refine AO.segF tab_ok 2 (by decide) [(0, .fn (.func 89) [.agg [.int .i64 is0.1, .int .i64 is0.2.1, .sl (.sl (.int .i64)) is0.2.2.1, .sl (.sl (.int .i64)) is0.2.2.2]] []), (7, .sl (.int .i64) numbers), (8, .int .i64 (numbers.length : Int)), (9, .int .i64 st1), (13, .fn (.func 89) [.agg [.int .i64 is0.1, .int .i64 is0.2.1, .sl (.sl (.int .i64)) is0.2.2.1, .sl (.sl (.int .i64)) is0.2.2.2]] []), (14, .int .i64 (numbers.getD st1.toNat 0))] [] (by (simp only [go_sem, hb6]) <;> (repeat' with_reducible apply And.intro) <;> first | assumption | rfl | omega | (unfold maxLen; omega)) ?_
      obtain ⟨v0, hv9, h⟩ := Option.bind_eq_some_iff.1 h
      refine AO.call tab_ok (by decide) rfl rfl rfl (fun _ h => h) [] [] (hc_spec_machine_isCall is0 (numbers.getD st1.toNat 0) hv9) rfl (by (simp only [go_sem, hb6]) <;> (repeat' with_reducible apply And.intro) <;> first | assumption | rfl | omega | (unfold maxLen; omega)) (by (simp only [go_sem, hb6]) <;> (repeat' with_reducible apply And.intro) <;> first | assumption | rfl | omega | (unfold maxLen; omega)) [(0, .fn (.func 89) [.agg [.int .i64 is0.1, .int .i64 is0.2.1, .sl (.sl (.int .i64)) is0.2.2.1, .sl (.sl (.int .i64)) is0.2.2.2]] []), (7, .sl (.int .i64) numbers), (8, .int .i64 (numbers.length : Int)), (9, .int .i64 st1), (15, .bool v0)] [] (by (simp only [go_sem, hb6]) <;> (repeat' with_reducible apply And.intro) <;> first | assumption | rfl | omega | (unfold maxLen; omega)) ?_
      refine AO.allF tab_ok (by decide) [(0, .fn (.func 89) [.agg [.int .i64 is0.1, .int .i64 is0.2.1, .sl (.sl (.int .i64)) is0.2.2.1, .sl (.sl (.int .i64)) is0.2.2.2]] []), (7, .sl (.int .i64) numbers), (8, .int .i64 (numbers.length : Int)), (9, .int .i64 st1), (16, .bool (!v0))] [] (by (simp only [go_sem, hb6]) <;> (repeat' with_reducible apply And.intro) <;> first | assumption | rfl | omega | (unfold maxLen; omega)) ?_
      refine athen_n ?_
      refine AW.cond (b := (!v0)) rfl (fun hb10 => ?_) (fun hb10 => ?_)
      · rw [if_pos hb10] at h
        refine AW.seq ?_
        refine AW.ops ?_
        refine AO.allF tab_ok (by decide) [(4, .bool false)] [] (by (simp only [go_sem, hb6, hb10]) <;> (repeat' with_reducible apply And.intro) <;> first | assumption | rfl | omega | (unfold maxLen; omega)) ?_
        refine athen_n ?_
        refine AW.ret ?_
        refine ablock_r ?_
        refine athen_r ?_
        obtain rfl := Option.some.inj h
        rw [← hd3 _ rfl] at ho2
        have h := ho2
        try simp only at h
        refine athen_r ?_
        refine ablock_r ?_
        refine athen_r ?_
        obtain rfl := Option.some.inj h
        exact ⟨rfl, [], [], [], rfl, (by (simp only [go_sem, hb6, hb10]) <;> (repeat' with_reducible apply And.intro) <;> first | assumption | rfl | omega | (unfold maxLen; omega))⟩
      · rw [if_neg (Bool.eq_false_iff.1 hb10)] at h
        refine AW.skip ?_
        refine ablock_n ?_
        refine athen_n ?_
        refine AW.ops ?_
        obtain ⟨c11, h⟩ := ck_some.1 h
        refine AO.allF tab_ok (by decide) [(0, .fn (.func 89) [.agg [.int .i64 is0.1, .int .i64 is0.2.1, .sl (.sl (.int .i64)) is0.2.2.1, .sl (.sl (.int .i64)) is0.2.2.2]] []), (7, .sl (.int .i64) numbers), (8, .int .i64 (numbers.length : Int)), (9, .int .i64 (st1 + 1))] [] (by (simp only [go_sem, hb6, hb10]) <;> (repeat' with_reducible apply And.intro) <;> first | assumption | rfl | omega | (unfold maxLen; omega)) ?_
        obtain rfl := Option.some.inj h
        exact ⟨_, rfl, Wk.le [] [] [] rfl (by (simp only [go_sem, hb6, hb10]) <;> (repeat' with_reducible apply And.intro) <;> first | assumption | rfl | omega | (unfold maxLen; omega)) (by (simp only [go_sem, hb6, hb10]) <;> (repeat' with_reducible apply And.intro) <;> first | assumption | rfl | omega | (unfold maxLen; omega))⟩
    · rw [if_neg (Bool.eq_false_iff.1 hb6)] at h
      refine AW.exit ?_
      refine athen_e ?_
      obtain rfl := Option.some.inj h
      rw [← hd3 _ rfl] at ho2
      have h := ho2
      try simp only at h
      refine athen_e ?_
      refine ablock_s ?_
      refine athen_n ?_
      exact AW.weaken (Wk.le [] [] [] rfl (by (simp only [go_sem, hb6]) <;> (repeat' with_reducible apply And.intro) <;> first | assumption | rfl | omega | (unfold maxLen; omega)) (by (simp only [go_sem, hb6]) <;> (repeat' with_reducible apply And.intro) <;> first | assumption | rfl | omega | (unfold maxLen; omega))) (hk_spec_all_3_k1 () h)

set_option maxRecDepth 100000 in
set_option maxHeartbeats 2000000 in
theorem hc_spec_machine_isWord (m : Int × Int × (List (List Int)) × (List (List Int))) (word : List Int) {r : Bool} (h : spec_machine_isWord m word = some r) : HC Try.prog 56 [] [.agg [.int .i64 m.1, .int .i64 m.2.1, .sl (.sl (.int .i64)) m.2.2.1, .sl (.sl (.int .i64)) m.2.2.2], .sl (.int .i64) word] [] (.bool r) := by
  unfold spec_machine_isWord at h
  refine HC.of_body tab_ok (res := [.tmp 4]) Try.func56 rfl (by kernel_rfl) rfl (nt := 14) rfl (by decide) (by simp) ?_
  refine AW.seq ?_
  refine AW.ops ?_
  refine AO.allF tab_ok (by decide) [(1, .sl (.int .i64) word), (2, .bp 2 0)] [(2, .box 60 [.int .i64 m.1, .int .i64 m.2.1, .sl (.sl (.int .i64)) m.2.2.1, .sl (.sl (.int .i64)) m.2.2.2])] (by (simp only [go_sem]) <;> (repeat' with_reducible apply And.intro) <;> first | assumption | rfl | omega | (unfold maxLen; omega)) ?_
  refine athen_n ?_
  refine AW.seq ?_
  refine AW.ops ?_
  refine AO.segF tab_ok 4 (by decide) [(1, .sl (.int .i64) word), (2, .bp 2 0), (8, .bool (decide ((word.length : Int) ≤ 20)))] [(2, .box 60 [.int .i64 m.1, .int .i64 m.2.1, .sl (.sl (.int .i64)) m.2.2.1, .sl (.sl (.int .i64)) m.2.2.2])] (by (simp only [go_sem]) <;> (repeat' with_reducible apply And.intro) <;> first | assumption | rfl | omega | (unfold maxLen; omega)) ?_
  rcases Bool.eq_false_or_eq_true (decide ((word.length : Int) ≤ 20)) with hb1 | hb1
  · rw [if_pos hb1] at h
    refine AO.weaken (s' := ⟨fr [(1, .sl (.int .i64) word), (2, .bp 2 0), (8, .bool true)], hpGet [(2, .box 60 [.int .i64 m.1, .int .i64 m.2.1, .sl (.sl (.int .i64)) m.2.2.1, .sl (.sl (.int .i64)) m.2.2.2])], gt⟩) (Wk.to (by (simp only [go_sem, hb1]) <;> (repeat' with_reducible apply And.intro) <;> first | assumption | rfl | omega | (unfold maxLen; omega))) ?_
    refine AO.segF tab_ok 3 (by decide) [(8, .bool true), (10, .fn (.func 89) [.agg [.int .i64 m.1, .int .i64 m.2.1, .sl (.sl (.int .i64)) m.2.2.1, .sl (.sl (.int .i64)) m.2.2.2]] []), (11, .sl (.int .i64) word)] [] (by (simp only [go_sem, hb1]) <;> (repeat' with_reducible apply And.intro) <;> first | assumption | rfl | omega | (unfold maxLen; omega)) ?_
    obtain ⟨v0, hv2, h⟩ := Option.bind_eq_some_iff.1 h
    refine AO.call tab_ok (by decide) rfl rfl rfl (fun _ h => ⟨fun _ => h, fun hn => absurd rfl hn⟩) [] [] (hc_spec_all_3 m word hv2) rfl (by (simp only [go_sem, hb1]) <;> (repeat' with_reducible apply And.intro) <;> first | assumption | rfl | omega | (unfold maxLen; omega)) (by (simp only [go_sem, hb1]) <;> (repeat' with_reducible apply And.intro) <;> first | assumption | rfl | omega | (unfold maxLen; omega)) [(8, .bool true), (12, .bool v0)] [] (by (simp only [go_sem, hb1]) <;> (repeat' with_reducible apply And.intro) <;> first | assumption | rfl | omega | (unfold maxLen; omega)) ?_
    refine AO.allF tab_ok (by decide) [(4, .bool v0)] [] (by (simp only [go_sem, hb1]) <;> (repeat' with_reducible apply And.intro) <;> first | assumption | rfl | omega | (unfold maxLen; omega)) ?_
    refine athen_n ?_
    refine AW.ret ?_
    obtain rfl := Option.some.inj h
    exact ⟨rfl, [], [], [], rfl, (by (simp only [go_sem, hb1]) <;> (repeat' with_reducible apply And.intro) <;> first | assumption | rfl | omega | (unfold maxLen; omega))⟩
  · rw [if_neg (Bool.eq_false_iff.1 hb1)] at h
    refine AO.weaken (s' := ⟨fr [(1, .sl (.int .i64) word), (2, .bp 2 0), (8, .bool false)], hpGet [(2, .box 60 [.int .i64 m.1, .int .i64 m.2.1, .sl (.sl (.int .i64)) m.2.2.1, .sl (.sl (.int .i64)) m.2.2.2])], gt⟩) (Wk.to (by (simp only [go_sem, hb1]) <;> (repeat' with_reducible apply And.intro) <;> first | assumption | rfl | omega | (unfold maxLen; omega))) ?_
    refine AO.segF tab_ok 4 (by decide) [(8, .bool false), (12, .cv (undef))] [] (by (simp only [go_sem, hb1]) <;> (repeat' with_reducible apply And.intro) <;> first | assumption | rfl | omega | (unfold maxLen; omega)) ?_
    refine AO.allF tab_ok (by decide) [(4, .bool false)] [] (by (simp only [go_sem, hb1]) <;> (repeat' with_reducible apply And.intro) <;> first | assumption | rfl | omega | (unfold maxLen; omega)) ?_
    refine athen_n ?_
    refine AW.ret ?_
    obtain rfl := Option.some.inj h
    exact ⟨rfl, [], [], [], rfl, (by (simp only [go_sem, hb1]) <;> (repeat' with_reducible apply And.intro) <;> first | assumption | rfl | omega | (unfold maxLen; omega))⟩

set_option maxRecDepth 100000 in
set_option maxHeartbeats 2000000 in
theorem hc_spec_machine_run (m : Int × Int × (List (List Int)) × (List (List Int))) (from0 : Int) (word : List Int) {r : (List Int) × Int} (h : spec_machine_run m from0 word = some r) : HC Try.prog 57 [] [.agg [.int .i64 m.1, .int .i64 m.2.1, .sl (.sl (.int .i64)) m.2.2.1, .sl (.sl (.int .i64)) m.2.2.2], .int .i64 from0, .sl (.int .i64) word] [(2000, .arr 3 (.int .i64) r.1)] (.tup [.own 2000, .int .i64 r.2]) := by
  unfold spec_machine_run at h
  refine HC.of_body tab_ok (res := [.tmp 6, .tmp 7]) Try.func57 rfl (by kernel_rfl) rfl (nt := 39) rfl (by decide) (by simp) ?_
  refine AW.seq ?_
  refine AW.ops ?_
  refine AO.allF tab_ok (by decide) [(1, .int .i64 from0), (2, .sl (.int .i64) word), (3, .bp 3 0), (6, .cv (.slice none 0 0))] [(3, .box 60 [.int .i64 m.1, .int .i64 m.2.1, .sl (.sl (.int .i64)) m.2.2.1, .sl (.sl (.int .i64)) m.2.2.2])] (by (simp only [go_sem]) <;> (repeat' with_reducible apply And.intro) <;> first | assumption | rfl | omega | (unfold maxLen; omega)) ?_
  refine athen_n ?_
  refine AW.seq ?_
  refine AW.ops ?_
  refine AO.allF tab_ok (by decide) [(2, .sl (.int .i64) word), (3, .bp 3 0), (6, .cv (.slice none 0 0)), (7, .int .i64 from0)] [(3, .box 60 [.int .i64 m.1, .int .i64 m.2.1, .sl (.sl (.int .i64)) m.2.2.1, .sl (.sl (.int .i64)) m.2.2.2])] (by (simp only [go_sem]) <;> (repeat' with_reducible apply And.intro) <;> first | assumption | rfl | omega | (unfold maxLen; omega)) ?_
  refine athen_n ?_
  refine AW.have1 (fun b1 : (List Int) × Int => spec_machine_run_k1 b1 = some r) (fun b1 => ⟨fr [(6, .own 27), (7, .int .i64 b1.2)], hpGet [(27, .arr 3 (.int .i64) b1.1)], gt⟩) (fun b1 h => ?_) (fun hk_spec_machine_run_k1 => ?_)
  · unfold spec_machine_run_k1 at h
    refine AW.seq ?_
    refine AW.ops ?_
    refine AO.allF tab_ok (by decide) [(6, .own 27), (7, .int .i64 b1.2)] [(27, .arr 3 (.int .i64) b1.1)] (by (simp only [go_sem]) <;> (repeat' with_reducible apply And.intro) <;> first | assumption | rfl | omega | (unfold maxLen; omega)) ?_
    refine athen_n ?_
    refine AW.ret ?_
    obtain rfl := Option.some.inj h
    exact ⟨rfl, [], [], [(2000, 27)], rfl, (by (simp only [go_sem]) <;> (repeat' with_reducible apply And.intro) <;> first | assumption | rfl | omega | (unfold maxLen; omega))⟩
  · refine AW.seq ?_
    refine AW.seq ?_
    refine AW.ops ?_
    refine AO.allF tab_ok (by decide) [(3, .bp 3 0), (6, .cv (.slice none 0 0)), (7, .int .i64 from0), (11, .sl (.int .i64) word), (12, .int .i64 (word.length : Int)), (13, .int .i64 0)] [(3, .box 60 [.int .i64 m.1, .int .i64 m.2.1, .sl (.sl (.int .i64)) m.2.2.1, .sl (.sl (.int .i64)) m.2.2.2])] (by (simp only [go_sem]) <;> (repeat' with_reducible apply And.intro) <;> first | assumption | rfl | omega | (unfold maxLen; omega)) ?_
    refine athen_n ?_
    refine AW.block ?_
    obtain ⟨rv5, hw1, ho2⟩ := Option.bind_eq_some_iff.1 h
    refine AW.loopO (spec_machine_run_b1 m word) (fun st1 => ⟨fr [(3, .bp 3 0), (6, .own 27), (7, .int .i64 st1.2.1), (11, .sl (.int .i64) word), (12, .int .i64 (word.length : Int)), (13, .int .i64 st1.2.2)], hpGet [(3, .box 60 [.int .i64 m.1, .int .i64 m.2.1, .sl (.sl (.int .i64)) m.2.2.1, .sl (.sl (.int .i64)) m.2.2.2]), (27, .arr 3 (.int .i64) st1.1)], gt⟩) ([], from0, 0) hw1 (Wk.le [] [27] [] rfl (by (simp only [go_sem]) <;> (repeat' with_reducible apply And.intro) <;> first | assumption | rfl | omega | (unfold maxLen; omega)) (by (simp only [go_sem]) <;> (repeat' with_reducible apply And.intro) <;> first | assumption | rfl | omega | (unfold maxLen; omega))) ?_
    intro st1 x4 h hd3
    unfold spec_machine_run_b1 at h
    refine AW.seq ?_
    refine AW.ops ?_
    refine AO.allF tab_ok (by decide) [(3, .bp 3 0), (6, .own 27), (7, .int .i64 st1.2.1), (11, .sl (.int .i64) word), (12, .int .i64 (word.length : Int)), (13, .int .i64 st1.2.2), (14, .bool (decide (st1.2.2 < (word.length : Int))))] [(3, .box 60 [.int .i64 m.1, .int .i64 m.2.1, .sl (.sl (.int .i64)) m.2.2.1, .sl (.sl (.int .i64)) m.2.2.2]), (27, .arr 3 (.int .i64) st1.1)] (by (simp only [go_sem]) <;> (repeat' with_reducible apply And.intro) <;> first | assumption | rfl | omega | (unfold maxLen; omega)) ?_
    refine athen_n ?_
    refine AW.seq ?_
    refine AW.cond (b := (decide (st1.2.2 < (word.length : Int)))) rfl (fun hb6 => ?_) (fun hb6 => ?_)
    · rw [if_pos hb6] at h
      refine AW.skip ?_
      refine athen_n ?_
      refine AW.seq ?_
      refine AW.block ?_
      refine AW.seq ?_
      refine AW.ops ?_
      obtain ⟨c7, h⟩ := ck_some.1 h
      obtain ⟨c8, h⟩ := ck_some.1 h
      refine AO.allF tab_ok (by decide) [(3, .bp 3 0), (6, .own 27), (7, .int .i64 st1.2.1), (9, .int .i64 (word.getD st1.2.2.toNat 0)), (11, .sl (.int .i64) word), (12, .int .i64 (word.length : Int)), (13, .int .i64 st1.2.2)] [(3, .box 60 [.int .i64 m.1, .int .i64 m.2.1, .sl (.sl (.int .i64)) m.2.2.1, .sl (.sl (.int .i64)) m.2.2.2]), (27, .arr 3 (.int .i64) st1.1)] (by (simp only [go_sem, hb6]) <;> (repeat' with_reducible apply And.intro) <;> first | assumption | rfl | omega | (unfold maxLen; omega)) ?_
      refine athen_n ?_
      refine AW.seq ?_
      refine AW.ops ?_
      obtain ⟨c9, h⟩ := ck_some.1 h
      obtain ⟨c10, h⟩ := ck_some.1 h
      obtain ⟨c11, h⟩ := ck_some.1 h
      obtain ⟨c12, h⟩ := ck_some.1 h
      obtain ⟨c13, h⟩ := ck_some.1 h
      refine AO.allF tab_ok (by decide) [(3, .bp 3 0), (6, .own 27), (7, .int .i64 st1.2.1), (9, .int .i64 (word.getD st1.2.2.toNat 0)), (11, .sl (.int .i64) word), (12, .int .i64 (word.length : Int)), (13, .int .i64 st1.2.2)] [(3, .box 60 [.int .i64 m.1, .int .i64 m.2.1, .sl (.sl (.int .i64)) m.2.2.1, .sl (.sl (.int .i64)) m.2.2.2]), (27, .arr 3 (.int .i64) (st1.1 ++ [((m.2.2.2.getD st1.2.1.toNat []).getD (word.getD st1.2.2.toNat 0).toNat 0)]))] (by (simp only [go_sem, hb6]) <;> (repeat' with_reducible apply And.intro) <;> first | assumption | rfl | omega | (unfold maxLen; omega)) ?_
      refine athen_n ?_
      refine AW.ops ?_
      obtain ⟨c14, h⟩ := ck_some.1 h
      obtain ⟨c15, h⟩ := ck_some.1 h
      obtain ⟨c16, h⟩ := ck_some.1 h
      obtain ⟨c17, h⟩ := ck_some.1 h
      refine AO.allF tab_ok (by decide) [(3, .bp 3 0), (6, .own 27), (7, .int .i64 ((m.2.2.1.getD st1.2.1.toNat []).getD (word.getD st1.2.2.toNat 0).toNat 0)), (11, .sl (.int .i64) word), (12, .int .i64 (word.length : Int)), (13, .int .i64 st1.2.2)] [(3, .box 60 [.int .i64 m.1, .int .i64 m.2.1, .sl (.sl (.int .i64)) m.2.2.1, .sl (.sl (.int .i64)) m.2.2.2]), (27, .arr 3 (.int .i64) (st1.1 ++ [((m.2.2.2.getD st1.2.1.toNat []).getD (word.getD st1.2.2.toNat 0).toNat 0)]))] (by (simp only [go_sem, hb6]) <;> (repeat' with_reducible apply And.intro) <;> first | assumption | rfl | omega | (unfold maxLen; omega)) ?_
      refine ablock_n ?_
      refine athen_n ?_
      refine AW.ops ?_
      obtain ⟨c18, h⟩ := ck_some.1 h
      refine AO.allF tab_ok (by decide) [(3, .bp 3 0), (6, .own 27), (7, .int .i64 ((m.2.2.1.getD st1.2.1.toNat []).getD (word.getD st1.2.2.toNat 0).toNat 0)), (11, .sl (.int .i64) word), (12, .int .i64 (word.length : Int)), (13, .int .i64 (st1.2.2 + 1))] [(3, .box 60 [.int .i64 m.1, .int .i64 m.2.1, .sl (.sl (.int .i64)) m.2.2.1, .sl (.sl (.int .i64)) m.2.2.2]), (27, .arr 3 (.int .i64) (st1.1 ++ [((m.2.2.2.getD st1.2.1.toNat []).getD (word.getD st1.2.2.toNat 0).toNat 0)]))] (by (simp only [go_sem, hb6]) <;> (repeat' with_reducible apply And.intro) <;> first | assumption | rfl | omega | (unfold maxLen; omega)) ?_
      obtain rfl := Option.some.inj h
      exact ⟨_, rfl, Wk.le [] [] [] rfl (by (simp only [go_sem, hb6]) <;> (repeat' with_reducible apply And.intro) <;> first | assumption | rfl | omega | (unfold maxLen; omega)) (by (simp only [go_sem, hb6]) <;> (repeat' with_reducible apply And.intro) <;> first | assumption | rfl | omega | (unfold maxLen; omega))⟩
    · rw [if_neg (Bool.eq_false_iff.1 hb6)] at h
      refine AW.exit ?_
      refine athen_e ?_
      obtain rfl := Option.some.inj h
      rw [← hd3 _ rfl] at ho2
      have h := ho2
      refine athen_e ?_
      refine ablock_s ?_
      refine athen_n ?_
      exact AW.weaken (Wk.le [] [] [] rfl (by (simp only [go_sem, hb6]) <;> (repeat' with_reducible apply And.intro) <;> first | assumption | rfl | omega | (unfold maxLen; omega)) (by (simp only [go_sem, hb6]) <;> (repeat' with_reducible apply And.intro) <;> first | assumption | rfl | omega | (unfold maxLen; omega))) (hk_spec_machine_run_k1 _ h)

set_option maxRecDepth 100000 in
set_option maxHeartbeats 2000000 in
theorem hc_spec_Run (s : Int × Int × (List (List Int)) × (List (List Int))) (from0 : Int) (word : List Int) {r : (List Int) × Int × Int} (h : spec_Run s from0 word = some r) : HC Try.prog 17 [] [.agg [.int .i64 s.1, .int .i64 s.2.1, .sl (.sl (.int .i64)) s.2.2.1, .sl (.sl (.int .i64)) s.2.2.2], .int .i64 from0, .sl (.int .i64) word] [(2000, .arr 3 (.int .i64) r.1)] (.tup [.own 2000, .int .i64 r.2.1, .int .i64 r.2.2]) := by
  unfold spec_Run at h
  refine HC.of_body tab_ok (res := [.tmp 6, .tmp 7, .tmp 8]) Try.func17 rfl (by kernel_rfl) rfl (nt := 33) rfl (by decide) (by simp) ?_
  refine AW.seq ?_
  refine AW.ops ?_
  refine AO.allF tab_ok (by decide) [(1, .int .i64 from0), (2, .sl (.int .i64) word), (3, .bp 3 0)] [(3, .box 24 [.int .i64 s.1, .int .i64 s.2.1, .sl (.sl (.int .i64)) s.2.2.1, .sl (.sl (.int .i64)) s.2.2.2])] (by (simp only [go_sem]) <;> (repeat' with_reducible apply And.intro) <;> first | assumption | rfl | omega | (unfold maxLen; omega)) ?_
  refine athen_n ?_
  refine AW.seq ?_
  refine AW.ops ?_
  refine AO.segF tab_ok 3 (by decide) [(1, .int .i64 from0), (2, .sl (.int .i64) word), (11, .agg [.int .i64 s.1, .int .i64 s.2.1, .sl (.sl (.int .i64)) s.2.2.1, .sl (.sl (.int .i64)) s.2.2.2]), (13, .own 13)] [(13, .arr 3 (.int .i64) [from0])] (by (simp only [go_sem]) <;> (repeat' with_reducible apply And.intro) <;> first | assumption | rfl | omega | (unfold maxLen; omega)) ?_
  obtain ⟨v0, hv1, h⟩ := Option.bind_eq_some_iff.1 h
  refine AO.call tab_ok (by decide) rfl rfl rfl (fun _ h => h) [13] [] (hc_spec_checked s [from0] hv1) rfl (by (simp only [go_sem]) <;> (repeat' with_reducible apply And.intro) <;> first | assumption | rfl | omega | (unfold maxLen; omega)) (by (simp only [go_sem]) <;> (repeat' with_reducible apply And.intro) <;> first | assumption | rfl | omega | (unfold maxLen; omega)) [(1, .int .i64 from0), (2, .sl (.int .i64) word), (14, .tup [.agg [.int .i64 v0.1, .int .i64 v0.2.1, .sl (.sl (.int .i64)) v0.2.2.1, .sl (.sl (.int .i64)) v0.2.2.2.1], .int .i64 v0.2.2.2.2])] [] (by (simp only [go_sem]) <;> (repeat' with_reducible apply And.intro) <;> first | assumption | rfl | omega | (unfold maxLen; omega)) ?_
  refine AO.allF tab_ok (by decide) [(1, .int .i64 from0), (2, .sl (.int .i64) word), (8, .int .i64 v0.2.2.2.2), (9, .bp 9 0)] [(9, .box 60 [.int .i64 v0.1, .int .i64 v0.2.1, .sl (.sl (.int .i64)) v0.2.2.1, .sl (.sl (.int .i64)) v0.2.2.2.1])] (by (simp only [go_sem]) <;> (repeat' with_reducible apply And.intro) <;> first | assumption | rfl | omega | (unfold maxLen; omega)) ?_
  refine athen_n ?_
  refine AW.seq ?_
  refine AW.seq ?_
  refine AW.ops ?_
  refine AO.allF tab_ok (by decide) [(1, .int .i64 from0), (2, .sl (.int .i64) word), (8, .int .i64 v0.2.2.2.2), (9, .bp 9 0), (18, .bool (!(decide (v0.2.2.2.2 = 0))))] [(9, .box 60 [.int .i64 v0.1, .int .i64 v0.2.1, .sl (.sl (.int .i64)) v0.2.2.1, .sl (.sl (.int .i64)) v0.2.2.2.1])] (by (simp only [go_sem]) <;> (repeat' with_reducible apply And.intro) <;> first | assumption | rfl | omega | (unfold maxLen; omega)) ?_
  refine athen_n ?_
  refine AW.cond (b := (!(decide (v0.2.2.2.2 = 0)))) rfl (fun hb2 => ?_) (fun hb2 => ?_)
  · rw [if_pos hb2] at h
    refine AW.seq ?_
    refine AW.ops ?_
    refine AO.allF tab_ok (by decide) [(6, .cv (.slice none 0 0)), (7, .int .i64 0), (8, .int .i64 v0.2.2.2.2)] [] (by (simp only [go_sem, hb2]) <;> (repeat' with_reducible apply And.intro) <;> first | assumption | rfl | omega | (unfold maxLen; omega)) ?_
    refine athen_n ?_
    refine AW.ret ?_
    refine athen_r ?_
    obtain rfl := Option.some.inj h
    exact ⟨rfl, [], [2000], [], rfl, (by (simp only [go_sem, hb2]) <;> (repeat' with_reducible apply And.intro) <;> first | assumption | rfl | omega | (unfold maxLen; omega))⟩
  · rw [if_neg (Bool.eq_false_iff.1 hb2)] at h
    refine AW.skip ?_
    refine athen_n ?_
    refine AW.seq ?_
    refine AW.seq ?_
    refine AW.ops ?_
    refine AO.segF tab_ok 2 (by decide) [(1, .int .i64 from0), (2, .sl (.int .i64) word), (9, .bp 9 0), (20, .agg [.int .i64 v0.1, .int .i64 v0.2.1, .sl (.sl (.int .i64)) v0.2.2.1, .sl (.sl (.int .i64)) v0.2.2.2.1]), (21, .sl (.int .i64) word)] [(9, .box 60 [.int .i64 v0.1, .int .i64 v0.2.1, .sl (.sl (.int .i64)) v0.2.2.1, .sl (.sl (.int .i64)) v0.2.2.2.1])] (by (simp only [go_sem, hb2]) <;> (repeat' with_reducible apply And.intro) <;> first | assumption | rfl | omega | (unfold maxLen; omega)) ?_
    obtain ⟨v0_2, hv3, h⟩ := Option.bind_eq_some_iff.1 h
    refine AO.call tab_ok (by decide) rfl rfl rfl (fun _ h => h) [] [] (hc_spec_machine_isWord (v0.1, v0.2.1, v0.2.2.1, v0.2.2.2.1) word hv3) rfl (by (simp only [go_sem, hb2]) <;> (repeat' with_reducible apply And.intro) <;> first | assumption | rfl | omega | (unfold maxLen; omega)) (by (simp only [go_sem, hb2]) <;> (repeat' with_reducible apply And.intro) <;> first | assumption | rfl | omega | (unfold maxLen; omega)) [(1, .int .i64 from0), (2, .sl (.int .i64) word), (9, .bp 9 0), (22, .bool v0_2)] [(9, .box 60 [.int .i64 v0.1, .int .i64 v0.2.1, .sl (.sl (.int .i64)) v0.2.2.1, .sl (.sl (.int .i64)) v0.2.2.2.1])] (by (simp only [go_sem, hb2]) <;> (repeat' with_reducible apply And.intro) <;> first | assumption | rfl | omega | (unfold maxLen; omega)) ?_
    refine AO.allF tab_ok (by decide) [(1, .int .i64 from0), (2, .sl (.int .i64) word), (9, .bp 9 0), (23, .bool (!v0_2))] [(9, .box 60 [.int .i64 v0.1, .int .i64 v0.2.1, .sl (.sl (.int .i64)) v0.2.2.1, .sl (.sl (.int .i64)) v0.2.2.2.1])] (by (simp only [go_sem, hb2]) <;> (repeat' with_reducible apply And.intro) <;> first | assumption | rfl | omega | (unfold maxLen; omega)) ?_
    refine athen_n ?_
    refine AW.cond (b := (!v0_2)) rfl (fun hb4 => ?_) (fun hb4 => ?_)
    · rw [if_pos hb4] at h
      refine AW.seq ?_
      refine AW.ops ?_
      refine AO.allF tab_ok (by decide) [(6, .cv (.slice none 0 0)), (7, .int .i64 0), (8, .int .i64 2)] [] (by (simp only [go_sem, hb2, hb4]) <;> (repeat' with_reducible apply And.intro) <;> first | assumption | rfl | omega | (unfold maxLen; omega)) ?_
      refine athen_n ?_
      refine AW.ret ?_
      refine athen_r ?_
      obtain rfl := Option.some.inj h
      exact ⟨rfl, [], [2000], [], rfl, (by (simp only [go_sem, hb2, hb4]) <;> (repeat' with_reducible apply And.intro) <;> first | assumption | rfl | omega | (unfold maxLen; omega))⟩
    · rw [if_neg (Bool.eq_false_iff.1 hb4)] at h
      refine AW.skip ?_
      refine athen_n ?_
      refine AW.seq ?_
      refine AW.ops ?_
      refine AO.segF tab_ok 3 (by decide) [(25, .agg [.int .i64 v0.1, .int .i64 v0.2.1, .sl (.sl (.int .i64)) v0.2.2.1, .sl (.sl (.int .i64)) v0.2.2.2.1]), (26, .int .i64 from0), (27, .sl (.int .i64) word)] [] (by (simp only [go_sem, hb2, hb4]) <;> (repeat' with_reducible apply And.intro) <;> first | assumption | rfl | omega | (unfold maxLen; omega)) ?_
      obtain ⟨v0_3, hv5, h⟩ := Option.bind_eq_some_iff.1 h
      refine AO.call tab_ok (by decide) rfl rfl rfl (fun _ h => h) [] [] (hc_spec_machine_run (v0.1, v0.2.1, v0.2.2.1, v0.2.2.2.1) from0 word hv5) rfl (by (simp only [go_sem, hb2, hb4]) <;> (repeat' with_reducible apply And.intro) <;> first | assumption | rfl | omega | (unfold maxLen; omega)) (by (simp only [go_sem, hb2, hb4]) <;> (repeat' with_reducible apply And.intro) <;> first | assumption | rfl | omega | (unfold maxLen; omega)) [(28, .tup [.own 38000, .int .i64 v0_3.2])] [(38000, .arr 3 (.int .i64) v0_3.1)] (by (simp only [go_sem, hb2, hb4]) <;> (repeat' with_reducible apply And.intro) <;> first | assumption | rfl | omega | (unfold maxLen; omega)) ?_
      refine AO.allF tab_ok (by decide) [(6, .own 38000), (7, .int .i64 v0_3.2)] [(38000, .arr 3 (.int .i64) v0_3.1)] (by (simp only [go_sem, hb2, hb4]) <;> (repeat' with_reducible apply And.intro) <;> first | assumption | rfl | omega | (unfold maxLen; omega)) ?_
      refine athen_n ?_
      refine AW.seq ?_
      refine AW.ops ?_
      refine AO.allF tab_ok (by decide) [(6, .own 38000), (7, .int .i64 v0_3.2), (8, .int .i64 0)] [(38000, .arr 3 (.int .i64) v0_3.1)] (by (simp only [go_sem, hb2, hb4]) <;> (repeat' with_reducible apply And.intro) <;> first | assumption | rfl | omega | (unfold maxLen; omega)) ?_
      refine athen_n ?_
      refine AW.ret ?_
      obtain rfl := Option.some.inj h
      exact ⟨rfl, [], [], [(2000, 38000)], rfl, (by (simp only [go_sem, hb2, hb4]) <;> (repeat' with_reducible apply And.intro) <;> first | assumption | rfl | omega | (unfold maxLen; omega))⟩

end Go.Proofs.Ytmcgmlcfogdioaa
