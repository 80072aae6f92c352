/-
  Made by wip/tool/dc.py out of the print of the program: contracts.
-/
import Derived.Test.YtmcgmlcfogdioaaQp
import Derived.Test.YtmcgmlcfogdioaaTb
import Derived.Test.YtmcgmlcfogdioaaAv25
import Derived.Test.YtmcgmlcfogdioaaQc10
import Derived.Test.YtmcgmlcfogdioaaQc2
import Derived.Test.YtmcgmlcfogdioaaQc4
import Derived.Test.YtmcgmlcfogdioaaQc6
import Derived.Test.YtmcgmlcfogdioaaQc8
namespace Go.Proofs.Ytmcgmlcfogdioaa
open Go.RowKit

set_option linter.unusedSimpArgs false
set_option linter.unusedVariables false
set_option linter.constructorNameAsVariable false

set_option maxRecDepth 100000 in
set_option maxHeartbeats 2000000 in
theorem hc_lineallaw01_SpecRuns (s : Int × Int × (List (List Int)) × (List (List Int))) (a : Int) (b : Int) (word : List Int) {r : Bool} (h : lineallaw01_SpecRuns s a b word = some r) : HC Try.prog 3 [] [.agg [.int .i64 s.1, .int .i64 s.2.1, .sl (.sl (.int .i64)) s.2.2.1, .sl (.sl (.int .i64)) s.2.2.2], .int .i64 a, .int .i64 b, .sl (.int .i64) word] [] (.bool r) := by
  unfold lineallaw01_SpecRuns at h
  refine HC.of_body tab_ok (res := [.tmp 8]) Try.func3 rfl (by kernel_rfl) rfl (nt := 92) rfl (by decide) (by simp) ?_
  refine AW.seq ?_
  refine AW.ops ?_
  refine AO.allF tab_ok (by decide) [(1, .int .i64 a), (2, .int .i64 b), (3, .sl (.int .i64) word), (4, .bp 4 0)] [(4, .box 24 [.int .i64 s.1, .int .i64 s.2.1, .sl (.sl (.int .i64)) s.2.2.1, .sl (.sl (.int .i64)) s.2.2.2])] (by (simp only [go_sem]) <;> (repeat' with_reducible apply And.intro) <;> first | assumption | rfl | omega | (unfold maxLen; omega)) ?_
  refine athen_n ?_
  refine AW.seq ?_
  refine AW.seq ?_
  refine AW.ops ?_
  refine AO.segF tab_ok 1 (by decide) [(1, .int .i64 a), (2, .int .i64 b), (3, .sl (.int .i64) word), (4, .bp 4 0), (19, .agg [.int .i64 s.1, .int .i64 s.2.1, .sl (.sl (.int .i64)) s.2.2.1, .sl (.sl (.int .i64)) s.2.2.2])] [(4, .box 24 [.int .i64 s.1, .int .i64 s.2.1, .sl (.sl (.int .i64)) s.2.2.1, .sl (.sl (.int .i64)) s.2.2.2])] (by (simp only [go_sem]) <;> (repeat' with_reducible apply And.intro) <;> first | assumption | rfl | omega | (unfold maxLen; omega)) ?_
  obtain ⟨v0, hv1, h⟩ := Option.bind_eq_some_iff.1 h
  refine AO.call tab_ok (by decide) rfl rfl rfl (fun _ h => h) [] [] (hc_lineallaw01_Long s hv1) rfl (by (simp only [go_sem]) <;> (repeat' with_reducible apply And.intro) <;> first | assumption | rfl | omega | (unfold maxLen; omega)) (by (simp only [go_sem]) <;> (repeat' with_reducible apply And.intro) <;> first | assumption | rfl | omega | (unfold maxLen; omega)) [(1, .int .i64 a), (2, .int .i64 b), (3, .sl (.int .i64) word), (4, .bp 4 0), (20, .bool v0)] [(4, .box 24 [.int .i64 s.1, .int .i64 s.2.1, .sl (.sl (.int .i64)) s.2.2.1, .sl (.sl (.int .i64)) s.2.2.2])] (by (simp only [go_sem]) <;> (repeat' with_reducible apply And.intro) <;> first | assumption | rfl | omega | (unfold maxLen; omega)) ?_
  refine AO.segF tab_ok 1 (by decide) [(1, .int .i64 a), (2, .int .i64 b), (3, .sl (.int .i64) word), (4, .bp 4 0), (21, .bool v0)] [(4, .box 24 [.int .i64 s.1, .int .i64 s.2.1, .sl (.sl (.int .i64)) s.2.2.1, .sl (.sl (.int .i64)) s.2.2.2])] (by (simp only [go_sem]) <;> (repeat' with_reducible apply And.intro) <;> first | assumption | rfl | omega | (unfold maxLen; omega)) ?_
  rcases Bool.eq_false_or_eq_true v0 with hb2 | hb2
  · rw [if_pos hb2] at h
    refine AO.weaken (s' := ⟨fr [(1, .int .i64 a), (2, .int .i64 b), (3, .sl (.int .i64) word), (4, .bp 4 0), (21, .bool true)], hpGet [(4, .box 24 [.int .i64 s.1, .int .i64 s.2.1, .sl (.sl (.int .i64)) s.2.2.1, .sl (.sl (.int .i64)) s.2.2.2])], gt⟩) (Wk.to (by (simp only [go_sem, hb2]) <;> (repeat' with_reducible apply And.intro) <;> first | assumption | rfl | omega | (unfold maxLen; omega))) ?_
    refine AO.allF tab_ok (by decide) [(1, .int .i64 a), (2, .int .i64 b), (3, .sl (.int .i64) word), (4, .bp 4 0), (25, .bool true)] [(4, .box 24 [.int .i64 s.1, .int .i64 s.2.1, .sl (.sl (.int .i64)) s.2.2.1, .sl (.sl (.int .i64)) s.2.2.2])] (by (simp only [go_sem, hb2]) <;> (repeat' with_reducible apply And.intro) <;> first | assumption | rfl | omega | (unfold maxLen; omega)) ?_
    refine athen_n ?_
    refine AW.cond (b := true) rfl (fun _ => ?_) (fun hb3 => by cases hb3)
    refine AW.seq ?_
    refine AW.ops ?_
    obtain ⟨v0_2, hv4, h⟩ := Option.bind_eq_some_iff.1 h
    refine AO.call tab_ok (by decide) rfl rfl rfl (fun _ h => h) [] [] (hc_lineallaw01_Awake hv4) rfl (by (simp only [go_sem, hb2]) <;> (repeat' with_reducible apply And.intro) <;> first | assumption | rfl | omega | (unfold maxLen; omega)) (by (simp only [go_sem, hb2]) <;> (repeat' with_reducible apply And.intro) <;> first | assumption | rfl | omega | (unfold maxLen; omega)) [(26, .bool v0_2)] [] (by (simp only [go_sem, hb2]) <;> (repeat' with_reducible apply And.intro) <;> first | assumption | rfl | omega | (unfold maxLen; omega)) ?_
    refine AO.allF tab_ok (by decide) [(8, .bool v0_2)] [] (by (simp only [go_sem, hb2]) <;> (repeat' with_reducible apply And.intro) <;> first | assumption | rfl | omega | (unfold maxLen; omega)) ?_
    refine athen_n ?_
    refine AW.ret ?_
    refine athen_r ?_
    obtain rfl := Option.some.inj h
    exact ⟨rfl, [], [], [], rfl, (by (simp only [go_sem, hb2]) <;> (repeat' with_reducible apply And.intro) <;> first | assumption | rfl | omega | (unfold maxLen; omega))⟩
  · rw [if_neg (Bool.eq_false_iff.1 hb2)] at h
    refine AO.weaken (s' := ⟨fr [(1, .int .i64 a), (2, .int .i64 b), (3, .sl (.int .i64) word), (4, .bp 4 0), (21, .bool false)], hpGet [(4, .box 24 [.int .i64 s.1, .int .i64 s.2.1, .sl (.sl (.int .i64)) s.2.2.1, .sl (.sl (.int .i64)) s.2.2.2])], gt⟩) (Wk.to (by (simp only [go_sem, hb2]) <;> (repeat' with_reducible apply And.intro) <;> first | assumption | rfl | omega | (unfold maxLen; omega))) ?_
    refine AO.allF tab_ok (by decide) [(1, .int .i64 a), (2, .int .i64 b), (3, .sl (.int .i64) word), (4, .bp 4 0), (25, .bool (decide (100 < (word.length : Int))))] [(4, .box 24 [.int .i64 s.1, .int .i64 s.2.1, .sl (.sl (.int .i64)) s.2.2.1, .sl (.sl (.int .i64)) s.2.2.2])] (by (simp only [go_sem, hb2]) <;> (repeat' with_reducible apply And.intro) <;> first | assumption | rfl | omega | (unfold maxLen; omega)) ?_
    refine athen_n ?_
    refine AW.cond (b := (decide (100 < (word.length : Int)))) rfl (fun hb5 => ?_) (fun hb5 => ?_)
    · rw [if_pos hb5] at h
      refine AW.seq ?_
      refine AW.ops ?_
      obtain ⟨v0_3, hv6, h⟩ := Option.bind_eq_some_iff.1 h
      refine AO.call tab_ok (by decide) rfl rfl rfl (fun _ h => h) [] [] (hc_lineallaw01_Awake hv6) rfl (by (simp only [go_sem, hb2, hb5]) <;> (repeat' with_reducible apply And.intro) <;> first | assumption | rfl | omega | (unfold maxLen; omega)) (by (simp only [go_sem, hb2, hb5]) <;> (repeat' with_reducible apply And.intro) <;> first | assumption | rfl | omega | (unfold maxLen; omega)) [(26, .bool v0_3)] [] (by (simp only [go_sem, hb2, hb5]) <;> (repeat' with_reducible apply And.intro) <;> first | assumption | rfl | omega | (unfold maxLen; omega)) ?_
      refine AO.allF tab_ok (by decide) [(8, .bool v0_3)] [] (by (simp only [go_sem, hb2, hb5]) <;> (repeat' with_reducible apply And.intro) <;> first | assumption | rfl | omega | (unfold maxLen; omega)) ?_
      refine athen_n ?_
      refine AW.ret ?_
      refine athen_r ?_
      obtain rfl := Option.some.inj h
      exact ⟨rfl, [], [], [], rfl, (by (simp only [go_sem, hb2, hb5]) <;> (repeat' with_reducible apply And.intro) <;> first | assumption | rfl | omega | (unfold maxLen; omega))⟩
    · rw [if_neg (Bool.eq_false_iff.1 hb5)] at h
      refine AW.skip ?_
      refine athen_n ?_
      refine AW.seq ?_
      refine AW.ops ?_
      refine AO.segF tab_ok 3 (by decide) [(1, .int .i64 a), (2, .int .i64 b), (3, .sl (.int .i64) word), (4, .bp 4 0), (28, .agg [.int .i64 s.1, .int .i64 s.2.1, .sl (.sl (.int .i64)) s.2.2.1, .sl (.sl (.int .i64)) s.2.2.2]), (29, .int .i64 a), (30, .sl (.int .i64) word)] [(4, .box 24 [.int .i64 s.1, .int .i64 s.2.1, .sl (.sl (.int .i64)) s.2.2.1, .sl (.sl (.int .i64)) s.2.2.2])] (by (simp only [go_sem, hb2, hb5]) <;> (repeat' with_reducible apply And.intro) <;> first | assumption | rfl | omega | (unfold maxLen; omega)) ?_
      obtain ⟨v0_4, hv7, h⟩ := Option.bind_eq_some_iff.1 h
      refine AO.call tab_ok (by decide) rfl rfl rfl (fun _ h => h) [] [] (hc_spec_Run s a word hv7) rfl (by (simp only [go_sem, hb2, hb5]) <;> (repeat' with_reducible apply And.intro) <;> first | assumption | rfl | omega | (unfold maxLen; omega)) (by (simp only [go_sem, hb2, hb5]) <;> (repeat' with_reducible apply And.intro) <;> first | assumption | rfl | omega | (unfold maxLen; omega)) [(1, .int .i64 a), (2, .int .i64 b), (3, .sl (.int .i64) word), (4, .bp 4 0), (31, .tup [.own 41000, .int .i64 v0_4.2.1, .int .i64 v0_4.2.2])] [(4, .box 24 [.int .i64 s.1, .int .i64 s.2.1, .sl (.sl (.int .i64)) s.2.2.1, .sl (.sl (.int .i64)) s.2.2.2]), (41000, .arr 3 (.int .i64) v0_4.1)] (by (simp only [go_sem, hb2, hb5]) <;> (repeat' with_reducible apply And.intro) <;> first | assumption | rfl | omega | (unfold maxLen; omega)) ?_
      refine AO.allF tab_ok (by decide) [(1, .int .i64 a), (2, .int .i64 b), (3, .sl (.int .i64) word), (4, .bp 4 0), (9, .own 41000), (10, .int .i64 v0_4.2.1), (11, .int .i64 v0_4.2.2)] [(4, .box 24 [.int .i64 s.1, .int .i64 s.2.1, .sl (.sl (.int .i64)) s.2.2.1, .sl (.sl (.int .i64)) s.2.2.2]), (41000, .arr 3 (.int .i64) v0_4.1)] (by (simp only [go_sem, hb2, hb5]) <;> (repeat' with_reducible apply And.intro) <;> first | assumption | rfl | omega | (unfold maxLen; omega)) ?_
      refine athen_n ?_
      refine AW.seq ?_
      refine AW.ops ?_
      refine AO.segF tab_ok 3 (by decide) [(1, .int .i64 a), (2, .int .i64 b), (3, .sl (.int .i64) word), (4, .bp 4 0), (9, .own 41000), (10, .int .i64 v0_4.2.1), (11, .int .i64 v0_4.2.2), (36, .agg [.int .i64 s.1, .int .i64 s.2.1, .sl (.sl (.int .i64)) s.2.2.1, .sl (.sl (.int .i64)) s.2.2.2]), (37, .int .i64 a), (38, .sl (.int .i64) word)] [(4, .box 24 [.int .i64 s.1, .int .i64 s.2.1, .sl (.sl (.int .i64)) s.2.2.1, .sl (.sl (.int .i64)) s.2.2.2]), (41000, .arr 3 (.int .i64) v0_4.1)] (by (simp only [go_sem, hb2, hb5]) <;> (repeat' with_reducible apply And.intro) <;> first | assumption | rfl | omega | (unfold maxLen; omega)) ?_
      obtain ⟨v0_5, hv8, h⟩ := Option.bind_eq_some_iff.1 h
      refine AO.call tab_ok (by decide) rfl rfl rfl (fun _ h => h) [] [] (hc_linealref01_Run s a word hv8) rfl (by (simp only [go_sem, hb2, hb5]) <;> (repeat' with_reducible apply And.intro) <;> first | assumption | rfl | omega | (unfold maxLen; omega)) (by (simp only [go_sem, hb2, hb5]) <;> (repeat' with_reducible apply And.intro) <;> first | assumption | rfl | omega | (unfold maxLen; omega)) [(1, .int .i64 a), (2, .int .i64 b), (3, .sl (.int .i64) word), (4, .bp 4 0), (9, .own 41000), (10, .int .i64 v0_4.2.1), (11, .int .i64 v0_4.2.2), (39, .tup [.own 49000, .int .i64 v0_5.2.1, .int .i64 v0_5.2.2])] [(4, .box 24 [.int .i64 s.1, .int .i64 s.2.1, .sl (.sl (.int .i64)) s.2.2.1, .sl (.sl (.int .i64)) s.2.2.2]), (41000, .arr 3 (.int .i64) v0_4.1), (49000, .arr 3 (.int .i64) v0_5.1)] (by (simp only [go_sem, hb2, hb5]) <;> (repeat' with_reducible apply And.intro) <;> first | assumption | rfl | omega | (unfold maxLen; omega)) ?_
      refine AO.allF tab_ok (by decide) [(1, .int .i64 a), (2, .int .i64 b), (3, .sl (.int .i64) word), (4, .bp 4 0), (9, .own 41000), (10, .int .i64 v0_4.2.1), (11, .int .i64 v0_4.2.2), (12, .own 49000), (13, .int .i64 v0_5.2.1), (14, .int .i64 v0_5.2.2)] [(4, .box 24 [.int .i64 s.1, .int .i64 s.2.1, .sl (.sl (.int .i64)) s.2.2.1, .sl (.sl (.int .i64)) s.2.2.2]), (41000, .arr 3 (.int .i64) v0_4.1), (49000, .arr 3 (.int .i64) v0_5.1)] (by (simp only [go_sem, hb2, hb5]) <;> (repeat' with_reducible apply And.intro) <;> first | assumption | rfl | omega | (unfold maxLen; omega)) ?_
      refine athen_n ?_
      refine AW.seq ?_
      refine AW.ops ?_
      refine AO.segF tab_ok 4 (by decide) [(1, .int .i64 a), (2, .int .i64 b), (3, .sl (.int .i64) word), (4, .bp 4 0), (9, .own 41000), (10, .int .i64 v0_4.2.1), (11, .int .i64 v0_4.2.2), (12, .own 49000), (13, .int .i64 v0_5.2.1), (14, .int .i64 v0_5.2.2), (44, .agg [.int .i64 s.1, .int .i64 s.2.1, .sl (.sl (.int .i64)) s.2.2.1, .sl (.sl (.int .i64)) s.2.2.2]), (45, .int .i64 a), (46, .int .i64 b), (47, .sl (.int .i64) word)] [(4, .box 24 [.int .i64 s.1, .int .i64 s.2.1, .sl (.sl (.int .i64)) s.2.2.1, .sl (.sl (.int .i64)) s.2.2.2]), (41000, .arr 3 (.int .i64) v0_4.1), (49000, .arr 3 (.int .i64) v0_5.1)] (by (simp only [go_sem, hb2, hb5]) <;> (repeat' with_reducible apply And.intro) <;> first | assumption | rfl | omega | (unfold maxLen; omega)) ?_
      obtain ⟨v0_6, hv9, h⟩ := Option.bind_eq_some_iff.1 h
      refine AO.call tab_ok (by decide) rfl rfl rfl (fun _ h => h) [] [] (hc_spec_Tells s a b word hv9) rfl (by (simp only [go_sem, hb2, hb5]) <;> (repeat' with_reducible apply And.intro) <;> first | assumption | rfl | omega | (unfold maxLen; omega)) (by (simp only [go_sem, hb2, hb5]) <;> (repeat' with_reducible apply And.intro) <;> first | assumption | rfl | omega | (unfold maxLen; omega)) [(1, .int .i64 a), (2, .int .i64 b), (3, .sl (.int .i64) word), (4, .bp 4 0), (9, .own 41000), (10, .int .i64 v0_4.2.1), (11, .int .i64 v0_4.2.2), (12, .own 49000), (13, .int .i64 v0_5.2.1), (14, .int .i64 v0_5.2.2), (48, .tup [.bool v0_6.1, .int .i64 v0_6.2])] [(4, .box 24 [.int .i64 s.1, .int .i64 s.2.1, .sl (.sl (.int .i64)) s.2.2.1, .sl (.sl (.int .i64)) s.2.2.2]), (41000, .arr 3 (.int .i64) v0_4.1), (49000, .arr 3 (.int .i64) v0_5.1)] (by (simp only [go_sem, hb2, hb5]) <;> (repeat' with_reducible apply And.intro) <;> first | assumption | rfl | omega | (unfold maxLen; omega)) ?_
      refine AO.allF tab_ok (by decide) [(1, .int .i64 a), (2, .int .i64 b), (3, .sl (.int .i64) word), (4, .bp 4 0), (9, .own 41000), (10, .int .i64 v0_4.2.1), (11, .int .i64 v0_4.2.2), (12, .own 49000), (13, .int .i64 v0_5.2.1), (14, .int .i64 v0_5.2.2), (15, .bool v0_6.1), (16, .int .i64 v0_6.2)] [(4, .box 24 [.int .i64 s.1, .int .i64 s.2.1, .sl (.sl (.int .i64)) s.2.2.1, .sl (.sl (.int .i64)) s.2.2.2]), (41000, .arr 3 (.int .i64) v0_4.1), (49000, .arr 3 (.int .i64) v0_5.1)] (by (simp only [go_sem, hb2, hb5]) <;> (repeat' with_reducible apply And.intro) <;> first | assumption | rfl | omega | (unfold maxLen; omega)) ?_
      refine athen_n ?_
      refine AW.seq ?_
      refine AW.ops ?_
      refine AO.segF tab_ok 4 (by decide) [(4, .bp 4 0), (9, .own 41000), (10, .int .i64 v0_4.2.1), (11, .int .i64 v0_4.2.2), (12, .own 49000), (13, .int .i64 v0_5.2.1), (14, .int .i64 v0_5.2.2), (15, .bool v0_6.1), (16, .int .i64 v0_6.2), (52, .agg [.int .i64 s.1, .int .i64 s.2.1, .sl (.sl (.int .i64)) s.2.2.1, .sl (.sl (.int .i64)) s.2.2.2]), (53, .int .i64 a), (54, .int .i64 b), (55, .sl (.int .i64) word)] [(4, .box 24 [.int .i64 s.1, .int .i64 s.2.1, .sl (.sl (.int .i64)) s.2.2.1, .sl (.sl (.int .i64)) s.2.2.2]), (41000, .arr 3 (.int .i64) v0_4.1), (49000, .arr 3 (.int .i64) v0_5.1)] (by (simp only [go_sem, hb2, hb5]) <;> (repeat' with_reducible apply And.intro) <;> first | assumption | rfl | omega | (unfold maxLen; omega)) ?_
      obtain ⟨v0_7, hv10, h⟩ := Option.bind_eq_some_iff.1 h
      refine AO.call tab_ok (by decide) rfl rfl rfl (fun _ h => h) [] [] (hc_linealref01_Tells s a b word hv10) rfl (by (simp only [go_sem, hb2, hb5]) <;> (repeat' with_reducible apply And.intro) <;> first | assumption | rfl | omega | (unfold maxLen; omega)) (by (simp only [go_sem, hb2, hb5]) <;> (repeat' with_reducible apply And.intro) <;> first | assumption | rfl | omega | (unfold maxLen; omega)) [(4, .bp 4 0), (9, .own 41000), (10, .int .i64 v0_4.2.1), (11, .int .i64 v0_4.2.2), (12, .own 49000), (13, .int .i64 v0_5.2.1), (14, .int .i64 v0_5.2.2), (15, .bool v0_6.1), (16, .int .i64 v0_6.2), (56, .tup [.bool v0_7.1, .int .i64 v0_7.2])] [(4, .box 24 [.int .i64 s.1, .int .i64 s.2.1, .sl (.sl (.int .i64)) s.2.2.1, .sl (.sl (.int .i64)) s.2.2.2]), (41000, .arr 3 (.int .i64) v0_4.1), (49000, .arr 3 (.int .i64) v0_5.1)] (by (simp only [go_sem, hb2, hb5]) <;> (repeat' with_reducible apply And.intro) <;> first | assumption | rfl | omega | (unfold maxLen; omega)) ?_
      refine AO.allF tab_ok (by decide) [(4, .bp 4 0), (9, .own 41000), (10, .int .i64 v0_4.2.1), (11, .int .i64 v0_4.2.2), (12, .own 49000), (13, .int .i64 v0_5.2.1), (14, .int .i64 v0_5.2.2), (15, .bool v0_6.1), (16, .int .i64 v0_6.2), (17, .bool v0_7.1), (18, .int .i64 v0_7.2)] [(4, .box 24 [.int .i64 s.1, .int .i64 s.2.1, .sl (.sl (.int .i64)) s.2.2.1, .sl (.sl (.int .i64)) s.2.2.2]), (41000, .arr 3 (.int .i64) v0_4.1), (49000, .arr 3 (.int .i64) v0_5.1)] (by (simp only [go_sem, hb2, hb5]) <;> (repeat' with_reducible apply And.intro) <;> first | assumption | rfl | omega | (unfold maxLen; omega)) ?_
      refine athen_n ?_
      refine AW.seq ?_
      refine AW.draw tab_ok mixed_ok [] [] (by decide) (lex_fast (by kernel_rfl)) ?_
      refine adops_cut 1 (fun K' hK11 => ?_)
      try dsimp only [List.drop_succ_cons, List.drop_zero, List.take_succ_cons, List.take_zero]
      simp only [go_sem, hb2, hb5]
      repeat (with_reducible refine And.intro (by first | assumption | rfl | omega | trivial | (unfold maxLen; omega)) ?_)
      refine hK11 _ ?_
      obtain ⟨v0_8, hv12, h⟩ := Option.bind_eq_some_iff.1 h
      refine adops.call (by first | trivial | rfl) rfl rfl rfl (fun _ h => h) [] [] (hc_spec_Valid s hv12) rfl (by (simp only [go_sem, hb2, hb5]) <;> (repeat' with_reducible apply And.intro) <;> first | assumption | rfl | omega | (unfold maxLen; omega)) (by (simp only [go_sem, hb2, hb5]) <;> (repeat' with_reducible apply And.intro) <;> first | assumption | rfl | omega | (unfold maxLen; omega)) rfl ?_
      refine adops_cut 1 (fun K' hK13 => ?_)
      try dsimp only [List.drop_succ_cons, List.drop_zero, List.take_succ_cons, List.take_zero]
      simp only [go_sem, hb2, hb5]
      repeat (with_reducible refine And.intro (by first | assumption | rfl | omega | trivial | (unfold maxLen; omega)) ?_)
      refine hK13 _ ?_
      obtain ⟨v0_9, hv14, h⟩ := Option.bind_eq_some_iff.1 h
      refine adops.call (by first | trivial | rfl) rfl rfl rfl (fun _ h => h) [] [] (hc_linealref01_Valid s hv14) rfl (by (simp only [go_sem, hb2, hb5]) <;> (repeat' with_reducible apply And.intro) <;> first | assumption | rfl | omega | (unfold maxLen; omega)) (by (simp only [go_sem, hb2, hb5]) <;> (repeat' with_reducible apply And.intro) <;> first | assumption | rfl | omega | (unfold maxLen; omega)) rfl ?_
      refine adops_cut 2 (fun K' hK15 => ?_)
      try dsimp only [List.drop_succ_cons, List.drop_zero, List.take_succ_cons, List.take_zero]
      simp only [go_sem, hb2, hb5]
      repeat (with_reducible refine And.intro (by first | assumption | rfl | omega | trivial | (unfold maxLen; omega)) ?_)
      refine hK15 _ ?_
      rcases Bool.eq_false_or_eq_true ((v0_8 == v0_9) != false) with hb16 | hb16
      · rw [if_pos hb16] at h
        simp only [hb16]
        refine adops_cut 2 (fun K' hK17 => ?_)
        try dsimp only [List.drop_succ_cons, List.drop_zero, List.take_succ_cons, List.take_zero]
        simp only [go_sem, hb2, hb5, hb16]
        repeat (with_reducible refine And.intro (by first | assumption | rfl | omega | trivial | (unfold maxLen; omega)) ?_)
        refine hK17 _ ?_
        obtain ⟨v0_10, hv18, h⟩ := Option.bind_eq_some_iff.1 h
        refine adops.call (by first | trivial | rfl) rfl rfl rfl (fun _ h => ⟨fun _ => h, fun hn => absurd rfl hn⟩) [41000, 49000] [] (hc_linealref01_SameInts v0_4.1 v0_5.1 hv18) rfl (by (simp only [go_sem, hb2, hb5, hb16]) <;> (repeat' with_reducible apply And.intro) <;> first | assumption | rfl | omega | (unfold maxLen; omega)) (by (simp only [go_sem, hb2, hb5, hb16]) <;> (repeat' with_reducible apply And.intro) <;> first | assumption | rfl | omega | (unfold maxLen; omega)) rfl ?_
        refine adops_cut 2 (fun K' hK19 => ?_)
        try dsimp only [List.drop_succ_cons, List.drop_zero, List.take_succ_cons, List.take_zero]
        simp only [go_sem, hb2, hb5, hb16]
        repeat (with_reducible refine And.intro (by first | assumption | rfl | omega | trivial | (unfold maxLen; omega)) ?_)
        refine hK19 _ ?_
        rcases Bool.eq_false_or_eq_true v0_10 with hb20 | hb20
        · rw [if_pos hb20] at h
          simp only [hb20]
          refine adops_cut 5 (fun K' hK21 => ?_)
          try dsimp only [List.drop_succ_cons, List.drop_zero, List.take_succ_cons, List.take_zero]
          simp only [go_sem, hb2, hb5, hb16, hb20]
          repeat (with_reducible refine And.intro (by first | assumption | rfl | omega | trivial | (unfold maxLen; omega)) ?_)
          refine hK21 _ ?_
          rcases Bool.eq_false_or_eq_true (decide (v0_4.2.1 = v0_5.2.1)) with hb22 | hb22
          · rw [if_pos hb22] at h
            simp only [hb22]
            refine adops_cut 5 (fun K' hK23 => ?_)
            try dsimp only [List.drop_succ_cons, List.drop_zero, List.take_succ_cons, List.take_zero]
            simp only [go_sem, hb2, hb5, hb16, hb20, hb22]
            repeat (with_reducible refine And.intro (by first | assumption | rfl | omega | trivial | (unfold maxLen; omega)) ?_)
            refine hK23 _ ?_
            rcases Bool.eq_false_or_eq_true (decide (v0_4.2.2 = v0_5.2.2)) with hb24 | hb24
            · rw [if_pos hb24] at h
              simp only [hb24]
              refine adops_cut 5 (fun K' hK25 => ?_)
              try dsimp only [List.drop_succ_cons, List.drop_zero, List.take_succ_cons, List.take_zero]
              simp only [go_sem, hb2, hb5, hb16, hb20, hb22, hb24]
              repeat (with_reducible refine And.intro (by first | assumption | rfl | omega | trivial | (unfold maxLen; omega)) ?_)
              refine hK25 _ ?_
              rcases Bool.eq_false_or_eq_true ((v0_6.1 == v0_7.1) != false) with hb26 | hb26
              · rw [if_pos hb26] at h
                simp only [hb26]
                refine adops_cut 5 (fun K' hK27 => ?_)
                try dsimp only [List.drop_succ_cons, List.drop_zero, List.take_succ_cons, List.take_zero]
                simp only [go_sem, hb2, hb5, hb16, hb20, hb22, hb24, hb26]
                repeat (with_reducible refine And.intro (by first | assumption | rfl | omega | trivial | (unfold maxLen; omega)) ?_)
                refine hK27 _ ?_
                rcases Bool.eq_false_or_eq_true (decide (v0_6.2 = v0_7.2)) with hb28 | hb28
                · rw [if_pos hb28] at h
                  simp only [hb28]
                  obtain ⟨v0_11, hv29, h⟩ := Option.bind_eq_some_iff.1 h
                  refine adops.call (by first | trivial | rfl) rfl rfl rfl (fun _ h => ⟨fun _ => h, fun hn => absurd rfl hn⟩) [] [] (hc_lineallaw01_Awake hv29) rfl (by (simp only [go_sem, hb2, hb5, hb16, hb20, hb22, hb24, hb26, hb28]) <;> (repeat' with_reducible apply And.intro) <;> first | assumption | rfl | omega | (unfold maxLen; omega)) (by (simp only [go_sem, hb2, hb5, hb16, hb20, hb22, hb24, hb26, hb28]) <;> (repeat' with_reducible apply And.intro) <;> first | assumption | rfl | omega | (unfold maxLen; omega)) rfl ?_
                  refine adops_cut 2 (fun K' hK30 => ?_)
                  try dsimp only [List.drop_succ_cons, List.drop_zero, List.take_succ_cons, List.take_zero]
                  simp only [go_sem, hb2, hb5, hb16, hb20, hb22, hb24, hb26, hb28]
                  repeat (with_reducible refine And.intro (by first | assumption | rfl | omega | trivial | (unfold maxLen; omega)) ?_)
                  refine hK30 _ ?_
                  refine adops_nil ?_
                  refine athen_n ?_
                  refine AW.weaken (s' := ⟨fr [(8, .bool v0_11)], hpGet [], gt⟩) (Wk.to (by (simp only [go_sem, hb2, hb5, hb16, hb20, hb22, hb24, hb26, hb28]) <;> (repeat' with_reducible apply And.intro) <;> first | assumption | rfl | omega | (unfold maxLen; omega))) ?_
                  refine AW.ret ?_
                  obtain rfl := Option.some.inj h
                  exact ⟨rfl, [], [], [], rfl, (by (simp only [go_sem, hb2, hb5, hb16, hb20, hb22, hb24, hb26, hb28]) <;> (repeat' with_reducible apply And.intro) <;> first | assumption | rfl | omega | (unfold maxLen; omega))⟩
                · rw [if_neg (Bool.eq_false_iff.1 hb28)] at h
                  simp only [hb28]
                  refine adops_cut 3 (fun K' hK31 => ?_)
                  try dsimp only [List.drop_succ_cons, List.drop_zero, List.take_succ_cons, List.take_zero]
                  simp only [go_sem, hb2, hb5, hb16, hb20, hb22, hb24, hb26, hb28]
                  repeat (with_reducible refine And.intro (by first | assumption | rfl | omega | trivial | (unfold maxLen; omega)) ?_)
                  refine hK31 _ ?_
                  refine adops_nil ?_
                  refine athen_n ?_
                  refine AW.weaken (s' := ⟨fr [(8, .bool false)], hpGet [], gt⟩) (Wk.to (by (simp only [go_sem, hb2, hb5, hb16, hb20, hb22, hb24, hb26, hb28]) <;> (repeat' with_reducible apply And.intro) <;> first | assumption | rfl | omega | (unfold maxLen; omega))) ?_
                  refine AW.ret ?_
                  obtain rfl := Option.some.inj h
                  exact ⟨rfl, [], [], [], rfl, (by (simp only [go_sem, hb2, hb5, hb16, hb20, hb22, hb24, hb26, hb28]) <;> (repeat' with_reducible apply And.intro) <;> first | assumption | rfl | omega | (unfold maxLen; omega))⟩
              · rw [if_neg (Bool.eq_false_iff.1 hb26)] at h
                simp only [hb26]
                refine adops_cut 6 (fun K' hK32 => ?_)
                try dsimp only [List.drop_succ_cons, List.drop_zero, List.take_succ_cons, List.take_zero]
                simp only [go_sem, hb2, hb5, hb16, hb20, hb22, hb24, hb26]
                repeat (with_reducible refine And.intro (by first | assumption | rfl | omega | trivial | (unfold maxLen; omega)) ?_)
                refine hK32 _ ?_
                refine adops_cut 2 (fun K' hK33 => ?_)
                try dsimp only [List.drop_succ_cons, List.drop_zero, List.take_succ_cons, List.take_zero]
                simp only [go_sem, hb2, hb5, hb16, hb20, hb22, hb24, hb26]
                repeat (with_reducible refine And.intro (by first | assumption | rfl | omega | trivial | (unfold maxLen; omega)) ?_)
                refine hK33 _ ?_
                refine adops_nil ?_
                refine athen_n ?_
                refine AW.weaken (s' := ⟨fr [(8, .bool false)], hpGet [], gt⟩) (Wk.to (by (simp only [go_sem, hb2, hb5, hb16, hb20, hb22, hb24, hb26]) <;> (repeat' with_reducible apply And.intro) <;> first | assumption | rfl | omega | (unfold maxLen; omega))) ?_
                refine AW.ret ?_
                obtain rfl := Option.some.inj h
                exact ⟨rfl, [], [], [], rfl, (by (simp only [go_sem, hb2, hb5, hb16, hb20, hb22, hb24, hb26]) <;> (repeat' with_reducible apply And.intro) <;> first | assumption | rfl | omega | (unfold maxLen; omega))⟩
            · rw [if_neg (Bool.eq_false_iff.1 hb24)] at h
              simp only [hb24]
              refine adops_cut 6 (fun K' hK34 => ?_)
              try dsimp only [List.drop_succ_cons, List.drop_zero, List.take_succ_cons, List.take_zero]
              simp only [go_sem, hb2, hb5, hb16, hb20, hb22, hb24]
              repeat (with_reducible refine And.intro (by first | assumption | rfl | omega | trivial | (unfold maxLen; omega)) ?_)
              refine hK34 _ ?_
              refine adops_cut 6 (fun K' hK35 => ?_)
              try dsimp only [List.drop_succ_cons, List.drop_zero, List.take_succ_cons, List.take_zero]
              simp only [go_sem, hb2, hb5, hb16, hb20, hb22, hb24]
              repeat (with_reducible refine And.intro (by first | assumption | rfl | omega | trivial | (unfold maxLen; omega)) ?_)
              refine hK35 _ ?_
              refine adops_cut 1 (fun K' hK36 => ?_)
              try dsimp only [List.drop_succ_cons, List.drop_zero, List.take_succ_cons, List.take_zero]
              simp only [go_sem, hb2, hb5, hb16, hb20, hb22, hb24]
              repeat (with_reducible refine And.intro (by first | assumption | rfl | omega | trivial | (unfold maxLen; omega)) ?_)
              refine hK36 _ ?_
              refine adops_nil ?_
              refine athen_n ?_
              refine AW.weaken (s' := ⟨fr [(8, .bool false)], hpGet [], gt⟩) (Wk.to (by (simp only [go_sem, hb2, hb5, hb16, hb20, hb22, hb24]) <;> (repeat' with_reducible apply And.intro) <;> first | assumption | rfl | omega | (unfold maxLen; omega))) ?_
              refine AW.ret ?_
              obtain rfl := Option.some.inj h
              exact ⟨rfl, [], [], [], rfl, (by (simp only [go_sem, hb2, hb5, hb16, hb20, hb22, hb24]) <;> (repeat' with_reducible apply And.intro) <;> first | assumption | rfl | omega | (unfold maxLen; omega))⟩
          · rw [if_neg (Bool.eq_false_iff.1 hb22)] at h
            simp only [hb22]
            refine adops_cut 6 (fun K' hK37 => ?_)
            try dsimp only [List.drop_succ_cons, List.drop_zero, List.take_succ_cons, List.take_zero]
            simp only [go_sem, hb2, hb5, hb16, hb20, hb22]
            repeat (with_reducible refine And.intro (by first | assumption | rfl | omega | trivial | (unfold maxLen; omega)) ?_)
            refine hK37 _ ?_
            refine adops_cut 6 (fun K' hK38 => ?_)
            try dsimp only [List.drop_succ_cons, List.drop_zero, List.take_succ_cons, List.take_zero]
            simp only [go_sem, hb2, hb5, hb16, hb20, hb22]
            repeat (with_reducible refine And.intro (by first | assumption | rfl | omega | trivial | (unfold maxLen; omega)) ?_)
            refine hK38 _ ?_
            refine adops_cut 6 (fun K' hK39 => ?_)
            try dsimp only [List.drop_succ_cons, List.drop_zero, List.take_succ_cons, List.take_zero]
            simp only [go_sem, hb2, hb5, hb16, hb20, hb22]
            repeat (with_reducible refine And.intro (by first | assumption | rfl | omega | trivial | (unfold maxLen; omega)) ?_)
            refine hK39 _ ?_
            refine adops_nil ?_
            refine athen_n ?_
            refine AW.weaken (s' := ⟨fr [(8, .bool false)], hpGet [], gt⟩) (Wk.to (by (simp only [go_sem, hb2, hb5, hb16, hb20, hb22]) <;> (repeat' with_reducible apply And.intro) <;> first | assumption | rfl | omega | (unfold maxLen; omega))) ?_
            refine AW.ret ?_
            obtain rfl := Option.some.inj h
            exact ⟨rfl, [], [], [], rfl, (by (simp only [go_sem, hb2, hb5, hb16, hb20, hb22]) <;> (repeat' with_reducible apply And.intro) <;> first | assumption | rfl | omega | (unfold maxLen; omega))⟩
        · rw [if_neg (Bool.eq_false_iff.1 hb20)] at h
          simp only [hb20]
          refine adops_cut 6 (fun K' hK40 => ?_)
          try dsimp only [List.drop_succ_cons, List.drop_zero, List.take_succ_cons, List.take_zero]
          simp only [go_sem, hb2, hb5, hb16, hb20]
          repeat (with_reducible refine And.intro (by first | assumption | rfl | omega | trivial | (unfold maxLen; omega)) ?_)
          refine hK40 _ ?_
          refine adops_cut 6 (fun K' hK41 => ?_)
          try dsimp only [List.drop_succ_cons, List.drop_zero, List.take_succ_cons, List.take_zero]
          simp only [go_sem, hb2, hb5, hb16, hb20]
          repeat (with_reducible refine And.intro (by first | assumption | rfl | omega | trivial | (unfold maxLen; omega)) ?_)
          refine hK41 _ ?_
          refine adops_cut 6 (fun K' hK42 => ?_)
          try dsimp only [List.drop_succ_cons, List.drop_zero, List.take_succ_cons, List.take_zero]
          simp only [go_sem, hb2, hb5, hb16, hb20]
          repeat (with_reducible refine And.intro (by first | assumption | rfl | omega | trivial | (unfold maxLen; omega)) ?_)
          refine hK42 _ ?_
          refine adops_cut 5 (fun K' hK43 => ?_)
          try dsimp only [List.drop_succ_cons, List.drop_zero, List.take_succ_cons, List.take_zero]
          simp only [go_sem, hb2, hb5, hb16, hb20]
          repeat (with_reducible refine And.intro (by first | assumption | rfl | omega | trivial | (unfold maxLen; omega)) ?_)
          refine hK43 _ ?_
          refine adops_nil ?_
          refine athen_n ?_
          refine AW.weaken (s' := ⟨fr [(8, .bool false)], hpGet [], gt⟩) (Wk.to (by (simp only [go_sem, hb2, hb5, hb16, hb20]) <;> (repeat' with_reducible apply And.intro) <;> first | assumption | rfl | omega | (unfold maxLen; omega))) ?_
          refine AW.ret ?_
          obtain rfl := Option.some.inj h
          exact ⟨rfl, [], [], [], rfl, (by (simp only [go_sem, hb2, hb5, hb16, hb20]) <;> (repeat' with_reducible apply And.intro) <;> first | assumption | rfl | omega | (unfold maxLen; omega))⟩
      · rw [if_neg (Bool.eq_false_iff.1 hb16)] at h
        simp only [hb16]
        refine adops_cut 6 (fun K' hK44 => ?_)
        try dsimp only [List.drop_succ_cons, List.drop_zero, List.take_succ_cons, List.take_zero]
        simp only [go_sem, hb2, hb5, hb16]
        repeat (with_reducible refine And.intro (by first | assumption | rfl | omega | trivial | (unfold maxLen; omega)) ?_)
        refine hK44 _ ?_
        refine adops_cut 6 (fun K' hK45 => ?_)
        try dsimp only [List.drop_succ_cons, List.drop_zero, List.take_succ_cons, List.take_zero]
        simp only [go_sem, hb2, hb5, hb16]
        repeat (with_reducible refine And.intro (by first | assumption | rfl | omega | trivial | (unfold maxLen; omega)) ?_)
        refine hK45 _ ?_
        refine adops_cut 6 (fun K' hK46 => ?_)
        try dsimp only [List.drop_succ_cons, List.drop_zero, List.take_succ_cons, List.take_zero]
        simp only [go_sem, hb2, hb5, hb16]
        repeat (with_reducible refine And.intro (by first | assumption | rfl | omega | trivial | (unfold maxLen; omega)) ?_)
        refine hK46 _ ?_
        refine adops_cut 6 (fun K' hK47 => ?_)
        try dsimp only [List.drop_succ_cons, List.drop_zero, List.take_succ_cons, List.take_zero]
        simp only [go_sem, hb2, hb5, hb16]
        repeat (with_reducible refine And.intro (by first | assumption | rfl | omega | trivial | (unfold maxLen; omega)) ?_)
        refine hK47 _ ?_
        refine adops_cut 4 (fun K' hK48 => ?_)
        try dsimp only [List.drop_succ_cons, List.drop_zero, List.take_succ_cons, List.take_zero]
        simp only [go_sem, hb2, hb5, hb16]
        repeat (with_reducible refine And.intro (by first | assumption | rfl | omega | trivial | (unfold maxLen; omega)) ?_)
        refine hK48 _ ?_
        refine adops_nil ?_
        refine athen_n ?_
        refine AW.weaken (s' := ⟨fr [(8, .bool false)], hpGet [], gt⟩) (Wk.to (by (simp only [go_sem, hb2, hb5, hb16]) <;> (repeat' with_reducible apply And.intro) <;> first | assumption | rfl | omega | (unfold maxLen; omega))) ?_
        refine AW.ret ?_
        obtain rfl := Option.some.inj h
        exact ⟨rfl, [], [], [], rfl, (by (simp only [go_sem, hb2, hb5, hb16]) <;> (repeat' with_reducible apply And.intro) <;> first | assumption | rfl | omega | (unfold maxLen; omega))⟩

set_option maxRecDepth 100000 in
set_option maxHeartbeats 2000000 in
theorem hc_spec_machine_same (m : Int × Int × (List (List Int)) × (List (List Int))) (a : Int) (b : Int) {r : Bool} (h : spec_machine_same m a b = some r) : HC Try.prog 66 [] [.agg [.int .i64 m.1, .int .i64 m.2.1, .sl (.sl (.int .i64)) m.2.2.1, .sl (.sl (.int .i64)) m.2.2.2], .int .i64 a, .int .i64 b] [] (.bool r) := by
  unfold spec_machine_same at h
  refine HC.of_body tab_ok (res := [.tmp 6]) Try.func66 rfl (by kernel_rfl) rfl (nt := 23) rfl (by decide) (by simp) ?_
  refine AW.seq ?_
  refine AW.ops ?_
  refine AO.allF tab_ok (by decide) [(1, .int .i64 a), (2, .int .i64 b), (3, .bp 3 0)] [(3, .box 60 [.int .i64 m.1, .int .i64 m.2.1, .sl (.sl (.int .i64)) m.2.2.1, .sl (.sl (.int .i64)) m.2.2.2])] (by (simp only [go_sem]) <;> (repeat' with_reducible apply And.intro) <;> first | assumption | rfl | omega | (unfold maxLen; omega)) ?_
  refine athen_n ?_
  refine AW.seq ?_
  refine AW.seq ?_
  refine AW.ops ?_
  refine AO.allF tab_ok (by decide) [(1, .int .i64 a), (2, .int .i64 b), (3, .bp 3 0), (11, .bool (decide (a = b)))] [(3, .box 60 [.int .i64 m.1, .int .i64 m.2.1, .sl (.sl (.int .i64)) m.2.2.1, .sl (.sl (.int .i64)) m.2.2.2])] (by (simp only [go_sem]) <;> (repeat' with_reducible apply And.intro) <;> first | assumption | rfl | omega | (unfold maxLen; omega)) ?_
  refine athen_n ?_
  refine AW.cond (b := (decide (a = b))) rfl (fun hb1 => ?_) (fun hb1 => ?_)
  · rw [if_pos hb1] at h
    refine AW.seq ?_
    refine AW.ops ?_
    refine AO.allF tab_ok (by decide) [(6, .bool true)] [] (by (simp only [go_sem, hb1]) <;> (repeat' with_reducible apply And.intro) <;> first | assumption | rfl | omega | (unfold maxLen; omega)) ?_
    refine athen_n ?_
    refine AW.ret ?_
    refine athen_r ?_
    obtain rfl := Option.some.inj h
    exact ⟨rfl, [], [], [], rfl, (by (simp only [go_sem, hb1]) <;> (repeat' with_reducible apply And.intro) <;> first | assumption | rfl | omega | (unfold maxLen; omega))⟩
  · rw [if_neg (Bool.eq_false_iff.1 hb1)] at h
    refine AW.skip ?_
    refine athen_n ?_
    refine AW.seq ?_
    refine AW.ops ?_
    refine AO.segF tab_ok 5 (by decide) [(13, .agg [.int .i64 m.1, .int .i64 m.2.1, .sl (.sl (.int .i64)) m.2.2.1, .sl (.sl (.int .i64)) m.2.2.2]), (14, .agg [.int .i64 m.1, .int .i64 m.2.1, .sl (.sl (.int .i64)) m.2.2.1, .sl (.sl (.int .i64)) m.2.2.2]), (17, .agg [.int .i64 a, .int .i64 b])] [] (by (simp only [go_sem, hb1]) <;> (repeat' with_reducible apply And.intro) <;> first | assumption | rfl | omega | (unfold maxLen; omega)) ?_
    obtain ⟨v0, hv2, h⟩ := Option.bind_eq_some_iff.1 h
    refine AO.call tab_ok (by decide) rfl rfl rfl (fun _ h => h) [] [] (hc_spec_apart m m (a, b) hv2) rfl (by (simp only [go_sem, hb1]) <;> (repeat' with_reducible apply And.intro) <;> first | assumption | rfl | omega | (unfold maxLen; omega)) (by (simp only [go_sem, hb1]) <;> (repeat' with_reducible apply And.intro) <;> first | assumption | rfl | omega | (unfold maxLen; omega)) [(18, .tup [.own 28000, .bool v0.2])] [(28000, .arr 3 (.int .i64) v0.1)] (by (simp only [go_sem, hb1]) <;> (repeat' with_reducible apply And.intro) <;> first | assumption | rfl | omega | (unfold maxLen; omega)) ?_
    refine AO.allF tab_ok (by decide) [(8, .bool v0.2)] [] (by (simp only [go_sem, hb1]) <;> (repeat' with_reducible apply And.intro) <;> first | assumption | rfl | omega | (unfold maxLen; omega)) ?_
    refine athen_n ?_
    refine AW.seq ?_
    refine AW.ops ?_
    refine AO.allF tab_ok (by decide) [(6, .bool (!v0.2))] [] (by (simp only [go_sem, hb1]) <;> (repeat' with_reducible apply And.intro) <;> first | assumption | rfl | omega | (unfold maxLen; omega)) ?_
    refine athen_n ?_
    refine AW.ret ?_
    obtain rfl := Option.some.inj h
    exact ⟨rfl, [], [], [], rfl, (by (simp only [go_sem, hb1]) <;> (repeat' with_reducible apply And.intro) <;> first | assumption | rfl | omega | (unfold maxLen; omega))⟩

set_option maxRecDepth 100000 in
set_option maxHeartbeats 2000000 in
theorem hc_spec_Same (s : Int × Int × (List (List Int)) × (List (List Int))) (a : Int) (b : Int) {r : Bool × Int} (h : spec_Same s a b = some r) : HC Try.prog 24 [] [.agg [.int .i64 s.1, .int .i64 s.2.1, .sl (.sl (.int .i64)) s.2.2.1, .sl (.sl (.int .i64)) s.2.2.2], .int .i64 a, .int .i64 b] [] (.tup [.bool r.1, .int .i64 r.2]) := by
  unfold spec_Same at h
  refine HC.of_body tab_ok (res := [.tmp 6, .tmp 7]) Try.func24 rfl (by kernel_rfl) rfl (nt := 25) rfl (by decide) (by simp) ?_
  refine AW.seq ?_
  refine AW.ops ?_
  refine AO.allF tab_ok (by decide) [(1, .int .i64 a), (2, .int .i64 b), (3, .bp 3 0)] [(3, .box 24 [.int .i64 s.1, .int .i64 s.2.1, .sl (.sl (.int .i64)) s.2.2.1, .sl (.sl (.int .i64)) s.2.2.2])] (by (simp only [go_sem]) <;> (repeat' with_reducible apply And.intro) <;> first | assumption | rfl | omega | (unfold maxLen; omega)) ?_
  refine athen_n ?_
  refine AW.seq ?_
  refine AW.ops ?_
  refine AO.segF tab_ok 4 (by decide) [(1, .int .i64 a), (2, .int .i64 b), (11, .agg [.int .i64 s.1, .int .i64 s.2.1, .sl (.sl (.int .i64)) s.2.2.1, .sl (.sl (.int .i64)) s.2.2.2]), (14, .own 14)] [(14, .arr 3 (.int .i64) [a, b])] (by (simp only [go_sem]) <;> (repeat' with_reducible apply And.intro) <;> first | assumption | rfl | omega | (unfold maxLen; omega)) ?_
  obtain ⟨v0, hv1, h⟩ := Option.bind_eq_some_iff.1 h
  refine AO.call tab_ok (by decide) rfl rfl rfl (fun _ h => h) [14] [] (hc_spec_checked s [a, b] hv1) rfl (by (simp only [go_sem]) <;> (repeat' with_reducible apply And.intro) <;> first | assumption | rfl | omega | (unfold maxLen; omega)) (by (simp only [go_sem]) <;> (repeat' with_reducible apply And.intro) <;> first | assumption | rfl | omega | (unfold maxLen; omega)) [(1, .int .i64 a), (2, .int .i64 b), (15, .tup [.agg [.int .i64 v0.1, .int .i64 v0.2.1, .sl (.sl (.int .i64)) v0.2.2.1, .sl (.sl (.int .i64)) v0.2.2.2.1], .int .i64 v0.2.2.2.2])] [] (by (simp only [go_sem]) <;> (repeat' with_reducible apply And.intro) <;> first | assumption | rfl | omega | (unfold maxLen; omega)) ?_
  refine AO.allF tab_ok (by decide) [(1, .int .i64 a), (2, .int .i64 b), (8, .bp 8 0), (9, .int .i64 v0.2.2.2.2)] [(8, .box 60 [.int .i64 v0.1, .int .i64 v0.2.1, .sl (.sl (.int .i64)) v0.2.2.1, .sl (.sl (.int .i64)) v0.2.2.2.1])] (by (simp only [go_sem]) <;> (repeat' with_reducible apply And.intro) <;> first | assumption | rfl | omega | (unfold maxLen; omega)) ?_
  refine athen_n ?_
  refine AW.seq ?_
  refine AW.seq ?_
  refine AW.ops ?_
  refine AO.allF tab_ok (by decide) [(1, .int .i64 a), (2, .int .i64 b), (8, .bp 8 0), (9, .int .i64 v0.2.2.2.2), (19, .bool (!(decide (v0.2.2.2.2 = 0))))] [(8, .box 60 [.int .i64 v0.1, .int .i64 v0.2.1, .sl (.sl (.int .i64)) v0.2.2.1, .sl (.sl (.int .i64)) v0.2.2.2.1])] (by (simp only [go_sem]) <;> (repeat' with_reducible apply And.intro) <;> first | assumption | rfl | omega | (unfold maxLen; omega)) ?_
  refine athen_n ?_
  refine AW.cond (b := (!(decide (v0.2.2.2.2 = 0)))) rfl (fun hb2 => ?_) (fun hb2 => ?_)
  · rw [if_pos hb2] at h
    refine AW.seq ?_
    refine AW.ops ?_
    refine AO.allF tab_ok (by decide) [(6, .bool false), (7, .int .i64 v0.2.2.2.2)] [] (by (simp only [go_sem, hb2]) <;> (repeat' with_reducible apply And.intro) <;> first | assumption | rfl | omega | (unfold maxLen; omega)) ?_
    refine athen_n ?_
    refine AW.ret ?_
    refine athen_r ?_
    obtain rfl := Option.some.inj h
    exact ⟨rfl, [], [], [], rfl, (by (simp only [go_sem, hb2]) <;> (repeat' with_reducible apply And.intro) <;> first | assumption | rfl | omega | (unfold maxLen; omega))⟩
  · rw [if_neg (Bool.eq_false_iff.1 hb2)] at h
    refine AW.skip ?_
    refine athen_n ?_
    refine AW.seq ?_
    refine AW.ops ?_
    refine AO.segF tab_ok 3 (by decide) [(21, .agg [.int .i64 v0.1, .int .i64 v0.2.1, .sl (.sl (.int .i64)) v0.2.2.1, .sl (.sl (.int .i64)) v0.2.2.2.1]), (22, .int .i64 a), (23, .int .i64 b)] [] (by (simp only [go_sem, hb2]) <;> (repeat' with_reducible apply And.intro) <;> first | assumption | rfl | omega | (unfold maxLen; omega)) ?_
    obtain ⟨v0_2, hv3, h⟩ := Option.bind_eq_some_iff.1 h
    refine AO.call tab_ok (by decide) rfl rfl rfl (fun _ h => h) [] [] (hc_spec_machine_same (v0.1, v0.2.1, v0.2.2.1, v0.2.2.2.1) a b hv3) rfl (by (simp only [go_sem, hb2]) <;> (repeat' with_reducible apply And.intro) <;> first | assumption | rfl | omega | (unfold maxLen; omega)) (by (simp only [go_sem, hb2]) <;> (repeat' with_reducible apply And.intro) <;> first | assumption | rfl | omega | (unfold maxLen; omega)) [(24, .bool v0_2)] [] (by (simp only [go_sem, hb2]) <;> (repeat' with_reducible apply And.intro) <;> first | assumption | rfl | omega | (unfold maxLen; omega)) ?_
    refine AO.allF tab_ok (by decide) [(6, .bool v0_2), (7, .int .i64 0)] [] (by (simp only [go_sem, hb2]) <;> (repeat' with_reducible apply And.intro) <;> first | assumption | rfl | omega | (unfold maxLen; omega)) ?_
    refine athen_n ?_
    refine AW.ret ?_
    obtain rfl := Option.some.inj h
    exact ⟨rfl, [], [], [], rfl, (by (simp only [go_sem, hb2]) <;> (repeat' with_reducible apply And.intro) <;> first | assumption | rfl | omega | (unfold maxLen; omega))⟩

set_option maxRecDepth 100000 in
set_option maxHeartbeats 2000000 in
theorem hc_spec_machine_classes (m : Int × Int × (List (List Int)) × (List (List Int))) {r : (List Int)} (h : spec_machine_classes m = some r) : HC Try.prog 70 [] [.agg [.int .i64 m.1, .int .i64 m.2.1, .sl (.sl (.int .i64)) m.2.2.1, .sl (.sl (.int .i64)) m.2.2.2]] [(2000, .arr 3 (.int .i64) r)] (.own 2000) := by
  unfold spec_machine_classes at h
  refine HC.of_body tab_ok (res := [.tmp 2]) Try.func70 rfl (by kernel_rfl) rfl (nt := 29) rfl (by decide) (by simp) ?_
  refine AW.seq ?_
  refine AW.ops ?_
  refine AO.allF tab_ok (by decide) [(1, .bp 1 0)] [(1, .box 60 [.int .i64 m.1, .int .i64 m.2.1, .sl (.sl (.int .i64)) m.2.2.1, .sl (.sl (.int .i64)) m.2.2.2])] (by (simp only [go_sem]) <;> (repeat' with_reducible apply And.intro) <;> first | assumption | rfl | omega | (unfold maxLen; omega)) ?_
  refine athen_n ?_
  refine AW.seq ?_
  refine AW.ops ?_
  obtain ⟨c1, h⟩ := ck_some.1 h
  obtain ⟨c2, h⟩ := ck_some.1 h
  refine AO.allF tab_ok (by decide) [(1, .bp 1 0), (3, .own 7)] [(1, .box 60 [.int .i64 m.1, .int .i64 m.2.1, .sl (.sl (.int .i64)) m.2.2.1, .sl (.sl (.int .i64)) m.2.2.2]), (7, .arr 3 (.int .i64) (List.replicate m.1.toNat (0 : Int)))] (by (simp only [go_sem]) <;> (repeat' with_reducible apply And.intro) <;> first | assumption | rfl | omega | (unfold maxLen; omega)) ?_
  refine athen_n ?_
  refine AW.have1 (fun b2_2 : (List Int) => spec_machine_classes_k1 b2_2 = some r) (fun b2_2 => ⟨fr [(3, .own 7)], hpGet [(7, .arr 3 (.int .i64) b2_2)], gt⟩) (fun b2_2 h => ?_) (fun hk_spec_machine_classes_k1 => ?_)
  · unfold spec_machine_classes_k1 at h
    refine AW.seq ?_
    refine AW.ops ?_
    refine AO.allF tab_ok (by decide) [(2, .own 7)] [(7, .arr 3 (.int .i64) b2_2)] (by (simp only [go_sem]) <;> (repeat' with_reducible apply And.intro) <;> first | assumption | rfl | omega | (unfold maxLen; omega)) ?_
    refine athen_n ?_
    refine AW.ret ?_
    obtain rfl := Option.some.inj h
    exact ⟨rfl, [], [], [(2000, 7)], rfl, (by (simp only [go_sem]) <;> (repeat' with_reducible apply And.intro) <;> first | assumption | rfl | omega | (unfold maxLen; omega))⟩
  · refine AW.seq ?_
    refine AW.seq ?_
    refine AW.ops ?_
    refine AO.allF tab_ok (by decide) [(1, .bp 1 0), (3, .own 7), (9, .int .i64 ((List.replicate m.1.toNat (0 : Int)).length : Int)), (10, .int .i64 0)] [(1, .box 60 [.int .i64 m.1, .int .i64 m.2.1, .sl (.sl (.int .i64)) m.2.2.1, .sl (.sl (.int .i64)) m.2.2.2]), (7, .arr 3 (.int .i64) (List.replicate m.1.toNat (0 : Int)))] (by (simp only [go_sem]) <;> (repeat' with_reducible apply And.intro) <;> first | assumption | rfl | omega | (unfold maxLen; omega)) ?_
    refine athen_n ?_
    refine AW.block ?_
    obtain ⟨rv7, hw3, ho4⟩ := Option.bind_eq_some_iff.1 h
    refine AW.loopO (spec_machine_classes_b1 m) (fun st1 => ⟨fr [(1, .bp 1 0), (3, .own 7), (9, .int .i64 ((List.replicate m.1.toNat (0 : Int)).length : Int)), (10, .int .i64 st1.2)], hpGet [(1, .box 60 [.int .i64 m.1, .int .i64 m.2.1, .sl (.sl (.int .i64)) m.2.2.1, .sl (.sl (.int .i64)) m.2.2.2]), (7, .arr 3 (.int .i64) st1.1)], gt⟩) ((List.replicate m.1.toNat (0 : Int)), 0) hw3 (Wk.le [] [] [] rfl (by (simp only [go_sem]) <;> (repeat' with_reducible apply And.intro) <;> first | assumption | rfl | omega | (unfold maxLen; omega)) (by (simp only [go_sem]) <;> (repeat' with_reducible apply And.intro) <;> first | assumption | rfl | omega | (unfold maxLen; omega))) ?_
    intro st1 x6 h hd5
    unfold spec_machine_classes_b1 at h
    refine AW.seq ?_
    refine AW.ops ?_
    refine AO.allF tab_ok (by decide) [(1, .bp 1 0), (3, .own 7), (9, .int .i64 ((List.replicate m.1.toNat (0 : Int)).length : Int)), (10, .int .i64 st1.2), (11, .bool (decide (st1.2 < ((List.replicate m.1.toNat (0 : Int)).length : Int))))] [(1, .box 60 [.int .i64 m.1, .int .i64 m.2.1, .sl (.sl (.int .i64)) m.2.2.1, .sl (.sl (.int .i64)) m.2.2.2]), (7, .arr 3 (.int .i64) st1.1)] (by (simp only [go_sem]) <;> (repeat' with_reducible apply And.intro) <;> first | assumption | rfl | omega | (unfold maxLen; omega)) ?_
    refine athen_n ?_
    refine AW.seq ?_
    refine AW.cond (b := (decide (st1.2 < ((List.replicate m.1.toNat (0 : Int)).length : Int)))) rfl (fun hb8 => ?_) (fun hb8 => ?_)
    · rw [if_pos hb8] at h
      refine AW.skip ?_
      refine athen_n ?_
      refine AW.have1 (fun b2 : (List Int) => spec_machine_classes_k2 st1 b2 = some x6) (fun b2 => ⟨fr [(1, .bp 1 0), (3, .own 7), (9, .int .i64 ((List.replicate m.1.toNat (0 : Int)).length : Int)), (10, .int .i64 st1.2)], hpGet [(1, .box 60 [.int .i64 m.1, .int .i64 m.2.1, .sl (.sl (.int .i64)) m.2.2.1, .sl (.sl (.int .i64)) m.2.2.2]), (7, .arr 3 (.int .i64) b2)], gt⟩) (fun b2 h => ?_) (fun hk_spec_machine_classes_k2 => ?_)
      · unfold spec_machine_classes_k2 at h
        refine AW.ops ?_
        obtain ⟨c9, h⟩ := ck_some.1 h
        refine AO.allF tab_ok (by decide) [(1, .bp 1 0), (3, .own 7), (9, .int .i64 ((List.replicate m.1.toNat (0 : Int)).length : Int)), (10, .int .i64 (st1.2 + 1))] [(1, .box 60 [.int .i64 m.1, .int .i64 m.2.1, .sl (.sl (.int .i64)) m.2.2.1, .sl (.sl (.int .i64)) m.2.2.2]), (7, .arr 3 (.int .i64) b2)] (by (simp only [go_sem, hb8]) <;> (repeat' with_reducible apply And.intro) <;> first | assumption | rfl | omega | (unfold maxLen; omega)) ?_
        obtain rfl := Option.some.inj h
        exact ⟨_, rfl, Wk.le [] [] [] rfl (by (simp only [go_sem, hb8]) <;> (repeat' with_reducible apply And.intro) <;> first | assumption | rfl | omega | (unfold maxLen; omega)) (by (simp only [go_sem, hb8]) <;> (repeat' with_reducible apply And.intro) <;> first | assumption | rfl | omega | (unfold maxLen; omega))⟩
      · refine AW.seq ?_
        refine AW.block ?_
        refine AW.seq ?_
        refine AW.ops ?_
        refine AO.allF tab_ok (by decide) [(1, .bp 1 0), (3, .own 7), (4, .int .i64 st1.2), (9, .int .i64 ((List.replicate m.1.toNat (0 : Int)).length : Int)), (10, .int .i64 st1.2)] [(1, .box 60 [.int .i64 m.1, .int .i64 m.2.1, .sl (.sl (.int .i64)) m.2.2.1, .sl (.sl (.int .i64)) m.2.2.2]), (7, .arr 3 (.int .i64) st1.1)] (by (simp only [go_sem, hb8]) <;> (repeat' with_reducible apply And.intro) <;> first | assumption | rfl | omega | (unfold maxLen; omega)) ?_
        refine athen_n ?_
        refine AW.block ?_
        obtain ⟨rv14, hw10, ho11⟩ := Option.bind_eq_some_iff.1 h
        refine AW.loopO (spec_machine_classes_b2 m st1) (fun st2 => ⟨fr [(1, .bp 1 0), (3, .own 7), (4, .int .i64 st1.2), (9, .int .i64 ((List.replicate m.1.toNat (0 : Int)).length : Int)), (10, .int .i64 st1.2)], hpGet [(1, .box 60 [.int .i64 m.1, .int .i64 m.2.1, .sl (.sl (.int .i64)) m.2.2.1, .sl (.sl (.int .i64)) m.2.2.2]), (7, .arr 3 (.int .i64) st2)], gt⟩) st1.1 hw10 (Wk.le [] [] [] rfl (by (simp only [go_sem, hb8]) <;> (repeat' with_reducible apply And.intro) <;> first | assumption | rfl | omega | (unfold maxLen; omega)) (by (simp only [go_sem, hb8]) <;> (repeat' with_reducible apply And.intro) <;> first | assumption | rfl | omega | (unfold maxLen; omega))) ?_
        intro st2 x13 h hd12
        unfold spec_machine_classes_b2 at h
        refine AW.seq ?_
        refine AW.seq ?_
        refine AW.draw tab_ok mixed_ok [] [] (by decide) (by kernel_rfl) ?_
        obtain ⟨c16, h⟩ := ck_some.1 h
        obtain ⟨c17, h⟩ := ck_some.1 h
        refine adops_cut 6 (fun K' hK15 => ?_)
        try dsimp only [List.drop_succ_cons, List.drop_zero, List.take_succ_cons, List.take_zero]
        simp only [go_sem, hb8]
        repeat (with_reducible refine And.intro (by first | assumption | rfl | omega | trivial | (unfold maxLen; omega)) ?_)
        refine hK15 _ ?_
        obtain ⟨v0, hv18, h⟩ := Option.bind_eq_some_iff.1 h
        refine adops.call (by first | trivial | rfl) rfl rfl rfl (fun _ h => h) [] [] (hc_spec_machine_same m (st2.getD st1.2.toNat 0) st1.2 hv18) rfl (by (simp only [go_sem, hb8]) <;> (repeat' with_reducible apply And.intro) <;> first | assumption | rfl | omega | (unfold maxLen; omega)) (by (simp only [go_sem, hb8]) <;> (repeat' with_reducible apply And.intro) <;> first | assumption | rfl | omega | (unfold maxLen; omega)) rfl ?_
        refine adops_cut 1 (fun K' hK19 => ?_)
        try dsimp only [List.drop_succ_cons, List.drop_zero, List.take_succ_cons, List.take_zero]
        simp only [go_sem, hb8]
        repeat (with_reducible refine And.intro (by first | assumption | rfl | omega | trivial | (unfold maxLen; omega)) ?_)
        refine hK19 _ ?_
        refine adops_nil ?_
        refine athen_n ?_
        refine AW.weaken (s' := ⟨fr [(1, .bp 1 0), (3, .own 7), (4, .int .i64 st1.2), (9, .int .i64 ((List.replicate m.1.toNat (0 : Int)).length : Int)), (10, .int .i64 st1.2), (20, .bool (!v0))], hpGet [(1, .box 60 [.int .i64 m.1, .int .i64 m.2.1, .sl (.sl (.int .i64)) m.2.2.1, .sl (.sl (.int .i64)) m.2.2.2]), (7, .arr 3 (.int .i64) st2)], gt⟩) (Wk.to (by (simp only [go_sem, hb8]) <;> (repeat' with_reducible apply And.intro) <;> first | assumption | rfl | omega | (unfold maxLen; omega))) ?_
        refine AW.cond (b := (!v0)) rfl (fun hb20 => ?_) (fun hb20 => ?_)
        · rw [if_pos hb20] at h
          refine AW.skip ?_
          refine athen_n ?_
          refine AW.block ?_
          refine AW.ops ?_
          obtain ⟨c21, h⟩ := ck_some.1 h
          obtain ⟨c22, h⟩ := ck_some.1 h
          obtain ⟨c23, h⟩ := ck_some.1 h
          obtain ⟨c24, h⟩ := ck_some.1 h
          obtain ⟨c25, h⟩ := ck_some.1 h
          refine AO.allF tab_ok (by decide) [(1, .bp 1 0), (3, .own 7), (4, .int .i64 st1.2), (9, .int .i64 ((List.replicate m.1.toNat (0 : Int)).length : Int)), (10, .int .i64 st1.2)] [(1, .box 60 [.int .i64 m.1, .int .i64 m.2.1, .sl (.sl (.int .i64)) m.2.2.1, .sl (.sl (.int .i64)) m.2.2.2]), (7, .arr 3 (.int .i64) (st2.set st1.2.toNat ((st2.getD st1.2.toNat 0) + 1)))] (by (simp only [go_sem, hb8, hb20]) <;> (repeat' with_reducible apply And.intro) <;> first | assumption | rfl | omega | (unfold maxLen; omega)) ?_
          refine ablock_n ?_
          obtain rfl := Option.some.inj h
          exact ⟨_, rfl, Wk.le [] [] [] rfl (by (simp only [go_sem, hb8, hb20]) <;> (repeat' with_reducible apply And.intro) <;> first | assumption | rfl | omega | (unfold maxLen; omega)) (by (simp only [go_sem, hb8, hb20]) <;> (repeat' with_reducible apply And.intro) <;> first | assumption | rfl | omega | (unfold maxLen; omega))⟩
        · rw [if_neg (Bool.eq_false_iff.1 hb20)] at h
          refine AW.exit ?_
          refine athen_e ?_
          obtain rfl := Option.some.inj h
          rw [← hd12 _ rfl] at ho11
          have h := ho11
          refine athen_e ?_
          refine ablock_s ?_
          refine ablock_n ?_
          refine athen_n ?_
          exact AW.weaken (Wk.le [] [] [] rfl (by (simp only [go_sem, hb8, hb20]) <;> (repeat' with_reducible apply And.intro) <;> first | assumption | rfl | omega | (unfold maxLen; omega)) (by (simp only [go_sem, hb8, hb20]) <;> (repeat' with_reducible apply And.intro) <;> first | assumption | rfl | omega | (unfold maxLen; omega))) (hk_spec_machine_classes_k2 _ h)
    · rw [if_neg (Bool.eq_false_iff.1 hb8)] at h
      refine AW.exit ?_
      refine athen_e ?_
      obtain rfl := Option.some.inj h
      rw [← hd5 _ rfl] at ho4
      have h := ho4
      refine athen_e ?_
      refine ablock_s ?_
      refine athen_n ?_
      exact AW.weaken (Wk.le [] [] [] rfl (by (simp only [go_sem, hb8]) <;> (repeat' with_reducible apply And.intro) <;> first | assumption | rfl | omega | (unfold maxLen; omega)) (by (simp only [go_sem, hb8]) <;> (repeat' with_reducible apply And.intro) <;> first | assumption | rfl | omega | (unfold maxLen; omega))) (hk_spec_machine_classes_k1 _ h)

end Go.Proofs.Ytmcgmlcfogdioaa
