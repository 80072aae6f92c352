/-
  Made by wip/tool/dc.py out of the print of the program: contracts.
-/
import Derived.Test.YtdkdkpenmgkdcaaHp
import Derived.Test.YtdkdkpenmgkdcaaTbh
import Derived.Test.YtdkdkpenmgkdcaaKwc2
import Derived.Test.YtdkdkpenmgkdcaaKwc3
import Derived.Test.YtdkdkpenmgkdcaaKwc4
namespace Go.Proofs.Ytdkdkpenmgkdcaa
open Go.RowKit

set_option linter.unusedSimpArgs false
set_option linter.unusedVariables false
set_option linter.constructorNameAsVariable false

set_option maxRecDepth 100000 in
set_option maxHeartbeats 2000000 in
theorem hc_history_search_first (s : List (Int × Int × (List (List Int)) × (List (List Int)))) (s_2 : List (Int × Int × Int × Int × Int × Int)) (s_3 : List (((Int × Int) × Int) × Int)) {r : (List Int) × Bool × (List (((Int × Int) × Int) × Int))} (h : history_search_first s s_2 s_3 = some r) : HC Try.prog 87 [(1000, .map true false (.pair (.pair (.int .i64) (.int .i64)) (.int .u64)) (.int .i64) s_3)] [.agg [.sl (.pair (.int .i64) (.pair (.int .i64) (.pair (.sl (.sl (.int .i64))) (.sl (.sl (.int .i64)))))) s, .sl (.pair (.int .i64) (.pair (.int .i64) (.pair (.int .i64) (.pair (.int .i64) (.pair (.int .i64) (.int .i64)))))) s_2, .fn (.func 77) [] [], .own 1000]] [(1000, .map true false (.pair (.pair (.int .i64) (.int .i64)) (.int .u64)) (.int .i64) r.2.2), (2000, .arr 3 (.int .i64) r.1)] (.tup [.own 2000, .bool r.2.1]) := by
  unfold history_search_first at h
  refine HC.of_body tab_ok (res := [.tmp 2, .tmp 3]) Try.func87 rfl (by kernel_rfl) rfl (nt := 31) rfl (by decide) (by simp) ?_
  refine AW.seq ?_
  refine AW.ops ?_
  refine AO.allF tab_ok (by decide) [(1, .bp 1 0)] [(1, .box 76 [.sl (.pair (.int .i64) (.pair (.int .i64) (.pair (.sl (.sl (.int .i64))) (.sl (.sl (.int .i64)))))) s, .sl (.pair (.int .i64) (.pair (.int .i64) (.pair (.int .i64) (.pair (.int .i64) (.pair (.int .i64) (.int .i64)))))) s_2, .fn (.func 77) [] [], .own 1000]), (1000, .map true false (.pair (.pair (.int .i64) (.int .i64)) (.int .u64)) (.int .i64) s_3)] (by (simp only [go_sem]) <;> (repeat' with_reducible apply And.intro) <;> first | assumption | rfl | omega | (unfold maxLen; omega)) ?_
  refine athen_n ?_
  refine AW.seq ?_
  refine AW.ops ?_
  refine AO.allF tab_ok (by decide) [(1, .bp 1 0), (4, .bp 4 0)] [(1, .box 76 [.sl (.pair (.int .i64) (.pair (.int .i64) (.pair (.sl (.sl (.int .i64))) (.sl (.sl (.int .i64)))))) s, .sl (.pair (.int .i64) (.pair (.int .i64) (.pair (.int .i64) (.pair (.int .i64) (.pair (.int .i64) (.int .i64)))))) s_2, .fn (.func 77) [] [], .own 1000]), (4, .box 95 [.int .i64 0, .int .i64 0, .int .u64 0]), (1000, .map true false (.pair (.pair (.int .i64) (.int .i64)) (.int .u64)) (.int .i64) s_3)] (by (simp only [go_sem]) <;> (repeat' with_reducible apply And.intro) <;> first | assumption | rfl | omega | (unfold maxLen; omega)) ?_
  refine athen_n ?_
  refine AW.seq ?_
  refine AW.seq ?_
  refine AW.ops ?_
  refine AO.segF tab_ok 2 (by decide) [(1, .bp 1 0), (4, .bp 4 0), (8, .agg [.sl (.pair (.int .i64) (.pair (.int .i64) (.pair (.sl (.sl (.int .i64))) (.sl (.sl (.int .i64)))))) s, .sl (.pair (.int .i64) (.pair (.int .i64) (.pair (.int .i64) (.pair (.int .i64) (.pair (.int .i64) (.int .i64)))))) s_2, .fn (.func 77) [] [], .own 1000]), (9, .agg [.int .i64 0, .int .i64 0, .int .u64 0])] [(1, .box 76 [.sl (.pair (.int .i64) (.pair (.int .i64) (.pair (.sl (.sl (.int .i64))) (.sl (.sl (.int .i64)))))) s, .sl (.pair (.int .i64) (.pair (.int .i64) (.pair (.int .i64) (.pair (.int .i64) (.pair (.int .i64) (.int .i64)))))) s_2, .fn (.func 77) [] [], .own 1000]), (4, .box 95 [.int .i64 0, .int .i64 0, .int .u64 0]), (1000, .map true false (.pair (.pair (.int .i64) (.int .i64)) (.int .u64)) (.int .i64) s_3)] (by (simp only [go_sem]) <;> (repeat' with_reducible apply And.intro) <;> first | assumption | rfl | omega | (unfold maxLen; omega)) ?_
  obtain ⟨v0, hv1, h⟩ := Option.bind_eq_some_iff.1 h
  refine AO.call tab_ok (by decide) rfl rfl rfl (fun _ h => h) [] [(1000, 1000)] (hc_history_search_count fuel s s_2 ((0, 0), 0) s_3 hv1) rfl (by (simp only [go_sem]) <;> (repeat' with_reducible apply And.intro) <;> first | assumption | rfl | omega | (unfold maxLen; omega)) (by (simp only [go_sem]) <;> (repeat' with_reducible apply And.intro) <;> first | assumption | rfl | omega | (unfold maxLen; omega)) [(1, .bp 1 0), (4, .bp 4 0), (10, .int .i64 v0.1)] [(1, .box 76 [.sl (.pair (.int .i64) (.pair (.int .i64) (.pair (.sl (.sl (.int .i64))) (.sl (.sl (.int .i64)))))) s, .sl (.pair (.int .i64) (.pair (.int .i64) (.pair (.int .i64) (.pair (.int .i64) (.pair (.int .i64) (.int .i64)))))) s_2, .fn (.func 77) [] [], .own 1000]), (4, .box 95 [.int .i64 0, .int .i64 0, .int .u64 0]), (1000, .map true false (.pair (.pair (.int .i64) (.int .i64)) (.int .u64)) (.int .i64) v0.2)] (by (simp only [go_sem]) <;> (repeat' with_reducible apply And.intro) <;> first | assumption | rfl | omega | (unfold maxLen; omega)) ?_
  refine AO.allF tab_ok (by decide) [(1, .bp 1 0), (4, .bp 4 0), (11, .bool (decide (v0.1 = 0)))] [(1, .box 76 [.sl (.pair (.int .i64) (.pair (.int .i64) (.pair (.sl (.sl (.int .i64))) (.sl (.sl (.int .i64)))))) s, .sl (.pair (.int .i64) (.pair (.int .i64) (.pair (.int .i64) (.pair (.int .i64) (.pair (.int .i64) (.int .i64)))))) s_2, .fn (.func 77) [] [], .own 1000]), (4, .box 95 [.int .i64 0, .int .i64 0, .int .u64 0]), (1000, .map true false (.pair (.pair (.int .i64) (.int .i64)) (.int .u64)) (.int .i64) v0.2)] (by (simp only [go_sem]) <;> (repeat' with_reducible apply And.intro) <;> first | assumption | rfl | omega | (unfold maxLen; omega)) ?_
  refine athen_n ?_
  refine AW.cond (b := (decide (v0.1 = 0))) rfl (fun hb2 => ?_) (fun hb2 => ?_)
  · rw [if_pos hb2] at h
    refine AW.seq ?_
    refine AW.ops ?_
    refine AO.allF tab_ok (by decide) [(2, .cv (.slice none 0 0)), (3, .bool false)] [(1000, .map true false (.pair (.pair (.int .i64) (.int .i64)) (.int .u64)) (.int .i64) v0.2)] (by (simp only [go_sem, hb2]) <;> (repeat' with_reducible apply And.intro) <;> first | assumption | rfl | omega | (unfold maxLen; omega)) ?_
    refine athen_n ?_
    refine AW.ret ?_
    refine athen_r ?_
    obtain rfl := Option.some.inj h
    exact ⟨rfl, [], [2000], [], rfl, (by (simp only [go_sem, hb2]) <;> (repeat' with_reducible apply And.intro) <;> first | assumption | rfl | omega | (unfold maxLen; omega))⟩
  · rw [if_neg (Bool.eq_false_iff.1 hb2)] at h
    refine AW.skip ?_
    refine athen_n ?_
    refine AW.seq ?_
    refine AW.ops ?_
    refine AO.allF tab_ok (by decide) [(1, .bp 1 0), (4, .bp 4 0), (5, .bp 5 0)] [(1, .box 76 [.sl (.pair (.int .i64) (.pair (.int .i64) (.pair (.sl (.sl (.int .i64))) (.sl (.sl (.int .i64)))))) s, .sl (.pair (.int .i64) (.pair (.int .i64) (.pair (.int .i64) (.pair (.int .i64) (.pair (.int .i64) (.int .i64)))))) s_2, .fn (.func 77) [] [], .own 1000]), (4, .box 95 [.int .i64 0, .int .i64 0, .int .u64 0]), (5, .box 33 [.cv (.slice none 0 0)]), (1000, .map true false (.pair (.pair (.int .i64) (.int .i64)) (.int .u64)) (.int .i64) v0.2)] (by (simp only [go_sem, hb2]) <;> (repeat' with_reducible apply And.intro) <;> first | assumption | rfl | omega | (unfold maxLen; omega)) ?_
    refine athen_n ?_
    refine AW.have1 (fun b1 : (List Int) × (List (((Int × Int) × Int) × Int)) => history_search_first_k1 b1 = some r) (fun b1 => ⟨fr [(5, .bp 5 0)], hpGet [(5, .box 33 [.own 28]), (28, .arr 3 (.int .i64) b1.1), (1000, .map true false (.pair (.pair (.int .i64) (.int .i64)) (.int .u64)) (.int .i64) b1.2)], gt⟩) (fun b1 h => ?_) (fun hk_history_search_first_k1 => ?_)
    · unfold history_search_first_k1 at h
      refine AW.seq ?_
      refine AW.ops ?_
      refine AO.allF tab_ok (by decide) [(2, .own 28), (3, .bool true)] [(28, .arr 3 (.int .i64) b1.1), (1000, .map true false (.pair (.pair (.int .i64) (.int .i64)) (.int .u64)) (.int .i64) b1.2)] (by (simp only [go_sem, hb2]) <;> (repeat' with_reducible apply And.intro) <;> first | assumption | rfl | omega | (unfold maxLen; omega)) ?_
      refine athen_n ?_
      refine AW.ret ?_
      obtain rfl := Option.some.inj h
      exact ⟨rfl, [], [], [(2000, 28)], rfl, (by (simp only [go_sem, hb2]) <;> (repeat' with_reducible apply And.intro) <;> first | assumption | rfl | omega | (unfold maxLen; omega))⟩
    · refine AW.seq ?_
      refine AW.block ?_
      obtain ⟨rv7, hw3, ho4⟩ := Option.bind_eq_some_iff.1 h
      refine AW.loopO (history_search_first_b1 s s_2) (fun st1 => ⟨fr [(1, .bp 1 0), (4, .bp 4 0), (5, .bp 5 0)], hpGet [(1, .box 76 [.sl (.pair (.int .i64) (.pair (.int .i64) (.pair (.sl (.sl (.int .i64))) (.sl (.sl (.int .i64)))))) s, .sl (.pair (.int .i64) (.pair (.int .i64) (.pair (.int .i64) (.pair (.int .i64) (.pair (.int .i64) (.int .i64)))))) s_2, .fn (.func 77) [] [], .own 1000]), (4, .box 95 [.int .i64 st1.2.1, .int .i64 st1.2.2.1, .int .u64 st1.2.2.2.1]), (5, .box 33 [.own 28]), (28, .arr 3 (.int .i64) st1.2.2.2.2), (1000, .map true false (.pair (.pair (.int .i64) (.int .i64)) (.int .u64)) (.int .i64) st1.1)], gt⟩) (v0.2, 0, 0, 0, []) hw3 (Wk.le [] [28] [] rfl (by (simp only [go_sem, hb2]) <;> (repeat' with_reducible apply And.intro) <;> first | assumption | rfl | omega | (unfold maxLen; omega)) (by (simp only [go_sem, hb2]) <;> (repeat' with_reducible apply And.intro) <;> first | assumption | rfl | omega | (unfold maxLen; omega))) ?_
      intro st1 x6 h hd5
      unfold history_search_first_b1 at h
      refine AW.seq ?_
      refine AW.seq ?_
      refine AW.ops ?_
      refine AO.segF tab_ok 2 (by decide) [(1, .bp 1 0), (4, .bp 4 0), (5, .bp 5 0), (12, .agg [.sl (.pair (.int .i64) (.pair (.int .i64) (.pair (.sl (.sl (.int .i64))) (.sl (.sl (.int .i64)))))) s, .sl (.pair (.int .i64) (.pair (.int .i64) (.pair (.int .i64) (.pair (.int .i64) (.pair (.int .i64) (.int .i64)))))) s_2, .fn (.func 77) [] [], .own 1000]), (13, .agg [.int .i64 st1.2.1, .int .i64 st1.2.2.1, .int .u64 st1.2.2.2.1])] [(1, .box 76 [.sl (.pair (.int .i64) (.pair (.int .i64) (.pair (.sl (.sl (.int .i64))) (.sl (.sl (.int .i64)))))) s, .sl (.pair (.int .i64) (.pair (.int .i64) (.pair (.int .i64) (.pair (.int .i64) (.pair (.int .i64) (.int .i64)))))) s_2, .fn (.func 77) [] [], .own 1000]), (4, .box 95 [.int .i64 st1.2.1, .int .i64 st1.2.2.1, .int .u64 st1.2.2.2.1]), (5, .box 33 [.own 28]), (28, .arr 3 (.int .i64) st1.2.2.2.2), (1000, .map true false (.pair (.pair (.int .i64) (.int .i64)) (.int .u64)) (.int .i64) st1.1)] (by (simp only [go_sem, hb2]) <;> (repeat' with_reducible apply And.intro) <;> first | assumption | rfl | omega | (unfold maxLen; omega)) ?_
      obtain ⟨v0_2, hv8, h⟩ := Option.bind_eq_some_iff.1 h
      refine AO.call tab_ok (by decide) rfl rfl rfl (fun _ h => h) [] [] (hc_history_search_full s s_2 ((st1.2.1, st1.2.2.1), st1.2.2.2.1) hv8) rfl (by (simp only [go_sem, hb2]) <;> (repeat' with_reducible apply And.intro) <;> first | assumption | rfl | omega | (unfold maxLen; omega)) (by (simp only [go_sem, hb2]) <;> (repeat' with_reducible apply And.intro) <;> first | assumption | rfl | omega | (unfold maxLen; omega)) [(1, .bp 1 0), (4, .bp 4 0), (5, .bp 5 0), (14, .bool v0_2)] [(1, .box 76 [.sl (.pair (.int .i64) (.pair (.int .i64) (.pair (.sl (.sl (.int .i64))) (.sl (.sl (.int .i64)))))) s, .sl (.pair (.int .i64) (.pair (.int .i64) (.pair (.int .i64) (.pair (.int .i64) (.pair (.int .i64) (.int .i64)))))) s_2, .fn (.func 77) [] [], .own 1000]), (4, .box 95 [.int .i64 st1.2.1, .int .i64 st1.2.2.1, .int .u64 st1.2.2.2.1]), (5, .box 33 [.own 28]), (28, .arr 3 (.int .i64) st1.2.2.2.2), (1000, .map true false (.pair (.pair (.int .i64) (.int .i64)) (.int .u64)) (.int .i64) st1.1)] (by (simp only [go_sem, hb2]) <;> (repeat' with_reducible apply And.intro) <;> first | assumption | rfl | omega | (unfold maxLen; omega)) ?_
      refine AO.allF tab_ok (by decide) [(1, .bp 1 0), (4, .bp 4 0), (5, .bp 5 0), (15, .bool (!v0_2))] [(1, .box 76 [.sl (.pair (.int .i64) (.pair (.int .i64) (.pair (.sl (.sl (.int .i64))) (.sl (.sl (.int .i64)))))) s, .sl (.pair (.int .i64) (.pair (.int .i64) (.pair (.int .i64) (.pair (.int .i64) (.pair (.int .i64) (.int .i64)))))) s_2, .fn (.func 77) [] [], .own 1000]), (4, .box 95 [.int .i64 st1.2.1, .int .i64 st1.2.2.1, .int .u64 st1.2.2.2.1]), (5, .box 33 [.own 28]), (28, .arr 3 (.int .i64) st1.2.2.2.2), (1000, .map true false (.pair (.pair (.int .i64) (.int .i64)) (.int .u64)) (.int .i64) st1.1)] (by (simp only [go_sem, hb2]) <;> (repeat' with_reducible apply And.intro) <;> first | assumption | rfl | omega | (unfold maxLen; omega)) ?_
      refine athen_n ?_
      refine AW.cond (b := (!v0_2)) rfl (fun hb9 => ?_) (fun hb9 => ?_)
      · rw [if_pos hb9] at h
        refine AW.skip ?_
        refine athen_n ?_
        refine AW.block ?_
        refine AW.seq ?_
        refine AW.ops ?_
        refine AO.segF tab_ok 2 (by decide) [(1, .bp 1 0), (4, .bp 4 0), (5, .bp 5 0), (16, .agg [.sl (.pair (.int .i64) (.pair (.int .i64) (.pair (.sl (.sl (.int .i64))) (.sl (.sl (.int .i64)))))) s, .sl (.pair (.int .i64) (.pair (.int .i64) (.pair (.int .i64) (.pair (.int .i64) (.pair (.int .i64) (.int .i64)))))) s_2, .fn (.func 77) [] [], .own 1000]), (17, .agg [.int .i64 st1.2.1, .int .i64 st1.2.2.1, .int .u64 st1.2.2.2.1])] [(1, .box 76 [.sl (.pair (.int .i64) (.pair (.int .i64) (.pair (.sl (.sl (.int .i64))) (.sl (.sl (.int .i64)))))) s, .sl (.pair (.int .i64) (.pair (.int .i64) (.pair (.int .i64) (.pair (.int .i64) (.pair (.int .i64) (.int .i64)))))) s_2, .fn (.func 77) [] [], .own 1000]), (4, .box 95 [.int .i64 st1.2.1, .int .i64 st1.2.2.1, .int .u64 st1.2.2.2.1]), (5, .box 33 [.own 28]), (28, .arr 3 (.int .i64) st1.2.2.2.2), (1000, .map true false (.pair (.pair (.int .i64) (.int .i64)) (.int .u64)) (.int .i64) st1.1)] (by (simp only [go_sem, hb2, hb9]) <;> (repeat' with_reducible apply And.intro) <;> first | assumption | rfl | omega | (unfold maxLen; omega)) ?_
        obtain ⟨v0_3, hv10, h⟩ := Option.bind_eq_some_iff.1 h
        refine AO.call tab_ok (by decide) rfl rfl rfl (fun _ h => h) [] [] (hc_history_search_steps s s_2 ((st1.2.1, st1.2.2.1), st1.2.2.2.1) hv10) rfl (by (simp only [go_sem, hb2, hb9]) <;> (repeat' with_reducible apply And.intro) <;> first | assumption | rfl | omega | (unfold maxLen; omega)) (by (simp only [go_sem, hb2, hb9]) <;> (repeat' with_reducible apply And.intro) <;> first | assumption | rfl | omega | (unfold maxLen; omega)) [(1, .bp 1 0), (4, .bp 4 0), (5, .bp 5 0), (18, .fn (.func 127) [] [.bp 28000 0, .bp 28001 0])] [(1, .box 76 [.sl (.pair (.int .i64) (.pair (.int .i64) (.pair (.sl (.sl (.int .i64))) (.sl (.sl (.int .i64)))))) s, .sl (.pair (.int .i64) (.pair (.int .i64) (.pair (.int .i64) (.pair (.int .i64) (.pair (.int .i64) (.int .i64)))))) s_2, .fn (.func 77) [] [], .own 1000]), (4, .box 95 [.int .i64 st1.2.1, .int .i64 st1.2.2.1, .int .u64 st1.2.2.2.1]), (5, .box 33 [.own 28]), (28, .arr 3 (.int .i64) st1.2.2.2.2), (1000, .map true false (.pair (.pair (.int .i64) (.int .i64)) (.int .u64)) (.int .i64) st1.1), (28000, .box 76 [.sl (.pair (.int .i64) (.pair (.int .i64) (.pair (.sl (.sl (.int .i64))) (.sl (.sl (.int .i64)))))) s, .sl (.pair (.int .i64) (.pair (.int .i64) (.pair (.int .i64) (.pair (.int .i64) (.pair (.int .i64) (.int .i64)))))) s_2, .fn (.func 77) [] [], .one]), (28001, .box 95 [.int .i64 st1.2.1, .int .i64 st1.2.2.1, .int .u64 st1.2.2.2.1])] (by (simp only [go_sem, hb2, hb9]) <;> (repeat' with_reducible apply And.intro) <;> first | assumption | rfl | omega | (unfold maxLen; omega)) ?_
        refine AO.allF tab_ok (by decide) [(1, .bp 1 0), (4, .bp 4 0), (5, .bp 5 0), (18, .fn (.func 127) [] [.bp 28000 0, .bp 28001 0])] [(1, .box 76 [.sl (.pair (.int .i64) (.pair (.int .i64) (.pair (.sl (.sl (.int .i64))) (.sl (.sl (.int .i64)))))) s, .sl (.pair (.int .i64) (.pair (.int .i64) (.pair (.int .i64) (.pair (.int .i64) (.pair (.int .i64) (.int .i64)))))) s_2, .fn (.func 77) [] [], .own 1000]), (4, .box 95 [.int .i64 st1.2.1, .int .i64 st1.2.2.1, .int .u64 st1.2.2.2.1]), (5, .box 33 [.own 28]), (28, .arr 3 (.int .i64) st1.2.2.2.2), (1000, .map true false (.pair (.pair (.int .i64) (.int .i64)) (.int .u64)) (.int .i64) st1.1), (28000, .box 76 [.sl (.pair (.int .i64) (.pair (.int .i64) (.pair (.sl (.sl (.int .i64))) (.sl (.sl (.int .i64)))))) s, .sl (.pair (.int .i64) (.pair (.int .i64) (.pair (.int .i64) (.pair (.int .i64) (.pair (.int .i64) (.int .i64)))))) s_2, .fn (.func 77) [] [], .one]), (28001, .box 95 [.int .i64 st1.2.1, .int .i64 st1.2.2.1, .int .u64 st1.2.2.2.1])] (by (simp only [go_sem, hb2, hb9]) <;> (repeat' with_reducible apply And.intro) <;> first | assumption | rfl | omega | (unfold maxLen; omega)) ?_
        refine athen_n ?_
        refine AW.block ?_
        obtain ⟨x11, hx12, h⟩ := Option.bind_eq_some_iff.1 h
        refine AW.weaken (s' := ⟨fr [(1, .bp 1 0), (4, .bp 4 0), (5, .bp 5 0), (18, .fn (.func 127) [] [.bp 28000 0, .bp 28001 0])], hpGet ([(28000, .box 76 [.sl (.pair (.int .i64) (.pair (.int .i64) (.pair (.sl (.sl (.int .i64))) (.sl (.sl (.int .i64)))))) s, .sl (.pair (.int .i64) (.pair (.int .i64) (.pair (.int .i64) (.pair (.int .i64) (.pair (.int .i64) (.int .i64)))))) s_2, .fn (.func 77) [] [], .one]), (28001, .box 95 [.int .i64 st1.2.1, .int .i64 st1.2.2.1, .int .u64 st1.2.2.2.1])] ++ [(1, .box 76 [.sl (.pair (.int .i64) (.pair (.int .i64) (.pair (.sl (.sl (.int .i64))) (.sl (.sl (.int .i64)))))) s, .sl (.pair (.int .i64) (.pair (.int .i64) (.pair (.int .i64) (.pair (.int .i64) (.pair (.int .i64) (.int .i64)))))) s_2, .fn (.func 77) [] [], .own 1000]), (4, .box 95 [.int .i64 st1.2.1, .int .i64 st1.2.2.1, .int .u64 st1.2.2.2.1]), (5, .box 33 [.own 28]), (28, .arr 3 (.int .i64) st1.2.2.2.2), (1000, .map true false (.pair (.pair (.int .i64) (.int .i64)) (.int .u64)) (.int .i64) st1.1)]), gt⟩) (Wk.le [] [] [] rfl (by (simp only [go_sem, hb2, hb9]) <;> (repeat' with_reducible apply And.intro) <;> first | assumption | rfl | omega | (unfold maxLen; omega)) (by (simp only [go_sem, hb2, hb9]) <;> (repeat' with_reducible apply And.intro) <;> first | assumption | rfl | omega | (unfold maxLen; omega))) ?_
        refine AW.rangeF (R := (List (((Int × Int) × Int) × Int)) × Int × Int × Int × (List Int)) (l0 := [(1, .bp 1 0), (4, .bp 4 0), (5, .bp 5 0)]) (hI := [(28000, .box 76 [.sl (.pair (.int .i64) (.pair (.int .i64) (.pair (.sl (.sl (.int .i64))) (.sl (.sl (.int .i64)))))) s, .sl (.pair (.int .i64) (.pair (.int .i64) (.pair (.int .i64) (.pair (.int .i64) (.pair (.int .i64) (.int .i64)))))) s_2, .fn (.func 77) [] [], .one]), (28001, .box 95 [.int .i64 st1.2.1, .int .i64 st1.2.2.1, .int .u64 st1.2.2.2.1])]) (h0 := fun (st2 : (List (((Int × Int) × Int) × Int))) => [(1, .box 76 [.sl (.pair (.int .i64) (.pair (.int .i64) (.pair (.sl (.sl (.int .i64))) (.sl (.sl (.int .i64)))))) s, .sl (.pair (.int .i64) (.pair (.int .i64) (.pair (.int .i64) (.pair (.int .i64) (.pair (.int .i64) (.int .i64)))))) s_2, .fn (.func 77) [] [], .own 1000]), (4, .box 95 [.int .i64 st1.2.1, .int .i64 st1.2.2.1, .int .u64 st1.2.2.2.1]), (5, .box 33 [.own 28]), (28, .arr 3 (.int .i64) st1.2.2.2.2), (1000, .map true false (.pair (.pair (.int .i64) (.int .i64)) (.int .u64)) (.int .i64) st2)]) (gg := fun (st2 : (List (((Int × Int) × Int) × Int))) => gt) (hx0 := (fun (r2 : (List (((Int × Int) × Int) × Int)) × Int × Int × Int × (List Int)) => [(1, .box 76 [.sl (.pair (.int .i64) (.pair (.int .i64) (.pair (.sl (.sl (.int .i64))) (.sl (.sl (.int .i64)))))) s, .sl (.pair (.int .i64) (.pair (.int .i64) (.pair (.int .i64) (.pair (.int .i64) (.pair (.int .i64) (.int .i64)))))) s_2, .fn (.func 77) [] [], .own 1000]), (4, .box 95 [.int .i64 r2.2.1, .int .i64 r2.2.2.1, .int .u64 r2.2.2.2.1]), (5, .box 33 [.own 28]), (28, .arr 3 (.int .i64) r2.2.2.2.2), (1000, .map true false (.pair (.pair (.int .i64) (.int .i64)) (.int .u64)) (.int .i64) r2.1)])) (gx := (fun (r2 : (List (((Int × Int) × Int) × Int)) × Int × Int × Int × (List Int)) => gt)) (ex := (fun (r2 : (List (((Int × Int) × Int) × Int)) × Int × Int × Int × (List Int)) => Exit.exit 2)) st1.1 [(28000, 1000), (28001, 1001)] [(1000, 28000), (1001, 28001)] [(1, 1900), (4, 1901), (5, 1902)] [(1900, 1), (1901, 4), (1902, 5)] (by decide) rfl (by first | exact (ic_history_search_steps_1 s s_2 ((st1.2.1, st1.2.2.1), st1.2.2.2.1) (history_search_first_y2 s s_2 st1) st1.1 hx12) | simpa only [go_sem] using (ic_history_search_steps_1 s s_2 ((st1.2.1, st1.2.2.1), st1.2.2.2.1) (history_search_first_y2 s s_2 st1) st1.1 hx12)) (by (simp only [go_sem, hb2, hb9]) <;> (repeat' with_reducible apply And.intro) <;> first | assumption | rfl | omega | (unfold maxLen; omega)) rfl rfl rfl (fun _ => rfl) rfl (fun _ => rfl) rfl (fun _ => rfl) (fun _ => rfl) (fun _ => rfl) (fun _ => rfl) rfl (fun _ _ => by first | rfl | (exact (hΓ _).trans (hΓ _).symm) | (exact (hΓx _).trans (hΓ _).symm)) (fun _ _ => by first | rfl | (exact (hΓ _).trans (hΓ _).symm) | (exact (hΓx _).trans (hΓ _).symm)) ?_ ?_
        · intro lpy2 y2 st2 x13 h
          unfold history_search_first_y2 at h
          refine AW.weaken (s' := ⟨fr [(1, .bp 1900 0), (4, .bp 1901 0), (5, .bp 1902 0), (19, .int .i64 y2.1), (20, .agg [.int .i64 y2.2.1.1, .int .i64 y2.2.1.2, .int .u64 y2.2.2])], hpGet [(28, .arr 3 (.int .i64) st1.2.2.2.2), (1000, .map true false (.pair (.pair (.int .i64) (.int .i64)) (.int .u64)) (.int .i64) st2), (1900, .box 76 [.sl (.pair (.int .i64) (.pair (.int .i64) (.pair (.sl (.sl (.int .i64))) (.sl (.sl (.int .i64)))))) s, .sl (.pair (.int .i64) (.pair (.int .i64) (.pair (.int .i64) (.pair (.int .i64) (.pair (.int .i64) (.int .i64)))))) s_2, .fn (.func 77) [] [], .own 1000]), (1901, .box 95 [.int .i64 st1.2.1, .int .i64 st1.2.2.1, .int .u64 st1.2.2.2.1]), (1902, .box 33 [.own 28])], gt⟩) (Wk.to (by (simp only [go_sem, hb2, hb9]) <;> (repeat' with_reducible apply And.intro) <;> first | assumption | rfl | omega | (unfold maxLen; omega))) ?_
          refine AW.seq ?_
          refine AW.ops ?_
          refine AO.allF tab_ok (by decide) [(1, .bp 1900 0), (4, .bp 1901 0), (5, .bp 1902 0), (6, .int .i64 y2.1), (20, .agg [.int .i64 y2.2.1.1, .int .i64 y2.2.1.2, .int .u64 y2.2.2])] [(28, .arr 3 (.int .i64) st1.2.2.2.2), (1000, .map true false (.pair (.pair (.int .i64) (.int .i64)) (.int .u64)) (.int .i64) st2), (1900, .box 76 [.sl (.pair (.int .i64) (.pair (.int .i64) (.pair (.sl (.sl (.int .i64))) (.sl (.sl (.int .i64)))))) s, .sl (.pair (.int .i64) (.pair (.int .i64) (.pair (.int .i64) (.pair (.int .i64) (.pair (.int .i64) (.int .i64)))))) s_2, .fn (.func 77) [] [], .own 1000]), (1901, .box 95 [.int .i64 st1.2.1, .int .i64 st1.2.2.1, .int .u64 st1.2.2.2.1]), (1902, .box 33 [.own 28])] (by (simp only [go_sem, hb2, hb9]) <;> (repeat' with_reducible apply And.intro) <;> first | assumption | rfl | omega | (unfold maxLen; omega)) ?_
          refine athen_n ?_
          refine AW.ops ?_
          refine AO.allF tab_ok (by decide) [(1, .bp 1900 0), (4, .bp 1901 0), (5, .bp 1902 0), (6, .int .i64 y2.1), (7, .bp 7 0)] [(7, .box 95 [.int .i64 y2.2.1.1, .int .i64 y2.2.1.2, .int .u64 y2.2.2]), (28, .arr 3 (.int .i64) st1.2.2.2.2), (1000, .map true false (.pair (.pair (.int .i64) (.int .i64)) (.int .u64)) (.int .i64) st2), (1900, .box 76 [.sl (.pair (.int .i64) (.pair (.int .i64) (.pair (.sl (.sl (.int .i64))) (.sl (.sl (.int .i64)))))) s, .sl (.pair (.int .i64) (.pair (.int .i64) (.pair (.int .i64) (.pair (.int .i64) (.pair (.int .i64) (.int .i64)))))) s_2, .fn (.func 77) [] [], .own 1000]), (1901, .box 95 [.int .i64 st1.2.1, .int .i64 st1.2.2.1, .int .u64 st1.2.2.2.1]), (1902, .box 33 [.own 28])] (by (simp only [go_sem, hb2, hb9]) <;> (repeat' with_reducible apply And.intro) <;> first | assumption | rfl | omega | (unfold maxLen; omega)) ?_
          refine And.intro rfl ?_
          refine AW.block ?_
          refine AW.seq ?_
          refine AW.ops ?_
          refine AO.segF tab_ok 2 (by decide) [(1, .bp 1900 0), (4, .bp 1901 0), (5, .bp 1902 0), (6, .int .i64 y2.1), (7, .bp 7 0), (21, .agg [.sl (.pair (.int .i64) (.pair (.int .i64) (.pair (.sl (.sl (.int .i64))) (.sl (.sl (.int .i64)))))) s, .sl (.pair (.int .i64) (.pair (.int .i64) (.pair (.int .i64) (.pair (.int .i64) (.pair (.int .i64) (.int .i64)))))) s_2, .fn (.func 77) [] [], .own 1000]), (22, .agg [.int .i64 y2.2.1.1, .int .i64 y2.2.1.2, .int .u64 y2.2.2])] [(7, .box 95 [.int .i64 y2.2.1.1, .int .i64 y2.2.1.2, .int .u64 y2.2.2]), (28, .arr 3 (.int .i64) st1.2.2.2.2), (1000, .map true false (.pair (.pair (.int .i64) (.int .i64)) (.int .u64)) (.int .i64) st2), (1900, .box 76 [.sl (.pair (.int .i64) (.pair (.int .i64) (.pair (.sl (.sl (.int .i64))) (.sl (.sl (.int .i64)))))) s, .sl (.pair (.int .i64) (.pair (.int .i64) (.pair (.int .i64) (.pair (.int .i64) (.pair (.int .i64) (.int .i64)))))) s_2, .fn (.func 77) [] [], .own 1000]), (1901, .box 95 [.int .i64 st1.2.1, .int .i64 st1.2.2.1, .int .u64 st1.2.2.2.1]), (1902, .box 33 [.own 28])] (by (simp only [go_sem, hb2, hb9]) <;> (repeat' with_reducible apply And.intro) <;> first | assumption | rfl | omega | (unfold maxLen; omega)) ?_
          obtain ⟨v0_4, hv14, h⟩ := Option.bind_eq_some_iff.1 h
          refine AO.call tab_ok (by decide) rfl rfl rfl (fun _ h => h) [] [(1000, 1000)] (hc_history_search_count fuel s s_2 y2.2 st2 hv14) rfl (by (simp only [go_sem, hb2, hb9]) <;> (repeat' with_reducible apply And.intro) <;> first | assumption | rfl | omega | (unfold maxLen; omega)) (by (simp only [go_sem, hb2, hb9]) <;> (repeat' with_reducible apply And.intro) <;> first | assumption | rfl | omega | (unfold maxLen; omega)) [(1, .bp 1900 0), (4, .bp 1901 0), (5, .bp 1902 0), (6, .int .i64 y2.1), (7, .bp 7 0), (23, .int .i64 v0_4.1)] [(7, .box 95 [.int .i64 y2.2.1.1, .int .i64 y2.2.1.2, .int .u64 y2.2.2]), (28, .arr 3 (.int .i64) st1.2.2.2.2), (1000, .map true false (.pair (.pair (.int .i64) (.int .i64)) (.int .u64)) (.int .i64) v0_4.2), (1900, .box 76 [.sl (.pair (.int .i64) (.pair (.int .i64) (.pair (.sl (.sl (.int .i64))) (.sl (.sl (.int .i64)))))) s, .sl (.pair (.int .i64) (.pair (.int .i64) (.pair (.int .i64) (.pair (.int .i64) (.pair (.int .i64) (.int .i64)))))) s_2, .fn (.func 77) [] [], .own 1000]), (1901, .box 95 [.int .i64 st1.2.1, .int .i64 st1.2.2.1, .int .u64 st1.2.2.2.1]), (1902, .box 33 [.own 28])] (by (simp only [go_sem, hb2, hb9]) <;> (repeat' with_reducible apply And.intro) <;> first | assumption | rfl | omega | (unfold maxLen; omega)) ?_
          refine AO.allF tab_ok (by decide) [(1, .bp 1900 0), (4, .bp 1901 0), (5, .bp 1902 0), (6, .int .i64 y2.1), (7, .bp 7 0), (24, .bool (decide (0 < v0_4.1)))] [(7, .box 95 [.int .i64 y2.2.1.1, .int .i64 y2.2.1.2, .int .u64 y2.2.2]), (28, .arr 3 (.int .i64) st1.2.2.2.2), (1000, .map true false (.pair (.pair (.int .i64) (.int .i64)) (.int .u64)) (.int .i64) v0_4.2), (1900, .box 76 [.sl (.pair (.int .i64) (.pair (.int .i64) (.pair (.sl (.sl (.int .i64))) (.sl (.sl (.int .i64)))))) s, .sl (.pair (.int .i64) (.pair (.int .i64) (.pair (.int .i64) (.pair (.int .i64) (.pair (.int .i64) (.int .i64)))))) s_2, .fn (.func 77) [] [], .own 1000]), (1901, .box 95 [.int .i64 st1.2.1, .int .i64 st1.2.2.1, .int .u64 st1.2.2.2.1]), (1902, .box 33 [.own 28])] (by (simp only [go_sem, hb2, hb9]) <;> (repeat' with_reducible apply And.intro) <;> first | assumption | rfl | omega | (unfold maxLen; omega)) ?_
          refine athen_n ?_
          refine AW.cond (b := (decide (0 < v0_4.1))) rfl (fun hb15 => ?_) (fun hb15 => ?_)
          · rw [if_pos hb15] at h
            refine AW.seq ?_
            refine AW.draw tab_ok mixed_ok [(2, [27]), (3, [28]), (5, [1902]), (6, [1901])] [(0, [28, 1902]), (4, [7]), (100005, []), (100006, [])] (by decide) (by kernel_rfl) ?_
            obtain ⟨c17, h⟩ := ck_some.1 h
            refine adops_cut 6 (fun K' hK16 => ?_)
            try dsimp only [List.drop_succ_cons, List.drop_zero, List.take_succ_cons, List.take_zero]
            simp only [go_sem, hb2, hb9, hb15]
            repeat (with_reducible refine And.intro (by first | assumption | rfl | omega | trivial | (unfold maxLen; omega)) ?_)
            refine hK16 _ ?_
            refine adops_cut 1 (fun K' hK18 => ?_)
            try dsimp only [List.drop_succ_cons, List.drop_zero, List.take_succ_cons, List.take_zero]
            simp only [go_sem, hb2, hb9, hb15]
            repeat (with_reducible refine And.intro (by first | assumption | rfl | omega | trivial | (unfold maxLen; omega)) ?_)
            refine hK18 _ ?_
            refine adops_nil ?_
            refine athen_n ?_
            refine AW.weaken (s' := ⟨fr [(1, .bp 1900 0), (4, .bp 1901 0), (5, .bp 1902 0)], hpGet [(28, .arr 3 (.int .i64) (st1.2.2.2.2 ++ [y2.1])), (1000, .map true false (.pair (.pair (.int .i64) (.int .i64)) (.int .u64)) (.int .i64) v0_4.2), (1900, .box 76 [.sl (.pair (.int .i64) (.pair (.int .i64) (.pair (.sl (.sl (.int .i64))) (.sl (.sl (.int .i64)))))) s, .sl (.pair (.int .i64) (.pair (.int .i64) (.pair (.int .i64) (.pair (.int .i64) (.pair (.int .i64) (.int .i64)))))) s_2, .fn (.func 77) [] [], .own 1000]), (1901, .box 95 [.int .i64 y2.2.1.1, .int .i64 y2.2.1.2, .int .u64 y2.2.2]), (1902, .box 33 [.own 28])], gt⟩) (Wk.to (by (simp only [go_sem, hb2, hb9, hb15]) <;> (repeat' with_reducible apply And.intro) <;> first | assumption | rfl | omega | (unfold maxLen; omega))) ?_
            refine AW.exit ?_
            refine ablock_o (by decide) ?_
            obtain rfl := Option.some.inj h
            exact rpost_exit rfl rfl [] [] [] rfl (by (simp only [go_sem, hb2, hb9, hb15]) <;> (repeat' with_reducible apply And.intro) <;> first | assumption | rfl | omega | (unfold maxLen; omega))
          · rw [if_neg (Bool.eq_false_iff.1 hb15)] at h
            refine AW.skip ?_
            refine ablock_n ?_
            obtain rfl := Option.some.inj h
            exact rpost_next rfl [] [] [] rfl (by (simp only [go_sem, hb2, hb9, hb15]) <;> (repeat' with_reducible apply And.intro) <;> first | assumption | rfl | omega | (unfold maxLen; omega))
        · cases x11 with
          | inl st2_2 =>
            try simp only at h
            refine ablock_n ?_
            refine ablock_n ?_
            obtain rfl := Option.some.inj h
            exact ⟨_, rfl, Wk.le [] [] [] rfl (by (simp only [go_sem, hb2, hb9]) <;> (repeat' with_reducible apply And.intro) <;> first | assumption | rfl | omega | (unfold maxLen; omega)) (by (simp only [go_sem, hb2, hb9]) <;> (repeat' with_reducible apply And.intro) <;> first | assumption | rfl | omega | (unfold maxLen; omega))⟩
          | inr r2 =>
            try simp only at h
            refine ablock_s ?_
            refine ablock_n ?_
            obtain rfl := Option.some.inj h
            exact ⟨_, rfl, Wk.le [] [] [] rfl (by (simp only [go_sem, hb2, hb9]) <;> (repeat' with_reducible apply And.intro) <;> first | assumption | rfl | omega | (unfold maxLen; omega)) (by (simp only [go_sem, hb2, hb9]) <;> (repeat' with_reducible apply And.intro) <;> first | assumption | rfl | omega | (unfold maxLen; omega))⟩
      · rw [if_neg (Bool.eq_false_iff.1 hb9)] at h
        refine AW.exit ?_
        refine athen_e ?_
        obtain rfl := Option.some.inj h
        rw [← hd5 _ rfl] at ho4
        have h := ho4
        refine athen_e ?_
        refine ablock_s ?_
        refine athen_n ?_
        exact AW.weaken (Wk.le [] [] [] rfl (by (simp only [go_sem, hb2, hb9]) <;> (repeat' with_reducible apply And.intro) <;> first | assumption | rfl | omega | (unfold maxLen; omega)) (by (simp only [go_sem, hb2, hb9]) <;> (repeat' with_reducible apply And.intro) <;> first | assumption | rfl | omega | (unfold maxLen; omega))) (hk_history_search_first_k1 _ h)

set_option maxRecDepth 100000 in
set_option maxHeartbeats 2000000 in
theorem hc_history_Order (specs : List (Int × Int × (List (List Int)) × (List (List Int)))) (h0 : List (Int × Int × Int × Int × Int × Int)) {r : (List Int) × Int} (h : history_Order specs h0 = some r) : HC Try.prog 30 [] [.sl (.pair (.int .i64) (.pair (.int .i64) (.pair (.sl (.sl (.int .i64))) (.sl (.sl (.int .i64)))))) specs, .sl (.pair (.int .i64) (.pair (.int .i64) (.pair (.int .i64) (.pair (.int .i64) (.pair (.int .i64) (.int .i64)))))) h0] [(2000, .arr 3 (.int .i64) r.1)] (.tup [.own 2000, .int .i64 r.2]) := by
  unfold history_Order at h
  refine HC.of_body tab_ok (res := [.tmp 4, .tmp 5]) Try.func30 rfl (by kernel_rfl) rfl (nt := 29) rfl (by decide) (by simp) ?_
  refine AW.seq ?_
  refine AW.ops ?_
  refine AO.allF tab_ok (by decide) [(2, .bp 2 0), (3, .bp 3 0)] [(2, .box 22 [.sl (.pair (.int .i64) (.pair (.int .i64) (.pair (.sl (.sl (.int .i64))) (.sl (.sl (.int .i64)))))) specs]), (3, .box 23 [.sl (.pair (.int .i64) (.pair (.int .i64) (.pair (.int .i64) (.pair (.int .i64) (.pair (.int .i64) (.int .i64)))))) h0])] (by (simp only [go_sem]) <;> (repeat' with_reducible apply And.intro) <;> first | assumption | rfl | omega | (unfold maxLen; omega)) ?_
  refine athen_n ?_
  refine AW.seq ?_
  refine AW.ops ?_
  refine AO.segF tab_ok 2 (by decide) [(2, .bp 2 0), (3, .bp 3 0), (11, .sl (.pair (.int .i64) (.pair (.int .i64) (.pair (.sl (.sl (.int .i64))) (.sl (.sl (.int .i64)))))) specs), (12, .sl (.pair (.int .i64) (.pair (.int .i64) (.pair (.int .i64) (.pair (.int .i64) (.pair (.int .i64) (.int .i64)))))) h0)] [(2, .box 22 [.sl (.pair (.int .i64) (.pair (.int .i64) (.pair (.sl (.sl (.int .i64))) (.sl (.sl (.int .i64)))))) specs]), (3, .box 23 [.sl (.pair (.int .i64) (.pair (.int .i64) (.pair (.int .i64) (.pair (.int .i64) (.pair (.int .i64) (.int .i64)))))) h0])] (by (simp only [go_sem]) <;> (repeat' with_reducible apply And.intro) <;> first | assumption | rfl | omega | (unfold maxLen; omega)) ?_
  obtain ⟨v0, hv1, h⟩ := Option.bind_eq_some_iff.1 h
  refine AO.call tab_ok (by decide) rfl rfl rfl (fun _ h => h) [] [] (hc_history_checkFor specs h0 hv1) rfl (by (simp only [go_sem]) <;> (repeat' with_reducible apply And.intro) <;> first | assumption | rfl | omega | (unfold maxLen; omega)) (by (simp only [go_sem]) <;> (repeat' with_reducible apply And.intro) <;> first | assumption | rfl | omega | (unfold maxLen; omega)) [(2, .bp 2 0), (3, .bp 3 0), (13, .int .i64 v0)] [(2, .box 22 [.sl (.pair (.int .i64) (.pair (.int .i64) (.pair (.sl (.sl (.int .i64))) (.sl (.sl (.int .i64)))))) specs]), (3, .box 23 [.sl (.pair (.int .i64) (.pair (.int .i64) (.pair (.int .i64) (.pair (.int .i64) (.pair (.int .i64) (.int .i64)))))) h0])] (by (simp only [go_sem]) <;> (repeat' with_reducible apply And.intro) <;> first | assumption | rfl | omega | (unfold maxLen; omega)) ?_
  refine AO.segF tab_ok 1 (by decide) [(13, .int .i64 v0), (14, .fn (.func 85) [] [.bp 2 0, .bp 3 0])] [(2, .box 22 [.sl (.pair (.int .i64) (.pair (.int .i64) (.pair (.sl (.sl (.int .i64))) (.sl (.sl (.int .i64)))))) specs]), (3, .box 23 [.sl (.pair (.int .i64) (.pair (.int .i64) (.pair (.int .i64) (.pair (.int .i64) (.pair (.int .i64) (.int .i64)))))) h0])] (by (simp only [go_sem]) <;> (repeat' with_reducible apply And.intro) <;> first | assumption | rfl | omega | (unfold maxLen; omega)) ?_
  rcases Bool.eq_false_or_eq_true (decide (v0 = 0)) with hb2 | hb2
  · rw [if_pos hb2] at h
    have hz3 : v0 = 0 := by simpa using hb2
    refine AO.weaken (s' := ⟨fr [(13, .int .i64 0), (14, .fn (.func 85) [] [.bp 2 0, .bp 3 0])], hpGet [(2, .box 22 [.sl (.pair (.int .i64) (.pair (.int .i64) (.pair (.sl (.sl (.int .i64))) (.sl (.sl (.int .i64)))))) specs]), (3, .box 23 [.sl (.pair (.int .i64) (.pair (.int .i64) (.pair (.int .i64) (.pair (.int .i64) (.pair (.int .i64) (.int .i64)))))) h0])], gt⟩) (Wk.to (by (simp only [go_sem, hb2, hz3]) <;> (repeat' with_reducible apply And.intro) <;> first | assumption | rfl | omega | (unfold maxLen; omega))) ?_
    obtain ⟨v0_2, hv4, h⟩ := Option.bind_eq_some_iff.1 h
    refine AO.call tab_ok (by decide) rfl rfl rfl (fun _ h => h) [] [(1000, 2), (1001, 3)] (hc_history_told specs h0 hv4) rfl (by (simp only [go_sem, hb2, hz3]) <;> (repeat' with_reducible apply And.intro) <;> first | assumption | rfl | omega | (unfold maxLen; omega)) (by (simp only [go_sem, hb2, hz3]) <;> (repeat' with_reducible apply And.intro) <;> first | assumption | rfl | omega | (unfold maxLen; omega)) [(15, .tup [.agg [.sl (.pair (.int .i64) (.pair (.int .i64) (.pair (.sl (.sl (.int .i64))) (.sl (.sl (.int .i64)))))) specs, .sl (.pair (.int .i64) (.pair (.int .i64) (.pair (.int .i64) (.pair (.int .i64) (.pair (.int .i64) (.int .i64)))))) h0, .fn (.func 77) [] [], .own 25000], .int .i64 0])] [(25000, .map true false (.pair (.pair (.int .i64) (.int .i64)) (.int .u64)) (.int .i64) [])] (by (simp only [go_sem, hb2, hz3]) <;> (repeat' with_reducible apply And.intro) <;> first | assumption | rfl | omega | (unfold maxLen; omega)) ?_
    refine AO.allF tab_ok (by decide) [(6, .bp 6 0), (7, .int .i64 0)] [(6, .box 76 [.sl (.pair (.int .i64) (.pair (.int .i64) (.pair (.sl (.sl (.int .i64))) (.sl (.sl (.int .i64)))))) specs, .sl (.pair (.int .i64) (.pair (.int .i64) (.pair (.int .i64) (.pair (.int .i64) (.pair (.int .i64) (.int .i64)))))) h0, .fn (.func 77) [] [], .own 25000]), (25000, .map true false (.pair (.pair (.int .i64) (.int .i64)) (.int .u64)) (.int .i64) [])] (by (simp only [go_sem, hb2, hz3]) <;> (repeat' with_reducible apply And.intro) <;> first | assumption | rfl | omega | (unfold maxLen; omega)) ?_
    refine athen_n ?_
    refine AW.seq ?_
    refine AW.seq ?_
    refine AW.ops ?_
    refine AO.allF tab_ok (by decide) [(6, .bp 6 0), (7, .int .i64 0), (19, .bool false)] [(6, .box 76 [.sl (.pair (.int .i64) (.pair (.int .i64) (.pair (.sl (.sl (.int .i64))) (.sl (.sl (.int .i64)))))) specs, .sl (.pair (.int .i64) (.pair (.int .i64) (.pair (.int .i64) (.pair (.int .i64) (.pair (.int .i64) (.int .i64)))))) h0, .fn (.func 77) [] [], .own 25000]), (25000, .map true false (.pair (.pair (.int .i64) (.int .i64)) (.int .u64)) (.int .i64) [])] (by (simp only [go_sem, hb2, hz3]) <;> (repeat' with_reducible apply And.intro) <;> first | assumption | rfl | omega | (unfold maxLen; omega)) ?_
    refine athen_n ?_
    refine AW.cond (b := false) rfl (fun hb5 => by cases hb5) (fun _ => ?_)
    refine AW.skip ?_
    refine athen_n ?_
    refine AW.seq ?_
    refine AW.ops ?_
    refine AO.segF tab_ok 1 (by decide) [(22, .agg [.sl (.pair (.int .i64) (.pair (.int .i64) (.pair (.sl (.sl (.int .i64))) (.sl (.sl (.int .i64)))))) specs, .sl (.pair (.int .i64) (.pair (.int .i64) (.pair (.int .i64) (.pair (.int .i64) (.pair (.int .i64) (.int .i64)))))) h0, .fn (.func 77) [] [], .own 25000])] [(25000, .map true false (.pair (.pair (.int .i64) (.int .i64)) (.int .u64)) (.int .i64) [])] (by (simp only [go_sem, hb2, hz3]) <;> (repeat' with_reducible apply And.intro) <;> first | assumption | rfl | omega | (unfold maxLen; omega)) ?_
    obtain ⟨v0_3, hv6, h⟩ := Option.bind_eq_some_iff.1 h
    refine AO.call tab_ok (by decide) rfl rfl rfl (fun _ h => h) [] [(1000, 25000)] (hc_history_search_first specs h0 [] hv6) rfl (by (simp only [go_sem, hb2, hz3]) <;> (repeat' with_reducible apply And.intro) <;> first | assumption | rfl | omega | (unfold maxLen; omega)) (by (simp only [go_sem, hb2, hz3]) <;> (repeat' with_reducible apply And.intro) <;> first | assumption | rfl | omega | (unfold maxLen; omega)) [(23, .tup [.own 33000, .bool v0_3.2.1])] [(33000, .arr 3 (.int .i64) v0_3.1)] (by (simp only [go_sem, hb2, hz3]) <;> (repeat' with_reducible apply And.intro) <;> first | assumption | rfl | omega | (unfold maxLen; omega)) ?_
    refine AO.allF tab_ok (by decide) [(8, .own 33000), (9, .bool v0_3.2.1)] [(33000, .arr 3 (.int .i64) v0_3.1)] (by (simp only [go_sem, hb2, hz3]) <;> (repeat' with_reducible apply And.intro) <;> first | assumption | rfl | omega | (unfold maxLen; omega)) ?_
    refine athen_n ?_
    refine AW.seq ?_
    refine AW.seq ?_
    refine AW.ops ?_
    refine AO.allF tab_ok (by decide) [(8, .own 33000), (27, .bool (!v0_3.2.1))] [(33000, .arr 3 (.int .i64) v0_3.1)] (by (simp only [go_sem, hb2, hz3]) <;> (repeat' with_reducible apply And.intro) <;> first | assumption | rfl | omega | (unfold maxLen; omega)) ?_
    refine athen_n ?_
    refine AW.cond (b := (!v0_3.2.1)) rfl (fun hb7 => ?_) (fun hb7 => ?_)
    · rw [if_pos hb7] at h
      refine AW.seq ?_
      refine AW.ops ?_
      refine AO.allF tab_ok (by decide) [(4, .cv (.slice none 0 0)), (5, .int .i64 5)] [] (by (simp only [go_sem, hb2, hz3, hb7]) <;> (repeat' with_reducible apply And.intro) <;> first | assumption | rfl | omega | (unfold maxLen; omega)) ?_
      refine athen_n ?_
      refine AW.ret ?_
      refine athen_r ?_
      obtain rfl := Option.some.inj h
      exact ⟨rfl, [], [2000], [], rfl, (by (simp only [go_sem, hb2, hz3, hb7]) <;> (repeat' with_reducible apply And.intro) <;> first | assumption | rfl | omega | (unfold maxLen; omega))⟩
    · rw [if_neg (Bool.eq_false_iff.1 hb7)] at h
      refine AW.skip ?_
      refine athen_n ?_
      refine AW.seq ?_
      refine AW.ops ?_
      refine AO.allF tab_ok (by decide) [(4, .own 33000), (5, .int .i64 0)] [(33000, .arr 3 (.int .i64) v0_3.1)] (by (simp only [go_sem, hb2, hz3, hb7]) <;> (repeat' with_reducible apply And.intro) <;> first | assumption | rfl | omega | (unfold maxLen; omega)) ?_
      refine athen_n ?_
      refine AW.ret ?_
      obtain rfl := Option.some.inj h
      exact ⟨rfl, [], [], [(2000, 33000)], rfl, (by (simp only [go_sem, hb2, hz3, hb7]) <;> (repeat' with_reducible apply And.intro) <;> first | assumption | rfl | omega | (unfold maxLen; omega))⟩
  · rw [if_neg (Bool.eq_false_iff.1 hb2)] at h
    refine AO.weaken (s' := ⟨fr [(13, .int .i64 v0), (14, .fn (.func 85) [] [.bp 2 0, .bp 3 0])], hpGet [(2, .box 22 [.sl (.pair (.int .i64) (.pair (.int .i64) (.pair (.sl (.sl (.int .i64))) (.sl (.sl (.int .i64)))))) specs]), (3, .box 23 [.sl (.pair (.int .i64) (.pair (.int .i64) (.pair (.int .i64) (.pair (.int .i64) (.pair (.int .i64) (.int .i64)))))) h0])], gt⟩) (Wk.to (by (simp only [go_sem, hb2]) <;> (repeat' with_reducible apply And.intro) <;> first | assumption | rfl | omega | (unfold maxLen; omega))) ?_
    obtain ⟨v0_4, hv8, h⟩ := Option.bind_eq_some_iff.1 h
    refine AO.call tab_ok (by decide) rfl rfl rfl (fun _ h => h) [] [(1000, 2), (1001, 3)] (hc_history_told_2 v0 specs h0 hb2 hv8) rfl (by (simp only [go_sem, hb2]) <;> (repeat' with_reducible apply And.intro) <;> first | assumption | rfl | omega | (unfold maxLen; omega)) (by (simp only [go_sem, hb2]) <;> (repeat' with_reducible apply And.intro) <;> first | assumption | rfl | omega | (unfold maxLen; omega)) [(15, .tup [.agg [.cv (.slice none 0 0), .cv (.slice none 0 0), .cv (.nilFunc), .cv (.map none)], .int .i64 v0])] [] (by (simp only [go_sem, hb2]) <;> (repeat' with_reducible apply And.intro) <;> first | assumption | rfl | omega | (unfold maxLen; omega)) ?_
    refine AO.allF tab_ok (by decide) [(6, .bp 6 0), (7, .int .i64 v0)] [(6, .box 76 [.cv (.slice none 0 0), .cv (.slice none 0 0), .cv (.nilFunc), .cv (.map none)])] (by (simp only [go_sem, hb2]) <;> (repeat' with_reducible apply And.intro) <;> first | assumption | rfl | omega | (unfold maxLen; omega)) ?_
    refine athen_n ?_
    refine AW.seq ?_
    refine AW.seq ?_
    refine AW.ops ?_
    refine AO.allF tab_ok (by decide) [(6, .bp 6 0), (7, .int .i64 v0), (19, .bool true)] [(6, .box 76 [.cv (.slice none 0 0), .cv (.slice none 0 0), .cv (.nilFunc), .cv (.map none)])] (by (simp only [go_sem, hb2]) <;> (repeat' with_reducible apply And.intro) <;> first | assumption | rfl | omega | (unfold maxLen; omega)) ?_
    refine athen_n ?_
    refine AW.cond (b := true) rfl (fun _ => ?_) (fun hb9 => by cases hb9)
    refine AW.seq ?_
    refine AW.ops ?_
    refine AO.allF tab_ok (by decide) [(4, .cv (.slice none 0 0)), (5, .int .i64 v0)] [] (by (simp only [go_sem, hb2]) <;> (repeat' with_reducible apply And.intro) <;> first | assumption | rfl | omega | (unfold maxLen; omega)) ?_
    refine athen_n ?_
    refine AW.ret ?_
    refine athen_r ?_
    obtain rfl := Option.some.inj h
    exact ⟨rfl, [], [2000], [], rfl, (by (simp only [go_sem, hb2]) <;> (repeat' with_reducible apply And.intro) <;> first | assumption | rfl | omega | (unfold maxLen; omega))⟩

set_option maxRecDepth 100000 in
set_option maxHeartbeats 2000000 in
theorem hc_linealref02_SameInts (a : List Int) (b : List Int) {r : Bool} (h : linealref02_SameInts a b = some r) : HC Try.prog 32 [] [.sl (.int .i64) a, .sl (.int .i64) b] [] (.bool r) := by
  unfold linealref02_SameInts at h
  refine HC.of_body tab_ok (res := [.tmp 4]) Try.func32 rfl (by kernel_rfl) rfl (nt := 26) rfl (by decide) (by simp) ?_
  refine AW.seq ?_
  refine AW.ops ?_
  refine AO.allF tab_ok (by decide) [(0, .sl (.int .i64) a), (1, .sl (.int .i64) b)] [] (by (simp only [go_sem]) <;> (repeat' with_reducible apply And.intro) <;> first | assumption | rfl | omega | (unfold maxLen; omega)) ?_
  refine athen_n ?_
  refine AW.seq ?_
  refine AW.seq ?_
  refine AW.ops ?_
  refine AO.allF tab_ok (by decide) [(0, .sl (.int .i64) a), (1, .sl (.int .i64) b), (10, .bool (!(decide ((a.length : Int) = (b.length : Int)))))] [] (by (simp only [go_sem]) <;> (repeat' with_reducible apply And.intro) <;> first | assumption | rfl | omega | (unfold maxLen; omega)) ?_
  refine athen_n ?_
  refine AW.cond (b := (!(decide ((a.length : Int) = (b.length : Int))))) rfl (fun hb1 => ?_) (fun hb1 => ?_)
  · rw [if_pos hb1] at h
    refine AW.seq ?_
    refine AW.ops ?_
    refine AO.allF tab_ok (by decide) [(4, .bool false)] [] (by (simp only [go_sem, hb1]) <;> (repeat' with_reducible apply And.intro) <;> first | assumption | rfl | omega | (unfold maxLen; omega)) ?_
    refine athen_n ?_
    refine AW.ret ?_
    refine athen_r ?_
    obtain rfl := Option.some.inj h
    exact ⟨rfl, [], [], [], rfl, (by (simp only [go_sem, hb1]) <;> (repeat' with_reducible apply And.intro) <;> first | assumption | rfl | omega | (unfold maxLen; omega))⟩
  · rw [if_neg (Bool.eq_false_iff.1 hb1)] at h
    refine AW.skip ?_
    refine athen_n ?_
    refine AW.have1 (fun _ : Unit => linealref02_SameInts_k1 = some r) (fun _ => ⟨fr [], hpGet [], gt⟩) (fun _ h => ?_) (fun hk_linealref02_SameInts_k1 => ?_)
    · unfold linealref02_SameInts_k1 at h
      refine AW.seq ?_
      refine AW.ops ?_
      refine AO.allF tab_ok (by decide) [(4, .bool true)] [] (by (simp only [go_sem, hb1]) <;> (repeat' with_reducible apply And.intro) <;> first | assumption | rfl | omega | (unfold maxLen; omega)) ?_
      refine athen_n ?_
      refine AW.ret ?_
      obtain rfl := Option.some.inj h
      exact ⟨rfl, [], [], [], rfl, (by (simp only [go_sem, hb1]) <;> (repeat' with_reducible apply And.intro) <;> first | assumption | rfl | omega | (unfold maxLen; omega))⟩
    · refine AW.seq ?_
      refine AW.seq ?_
      refine AW.ops ?_
      refine AO.allF tab_ok (by decide) [(0, .sl (.int .i64) a), (1, .sl (.int .i64) b), (5, .int .i64 0)] [] (by (simp only [go_sem, hb1]) <;> (repeat' with_reducible apply And.intro) <;> first | assumption | rfl | omega | (unfold maxLen; omega)) ?_
      refine athen_n ?_
      refine AW.block ?_
      obtain ⟨rv6, hw2, ho3⟩ := Option.bind_eq_some_iff.1 h
      refine AW.loopO (linealref02_SameInts_b1 a b) (fun st1 => ⟨fr [(0, .sl (.int .i64) a), (1, .sl (.int .i64) b), (5, .int .i64 st1)], hpGet [], gt⟩) 0 hw2 (Wk.le [] [] [] rfl (by (simp only [go_sem, hb1]) <;> (repeat' with_reducible apply And.intro) <;> first | assumption | rfl | omega | (unfold maxLen; omega)) (by (simp only [go_sem, hb1]) <;> (repeat' with_reducible apply And.intro) <;> first | assumption | rfl | omega | (unfold maxLen; omega))) ?_
      intro st1 x5 h hd4
      unfold linealref02_SameInts_b1 at h
      refine AW.seq ?_
      refine AW.seq ?_
      refine AW.ops ?_
      refine AO.allF tab_ok (by decide) [(0, .sl (.int .i64) a), (1, .sl (.int .i64) b), (5, .int .i64 st1), (14, .bool (decide (st1 < (a.length : Int))))] [] (by (simp only [go_sem, hb1]) <;> (repeat' with_reducible apply And.intro) <;> first | assumption | rfl | omega | (unfold maxLen; omega)) ?_
      refine athen_n ?_
      refine AW.cond (b := (decide (st1 < (a.length : Int)))) rfl (fun hb7 => ?_) (fun hb7 => ?_)
      · rw [if_pos hb7] at h
        refine AW.skip ?_
        refine athen_n ?_
        refine AW.seq ?_
        refine AW.block ?_
        refine AW.seq ?_
        refine AW.draw tab_ok mixed_ok [] [] (by decide) (by kernel_rfl) ?_
        obtain ⟨c9, h⟩ := ck_some.1 h
        obtain ⟨c10, h⟩ := ck_some.1 h
        refine adops_cut 6 (fun K' hK8 => ?_)
        try dsimp only [List.drop_succ_cons, List.drop_zero, List.take_succ_cons, List.take_zero]
        simp only [go_sem, hb1, hb7]
        repeat (with_reducible refine And.intro (by first | assumption | rfl | omega | trivial | (unfold maxLen; omega)) ?_)
        refine hK8 _ ?_
        obtain ⟨c12, h⟩ := ck_some.1 h
        obtain ⟨c13, h⟩ := ck_some.1 h
        refine adops_cut 3 (fun K' hK11 => ?_)
        try dsimp only [List.drop_succ_cons, List.drop_zero, List.take_succ_cons, List.take_zero]
        simp only [go_sem, hb1, hb7]
        repeat (with_reducible refine And.intro (by first | assumption | rfl | omega | trivial | (unfold maxLen; omega)) ?_)
        refine hK11 _ ?_
        refine adops_nil ?_
        refine athen_n ?_
        refine AW.weaken (s' := ⟨fr [(0, .sl (.int .i64) a), (1, .sl (.int .i64) b), (5, .int .i64 st1), (25, .bool (!(decide ((a.getD st1.toNat 0) = (b.getD st1.toNat 0)))))], hpGet [], gt⟩) (Wk.to (by (simp only [go_sem, hb1, hb7]) <;> (repeat' with_reducible apply And.intro) <;> first | assumption | rfl | omega | (unfold maxLen; omega))) ?_
        refine AW.cond (b := (!(decide ((a.getD st1.toNat 0) = (b.getD st1.toNat 0))))) rfl (fun hb14 => ?_) (fun hb14 => ?_)
        · rw [if_pos hb14] at h
          refine AW.seq ?_
          refine AW.ops ?_
          refine AO.allF tab_ok (by decide) [(4, .bool false)] [] (by (simp only [go_sem, hb1, hb7, hb14]) <;> (repeat' with_reducible apply And.intro) <;> first | assumption | rfl | omega | (unfold maxLen; omega)) ?_
          refine athen_n ?_
          refine AW.ret ?_
          refine ablock_r ?_
          refine athen_r ?_
          obtain rfl := Option.some.inj h
          rw [← hd4 _ rfl] at ho3
          have h := ho3
          try simp only at h
          refine athen_r ?_
          refine ablock_r ?_
          refine athen_r ?_
          obtain rfl := Option.some.inj h
          exact ⟨rfl, [], [], [], rfl, (by (simp only [go_sem, hb1, hb7, hb14]) <;> (repeat' with_reducible apply And.intro) <;> first | assumption | rfl | omega | (unfold maxLen; omega))⟩
        · rw [if_neg (Bool.eq_false_iff.1 hb14)] at h
          refine AW.skip ?_
          refine ablock_n ?_
          refine athen_n ?_
          refine AW.ops ?_
          obtain ⟨c15, h⟩ := ck_some.1 h
          refine AO.allF tab_ok (by decide) [(0, .sl (.int .i64) a), (1, .sl (.int .i64) b), (5, .int .i64 (st1 + 1))] [] (by (simp only [go_sem, hb1, hb7, hb14]) <;> (repeat' with_reducible apply And.intro) <;> first | assumption | rfl | omega | (unfold maxLen; omega)) ?_
          obtain rfl := Option.some.inj h
          exact ⟨_, rfl, Wk.le [] [] [] rfl (by (simp only [go_sem, hb1, hb7, hb14]) <;> (repeat' with_reducible apply And.intro) <;> first | assumption | rfl | omega | (unfold maxLen; omega)) (by (simp only [go_sem, hb1, hb7, hb14]) <;> (repeat' with_reducible apply And.intro) <;> first | assumption | rfl | omega | (unfold maxLen; omega))⟩
      · rw [if_neg (Bool.eq_false_iff.1 hb7)] at h
        refine AW.exit ?_
        refine athen_e ?_
        obtain rfl := Option.some.inj h
        rw [← hd4 _ rfl] at ho3
        have h := ho3
        try simp only at h
        refine athen_e ?_
        refine ablock_s ?_
        refine athen_n ?_
        exact AW.weaken (Wk.le [] [] [] rfl (by (simp only [go_sem, hb1, hb7]) <;> (repeat' with_reducible apply And.intro) <;> first | assumption | rfl | omega | (unfold maxLen; omega)) (by (simp only [go_sem, hb1, hb7]) <;> (repeat' with_reducible apply And.intro) <;> first | assumption | rfl | omega | (unfold maxLen; omega))) (hk_linealref02_SameInts_k1 () h)

set_option maxRecDepth 100000 in
set_option maxHeartbeats 2000000 in
theorem hc_lineallaw02_Sane {r : Bool} (h : lineallaw02_Sane = some r) : HC Try.prog 19 [] [] [] (.bool r) := by
  unfold lineallaw02_Sane at h
  refine HC.of_body tab_ok (res := [.tmp 0]) Try.func19 rfl (by kernel_rfl) rfl (nt := 27) rfl (by decide) (by simp) ?_
  refine AW.seq ?_
  refine AW.ops ?_
  refine AO.allF tab_ok (by decide) [] [] (by (simp only [go_sem]) <;> (repeat' with_reducible apply And.intro) <;> first | assumption | rfl | omega | (unfold maxLen; omega)) ?_
  refine athen_n ?_
  refine AW.seq ?_
  refine AW.ops ?_
  refine AO.allF tab_ok (by decide) [(1, .bp 1 0)] [(1, .box 64 [.int .i64 2, .int .i64 2, .own 6, .own 9]), (6, .arr 33 (.sl (.int .i64)) [[1, 0], [1, 0]]), (9, .arr 33 (.sl (.int .i64)) [[1, 0], [0, 1]])] (by (simp only [go_sem]) <;> (repeat' with_reducible apply And.intro) <;> first | assumption | rfl | omega | (unfold maxLen; omega)) ?_
  refine athen_n ?_
  refine AW.seq ?_
  refine AW.ops ?_
  refine AO.segF tab_ok 5 (by decide) [(13, .own 13), (16, .own 16)] [(13, .arr 64 (.pair (.int .i64) (.pair (.int .i64) (.pair (.sl (.sl (.int .i64))) (.sl (.sl (.int .i64)))))) [(2, 2, [[1, 0], [1, 0]], [[1, 0], [0, 1]])]), (16, .arr 55 (.pair (.int .i64) (.pair (.int .i64) (.pair (.int .i64) (.pair (.int .i64) (.pair (.int .i64) (.int .i64)))))) [(0, 0, 0, 1, 1, 6), (1, 0, 1, 0, 2, 5)])] (by (simp only [go_sem]) <;> (repeat' with_reducible apply And.intro) <;> first | assumption | rfl | omega | (unfold maxLen; omega)) ?_
  obtain ⟨v0, hv1, h⟩ := Option.bind_eq_some_iff.1 h
  refine AO.call tab_ok (by decide) rfl rfl rfl (fun _ h => h) [13, 16] [] (hc_history_Order [(2, 2, [[1, 0], [1, 0]], [[1, 0], [0, 1]])] [(0, 0, 0, 1, 1, 6), (1, 0, 1, 0, 2, 5)] hv1) rfl (by (simp only [go_sem]) <;> (repeat' with_reducible apply And.intro) <;> first | assumption | rfl | omega | (unfold maxLen; omega)) (by (simp only [go_sem]) <;> (repeat' with_reducible apply And.intro) <;> first | assumption | rfl | omega | (unfold maxLen; omega)) [(17, .tup [.own 27000, .int .i64 v0.2])] [(27000, .arr 3 (.int .i64) v0.1)] (by (simp only [go_sem]) <;> (repeat' with_reducible apply And.intro) <;> first | assumption | rfl | omega | (unfold maxLen; omega)) ?_
  refine AO.allF tab_ok (by decide) [(2, .own 27000), (3, .int .i64 v0.2)] [(27000, .arr 3 (.int .i64) v0.1)] (by (simp only [go_sem]) <;> (repeat' with_reducible apply And.intro) <;> first | assumption | rfl | omega | (unfold maxLen; omega)) ?_
  refine athen_n ?_
  refine AW.seq ?_
  refine AW.ops ?_
  refine AO.segF tab_ok 3 (by decide) [(2, .own 27000), (22, .bool (decide (v0.2 = 0)))] [(27000, .arr 3 (.int .i64) v0.1)] (by (simp only [go_sem]) <;> (repeat' with_reducible apply And.intro) <;> first | assumption | rfl | omega | (unfold maxLen; omega)) ?_
  rcases Bool.eq_false_or_eq_true (decide (v0.2 = 0)) with hb2 | hb2
  · rw [if_pos hb2] at h
    refine AO.weaken (s' := ⟨fr [(2, .own 27000), (22, .bool true)], hpGet [(27000, .arr 3 (.int .i64) v0.1)], gt⟩) (Wk.to (by (simp only [go_sem, hb2]) <;> (repeat' with_reducible apply And.intro) <;> first | assumption | rfl | omega | (unfold maxLen; omega))) ?_
    refine AO.segF tab_ok 2 (by decide) [(22, .bool true), (23, .own 27000), (24, .own 24)] [(24, .arr 3 (.int .i64) [1, 0]), (27000, .arr 3 (.int .i64) v0.1)] (by (simp only [go_sem, hb2]) <;> (repeat' with_reducible apply And.intro) <;> first | assumption | rfl | omega | (unfold maxLen; omega)) ?_
    obtain ⟨v0_2, hv3, h⟩ := Option.bind_eq_some_iff.1 h
    refine AO.call tab_ok (by decide) rfl rfl rfl (fun _ h => ⟨fun _ => h, fun hn => absurd rfl hn⟩) [24, 27000] [] (hc_linealref02_SameInts v0.1 [1, 0] hv3) rfl (by (simp only [go_sem, hb2]) <;> (repeat' with_reducible apply And.intro) <;> first | assumption | rfl | omega | (unfold maxLen; omega)) (by (simp only [go_sem, hb2]) <;> (repeat' with_reducible apply And.intro) <;> first | assumption | rfl | omega | (unfold maxLen; omega)) [(22, .bool true), (25, .bool v0_2)] [] (by (simp only [go_sem, hb2]) <;> (repeat' with_reducible apply And.intro) <;> first | assumption | rfl | omega | (unfold maxLen; omega)) ?_
    refine AO.allF tab_ok (by decide) [(0, .bool v0_2)] [] (by (simp only [go_sem, hb2]) <;> (repeat' with_reducible apply And.intro) <;> first | assumption | rfl | omega | (unfold maxLen; omega)) ?_
    refine athen_n ?_
    refine AW.ret ?_
    obtain rfl := Option.some.inj h
    exact ⟨rfl, [], [], [], rfl, (by (simp only [go_sem, hb2]) <;> (repeat' with_reducible apply And.intro) <;> first | assumption | rfl | omega | (unfold maxLen; omega))⟩
  · rw [if_neg (Bool.eq_false_iff.1 hb2)] at h
    refine AO.weaken (s' := ⟨fr [(2, .own 27000), (22, .bool false)], hpGet [(27000, .arr 3 (.int .i64) v0.1)], gt⟩) (Wk.to (by (simp only [go_sem, hb2]) <;> (repeat' with_reducible apply And.intro) <;> first | assumption | rfl | omega | (unfold maxLen; omega))) ?_
    refine AO.allF tab_ok (by decide) [(0, .bool false)] [] (by (simp only [go_sem, hb2]) <;> (repeat' with_reducible apply And.intro) <;> first | assumption | rfl | omega | (unfold maxLen; omega)) ?_
    refine athen_n ?_
    refine AW.ret ?_
    obtain rfl := Option.some.inj h
    exact ⟨rfl, [], [], [], rfl, (by (simp only [go_sem, hb2]) <;> (repeat' with_reducible apply And.intro) <;> first | assumption | rfl | omega | (unfold maxLen; omega))⟩

set_option maxRecDepth 100000 in
set_option maxHeartbeats 2000000 in
theorem hc_lineallaw02_Long (h0 : List (Int × Int × Int × Int × Int × Int)) {r : Unit} (h : lineallaw02_Long h0 = some r) : HC Try.prog 18 [] [.sl (.pair (.int .i64) (.pair (.int .i64) (.pair (.int .i64) (.pair (.int .i64) (.pair (.int .i64) (.int .i64)))))) h0] [] (.bool (decide (40 < (h0.length : Int)))) := by
  unfold lineallaw02_Long at h
  refine HC.of_body tab_ok (res := [.tmp 2]) Try.func18 rfl (by kernel_rfl) rfl (nt := 6) rfl (by decide) (by simp) ?_
  refine AW.seq ?_
  refine AW.ops ?_
  refine AO.allF tab_ok (by decide) [(0, .sl (.pair (.int .i64) (.pair (.int .i64) (.pair (.int .i64) (.pair (.int .i64) (.pair (.int .i64) (.int .i64)))))) h0)] [] (by (simp only [go_sem]) <;> (repeat' with_reducible apply And.intro) <;> first | assumption | rfl | omega | (unfold maxLen; omega)) ?_
  refine athen_n ?_
  refine AW.seq ?_
  refine AW.ops ?_
  refine AO.allF tab_ok (by decide) [(2, .bool (decide (40 < (h0.length : Int))))] [] (by (simp only [go_sem]) <;> (repeat' with_reducible apply And.intro) <;> first | assumption | rfl | omega | (unfold maxLen; omega)) ?_
  refine athen_n ?_
  refine AW.ret ?_
  obtain rfl := Option.some.inj h
  exact ⟨rfl, [], [], [], rfl, (by (simp only [go_sem]) <;> (repeat' with_reducible apply And.intro) <;> first | assumption | rfl | omega | (unfold maxLen; omega))⟩

set_option maxRecDepth 100000 in
set_option maxHeartbeats 2000000 in
theorem hc_history_check (h0 : List (Int × Int × Int × Int × Int × Int)) (arguments : Bool) {r : Int} (h : history_check h0 arguments = some r) : HC Try.prog 65 [] [.sl (.pair (.int .i64) (.pair (.int .i64) (.pair (.int .i64) (.pair (.int .i64) (.pair (.int .i64) (.int .i64)))))) h0, .bool arguments] [] (.int .i64 r) := by
  unfold history_check at h
  refine HC.of_body tab_ok (res := [.tmp 4]) Try.func65 rfl (by kernel_rfl) rfl (nt := 10) rfl (by decide) (by simp) ?_
  refine AW.seq ?_
  refine AW.ops ?_
  refine AO.allF tab_ok (by decide) [(0, .sl (.pair (.int .i64) (.pair (.int .i64) (.pair (.int .i64) (.pair (.int .i64) (.pair (.int .i64) (.int .i64)))))) h0), (1, .bool arguments)] [] (by (simp only [go_sem]) <;> (repeat' with_reducible apply And.intro) <;> first | assumption | rfl | omega | (unfold maxLen; omega)) ?_
  refine athen_n ?_
  refine AW.seq ?_
  refine AW.seq ?_
  refine AW.ops ?_
  refine AO.segF tab_ok 1 (by decide) [(1, .bool arguments), (5, .sl (.pair (.int .i64) (.pair (.int .i64) (.pair (.int .i64) (.pair (.int .i64) (.pair (.int .i64) (.int .i64)))))) h0)] [] (by (simp only [go_sem]) <;> (repeat' with_reducible apply And.intro) <;> first | assumption | rfl | omega | (unfold maxLen; omega)) ?_
  obtain ⟨v0, hv1, h⟩ := Option.bind_eq_some_iff.1 h
  refine AO.call tab_ok (by decide) rfl rfl rfl (fun _ h => h) [] [] (hc_history_Valid h0 hv1) rfl (by (simp only [go_sem]) <;> (repeat' with_reducible apply And.intro) <;> first | assumption | rfl | omega | (unfold maxLen; omega)) (by (simp only [go_sem]) <;> (repeat' with_reducible apply And.intro) <;> first | assumption | rfl | omega | (unfold maxLen; omega)) [(1, .bool arguments), (6, .bool v0)] [] (by (simp only [go_sem]) <;> (repeat' with_reducible apply And.intro) <;> first | assumption | rfl | omega | (unfold maxLen; omega)) ?_
  refine AO.allF tab_ok (by decide) [(1, .bool arguments), (7, .bool (!v0))] [] (by (simp only [go_sem]) <;> (repeat' with_reducible apply And.intro) <;> first | assumption | rfl | omega | (unfold maxLen; omega)) ?_
  refine athen_n ?_
  refine AW.cond (b := (!v0)) rfl (fun hb2 => ?_) (fun hb2 => ?_)
  · rw [if_pos hb2] at h
    refine AW.seq ?_
    refine AW.ops ?_
    refine AO.allF tab_ok (by decide) [(4, .int .i64 20)] [] (by (simp only [go_sem, hb2]) <;> (repeat' with_reducible apply And.intro) <;> first | assumption | rfl | omega | (unfold maxLen; omega)) ?_
    refine athen_n ?_
    refine AW.ret ?_
    refine athen_r ?_
    obtain rfl := Option.some.inj h
    exact ⟨rfl, [], [], [], rfl, (by (simp only [go_sem, hb2]) <;> (repeat' with_reducible apply And.intro) <;> first | assumption | rfl | omega | (unfold maxLen; omega))⟩
  · rw [if_neg (Bool.eq_false_iff.1 hb2)] at h
    refine AW.skip ?_
    refine athen_n ?_
    refine AW.seq ?_
    refine AW.seq ?_
    refine AW.ops ?_
    refine AO.allF tab_ok (by decide) [(9, .bool (!arguments))] [] (by (simp only [go_sem, hb2]) <;> (repeat' with_reducible apply And.intro) <;> first | assumption | rfl | omega | (unfold maxLen; omega)) ?_
    refine athen_n ?_
    refine AW.cond (b := (!arguments)) rfl (fun hb3 => ?_) (fun hb3 => ?_)
    · rw [if_pos hb3] at h
      refine AW.seq ?_
      refine AW.ops ?_
      refine AO.allF tab_ok (by decide) [(4, .int .i64 2)] [] (by (simp only [go_sem, hb2, hb3]) <;> (repeat' with_reducible apply And.intro) <;> first | assumption | rfl | omega | (unfold maxLen; omega)) ?_
      refine athen_n ?_
      refine AW.ret ?_
      refine athen_r ?_
      obtain rfl := Option.some.inj h
      exact ⟨rfl, [], [], [], rfl, (by (simp only [go_sem, hb2, hb3]) <;> (repeat' with_reducible apply And.intro) <;> first | assumption | rfl | omega | (unfold maxLen; omega))⟩
    · rw [if_neg (Bool.eq_false_iff.1 hb3)] at h
      refine AW.skip ?_
      refine athen_n ?_
      refine AW.seq ?_
      refine AW.ops ?_
      refine AO.allF tab_ok (by decide) [(4, .int .i64 0)] [] (by (simp only [go_sem, hb2, hb3]) <;> (repeat' with_reducible apply And.intro) <;> first | assumption | rfl | omega | (unfold maxLen; omega)) ?_
      refine athen_n ?_
      refine AW.ret ?_
      obtain rfl := Option.some.inj h
      exact ⟨rfl, [], [], [], rfl, (by (simp only [go_sem, hb2, hb3]) <;> (repeat' with_reducible apply And.intro) <;> first | assumption | rfl | omega | (unfold maxLen; omega))⟩

set_option maxRecDepth 100000 in
set_option maxHeartbeats 2000000 in
theorem hc_linealref02_within (lo : Int) (n : Int) (hi : Int) {r : Bool} (h : linealref02_within lo n hi = some r) : HC Try.prog 68 [] [.int .i64 lo, .int .i64 n, .int .i64 hi] [] (.bool r) := by
  unfold linealref02_within at h
  refine HC.of_body tab_ok (res := [.tmp 6]) Try.func68 rfl (by kernel_rfl) rfl (nt := 15) rfl (by decide) (by simp) ?_
  refine AW.seq ?_
  refine AW.ops ?_
  refine AO.allF tab_ok (by decide) [(0, .int .i64 lo), (1, .int .i64 n), (2, .int .i64 hi)] [] (by (simp only [go_sem]) <;> (repeat' with_reducible apply And.intro) <;> first | assumption | rfl | omega | (unfold maxLen; omega)) ?_
  refine athen_n ?_
  refine AW.seq ?_
  refine AW.ops ?_
  refine AO.segF tab_ok 4 (by decide) [(1, .int .i64 n), (2, .int .i64 hi), (10, .bool (decide (lo ≤ n)))] [] (by (simp only [go_sem]) <;> (repeat' with_reducible apply And.intro) <;> first | assumption | rfl | omega | (unfold maxLen; omega)) ?_
  rcases Bool.eq_false_or_eq_true (decide (lo ≤ n)) with hb1 | hb1
  · rw [if_pos hb1] at h
    refine AO.weaken (s' := ⟨fr [(1, .int .i64 n), (2, .int .i64 hi), (10, .bool true)], hpGet [], gt⟩) (Wk.to (by (simp only [go_sem, hb1]) <;> (repeat' with_reducible apply And.intro) <;> first | assumption | rfl | omega | (unfold maxLen; omega))) ?_
    refine AO.allF tab_ok (by decide) [(6, .bool (decide (n ≤ hi)))] [] (by (simp only [go_sem, hb1]) <;> (repeat' with_reducible apply And.intro) <;> first | assumption | rfl | omega | (unfold maxLen; omega)) ?_
    refine athen_n ?_
    refine AW.ret ?_
    obtain rfl := Option.some.inj h
    exact ⟨rfl, [], [], [], rfl, (by (simp only [go_sem, hb1]) <;> (repeat' with_reducible apply And.intro) <;> first | assumption | rfl | omega | (unfold maxLen; omega))⟩
  · rw [if_neg (Bool.eq_false_iff.1 hb1)] at h
    refine AO.weaken (s' := ⟨fr [(1, .int .i64 n), (2, .int .i64 hi), (10, .bool false)], hpGet [], gt⟩) (Wk.to (by (simp only [go_sem, hb1]) <;> (repeat' with_reducible apply And.intro) <;> first | assumption | rfl | omega | (unfold maxLen; omega))) ?_
    refine AO.allF tab_ok (by decide) [(6, .bool false)] [] (by (simp only [go_sem, hb1]) <;> (repeat' with_reducible apply And.intro) <;> first | assumption | rfl | omega | (unfold maxLen; omega)) ?_
    refine athen_n ?_
    refine AW.ret ?_
    obtain rfl := Option.some.inj h
    exact ⟨rfl, [], [], [], rfl, (by (simp only [go_sem, hb1]) <;> (repeat' with_reducible apply And.intro) <;> first | assumption | rfl | omega | (unfold maxLen; omega))⟩

set_option maxRecDepth 100000 in
set_option maxHeartbeats 2000000 in
theorem hc_linealref02_before (c : Int × Int × Int × Int × Int × Int) (d : Int × Int × Int × Int × Int × Int) {r : Bool} (h : linealref02_before c d = some r) : HC Try.prog 69 [] [.agg [.int .i64 c.1, .int .i64 c.2.1, .int .i64 c.2.2.1, .int .i64 c.2.2.2.1, .int .i64 c.2.2.2.2.1, .int .i64 c.2.2.2.2.2], .agg [.int .i64 d.1, .int .i64 d.2.1, .int .i64 d.2.2.1, .int .i64 d.2.2.2.1, .int .i64 d.2.2.2.2.1, .int .i64 d.2.2.2.2.2]] [] (.bool r) := by
  unfold linealref02_before at h
  refine HC.of_body tab_ok (res := [.tmp 4]) Try.func69 rfl (by kernel_rfl) rfl (nt := 15) rfl (by decide) (by simp) ?_
  refine AW.seq ?_
  refine AW.ops ?_
  refine AO.allF tab_ok (by decide) [(2, .bp 2 0), (3, .bp 3 0)] [(2, .box 55 [.int .i64 c.1, .int .i64 c.2.1, .int .i64 c.2.2.1, .int .i64 c.2.2.2.1, .int .i64 c.2.2.2.2.1, .int .i64 c.2.2.2.2.2]), (3, .box 55 [.int .i64 d.1, .int .i64 d.2.1, .int .i64 d.2.2.1, .int .i64 d.2.2.2.1, .int .i64 d.2.2.2.2.1, .int .i64 d.2.2.2.2.2])] (by (simp only [go_sem]) <;> (repeat' with_reducible apply And.intro) <;> first | assumption | rfl | omega | (unfold maxLen; omega)) ?_
  refine athen_n ?_
  refine AW.seq ?_
  refine AW.ops ?_
  refine AO.segF tab_ok 4 (by decide) [(2, .bp 2 0), (3, .bp 3 0), (8, .bool (!(decide (c.2.2.2.2.2 = 0))))] [(2, .box 55 [.int .i64 c.1, .int .i64 c.2.1, .int .i64 c.2.2.1, .int .i64 c.2.2.2.1, .int .i64 c.2.2.2.2.1, .int .i64 c.2.2.2.2.2]), (3, .box 55 [.int .i64 d.1, .int .i64 d.2.1, .int .i64 d.2.2.1, .int .i64 d.2.2.2.1, .int .i64 d.2.2.2.2.1, .int .i64 d.2.2.2.2.2])] (by (simp only [go_sem]) <;> (repeat' with_reducible apply And.intro) <;> first | assumption | rfl | omega | (unfold maxLen; omega)) ?_
  rcases Bool.eq_false_or_eq_true (!(decide (c.2.2.2.2.2 = 0))) with hb1 | hb1
  · rw [if_pos hb1] at h
    refine AO.weaken (s' := ⟨fr [(2, .bp 2 0), (3, .bp 3 0), (8, .bool true)], hpGet [(2, .box 55 [.int .i64 c.1, .int .i64 c.2.1, .int .i64 c.2.2.1, .int .i64 c.2.2.2.1, .int .i64 c.2.2.2.2.1, .int .i64 c.2.2.2.2.2]), (3, .box 55 [.int .i64 d.1, .int .i64 d.2.1, .int .i64 d.2.2.1, .int .i64 d.2.2.2.1, .int .i64 d.2.2.2.2.1, .int .i64 d.2.2.2.2.2])], gt⟩) (Wk.to (by (simp only [go_sem, hb1]) <;> (repeat' with_reducible apply And.intro) <;> first | assumption | rfl | omega | (unfold maxLen; omega))) ?_
    refine AO.allF tab_ok (by decide) [(4, .bool (decide (c.2.2.2.2.2 < d.2.2.2.2.1)))] [] (by (simp only [go_sem, hb1]) <;> (repeat' with_reducible apply And.intro) <;> first | assumption | rfl | omega | (unfold maxLen; omega)) ?_
    refine athen_n ?_
    refine AW.ret ?_
    obtain rfl := Option.some.inj h
    exact ⟨rfl, [], [], [], rfl, (by (simp only [go_sem, hb1]) <;> (repeat' with_reducible apply And.intro) <;> first | assumption | rfl | omega | (unfold maxLen; omega))⟩
  · rw [if_neg (Bool.eq_false_iff.1 hb1)] at h
    refine AO.weaken (s' := ⟨fr [(2, .bp 2 0), (3, .bp 3 0), (8, .bool false)], hpGet [(2, .box 55 [.int .i64 c.1, .int .i64 c.2.1, .int .i64 c.2.2.1, .int .i64 c.2.2.2.1, .int .i64 c.2.2.2.2.1, .int .i64 c.2.2.2.2.2]), (3, .box 55 [.int .i64 d.1, .int .i64 d.2.1, .int .i64 d.2.2.1, .int .i64 d.2.2.2.1, .int .i64 d.2.2.2.2.1, .int .i64 d.2.2.2.2.2])], gt⟩) (Wk.to (by (simp only [go_sem, hb1]) <;> (repeat' with_reducible apply And.intro) <;> first | assumption | rfl | omega | (unfold maxLen; omega))) ?_
    refine AO.segF tab_ok 4 (by decide) [(8, .bool false), (10, .cv (undef)), (12, .cv (undef))] [] (by (simp only [go_sem, hb1]) <;> (repeat' with_reducible apply And.intro) <;> first | assumption | rfl | omega | (unfold maxLen; omega)) ?_
    refine AO.allF tab_ok (by decide) [(4, .bool false)] [] (by (simp only [go_sem, hb1]) <;> (repeat' with_reducible apply And.intro) <;> first | assumption | rfl | omega | (unfold maxLen; omega)) ?_
    refine athen_n ?_
    refine AW.ret ?_
    obtain rfl := Option.some.inj h
    exact ⟨rfl, [], [], [], rfl, (by (simp only [go_sem, hb1]) <;> (repeat' with_reducible apply And.intro) <;> first | assumption | rfl | omega | (unfold maxLen; omega))⟩

end Go.Proofs.Ytdkdkpenmgkdcaa
