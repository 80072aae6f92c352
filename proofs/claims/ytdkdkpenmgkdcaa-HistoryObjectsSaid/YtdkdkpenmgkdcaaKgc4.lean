/-
  Made by wip/tool/dc.py out of the print of the program: contracts.
-/
import Derived.Test.YtdkdkpenmgkdcaaHp
import Derived.Test.YtdkdkpenmgkdcaaTbh
import Derived.Test.YtdkdkpenmgkdcaaKgc3
namespace Go.Proofs.Ytdkdkpenmgkdcaa
open Go.RowKit

set_option linter.unusedSimpArgs false
set_option linter.unusedVariables false
set_option linter.constructorNameAsVariable false

set_option maxRecDepth 100000 in
set_option maxHeartbeats 2000000 in
theorem ic_history_search_steps_1 {S R : Type} (a1 : List (Int × Int × (List (List Int)) × (List (List Int)))) (a1_2 : List (Int × Int × Int × Int × Int × Int)) (a2 : (Int × Int) × Int) (yl : Int × ((Int × Int) × Int) → S → Option (Step S R)) (s0 : S) {r : Sum S R} (h : history_search_steps_1 S R a1 a1_2 a2 yl s0 = some r) : IC Try.prog 127 [(1000, .box 76 [.sl Y0 a1, .sl Y1 a1_2, .fn (.func 77) [] [], .one]), (1001, .box 95 [.int .i64 a2.1.1, .int .i64 a2.1.2, .int .u64 a2.2])] [.bp 1000 0, .bp 1001 0] (fun (y : Int × ((Int × Int) × Int)) => [.int .i64 y.1, .agg [.int .i64 y.2.1.1, .int .i64 y.2.1.2, .int .u64 y.2.2]]) yl s0 r := by
  unfold history_search_steps_1 at h
  refine IC.of_body Try.func127 rfl (by kernel_rfl) rfl (nt := 41) rfl (by decide) (by simp) ?_
  intro Γ Γx lp hΓ hΓx hY
  refine AW.seq ?_
  refine AW.ops ?_
  refine AO.allF tab_ok (by decide) [(0, .fn (.yield lp) [] []), (1, .bp 1000 0), (2, .bp 1001 0), (8, .sl Y1 a1_2), (9, .int .i64 (a1_2.length : Int)), (10, .int .i64 0)] [(1000, .box 76 [.sl Y0 a1, .sl Y1 a1_2, .fn (.func 77) [] [], .one]), (1001, .box 95 [.int .i64 a2.1.1, .int .i64 a2.1.2, .int .u64 a2.2])] (by (simp only [go_sem]) <;> (repeat' with_reducible apply And.intro) <;> first | assumption | rfl | omega | (unfold maxLen; omega)) ?_
  refine athen_n ?_
  refine AW.block ?_
  obtain ⟨rv5, hw1, ho2⟩ := Option.bind_eq_some_iff.1 h
  refine AW.loopO (history_search_steps_1_b1 S R a1 a1_2 a2 yl) (fun st1 => ⟨fr [(0, .fn (.yield lp) [] []), (1, .bp 1000 0), (2, .bp 1001 0), (8, .sl Y1 a1_2), (9, .int .i64 (a1_2.length : Int)), (10, .int .i64 st1.1)], hpGet [(1000, .box 76 [.sl Y0 a1, .sl Y1 a1_2, .fn (.func 77) [] [], .one]), (1001, .box 95 [.int .i64 a2.1.1, .int .i64 a2.1.2, .int .u64 a2.2])], (Γ st1.2)⟩) (0, s0) hw1 (Wk.le [] [] [] rfl (by (simp only [go_sem]) <;> (repeat' with_reducible apply And.intro) <;> first | assumption | rfl | omega | (unfold maxLen; omega)) (by (simp only [go_sem]) <;> (repeat' with_reducible apply And.intro) <;> first | assumption | rfl | omega | (unfold maxLen; omega))) ?_
  intro st1 x4 h hd3
  unfold history_search_steps_1_b1 at h
  refine AW.seq ?_
  refine AW.ops ?_
  refine AO.allF tab_ok (by decide) [(0, .fn (.yield lp) [] []), (1, .bp 1000 0), (2, .bp 1001 0), (8, .sl Y1 a1_2), (9, .int .i64 (a1_2.length : Int)), (10, .int .i64 st1.1), (11, .bool (decide (st1.1 < (a1_2.length : Int))))] [(1000, .box 76 [.sl Y0 a1, .sl Y1 a1_2, .fn (.func 77) [] [], .one]), (1001, .box 95 [.int .i64 a2.1.1, .int .i64 a2.1.2, .int .u64 a2.2])] (by (simp only [go_sem]) <;> (repeat' with_reducible apply And.intro) <;> first | assumption | rfl | omega | (unfold maxLen; omega)) ?_
  refine athen_n ?_
  refine AW.seq ?_
  refine AW.cond (b := (decide (st1.1 < (a1_2.length : Int)))) rfl (fun hb6 => ?_) (fun hb6 => ?_)
  · rw [if_pos hb6] at h
    refine AW.skip ?_
    refine athen_n ?_
    refine AW.seq ?_
    refine AW.block ?_
    refine AW.seq ?_
    refine AW.ops ?_
    obtain ⟨c7, h⟩ := ck_some.1 h
    obtain ⟨c8, h⟩ := ck_some.1 h
    refine AO.allF tab_ok (by decide) [(0, .fn (.yield lp) [] []), (1, .bp 1000 0), (2, .bp 1001 0), (4, .int .i64 st1.1), (5, .bp 5 0), (8, .sl Y1 a1_2), (9, .int .i64 (a1_2.length : Int)), (10, .int .i64 st1.1)] [(5, .box 55 [.int .i64 (a1_2.getD st1.1.toNat (0, 0, 0, 0, 0, 0)).1, .int .i64 (a1_2.getD st1.1.toNat (0, 0, 0, 0, 0, 0)).2.1, .int .i64 (a1_2.getD st1.1.toNat (0, 0, 0, 0, 0, 0)).2.2.1, .int .i64 (a1_2.getD st1.1.toNat (0, 0, 0, 0, 0, 0)).2.2.2.1, .int .i64 (a1_2.getD st1.1.toNat (0, 0, 0, 0, 0, 0)).2.2.2.2.1, .int .i64 (a1_2.getD st1.1.toNat (0, 0, 0, 0, 0, 0)).2.2.2.2.2]), (1000, .box 76 [.sl Y0 a1, .sl Y1 a1_2, .fn (.func 77) [] [], .one]), (1001, .box 95 [.int .i64 a2.1.1, .int .i64 a2.1.2, .int .u64 a2.2])] (by (simp only [go_sem, hb6]) <;> (repeat' with_reducible apply And.intro) <;> first | assumption | rfl | omega | (unfold maxLen; omega)) ?_
    refine athen_n ?_
    refine AW.seq ?_
    refine AW.ops ?_
    refine AO.allF tab_ok (by decide) [(0, .fn (.yield lp) [] []), (1, .bp 1000 0), (2, .bp 1001 0), (4, .int .i64 st1.1), (5, .bp 5 0), (6, .bp 6 0), (8, .sl Y1 a1_2), (9, .int .i64 (a1_2.length : Int)), (10, .int .i64 st1.1)] [(5, .box 55 [.int .i64 (a1_2.getD st1.1.toNat (0, 0, 0, 0, 0, 0)).1, .int .i64 (a1_2.getD st1.1.toNat (0, 0, 0, 0, 0, 0)).2.1, .int .i64 (a1_2.getD st1.1.toNat (0, 0, 0, 0, 0, 0)).2.2.1, .int .i64 (a1_2.getD st1.1.toNat (0, 0, 0, 0, 0, 0)).2.2.2.1, .int .i64 (a1_2.getD st1.1.toNat (0, 0, 0, 0, 0, 0)).2.2.2.2.1, .int .i64 (a1_2.getD st1.1.toNat (0, 0, 0, 0, 0, 0)).2.2.2.2.2]), (6, .box 95 [.int .i64 a2.1.1, .int .i64 a2.1.2, .int .u64 a2.2]), (1000, .box 76 [.sl Y0 a1, .sl Y1 a1_2, .fn (.func 77) [] [], .one]), (1001, .box 95 [.int .i64 a2.1.1, .int .i64 a2.1.2, .int .u64 a2.2])] (by (simp only [go_sem, hb6]) <;> (repeat' with_reducible apply And.intro) <;> first | assumption | rfl | omega | (unfold maxLen; omega)) ?_
    refine athen_n ?_
    refine AW.seq ?_
    refine AW.seq ?_
    refine AW.ops ?_
    refine AO.segF tab_ok 3 (by decide) [(0, .fn (.yield lp) [] []), (1, .bp 1000 0), (2, .bp 1001 0), (4, .int .i64 st1.1), (5, .bp 5 0), (6, .bp 6 0), (8, .sl Y1 a1_2), (9, .int .i64 (a1_2.length : Int)), (10, .int .i64 st1.1), (16, .agg [.sl Y0 a1, .sl Y1 a1_2, .fn (.func 77) [] [], .one]), (17, .agg [.int .i64 a2.1.1, .int .i64 a2.1.2, .int .u64 a2.2]), (18, .int .i64 st1.1)] [(5, .box 55 [.int .i64 (a1_2.getD st1.1.toNat (0, 0, 0, 0, 0, 0)).1, .int .i64 (a1_2.getD st1.1.toNat (0, 0, 0, 0, 0, 0)).2.1, .int .i64 (a1_2.getD st1.1.toNat (0, 0, 0, 0, 0, 0)).2.2.1, .int .i64 (a1_2.getD st1.1.toNat (0, 0, 0, 0, 0, 0)).2.2.2.1, .int .i64 (a1_2.getD st1.1.toNat (0, 0, 0, 0, 0, 0)).2.2.2.2.1, .int .i64 (a1_2.getD st1.1.toNat (0, 0, 0, 0, 0, 0)).2.2.2.2.2]), (6, .box 95 [.int .i64 a2.1.1, .int .i64 a2.1.2, .int .u64 a2.2]), (1000, .box 76 [.sl Y0 a1, .sl Y1 a1_2, .fn (.func 77) [] [], .one]), (1001, .box 95 [.int .i64 a2.1.1, .int .i64 a2.1.2, .int .u64 a2.2])] (by (simp only [go_sem, hb6]) <;> (repeat' with_reducible apply And.intro) <;> first | assumption | rfl | omega | (unfold maxLen; omega)) ?_
    obtain ⟨v0, hv9, h⟩ := Option.bind_eq_some_iff.1 h
    refine AO.call tab_ok (by decide) rfl rfl rfl (fun _ h => h) [] [] (hc_history_search_ready a1 a1_2 a2 st1.1 hv9) rfl (by (simp only [go_sem, hb6]) <;> (repeat' with_reducible apply And.intro) <;> first | assumption | rfl | omega | (unfold maxLen; omega)) (by (simp only [go_sem, hb6]) <;> (repeat' with_reducible apply And.intro) <;> first | assumption | rfl | omega | (unfold maxLen; omega)) [(0, .fn (.yield lp) [] []), (1, .bp 1000 0), (2, .bp 1001 0), (4, .int .i64 st1.1), (5, .bp 5 0), (6, .bp 6 0), (8, .sl Y1 a1_2), (9, .int .i64 (a1_2.length : Int)), (10, .int .i64 st1.1), (19, .bool v0)] [(5, .box 55 [.int .i64 (a1_2.getD st1.1.toNat (0, 0, 0, 0, 0, 0)).1, .int .i64 (a1_2.getD st1.1.toNat (0, 0, 0, 0, 0, 0)).2.1, .int .i64 (a1_2.getD st1.1.toNat (0, 0, 0, 0, 0, 0)).2.2.1, .int .i64 (a1_2.getD st1.1.toNat (0, 0, 0, 0, 0, 0)).2.2.2.1, .int .i64 (a1_2.getD st1.1.toNat (0, 0, 0, 0, 0, 0)).2.2.2.2.1, .int .i64 (a1_2.getD st1.1.toNat (0, 0, 0, 0, 0, 0)).2.2.2.2.2]), (6, .box 95 [.int .i64 a2.1.1, .int .i64 a2.1.2, .int .u64 a2.2]), (1000, .box 76 [.sl Y0 a1, .sl Y1 a1_2, .fn (.func 77) [] [], .one]), (1001, .box 95 [.int .i64 a2.1.1, .int .i64 a2.1.2, .int .u64 a2.2])] (by (simp only [go_sem, hb6]) <;> (repeat' with_reducible apply And.intro) <;> first | assumption | rfl | omega | (unfold maxLen; omega)) ?_
    refine AO.segF tab_ok 2 (by decide) [(0, .fn (.yield lp) [] []), (1, .bp 1000 0), (2, .bp 1001 0), (4, .int .i64 st1.1), (5, .bp 5 0), (6, .bp 6 0), (8, .sl Y1 a1_2), (9, .int .i64 (a1_2.length : Int)), (10, .int .i64 st1.1), (21, .bool (!v0))] [(5, .box 55 [.int .i64 (a1_2.getD st1.1.toNat (0, 0, 0, 0, 0, 0)).1, .int .i64 (a1_2.getD st1.1.toNat (0, 0, 0, 0, 0, 0)).2.1, .int .i64 (a1_2.getD st1.1.toNat (0, 0, 0, 0, 0, 0)).2.2.1, .int .i64 (a1_2.getD st1.1.toNat (0, 0, 0, 0, 0, 0)).2.2.2.1, .int .i64 (a1_2.getD st1.1.toNat (0, 0, 0, 0, 0, 0)).2.2.2.2.1, .int .i64 (a1_2.getD st1.1.toNat (0, 0, 0, 0, 0, 0)).2.2.2.2.2]), (6, .box 95 [.int .i64 a2.1.1, .int .i64 a2.1.2, .int .u64 a2.2]), (1000, .box 76 [.sl Y0 a1, .sl Y1 a1_2, .fn (.func 77) [] [], .one]), (1001, .box 95 [.int .i64 a2.1.1, .int .i64 a2.1.2, .int .u64 a2.2])] (by (simp only [go_sem, hb6]) <;> (repeat' with_reducible apply And.intro) <;> first | assumption | rfl | omega | (unfold maxLen; omega)) ?_
    rcases Bool.eq_false_or_eq_true (!v0) with hb10 | hb10
    · rw [if_pos hb10] at h
      refine AO.weaken (s' := ⟨fr [(0, .fn (.yield lp) [] []), (1, .bp 1000 0), (2, .bp 1001 0), (4, .int .i64 st1.1), (5, .bp 5 0), (6, .bp 6 0), (8, .sl Y1 a1_2), (9, .int .i64 (a1_2.length : Int)), (10, .int .i64 st1.1), (21, .bool true)], hpGet [(5, .box 55 [.int .i64 (a1_2.getD st1.1.toNat (0, 0, 0, 0, 0, 0)).1, .int .i64 (a1_2.getD st1.1.toNat (0, 0, 0, 0, 0, 0)).2.1, .int .i64 (a1_2.getD st1.1.toNat (0, 0, 0, 0, 0, 0)).2.2.1, .int .i64 (a1_2.getD st1.1.toNat (0, 0, 0, 0, 0, 0)).2.2.2.1, .int .i64 (a1_2.getD st1.1.toNat (0, 0, 0, 0, 0, 0)).2.2.2.2.1, .int .i64 (a1_2.getD st1.1.toNat (0, 0, 0, 0, 0, 0)).2.2.2.2.2]), (6, .box 95 [.int .i64 a2.1.1, .int .i64 a2.1.2, .int .u64 a2.2]), (1000, .box 76 [.sl Y0 a1, .sl Y1 a1_2, .fn (.func 77) [] [], .one]), (1001, .box 95 [.int .i64 a2.1.1, .int .i64 a2.1.2, .int .u64 a2.2])], (Γ st1.2)⟩) (Wk.to (by (simp only [go_sem, hb6, hb10]) <;> (repeat' with_reducible apply And.intro) <;> first | assumption | rfl | omega | (unfold maxLen; omega))) ?_
      refine AO.segF tab_ok 4 (by decide) [(0, .fn (.yield lp) [] []), (1, .bp 1000 0), (2, .bp 1001 0), (4, .int .i64 st1.1), (6, .bp 6 0), (8, .sl Y1 a1_2), (9, .int .i64 (a1_2.length : Int)), (10, .int .i64 st1.1), (21, .bool true), (22, .cv (undef)), (24, .cv (undef)), (25, .cv (undef))] [(6, .box 95 [.int .i64 a2.1.1, .int .i64 a2.1.2, .int .u64 a2.2]), (1000, .box 76 [.sl Y0 a1, .sl Y1 a1_2, .fn (.func 77) [] [], .one]), (1001, .box 95 [.int .i64 a2.1.1, .int .i64 a2.1.2, .int .u64 a2.2])] (by (simp only [go_sem, hb6, hb10]) <;> (repeat' with_reducible apply And.intro) <;> first | assumption | rfl | omega | (unfold maxLen; omega)) ?_
      refine AO.allF tab_ok (by decide) [(0, .fn (.yield lp) [] []), (1, .bp 1000 0), (2, .bp 1001 0), (4, .int .i64 st1.1), (6, .bp 6 0), (8, .sl Y1 a1_2), (9, .int .i64 (a1_2.length : Int)), (10, .int .i64 st1.1), (28, .bool true)] [(6, .box 95 [.int .i64 a2.1.1, .int .i64 a2.1.2, .int .u64 a2.2]), (1000, .box 76 [.sl Y0 a1, .sl Y1 a1_2, .fn (.func 77) [] [], .one]), (1001, .box 95 [.int .i64 a2.1.1, .int .i64 a2.1.2, .int .u64 a2.2])] (by (simp only [go_sem, hb6, hb10]) <;> (repeat' with_reducible apply And.intro) <;> first | assumption | rfl | omega | (unfold maxLen; omega)) ?_
      refine athen_n ?_
      refine AW.cond (b := true) rfl (fun _ => ?_) (fun hb11 => by cases hb11)
      refine AW.exit ?_
      refine athen_e ?_
      refine ablock_s ?_
      refine athen_n ?_
      refine AW.ops ?_
      obtain ⟨c12, h⟩ := ck_some.1 h
      refine AO.allF tab_ok (by decide) [(0, .fn (.yield lp) [] []), (1, .bp 1000 0), (2, .bp 1001 0), (8, .sl Y1 a1_2), (9, .int .i64 (a1_2.length : Int)), (10, .int .i64 (st1.1 + 1))] [(1000, .box 76 [.sl Y0 a1, .sl Y1 a1_2, .fn (.func 77) [] [], .one]), (1001, .box 95 [.int .i64 a2.1.1, .int .i64 a2.1.2, .int .u64 a2.2])] (by (simp only [go_sem, hb6, hb10]) <;> (repeat' with_reducible apply And.intro) <;> first | assumption | rfl | omega | (unfold maxLen; omega)) ?_
      obtain rfl := Option.some.inj h
      exact ⟨_, rfl, Wk.le [] [] [] rfl (by (simp only [go_sem, hb6, hb10]) <;> (repeat' with_reducible apply And.intro) <;> first | assumption | rfl | omega | (unfold maxLen; omega)) (by (simp only [go_sem, hb6, hb10]) <;> (repeat' with_reducible apply And.intro) <;> first | assumption | rfl | omega | (unfold maxLen; omega))⟩
    · rw [if_neg (Bool.eq_false_iff.1 hb10)] at h
      refine AO.weaken (s' := ⟨fr [(0, .fn (.yield lp) [] []), (1, .bp 1000 0), (2, .bp 1001 0), (4, .int .i64 st1.1), (5, .bp 5 0), (6, .bp 6 0), (8, .sl Y1 a1_2), (9, .int .i64 (a1_2.length : Int)), (10, .int .i64 st1.1), (21, .bool false)], hpGet [(5, .box 55 [.int .i64 (a1_2.getD st1.1.toNat (0, 0, 0, 0, 0, 0)).1, .int .i64 (a1_2.getD st1.1.toNat (0, 0, 0, 0, 0, 0)).2.1, .int .i64 (a1_2.getD st1.1.toNat (0, 0, 0, 0, 0, 0)).2.2.1, .int .i64 (a1_2.getD st1.1.toNat (0, 0, 0, 0, 0, 0)).2.2.2.1, .int .i64 (a1_2.getD st1.1.toNat (0, 0, 0, 0, 0, 0)).2.2.2.2.1, .int .i64 (a1_2.getD st1.1.toNat (0, 0, 0, 0, 0, 0)).2.2.2.2.2]), (6, .box 95 [.int .i64 a2.1.1, .int .i64 a2.1.2, .int .u64 a2.2]), (1000, .box 76 [.sl Y0 a1, .sl Y1 a1_2, .fn (.func 77) [] [], .one]), (1001, .box 95 [.int .i64 a2.1.1, .int .i64 a2.1.2, .int .u64 a2.2])], (Γ st1.2)⟩) (Wk.to (by (simp only [go_sem, hb6, hb10]) <;> (repeat' with_reducible apply And.intro) <;> first | assumption | rfl | omega | (unfold maxLen; omega))) ?_
      refine AO.segF tab_ok 4 (by decide) [(0, .fn (.yield lp) [] []), (1, .bp 1000 0), (2, .bp 1001 0), (4, .int .i64 st1.1), (6, .bp 6 0), (8, .sl Y1 a1_2), (9, .int .i64 (a1_2.length : Int)), (10, .int .i64 st1.1), (21, .bool false), (22, .bp 6 0), (24, .sl Y0 a1), (25, .agg [.int .i64 (a1_2.getD st1.1.toNat (0, 0, 0, 0, 0, 0)).1, .int .i64 (a1_2.getD st1.1.toNat (0, 0, 0, 0, 0, 0)).2.1, .int .i64 (a1_2.getD st1.1.toNat (0, 0, 0, 0, 0, 0)).2.2.1, .int .i64 (a1_2.getD st1.1.toNat (0, 0, 0, 0, 0, 0)).2.2.2.1, .int .i64 (a1_2.getD st1.1.toNat (0, 0, 0, 0, 0, 0)).2.2.2.2.1, .int .i64 (a1_2.getD st1.1.toNat (0, 0, 0, 0, 0, 0)).2.2.2.2.2])] [(6, .box 95 [.int .i64 a2.1.1, .int .i64 a2.1.2, .int .u64 a2.2]), (1000, .box 76 [.sl Y0 a1, .sl Y1 a1_2, .fn (.func 77) [] [], .one]), (1001, .box 95 [.int .i64 a2.1.1, .int .i64 a2.1.2, .int .u64 a2.2])] (by (simp only [go_sem, hb6, hb10]) <;> (repeat' with_reducible apply And.intro) <;> first | assumption | rfl | omega | (unfold maxLen; omega)) ?_
      obtain ⟨v0_2, hv13, h⟩ := Option.bind_eq_some_iff.1 h
      refine AO.call tab_ok (by decide) rfl rfl rfl (fun _ h => ⟨fun _ => h, fun hn => absurd rfl hn⟩) [] [(1000, 6)] (hc_history_states_allow a1 (a1_2.getD st1.1.toNat (0, 0, 0, 0, 0, 0)) a2 hv13) rfl (by (simp only [go_sem, hb6, hb10]) <;> (repeat' with_reducible apply And.intro) <;> first | assumption | rfl | omega | (unfold maxLen; omega)) (by (simp only [go_sem, hb6, hb10]) <;> (repeat' with_reducible apply And.intro) <;> first | assumption | rfl | omega | (unfold maxLen; omega)) [(0, .fn (.yield lp) [] []), (1, .bp 1000 0), (2, .bp 1001 0), (4, .int .i64 st1.1), (6, .bp 6 0), (8, .sl Y1 a1_2), (9, .int .i64 (a1_2.length : Int)), (10, .int .i64 st1.1), (21, .bool false), (26, .bool v0_2.1)] [(6, .box 95 [.int .i64 v0_2.2.1, .int .i64 v0_2.2.2, .int .u64 a2.2]), (1000, .box 76 [.sl Y0 a1, .sl Y1 a1_2, .fn (.func 77) [] [], .one]), (1001, .box 95 [.int .i64 a2.1.1, .int .i64 a2.1.2, .int .u64 a2.2])] (by (simp only [go_sem, hb6, hb10]) <;> (repeat' with_reducible apply And.intro) <;> first | assumption | rfl | omega | (unfold maxLen; omega)) ?_
      refine AO.allF tab_ok (by decide) [(0, .fn (.yield lp) [] []), (1, .bp 1000 0), (2, .bp 1001 0), (4, .int .i64 st1.1), (6, .bp 6 0), (8, .sl Y1 a1_2), (9, .int .i64 (a1_2.length : Int)), (10, .int .i64 st1.1), (28, .bool (!v0_2.1))] [(6, .box 95 [.int .i64 v0_2.2.1, .int .i64 v0_2.2.2, .int .u64 a2.2]), (1000, .box 76 [.sl Y0 a1, .sl Y1 a1_2, .fn (.func 77) [] [], .one]), (1001, .box 95 [.int .i64 a2.1.1, .int .i64 a2.1.2, .int .u64 a2.2])] (by (simp only [go_sem, hb6, hb10]) <;> (repeat' with_reducible apply And.intro) <;> first | assumption | rfl | omega | (unfold maxLen; omega)) ?_
      refine athen_n ?_
      refine AW.cond (b := (!v0_2.1)) rfl (fun hb14 => ?_) (fun hb14 => ?_)
      · rw [if_pos hb14] at h
        refine AW.exit ?_
        refine athen_e ?_
        refine ablock_s ?_
        refine athen_n ?_
        refine AW.ops ?_
        obtain ⟨c15, h⟩ := ck_some.1 h
        refine AO.allF tab_ok (by decide) [(0, .fn (.yield lp) [] []), (1, .bp 1000 0), (2, .bp 1001 0), (8, .sl Y1 a1_2), (9, .int .i64 (a1_2.length : Int)), (10, .int .i64 (st1.1 + 1))] [(1000, .box 76 [.sl Y0 a1, .sl Y1 a1_2, .fn (.func 77) [] [], .one]), (1001, .box 95 [.int .i64 a2.1.1, .int .i64 a2.1.2, .int .u64 a2.2])] (by (simp only [go_sem, hb6, hb10, hb14]) <;> (repeat' with_reducible apply And.intro) <;> first | assumption | rfl | omega | (unfold maxLen; omega)) ?_
        obtain rfl := Option.some.inj h
        exact ⟨_, rfl, Wk.le [] [] [] rfl (by (simp only [go_sem, hb6, hb10, hb14]) <;> (repeat' with_reducible apply And.intro) <;> first | assumption | rfl | omega | (unfold maxLen; omega)) (by (simp only [go_sem, hb6, hb10, hb14]) <;> (repeat' with_reducible apply And.intro) <;> first | assumption | rfl | omega | (unfold maxLen; omega))⟩
      · rw [if_neg (Bool.eq_false_iff.1 hb14)] at h
        refine AW.skip ?_
        refine athen_n ?_
        refine AW.seq ?_
        refine AW.draw tab_ok mixed_ok [(6, [6])] [] (by decide) (by kernel_rfl) ?_
        obtain ⟨c17, h⟩ := ck_some.1 h
        refine adops_cut 6 (fun K' hK16 => ?_)
        try dsimp only [List.drop_succ_cons, List.drop_zero, List.take_succ_cons, List.take_zero]
        simp only [go_sem, hb6, hb10, hb14]
        repeat (with_reducible refine And.intro (by first | assumption | rfl | omega | trivial | (unfold maxLen; omega)) ?_)
        refine hK16 _ ?_
        refine adops_cut 1 (fun K' hK18 => ?_)
        try dsimp only [List.drop_succ_cons, List.drop_zero, List.take_succ_cons, List.take_zero]
        simp only [go_sem, hb6, hb10, hb14]
        repeat (with_reducible refine And.intro (by first | assumption | rfl | omega | trivial | (unfold maxLen; omega)) ?_)
        refine hK18 _ ?_
        refine adops_nil ?_
        refine athen_n ?_
        refine AW.weaken (s' := ⟨fr [(0, .fn (.yield lp) [] []), (1, .bp 1000 0), (2, .bp 1001 0), (4, .int .i64 st1.1), (6, .bp 6 0), (8, .sl Y1 a1_2), (9, .int .i64 (a1_2.length : Int)), (10, .int .i64 st1.1)], hpGet [(6, .box 95 [.int .i64 v0_2.2.1, .int .i64 v0_2.2.2, .int .u64 (ior .u64 a2.2 (ishl .u64 1 st1.1))]), (1000, .box 76 [.sl Y0 a1, .sl Y1 a1_2, .fn (.func 77) [] [], .one]), (1001, .box 95 [.int .i64 a2.1.1, .int .i64 a2.1.2, .int .u64 a2.2])], (Γ st1.2)⟩) (Wk.to (by (simp only [go_sem, hb6, hb10, hb14]) <;> (repeat' with_reducible apply And.intro) <;> first | assumption | rfl | omega | (unfold maxLen; omega))) ?_
        refine AW.seq ?_
        refine AW.ops ?_
        refine AO.segF tab_ok 3 (by decide) [(0, .fn (.yield lp) [] []), (1, .bp 1000 0), (2, .bp 1001 0), (8, .sl Y1 a1_2), (9, .int .i64 (a1_2.length : Int)), (10, .int .i64 st1.1), (35, .fn (.yield lp) [] []), (36, .int .i64 st1.1), (37, .agg [.int .i64 v0_2.2.1, .int .i64 v0_2.2.2, .int .u64 (ior .u64 a2.2 (ishl .u64 1 st1.1))])] [(1000, .box 76 [.sl Y0 a1, .sl Y1 a1_2, .fn (.func 77) [] [], .one]), (1001, .box 95 [.int .i64 a2.1.1, .int .i64 a2.1.2, .int .u64 a2.2])] (by (simp only [go_sem, hb6, hb10, hb14]) <;> (repeat' with_reducible apply And.intro) <;> first | assumption | rfl | omega | (unfold maxLen; omega)) ?_
        obtain ⟨x19, hx20, h⟩ := Option.bind_eq_some_iff.1 h
        refine yield_op rfl rfl rfl (by decide) _ rfl hY hΓ hΓx (st1.1, v0_2.2, (ior .u64 a2.2 (ishl .u64 1 st1.1))) [] (by (simp only [go_sem, hb6, hb10, hb14]) <;> (repeat' with_reducible apply And.intro) <;> first | assumption | rfl | omega | (unfold maxLen; omega)) hx20 ?_
        cases x19 with
        | next s =>
          try simp only at h
          refine AO.weaken (s' := ⟨fr [(0, .fn (.yield lp) [] []), (1, .bp 1000 0), (2, .bp 1001 0), (8, .sl Y1 a1_2), (9, .int .i64 (a1_2.length : Int)), (10, .int .i64 st1.1), (38, .bool true)], hpGet [(1000, .box 76 [.sl Y0 a1, .sl Y1 a1_2, .fn (.func 77) [] [], .one]), (1001, .box 95 [.int .i64 a2.1.1, .int .i64 a2.1.2, .int .u64 a2.2])], (Γ s)⟩) (Wk.to (by (simp only [go_sem, hb6, hb10, hb14]) <;> (repeat' with_reducible apply And.intro) <;> first | assumption | rfl | omega | (unfold maxLen; omega))) ?_
          refine AO.allF tab_ok (by decide) [(0, .fn (.yield lp) [] []), (1, .bp 1000 0), (2, .bp 1001 0), (8, .sl Y1 a1_2), (9, .int .i64 (a1_2.length : Int)), (10, .int .i64 st1.1), (39, .bool false)] [(1000, .box 76 [.sl Y0 a1, .sl Y1 a1_2, .fn (.func 77) [] [], .one]), (1001, .box 95 [.int .i64 a2.1.1, .int .i64 a2.1.2, .int .u64 a2.2])] (by (simp only [go_sem, hb6, hb10, hb14]) <;> (repeat' with_reducible apply And.intro) <;> first | assumption | rfl | omega | (unfold maxLen; omega)) ?_
          refine athen_n ?_
          refine AW.cond (b := false) rfl (fun hb21 => by cases hb21) (fun _ => ?_)
          refine AW.skip ?_
          refine ablock_n ?_
          refine athen_n ?_
          refine AW.ops ?_
          obtain ⟨c22, h⟩ := ck_some.1 h
          refine AO.allF tab_ok (by decide) [(0, .fn (.yield lp) [] []), (1, .bp 1000 0), (2, .bp 1001 0), (8, .sl Y1 a1_2), (9, .int .i64 (a1_2.length : Int)), (10, .int .i64 (st1.1 + 1))] [(1000, .box 76 [.sl Y0 a1, .sl Y1 a1_2, .fn (.func 77) [] [], .one]), (1001, .box 95 [.int .i64 a2.1.1, .int .i64 a2.1.2, .int .u64 a2.2])] (by (simp only [go_sem, hb6, hb10, hb14]) <;> (repeat' with_reducible apply And.intro) <;> first | assumption | rfl | omega | (unfold maxLen; omega)) ?_
          obtain rfl := Option.some.inj h
          exact ⟨_, rfl, Wk.le [] [] [] rfl (by (simp only [go_sem, hb6, hb10, hb14]) <;> (repeat' with_reducible apply And.intro) <;> first | assumption | rfl | omega | (unfold maxLen; omega)) (by (simp only [go_sem, hb6, hb10, hb14]) <;> (repeat' with_reducible apply And.intro) <;> first | assumption | rfl | omega | (unfold maxLen; omega))⟩
        | done e =>
          try simp only at h
          refine AO.weaken (s' := ⟨fr [(0, .fn (.yield lp) [] []), (1, .bp 1000 0), (2, .bp 1001 0), (8, .sl Y1 a1_2), (9, .int .i64 (a1_2.length : Int)), (10, .int .i64 st1.1), (38, .bool false)], hpGet [(1000, .box 76 [.sl Y0 a1, .sl Y1 a1_2, .fn (.func 77) [] [], .one]), (1001, .box 95 [.int .i64 a2.1.1, .int .i64 a2.1.2, .int .u64 a2.2])], (Γx e)⟩) (Wk.to (by (simp only [go_sem, hb6, hb10, hb14]) <;> (repeat' with_reducible apply And.intro) <;> first | assumption | rfl | omega | (unfold maxLen; omega))) ?_
          refine AO.allF tab_ok (by decide) [(0, .fn (.yield lp) [] []), (1, .bp 1000 0), (2, .bp 1001 0), (8, .sl Y1 a1_2), (9, .int .i64 (a1_2.length : Int)), (10, .int .i64 st1.1), (39, .bool true)] [(1000, .box 76 [.sl Y0 a1, .sl Y1 a1_2, .fn (.func 77) [] [], .one]), (1001, .box 95 [.int .i64 a2.1.1, .int .i64 a2.1.2, .int .u64 a2.2])] (by (simp only [go_sem, hb6, hb10, hb14]) <;> (repeat' with_reducible apply And.intro) <;> first | assumption | rfl | omega | (unfold maxLen; omega)) ?_
          refine athen_n ?_
          refine AW.cond (b := true) rfl (fun _ => ?_) (fun hb23 => by cases hb23)
          refine AW.ret ?_
          refine ablock_r ?_
          refine athen_r ?_
          obtain rfl := Option.some.inj h
          rw [← hd3 _ rfl] at ho2
          have h := ho2
          try simp only at h
          refine athen_r ?_
          refine ablock_r ?_
          obtain rfl := Option.some.inj h
          exact rfl
  · rw [if_neg (Bool.eq_false_iff.1 hb6)] at h
    refine AW.exit ?_
    refine athen_e ?_
    obtain rfl := Option.some.inj h
    rw [← hd3 _ rfl] at ho2
    have h := ho2
    try simp only at h
    refine athen_e ?_
    refine ablock_s ?_
    obtain rfl := Option.some.inj h
    exact rfl

set_option maxRecDepth 100000 in
set_option maxHeartbeats 2000000 in
theorem hc_history_search_countF (slf : (List (Int × Int × (List (List Int)) × (List (List Int)))) → (List (Int × Int × Int × Int × Int × Int)) → ((Int × Int) × Int) → (List (((Int × Int) × Int) × Int)) → Option (Int × (List (((Int × Int) × Int) × Int)))) (hc_slf : ∀ (s : List (Int × Int × (List (List Int)) × (List (List Int)))) (s_2 : List (Int × Int × Int × Int × Int × Int)) (at0 : (Int × Int) × Int) (s_3 : List (((Int × Int) × Int) × Int)) {r : Int × (List (((Int × Int) × Int) × Int))}, slf s s_2 at0 s_3 = some r → HC Try.prog 94 [(1000, .map true false (.pair (.pair (.int .i64) (.int .i64)) (.int .u64)) (.int .i64) s_3)] [.agg [.sl Y0 s, .sl Y1 s_2, .fn (.func 77) [] [], .own 1000], .agg [.int .i64 at0.1.1, .int .i64 at0.1.2, .int .u64 at0.2]] [(1000, .map true false (.pair (.pair (.int .i64) (.int .i64)) (.int .u64)) (.int .i64) r.2)] (.int .i64 r.1)) (s : List (Int × Int × (List (List Int)) × (List (List Int)))) (s_2 : List (Int × Int × Int × Int × Int × Int)) (at0 : (Int × Int) × Int) (s_3 : List (((Int × Int) × Int) × Int)) {r : Int × (List (((Int × Int) × Int) × Int))} (h : history_search_countF slf s s_2 at0 s_3 = some r) : HC Try.prog 94 [(1000, .map true false (.pair (.pair (.int .i64) (.int .i64)) (.int .u64)) (.int .i64) s_3)] [.agg [.sl Y0 s, .sl Y1 s_2, .fn (.func 77) [] [], .own 1000], .agg [.int .i64 at0.1.1, .int .i64 at0.1.2, .int .u64 at0.2]] [(1000, .map true false (.pair (.pair (.int .i64) (.int .i64)) (.int .u64)) (.int .i64) r.2)] (.int .i64 r.1) := by
  unfold history_search_countF at h
  refine HC.of_body tab_ok (res := [.tmp 4]) Try.func94 rfl (by kernel_rfl) rfl (nt := 37) rfl (by decide) (by simp) ?_
  refine AW.seq ?_
  refine AW.ops ?_
  refine AO.allF tab_ok (by decide) [(2, .bp 2 0), (3, .bp 3 0)] [(2, .box 76 [.sl Y0 s, .sl Y1 s_2, .fn (.func 77) [] [], .own 1000]), (3, .box 95 [.int .i64 at0.1.1, .int .i64 at0.1.2, .int .u64 at0.2]), (1000, .map true false (.pair (.pair (.int .i64) (.int .i64)) (.int .u64)) (.int .i64) s_3)] (by (simp only [go_sem]) <;> (repeat' with_reducible apply And.intro) <;> first | assumption | rfl | omega | (unfold maxLen; omega)) ?_
  refine athen_n ?_
  refine AW.seq ?_
  refine AW.seq ?_
  refine AW.ops ?_
  refine AO.segF tab_ok 3 (by decide) [(2, .bp 2 0), (3, .bp 3 0), (12, .own 1000), (13, .agg [.int .i64 at0.1.1, .int .i64 at0.1.2, .int .u64 at0.2])] [(2, .box 76 [.sl Y0 s, .sl Y1 s_2, .fn (.func 77) [] [], .own 1000]), (3, .box 95 [.int .i64 at0.1.1, .int .i64 at0.1.2, .int .u64 at0.2]), (1000, .map true false (.pair (.pair (.int .i64) (.int .i64)) (.int .u64)) (.int .i64) s_3)] (by (simp only [go_sem]) <;> (repeat' with_reducible apply And.intro) <;> first | assumption | rfl | omega | (unfold maxLen; omega)) ?_
  obtain ⟨c1, h⟩ := ck_some.1 h
  obtain ⟨c2, h⟩ := ck_some.1 h
  obtain ⟨c3, h⟩ := ck_some.1 h
  refine AO.lookup mapty_74 (by decide) rfl rfl rfl rfl (l := [.int .i64 at0.1.1, .int .i64 at0.1.2, .int .u64 at0.2]) (by (simp only [go_sem]) <;> (repeat' with_reducible apply And.intro) <;> first | assumption | rfl | omega | (unfold maxLen; omega)) (by first | rfl | (simp only [go_sem]) <;> (repeat' with_reducible apply And.intro) <;> first | assumption | rfl | omega | (unfold maxLen; omega)) (by (simp only [go_sem]) <;> (repeat' with_reducible apply And.intro) <;> first | assumption | rfl | omega | (unfold maxLen; omega)) ?_
  refine AO.weaken (s' := ⟨fr [(2, .bp 2 0), (3, .bp 3 0), (14, .tup [.int .i64 (mget 0 s_3 at0), .bool (mhas s_3 at0)])], hpGet [(2, .box 76 [.sl Y0 s, .sl Y1 s_2, .fn (.func 77) [] [], .own 1000]), (3, .box 95 [.int .i64 at0.1.1, .int .i64 at0.1.2, .int .u64 at0.2]), (1000, .map true false (.pair (.pair (.int .i64) (.int .i64)) (.int .u64)) (.int .i64) s_3)], gt⟩) (Wk.to (by (simp only [go_sem]) <;> (repeat' with_reducible apply And.intro) <;> first | assumption | rfl | omega | (unfold maxLen; omega))) ?_
  refine AO.allF tab_ok (by decide) [(2, .bp 2 0), (3, .bp 3 0), (5, .int .i64 (mget 0 s_3 at0)), (6, .bool (mhas s_3 at0))] [(2, .box 76 [.sl Y0 s, .sl Y1 s_2, .fn (.func 77) [] [], .own 1000]), (3, .box 95 [.int .i64 at0.1.1, .int .i64 at0.1.2, .int .u64 at0.2]), (1000, .map true false (.pair (.pair (.int .i64) (.int .i64)) (.int .u64)) (.int .i64) s_3)] (by (simp only [go_sem]) <;> (repeat' with_reducible apply And.intro) <;> first | assumption | rfl | omega | (unfold maxLen; omega)) ?_
  refine athen_n ?_
  refine AW.seq ?_
  refine AW.ops ?_
  refine AO.allF tab_ok (by decide) [(2, .bp 2 0), (3, .bp 3 0), (5, .int .i64 (mget 0 s_3 at0)), (17, .bool (mhas s_3 at0))] [(2, .box 76 [.sl Y0 s, .sl Y1 s_2, .fn (.func 77) [] [], .own 1000]), (3, .box 95 [.int .i64 at0.1.1, .int .i64 at0.1.2, .int .u64 at0.2]), (1000, .map true false (.pair (.pair (.int .i64) (.int .i64)) (.int .u64)) (.int .i64) s_3)] (by (simp only [go_sem]) <;> (repeat' with_reducible apply And.intro) <;> first | assumption | rfl | omega | (unfold maxLen; omega)) ?_
  refine athen_n ?_
  refine AW.cond (b := (mhas s_3 at0)) rfl (fun hb4 => ?_) (fun hb4 => ?_)
  · rw [if_pos hb4] at h
    refine AW.seq ?_
    refine AW.ops ?_
    refine AO.allF tab_ok (by decide) [(4, .int .i64 (mget 0 s_3 at0))] [(1000, .map true false (.pair (.pair (.int .i64) (.int .i64)) (.int .u64)) (.int .i64) s_3)] (by (simp only [go_sem, hb4]) <;> (repeat' with_reducible apply And.intro) <;> first | assumption | rfl | omega | (unfold maxLen; omega)) ?_
    refine athen_n ?_
    refine AW.ret ?_
    refine athen_r ?_
    obtain rfl := Option.some.inj h
    exact ⟨rfl, [], [], [], rfl, (by (simp only [go_sem, hb4]) <;> (repeat' with_reducible apply And.intro) <;> first | assumption | rfl | omega | (unfold maxLen; omega))⟩
  · rw [if_neg (Bool.eq_false_iff.1 hb4)] at h
    refine AW.skip ?_
    refine athen_n ?_
    refine AW.seq ?_
    refine AW.ops ?_
    refine AO.allF tab_ok (by decide) [(2, .bp 2 0), (3, .bp 3 0), (7, .bp 7 0)] [(2, .box 76 [.sl Y0 s, .sl Y1 s_2, .fn (.func 77) [] [], .own 1000]), (3, .box 95 [.int .i64 at0.1.1, .int .i64 at0.1.2, .int .u64 at0.2]), (7, .box 3 [.int .i64 0]), (1000, .map true false (.pair (.pair (.int .i64) (.int .i64)) (.int .u64)) (.int .i64) s_3)] (by (simp only [go_sem, hb4]) <;> (repeat' with_reducible apply And.intro) <;> first | assumption | rfl | omega | (unfold maxLen; omega)) ?_
    refine athen_n ?_
    refine AW.have1 (fun b1 : Int => history_search_count_k1 slf s s_2 at0 s_3 b1 = some r) (fun b1 => ⟨fr [(2, .bp 2 0), (3, .bp 3 0), (7, .bp 7 0)], hpGet [(2, .box 76 [.sl Y0 s, .sl Y1 s_2, .fn (.func 77) [] [], .own 1000]), (3, .box 95 [.int .i64 at0.1.1, .int .i64 at0.1.2, .int .u64 at0.2]), (7, .box 3 [.int .i64 b1]), (1000, .map true false (.pair (.pair (.int .i64) (.int .i64)) (.int .u64)) (.int .i64) s_3)], gt⟩) (fun b1 h => ?_) (fun hk_history_search_count_k1 => ?_)
    · unfold history_search_count_k1 at h
      refine AW.have1 (fun b2 : (List (((Int × Int) × Int) × Int)) × Int => history_search_count_k2 at0 b2 = some r) (fun b2 => ⟨fr [(2, .bp 2 0), (3, .bp 3 0), (7, .bp 7 0)], hpGet [(2, .box 76 [.sl Y0 s, .sl Y1 s_2, .fn (.func 77) [] [], .own 1000]), (3, .box 95 [.int .i64 at0.1.1, .int .i64 at0.1.2, .int .u64 at0.2]), (7, .box 3 [.int .i64 b2.2]), (1000, .map true false (.pair (.pair (.int .i64) (.int .i64)) (.int .u64)) (.int .i64) b2.1)], gt⟩) (fun b2 h => ?_) (fun hk_history_search_count_k2 => ?_)
      · unfold history_search_count_k2 at h
        refine AW.seq ?_
        refine AW.ops ?_
        refine AO.segF tab_ok 4 (by decide) [(7, .bp 7 0), (33, .own 1000), (34, .agg [.int .i64 at0.1.1, .int .i64 at0.1.2, .int .u64 at0.2]), (35, .int .i64 b2.2)] [(7, .box 3 [.int .i64 b2.2]), (1000, .map true false (.pair (.pair (.int .i64) (.int .i64)) (.int .u64)) (.int .i64) b2.1)] (by (simp only [go_sem, hb4]) <;> (repeat' with_reducible apply And.intro) <;> first | assumption | rfl | omega | (unfold maxLen; omega)) ?_
        obtain ⟨c5, h⟩ := ck_some.1 h
        obtain ⟨c6, h⟩ := ck_some.1 h
        obtain ⟨c7, h⟩ := ck_some.1 h
        refine AO.mapPut mapty_74 (by decide) rfl (.inl rfl) rfl rfl (l := [.int .i64 at0.1.1, .int .i64 at0.1.2, .int .u64 at0.2]) (by (simp only [go_sem, hb4]) <;> (repeat' with_reducible apply And.intro) <;> first | assumption | rfl | omega | (unfold maxLen; omega)) (by first | rfl | (simp only [go_sem, hb4]) <;> (repeat' with_reducible apply And.intro) <;> first | assumption | rfl | omega | (unfold maxLen; omega)) (by (simp only [go_sem, hb4]) <;> (repeat' with_reducible apply And.intro) <;> first | assumption | rfl | omega | (unfold maxLen; omega)) (lv := [.int .i64 b2.2]) (by (simp only [go_sem, hb4]) <;> (repeat' with_reducible apply And.intro) <;> first | assumption | rfl | omega | (unfold maxLen; omega)) (by first | rfl | (simp only [go_sem, hb4]) <;> (repeat' with_reducible apply And.intro) <;> first | assumption | rfl | omega | (unfold maxLen; omega)) ?_
        refine AO.weaken (s' := ⟨fr [(7, .bp 7 0)], hpGet [(7, .box 3 [.int .i64 b2.2]), (1000, .map true false (.pair (.pair (.int .i64) (.int .i64)) (.int .u64)) (.int .i64) (mput b2.1 at0 b2.2))], gt⟩) (Wk.to (by (simp only [go_sem, hb4]) <;> (repeat' with_reducible apply And.intro) <;> first | assumption | rfl | omega | (unfold maxLen; omega))) ?_
        refine AO.allF tab_ok (by decide) [(7, .bp 7 0)] [(7, .box 3 [.int .i64 b2.2]), (1000, .map true false (.pair (.pair (.int .i64) (.int .i64)) (.int .u64)) (.int .i64) (mput b2.1 at0 b2.2))] (by (simp only [go_sem, hb4]) <;> (repeat' with_reducible apply And.intro) <;> first | assumption | rfl | omega | (unfold maxLen; omega)) ?_
        refine athen_n ?_
        refine AW.seq ?_
        refine AW.ops ?_
        refine AO.allF tab_ok (by decide) [(4, .int .i64 b2.2)] [(1000, .map true false (.pair (.pair (.int .i64) (.int .i64)) (.int .u64)) (.int .i64) (mput b2.1 at0 b2.2))] (by (simp only [go_sem, hb4]) <;> (repeat' with_reducible apply And.intro) <;> first | assumption | rfl | omega | (unfold maxLen; omega)) ?_
        refine athen_n ?_
        refine AW.ret ?_
        obtain rfl := Option.some.inj h
        exact ⟨rfl, [], [], [], rfl, (by (simp only [go_sem, hb4]) <;> (repeat' with_reducible apply And.intro) <;> first | assumption | rfl | omega | (unfold maxLen; omega))⟩
      · refine AW.seq ?_
        refine AW.seq ?_
        refine AW.ops ?_
        refine AO.segF tab_ok 2 (by decide) [(2, .bp 2 0), (3, .bp 3 0), (7, .bp 7 0), (22, .agg [.sl Y0 s, .sl Y1 s_2, .fn (.func 77) [] [], .own 1000]), (23, .agg [.int .i64 at0.1.1, .int .i64 at0.1.2, .int .u64 at0.2])] [(2, .box 76 [.sl Y0 s, .sl Y1 s_2, .fn (.func 77) [] [], .own 1000]), (3, .box 95 [.int .i64 at0.1.1, .int .i64 at0.1.2, .int .u64 at0.2]), (7, .box 3 [.int .i64 b1]), (1000, .map true false (.pair (.pair (.int .i64) (.int .i64)) (.int .u64)) (.int .i64) s_3)] (by (simp only [go_sem, hb4]) <;> (repeat' with_reducible apply And.intro) <;> first | assumption | rfl | omega | (unfold maxLen; omega)) ?_
        obtain ⟨v0_2, hv8, h⟩ := Option.bind_eq_some_iff.1 h
        refine AO.call tab_ok (by decide) rfl rfl rfl (fun _ h => h) [] [] (hc_history_search_steps s s_2 at0 hv8) rfl (by (simp only [go_sem, hb4]) <;> (repeat' with_reducible apply And.intro) <;> first | assumption | rfl | omega | (unfold maxLen; omega)) (by (simp only [go_sem, hb4]) <;> (repeat' with_reducible apply And.intro) <;> first | assumption | rfl | omega | (unfold maxLen; omega)) [(2, .bp 2 0), (3, .bp 3 0), (7, .bp 7 0), (24, .fn (.func 127) [] [.bp 34000 0, .bp 34001 0])] [(2, .box 76 [.sl Y0 s, .sl Y1 s_2, .fn (.func 77) [] [], .own 1000]), (3, .box 95 [.int .i64 at0.1.1, .int .i64 at0.1.2, .int .u64 at0.2]), (7, .box 3 [.int .i64 b1]), (1000, .map true false (.pair (.pair (.int .i64) (.int .i64)) (.int .u64)) (.int .i64) s_3), (34000, .box 76 [.sl Y0 s, .sl Y1 s_2, .fn (.func 77) [] [], .one]), (34001, .box 95 [.int .i64 at0.1.1, .int .i64 at0.1.2, .int .u64 at0.2])] (by (simp only [go_sem, hb4]) <;> (repeat' with_reducible apply And.intro) <;> first | assumption | rfl | omega | (unfold maxLen; omega)) ?_
        refine AO.allF tab_ok (by decide) [(2, .bp 2 0), (3, .bp 3 0), (7, .bp 7 0), (24, .fn (.func 127) [] [.bp 34000 0, .bp 34001 0])] [(2, .box 76 [.sl Y0 s, .sl Y1 s_2, .fn (.func 77) [] [], .own 1000]), (3, .box 95 [.int .i64 at0.1.1, .int .i64 at0.1.2, .int .u64 at0.2]), (7, .box 3 [.int .i64 b1]), (1000, .map true false (.pair (.pair (.int .i64) (.int .i64)) (.int .u64)) (.int .i64) s_3), (34000, .box 76 [.sl Y0 s, .sl Y1 s_2, .fn (.func 77) [] [], .one]), (34001, .box 95 [.int .i64 at0.1.1, .int .i64 at0.1.2, .int .u64 at0.2])] (by (simp only [go_sem, hb4]) <;> (repeat' with_reducible apply And.intro) <;> first | assumption | rfl | omega | (unfold maxLen; omega)) ?_
        refine athen_n ?_
        refine AW.block ?_
        obtain ⟨x9, hx10, h⟩ := Option.bind_eq_some_iff.1 h
        refine AW.weaken (s' := ⟨fr [(2, .bp 2 0), (3, .bp 3 0), (7, .bp 7 0), (24, .fn (.func 127) [] [.bp 34000 0, .bp 34001 0])], hpGet ([(34000, .box 76 [.sl Y0 s, .sl Y1 s_2, .fn (.func 77) [] [], .one]), (34001, .box 95 [.int .i64 at0.1.1, .int .i64 at0.1.2, .int .u64 at0.2])] ++ [(2, .box 76 [.sl Y0 s, .sl Y1 s_2, .fn (.func 77) [] [], .own 1000]), (3, .box 95 [.int .i64 at0.1.1, .int .i64 at0.1.2, .int .u64 at0.2]), (7, .box 3 [.int .i64 b1]), (1000, .map true false (.pair (.pair (.int .i64) (.int .i64)) (.int .u64)) (.int .i64) s_3)]), gt⟩) (Wk.le [] [] [] rfl (by (simp only [go_sem, hb4]) <;> (repeat' with_reducible apply And.intro) <;> first | assumption | rfl | omega | (unfold maxLen; omega)) (by (simp only [go_sem, hb4]) <;> (repeat' with_reducible apply And.intro) <;> first | assumption | rfl | omega | (unfold maxLen; omega))) ?_
        refine AW.rangeF (R := Empty) (l0 := [(2, .bp 2 0), (3, .bp 3 0), (7, .bp 7 0)]) (hI := [(34000, .box 76 [.sl Y0 s, .sl Y1 s_2, .fn (.func 77) [] [], .one]), (34001, .box 95 [.int .i64 at0.1.1, .int .i64 at0.1.2, .int .u64 at0.2])]) (h0 := fun (st1 : (List (((Int × Int) × Int) × Int)) × Int) => [(2, .box 76 [.sl Y0 s, .sl Y1 s_2, .fn (.func 77) [] [], .own 1000]), (3, .box 95 [.int .i64 at0.1.1, .int .i64 at0.1.2, .int .u64 at0.2]), (7, .box 3 [.int .i64 st1.2]), (1000, .map true false (.pair (.pair (.int .i64) (.int .i64)) (.int .u64)) (.int .i64) st1.1)]) (gg := fun (st1 : (List (((Int × Int) × Int) × Int)) × Int) => gt) (hx0 := (fun (r : Empty) => r.elim)) (gx := (fun (r : Empty) => r.elim)) (ex := (fun (r : Empty) => r.elim)) (s_3, b1) [(34000, 1000), (34001, 1001)] [(1000, 34000), (1001, 34001)] [(2, 1900), (3, 1901), (7, 1902)] [(1900, 2), (1901, 3), (1902, 7)] (by decide) rfl (by first | exact (ic_history_search_steps_1 s s_2 at0 (history_search_count_y1 slf s s_2) (s_3, b1) hx10) | simpa only [go_sem] using (ic_history_search_steps_1 s s_2 at0 (history_search_count_y1 slf s s_2) (s_3, b1) hx10)) (by (simp only [go_sem, hb4]) <;> (repeat' with_reducible apply And.intro) <;> first | assumption | rfl | omega | (unfold maxLen; omega)) rfl rfl rfl (fun _ => rfl) rfl (fun r => r.elim) rfl (fun r => r.elim) (fun r => r.elim) (fun _ => rfl) (fun _ => rfl) rfl (fun _ _ => by first | rfl | (exact (hΓ _).trans (hΓ _).symm) | (exact (hΓx _).trans (hΓ _).symm)) (fun _ r => r.elim) ?_ ?_
        · intro lpy1 y1 st1 x11 h
          unfold history_search_count_y1 at h
          refine AW.weaken (s' := ⟨fr [(2, .bp 1900 0), (3, .bp 1901 0), (7, .bp 1902 0), (25, .int .i64 y1.1), (26, .agg [.int .i64 y1.2.1.1, .int .i64 y1.2.1.2, .int .u64 y1.2.2])], hpGet [(1000, .map true false (.pair (.pair (.int .i64) (.int .i64)) (.int .u64)) (.int .i64) st1.1), (1900, .box 76 [.sl Y0 s, .sl Y1 s_2, .fn (.func 77) [] [], .own 1000]), (1901, .box 95 [.int .i64 at0.1.1, .int .i64 at0.1.2, .int .u64 at0.2]), (1902, .box 3 [.int .i64 st1.2])], gt⟩) (Wk.to (by (simp only [go_sem, hb4]) <;> (repeat' with_reducible apply And.intro) <;> first | assumption | rfl | omega | (unfold maxLen; omega))) ?_
          refine AW.ops ?_
          refine AO.allF tab_ok (by decide) [(2, .bp 1900 0), (3, .bp 1901 0), (7, .bp 1902 0), (9, .bp 9 0)] [(9, .box 95 [.int .i64 y1.2.1.1, .int .i64 y1.2.1.2, .int .u64 y1.2.2]), (1000, .map true false (.pair (.pair (.int .i64) (.int .i64)) (.int .u64)) (.int .i64) st1.1), (1900, .box 76 [.sl Y0 s, .sl Y1 s_2, .fn (.func 77) [] [], .own 1000]), (1901, .box 95 [.int .i64 at0.1.1, .int .i64 at0.1.2, .int .u64 at0.2]), (1902, .box 3 [.int .i64 st1.2])] (by (simp only [go_sem, hb4]) <;> (repeat' with_reducible apply And.intro) <;> first | assumption | rfl | omega | (unfold maxLen; omega)) ?_
          refine And.intro rfl ?_
          refine AW.block ?_
          refine AW.draw tab_ok mixed_ok [(3, [1000]), (5, [1902])] [(0, [1902]), (100005, [])] (by decide) (by kernel_rfl) ?_
          refine adops_cut 3 (fun K' hK12 => ?_)
          try dsimp only [List.drop_succ_cons, List.drop_zero, List.take_succ_cons, List.take_zero]
          simp only [go_sem, hb4]
          repeat (with_reducible refine And.intro (by first | assumption | rfl | omega | trivial | (unfold maxLen; omega)) ?_)
          refine hK12 _ ?_
          obtain ⟨v0_3, hv13, h⟩ := Option.bind_eq_some_iff.1 h
          refine adops.call (by first | trivial | rfl) rfl rfl rfl (fun _ h => h) [] [(1000, 1000)] (hc_slf s s_2 y1.2 st1.1 hv13) rfl (by (simp only [go_sem, hb4]) <;> (repeat' with_reducible apply And.intro) <;> first | assumption | rfl | omega | (unfold maxLen; omega)) (by (simp only [go_sem, hb4]) <;> (repeat' with_reducible apply And.intro) <;> first | assumption | rfl | omega | (unfold maxLen; omega)) rfl ?_
          obtain ⟨c15, h⟩ := ck_some.1 h
          refine adops_cut 2 (fun K' hK14 => ?_)
          try dsimp only [List.drop_succ_cons, List.drop_zero, List.take_succ_cons, List.take_zero]
          simp only [go_sem, hb4]
          repeat (with_reducible refine And.intro (by first | assumption | rfl | omega | trivial | (unfold maxLen; omega)) ?_)
          refine hK14 _ ?_
          refine adops_nil ?_
          refine ablock_n ?_
          obtain rfl := Option.some.inj h
          exact rpost_next rfl [] [] [] rfl (by (simp only [go_sem, hb4]) <;> (repeat' with_reducible apply And.intro) <;> first | assumption | rfl | omega | (unfold maxLen; omega))
        · cases x9 with
          | inl st1_2 =>
            try simp only at h
            refine ablock_n ?_
            refine athen_n ?_
            exact AW.weaken (Wk.le [] [] [] rfl (by (simp only [go_sem, hb4]) <;> (repeat' with_reducible apply And.intro) <;> first | assumption | rfl | omega | (unfold maxLen; omega)) (by (simp only [go_sem, hb4]) <;> (repeat' with_reducible apply And.intro) <;> first | assumption | rfl | omega | (unfold maxLen; omega))) (hk_history_search_count_k2 _ h)
          | inr rx =>
            exact rx.elim
    · refine AW.seq ?_
      refine AW.seq ?_
      refine AW.ops ?_
      refine AO.segF tab_ok 2 (by decide) [(2, .bp 2 0), (3, .bp 3 0), (7, .bp 7 0), (19, .agg [.sl Y0 s, .sl Y1 s_2, .fn (.func 77) [] [], .own 1000]), (20, .agg [.int .i64 at0.1.1, .int .i64 at0.1.2, .int .u64 at0.2])] [(2, .box 76 [.sl Y0 s, .sl Y1 s_2, .fn (.func 77) [] [], .own 1000]), (3, .box 95 [.int .i64 at0.1.1, .int .i64 at0.1.2, .int .u64 at0.2]), (7, .box 3 [.int .i64 0]), (1000, .map true false (.pair (.pair (.int .i64) (.int .i64)) (.int .u64)) (.int .i64) s_3)] (by (simp only [go_sem, hb4]) <;> (repeat' with_reducible apply And.intro) <;> first | assumption | rfl | omega | (unfold maxLen; omega)) ?_
      obtain ⟨v0, hv16, h⟩ := Option.bind_eq_some_iff.1 h
      refine AO.call tab_ok (by decide) rfl rfl rfl (fun _ h => h) [] [] (hc_history_search_full s s_2 at0 hv16) rfl (by (simp only [go_sem, hb4]) <;> (repeat' with_reducible apply And.intro) <;> first | assumption | rfl | omega | (unfold maxLen; omega)) (by (simp only [go_sem, hb4]) <;> (repeat' with_reducible apply And.intro) <;> first | assumption | rfl | omega | (unfold maxLen; omega)) [(2, .bp 2 0), (3, .bp 3 0), (7, .bp 7 0), (21, .bool v0)] [(2, .box 76 [.sl Y0 s, .sl Y1 s_2, .fn (.func 77) [] [], .own 1000]), (3, .box 95 [.int .i64 at0.1.1, .int .i64 at0.1.2, .int .u64 at0.2]), (7, .box 3 [.int .i64 0]), (1000, .map true false (.pair (.pair (.int .i64) (.int .i64)) (.int .u64)) (.int .i64) s_3)] (by (simp only [go_sem, hb4]) <;> (repeat' with_reducible apply And.intro) <;> first | assumption | rfl | omega | (unfold maxLen; omega)) ?_
      refine AO.allF tab_ok (by decide) [(2, .bp 2 0), (3, .bp 3 0), (7, .bp 7 0), (21, .bool v0)] [(2, .box 76 [.sl Y0 s, .sl Y1 s_2, .fn (.func 77) [] [], .own 1000]), (3, .box 95 [.int .i64 at0.1.1, .int .i64 at0.1.2, .int .u64 at0.2]), (7, .box 3 [.int .i64 0]), (1000, .map true false (.pair (.pair (.int .i64) (.int .i64)) (.int .u64)) (.int .i64) s_3)] (by (simp only [go_sem, hb4]) <;> (repeat' with_reducible apply And.intro) <;> first | assumption | rfl | omega | (unfold maxLen; omega)) ?_
      refine athen_n ?_
      refine AW.cond (b := v0) rfl (fun hb17 => ?_) (fun hb17 => ?_)
      · rw [if_pos hb17] at h
        refine AW.ops ?_
        refine AO.allF tab_ok (by decide) [(2, .bp 2 0), (3, .bp 3 0), (7, .bp 7 0)] [(2, .box 76 [.sl Y0 s, .sl Y1 s_2, .fn (.func 77) [] [], .own 1000]), (3, .box 95 [.int .i64 at0.1.1, .int .i64 at0.1.2, .int .u64 at0.2]), (7, .box 3 [.int .i64 1]), (1000, .map true false (.pair (.pair (.int .i64) (.int .i64)) (.int .u64)) (.int .i64) s_3)] (by (simp only [go_sem, hb4, hb17]) <;> (repeat' with_reducible apply And.intro) <;> first | assumption | rfl | omega | (unfold maxLen; omega)) ?_
        refine athen_n ?_
        exact AW.weaken (Wk.le [] [] [] rfl (by (simp only [go_sem, hb4, hb17]) <;> (repeat' with_reducible apply And.intro) <;> first | assumption | rfl | omega | (unfold maxLen; omega)) (by (simp only [go_sem, hb4, hb17]) <;> (repeat' with_reducible apply And.intro) <;> first | assumption | rfl | omega | (unfold maxLen; omega))) (hk_history_search_count_k1 _ h)
      · rw [if_neg (Bool.eq_false_iff.1 hb17)] at h
        refine AW.skip ?_
        refine athen_n ?_
        exact AW.weaken (Wk.le [] [] [] rfl (by (simp only [go_sem, hb4, hb17]) <;> (repeat' with_reducible apply And.intro) <;> first | assumption | rfl | omega | (unfold maxLen; omega)) (by (simp only [go_sem, hb4, hb17]) <;> (repeat' with_reducible apply And.intro) <;> first | assumption | rfl | omega | (unfold maxLen; omega))) (hk_history_search_count_k1 _ h)

theorem hc_history_search_count : ∀ (n : Nat) (s : List (Int × Int × (List (List Int)) × (List (List Int)))) (s_2 : List (Int × Int × Int × Int × Int × Int)) (at0 : (Int × Int) × Int) (s_3 : List (((Int × Int) × Int) × Int)) {r : Int × (List (((Int × Int) × Int) × Int))}, history_search_count n s s_2 at0 s_3 = some r → HC Try.prog 94 [(1000, .map true false (.pair (.pair (.int .i64) (.int .i64)) (.int .u64)) (.int .i64) s_3)] [.agg [.sl Y0 s, .sl Y1 s_2, .fn (.func 77) [] [], .own 1000], .agg [.int .i64 at0.1.1, .int .i64 at0.1.2, .int .u64 at0.2]] [(1000, .map true false (.pair (.pair (.int .i64) (.int .i64)) (.int .u64)) (.int .i64) r.2)] (.int .i64 r.1) := by
  intro n
  induction n with
  | zero => intro s s_2 at0 s_3 r h; cases h
  | succ n ih => intro s s_2 at0 s_3 r h; exact hc_history_search_countF (history_search_count n) ih s s_2 at0 s_3 h

set_option maxRecDepth 100000 in
set_option maxHeartbeats 2000000 in
theorem hc_history_search_first (s : List (Int × Int × (List (List Int)) × (List (List Int)))) (s_2 : List (Int × Int × Int × Int × Int × Int)) (s_3 : List (((Int × Int) × Int) × Int)) {r : (List Int) × Bool × (List (((Int × Int) × Int) × Int))} (h : history_search_first s s_2 s_3 = some r) : HC Try.prog 87 [(1000, .map true false (.pair (.pair (.int .i64) (.int .i64)) (.int .u64)) (.int .i64) s_3)] [.agg [.sl Y0 s, .sl Y1 s_2, .fn (.func 77) [] [], .own 1000]] [(1000, .map true false (.pair (.pair (.int .i64) (.int .i64)) (.int .u64)) (.int .i64) r.2.2), (2000, .arr 3 (.int .i64) r.1)] (.tup [.own 2000, .bool r.2.1]) := by
  unfold history_search_first at h
  refine HC.of_body tab_ok (res := [.tmp 2, .tmp 3]) Try.func87 rfl (by kernel_rfl) rfl (nt := 31) rfl (by decide) (by simp) ?_
  refine AW.seq ?_
  refine AW.ops ?_
  refine AO.allF tab_ok (by decide) [(1, .bp 1 0)] [(1, .box 76 [.sl Y0 s, .sl Y1 s_2, .fn (.func 77) [] [], .own 1000]), (1000, .map true false (.pair (.pair (.int .i64) (.int .i64)) (.int .u64)) (.int .i64) s_3)] (by (simp only [go_sem]) <;> (repeat' with_reducible apply And.intro) <;> first | assumption | rfl | omega | (unfold maxLen; omega)) ?_
  refine athen_n ?_
  refine AW.seq ?_
  refine AW.ops ?_
  refine AO.allF tab_ok (by decide) [(1, .bp 1 0), (4, .bp 4 0)] [(1, .box 76 [.sl Y0 s, .sl Y1 s_2, .fn (.func 77) [] [], .own 1000]), (4, .box 95 [.int .i64 0, .int .i64 0, .int .u64 0]), (1000, .map true false (.pair (.pair (.int .i64) (.int .i64)) (.int .u64)) (.int .i64) s_3)] (by (simp only [go_sem]) <;> (repeat' with_reducible apply And.intro) <;> first | assumption | rfl | omega | (unfold maxLen; omega)) ?_
  refine athen_n ?_
  refine AW.seq ?_
  refine AW.seq ?_
  refine AW.ops ?_
  refine AO.segF tab_ok 2 (by decide) [(1, .bp 1 0), (4, .bp 4 0), (8, .agg [.sl Y0 s, .sl Y1 s_2, .fn (.func 77) [] [], .own 1000]), (9, .agg [.int .i64 0, .int .i64 0, .int .u64 0])] [(1, .box 76 [.sl Y0 s, .sl Y1 s_2, .fn (.func 77) [] [], .own 1000]), (4, .box 95 [.int .i64 0, .int .i64 0, .int .u64 0]), (1000, .map true false (.pair (.pair (.int .i64) (.int .i64)) (.int .u64)) (.int .i64) s_3)] (by (simp only [go_sem]) <;> (repeat' with_reducible apply And.intro) <;> first | assumption | rfl | omega | (unfold maxLen; omega)) ?_
  obtain ⟨v0, hv1, h⟩ := Option.bind_eq_some_iff.1 h
  refine AO.call tab_ok (by decide) rfl rfl rfl (fun _ h => h) [] [(1000, 1000)] (hc_history_search_count fuel s s_2 ((0, 0), 0) s_3 hv1) rfl (by (simp only [go_sem]) <;> (repeat' with_reducible apply And.intro) <;> first | assumption | rfl | omega | (unfold maxLen; omega)) (by (simp only [go_sem]) <;> (repeat' with_reducible apply And.intro) <;> first | assumption | rfl | omega | (unfold maxLen; omega)) [(1, .bp 1 0), (4, .bp 4 0), (10, .int .i64 v0.1)] [(1, .box 76 [.sl Y0 s, .sl Y1 s_2, .fn (.func 77) [] [], .own 1000]), (4, .box 95 [.int .i64 0, .int .i64 0, .int .u64 0]), (1000, .map true false (.pair (.pair (.int .i64) (.int .i64)) (.int .u64)) (.int .i64) v0.2)] (by (simp only [go_sem]) <;> (repeat' with_reducible apply And.intro) <;> first | assumption | rfl | omega | (unfold maxLen; omega)) ?_
  refine AO.allF tab_ok (by decide) [(1, .bp 1 0), (4, .bp 4 0), (11, .bool (decide (v0.1 = 0)))] [(1, .box 76 [.sl Y0 s, .sl Y1 s_2, .fn (.func 77) [] [], .own 1000]), (4, .box 95 [.int .i64 0, .int .i64 0, .int .u64 0]), (1000, .map true false (.pair (.pair (.int .i64) (.int .i64)) (.int .u64)) (.int .i64) v0.2)] (by (simp only [go_sem]) <;> (repeat' with_reducible apply And.intro) <;> first | assumption | rfl | omega | (unfold maxLen; omega)) ?_
  refine athen_n ?_
  refine AW.cond (b := (decide (v0.1 = 0))) rfl (fun hb2 => ?_) (fun hb2 => ?_)
  · rw [if_pos hb2] at h
    refine AW.seq ?_
    refine AW.ops ?_
    refine AO.allF tab_ok (by decide) [(2, .cv (.slice none 0 0)), (3, .bool false)] [(1000, .map true false (.pair (.pair (.int .i64) (.int .i64)) (.int .u64)) (.int .i64) v0.2)] (by (simp only [go_sem, hb2]) <;> (repeat' with_reducible apply And.intro) <;> first | assumption | rfl | omega | (unfold maxLen; omega)) ?_
    refine athen_n ?_
    refine AW.ret ?_
    refine athen_r ?_
    obtain rfl := Option.some.inj h
    exact ⟨rfl, [], [2000], [], rfl, (by (simp only [go_sem, hb2]) <;> (repeat' with_reducible apply And.intro) <;> first | assumption | rfl | omega | (unfold maxLen; omega))⟩
  · rw [if_neg (Bool.eq_false_iff.1 hb2)] at h
    refine AW.skip ?_
    refine athen_n ?_
    refine AW.seq ?_
    refine AW.ops ?_
    refine AO.allF tab_ok (by decide) [(1, .bp 1 0), (4, .bp 4 0), (5, .bp 5 0)] [(1, .box 76 [.sl Y0 s, .sl Y1 s_2, .fn (.func 77) [] [], .own 1000]), (4, .box 95 [.int .i64 0, .int .i64 0, .int .u64 0]), (5, .box 33 [.cv (.slice none 0 0)]), (1000, .map true false (.pair (.pair (.int .i64) (.int .i64)) (.int .u64)) (.int .i64) v0.2)] (by (simp only [go_sem, hb2]) <;> (repeat' with_reducible apply And.intro) <;> first | assumption | rfl | omega | (unfold maxLen; omega)) ?_
    refine athen_n ?_
    refine AW.have1 (fun b1 : (List Int) × (List (((Int × Int) × Int) × Int)) => history_search_first_k1 b1 = some r) (fun b1 => ⟨fr [(5, .bp 5 0)], hpGet [(5, .box 33 [.own 28]), (28, .arr 3 (.int .i64) b1.1), (1000, .map true false (.pair (.pair (.int .i64) (.int .i64)) (.int .u64)) (.int .i64) b1.2)], gt⟩) (fun b1 h => ?_) (fun hk_history_search_first_k1 => ?_)
    · unfold history_search_first_k1 at h
      refine AW.seq ?_
      refine AW.ops ?_
      refine AO.allF tab_ok (by decide) [(2, .own 28), (3, .bool true)] [(28, .arr 3 (.int .i64) b1.1), (1000, .map true false (.pair (.pair (.int .i64) (.int .i64)) (.int .u64)) (.int .i64) b1.2)] (by (simp only [go_sem, hb2]) <;> (repeat' with_reducible apply And.intro) <;> first | assumption | rfl | omega | (unfold maxLen; omega)) ?_
      refine athen_n ?_
      refine AW.ret ?_
      obtain rfl := Option.some.inj h
      exact ⟨rfl, [], [], [(2000, 28)], rfl, (by (simp only [go_sem, hb2]) <;> (repeat' with_reducible apply And.intro) <;> first | assumption | rfl | omega | (unfold maxLen; omega))⟩
    · refine AW.seq ?_
      refine AW.block ?_
      obtain ⟨rv7, hw3, ho4⟩ := Option.bind_eq_some_iff.1 h
      refine AW.loopO (history_search_first_b1 s s_2) (fun st1 => ⟨fr [(1, .bp 1 0), (4, .bp 4 0), (5, .bp 5 0)], hpGet [(1, .box 76 [.sl Y0 s, .sl Y1 s_2, .fn (.func 77) [] [], .own 1000]), (4, .box 95 [.int .i64 st1.2.1, .int .i64 st1.2.2.1, .int .u64 st1.2.2.2.1]), (5, .box 33 [.own 28]), (28, .arr 3 (.int .i64) st1.2.2.2.2), (1000, .map true false (.pair (.pair (.int .i64) (.int .i64)) (.int .u64)) (.int .i64) st1.1)], gt⟩) (v0.2, 0, 0, 0, []) hw3 (Wk.le [] [28] [] rfl (by (simp only [go_sem, hb2]) <;> (repeat' with_reducible apply And.intro) <;> first | assumption | rfl | omega | (unfold maxLen; omega)) (by (simp only [go_sem, hb2]) <;> (repeat' with_reducible apply And.intro) <;> first | assumption | rfl | omega | (unfold maxLen; omega))) ?_
      intro st1 x6 h hd5
      unfold history_search_first_b1 at h
      refine AW.seq ?_
      refine AW.seq ?_
      refine AW.ops ?_
      refine AO.segF tab_ok 2 (by decide) [(1, .bp 1 0), (4, .bp 4 0), (5, .bp 5 0), (12, .agg [.sl Y0 s, .sl Y1 s_2, .fn (.func 77) [] [], .own 1000]), (13, .agg [.int .i64 st1.2.1, .int .i64 st1.2.2.1, .int .u64 st1.2.2.2.1])] [(1, .box 76 [.sl Y0 s, .sl Y1 s_2, .fn (.func 77) [] [], .own 1000]), (4, .box 95 [.int .i64 st1.2.1, .int .i64 st1.2.2.1, .int .u64 st1.2.2.2.1]), (5, .box 33 [.own 28]), (28, .arr 3 (.int .i64) st1.2.2.2.2), (1000, .map true false (.pair (.pair (.int .i64) (.int .i64)) (.int .u64)) (.int .i64) st1.1)] (by (simp only [go_sem, hb2]) <;> (repeat' with_reducible apply And.intro) <;> first | assumption | rfl | omega | (unfold maxLen; omega)) ?_
      obtain ⟨v0_2, hv8, h⟩ := Option.bind_eq_some_iff.1 h
      refine AO.call tab_ok (by decide) rfl rfl rfl (fun _ h => h) [] [] (hc_history_search_full s s_2 ((st1.2.1, st1.2.2.1), st1.2.2.2.1) hv8) rfl (by (simp only [go_sem, hb2]) <;> (repeat' with_reducible apply And.intro) <;> first | assumption | rfl | omega | (unfold maxLen; omega)) (by (simp only [go_sem, hb2]) <;> (repeat' with_reducible apply And.intro) <;> first | assumption | rfl | omega | (unfold maxLen; omega)) [(1, .bp 1 0), (4, .bp 4 0), (5, .bp 5 0), (14, .bool v0_2)] [(1, .box 76 [.sl Y0 s, .sl Y1 s_2, .fn (.func 77) [] [], .own 1000]), (4, .box 95 [.int .i64 st1.2.1, .int .i64 st1.2.2.1, .int .u64 st1.2.2.2.1]), (5, .box 33 [.own 28]), (28, .arr 3 (.int .i64) st1.2.2.2.2), (1000, .map true false (.pair (.pair (.int .i64) (.int .i64)) (.int .u64)) (.int .i64) st1.1)] (by (simp only [go_sem, hb2]) <;> (repeat' with_reducible apply And.intro) <;> first | assumption | rfl | omega | (unfold maxLen; omega)) ?_
      refine AO.allF tab_ok (by decide) [(1, .bp 1 0), (4, .bp 4 0), (5, .bp 5 0), (15, .bool (!v0_2))] [(1, .box 76 [.sl Y0 s, .sl Y1 s_2, .fn (.func 77) [] [], .own 1000]), (4, .box 95 [.int .i64 st1.2.1, .int .i64 st1.2.2.1, .int .u64 st1.2.2.2.1]), (5, .box 33 [.own 28]), (28, .arr 3 (.int .i64) st1.2.2.2.2), (1000, .map true false (.pair (.pair (.int .i64) (.int .i64)) (.int .u64)) (.int .i64) st1.1)] (by (simp only [go_sem, hb2]) <;> (repeat' with_reducible apply And.intro) <;> first | assumption | rfl | omega | (unfold maxLen; omega)) ?_
      refine athen_n ?_
      refine AW.cond (b := (!v0_2)) rfl (fun hb9 => ?_) (fun hb9 => ?_)
      · rw [if_pos hb9] at h
        refine AW.skip ?_
        refine athen_n ?_
        refine AW.block ?_
        refine AW.seq ?_
        refine AW.ops ?_
        refine AO.segF tab_ok 2 (by decide) [(1, .bp 1 0), (4, .bp 4 0), (5, .bp 5 0), (16, .agg [.sl Y0 s, .sl Y1 s_2, .fn (.func 77) [] [], .own 1000]), (17, .agg [.int .i64 st1.2.1, .int .i64 st1.2.2.1, .int .u64 st1.2.2.2.1])] [(1, .box 76 [.sl Y0 s, .sl Y1 s_2, .fn (.func 77) [] [], .own 1000]), (4, .box 95 [.int .i64 st1.2.1, .int .i64 st1.2.2.1, .int .u64 st1.2.2.2.1]), (5, .box 33 [.own 28]), (28, .arr 3 (.int .i64) st1.2.2.2.2), (1000, .map true false (.pair (.pair (.int .i64) (.int .i64)) (.int .u64)) (.int .i64) st1.1)] (by (simp only [go_sem, hb2, hb9]) <;> (repeat' with_reducible apply And.intro) <;> first | assumption | rfl | omega | (unfold maxLen; omega)) ?_
        obtain ⟨v0_3, hv10, h⟩ := Option.bind_eq_some_iff.1 h
        refine AO.call tab_ok (by decide) rfl rfl rfl (fun _ h => h) [] [] (hc_history_search_steps s s_2 ((st1.2.1, st1.2.2.1), st1.2.2.2.1) hv10) rfl (by (simp only [go_sem, hb2, hb9]) <;> (repeat' with_reducible apply And.intro) <;> first | assumption | rfl | omega | (unfold maxLen; omega)) (by (simp only [go_sem, hb2, hb9]) <;> (repeat' with_reducible apply And.intro) <;> first | assumption | rfl | omega | (unfold maxLen; omega)) [(1, .bp 1 0), (4, .bp 4 0), (5, .bp 5 0), (18, .fn (.func 127) [] [.bp 28000 0, .bp 28001 0])] [(1, .box 76 [.sl Y0 s, .sl Y1 s_2, .fn (.func 77) [] [], .own 1000]), (4, .box 95 [.int .i64 st1.2.1, .int .i64 st1.2.2.1, .int .u64 st1.2.2.2.1]), (5, .box 33 [.own 28]), (28, .arr 3 (.int .i64) st1.2.2.2.2), (1000, .map true false (.pair (.pair (.int .i64) (.int .i64)) (.int .u64)) (.int .i64) st1.1), (28000, .box 76 [.sl Y0 s, .sl Y1 s_2, .fn (.func 77) [] [], .one]), (28001, .box 95 [.int .i64 st1.2.1, .int .i64 st1.2.2.1, .int .u64 st1.2.2.2.1])] (by (simp only [go_sem, hb2, hb9]) <;> (repeat' with_reducible apply And.intro) <;> first | assumption | rfl | omega | (unfold maxLen; omega)) ?_
        refine AO.allF tab_ok (by decide) [(1, .bp 1 0), (4, .bp 4 0), (5, .bp 5 0), (18, .fn (.func 127) [] [.bp 28000 0, .bp 28001 0])] [(1, .box 76 [.sl Y0 s, .sl Y1 s_2, .fn (.func 77) [] [], .own 1000]), (4, .box 95 [.int .i64 st1.2.1, .int .i64 st1.2.2.1, .int .u64 st1.2.2.2.1]), (5, .box 33 [.own 28]), (28, .arr 3 (.int .i64) st1.2.2.2.2), (1000, .map true false (.pair (.pair (.int .i64) (.int .i64)) (.int .u64)) (.int .i64) st1.1), (28000, .box 76 [.sl Y0 s, .sl Y1 s_2, .fn (.func 77) [] [], .one]), (28001, .box 95 [.int .i64 st1.2.1, .int .i64 st1.2.2.1, .int .u64 st1.2.2.2.1])] (by (simp only [go_sem, hb2, hb9]) <;> (repeat' with_reducible apply And.intro) <;> first | assumption | rfl | omega | (unfold maxLen; omega)) ?_
        refine athen_n ?_
        refine AW.block ?_
        obtain ⟨x11, hx12, h⟩ := Option.bind_eq_some_iff.1 h
        refine AW.weaken (s' := ⟨fr [(1, .bp 1 0), (4, .bp 4 0), (5, .bp 5 0), (18, .fn (.func 127) [] [.bp 28000 0, .bp 28001 0])], hpGet ([(28000, .box 76 [.sl Y0 s, .sl Y1 s_2, .fn (.func 77) [] [], .one]), (28001, .box 95 [.int .i64 st1.2.1, .int .i64 st1.2.2.1, .int .u64 st1.2.2.2.1])] ++ [(1, .box 76 [.sl Y0 s, .sl Y1 s_2, .fn (.func 77) [] [], .own 1000]), (4, .box 95 [.int .i64 st1.2.1, .int .i64 st1.2.2.1, .int .u64 st1.2.2.2.1]), (5, .box 33 [.own 28]), (28, .arr 3 (.int .i64) st1.2.2.2.2), (1000, .map true false (.pair (.pair (.int .i64) (.int .i64)) (.int .u64)) (.int .i64) st1.1)]), gt⟩) (Wk.le [] [] [] rfl (by (simp only [go_sem, hb2, hb9]) <;> (repeat' with_reducible apply And.intro) <;> first | assumption | rfl | omega | (unfold maxLen; omega)) (by (simp only [go_sem, hb2, hb9]) <;> (repeat' with_reducible apply And.intro) <;> first | assumption | rfl | omega | (unfold maxLen; omega))) ?_
        refine AW.rangeF (R := (List (((Int × Int) × Int) × Int)) × Int × Int × Int × (List Int)) (l0 := [(1, .bp 1 0), (4, .bp 4 0), (5, .bp 5 0)]) (hI := [(28000, .box 76 [.sl Y0 s, .sl Y1 s_2, .fn (.func 77) [] [], .one]), (28001, .box 95 [.int .i64 st1.2.1, .int .i64 st1.2.2.1, .int .u64 st1.2.2.2.1])]) (h0 := fun (st2 : (List (((Int × Int) × Int) × Int))) => [(1, .box 76 [.sl Y0 s, .sl Y1 s_2, .fn (.func 77) [] [], .own 1000]), (4, .box 95 [.int .i64 st1.2.1, .int .i64 st1.2.2.1, .int .u64 st1.2.2.2.1]), (5, .box 33 [.own 28]), (28, .arr 3 (.int .i64) st1.2.2.2.2), (1000, .map true false (.pair (.pair (.int .i64) (.int .i64)) (.int .u64)) (.int .i64) st2)]) (gg := fun (st2 : (List (((Int × Int) × Int) × Int))) => gt) (hx0 := (fun (r2 : (List (((Int × Int) × Int) × Int)) × Int × Int × Int × (List Int)) => [(1, .box 76 [.sl Y0 s, .sl Y1 s_2, .fn (.func 77) [] [], .own 1000]), (4, .box 95 [.int .i64 r2.2.1, .int .i64 r2.2.2.1, .int .u64 r2.2.2.2.1]), (5, .box 33 [.own 28]), (28, .arr 3 (.int .i64) r2.2.2.2.2), (1000, .map true false (.pair (.pair (.int .i64) (.int .i64)) (.int .u64)) (.int .i64) r2.1)])) (gx := (fun (r2 : (List (((Int × Int) × Int) × Int)) × Int × Int × Int × (List Int)) => gt)) (ex := (fun (r2 : (List (((Int × Int) × Int) × Int)) × Int × Int × Int × (List Int)) => Exit.exit 2)) st1.1 [(28000, 1000), (28001, 1001)] [(1000, 28000), (1001, 28001)] [(1, 1900), (4, 1901), (5, 1902)] [(1900, 1), (1901, 4), (1902, 5)] (by decide) rfl (by first | exact (ic_history_search_steps_1 s s_2 ((st1.2.1, st1.2.2.1), st1.2.2.2.1) (history_search_first_y2 s s_2 st1) st1.1 hx12) | simpa only [go_sem] using (ic_history_search_steps_1 s s_2 ((st1.2.1, st1.2.2.1), st1.2.2.2.1) (history_search_first_y2 s s_2 st1) st1.1 hx12)) (by (simp only [go_sem, hb2, hb9]) <;> (repeat' with_reducible apply And.intro) <;> first | assumption | rfl | omega | (unfold maxLen; omega)) rfl rfl rfl (fun _ => rfl) rfl (fun _ => rfl) rfl (fun _ => rfl) (fun _ => rfl) (fun _ => rfl) (fun _ => rfl) rfl (fun _ _ => by first | rfl | (exact (hΓ _).trans (hΓ _).symm) | (exact (hΓx _).trans (hΓ _).symm)) (fun _ _ => by first | rfl | (exact (hΓ _).trans (hΓ _).symm) | (exact (hΓx _).trans (hΓ _).symm)) ?_ ?_
        · intro lpy2 y2 st2 x13 h
          unfold history_search_first_y2 at h
          refine AW.weaken (s' := ⟨fr [(1, .bp 1900 0), (4, .bp 1901 0), (5, .bp 1902 0), (19, .int .i64 y2.1), (20, .agg [.int .i64 y2.2.1.1, .int .i64 y2.2.1.2, .int .u64 y2.2.2])], hpGet [(28, .arr 3 (.int .i64) st1.2.2.2.2), (1000, .map true false (.pair (.pair (.int .i64) (.int .i64)) (.int .u64)) (.int .i64) st2), (1900, .box 76 [.sl Y0 s, .sl Y1 s_2, .fn (.func 77) [] [], .own 1000]), (1901, .box 95 [.int .i64 st1.2.1, .int .i64 st1.2.2.1, .int .u64 st1.2.2.2.1]), (1902, .box 33 [.own 28])], gt⟩) (Wk.to (by (simp only [go_sem, hb2, hb9]) <;> (repeat' with_reducible apply And.intro) <;> first | assumption | rfl | omega | (unfold maxLen; omega))) ?_
          refine AW.seq ?_
          refine AW.ops ?_
          refine AO.allF tab_ok (by decide) [(1, .bp 1900 0), (4, .bp 1901 0), (5, .bp 1902 0), (6, .int .i64 y2.1), (20, .agg [.int .i64 y2.2.1.1, .int .i64 y2.2.1.2, .int .u64 y2.2.2])] [(28, .arr 3 (.int .i64) st1.2.2.2.2), (1000, .map true false (.pair (.pair (.int .i64) (.int .i64)) (.int .u64)) (.int .i64) st2), (1900, .box 76 [.sl Y0 s, .sl Y1 s_2, .fn (.func 77) [] [], .own 1000]), (1901, .box 95 [.int .i64 st1.2.1, .int .i64 st1.2.2.1, .int .u64 st1.2.2.2.1]), (1902, .box 33 [.own 28])] (by (simp only [go_sem, hb2, hb9]) <;> (repeat' with_reducible apply And.intro) <;> first | assumption | rfl | omega | (unfold maxLen; omega)) ?_
          refine athen_n ?_
          refine AW.ops ?_
          refine AO.allF tab_ok (by decide) [(1, .bp 1900 0), (4, .bp 1901 0), (5, .bp 1902 0), (6, .int .i64 y2.1), (7, .bp 7 0)] [(7, .box 95 [.int .i64 y2.2.1.1, .int .i64 y2.2.1.2, .int .u64 y2.2.2]), (28, .arr 3 (.int .i64) st1.2.2.2.2), (1000, .map true false (.pair (.pair (.int .i64) (.int .i64)) (.int .u64)) (.int .i64) st2), (1900, .box 76 [.sl Y0 s, .sl Y1 s_2, .fn (.func 77) [] [], .own 1000]), (1901, .box 95 [.int .i64 st1.2.1, .int .i64 st1.2.2.1, .int .u64 st1.2.2.2.1]), (1902, .box 33 [.own 28])] (by (simp only [go_sem, hb2, hb9]) <;> (repeat' with_reducible apply And.intro) <;> first | assumption | rfl | omega | (unfold maxLen; omega)) ?_
          refine And.intro rfl ?_
          refine AW.block ?_
          refine AW.seq ?_
          refine AW.ops ?_
          refine AO.segF tab_ok 2 (by decide) [(1, .bp 1900 0), (4, .bp 1901 0), (5, .bp 1902 0), (6, .int .i64 y2.1), (7, .bp 7 0), (21, .agg [.sl Y0 s, .sl Y1 s_2, .fn (.func 77) [] [], .own 1000]), (22, .agg [.int .i64 y2.2.1.1, .int .i64 y2.2.1.2, .int .u64 y2.2.2])] [(7, .box 95 [.int .i64 y2.2.1.1, .int .i64 y2.2.1.2, .int .u64 y2.2.2]), (28, .arr 3 (.int .i64) st1.2.2.2.2), (1000, .map true false (.pair (.pair (.int .i64) (.int .i64)) (.int .u64)) (.int .i64) st2), (1900, .box 76 [.sl Y0 s, .sl Y1 s_2, .fn (.func 77) [] [], .own 1000]), (1901, .box 95 [.int .i64 st1.2.1, .int .i64 st1.2.2.1, .int .u64 st1.2.2.2.1]), (1902, .box 33 [.own 28])] (by (simp only [go_sem, hb2, hb9]) <;> (repeat' with_reducible apply And.intro) <;> first | assumption | rfl | omega | (unfold maxLen; omega)) ?_
          obtain ⟨v0_4, hv14, h⟩ := Option.bind_eq_some_iff.1 h
          refine AO.call tab_ok (by decide) rfl rfl rfl (fun _ h => h) [] [(1000, 1000)] (hc_history_search_count fuel s s_2 y2.2 st2 hv14) rfl (by (simp only [go_sem, hb2, hb9]) <;> (repeat' with_reducible apply And.intro) <;> first | assumption | rfl | omega | (unfold maxLen; omega)) (by (simp only [go_sem, hb2, hb9]) <;> (repeat' with_reducible apply And.intro) <;> first | assumption | rfl | omega | (unfold maxLen; omega)) [(1, .bp 1900 0), (4, .bp 1901 0), (5, .bp 1902 0), (6, .int .i64 y2.1), (7, .bp 7 0), (23, .int .i64 v0_4.1)] [(7, .box 95 [.int .i64 y2.2.1.1, .int .i64 y2.2.1.2, .int .u64 y2.2.2]), (28, .arr 3 (.int .i64) st1.2.2.2.2), (1000, .map true false (.pair (.pair (.int .i64) (.int .i64)) (.int .u64)) (.int .i64) v0_4.2), (1900, .box 76 [.sl Y0 s, .sl Y1 s_2, .fn (.func 77) [] [], .own 1000]), (1901, .box 95 [.int .i64 st1.2.1, .int .i64 st1.2.2.1, .int .u64 st1.2.2.2.1]), (1902, .box 33 [.own 28])] (by (simp only [go_sem, hb2, hb9]) <;> (repeat' with_reducible apply And.intro) <;> first | assumption | rfl | omega | (unfold maxLen; omega)) ?_
          refine AO.allF tab_ok (by decide) [(1, .bp 1900 0), (4, .bp 1901 0), (5, .bp 1902 0), (6, .int .i64 y2.1), (7, .bp 7 0), (24, .bool (decide (0 < v0_4.1)))] [(7, .box 95 [.int .i64 y2.2.1.1, .int .i64 y2.2.1.2, .int .u64 y2.2.2]), (28, .arr 3 (.int .i64) st1.2.2.2.2), (1000, .map true false (.pair (.pair (.int .i64) (.int .i64)) (.int .u64)) (.int .i64) v0_4.2), (1900, .box 76 [.sl Y0 s, .sl Y1 s_2, .fn (.func 77) [] [], .own 1000]), (1901, .box 95 [.int .i64 st1.2.1, .int .i64 st1.2.2.1, .int .u64 st1.2.2.2.1]), (1902, .box 33 [.own 28])] (by (simp only [go_sem, hb2, hb9]) <;> (repeat' with_reducible apply And.intro) <;> first | assumption | rfl | omega | (unfold maxLen; omega)) ?_
          refine athen_n ?_
          refine AW.cond (b := (decide (0 < v0_4.1))) rfl (fun hb15 => ?_) (fun hb15 => ?_)
          · rw [if_pos hb15] at h
            refine AW.seq ?_
            refine AW.draw tab_ok mixed_ok [(2, [27]), (3, [28]), (5, [1902]), (6, [1901])] [(0, [28, 1902, 1000000028]), (4, [7]), (100005, []), (100006, [])] (by decide) (by kernel_rfl) ?_
            obtain ⟨c17, h⟩ := ck_some.1 h
            refine adops_cut 6 (fun K' hK16 => ?_)
            try dsimp only [List.drop_succ_cons, List.drop_zero, List.take_succ_cons, List.take_zero]
            simp only [go_sem, hb2, hb9, hb15]
            repeat (with_reducible refine And.intro (by first | assumption | rfl | omega | trivial | (unfold maxLen; omega)) ?_)
            refine hK16 _ ?_
            refine adops_cut 1 (fun K' hK18 => ?_)
            try dsimp only [List.drop_succ_cons, List.drop_zero, List.take_succ_cons, List.take_zero]
            simp only [go_sem, hb2, hb9, hb15]
            repeat (with_reducible refine And.intro (by first | assumption | rfl | omega | trivial | (unfold maxLen; omega)) ?_)
            refine hK18 _ ?_
            refine adops_nil ?_
            refine athen_n ?_
            refine AW.weaken (s' := ⟨fr [(1, .bp 1900 0), (4, .bp 1901 0), (5, .bp 1902 0)], hpGet [(28, .arr 3 (.int .i64) (st1.2.2.2.2 ++ [y2.1])), (1000, .map true false (.pair (.pair (.int .i64) (.int .i64)) (.int .u64)) (.int .i64) v0_4.2), (1900, .box 76 [.sl Y0 s, .sl Y1 s_2, .fn (.func 77) [] [], .own 1000]), (1901, .box 95 [.int .i64 y2.2.1.1, .int .i64 y2.2.1.2, .int .u64 y2.2.2]), (1902, .box 33 [.own 28])], gt⟩) (Wk.to (by (simp only [go_sem, hb2, hb9, hb15]) <;> (repeat' with_reducible apply And.intro) <;> first | assumption | rfl | omega | (unfold maxLen; omega))) ?_
            refine AW.exit ?_
            refine ablock_o (by decide) ?_
            obtain rfl := Option.some.inj h
            exact rpost_exit rfl rfl [] [] [] rfl (by (simp only [go_sem, hb2, hb9, hb15]) <;> (repeat' with_reducible apply And.intro) <;> first | assumption | rfl | omega | (unfold maxLen; omega))
          · rw [if_neg (Bool.eq_false_iff.1 hb15)] at h
            refine AW.skip ?_
            refine ablock_n ?_
            obtain rfl := Option.some.inj h
            exact rpost_next rfl [] [] [] rfl (by (simp only [go_sem, hb2, hb9, hb15]) <;> (repeat' with_reducible apply And.intro) <;> first | assumption | rfl | omega | (unfold maxLen; omega))
        · cases x11 with
          | inl st2_2 =>
            try simp only at h
            refine ablock_n ?_
            refine ablock_n ?_
            obtain rfl := Option.some.inj h
            exact ⟨_, rfl, Wk.le [] [] [] rfl (by (simp only [go_sem, hb2, hb9]) <;> (repeat' with_reducible apply And.intro) <;> first | assumption | rfl | omega | (unfold maxLen; omega)) (by (simp only [go_sem, hb2, hb9]) <;> (repeat' with_reducible apply And.intro) <;> first | assumption | rfl | omega | (unfold maxLen; omega))⟩
          | inr r2 =>
            try simp only at h
            refine ablock_s ?_
            refine ablock_n ?_
            obtain rfl := Option.some.inj h
            exact ⟨_, rfl, Wk.le [] [] [] rfl (by (simp only [go_sem, hb2, hb9]) <;> (repeat' with_reducible apply And.intro) <;> first | assumption | rfl | omega | (unfold maxLen; omega)) (by (simp only [go_sem, hb2, hb9]) <;> (repeat' with_reducible apply And.intro) <;> first | assumption | rfl | omega | (unfold maxLen; omega))⟩
      · rw [if_neg (Bool.eq_false_iff.1 hb9)] at h
        refine AW.exit ?_
        refine athen_e ?_
        obtain rfl := Option.some.inj h
        rw [← hd5 _ rfl] at ho4
        have h := ho4
        refine athen_e ?_
        refine ablock_s ?_
        refine athen_n ?_
        exact AW.weaken (Wk.le [] [] [] rfl (by (simp only [go_sem, hb2, hb9]) <;> (repeat' with_reducible apply And.intro) <;> first | assumption | rfl | omega | (unfold maxLen; omega)) (by (simp only [go_sem, hb2, hb9]) <;> (repeat' with_reducible apply And.intro) <;> first | assumption | rfl | omega | (unfold maxLen; omega))) (hk_history_search_first_k1 _ h)

set_option maxRecDepth 100000 in
set_option maxHeartbeats 2000000 in
theorem hc_history_Order (specs : List (Int × Int × (List (List Int)) × (List (List Int)))) (h0 : List (Int × Int × Int × Int × Int × Int)) {r : (List Int) × Int} (h : history_Order specs h0 = some r) : HC Try.prog 30 [] [.sl Y0 specs, .sl Y1 h0] [(2000, .arr 3 (.int .i64) r.1)] (.tup [.own 2000, .int .i64 r.2]) := by
  unfold history_Order at h
  refine HC.of_body tab_ok (res := [.tmp 4, .tmp 5]) Try.func30 rfl (by kernel_rfl) rfl (nt := 29) rfl (by decide) (by simp) ?_
  refine AW.seq ?_
  refine AW.ops ?_
  refine AO.allF tab_ok (by decide) [(2, .bp 2 0), (3, .bp 3 0)] [(2, .box 22 [.sl Y0 specs]), (3, .box 23 [.sl Y1 h0])] (by (simp only [go_sem]) <;> (repeat' with_reducible apply And.intro) <;> first | assumption | rfl | omega | (unfold maxLen; omega)) ?_
  refine athen_n ?_
  refine AW.seq ?_
  refine AW.ops ?_
  refine AO.segF tab_ok 2 (by decide) [(2, .bp 2 0), (3, .bp 3 0), (11, .sl Y0 specs), (12, .sl Y1 h0)] [(2, .box 22 [.sl Y0 specs]), (3, .box 23 [.sl Y1 h0])] (by (simp only [go_sem]) <;> (repeat' with_reducible apply And.intro) <;> first | assumption | rfl | omega | (unfold maxLen; omega)) ?_
  obtain ⟨v0, hv1, h⟩ := Option.bind_eq_some_iff.1 h
  refine AO.call tab_ok (by decide) rfl rfl rfl (fun _ h => h) [] [] (hc_history_checkFor specs h0 hv1) rfl (by (simp only [go_sem]) <;> (repeat' with_reducible apply And.intro) <;> first | assumption | rfl | omega | (unfold maxLen; omega)) (by (simp only [go_sem]) <;> (repeat' with_reducible apply And.intro) <;> first | assumption | rfl | omega | (unfold maxLen; omega)) [(2, .bp 2 0), (3, .bp 3 0), (13, .int .i64 v0)] [(2, .box 22 [.sl Y0 specs]), (3, .box 23 [.sl Y1 h0])] (by (simp only [go_sem]) <;> (repeat' with_reducible apply And.intro) <;> first | assumption | rfl | omega | (unfold maxLen; omega)) ?_
  refine AO.segF tab_ok 1 (by decide) [(13, .int .i64 v0), (14, .fn (.func 85) [] [.bp 2 0, .bp 3 0])] [(2, .box 22 [.sl Y0 specs]), (3, .box 23 [.sl Y1 h0])] (by (simp only [go_sem]) <;> (repeat' with_reducible apply And.intro) <;> first | assumption | rfl | omega | (unfold maxLen; omega)) ?_
  rcases Bool.eq_false_or_eq_true (decide (v0 = 0)) with hb2 | hb2
  · rw [if_pos hb2] at h
    have hz3 : v0 = 0 := by simpa using hb2
    refine AO.weaken (s' := ⟨fr [(13, .int .i64 0), (14, .fn (.func 85) [] [.bp 2 0, .bp 3 0])], hpGet [(2, .box 22 [.sl Y0 specs]), (3, .box 23 [.sl Y1 h0])], gt⟩) (Wk.to (by (simp only [go_sem, hb2, hz3]) <;> (repeat' with_reducible apply And.intro) <;> first | assumption | rfl | omega | (unfold maxLen; omega))) ?_
    obtain ⟨v0_2, hv4, h⟩ := Option.bind_eq_some_iff.1 h
    refine AO.call tab_ok (by decide) rfl rfl rfl (fun _ h => h) [] [(1000, 2), (1001, 3)] (hc_history_told specs h0 hv4) rfl (by (simp only [go_sem, hb2, hz3]) <;> (repeat' with_reducible apply And.intro) <;> first | assumption | rfl | omega | (unfold maxLen; omega)) (by (simp only [go_sem, hb2, hz3]) <;> (repeat' with_reducible apply And.intro) <;> first | assumption | rfl | omega | (unfold maxLen; omega)) [(15, .tup [.agg [.sl Y0 specs, .sl Y1 h0, .fn (.func 77) [] [], .own 25000], .int .i64 0])] [(25000, .map true false (.pair (.pair (.int .i64) (.int .i64)) (.int .u64)) (.int .i64) [])] (by (simp only [go_sem, hb2, hz3]) <;> (repeat' with_reducible apply And.intro) <;> first | assumption | rfl | omega | (unfold maxLen; omega)) ?_
    refine AO.allF tab_ok (by decide) [(6, .bp 6 0), (7, .int .i64 0)] [(6, .box 76 [.sl Y0 specs, .sl Y1 h0, .fn (.func 77) [] [], .own 25000]), (25000, .map true false (.pair (.pair (.int .i64) (.int .i64)) (.int .u64)) (.int .i64) [])] (by (simp only [go_sem, hb2, hz3]) <;> (repeat' with_reducible apply And.intro) <;> first | assumption | rfl | omega | (unfold maxLen; omega)) ?_
    refine athen_n ?_
    refine AW.seq ?_
    refine AW.seq ?_
    refine AW.ops ?_
    refine AO.allF tab_ok (by decide) [(6, .bp 6 0), (7, .int .i64 0), (19, .bool false)] [(6, .box 76 [.sl Y0 specs, .sl Y1 h0, .fn (.func 77) [] [], .own 25000]), (25000, .map true false (.pair (.pair (.int .i64) (.int .i64)) (.int .u64)) (.int .i64) [])] (by (simp only [go_sem, hb2, hz3]) <;> (repeat' with_reducible apply And.intro) <;> first | assumption | rfl | omega | (unfold maxLen; omega)) ?_
    refine athen_n ?_
    refine AW.cond (b := false) rfl (fun hb5 => by cases hb5) (fun _ => ?_)
    refine AW.skip ?_
    refine athen_n ?_
    refine AW.seq ?_
    refine AW.ops ?_
    refine AO.segF tab_ok 1 (by decide) [(22, .agg [.sl Y0 specs, .sl Y1 h0, .fn (.func 77) [] [], .own 25000])] [(25000, .map true false (.pair (.pair (.int .i64) (.int .i64)) (.int .u64)) (.int .i64) [])] (by (simp only [go_sem, hb2, hz3]) <;> (repeat' with_reducible apply And.intro) <;> first | assumption | rfl | omega | (unfold maxLen; omega)) ?_
    obtain ⟨v0_3, hv6, h⟩ := Option.bind_eq_some_iff.1 h
    refine AO.call tab_ok (by decide) rfl rfl rfl (fun _ h => h) [] [(1000, 25000)] (hc_history_search_first specs h0 [] hv6) rfl (by (simp only [go_sem, hb2, hz3]) <;> (repeat' with_reducible apply And.intro) <;> first | assumption | rfl | omega | (unfold maxLen; omega)) (by (simp only [go_sem, hb2, hz3]) <;> (repeat' with_reducible apply And.intro) <;> first | assumption | rfl | omega | (unfold maxLen; omega)) [(23, .tup [.own 33000, .bool v0_3.2.1])] [(33000, .arr 3 (.int .i64) v0_3.1)] (by (simp only [go_sem, hb2, hz3]) <;> (repeat' with_reducible apply And.intro) <;> first | assumption | rfl | omega | (unfold maxLen; omega)) ?_
    refine AO.allF tab_ok (by decide) [(8, .own 33000), (9, .bool v0_3.2.1)] [(33000, .arr 3 (.int .i64) v0_3.1)] (by (simp only [go_sem, hb2, hz3]) <;> (repeat' with_reducible apply And.intro) <;> first | assumption | rfl | omega | (unfold maxLen; omega)) ?_
    refine athen_n ?_
    refine AW.seq ?_
    refine AW.seq ?_
    refine AW.ops ?_
    refine AO.allF tab_ok (by decide) [(8, .own 33000), (27, .bool (!v0_3.2.1))] [(33000, .arr 3 (.int .i64) v0_3.1)] (by (simp only [go_sem, hb2, hz3]) <;> (repeat' with_reducible apply And.intro) <;> first | assumption | rfl | omega | (unfold maxLen; omega)) ?_
    refine athen_n ?_
    refine AW.cond (b := (!v0_3.2.1)) rfl (fun hb7 => ?_) (fun hb7 => ?_)
    · rw [if_pos hb7] at h
      refine AW.seq ?_
      refine AW.ops ?_
      refine AO.allF tab_ok (by decide) [(4, .cv (.slice none 0 0)), (5, .int .i64 5)] [] (by (simp only [go_sem, hb2, hz3, hb7]) <;> (repeat' with_reducible apply And.intro) <;> first | assumption | rfl | omega | (unfold maxLen; omega)) ?_
      refine athen_n ?_
      refine AW.ret ?_
      refine athen_r ?_
      obtain rfl := Option.some.inj h
      exact ⟨rfl, [], [2000], [], rfl, (by (simp only [go_sem, hb2, hz3, hb7]) <;> (repeat' with_reducible apply And.intro) <;> first | assumption | rfl | omega | (unfold maxLen; omega))⟩
    · rw [if_neg (Bool.eq_false_iff.1 hb7)] at h
      refine AW.skip ?_
      refine athen_n ?_
      refine AW.seq ?_
      refine AW.ops ?_
      refine AO.allF tab_ok (by decide) [(4, .own 33000), (5, .int .i64 0)] [(33000, .arr 3 (.int .i64) v0_3.1)] (by (simp only [go_sem, hb2, hz3, hb7]) <;> (repeat' with_reducible apply And.intro) <;> first | assumption | rfl | omega | (unfold maxLen; omega)) ?_
      refine athen_n ?_
      refine AW.ret ?_
      obtain rfl := Option.some.inj h
      exact ⟨rfl, [], [], [(2000, 33000)], rfl, (by (simp only [go_sem, hb2, hz3, hb7]) <;> (repeat' with_reducible apply And.intro) <;> first | assumption | rfl | omega | (unfold maxLen; omega))⟩
  · rw [if_neg (Bool.eq_false_iff.1 hb2)] at h
    refine AO.weaken (s' := ⟨fr [(13, .int .i64 v0), (14, .fn (.func 85) [] [.bp 2 0, .bp 3 0])], hpGet [(2, .box 22 [.sl Y0 specs]), (3, .box 23 [.sl Y1 h0])], gt⟩) (Wk.to (by (simp only [go_sem, hb2]) <;> (repeat' with_reducible apply And.intro) <;> first | assumption | rfl | omega | (unfold maxLen; omega))) ?_
    obtain ⟨v0_4, hv8, h⟩ := Option.bind_eq_some_iff.1 h
    refine AO.call tab_ok (by decide) rfl rfl rfl (fun _ h => h) [] [(1000, 2), (1001, 3)] (hc_history_told_2 v0 specs h0 hb2 hv8) rfl (by (simp only [go_sem, hb2]) <;> (repeat' with_reducible apply And.intro) <;> first | assumption | rfl | omega | (unfold maxLen; omega)) (by (simp only [go_sem, hb2]) <;> (repeat' with_reducible apply And.intro) <;> first | assumption | rfl | omega | (unfold maxLen; omega)) [(15, .tup [.agg [.cv (.slice none 0 0), .cv (.slice none 0 0), .cv (.nilFunc), .cv (.map none)], .int .i64 v0])] [] (by (simp only [go_sem, hb2]) <;> (repeat' with_reducible apply And.intro) <;> first | assumption | rfl | omega | (unfold maxLen; omega)) ?_
    refine AO.allF tab_ok (by decide) [(6, .bp 6 0), (7, .int .i64 v0)] [(6, .box 76 [.cv (.slice none 0 0), .cv (.slice none 0 0), .cv (.nilFunc), .cv (.map none)])] (by (simp only [go_sem, hb2]) <;> (repeat' with_reducible apply And.intro) <;> first | assumption | rfl | omega | (unfold maxLen; omega)) ?_
    refine athen_n ?_
    refine AW.seq ?_
    refine AW.seq ?_
    refine AW.ops ?_
    refine AO.allF tab_ok (by decide) [(6, .bp 6 0), (7, .int .i64 v0), (19, .bool true)] [(6, .box 76 [.cv (.slice none 0 0), .cv (.slice none 0 0), .cv (.nilFunc), .cv (.map none)])] (by (simp only [go_sem, hb2]) <;> (repeat' with_reducible apply And.intro) <;> first | assumption | rfl | omega | (unfold maxLen; omega)) ?_
    refine athen_n ?_
    refine AW.cond (b := true) rfl (fun _ => ?_) (fun hb9 => by cases hb9)
    refine AW.seq ?_
    refine AW.ops ?_
    refine AO.allF tab_ok (by decide) [(4, .cv (.slice none 0 0)), (5, .int .i64 v0)] [] (by (simp only [go_sem, hb2]) <;> (repeat' with_reducible apply And.intro) <;> first | assumption | rfl | omega | (unfold maxLen; omega)) ?_
    refine athen_n ?_
    refine AW.ret ?_
    refine athen_r ?_
    obtain rfl := Option.some.inj h
    exact ⟨rfl, [], [2000], [], rfl, (by (simp only [go_sem, hb2]) <;> (repeat' with_reducible apply And.intro) <;> first | assumption | rfl | omega | (unfold maxLen; omega))⟩

set_option maxRecDepth 100000 in
set_option maxHeartbeats 2000000 in
theorem hc_linealref02_SameInts (a : List Int) (b : List Int) {r : Bool} (h : linealref02_SameInts a b = some r) : HC Try.prog 32 [] [.sl (.int .i64) a, .sl (.int .i64) b] [] (.bool r) := by
  unfold linealref02_SameInts at h
  refine HC.of_body tab_ok (res := [.tmp 4]) Try.func32 rfl (by kernel_rfl) rfl (nt := 26) rfl (by decide) (by simp) ?_
  refine AW.seq ?_
  refine AW.ops ?_
  refine AO.allF tab_ok (by decide) [(0, .sl (.int .i64) a), (1, .sl (.int .i64) b)] [] (by (simp only [go_sem]) <;> (repeat' with_reducible apply And.intro) <;> first | assumption | rfl | omega | (unfold maxLen; omega)) ?_
  refine athen_n ?_
  refine AW.seq ?_
  refine AW.seq ?_
  refine AW.ops ?_
  refine AO.allF tab_ok (by decide) [(0, .sl (.int .i64) a), (1, .sl (.int .i64) b), (10, .bool (!(decide ((a.length : Int) = (b.length : Int)))))] [] (by (simp only [go_sem]) <;> (repeat' with_reducible apply And.intro) <;> first | assumption | rfl | omega | (unfold maxLen; omega)) ?_
  refine athen_n ?_
  refine AW.cond (b := (!(decide ((a.length : Int) = (b.length : Int))))) rfl (fun hb1 => ?_) (fun hb1 => ?_)
  · rw [if_pos hb1] at h
    refine AW.seq ?_
    refine AW.ops ?_
    refine AO.allF tab_ok (by decide) [(4, .bool false)] [] (by (simp only [go_sem, hb1]) <;> (repeat' with_reducible apply And.intro) <;> first | assumption | rfl | omega | (unfold maxLen; omega)) ?_
    refine athen_n ?_
    refine AW.ret ?_
    refine athen_r ?_
    obtain rfl := Option.some.inj h
    exact ⟨rfl, [], [], [], rfl, (by (simp only [go_sem, hb1]) <;> (repeat' with_reducible apply And.intro) <;> first | assumption | rfl | omega | (unfold maxLen; omega))⟩
  · rw [if_neg (Bool.eq_false_iff.1 hb1)] at h
    refine AW.skip ?_
    refine athen_n ?_
    refine AW.have1 (fun _ : Unit => linealref02_SameInts_k1 = some r) (fun _ => ⟨fr [], hpGet [], gt⟩) (fun _ h => ?_) (fun hk_linealref02_SameInts_k1 => ?_)
    · unfold linealref02_SameInts_k1 at h
      refine AW.seq ?_
      refine AW.ops ?_
      refine AO.allF tab_ok (by decide) [(4, .bool true)] [] (by (simp only [go_sem, hb1]) <;> (repeat' with_reducible apply And.intro) <;> first | assumption | rfl | omega | (unfold maxLen; omega)) ?_
      refine athen_n ?_
      refine AW.ret ?_
      obtain rfl := Option.some.inj h
      exact ⟨rfl, [], [], [], rfl, (by (simp only [go_sem, hb1]) <;> (repeat' with_reducible apply And.intro) <;> first | assumption | rfl | omega | (unfold maxLen; omega))⟩
    · refine AW.seq ?_
      refine AW.seq ?_
      refine AW.ops ?_
      refine AO.allF tab_ok (by decide) [(0, .sl (.int .i64) a), (1, .sl (.int .i64) b), (5, .int .i64 0)] [] (by (simp only [go_sem, hb1]) <;> (repeat' with_reducible apply And.intro) <;> first | assumption | rfl | omega | (unfold maxLen; omega)) ?_
      refine athen_n ?_
      refine AW.block ?_
      obtain ⟨rv6, hw2, ho3⟩ := Option.bind_eq_some_iff.1 h
      refine AW.loopO (linealref02_SameInts_b1 a b) (fun st1 => ⟨fr [(0, .sl (.int .i64) a), (1, .sl (.int .i64) b), (5, .int .i64 st1)], hpGet [], gt⟩) 0 hw2 (Wk.le [] [] [] rfl (by (simp only [go_sem, hb1]) <;> (repeat' with_reducible apply And.intro) <;> first | assumption | rfl | omega | (unfold maxLen; omega)) (by (simp only [go_sem, hb1]) <;> (repeat' with_reducible apply And.intro) <;> first | assumption | rfl | omega | (unfold maxLen; omega))) ?_
      intro st1 x5 h hd4
      unfold linealref02_SameInts_b1 at h
      refine AW.seq ?_
      refine AW.seq ?_
      refine AW.ops ?_
      refine AO.allF tab_ok (by decide) [(0, .sl (.int .i64) a), (1, .sl (.int .i64) b), (5, .int .i64 st1), (14, .bool (decide (st1 < (a.length : Int))))] [] (by (simp only [go_sem, hb1]) <;> (repeat' with_reducible apply And.intro) <;> first | assumption | rfl | omega | (unfold maxLen; omega)) ?_
      refine athen_n ?_
      refine AW.cond (b := (decide (st1 < (a.length : Int)))) rfl (fun hb7 => ?_) (fun hb7 => ?_)
      · rw [if_pos hb7] at h
        refine AW.skip ?_
        refine athen_n ?_
        refine AW.seq ?_
        refine AW.block ?_
        refine AW.seq ?_
        refine AW.draw tab_ok mixed_ok [] [] (by decide) (by kernel_rfl) ?_
        obtain ⟨c9, h⟩ := ck_some.1 h
        obtain ⟨c10, h⟩ := ck_some.1 h
        refine adops_cut 6 (fun K' hK8 => ?_)
        try dsimp only [List.drop_succ_cons, List.drop_zero, List.take_succ_cons, List.take_zero]
        simp only [go_sem, hb1, hb7]
        repeat (with_reducible refine And.intro (by first | assumption | rfl | omega | trivial | (unfold maxLen; omega)) ?_)
        refine hK8 _ ?_
        obtain ⟨c12, h⟩ := ck_some.1 h
        obtain ⟨c13, h⟩ := ck_some.1 h
        refine adops_cut 3 (fun K' hK11 => ?_)
        try dsimp only [List.drop_succ_cons, List.drop_zero, List.take_succ_cons, List.take_zero]
        simp only [go_sem, hb1, hb7]
        repeat (with_reducible refine And.intro (by first | assumption | rfl | omega | trivial | (unfold maxLen; omega)) ?_)
        refine hK11 _ ?_
        refine adops_nil ?_
        refine athen_n ?_
        refine AW.weaken (s' := ⟨fr [(0, .sl (.int .i64) a), (1, .sl (.int .i64) b), (5, .int .i64 st1), (25, .bool (!(decide ((a.getD st1.toNat 0) = (b.getD st1.toNat 0)))))], hpGet [], gt⟩) (Wk.to (by (simp only [go_sem, hb1, hb7]) <;> (repeat' with_reducible apply And.intro) <;> first | assumption | rfl | omega | (unfold maxLen; omega))) ?_
        refine AW.cond (b := (!(decide ((a.getD st1.toNat 0) = (b.getD st1.toNat 0))))) rfl (fun hb14 => ?_) (fun hb14 => ?_)
        · rw [if_pos hb14] at h
          refine AW.seq ?_
          refine AW.ops ?_
          refine AO.allF tab_ok (by decide) [(4, .bool false)] [] (by (simp only [go_sem, hb1, hb7, hb14]) <;> (repeat' with_reducible apply And.intro) <;> first | assumption | rfl | omega | (unfold maxLen; omega)) ?_
          refine athen_n ?_
          refine AW.ret ?_
          refine ablock_r ?_
          refine athen_r ?_
          obtain rfl := Option.some.inj h
          rw [← hd4 _ rfl] at ho3
          have h := ho3
          try simp only at h
          refine athen_r ?_
          refine ablock_r ?_
          refine athen_r ?_
          obtain rfl := Option.some.inj h
          exact ⟨rfl, [], [], [], rfl, (by (simp only [go_sem, hb1, hb7, hb14]) <;> (repeat' with_reducible apply And.intro) <;> first | assumption | rfl | omega | (unfold maxLen; omega))⟩
        · rw [if_neg (Bool.eq_false_iff.1 hb14)] at h
          refine AW.skip ?_
          refine ablock_n ?_
          refine athen_n ?_
          refine AW.ops ?_
          obtain ⟨c15, h⟩ := ck_some.1 h
          refine AO.allF tab_ok (by decide) [(0, .sl (.int .i64) a), (1, .sl (.int .i64) b), (5, .int .i64 (st1 + 1))] [] (by (simp only [go_sem, hb1, hb7, hb14]) <;> (repeat' with_reducible apply And.intro) <;> first | assumption | rfl | omega | (unfold maxLen; omega)) ?_
          obtain rfl := Option.some.inj h
          exact ⟨_, rfl, Wk.le [] [] [] rfl (by (simp only [go_sem, hb1, hb7, hb14]) <;> (repeat' with_reducible apply And.intro) <;> first | assumption | rfl | omega | (unfold maxLen; omega)) (by (simp only [go_sem, hb1, hb7, hb14]) <;> (repeat' with_reducible apply And.intro) <;> first | assumption | rfl | omega | (unfold maxLen; omega))⟩
      · rw [if_neg (Bool.eq_false_iff.1 hb7)] at h
        refine AW.exit ?_
        refine athen_e ?_
        obtain rfl := Option.some.inj h
        rw [← hd4 _ rfl] at ho3
        have h := ho3
        try simp only at h
        refine athen_e ?_
        refine ablock_s ?_
        refine athen_n ?_
        exact AW.weaken (Wk.le [] [] [] rfl (by (simp only [go_sem, hb1, hb7]) <;> (repeat' with_reducible apply And.intro) <;> first | assumption | rfl | omega | (unfold maxLen; omega)) (by (simp only [go_sem, hb1, hb7]) <;> (repeat' with_reducible apply And.intro) <;> first | assumption | rfl | omega | (unfold maxLen; omega))) (hk_linealref02_SameInts_k1 () h)

end Go.Proofs.Ytdkdkpenmgkdcaa
