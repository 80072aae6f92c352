/-
  Made by wip/tool/dc.py out of the print of the program: contracts.
-/
import Derived.Test.YtcijihofjcfpoabWp
import Derived.Test.YtcijihofjcfpoabTb3
import Derived.Test.YtcijihofjcfpoabXhc2
import Derived.Test.YtcijihofjcfpoabXhc3
import Derived.Test.YtcijihofjcfpoabXhc4
import Derived.Test.YtcijihofjcfpoabXhc5
namespace Go.Proofs.Ytcijihofjcfpoab
open Go.RowKit

set_option linter.unusedSimpArgs false
set_option linter.unusedVariables false
set_option linter.constructorNameAsVariable false

set_option maxRecDepth 100000 in
set_option maxHeartbeats 2000000 in
theorem hc_lineallaw03_WeaveSizes (l : Int × (List (Int × Int))) (w : List Int) (most : Int) {r : Bool} (h : lineallaw03_WeaveSizes l w most = some r) : HC Try.prog 12 [] [.agg [.int .i64 l.1, .sl (.pair (.int .i64) (.int .i64)) l.2], .sl (.int .i64) w, .int .u8 most] [] (.bool r) := by
  unfold lineallaw03_WeaveSizes at h
  refine HC.of_body tab_ok (res := [.tmp 6]) Try.func12 rfl (by kernel_rfl) rfl (nt := 213) rfl (by decide) (by simp) ?_
  refine AW.seq ?_
  refine AW.ops ?_
  refine AO.allF tab_ok (by decide) [(1, .sl (.int .i64) w), (2, .int .u8 most), (3, .bp 3 0)] [(3, .box 24 [.int .i64 l.1, .sl (.pair (.int .i64) (.int .i64)) l.2])] (by (simp only [go_sem]) <;> (repeat' with_reducible apply And.intro) <;> first | assumption | rfl | omega | (unfold maxLen; omega)) ?_
  refine athen_n ?_
  refine AW.seq ?_
  refine AW.seq ?_
  refine AW.ops ?_
  refine AO.segF tab_ok 3 (by decide) [(1, .sl (.int .i64) w), (2, .int .u8 most), (3, .bp 3 0), (29, .agg [.int .i64 l.1, .sl (.pair (.int .i64) (.int .i64)) l.2]), (31, .own 31)] [(3, .box 24 [.int .i64 l.1, .sl (.pair (.int .i64) (.int .i64)) l.2]), (31, .arr 25 (.sl (.int .i64)) [w])] (by (simp only [go_sem]) <;> (repeat' with_reducible apply And.intro) <;> first | assumption | rfl | omega | (unfold maxLen; omega)) ?_
  obtain ⟨v0, hv1, h⟩ := Option.bind_eq_some_iff.1 h
  refine AO.call tab_ok (by decide) rfl rfl rfl (fun _ h => h) [31] [] (hc_lineallaw03_valid l [w] hv1) rfl (by (simp only [go_sem]) <;> (repeat' with_reducible apply And.intro) <;> first | assumption | rfl | omega | (unfold maxLen; omega)) (by (simp only [go_sem]) <;> (repeat' with_reducible apply And.intro) <;> first | assumption | rfl | omega | (unfold maxLen; omega)) [(1, .sl (.int .i64) w), (2, .int .u8 most), (3, .bp 3 0), (32, .bool v0)] [(3, .box 24 [.int .i64 l.1, .sl (.pair (.int .i64) (.int .i64)) l.2])] (by (simp only [go_sem]) <;> (repeat' with_reducible apply And.intro) <;> first | assumption | rfl | omega | (unfold maxLen; omega)) ?_
  refine AO.allF tab_ok (by decide) [(1, .sl (.int .i64) w), (2, .int .u8 most), (3, .bp 3 0), (33, .bool (!v0))] [(3, .box 24 [.int .i64 l.1, .sl (.pair (.int .i64) (.int .i64)) l.2])] (by (simp only [go_sem]) <;> (repeat' with_reducible apply And.intro) <;> first | assumption | rfl | omega | (unfold maxLen; omega)) ?_
  refine athen_n ?_
  refine AW.cond (b := (!v0)) rfl (fun hb2 => ?_) (fun hb2 => ?_)
  · rw [if_pos hb2] at h
    refine AW.seq ?_
    refine AW.ops ?_
    obtain ⟨v0_2, hv3, h⟩ := Option.bind_eq_some_iff.1 h
    refine AO.call tab_ok (by decide) rfl rfl rfl (fun _ h => h) [] [] (hc_lineallaw03_Awake hv3) rfl (by (simp only [go_sem, hb2]) <;> (repeat' with_reducible apply And.intro) <;> first | assumption | rfl | omega | (unfold maxLen; omega)) (by (simp only [go_sem, hb2]) <;> (repeat' with_reducible apply And.intro) <;> first | assumption | rfl | omega | (unfold maxLen; omega)) [(34, .bool v0_2)] [] (by (simp only [go_sem, hb2]) <;> (repeat' with_reducible apply And.intro) <;> first | assumption | rfl | omega | (unfold maxLen; omega)) ?_
    refine AO.allF tab_ok (by decide) [(6, .bool v0_2)] [] (by (simp only [go_sem, hb2]) <;> (repeat' with_reducible apply And.intro) <;> first | assumption | rfl | omega | (unfold maxLen; omega)) ?_
    refine athen_n ?_
    refine AW.ret ?_
    refine athen_r ?_
    obtain rfl := Option.some.inj h
    exact ⟨rfl, [], [], [], rfl, (by (simp only [go_sem, hb2]) <;> (repeat' with_reducible apply And.intro) <;> first | assumption | rfl | omega | (unfold maxLen; omega))⟩
  · rw [if_neg (Bool.eq_false_iff.1 hb2)] at h
    refine AW.skip ?_
    refine athen_n ?_
    refine AW.seq ?_
    refine AW.ops ?_
    refine AO.segF tab_ok 2 (by decide) [(1, .sl (.int .i64) w), (2, .int .u8 most), (3, .bp 3 0), (36, .agg [.int .i64 l.1, .sl (.pair (.int .i64) (.int .i64)) l.2]), (37, .sl (.int .i64) w)] [(3, .box 24 [.int .i64 l.1, .sl (.pair (.int .i64) (.int .i64)) l.2])] (by (simp only [go_sem, hb2]) <;> (repeat' with_reducible apply And.intro) <;> first | assumption | rfl | omega | (unfold maxLen; omega)) ?_
    obtain ⟨v0_3, hv4, h⟩ := Option.bind_eq_some_iff.1 h
    refine AO.call tab_ok (by decide) rfl rfl rfl (fun _ h => h) [] [] (hc_weave_Size l w hv4) rfl (by (simp only [go_sem, hb2]) <;> (repeat' with_reducible apply And.intro) <;> first | assumption | rfl | omega | (unfold maxLen; omega)) (by (simp only [go_sem, hb2]) <;> (repeat' with_reducible apply And.intro) <;> first | assumption | rfl | omega | (unfold maxLen; omega)) [(1, .sl (.int .i64) w), (2, .int .u8 most), (3, .bp 3 0), (38, .tup [.int .i64 v0_3.1, .int .i64 v0_3.2])] [(3, .box 24 [.int .i64 l.1, .sl (.pair (.int .i64) (.int .i64)) l.2])] (by (simp only [go_sem, hb2]) <;> (repeat' with_reducible apply And.intro) <;> first | assumption | rfl | omega | (unfold maxLen; omega)) ?_
    refine AO.allF tab_ok (by decide) [(1, .sl (.int .i64) w), (2, .int .u8 most), (3, .bp 3 0), (7, .int .i64 v0_3.1), (8, .int .i64 v0_3.2)] [(3, .box 24 [.int .i64 l.1, .sl (.pair (.int .i64) (.int .i64)) l.2])] (by (simp only [go_sem, hb2]) <;> (repeat' with_reducible apply And.intro) <;> first | assumption | rfl | omega | (unfold maxLen; omega)) ?_
    refine athen_n ?_
    refine AW.seq ?_
    refine AW.ops ?_
    refine AO.segF tab_ok 2 (by decide) [(1, .sl (.int .i64) w), (2, .int .u8 most), (3, .bp 3 0), (7, .int .i64 v0_3.1), (8, .int .i64 v0_3.2), (42, .agg [.int .i64 l.1, .sl (.pair (.int .i64) (.int .i64)) l.2]), (43, .sl (.int .i64) w)] [(3, .box 24 [.int .i64 l.1, .sl (.pair (.int .i64) (.int .i64)) l.2])] (by (simp only [go_sem, hb2]) <;> (repeat' with_reducible apply And.intro) <;> first | assumption | rfl | omega | (unfold maxLen; omega)) ?_
    obtain ⟨v0_4, hv5, h⟩ := Option.bind_eq_some_iff.1 h
    refine AO.call tab_ok (by decide) rfl rfl rfl (fun _ h => h) [] [] (hc_weave_Starts l w hv5) rfl (by (simp only [go_sem, hb2]) <;> (repeat' with_reducible apply And.intro) <;> first | assumption | rfl | omega | (unfold maxLen; omega)) (by (simp only [go_sem, hb2]) <;> (repeat' with_reducible apply And.intro) <;> first | assumption | rfl | omega | (unfold maxLen; omega)) [(1, .sl (.int .i64) w), (2, .int .u8 most), (3, .bp 3 0), (7, .int .i64 v0_3.1), (8, .int .i64 v0_3.2), (44, .tup [.own 54000, .int .i64 v0_4.2])] [(3, .box 24 [.int .i64 l.1, .sl (.pair (.int .i64) (.int .i64)) l.2]), (54000, .arr 3 (.int .i64) v0_4.1)] (by (simp only [go_sem, hb2]) <;> (repeat' with_reducible apply And.intro) <;> first | assumption | rfl | omega | (unfold maxLen; omega)) ?_
    refine AO.allF tab_ok (by decide) [(1, .sl (.int .i64) w), (2, .int .u8 most), (3, .bp 3 0), (7, .int .i64 v0_3.1), (8, .int .i64 v0_3.2), (9, .own 54000), (10, .int .i64 v0_4.2)] [(3, .box 24 [.int .i64 l.1, .sl (.pair (.int .i64) (.int .i64)) l.2]), (54000, .arr 3 (.int .i64) v0_4.1)] (by (simp only [go_sem, hb2]) <;> (repeat' with_reducible apply And.intro) <;> first | assumption | rfl | omega | (unfold maxLen; omega)) ?_
    refine athen_n ?_
    refine AW.seq ?_
    refine AW.ops ?_
    refine AO.segF tab_ok 2 (by decide) [(1, .sl (.int .i64) w), (2, .int .u8 most), (3, .bp 3 0), (7, .int .i64 v0_3.1), (8, .int .i64 v0_3.2), (9, .own 54000), (10, .int .i64 v0_4.2), (48, .agg [.int .i64 l.1, .sl (.pair (.int .i64) (.int .i64)) l.2]), (49, .sl (.int .i64) w)] [(3, .box 24 [.int .i64 l.1, .sl (.pair (.int .i64) (.int .i64)) l.2]), (54000, .arr 3 (.int .i64) v0_4.1)] (by (simp only [go_sem, hb2]) <;> (repeat' with_reducible apply And.intro) <;> first | assumption | rfl | omega | (unfold maxLen; omega)) ?_
    obtain ⟨v0_5, hv6, h⟩ := Option.bind_eq_some_iff.1 h
    refine AO.call tab_ok (by decide) rfl rfl rfl (fun _ h => h) [] [] (hc_weave_Turned l w hv6) rfl (by (simp only [go_sem, hb2]) <;> (repeat' with_reducible apply And.intro) <;> first | assumption | rfl | omega | (unfold maxLen; omega)) (by (simp only [go_sem, hb2]) <;> (repeat' with_reducible apply And.intro) <;> first | assumption | rfl | omega | (unfold maxLen; omega)) [(1, .sl (.int .i64) w), (2, .int .u8 most), (3, .bp 3 0), (7, .int .i64 v0_3.1), (8, .int .i64 v0_3.2), (9, .own 54000), (10, .int .i64 v0_4.2), (50, .tup [.sl (.int .i64) v0_5.1, .int .i64 v0_5.2])] [(3, .box 24 [.int .i64 l.1, .sl (.pair (.int .i64) (.int .i64)) l.2]), (54000, .arr 3 (.int .i64) v0_4.1)] (by (simp only [go_sem, hb2]) <;> (repeat' with_reducible apply And.intro) <;> first | assumption | rfl | omega | (unfold maxLen; omega)) ?_
    refine AO.allF tab_ok (by decide) [(1, .sl (.int .i64) w), (2, .int .u8 most), (3, .bp 3 0), (7, .int .i64 v0_3.1), (8, .int .i64 v0_3.2), (9, .own 54000), (10, .int .i64 v0_4.2), (11, .sl (.int .i64) v0_5.1), (12, .int .i64 v0_5.2)] [(3, .box 24 [.int .i64 l.1, .sl (.pair (.int .i64) (.int .i64)) l.2]), (54000, .arr 3 (.int .i64) v0_4.1)] (by (simp only [go_sem, hb2]) <;> (repeat' with_reducible apply And.intro) <;> first | assumption | rfl | omega | (unfold maxLen; omega)) ?_
    refine athen_n ?_
    refine AW.seq ?_
    refine AW.ops ?_
    refine AO.segF tab_ok 2 (by decide) [(1, .sl (.int .i64) w), (2, .int .u8 most), (3, .bp 3 0), (7, .int .i64 v0_3.1), (8, .int .i64 v0_3.2), (9, .own 54000), (10, .int .i64 v0_4.2), (12, .int .i64 v0_5.2), (54, .agg [.int .i64 l.1, .sl (.pair (.int .i64) (.int .i64)) l.2]), (55, .sl (.int .i64) v0_5.1)] [(3, .box 24 [.int .i64 l.1, .sl (.pair (.int .i64) (.int .i64)) l.2]), (54000, .arr 3 (.int .i64) v0_4.1)] (by (simp only [go_sem, hb2]) <;> (repeat' with_reducible apply And.intro) <;> first | assumption | rfl | omega | (unfold maxLen; omega)) ?_
    obtain ⟨v0_6, hv7, h⟩ := Option.bind_eq_some_iff.1 h
    refine AO.call tab_ok (by decide) rfl rfl rfl (fun _ h => h) [] [] (hc_weave_Size l v0_5.1 hv7) rfl (by (simp only [go_sem, hb2]) <;> (repeat' with_reducible apply And.intro) <;> first | assumption | rfl | omega | (unfold maxLen; omega)) (by (simp only [go_sem, hb2]) <;> (repeat' with_reducible apply And.intro) <;> first | assumption | rfl | omega | (unfold maxLen; omega)) [(1, .sl (.int .i64) w), (2, .int .u8 most), (3, .bp 3 0), (7, .int .i64 v0_3.1), (8, .int .i64 v0_3.2), (9, .own 54000), (10, .int .i64 v0_4.2), (12, .int .i64 v0_5.2), (56, .tup [.int .i64 v0_6.1, .int .i64 v0_6.2])] [(3, .box 24 [.int .i64 l.1, .sl (.pair (.int .i64) (.int .i64)) l.2]), (54000, .arr 3 (.int .i64) v0_4.1)] (by (simp only [go_sem, hb2]) <;> (repeat' with_reducible apply And.intro) <;> first | assumption | rfl | omega | (unfold maxLen; omega)) ?_
    refine AO.allF tab_ok (by decide) [(1, .sl (.int .i64) w), (2, .int .u8 most), (3, .bp 3 0), (7, .int .i64 v0_3.1), (8, .int .i64 v0_3.2), (9, .own 54000), (10, .int .i64 v0_4.2), (12, .int .i64 v0_5.2), (13, .int .i64 v0_6.1), (14, .int .i64 v0_6.2)] [(3, .box 24 [.int .i64 l.1, .sl (.pair (.int .i64) (.int .i64)) l.2]), (54000, .arr 3 (.int .i64) v0_4.1)] (by (simp only [go_sem, hb2]) <;> (repeat' with_reducible apply And.intro) <;> first | assumption | rfl | omega | (unfold maxLen; omega)) ?_
    refine athen_n ?_
    refine AW.seq ?_
    refine AW.ops ?_
    obtain ⟨c8, h⟩ := ck_some.1 h
    refine AO.segF tab_ok 4 (by decide) [(1, .sl (.int .i64) w), (2, .int .u8 most), (3, .bp 3 0), (7, .int .i64 v0_3.1), (8, .int .i64 v0_3.2), (9, .own 54000), (10, .int .i64 v0_4.2), (12, .int .i64 v0_5.2), (13, .int .i64 v0_6.1), (14, .int .i64 v0_6.2), (60, .agg [.int .i64 l.1, .sl (.pair (.int .i64) (.int .i64)) l.2]), (61, .sl (.int .i64) w), (63, .int .i64 most)] [(3, .box 24 [.int .i64 l.1, .sl (.pair (.int .i64) (.int .i64)) l.2]), (54000, .arr 3 (.int .i64) v0_4.1)] (by (simp only [go_sem, hb2]) <;> (repeat' with_reducible apply And.intro) <;> first | assumption | rfl | omega | (unfold maxLen; omega)) ?_
    obtain ⟨v0_7, hv9, h⟩ := Option.bind_eq_some_iff.1 h
    refine AO.call tab_ok (by decide) rfl rfl rfl (fun _ h => h) [] [] (hc_weave_Class l w most hv9) rfl (by (simp only [go_sem, hb2]) <;> (repeat' with_reducible apply And.intro) <;> first | assumption | rfl | omega | (unfold maxLen; omega)) (by (simp only [go_sem, hb2]) <;> (repeat' with_reducible apply And.intro) <;> first | assumption | rfl | omega | (unfold maxLen; omega)) [(1, .sl (.int .i64) w), (2, .int .u8 most), (3, .bp 3 0), (7, .int .i64 v0_3.1), (8, .int .i64 v0_3.2), (9, .own 54000), (10, .int .i64 v0_4.2), (12, .int .i64 v0_5.2), (13, .int .i64 v0_6.1), (14, .int .i64 v0_6.2), (64, .tup [.own 74000, .int .i64 v0_7.2])] [(3, .box 24 [.int .i64 l.1, .sl (.pair (.int .i64) (.int .i64)) l.2]), (54000, .arr 3 (.int .i64) v0_4.1), (74000, .arr 25 (.sl (.int .i64)) v0_7.1)] (by (simp only [go_sem, hb2]) <;> (repeat' with_reducible apply And.intro) <;> first | assumption | rfl | omega | (unfold maxLen; omega)) ?_
    refine AO.allF tab_ok (by decide) [(1, .sl (.int .i64) w), (2, .int .u8 most), (3, .bp 3 0), (7, .int .i64 v0_3.1), (8, .int .i64 v0_3.2), (9, .own 54000), (10, .int .i64 v0_4.2), (12, .int .i64 v0_5.2), (13, .int .i64 v0_6.1), (14, .int .i64 v0_6.2), (15, .own 74000), (16, .int .i64 v0_7.2)] [(3, .box 24 [.int .i64 l.1, .sl (.pair (.int .i64) (.int .i64)) l.2]), (54000, .arr 3 (.int .i64) v0_4.1), (74000, .arr 25 (.sl (.int .i64)) v0_7.1)] (by (simp only [go_sem, hb2]) <;> (repeat' with_reducible apply And.intro) <;> first | assumption | rfl | omega | (unfold maxLen; omega)) ?_
    refine athen_n ?_
    refine AW.seq ?_
    refine AW.seq ?_
    refine AW.ops ?_
    refine AO.segF tab_ok 3 (by decide) [(1, .sl (.int .i64) w), (2, .int .u8 most), (3, .bp 3 0), (7, .int .i64 v0_3.1), (9, .own 54000), (10, .int .i64 v0_4.2), (12, .int .i64 v0_5.2), (13, .int .i64 v0_6.1), (14, .int .i64 v0_6.2), (15, .own 74000), (16, .int .i64 v0_7.2), (69, .bool (!(decide (v0_3.2 = 0))))] [(3, .box 24 [.int .i64 l.1, .sl (.pair (.int .i64) (.int .i64)) l.2]), (54000, .arr 3 (.int .i64) v0_4.1), (74000, .arr 25 (.sl (.int .i64)) v0_7.1)] (by (simp only [go_sem, hb2]) <;> (repeat' with_reducible apply And.intro) <;> first | assumption | rfl | omega | (unfold maxLen; omega)) ?_
    rcases Bool.eq_false_or_eq_true (!(decide (v0_3.2 = 0))) with hb10 | hb10
    · rw [if_pos hb10] at h
      refine AO.weaken (s' := ⟨fr [(1, .sl (.int .i64) w), (2, .int .u8 most), (3, .bp 3 0), (7, .int .i64 v0_3.1), (9, .own 54000), (10, .int .i64 v0_4.2), (12, .int .i64 v0_5.2), (13, .int .i64 v0_6.1), (14, .int .i64 v0_6.2), (15, .own 74000), (16, .int .i64 v0_7.2), (69, .bool true)], hpGet [(3, .box 24 [.int .i64 l.1, .sl (.pair (.int .i64) (.int .i64)) l.2]), (54000, .arr 3 (.int .i64) v0_4.1), (74000, .arr 25 (.sl (.int .i64)) v0_7.1)], gt⟩) (Wk.to (by (simp only [go_sem, hb2, hb10]) <;> (repeat' with_reducible apply And.intro) <;> first | assumption | rfl | omega | (unfold maxLen; omega))) ?_
      refine AO.segF tab_ok 6 (by decide) [(1, .sl (.int .i64) w), (2, .int .u8 most), (3, .bp 3 0), (7, .int .i64 v0_3.1), (9, .own 54000), (13, .int .i64 v0_6.1), (14, .int .i64 v0_6.2), (15, .own 74000), (16, .int .i64 v0_7.2), (73, .bool true), (75, .cv (undef))] [(3, .box 24 [.int .i64 l.1, .sl (.pair (.int .i64) (.int .i64)) l.2]), (54000, .arr 3 (.int .i64) v0_4.1), (74000, .arr 25 (.sl (.int .i64)) v0_7.1)] (by (simp only [go_sem, hb2, hb10]) <;> (repeat' with_reducible apply And.intro) <;> first | assumption | rfl | omega | (unfold maxLen; omega)) ?_
      refine AO.segF tab_ok 8 (by decide) [(1, .sl (.int .i64) w), (2, .int .u8 most), (3, .bp 3 0), (7, .int .i64 v0_3.1), (9, .own 54000), (13, .int .i64 v0_6.1), (15, .own 74000), (81, .bool true), (83, .cv (undef))] [(3, .box 24 [.int .i64 l.1, .sl (.pair (.int .i64) (.int .i64)) l.2]), (54000, .arr 3 (.int .i64) v0_4.1), (74000, .arr 25 (.sl (.int .i64)) v0_7.1)] (by (simp only [go_sem, hb2, hb10]) <;> (repeat' with_reducible apply And.intro) <;> first | assumption | rfl | omega | (unfold maxLen; omega)) ?_
      refine AO.segF tab_ok 8 (by decide) [(1, .sl (.int .i64) w), (2, .int .u8 most), (3, .bp 3 0), (7, .int .i64 v0_3.1), (9, .own 54000), (15, .own 74000), (90, .bool true), (91, .cv (undef))] [(3, .box 24 [.int .i64 l.1, .sl (.pair (.int .i64) (.int .i64)) l.2]), (54000, .arr 3 (.int .i64) v0_4.1), (74000, .arr 25 (.sl (.int .i64)) v0_7.1)] (by (simp only [go_sem, hb2, hb10]) <;> (repeat' with_reducible apply And.intro) <;> first | assumption | rfl | omega | (unfold maxLen; omega)) ?_
      refine AO.segF tab_ok 4 (by decide) [(1, .sl (.int .i64) w), (3, .bp 3 0), (7, .int .i64 v0_3.1), (9, .own 54000), (15, .own 74000), (90, .bool true), (92, .cv (undef)), (93, .cv (undef)), (95, .cv (undef))] [(3, .box 24 [.int .i64 l.1, .sl (.pair (.int .i64) (.int .i64)) l.2]), (54000, .arr 3 (.int .i64) v0_4.1), (74000, .arr 25 (.sl (.int .i64)) v0_7.1)] (by (simp only [go_sem, hb2, hb10]) <;> (repeat' with_reducible apply And.intro) <;> first | assumption | rfl | omega | (unfold maxLen; omega)) ?_
      refine AO.segF tab_ok 6 (by decide) [(1, .sl (.int .i64) w), (3, .bp 3 0), (7, .int .i64 v0_3.1), (9, .own 54000), (15, .own 74000), (99, .bool true), (101, .cv (undef))] [(3, .box 24 [.int .i64 l.1, .sl (.pair (.int .i64) (.int .i64)) l.2]), (54000, .arr 3 (.int .i64) v0_4.1), (74000, .arr 25 (.sl (.int .i64)) v0_7.1)] (by (simp only [go_sem, hb2, hb10]) <;> (repeat' with_reducible apply And.intro) <;> first | assumption | rfl | omega | (unfold maxLen; omega)) ?_
      refine AO.segF tab_ok 4 (by decide) [(1, .sl (.int .i64) w), (3, .bp 3 0), (7, .int .i64 v0_3.1), (9, .own 54000), (15, .own 74000), (99, .bool true), (102, .cv (undef)), (105, .cv (undef))] [(3, .box 24 [.int .i64 l.1, .sl (.pair (.int .i64) (.int .i64)) l.2]), (54000, .arr 3 (.int .i64) v0_4.1), (74000, .arr 25 (.sl (.int .i64)) v0_7.1)] (by (simp only [go_sem, hb2, hb10]) <;> (repeat' with_reducible apply And.intro) <;> first | assumption | rfl | omega | (unfold maxLen; omega)) ?_
      refine AO.allF tab_ok (by decide) [(1, .sl (.int .i64) w), (3, .bp 3 0), (7, .int .i64 v0_3.1), (9, .own 54000), (15, .own 74000), (107, .bool true)] [(3, .box 24 [.int .i64 l.1, .sl (.pair (.int .i64) (.int .i64)) l.2]), (54000, .arr 3 (.int .i64) v0_4.1), (74000, .arr 25 (.sl (.int .i64)) v0_7.1)] (by (simp only [go_sem, hb2, hb10]) <;> (repeat' with_reducible apply And.intro) <;> first | assumption | rfl | omega | (unfold maxLen; omega)) ?_
      refine athen_n ?_
      refine AW.cond (b := true) rfl (fun _ => ?_) (fun hb11 => by cases hb11)
      refine AW.seq ?_
      refine AW.ops ?_
      refine AO.allF tab_ok (by decide) [(6, .bool false)] [] (by (simp only [go_sem, hb2, hb10]) <;> (repeat' with_reducible apply And.intro) <;> first | assumption | rfl | omega | (unfold maxLen; omega)) ?_
      refine athen_n ?_
      refine AW.ret ?_
      refine athen_r ?_
      obtain rfl := Option.some.inj h
      exact ⟨rfl, [], [], [], rfl, (by (simp only [go_sem, hb2, hb10]) <;> (repeat' with_reducible apply And.intro) <;> first | assumption | rfl | omega | (unfold maxLen; omega))⟩
    · rw [if_neg (Bool.eq_false_iff.1 hb10)] at h
      refine AO.weaken (s' := ⟨fr [(1, .sl (.int .i64) w), (2, .int .u8 most), (3, .bp 3 0), (7, .int .i64 v0_3.1), (9, .own 54000), (10, .int .i64 v0_4.2), (12, .int .i64 v0_5.2), (13, .int .i64 v0_6.1), (14, .int .i64 v0_6.2), (15, .own 74000), (16, .int .i64 v0_7.2), (69, .bool false)], hpGet [(3, .box 24 [.int .i64 l.1, .sl (.pair (.int .i64) (.int .i64)) l.2]), (54000, .arr 3 (.int .i64) v0_4.1), (74000, .arr 25 (.sl (.int .i64)) v0_7.1)], gt⟩) (Wk.to (by (simp only [go_sem, hb2, hb10]) <;> (repeat' with_reducible apply And.intro) <;> first | assumption | rfl | omega | (unfold maxLen; omega))) ?_
      refine AO.segF tab_ok 4 (by decide) [(1, .sl (.int .i64) w), (2, .int .u8 most), (3, .bp 3 0), (7, .int .i64 v0_3.1), (9, .own 54000), (12, .int .i64 v0_5.2), (13, .int .i64 v0_6.1), (14, .int .i64 v0_6.2), (15, .own 74000), (16, .int .i64 v0_7.2), (73, .bool (!(decide (v0_4.2 = 0))))] [(3, .box 24 [.int .i64 l.1, .sl (.pair (.int .i64) (.int .i64)) l.2]), (54000, .arr 3 (.int .i64) v0_4.1), (74000, .arr 25 (.sl (.int .i64)) v0_7.1)] (by (simp only [go_sem, hb2, hb10]) <;> (repeat' with_reducible apply And.intro) <;> first | assumption | rfl | omega | (unfold maxLen; omega)) ?_
      rcases Bool.eq_false_or_eq_true (!(decide (v0_4.2 = 0))) with hb12 | hb12
      · rw [if_pos hb12] at h
        refine AO.weaken (s' := ⟨fr [(1, .sl (.int .i64) w), (2, .int .u8 most), (3, .bp 3 0), (7, .int .i64 v0_3.1), (9, .own 54000), (12, .int .i64 v0_5.2), (13, .int .i64 v0_6.1), (14, .int .i64 v0_6.2), (15, .own 74000), (16, .int .i64 v0_7.2), (73, .bool true)], hpGet [(3, .box 24 [.int .i64 l.1, .sl (.pair (.int .i64) (.int .i64)) l.2]), (54000, .arr 3 (.int .i64) v0_4.1), (74000, .arr 25 (.sl (.int .i64)) v0_7.1)], gt⟩) (Wk.to (by (simp only [go_sem, hb2, hb10, hb12]) <;> (repeat' with_reducible apply And.intro) <;> first | assumption | rfl | omega | (unfold maxLen; omega))) ?_
        refine AO.segF tab_ok 6 (by decide) [(1, .sl (.int .i64) w), (2, .int .u8 most), (3, .bp 3 0), (7, .int .i64 v0_3.1), (9, .own 54000), (13, .int .i64 v0_6.1), (15, .own 74000), (16, .int .i64 v0_7.2), (77, .bool true), (79, .cv (undef))] [(3, .box 24 [.int .i64 l.1, .sl (.pair (.int .i64) (.int .i64)) l.2]), (54000, .arr 3 (.int .i64) v0_4.1), (74000, .arr 25 (.sl (.int .i64)) v0_7.1)] (by (simp only [go_sem, hb2, hb10, hb12]) <;> (repeat' with_reducible apply And.intro) <;> first | assumption | rfl | omega | (unfold maxLen; omega)) ?_
        refine AO.segF tab_ok 8 (by decide) [(1, .sl (.int .i64) w), (2, .int .u8 most), (3, .bp 3 0), (7, .int .i64 v0_3.1), (9, .own 54000), (15, .own 74000), (85, .bool true), (86, .cv (undef)), (87, .cv (undef))] [(3, .box 24 [.int .i64 l.1, .sl (.pair (.int .i64) (.int .i64)) l.2]), (54000, .arr 3 (.int .i64) v0_4.1), (74000, .arr 25 (.sl (.int .i64)) v0_7.1)] (by (simp only [go_sem, hb2, hb10, hb12]) <;> (repeat' with_reducible apply And.intro) <;> first | assumption | rfl | omega | (unfold maxLen; omega)) ?_
        refine AO.segF tab_ok 6 (by decide) [(1, .sl (.int .i64) w), (2, .int .u8 most), (3, .bp 3 0), (7, .int .i64 v0_3.1), (9, .own 54000), (15, .own 74000), (90, .bool true), (92, .cv (undef)), (93, .cv (undef))] [(3, .box 24 [.int .i64 l.1, .sl (.pair (.int .i64) (.int .i64)) l.2]), (54000, .arr 3 (.int .i64) v0_4.1), (74000, .arr 25 (.sl (.int .i64)) v0_7.1)] (by (simp only [go_sem, hb2, hb10, hb12]) <;> (repeat' with_reducible apply And.intro) <;> first | assumption | rfl | omega | (unfold maxLen; omega)) ?_
        refine AO.segF tab_ok 4 (by decide) [(1, .sl (.int .i64) w), (3, .bp 3 0), (7, .int .i64 v0_3.1), (9, .own 54000), (15, .own 74000), (90, .bool true), (97, .cv (undef))] [(3, .box 24 [.int .i64 l.1, .sl (.pair (.int .i64) (.int .i64)) l.2]), (54000, .arr 3 (.int .i64) v0_4.1), (74000, .arr 25 (.sl (.int .i64)) v0_7.1)] (by (simp only [go_sem, hb2, hb10, hb12]) <;> (repeat' with_reducible apply And.intro) <;> first | assumption | rfl | omega | (unfold maxLen; omega)) ?_
        refine AO.segF tab_ok 6 (by decide) [(1, .sl (.int .i64) w), (3, .bp 3 0), (7, .int .i64 v0_3.1), (9, .own 54000), (15, .own 74000), (99, .bool true), (102, .cv (undef)), (103, .cv (undef))] [(3, .box 24 [.int .i64 l.1, .sl (.pair (.int .i64) (.int .i64)) l.2]), (54000, .arr 3 (.int .i64) v0_4.1), (74000, .arr 25 (.sl (.int .i64)) v0_7.1)] (by (simp only [go_sem, hb2, hb10, hb12]) <;> (repeat' with_reducible apply And.intro) <;> first | assumption | rfl | omega | (unfold maxLen; omega)) ?_
        refine AO.allF tab_ok (by decide) [(1, .sl (.int .i64) w), (3, .bp 3 0), (7, .int .i64 v0_3.1), (9, .own 54000), (15, .own 74000), (107, .bool true)] [(3, .box 24 [.int .i64 l.1, .sl (.pair (.int .i64) (.int .i64)) l.2]), (54000, .arr 3 (.int .i64) v0_4.1), (74000, .arr 25 (.sl (.int .i64)) v0_7.1)] (by (simp only [go_sem, hb2, hb10, hb12]) <;> (repeat' with_reducible apply And.intro) <;> first | assumption | rfl | omega | (unfold maxLen; omega)) ?_
        refine athen_n ?_
        refine AW.cond (b := true) rfl (fun _ => ?_) (fun hb13 => by cases hb13)
        refine AW.seq ?_
        refine AW.ops ?_
        refine AO.allF tab_ok (by decide) [(6, .bool false)] [] (by (simp only [go_sem, hb2, hb10, hb12]) <;> (repeat' with_reducible apply And.intro) <;> first | assumption | rfl | omega | (unfold maxLen; omega)) ?_
        refine athen_n ?_
        refine AW.ret ?_
        refine athen_r ?_
        obtain rfl := Option.some.inj h
        exact ⟨rfl, [], [], [], rfl, (by (simp only [go_sem, hb2, hb10, hb12]) <;> (repeat' with_reducible apply And.intro) <;> first | assumption | rfl | omega | (unfold maxLen; omega))⟩
      · rw [if_neg (Bool.eq_false_iff.1 hb12)] at h
        refine AO.weaken (s' := ⟨fr [(1, .sl (.int .i64) w), (2, .int .u8 most), (3, .bp 3 0), (7, .int .i64 v0_3.1), (9, .own 54000), (12, .int .i64 v0_5.2), (13, .int .i64 v0_6.1), (14, .int .i64 v0_6.2), (15, .own 74000), (16, .int .i64 v0_7.2), (73, .bool false)], hpGet [(3, .box 24 [.int .i64 l.1, .sl (.pair (.int .i64) (.int .i64)) l.2]), (54000, .arr 3 (.int .i64) v0_4.1), (74000, .arr 25 (.sl (.int .i64)) v0_7.1)], gt⟩) (Wk.to (by (simp only [go_sem, hb2, hb10, hb12]) <;> (repeat' with_reducible apply And.intro) <;> first | assumption | rfl | omega | (unfold maxLen; omega))) ?_
        refine AO.segF tab_ok 4 (by decide) [(1, .sl (.int .i64) w), (2, .int .u8 most), (3, .bp 3 0), (7, .int .i64 v0_3.1), (9, .own 54000), (13, .int .i64 v0_6.1), (14, .int .i64 v0_6.2), (15, .own 74000), (16, .int .i64 v0_7.2), (77, .bool (!(decide (v0_5.2 = 0))))] [(3, .box 24 [.int .i64 l.1, .sl (.pair (.int .i64) (.int .i64)) l.2]), (54000, .arr 3 (.int .i64) v0_4.1), (74000, .arr 25 (.sl (.int .i64)) v0_7.1)] (by (simp only [go_sem, hb2, hb10, hb12]) <;> (repeat' with_reducible apply And.intro) <;> first | assumption | rfl | omega | (unfold maxLen; omega)) ?_
        rcases Bool.eq_false_or_eq_true (!(decide (v0_5.2 = 0))) with hb14 | hb14
        · rw [if_pos hb14] at h
          refine AO.weaken (s' := ⟨fr [(1, .sl (.int .i64) w), (2, .int .u8 most), (3, .bp 3 0), (7, .int .i64 v0_3.1), (9, .own 54000), (13, .int .i64 v0_6.1), (14, .int .i64 v0_6.2), (15, .own 74000), (16, .int .i64 v0_7.2), (77, .bool true)], hpGet [(3, .box 24 [.int .i64 l.1, .sl (.pair (.int .i64) (.int .i64)) l.2]), (54000, .arr 3 (.int .i64) v0_4.1), (74000, .arr 25 (.sl (.int .i64)) v0_7.1)], gt⟩) (Wk.to (by (simp only [go_sem, hb2, hb10, hb12, hb14]) <;> (repeat' with_reducible apply And.intro) <;> first | assumption | rfl | omega | (unfold maxLen; omega))) ?_
          refine AO.segF tab_ok 6 (by decide) [(1, .sl (.int .i64) w), (2, .int .u8 most), (3, .bp 3 0), (7, .int .i64 v0_3.1), (9, .own 54000), (13, .int .i64 v0_6.1), (15, .own 74000), (81, .bool true), (83, .cv (undef))] [(3, .box 24 [.int .i64 l.1, .sl (.pair (.int .i64) (.int .i64)) l.2]), (54000, .arr 3 (.int .i64) v0_4.1), (74000, .arr 25 (.sl (.int .i64)) v0_7.1)] (by (simp only [go_sem, hb2, hb10, hb12, hb14]) <;> (repeat' with_reducible apply And.intro) <;> first | assumption | rfl | omega | (unfold maxLen; omega)) ?_
          refine AO.segF tab_ok 8 (by decide) [(1, .sl (.int .i64) w), (2, .int .u8 most), (3, .bp 3 0), (7, .int .i64 v0_3.1), (9, .own 54000), (15, .own 74000), (90, .bool true), (91, .cv (undef))] [(3, .box 24 [.int .i64 l.1, .sl (.pair (.int .i64) (.int .i64)) l.2]), (54000, .arr 3 (.int .i64) v0_4.1), (74000, .arr 25 (.sl (.int .i64)) v0_7.1)] (by (simp only [go_sem, hb2, hb10, hb12, hb14]) <;> (repeat' with_reducible apply And.intro) <;> first | assumption | rfl | omega | (unfold maxLen; omega)) ?_
          refine AO.segF tab_ok 4 (by decide) [(1, .sl (.int .i64) w), (3, .bp 3 0), (7, .int .i64 v0_3.1), (9, .own 54000), (15, .own 74000), (90, .bool true), (92, .cv (undef)), (93, .cv (undef)), (95, .cv (undef))] [(3, .box 24 [.int .i64 l.1, .sl (.pair (.int .i64) (.int .i64)) l.2]), (54000, .arr 3 (.int .i64) v0_4.1), (74000, .arr 25 (.sl (.int .i64)) v0_7.1)] (by (simp only [go_sem, hb2, hb10, hb12, hb14]) <;> (repeat' with_reducible apply And.intro) <;> first | assumption | rfl | omega | (unfold maxLen; omega)) ?_
          refine AO.segF tab_ok 6 (by decide) [(1, .sl (.int .i64) w), (3, .bp 3 0), (7, .int .i64 v0_3.1), (9, .own 54000), (15, .own 74000), (99, .bool true), (101, .cv (undef))] [(3, .box 24 [.int .i64 l.1, .sl (.pair (.int .i64) (.int .i64)) l.2]), (54000, .arr 3 (.int .i64) v0_4.1), (74000, .arr 25 (.sl (.int .i64)) v0_7.1)] (by (simp only [go_sem, hb2, hb10, hb12, hb14]) <;> (repeat' with_reducible apply And.intro) <;> first | assumption | rfl | omega | (unfold maxLen; omega)) ?_
          refine AO.segF tab_ok 4 (by decide) [(1, .sl (.int .i64) w), (3, .bp 3 0), (7, .int .i64 v0_3.1), (9, .own 54000), (15, .own 74000), (99, .bool true), (102, .cv (undef)), (105, .cv (undef))] [(3, .box 24 [.int .i64 l.1, .sl (.pair (.int .i64) (.int .i64)) l.2]), (54000, .arr 3 (.int .i64) v0_4.1), (74000, .arr 25 (.sl (.int .i64)) v0_7.1)] (by (simp only [go_sem, hb2, hb10, hb12, hb14]) <;> (repeat' with_reducible apply And.intro) <;> first | assumption | rfl | omega | (unfold maxLen; omega)) ?_
          refine AO.allF tab_ok (by decide) [(1, .sl (.int .i64) w), (3, .bp 3 0), (7, .int .i64 v0_3.1), (9, .own 54000), (15, .own 74000), (107, .bool true)] [(3, .box 24 [.int .i64 l.1, .sl (.pair (.int .i64) (.int .i64)) l.2]), (54000, .arr 3 (.int .i64) v0_4.1), (74000, .arr 25 (.sl (.int .i64)) v0_7.1)] (by (simp only [go_sem, hb2, hb10, hb12, hb14]) <;> (repeat' with_reducible apply And.intro) <;> first | assumption | rfl | omega | (unfold maxLen; omega)) ?_
          refine athen_n ?_
          refine AW.cond (b := true) rfl (fun _ => ?_) (fun hb15 => by cases hb15)
          refine AW.seq ?_
          refine AW.ops ?_
          refine AO.allF tab_ok (by decide) [(6, .bool false)] [] (by (simp only [go_sem, hb2, hb10, hb12, hb14]) <;> (repeat' with_reducible apply And.intro) <;> first | assumption | rfl | omega | (unfold maxLen; omega)) ?_
          refine athen_n ?_
          refine AW.ret ?_
          refine athen_r ?_
          obtain rfl := Option.some.inj h
          exact ⟨rfl, [], [], [], rfl, (by (simp only [go_sem, hb2, hb10, hb12, hb14]) <;> (repeat' with_reducible apply And.intro) <;> first | assumption | rfl | omega | (unfold maxLen; omega))⟩
        · rw [if_neg (Bool.eq_false_iff.1 hb14)] at h
          refine AO.weaken (s' := ⟨fr [(1, .sl (.int .i64) w), (2, .int .u8 most), (3, .bp 3 0), (7, .int .i64 v0_3.1), (9, .own 54000), (13, .int .i64 v0_6.1), (14, .int .i64 v0_6.2), (15, .own 74000), (16, .int .i64 v0_7.2), (77, .bool false)], hpGet [(3, .box 24 [.int .i64 l.1, .sl (.pair (.int .i64) (.int .i64)) l.2]), (54000, .arr 3 (.int .i64) v0_4.1), (74000, .arr 25 (.sl (.int .i64)) v0_7.1)], gt⟩) (Wk.to (by (simp only [go_sem, hb2, hb10, hb12, hb14]) <;> (repeat' with_reducible apply And.intro) <;> first | assumption | rfl | omega | (unfold maxLen; omega))) ?_
          refine AO.segF tab_ok 4 (by decide) [(1, .sl (.int .i64) w), (2, .int .u8 most), (3, .bp 3 0), (7, .int .i64 v0_3.1), (9, .own 54000), (13, .int .i64 v0_6.1), (15, .own 74000), (16, .int .i64 v0_7.2), (81, .bool (!(decide (v0_6.2 = 0))))] [(3, .box 24 [.int .i64 l.1, .sl (.pair (.int .i64) (.int .i64)) l.2]), (54000, .arr 3 (.int .i64) v0_4.1), (74000, .arr 25 (.sl (.int .i64)) v0_7.1)] (by (simp only [go_sem, hb2, hb10, hb12, hb14]) <;> (repeat' with_reducible apply And.intro) <;> first | assumption | rfl | omega | (unfold maxLen; omega)) ?_
          rcases Bool.eq_false_or_eq_true (!(decide (v0_6.2 = 0))) with hb16 | hb16
          · rw [if_pos hb16] at h
            refine AO.weaken (s' := ⟨fr [(1, .sl (.int .i64) w), (2, .int .u8 most), (3, .bp 3 0), (7, .int .i64 v0_3.1), (9, .own 54000), (13, .int .i64 v0_6.1), (15, .own 74000), (16, .int .i64 v0_7.2), (81, .bool true)], hpGet [(3, .box 24 [.int .i64 l.1, .sl (.pair (.int .i64) (.int .i64)) l.2]), (54000, .arr 3 (.int .i64) v0_4.1), (74000, .arr 25 (.sl (.int .i64)) v0_7.1)], gt⟩) (Wk.to (by (simp only [go_sem, hb2, hb10, hb12, hb14, hb16]) <;> (repeat' with_reducible apply And.intro) <;> first | assumption | rfl | omega | (unfold maxLen; omega))) ?_
            refine AO.segF tab_ok 6 (by decide) [(1, .sl (.int .i64) w), (2, .int .u8 most), (3, .bp 3 0), (7, .int .i64 v0_3.1), (9, .own 54000), (15, .own 74000), (85, .bool true), (86, .cv (undef)), (87, .cv (undef))] [(3, .box 24 [.int .i64 l.1, .sl (.pair (.int .i64) (.int .i64)) l.2]), (54000, .arr 3 (.int .i64) v0_4.1), (74000, .arr 25 (.sl (.int .i64)) v0_7.1)] (by (simp only [go_sem, hb2, hb10, hb12, hb14, hb16]) <;> (repeat' with_reducible apply And.intro) <;> first | assumption | rfl | omega | (unfold maxLen; omega)) ?_
            refine AO.segF tab_ok 6 (by decide) [(1, .sl (.int .i64) w), (2, .int .u8 most), (3, .bp 3 0), (7, .int .i64 v0_3.1), (9, .own 54000), (15, .own 74000), (90, .bool true), (92, .cv (undef)), (93, .cv (undef))] [(3, .box 24 [.int .i64 l.1, .sl (.pair (.int .i64) (.int .i64)) l.2]), (54000, .arr 3 (.int .i64) v0_4.1), (74000, .arr 25 (.sl (.int .i64)) v0_7.1)] (by (simp only [go_sem, hb2, hb10, hb12, hb14, hb16]) <;> (repeat' with_reducible apply And.intro) <;> first | assumption | rfl | omega | (unfold maxLen; omega)) ?_
            refine AO.segF tab_ok 4 (by decide) [(1, .sl (.int .i64) w), (3, .bp 3 0), (7, .int .i64 v0_3.1), (9, .own 54000), (15, .own 74000), (90, .bool true), (97, .cv (undef))] [(3, .box 24 [.int .i64 l.1, .sl (.pair (.int .i64) (.int .i64)) l.2]), (54000, .arr 3 (.int .i64) v0_4.1), (74000, .arr 25 (.sl (.int .i64)) v0_7.1)] (by (simp only [go_sem, hb2, hb10, hb12, hb14, hb16]) <;> (repeat' with_reducible apply And.intro) <;> first | assumption | rfl | omega | (unfold maxLen; omega)) ?_
            refine AO.segF tab_ok 6 (by decide) [(1, .sl (.int .i64) w), (3, .bp 3 0), (7, .int .i64 v0_3.1), (9, .own 54000), (15, .own 74000), (99, .bool true), (102, .cv (undef)), (103, .cv (undef))] [(3, .box 24 [.int .i64 l.1, .sl (.pair (.int .i64) (.int .i64)) l.2]), (54000, .arr 3 (.int .i64) v0_4.1), (74000, .arr 25 (.sl (.int .i64)) v0_7.1)] (by (simp only [go_sem, hb2, hb10, hb12, hb14, hb16]) <;> (repeat' with_reducible apply And.intro) <;> first | assumption | rfl | omega | (unfold maxLen; omega)) ?_
            refine AO.allF tab_ok (by decide) [(1, .sl (.int .i64) w), (3, .bp 3 0), (7, .int .i64 v0_3.1), (9, .own 54000), (15, .own 74000), (107, .bool true)] [(3, .box 24 [.int .i64 l.1, .sl (.pair (.int .i64) (.int .i64)) l.2]), (54000, .arr 3 (.int .i64) v0_4.1), (74000, .arr 25 (.sl (.int .i64)) v0_7.1)] (by (simp only [go_sem, hb2, hb10, hb12, hb14, hb16]) <;> (repeat' with_reducible apply And.intro) <;> first | assumption | rfl | omega | (unfold maxLen; omega)) ?_
            refine athen_n ?_
            refine AW.cond (b := true) rfl (fun _ => ?_) (fun hb17 => by cases hb17)
            refine AW.seq ?_
            refine AW.ops ?_
            refine AO.allF tab_ok (by decide) [(6, .bool false)] [] (by (simp only [go_sem, hb2, hb10, hb12, hb14, hb16]) <;> (repeat' with_reducible apply And.intro) <;> first | assumption | rfl | omega | (unfold maxLen; omega)) ?_
            refine athen_n ?_
            refine AW.ret ?_
            refine athen_r ?_
            obtain rfl := Option.some.inj h
            exact ⟨rfl, [], [], [], rfl, (by (simp only [go_sem, hb2, hb10, hb12, hb14, hb16]) <;> (repeat' with_reducible apply And.intro) <;> first | assumption | rfl | omega | (unfold maxLen; omega))⟩
          · rw [if_neg (Bool.eq_false_iff.1 hb16)] at h
            refine AO.weaken (s' := ⟨fr [(1, .sl (.int .i64) w), (2, .int .u8 most), (3, .bp 3 0), (7, .int .i64 v0_3.1), (9, .own 54000), (13, .int .i64 v0_6.1), (15, .own 74000), (16, .int .i64 v0_7.2), (81, .bool false)], hpGet [(3, .box 24 [.int .i64 l.1, .sl (.pair (.int .i64) (.int .i64)) l.2]), (54000, .arr 3 (.int .i64) v0_4.1), (74000, .arr 25 (.sl (.int .i64)) v0_7.1)], gt⟩) (Wk.to (by (simp only [go_sem, hb2, hb10, hb12, hb14, hb16]) <;> (repeat' with_reducible apply And.intro) <;> first | assumption | rfl | omega | (unfold maxLen; omega))) ?_
            refine AO.segF tab_ok 4 (by decide) [(1, .sl (.int .i64) w), (2, .int .u8 most), (3, .bp 3 0), (7, .int .i64 v0_3.1), (9, .own 54000), (13, .int .i64 v0_6.1), (15, .own 74000), (85, .bool (!(decide (v0_7.2 = 0))))] [(3, .box 24 [.int .i64 l.1, .sl (.pair (.int .i64) (.int .i64)) l.2]), (54000, .arr 3 (.int .i64) v0_4.1), (74000, .arr 25 (.sl (.int .i64)) v0_7.1)] (by (simp only [go_sem, hb2, hb10, hb12, hb14, hb16]) <;> (repeat' with_reducible apply And.intro) <;> first | assumption | rfl | omega | (unfold maxLen; omega)) ?_
            rcases Bool.eq_false_or_eq_true (!(decide (v0_7.2 = 0))) with hb18 | hb18
            · rw [if_pos hb18] at h
              refine AO.weaken (s' := ⟨fr [(1, .sl (.int .i64) w), (2, .int .u8 most), (3, .bp 3 0), (7, .int .i64 v0_3.1), (9, .own 54000), (13, .int .i64 v0_6.1), (15, .own 74000), (85, .bool true)], hpGet [(3, .box 24 [.int .i64 l.1, .sl (.pair (.int .i64) (.int .i64)) l.2]), (54000, .arr 3 (.int .i64) v0_4.1), (74000, .arr 25 (.sl (.int .i64)) v0_7.1)], gt⟩) (Wk.to (by (simp only [go_sem, hb2, hb10, hb12, hb14, hb16, hb18]) <;> (repeat' with_reducible apply And.intro) <;> first | assumption | rfl | omega | (unfold maxLen; omega))) ?_
              refine AO.segF tab_ok 6 (by decide) [(1, .sl (.int .i64) w), (2, .int .u8 most), (3, .bp 3 0), (7, .int .i64 v0_3.1), (9, .own 54000), (15, .own 74000), (90, .bool true), (91, .cv (undef))] [(3, .box 24 [.int .i64 l.1, .sl (.pair (.int .i64) (.int .i64)) l.2]), (54000, .arr 3 (.int .i64) v0_4.1), (74000, .arr 25 (.sl (.int .i64)) v0_7.1)] (by (simp only [go_sem, hb2, hb10, hb12, hb14, hb16, hb18]) <;> (repeat' with_reducible apply And.intro) <;> first | assumption | rfl | omega | (unfold maxLen; omega)) ?_
              refine AO.segF tab_ok 4 (by decide) [(1, .sl (.int .i64) w), (3, .bp 3 0), (7, .int .i64 v0_3.1), (9, .own 54000), (15, .own 74000), (90, .bool true), (92, .cv (undef)), (93, .cv (undef)), (95, .cv (undef))] [(3, .box 24 [.int .i64 l.1, .sl (.pair (.int .i64) (.int .i64)) l.2]), (54000, .arr 3 (.int .i64) v0_4.1), (74000, .arr 25 (.sl (.int .i64)) v0_7.1)] (by (simp only [go_sem, hb2, hb10, hb12, hb14, hb16, hb18]) <;> (repeat' with_reducible apply And.intro) <;> first | assumption | rfl | omega | (unfold maxLen; omega)) ?_
              refine AO.segF tab_ok 6 (by decide) [(1, .sl (.int .i64) w), (3, .bp 3 0), (7, .int .i64 v0_3.1), (9, .own 54000), (15, .own 74000), (99, .bool true), (101, .cv (undef))] [(3, .box 24 [.int .i64 l.1, .sl (.pair (.int .i64) (.int .i64)) l.2]), (54000, .arr 3 (.int .i64) v0_4.1), (74000, .arr 25 (.sl (.int .i64)) v0_7.1)] (by (simp only [go_sem, hb2, hb10, hb12, hb14, hb16, hb18]) <;> (repeat' with_reducible apply And.intro) <;> first | assumption | rfl | omega | (unfold maxLen; omega)) ?_
              refine AO.segF tab_ok 4 (by decide) [(1, .sl (.int .i64) w), (3, .bp 3 0), (7, .int .i64 v0_3.1), (9, .own 54000), (15, .own 74000), (99, .bool true), (102, .cv (undef)), (105, .cv (undef))] [(3, .box 24 [.int .i64 l.1, .sl (.pair (.int .i64) (.int .i64)) l.2]), (54000, .arr 3 (.int .i64) v0_4.1), (74000, .arr 25 (.sl (.int .i64)) v0_7.1)] (by (simp only [go_sem, hb2, hb10, hb12, hb14, hb16, hb18]) <;> (repeat' with_reducible apply And.intro) <;> first | assumption | rfl | omega | (unfold maxLen; omega)) ?_
              refine AO.allF tab_ok (by decide) [(1, .sl (.int .i64) w), (3, .bp 3 0), (7, .int .i64 v0_3.1), (9, .own 54000), (15, .own 74000), (107, .bool true)] [(3, .box 24 [.int .i64 l.1, .sl (.pair (.int .i64) (.int .i64)) l.2]), (54000, .arr 3 (.int .i64) v0_4.1), (74000, .arr 25 (.sl (.int .i64)) v0_7.1)] (by (simp only [go_sem, hb2, hb10, hb12, hb14, hb16, hb18]) <;> (repeat' with_reducible apply And.intro) <;> first | assumption | rfl | omega | (unfold maxLen; omega)) ?_
              refine athen_n ?_
              refine AW.cond (b := true) rfl (fun _ => ?_) (fun hb19 => by cases hb19)
              refine AW.seq ?_
              refine AW.ops ?_
              refine AO.allF tab_ok (by decide) [(6, .bool false)] [] (by (simp only [go_sem, hb2, hb10, hb12, hb14, hb16, hb18]) <;> (repeat' with_reducible apply And.intro) <;> first | assumption | rfl | omega | (unfold maxLen; omega)) ?_
              refine athen_n ?_
              refine AW.ret ?_
              refine athen_r ?_
              obtain rfl := Option.some.inj h
              exact ⟨rfl, [], [], [], rfl, (by (simp only [go_sem, hb2, hb10, hb12, hb14, hb16, hb18]) <;> (repeat' with_reducible apply And.intro) <;> first | assumption | rfl | omega | (unfold maxLen; omega))⟩
            · rw [if_neg (Bool.eq_false_iff.1 hb18)] at h
              refine AO.weaken (s' := ⟨fr [(1, .sl (.int .i64) w), (2, .int .u8 most), (3, .bp 3 0), (7, .int .i64 v0_3.1), (9, .own 54000), (13, .int .i64 v0_6.1), (15, .own 74000), (85, .bool false)], hpGet [(3, .box 24 [.int .i64 l.1, .sl (.pair (.int .i64) (.int .i64)) l.2]), (54000, .arr 3 (.int .i64) v0_4.1), (74000, .arr 25 (.sl (.int .i64)) v0_7.1)], gt⟩) (Wk.to (by (simp only [go_sem, hb2, hb10, hb12, hb14, hb16, hb18]) <;> (repeat' with_reducible apply And.intro) <;> first | assumption | rfl | omega | (unfold maxLen; omega))) ?_
              refine AO.segF tab_ok 5 (by decide) [(1, .sl (.int .i64) w), (2, .int .u8 most), (3, .bp 3 0), (7, .int .i64 v0_3.1), (9, .own 54000), (15, .own 74000), (90, .bool (!(decide (v0_6.1 = v0_3.1))))] [(3, .box 24 [.int .i64 l.1, .sl (.pair (.int .i64) (.int .i64)) l.2]), (54000, .arr 3 (.int .i64) v0_4.1), (74000, .arr 25 (.sl (.int .i64)) v0_7.1)] (by (simp only [go_sem, hb2, hb10, hb12, hb14, hb16, hb18]) <;> (repeat' with_reducible apply And.intro) <;> first | assumption | rfl | omega | (unfold maxLen; omega)) ?_
              rcases Bool.eq_false_or_eq_true (!(decide (v0_6.1 = v0_3.1))) with hb20 | hb20
              · rw [if_pos hb20] at h
                refine AO.weaken (s' := ⟨fr [(1, .sl (.int .i64) w), (2, .int .u8 most), (3, .bp 3 0), (7, .int .i64 v0_3.1), (9, .own 54000), (15, .own 74000), (90, .bool true)], hpGet [(3, .box 24 [.int .i64 l.1, .sl (.pair (.int .i64) (.int .i64)) l.2]), (54000, .arr 3 (.int .i64) v0_4.1), (74000, .arr 25 (.sl (.int .i64)) v0_7.1)], gt⟩) (Wk.to (by (simp only [go_sem, hb2, hb10, hb12, hb14, hb16, hb18, hb20]) <;> (repeat' with_reducible apply And.intro) <;> first | assumption | rfl | omega | (unfold maxLen; omega))) ?_
                refine AO.segF tab_ok 4 (by decide) [(1, .sl (.int .i64) w), (3, .bp 3 0), (7, .int .i64 v0_3.1), (9, .own 54000), (15, .own 74000), (90, .bool true), (92, .cv (undef)), (93, .cv (undef)), (94, .cv (undef))] [(3, .box 24 [.int .i64 l.1, .sl (.pair (.int .i64) (.int .i64)) l.2]), (54000, .arr 3 (.int .i64) v0_4.1), (74000, .arr 25 (.sl (.int .i64)) v0_7.1)] (by (simp only [go_sem, hb2, hb10, hb12, hb14, hb16, hb18, hb20]) <;> (repeat' with_reducible apply And.intro) <;> first | assumption | rfl | omega | (unfold maxLen; omega)) ?_
                refine AO.segF tab_ok 6 (by decide) [(1, .sl (.int .i64) w), (3, .bp 3 0), (7, .int .i64 v0_3.1), (9, .own 54000), (15, .own 74000), (99, .bool true), (100, .cv (undef))] [(3, .box 24 [.int .i64 l.1, .sl (.pair (.int .i64) (.int .i64)) l.2]), (54000, .arr 3 (.int .i64) v0_4.1), (74000, .arr 25 (.sl (.int .i64)) v0_7.1)] (by (simp only [go_sem, hb2, hb10, hb12, hb14, hb16, hb18, hb20]) <;> (repeat' with_reducible apply And.intro) <;> first | assumption | rfl | omega | (unfold maxLen; omega)) ?_
                refine AO.segF tab_ok 4 (by decide) [(1, .sl (.int .i64) w), (3, .bp 3 0), (7, .int .i64 v0_3.1), (9, .own 54000), (15, .own 74000), (99, .bool true), (102, .cv (undef)), (104, .cv (undef))] [(3, .box 24 [.int .i64 l.1, .sl (.pair (.int .i64) (.int .i64)) l.2]), (54000, .arr 3 (.int .i64) v0_4.1), (74000, .arr 25 (.sl (.int .i64)) v0_7.1)] (by (simp only [go_sem, hb2, hb10, hb12, hb14, hb16, hb18, hb20]) <;> (repeat' with_reducible apply And.intro) <;> first | assumption | rfl | omega | (unfold maxLen; omega)) ?_
                refine AO.allF tab_ok (by decide) [(1, .sl (.int .i64) w), (3, .bp 3 0), (7, .int .i64 v0_3.1), (9, .own 54000), (15, .own 74000), (107, .bool true)] [(3, .box 24 [.int .i64 l.1, .sl (.pair (.int .i64) (.int .i64)) l.2]), (54000, .arr 3 (.int .i64) v0_4.1), (74000, .arr 25 (.sl (.int .i64)) v0_7.1)] (by (simp only [go_sem, hb2, hb10, hb12, hb14, hb16, hb18, hb20]) <;> (repeat' with_reducible apply And.intro) <;> first | assumption | rfl | omega | (unfold maxLen; omega)) ?_
                refine athen_n ?_
                refine AW.cond (b := true) rfl (fun _ => ?_) (fun hb21 => by cases hb21)
                refine AW.seq ?_
                refine AW.ops ?_
                refine AO.allF tab_ok (by decide) [(6, .bool false)] [] (by (simp only [go_sem, hb2, hb10, hb12, hb14, hb16, hb18, hb20]) <;> (repeat' with_reducible apply And.intro) <;> first | assumption | rfl | omega | (unfold maxLen; omega)) ?_
                refine athen_n ?_
                refine AW.ret ?_
                refine athen_r ?_
                obtain rfl := Option.some.inj h
                exact ⟨rfl, [], [], [], rfl, (by (simp only [go_sem, hb2, hb10, hb12, hb14, hb16, hb18, hb20]) <;> (repeat' with_reducible apply And.intro) <;> first | assumption | rfl | omega | (unfold maxLen; omega))⟩
              · rw [if_neg (Bool.eq_false_iff.1 hb20)] at h
                refine AO.weaken (s' := ⟨fr [(1, .sl (.int .i64) w), (2, .int .u8 most), (3, .bp 3 0), (7, .int .i64 v0_3.1), (9, .own 54000), (15, .own 74000), (90, .bool false)], hpGet [(3, .box 24 [.int .i64 l.1, .sl (.pair (.int .i64) (.int .i64)) l.2]), (54000, .arr 3 (.int .i64) v0_4.1), (74000, .arr 25 (.sl (.int .i64)) v0_7.1)], gt⟩) (Wk.to (by (simp only [go_sem, hb2, hb10, hb12, hb14, hb16, hb18, hb20]) <;> (repeat' with_reducible apply And.intro) <;> first | assumption | rfl | omega | (unfold maxLen; omega))) ?_
                obtain ⟨c22, h⟩ := ck_some.1 h
                refine AO.segF tab_ok 9 (by decide) [(1, .sl (.int .i64) w), (3, .bp 3 0), (7, .int .i64 v0_3.1), (9, .own 54000), (15, .own 74000), (99, .bool (!(decide ((v0_7.1.length : Int) = (min v0_3.1 most)))))] [(3, .box 24 [.int .i64 l.1, .sl (.pair (.int .i64) (.int .i64)) l.2]), (54000, .arr 3 (.int .i64) v0_4.1), (74000, .arr 25 (.sl (.int .i64)) v0_7.1)] (by (simp only [go_sem, hb2, hb10, hb12, hb14, hb16, hb18, hb20]) <;> (repeat' with_reducible apply And.intro) <;> first | assumption | rfl | omega | (unfold maxLen; omega)) ?_
                rcases Bool.eq_false_or_eq_true (!(decide ((v0_7.1.length : Int) = (min v0_3.1 most)))) with hb23 | hb23
                · rw [if_pos hb23] at h
                  refine AO.weaken (s' := ⟨fr [(1, .sl (.int .i64) w), (3, .bp 3 0), (7, .int .i64 v0_3.1), (9, .own 54000), (15, .own 74000), (99, .bool true)], hpGet [(3, .box 24 [.int .i64 l.1, .sl (.pair (.int .i64) (.int .i64)) l.2]), (54000, .arr 3 (.int .i64) v0_4.1), (74000, .arr 25 (.sl (.int .i64)) v0_7.1)], gt⟩) (Wk.to (by (simp only [go_sem, hb2, hb10, hb12, hb14, hb16, hb18, hb20, hb23]) <;> (repeat' with_reducible apply And.intro) <;> first | assumption | rfl | omega | (unfold maxLen; omega))) ?_
                  refine AO.segF tab_ok 4 (by decide) [(1, .sl (.int .i64) w), (3, .bp 3 0), (7, .int .i64 v0_3.1), (9, .own 54000), (15, .own 74000), (99, .bool true), (102, .cv (undef)), (103, .cv (undef))] [(3, .box 24 [.int .i64 l.1, .sl (.pair (.int .i64) (.int .i64)) l.2]), (54000, .arr 3 (.int .i64) v0_4.1), (74000, .arr 25 (.sl (.int .i64)) v0_7.1)] (by (simp only [go_sem, hb2, hb10, hb12, hb14, hb16, hb18, hb20, hb23]) <;> (repeat' with_reducible apply And.intro) <;> first | assumption | rfl | omega | (unfold maxLen; omega)) ?_
                  refine AO.allF tab_ok (by decide) [(1, .sl (.int .i64) w), (3, .bp 3 0), (7, .int .i64 v0_3.1), (9, .own 54000), (15, .own 74000), (107, .bool true)] [(3, .box 24 [.int .i64 l.1, .sl (.pair (.int .i64) (.int .i64)) l.2]), (54000, .arr 3 (.int .i64) v0_4.1), (74000, .arr 25 (.sl (.int .i64)) v0_7.1)] (by (simp only [go_sem, hb2, hb10, hb12, hb14, hb16, hb18, hb20, hb23]) <;> (repeat' with_reducible apply And.intro) <;> first | assumption | rfl | omega | (unfold maxLen; omega)) ?_
                  refine athen_n ?_
                  refine AW.cond (b := true) rfl (fun _ => ?_) (fun hb24 => by cases hb24)
                  refine AW.seq ?_
                  refine AW.ops ?_
                  refine AO.allF tab_ok (by decide) [(6, .bool false)] [] (by (simp only [go_sem, hb2, hb10, hb12, hb14, hb16, hb18, hb20, hb23]) <;> (repeat' with_reducible apply And.intro) <;> first | assumption | rfl | omega | (unfold maxLen; omega)) ?_
                  refine athen_n ?_
                  refine AW.ret ?_
                  refine athen_r ?_
                  obtain rfl := Option.some.inj h
                  exact ⟨rfl, [], [], [], rfl, (by (simp only [go_sem, hb2, hb10, hb12, hb14, hb16, hb18, hb20, hb23]) <;> (repeat' with_reducible apply And.intro) <;> first | assumption | rfl | omega | (unfold maxLen; omega))⟩
                · rw [if_neg (Bool.eq_false_iff.1 hb23)] at h
                  refine AO.weaken (s' := ⟨fr [(1, .sl (.int .i64) w), (3, .bp 3 0), (7, .int .i64 v0_3.1), (9, .own 54000), (15, .own 74000), (99, .bool false)], hpGet [(3, .box 24 [.int .i64 l.1, .sl (.pair (.int .i64) (.int .i64)) l.2]), (54000, .arr 3 (.int .i64) v0_4.1), (74000, .arr 25 (.sl (.int .i64)) v0_7.1)], gt⟩) (Wk.to (by (simp only [go_sem, hb2, hb10, hb12, hb14, hb16, hb18, hb20, hb23]) <;> (repeat' with_reducible apply And.intro) <;> first | assumption | rfl | omega | (unfold maxLen; omega))) ?_
                  refine AO.allF tab_ok (by decide) [(1, .sl (.int .i64) w), (3, .bp 3 0), (7, .int .i64 v0_3.1), (9, .own 54000), (15, .own 74000), (107, .bool (((decide ((v0_4.1.length : Int) = 0)) == (decide ((w.length : Int) = 0))) != true))] [(3, .box 24 [.int .i64 l.1, .sl (.pair (.int .i64) (.int .i64)) l.2]), (54000, .arr 3 (.int .i64) v0_4.1), (74000, .arr 25 (.sl (.int .i64)) v0_7.1)] (by (simp only [go_sem, hb2, hb10, hb12, hb14, hb16, hb18, hb20, hb23]) <;> (repeat' with_reducible apply And.intro) <;> first | assumption | rfl | omega | (unfold maxLen; omega)) ?_
                  refine athen_n ?_
                  refine AW.cond (b := (((decide ((v0_4.1.length : Int) = 0)) == (decide ((w.length : Int) = 0))) != true)) rfl (fun hb25 => ?_) (fun hb25 => ?_)
                  · rw [if_pos hb25] at h
                    refine AW.seq ?_
                    refine AW.ops ?_
                    refine AO.allF tab_ok (by decide) [(6, .bool false)] [] (by (simp only [go_sem, hb2, hb10, hb12, hb14, hb16, hb18, hb20, hb23, hb25]) <;> (repeat' with_reducible apply And.intro) <;> first | assumption | rfl | omega | (unfold maxLen; omega)) ?_
                    refine athen_n ?_
                    refine AW.ret ?_
                    refine athen_r ?_
                    obtain rfl := Option.some.inj h
                    exact ⟨rfl, [], [], [], rfl, (by (simp only [go_sem, hb2, hb10, hb12, hb14, hb16, hb18, hb20, hb23, hb25]) <;> (repeat' with_reducible apply And.intro) <;> first | assumption | rfl | omega | (unfold maxLen; omega))⟩
                  · rw [if_neg (Bool.eq_false_iff.1 hb25)] at h
                    refine AW.skip ?_
                    refine athen_n ?_
                    refine AW.seq ?_
                    refine AW.ops ?_
                    refine AO.allF tab_ok (by decide) [(1, .sl (.int .i64) w), (3, .bp 3 0), (7, .int .i64 v0_3.1), (9, .own 54000), (15, .own 74000), (17, .int .i64 0)] [(3, .box 24 [.int .i64 l.1, .sl (.pair (.int .i64) (.int .i64)) l.2]), (54000, .arr 3 (.int .i64) v0_4.1), (74000, .arr 25 (.sl (.int .i64)) v0_7.1)] (by (simp only [go_sem, hb2, hb10, hb12, hb14, hb16, hb18, hb20, hb23, hb25]) <;> (repeat' with_reducible apply And.intro) <;> first | assumption | rfl | omega | (unfold maxLen; omega)) ?_
                    refine athen_n ?_
                    refine AW.have1 (fun b1 : Int => lineallaw03_WeaveSizes_k1 l w v0_3 v0_7 b1 = some r) (fun b1 => ⟨fr [(1, .sl (.int .i64) w), (3, .bp 3 0), (7, .int .i64 v0_3.1), (15, .own 74000), (17, .int .i64 b1)], hpGet [(3, .box 24 [.int .i64 l.1, .sl (.pair (.int .i64) (.int .i64)) l.2]), (74000, .arr 25 (.sl (.int .i64)) v0_7.1)], gt⟩) (fun b1 h => ?_) (fun hk_lineallaw03_WeaveSizes_k1 => ?_)
                    · unfold lineallaw03_WeaveSizes_k1 at h
                      refine AW.have1 (fun _ : Unit => lineallaw03_WeaveSizes_k2 l w v0_7 = some r) (fun _ => ⟨fr [(1, .sl (.int .i64) w), (3, .bp 3 0), (15, .own 74000)], hpGet [(3, .box 24 [.int .i64 l.1, .sl (.pair (.int .i64) (.int .i64)) l.2]), (74000, .arr 25 (.sl (.int .i64)) v0_7.1)], gt⟩) (fun _ h => ?_) (fun hk_lineallaw03_WeaveSizes_k2 => ?_)
                      · unfold lineallaw03_WeaveSizes_k2 at h
                        refine AW.have1 (fun _ : Unit => lineallaw03_WeaveSizes_k3 l w v0_7 = some r) (fun _ => ⟨fr [(1, .sl (.int .i64) w), (3, .bp 3 0), (15, .own 74000)], hpGet [(3, .box 24 [.int .i64 l.1, .sl (.pair (.int .i64) (.int .i64)) l.2]), (74000, .arr 25 (.sl (.int .i64)) v0_7.1)], gt⟩) (fun _ h => ?_) (fun hk_lineallaw03_WeaveSizes_k3 => ?_)
                        · unfold lineallaw03_WeaveSizes_k3 at h
                          refine AW.seq ?_
                          refine AW.ops ?_
                          refine AO.segF tab_ok 2 (by decide) [(15, .own 74000), (191, .agg [.int .i64 l.1, .sl (.pair (.int .i64) (.int .i64)) l.2]), (192, .sl (.int .i64) w)] [(74000, .arr 25 (.sl (.int .i64)) v0_7.1)] (by (simp only [go_sem, hb2, hb10, hb12, hb14, hb16, hb18, hb20, hb23, hb25]) <;> (repeat' with_reducible apply And.intro) <;> first | assumption | rfl | omega | (unfold maxLen; omega)) ?_
                          obtain ⟨v0_12, hv26, h⟩ := Option.bind_eq_some_iff.1 h
                          refine AO.call tab_ok (by decide) rfl rfl rfl (fun _ h => h) [] [] (hc_weave_First l w hv26) rfl (by (simp only [go_sem, hb2, hb10, hb12, hb14, hb16, hb18, hb20, hb23, hb25]) <;> (repeat' with_reducible apply And.intro) <;> first | assumption | rfl | omega | (unfold maxLen; omega)) (by (simp only [go_sem, hb2, hb10, hb12, hb14, hb16, hb18, hb20, hb23, hb25]) <;> (repeat' with_reducible apply And.intro) <;> first | assumption | rfl | omega | (unfold maxLen; omega)) [(15, .own 74000), (193, .tup [.sl (.int .i64) v0_12.1, .int .i64 v0_12.2])] [(74000, .arr 25 (.sl (.int .i64)) v0_7.1)] (by (simp only [go_sem, hb2, hb10, hb12, hb14, hb16, hb18, hb20, hb23, hb25]) <;> (repeat' with_reducible apply And.intro) <;> first | assumption | rfl | omega | (unfold maxLen; omega)) ?_
                          refine AO.allF tab_ok (by decide) [(8, .int .i64 v0_12.2), (15, .own 74000), (28, .sl (.int .i64) v0_12.1)] [(74000, .arr 25 (.sl (.int .i64)) v0_7.1)] (by (simp only [go_sem, hb2, hb10, hb12, hb14, hb16, hb18, hb20, hb23, hb25]) <;> (repeat' with_reducible apply And.intro) <;> first | assumption | rfl | omega | (unfold maxLen; omega)) ?_
                          refine athen_n ?_
                          refine AW.seq ?_
                          refine AW.ops ?_
                          refine AO.segF tab_ok 3 (by decide) [(15, .own 74000), (28, .sl (.int .i64) v0_12.1), (198, .bool (decide (v0_12.2 = 0)))] [(74000, .arr 25 (.sl (.int .i64)) v0_7.1)] (by (simp only [go_sem, hb2, hb10, hb12, hb14, hb16, hb18, hb20, hb23, hb25]) <;> (repeat' with_reducible apply And.intro) <;> first | assumption | rfl | omega | (unfold maxLen; omega)) ?_
                          rcases Bool.eq_false_or_eq_true (decide (v0_12.2 = 0)) with hb27 | hb27
                          · rw [if_pos hb27] at h
                            refine AO.weaken (s' := ⟨fr [(15, .own 74000), (28, .sl (.int .i64) v0_12.1), (198, .bool true)], hpGet [(74000, .arr 25 (.sl (.int .i64)) v0_7.1)], gt⟩) (Wk.to (by (simp only [go_sem, hb2, hb10, hb12, hb14, hb16, hb18, hb20, hb23, hb25, hb27]) <;> (repeat' with_reducible apply And.intro) <;> first | assumption | rfl | omega | (unfold maxLen; omega))) ?_
                            refine AO.segF tab_ok 4 (by decide) [(15, .own 74000), (28, .sl (.int .i64) v0_12.1), (198, .bool true), (202, .bool (decide ((v0_7.1.length : Int) = 0)))] [(74000, .arr 25 (.sl (.int .i64)) v0_7.1)] (by (simp only [go_sem, hb2, hb10, hb12, hb14, hb16, hb18, hb20, hb23, hb25, hb27]) <;> (repeat' with_reducible apply And.intro) <;> first | assumption | rfl | omega | (unfold maxLen; omega)) ?_
                            rcases Bool.eq_false_or_eq_true (decide ((v0_7.1.length : Int) = 0)) with hb28 | hb28
                            · rw [if_pos hb28] at h
                              refine AO.weaken (s' := ⟨fr [(15, .own 74000), (28, .sl (.int .i64) v0_12.1), (198, .bool true), (202, .bool true)], hpGet [(74000, .arr 25 (.sl (.int .i64)) v0_7.1)], gt⟩) (Wk.to (by (simp only [go_sem, hb2, hb10, hb12, hb14, hb16, hb18, hb20, hb23, hb25, hb27, hb28]) <;> (repeat' with_reducible apply And.intro) <;> first | assumption | rfl | omega | (unfold maxLen; omega))) ?_
                              refine AO.segF tab_ok 4 (by decide) [(198, .bool true), (202, .bool true), (205, .cv (undef)), (206, .cv (undef))] [] (by (simp only [go_sem, hb2, hb10, hb12, hb14, hb16, hb18, hb20, hb23, hb25, hb27, hb28]) <;> (repeat' with_reducible apply And.intro) <;> first | assumption | rfl | omega | (unfold maxLen; omega)) ?_
                              refine AO.segF tab_ok 4 (by decide) [(210, .bool true)] [] (by (simp only [go_sem, hb2, hb10, hb12, hb14, hb16, hb18, hb20, hb23, hb25, hb27, hb28]) <;> (repeat' with_reducible apply And.intro) <;> first | assumption | rfl | omega | (unfold maxLen; omega)) ?_
                              obtain ⟨v0_13, hv29, h⟩ := Option.bind_eq_some_iff.1 h
                              refine AO.call tab_ok (by decide) rfl rfl rfl (fun _ h => ⟨fun _ => h, fun hn => absurd rfl hn⟩) [] [] (hc_lineallaw03_Awake hv29) rfl (by (simp only [go_sem, hb2, hb10, hb12, hb14, hb16, hb18, hb20, hb23, hb25, hb27, hb28]) <;> (repeat' with_reducible apply And.intro) <;> first | assumption | rfl | omega | (unfold maxLen; omega)) (by (simp only [go_sem, hb2, hb10, hb12, hb14, hb16, hb18, hb20, hb23, hb25, hb27, hb28]) <;> (repeat' with_reducible apply And.intro) <;> first | assumption | rfl | omega | (unfold maxLen; omega)) [(210, .bool true), (211, .bool v0_13)] [] (by (simp only [go_sem, hb2, hb10, hb12, hb14, hb16, hb18, hb20, hb23, hb25, hb27, hb28]) <;> (repeat' with_reducible apply And.intro) <;> first | assumption | rfl | omega | (unfold maxLen; omega)) ?_
                              refine AO.allF tab_ok (by decide) [(6, .bool v0_13)] [] (by (simp only [go_sem, hb2, hb10, hb12, hb14, hb16, hb18, hb20, hb23, hb25, hb27, hb28]) <;> (repeat' with_reducible apply And.intro) <;> first | assumption | rfl | omega | (unfold maxLen; omega)) ?_
                              refine athen_n ?_
                              refine AW.ret ?_
                              obtain rfl := Option.some.inj h
                              exact ⟨rfl, [], [], [], rfl, (by (simp only [go_sem, hb2, hb10, hb12, hb14, hb16, hb18, hb20, hb23, hb25, hb27, hb28]) <;> (repeat' with_reducible apply And.intro) <;> first | assumption | rfl | omega | (unfold maxLen; omega))⟩
                            · rw [if_neg (Bool.eq_false_iff.1 hb28)] at h
                              refine AO.weaken (s' := ⟨fr [(15, .own 74000), (28, .sl (.int .i64) v0_12.1), (198, .bool true), (202, .bool false)], hpGet [(74000, .arr 25 (.sl (.int .i64)) v0_7.1)], gt⟩) (Wk.to (by (simp only [go_sem, hb2, hb10, hb12, hb14, hb16, hb18, hb20, hb23, hb25, hb27, hb28]) <;> (repeat' with_reducible apply And.intro) <;> first | assumption | rfl | omega | (unfold maxLen; omega))) ?_
                              obtain ⟨c30, h⟩ := ck_some.1 h
                              refine AO.segF tab_ok 4 (by decide) [(198, .bool true), (202, .bool false), (205, .sl (.int .i64) (v0_7.1.getD 0 [])), (206, .sl (.int .i64) v0_12.1)] [] (by (simp only [go_sem, hb2, hb10, hb12, hb14, hb16, hb18, hb20, hb23, hb25, hb27, hb28]) <;> (repeat' with_reducible apply And.intro) <;> first | assumption | rfl | omega | (unfold maxLen; omega)) ?_
                              obtain ⟨v0_14, hv31, h⟩ := Option.bind_eq_some_iff.1 h
                              refine AO.call tab_ok (by decide) rfl rfl rfl (fun _ h => ⟨fun _ => h, fun hn => absurd rfl hn⟩) [] [] (hc_linealref03_SameInts (v0_7.1.getD 0 []) v0_12.1 hv31) rfl (by (simp only [go_sem, hb2, hb10, hb12, hb14, hb16, hb18, hb20, hb23, hb25, hb27, hb28]) <;> (repeat' with_reducible apply And.intro) <;> first | assumption | rfl | omega | (unfold maxLen; omega)) (by (simp only [go_sem, hb2, hb10, hb12, hb14, hb16, hb18, hb20, hb23, hb25, hb27, hb28]) <;> (repeat' with_reducible apply And.intro) <;> first | assumption | rfl | omega | (unfold maxLen; omega)) [(198, .bool true), (202, .bool false), (207, .bool v0_14)] [] (by (simp only [go_sem, hb2, hb10, hb12, hb14, hb16, hb18, hb20, hb23, hb25, hb27, hb28]) <;> (repeat' with_reducible apply And.intro) <;> first | assumption | rfl | omega | (unfold maxLen; omega)) ?_
                              refine AO.segF tab_ok 3 (by decide) [(210, .bool v0_14)] [] (by (simp only [go_sem, hb2, hb10, hb12, hb14, hb16, hb18, hb20, hb23, hb25, hb27, hb28]) <;> (repeat' with_reducible apply And.intro) <;> first | assumption | rfl | omega | (unfold maxLen; omega)) ?_
                              rcases Bool.eq_false_or_eq_true v0_14 with hb32 | hb32
                              · rw [if_pos hb32] at h
                                refine AO.weaken (s' := ⟨fr [(210, .bool true)], hpGet [], gt⟩) (Wk.to (by (simp only [go_sem, hb2, hb10, hb12, hb14, hb16, hb18, hb20, hb23, hb25, hb27, hb28, hb32]) <;> (repeat' with_reducible apply And.intro) <;> first | assumption | rfl | omega | (unfold maxLen; omega))) ?_
                                obtain ⟨v0_15, hv33, h⟩ := Option.bind_eq_some_iff.1 h
                                refine AO.call tab_ok (by decide) rfl rfl rfl (fun _ h => ⟨fun _ => h, fun hn => absurd rfl hn⟩) [] [] (hc_lineallaw03_Awake hv33) rfl (by (simp only [go_sem, hb2, hb10, hb12, hb14, hb16, hb18, hb20, hb23, hb25, hb27, hb28, hb32]) <;> (repeat' with_reducible apply And.intro) <;> first | assumption | rfl | omega | (unfold maxLen; omega)) (by (simp only [go_sem, hb2, hb10, hb12, hb14, hb16, hb18, hb20, hb23, hb25, hb27, hb28, hb32]) <;> (repeat' with_reducible apply And.intro) <;> first | assumption | rfl | omega | (unfold maxLen; omega)) [(210, .bool true), (211, .bool v0_15)] [] (by (simp only [go_sem, hb2, hb10, hb12, hb14, hb16, hb18, hb20, hb23, hb25, hb27, hb28, hb32]) <;> (repeat' with_reducible apply And.intro) <;> first | assumption | rfl | omega | (unfold maxLen; omega)) ?_
                                refine AO.allF tab_ok (by decide) [(6, .bool v0_15)] [] (by (simp only [go_sem, hb2, hb10, hb12, hb14, hb16, hb18, hb20, hb23, hb25, hb27, hb28, hb32]) <;> (repeat' with_reducible apply And.intro) <;> first | assumption | rfl | omega | (unfold maxLen; omega)) ?_
                                refine athen_n ?_
                                refine AW.ret ?_
                                obtain rfl := Option.some.inj h
                                exact ⟨rfl, [], [], [], rfl, (by (simp only [go_sem, hb2, hb10, hb12, hb14, hb16, hb18, hb20, hb23, hb25, hb27, hb28, hb32]) <;> (repeat' with_reducible apply And.intro) <;> first | assumption | rfl | omega | (unfold maxLen; omega))⟩
                              · rw [if_neg (Bool.eq_false_iff.1 hb32)] at h
                                refine AO.weaken (s' := ⟨fr [(210, .bool false)], hpGet [], gt⟩) (Wk.to (by (simp only [go_sem, hb2, hb10, hb12, hb14, hb16, hb18, hb20, hb23, hb25, hb27, hb28, hb32]) <;> (repeat' with_reducible apply And.intro) <;> first | assumption | rfl | omega | (unfold maxLen; omega))) ?_
                                refine AO.allF tab_ok (by decide) [(6, .bool false)] [] (by (simp only [go_sem, hb2, hb10, hb12, hb14, hb16, hb18, hb20, hb23, hb25, hb27, hb28, hb32]) <;> (repeat' with_reducible apply And.intro) <;> first | assumption | rfl | omega | (unfold maxLen; omega)) ?_
                                refine athen_n ?_
                                refine AW.ret ?_
                                obtain rfl := Option.some.inj h
                                exact ⟨rfl, [], [], [], rfl, (by (simp only [go_sem, hb2, hb10, hb12, hb14, hb16, hb18, hb20, hb23, hb25, hb27, hb28, hb32]) <;> (repeat' with_reducible apply And.intro) <;> first | assumption | rfl | omega | (unfold maxLen; omega))⟩
                          · rw [if_neg (Bool.eq_false_iff.1 hb27)] at h
                            refine AO.weaken (s' := ⟨fr [(15, .own 74000), (28, .sl (.int .i64) v0_12.1), (198, .bool false)], hpGet [(74000, .arr 25 (.sl (.int .i64)) v0_7.1)], gt⟩) (Wk.to (by (simp only [go_sem, hb2, hb10, hb12, hb14, hb16, hb18, hb20, hb23, hb25, hb27]) <;> (repeat' with_reducible apply And.intro) <;> first | assumption | rfl | omega | (unfold maxLen; omega))) ?_
                            refine AO.segF tab_ok 4 (by decide) [(15, .own 74000), (28, .sl (.int .i64) v0_12.1), (198, .bool false), (202, .cv (undef))] [(74000, .arr 25 (.sl (.int .i64)) v0_7.1)] (by (simp only [go_sem, hb2, hb10, hb12, hb14, hb16, hb18, hb20, hb23, hb25, hb27]) <;> (repeat' with_reducible apply And.intro) <;> first | assumption | rfl | omega | (unfold maxLen; omega)) ?_
                            refine AO.segF tab_ok 4 (by decide) [(198, .bool false), (202, .cv (undef)), (205, .cv (undef)), (206, .cv (undef))] [] (by (simp only [go_sem, hb2, hb10, hb12, hb14, hb16, hb18, hb20, hb23, hb25, hb27]) <;> (repeat' with_reducible apply And.intro) <;> first | assumption | rfl | omega | (unfold maxLen; omega)) ?_
                            refine AO.allF tab_ok (by decide) [(6, .bool false)] [] (by (simp only [go_sem, hb2, hb10, hb12, hb14, hb16, hb18, hb20, hb23, hb25, hb27]) <;> (repeat' with_reducible apply And.intro) <;> first | assumption | rfl | omega | (unfold maxLen; omega)) ?_
                            refine athen_n ?_
                            refine AW.ret ?_
                            obtain rfl := Option.some.inj h
                            exact ⟨rfl, [], [], [], rfl, (by (simp only [go_sem, hb2, hb10, hb12, hb14, hb16, hb18, hb20, hb23, hb25, hb27]) <;> (repeat' with_reducible apply And.intro) <;> first | assumption | rfl | omega | (unfold maxLen; omega))⟩
                        · refine AW.seq ?_
                          refine AW.seq ?_
                          refine AW.ops ?_
                          refine AO.allF tab_ok (by decide) [(1, .sl (.int .i64) w), (3, .bp 3 0), (15, .own 74000), (155, .own 74000), (156, .int .i64 (v0_7.1.length : Int)), (157, .int .i64 0)] [(3, .box 24 [.int .i64 l.1, .sl (.pair (.int .i64) (.int .i64)) l.2]), (74000, .arr 25 (.sl (.int .i64)) v0_7.1)] (by (simp only [go_sem, hb2, hb10, hb12, hb14, hb16, hb18, hb20, hb23, hb25]) <;> (repeat' with_reducible apply And.intro) <;> first | assumption | rfl | omega | (unfold maxLen; omega)) ?_
                          refine athen_n ?_
                          refine AW.block ?_
                          obtain ⟨rv38, hw34, ho35⟩ := Option.bind_eq_some_iff.1 h
                          refine AW.loopO (lineallaw03_WeaveSizes_b2 l w v0_7) (fun st2 => ⟨fr [(1, .sl (.int .i64) w), (3, .bp 3 0), (15, .own 74000), (155, .own 74000), (156, .int .i64 (v0_7.1.length : Int)), (157, .int .i64 st2)], hpGet [(3, .box 24 [.int .i64 l.1, .sl (.pair (.int .i64) (.int .i64)) l.2]), (74000, .arr 25 (.sl (.int .i64)) v0_7.1)], gt⟩) 0 hw34 (Wk.le [] [] [] rfl (by (simp only [go_sem, hb2, hb10, hb12, hb14, hb16, hb18, hb20, hb23, hb25]) <;> (repeat' with_reducible apply And.intro) <;> first | assumption | rfl | omega | (unfold maxLen; omega)) (by (simp only [go_sem, hb2, hb10, hb12, hb14, hb16, hb18, hb20, hb23, hb25]) <;> (repeat' with_reducible apply And.intro) <;> first | assumption | rfl | omega | (unfold maxLen; omega))) ?_
                          intro st2 x37 h hd36
                          unfold lineallaw03_WeaveSizes_b2 at h
                          refine AW.seq ?_
                          refine AW.ops ?_
                          refine AO.allF tab_ok (by decide) [(1, .sl (.int .i64) w), (3, .bp 3 0), (15, .own 74000), (155, .own 74000), (156, .int .i64 (v0_7.1.length : Int)), (157, .int .i64 st2), (158, .bool (decide (st2 < (v0_7.1.length : Int))))] [(3, .box 24 [.int .i64 l.1, .sl (.pair (.int .i64) (.int .i64)) l.2]), (74000, .arr 25 (.sl (.int .i64)) v0_7.1)] (by (simp only [go_sem, hb2, hb10, hb12, hb14, hb16, hb18, hb20, hb23, hb25]) <;> (repeat' with_reducible apply And.intro) <;> first | assumption | rfl | omega | (unfold maxLen; omega)) ?_
                          refine athen_n ?_
                          refine AW.seq ?_
                          refine AW.cond (b := (decide (st2 < (v0_7.1.length : Int)))) rfl (fun hb39 => ?_) (fun hb39 => ?_)
                          · rw [if_pos hb39] at h
                            refine AW.skip ?_
                            refine athen_n ?_
                            refine AW.seq ?_
                            refine AW.block ?_
                            refine AW.seq ?_
                            refine AW.ops ?_
                            obtain ⟨c40, h⟩ := ck_some.1 h
                            obtain ⟨c41, h⟩ := ck_some.1 h
                            refine AO.allF tab_ok (by decide) [(1, .sl (.int .i64) w), (3, .bp 3 0), (15, .own 74000), (24, .int .i64 st2), (25, .sl (.int .i64) (v0_7.1.getD st2.toNat [])), (155, .own 74000), (156, .int .i64 (v0_7.1.length : Int)), (157, .int .i64 st2)] [(3, .box 24 [.int .i64 l.1, .sl (.pair (.int .i64) (.int .i64)) l.2]), (74000, .arr 25 (.sl (.int .i64)) v0_7.1)] (by (simp only [go_sem, hb2, hb10, hb12, hb14, hb16, hb18, hb20, hb23, hb25, hb39]) <;> (repeat' with_reducible apply And.intro) <;> first | assumption | rfl | omega | (unfold maxLen; omega)) ?_
                            refine athen_n ?_
                            refine AW.seq ?_
                            refine AW.ops ?_
                            refine AO.segF tab_ok 3 (by decide) [(1, .sl (.int .i64) w), (3, .bp 3 0), (15, .own 74000), (24, .int .i64 st2), (25, .sl (.int .i64) (v0_7.1.getD st2.toNat [])), (155, .own 74000), (156, .int .i64 (v0_7.1.length : Int)), (157, .int .i64 st2), (163, .agg [.int .i64 l.1, .sl (.pair (.int .i64) (.int .i64)) l.2]), (164, .sl (.int .i64) w), (165, .sl (.int .i64) (v0_7.1.getD st2.toNat []))] [(3, .box 24 [.int .i64 l.1, .sl (.pair (.int .i64) (.int .i64)) l.2]), (74000, .arr 25 (.sl (.int .i64)) v0_7.1)] (by (simp only [go_sem, hb2, hb10, hb12, hb14, hb16, hb18, hb20, hb23, hb25, hb39]) <;> (repeat' with_reducible apply And.intro) <;> first | assumption | rfl | omega | (unfold maxLen; omega)) ?_
                            obtain ⟨v0_10, hv42, h⟩ := Option.bind_eq_some_iff.1 h
                            refine AO.call tab_ok (by decide) rfl rfl rfl (fun _ h => h) [] [] (hc_weave_Equal l w (v0_7.1.getD st2.toNat []) hv42) rfl (by (simp only [go_sem, hb2, hb10, hb12, hb14, hb16, hb18, hb20, hb23, hb25, hb39]) <;> (repeat' with_reducible apply And.intro) <;> first | assumption | rfl | omega | (unfold maxLen; omega)) (by (simp only [go_sem, hb2, hb10, hb12, hb14, hb16, hb18, hb20, hb23, hb25, hb39]) <;> (repeat' with_reducible apply And.intro) <;> first | assumption | rfl | omega | (unfold maxLen; omega)) [(1, .sl (.int .i64) w), (3, .bp 3 0), (15, .own 74000), (24, .int .i64 st2), (25, .sl (.int .i64) (v0_7.1.getD st2.toNat [])), (155, .own 74000), (156, .int .i64 (v0_7.1.length : Int)), (157, .int .i64 st2), (166, .tup [.bool v0_10.1, .int .i64 v0_10.2])] [(3, .box 24 [.int .i64 l.1, .sl (.pair (.int .i64) (.int .i64)) l.2]), (74000, .arr 25 (.sl (.int .i64)) v0_7.1)] (by (simp only [go_sem, hb2, hb10, hb12, hb14, hb16, hb18, hb20, hb23, hb25, hb39]) <;> (repeat' with_reducible apply And.intro) <;> first | assumption | rfl | omega | (unfold maxLen; omega)) ?_
                            refine AO.allF tab_ok (by decide) [(1, .sl (.int .i64) w), (3, .bp 3 0), (15, .own 74000), (24, .int .i64 st2), (25, .sl (.int .i64) (v0_7.1.getD st2.toNat [])), (26, .bool v0_10.1), (27, .int .i64 v0_10.2), (155, .own 74000), (156, .int .i64 (v0_7.1.length : Int)), (157, .int .i64 st2)] [(3, .box 24 [.int .i64 l.1, .sl (.pair (.int .i64) (.int .i64)) l.2]), (74000, .arr 25 (.sl (.int .i64)) v0_7.1)] (by (simp only [go_sem, hb2, hb10, hb12, hb14, hb16, hb18, hb20, hb23, hb25, hb39]) <;> (repeat' with_reducible apply And.intro) <;> first | assumption | rfl | omega | (unfold maxLen; omega)) ?_
                            refine athen_n ?_
                            refine AW.seq ?_
                            refine AW.ops ?_
                            refine AO.segF tab_ok 3 (by decide) [(1, .sl (.int .i64) w), (3, .bp 3 0), (15, .own 74000), (24, .int .i64 st2), (25, .sl (.int .i64) (v0_7.1.getD st2.toNat [])), (26, .bool v0_10.1), (155, .own 74000), (156, .int .i64 (v0_7.1.length : Int)), (157, .int .i64 st2), (171, .bool (!(decide (v0_10.2 = 0))))] [(3, .box 24 [.int .i64 l.1, .sl (.pair (.int .i64) (.int .i64)) l.2]), (74000, .arr 25 (.sl (.int .i64)) v0_7.1)] (by (simp only [go_sem, hb2, hb10, hb12, hb14, hb16, hb18, hb20, hb23, hb25, hb39]) <;> (repeat' with_reducible apply And.intro) <;> first | assumption | rfl | omega | (unfold maxLen; omega)) ?_
                            rcases Bool.eq_false_or_eq_true (!(decide (v0_10.2 = 0))) with hb43 | hb43
                            · rw [if_pos hb43] at h
                              refine AO.weaken (s' := ⟨fr [(1, .sl (.int .i64) w), (3, .bp 3 0), (15, .own 74000), (24, .int .i64 st2), (25, .sl (.int .i64) (v0_7.1.getD st2.toNat [])), (26, .bool v0_10.1), (155, .own 74000), (156, .int .i64 (v0_7.1.length : Int)), (157, .int .i64 st2), (171, .bool true)], hpGet [(3, .box 24 [.int .i64 l.1, .sl (.pair (.int .i64) (.int .i64)) l.2]), (74000, .arr 25 (.sl (.int .i64)) v0_7.1)], gt⟩) (Wk.to (by (simp only [go_sem, hb2, hb10, hb12, hb14, hb16, hb18, hb20, hb23, hb25, hb39, hb43]) <;> (repeat' with_reducible apply And.intro) <;> first | assumption | rfl | omega | (unfold maxLen; omega))) ?_
                              refine AO.segF tab_ok 6 (by decide) [(1, .sl (.int .i64) w), (3, .bp 3 0), (15, .own 74000), (24, .int .i64 st2), (25, .sl (.int .i64) (v0_7.1.getD st2.toNat [])), (155, .own 74000), (156, .int .i64 (v0_7.1.length : Int)), (157, .int .i64 st2), (175, .bool true), (177, .cv (undef))] [(3, .box 24 [.int .i64 l.1, .sl (.pair (.int .i64) (.int .i64)) l.2]), (74000, .arr 25 (.sl (.int .i64)) v0_7.1)] (by (simp only [go_sem, hb2, hb10, hb12, hb14, hb16, hb18, hb20, hb23, hb25, hb39, hb43]) <;> (repeat' with_reducible apply And.intro) <;> first | assumption | rfl | omega | (unfold maxLen; omega)) ?_
                              refine AO.segF tab_ok 4 (by decide) [(1, .sl (.int .i64) w), (3, .bp 3 0), (15, .own 74000), (25, .sl (.int .i64) (v0_7.1.getD st2.toNat [])), (155, .own 74000), (156, .int .i64 (v0_7.1.length : Int)), (157, .int .i64 st2), (175, .bool true), (178, .cv (undef)), (179, .cv (undef)), (181, .cv (undef))] [(3, .box 24 [.int .i64 l.1, .sl (.pair (.int .i64) (.int .i64)) l.2]), (74000, .arr 25 (.sl (.int .i64)) v0_7.1)] (by (simp only [go_sem, hb2, hb10, hb12, hb14, hb16, hb18, hb20, hb23, hb25, hb39, hb43]) <;> (repeat' with_reducible apply And.intro) <;> first | assumption | rfl | omega | (unfold maxLen; omega)) ?_
                              refine AO.segF tab_ok 4 (by decide) [(1, .sl (.int .i64) w), (3, .bp 3 0), (15, .own 74000), (155, .own 74000), (156, .int .i64 (v0_7.1.length : Int)), (157, .int .i64 st2), (175, .bool true), (178, .cv (undef)), (185, .cv (undef))] [(3, .box 24 [.int .i64 l.1, .sl (.pair (.int .i64) (.int .i64)) l.2]), (74000, .arr 25 (.sl (.int .i64)) v0_7.1)] (by (simp only [go_sem, hb2, hb10, hb12, hb14, hb16, hb18, hb20, hb23, hb25, hb39, hb43]) <;> (repeat' with_reducible apply And.intro) <;> first | assumption | rfl | omega | (unfold maxLen; omega)) ?_
                              refine AO.allF tab_ok (by decide) [(1, .sl (.int .i64) w), (3, .bp 3 0), (15, .own 74000), (155, .own 74000), (156, .int .i64 (v0_7.1.length : Int)), (157, .int .i64 st2), (188, .bool true)] [(3, .box 24 [.int .i64 l.1, .sl (.pair (.int .i64) (.int .i64)) l.2]), (74000, .arr 25 (.sl (.int .i64)) v0_7.1)] (by (simp only [go_sem, hb2, hb10, hb12, hb14, hb16, hb18, hb20, hb23, hb25, hb39, hb43]) <;> (repeat' with_reducible apply And.intro) <;> first | assumption | rfl | omega | (unfold maxLen; omega)) ?_
                              refine athen_n ?_
                              refine AW.cond (b := true) rfl (fun _ => ?_) (fun hb44 => by cases hb44)
                              refine AW.seq ?_
                              refine AW.ops ?_
                              refine AO.allF tab_ok (by decide) [(6, .bool false)] [] (by (simp only [go_sem, hb2, hb10, hb12, hb14, hb16, hb18, hb20, hb23, hb25, hb39, hb43]) <;> (repeat' with_reducible apply And.intro) <;> first | assumption | rfl | omega | (unfold maxLen; omega)) ?_
                              refine athen_n ?_
                              refine AW.ret ?_
                              refine ablock_r ?_
                              refine athen_r ?_
                              obtain rfl := Option.some.inj h
                              rw [← hd36 _ rfl] at ho35
                              have h := ho35
                              try simp only at h
                              refine athen_r ?_
                              refine ablock_r ?_
                              refine athen_r ?_
                              obtain rfl := Option.some.inj h
                              exact ⟨rfl, [], [], [], rfl, (by (simp only [go_sem, hb2, hb10, hb12, hb14, hb16, hb18, hb20, hb23, hb25, hb39, hb43]) <;> (repeat' with_reducible apply And.intro) <;> first | assumption | rfl | omega | (unfold maxLen; omega))⟩
                            · rw [if_neg (Bool.eq_false_iff.1 hb43)] at h
                              refine AO.weaken (s' := ⟨fr [(1, .sl (.int .i64) w), (3, .bp 3 0), (15, .own 74000), (24, .int .i64 st2), (25, .sl (.int .i64) (v0_7.1.getD st2.toNat [])), (26, .bool v0_10.1), (155, .own 74000), (156, .int .i64 (v0_7.1.length : Int)), (157, .int .i64 st2), (171, .bool false)], hpGet [(3, .box 24 [.int .i64 l.1, .sl (.pair (.int .i64) (.int .i64)) l.2]), (74000, .arr 25 (.sl (.int .i64)) v0_7.1)], gt⟩) (Wk.to (by (simp only [go_sem, hb2, hb10, hb12, hb14, hb16, hb18, hb20, hb23, hb25, hb39, hb43]) <;> (repeat' with_reducible apply And.intro) <;> first | assumption | rfl | omega | (unfold maxLen; omega))) ?_
                              refine AO.segF tab_ok 4 (by decide) [(1, .sl (.int .i64) w), (3, .bp 3 0), (15, .own 74000), (24, .int .i64 st2), (25, .sl (.int .i64) (v0_7.1.getD st2.toNat [])), (155, .own 74000), (156, .int .i64 (v0_7.1.length : Int)), (157, .int .i64 st2), (175, .bool (!v0_10.1))] [(3, .box 24 [.int .i64 l.1, .sl (.pair (.int .i64) (.int .i64)) l.2]), (74000, .arr 25 (.sl (.int .i64)) v0_7.1)] (by (simp only [go_sem, hb2, hb10, hb12, hb14, hb16, hb18, hb20, hb23, hb25, hb39, hb43]) <;> (repeat' with_reducible apply And.intro) <;> first | assumption | rfl | omega | (unfold maxLen; omega)) ?_
                              rcases Bool.eq_false_or_eq_true (!v0_10.1) with hb45 | hb45
                              · rw [if_pos hb45] at h
                                refine AO.weaken (s' := ⟨fr [(1, .sl (.int .i64) w), (3, .bp 3 0), (15, .own 74000), (24, .int .i64 st2), (25, .sl (.int .i64) (v0_7.1.getD st2.toNat [])), (155, .own 74000), (156, .int .i64 (v0_7.1.length : Int)), (157, .int .i64 st2), (175, .bool true)], hpGet [(3, .box 24 [.int .i64 l.1, .sl (.pair (.int .i64) (.int .i64)) l.2]), (74000, .arr 25 (.sl (.int .i64)) v0_7.1)], gt⟩) (Wk.to (by (simp only [go_sem, hb2, hb10, hb12, hb14, hb16, hb18, hb20, hb23, hb25, hb39, hb43, hb45]) <;> (repeat' with_reducible apply And.intro) <;> first | assumption | rfl | omega | (unfold maxLen; omega))) ?_
                                refine AO.segF tab_ok 4 (by decide) [(1, .sl (.int .i64) w), (3, .bp 3 0), (15, .own 74000), (24, .int .i64 st2), (25, .sl (.int .i64) (v0_7.1.getD st2.toNat [])), (155, .own 74000), (156, .int .i64 (v0_7.1.length : Int)), (157, .int .i64 st2), (175, .bool true), (178, .cv (undef)), (179, .cv (undef))] [(3, .box 24 [.int .i64 l.1, .sl (.pair (.int .i64) (.int .i64)) l.2]), (74000, .arr 25 (.sl (.int .i64)) v0_7.1)] (by (simp only [go_sem, hb2, hb10, hb12, hb14, hb16, hb18, hb20, hb23, hb25, hb39, hb43, hb45]) <;> (repeat' with_reducible apply And.intro) <;> first | assumption | rfl | omega | (unfold maxLen; omega)) ?_
                                refine AO.segF tab_ok 4 (by decide) [(1, .sl (.int .i64) w), (3, .bp 3 0), (15, .own 74000), (25, .sl (.int .i64) (v0_7.1.getD st2.toNat [])), (155, .own 74000), (156, .int .i64 (v0_7.1.length : Int)), (157, .int .i64 st2), (175, .bool true), (178, .cv (undef)), (183, .cv (undef))] [(3, .box 24 [.int .i64 l.1, .sl (.pair (.int .i64) (.int .i64)) l.2]), (74000, .arr 25 (.sl (.int .i64)) v0_7.1)] (by (simp only [go_sem, hb2, hb10, hb12, hb14, hb16, hb18, hb20, hb23, hb25, hb39, hb43, hb45]) <;> (repeat' with_reducible apply And.intro) <;> first | assumption | rfl | omega | (unfold maxLen; omega)) ?_
                                refine AO.segF tab_ok 4 (by decide) [(1, .sl (.int .i64) w), (3, .bp 3 0), (15, .own 74000), (155, .own 74000), (156, .int .i64 (v0_7.1.length : Int)), (157, .int .i64 st2), (175, .bool true), (187, .cv (undef))] [(3, .box 24 [.int .i64 l.1, .sl (.pair (.int .i64) (.int .i64)) l.2]), (74000, .arr 25 (.sl (.int .i64)) v0_7.1)] (by (simp only [go_sem, hb2, hb10, hb12, hb14, hb16, hb18, hb20, hb23, hb25, hb39, hb43, hb45]) <;> (repeat' with_reducible apply And.intro) <;> first | assumption | rfl | omega | (unfold maxLen; omega)) ?_
                                refine AO.allF tab_ok (by decide) [(1, .sl (.int .i64) w), (3, .bp 3 0), (15, .own 74000), (155, .own 74000), (156, .int .i64 (v0_7.1.length : Int)), (157, .int .i64 st2), (188, .bool true)] [(3, .box 24 [.int .i64 l.1, .sl (.pair (.int .i64) (.int .i64)) l.2]), (74000, .arr 25 (.sl (.int .i64)) v0_7.1)] (by (simp only [go_sem, hb2, hb10, hb12, hb14, hb16, hb18, hb20, hb23, hb25, hb39, hb43, hb45]) <;> (repeat' with_reducible apply And.intro) <;> first | assumption | rfl | omega | (unfold maxLen; omega)) ?_
                                refine athen_n ?_
                                refine AW.cond (b := true) rfl (fun _ => ?_) (fun hb46 => by cases hb46)
                                refine AW.seq ?_
                                refine AW.ops ?_
                                refine AO.allF tab_ok (by decide) [(6, .bool false)] [] (by (simp only [go_sem, hb2, hb10, hb12, hb14, hb16, hb18, hb20, hb23, hb25, hb39, hb43, hb45]) <;> (repeat' with_reducible apply And.intro) <;> first | assumption | rfl | omega | (unfold maxLen; omega)) ?_
                                refine athen_n ?_
                                refine AW.ret ?_
                                refine ablock_r ?_
                                refine athen_r ?_
                                obtain rfl := Option.some.inj h
                                rw [← hd36 _ rfl] at ho35
                                have h := ho35
                                try simp only at h
                                refine athen_r ?_
                                refine ablock_r ?_
                                refine athen_r ?_
                                obtain rfl := Option.some.inj h
                                exact ⟨rfl, [], [], [], rfl, (by (simp only [go_sem, hb2, hb10, hb12, hb14, hb16, hb18, hb20, hb23, hb25, hb39, hb43, hb45]) <;> (repeat' with_reducible apply And.intro) <;> first | assumption | rfl | omega | (unfold maxLen; omega))⟩
                              · rw [if_neg (Bool.eq_false_iff.1 hb45)] at h
                                refine AO.weaken (s' := ⟨fr [(1, .sl (.int .i64) w), (3, .bp 3 0), (15, .own 74000), (24, .int .i64 st2), (25, .sl (.int .i64) (v0_7.1.getD st2.toNat [])), (155, .own 74000), (156, .int .i64 (v0_7.1.length : Int)), (157, .int .i64 st2), (175, .bool false)], hpGet [(3, .box 24 [.int .i64 l.1, .sl (.pair (.int .i64) (.int .i64)) l.2]), (74000, .arr 25 (.sl (.int .i64)) v0_7.1)], gt⟩) (Wk.to (by (simp only [go_sem, hb2, hb10, hb12, hb14, hb16, hb18, hb20, hb23, hb25, hb39, hb43, hb45]) <;> (repeat' with_reducible apply And.intro) <;> first | assumption | rfl | omega | (unfold maxLen; omega))) ?_
                                refine AO.segF tab_ok 3 (by decide) [(1, .sl (.int .i64) w), (3, .bp 3 0), (15, .own 74000), (24, .int .i64 st2), (25, .sl (.int .i64) (v0_7.1.getD st2.toNat [])), (155, .own 74000), (156, .int .i64 (v0_7.1.length : Int)), (157, .int .i64 st2), (175, .bool false), (178, .bool (decide (0 < st2)))] [(3, .box 24 [.int .i64 l.1, .sl (.pair (.int .i64) (.int .i64)) l.2]), (74000, .arr 25 (.sl (.int .i64)) v0_7.1)] (by (simp only [go_sem, hb2, hb10, hb12, hb14, hb16, hb18, hb20, hb23, hb25, hb39, hb43, hb45]) <;> (repeat' with_reducible apply And.intro) <;> first | assumption | rfl | omega | (unfold maxLen; omega)) ?_
                                rcases Bool.eq_false_or_eq_true (decide (0 < st2)) with hb47 | hb47
                                · rw [if_pos hb47] at h
                                  refine AO.weaken (s' := ⟨fr [(1, .sl (.int .i64) w), (3, .bp 3 0), (15, .own 74000), (24, .int .i64 st2), (25, .sl (.int .i64) (v0_7.1.getD st2.toNat [])), (155, .own 74000), (156, .int .i64 (v0_7.1.length : Int)), (157, .int .i64 st2), (175, .bool false), (178, .bool true)], hpGet [(3, .box 24 [.int .i64 l.1, .sl (.pair (.int .i64) (.int .i64)) l.2]), (74000, .arr 25 (.sl (.int .i64)) v0_7.1)], gt⟩) (Wk.to (by (simp only [go_sem, hb2, hb10, hb12, hb14, hb16, hb18, hb20, hb23, hb25, hb39, hb43, hb45, hb47]) <;> (repeat' with_reducible apply And.intro) <;> first | assumption | rfl | omega | (unfold maxLen; omega))) ?_
                                  obtain ⟨c48, h⟩ := ck_some.1 h
                                  obtain ⟨c49, h⟩ := ck_some.1 h
                                  obtain ⟨c50, h⟩ := ck_some.1 h
                                  refine AO.segF tab_ok 6 (by decide) [(1, .sl (.int .i64) w), (3, .bp 3 0), (15, .own 74000), (155, .own 74000), (156, .int .i64 (v0_7.1.length : Int)), (157, .int .i64 st2), (175, .bool false), (178, .bool true), (183, .sl (.int .i64) (v0_7.1.getD (st2 - 1).toNat [])), (184, .sl (.int .i64) (v0_7.1.getD st2.toNat []))] [(3, .box 24 [.int .i64 l.1, .sl (.pair (.int .i64) (.int .i64)) l.2]), (74000, .arr 25 (.sl (.int .i64)) v0_7.1)] (by (simp only [go_sem, hb2, hb10, hb12, hb14, hb16, hb18, hb20, hb23, hb25, hb39, hb43, hb45, hb47]) <;> (repeat' with_reducible apply And.intro) <;> first | assumption | rfl | omega | (unfold maxLen; omega)) ?_
                                  obtain ⟨v0_11, hv51, h⟩ := Option.bind_eq_some_iff.1 h
                                  refine AO.call tab_ok (by decide) rfl rfl rfl (fun _ h => ⟨fun _ => h, fun hn => absurd rfl hn⟩) [] [] (hc_lineallaw03_before (v0_7.1.getD (st2 - 1).toNat []) (v0_7.1.getD st2.toNat []) hv51) rfl (by (simp only [go_sem, hb2, hb10, hb12, hb14, hb16, hb18, hb20, hb23, hb25, hb39, hb43, hb45, hb47]) <;> (repeat' with_reducible apply And.intro) <;> first | assumption | rfl | omega | (unfold maxLen; omega)) (by (simp only [go_sem, hb2, hb10, hb12, hb14, hb16, hb18, hb20, hb23, hb25, hb39, hb43, hb45, hb47]) <;> (repeat' with_reducible apply And.intro) <;> first | assumption | rfl | omega | (unfold maxLen; omega)) [(1, .sl (.int .i64) w), (3, .bp 3 0), (15, .own 74000), (155, .own 74000), (156, .int .i64 (v0_7.1.length : Int)), (157, .int .i64 st2), (175, .bool false), (178, .bool true), (185, .bool v0_11)] [(3, .box 24 [.int .i64 l.1, .sl (.pair (.int .i64) (.int .i64)) l.2]), (74000, .arr 25 (.sl (.int .i64)) v0_7.1)] (by (simp only [go_sem, hb2, hb10, hb12, hb14, hb16, hb18, hb20, hb23, hb25, hb39, hb43, hb45, hb47]) <;> (repeat' with_reducible apply And.intro) <;> first | assumption | rfl | omega | (unfold maxLen; omega)) ?_
                                  refine AO.allF tab_ok (by decide) [(1, .sl (.int .i64) w), (3, .bp 3 0), (15, .own 74000), (155, .own 74000), (156, .int .i64 (v0_7.1.length : Int)), (157, .int .i64 st2), (188, .bool (!v0_11))] [(3, .box 24 [.int .i64 l.1, .sl (.pair (.int .i64) (.int .i64)) l.2]), (74000, .arr 25 (.sl (.int .i64)) v0_7.1)] (by (simp only [go_sem, hb2, hb10, hb12, hb14, hb16, hb18, hb20, hb23, hb25, hb39, hb43, hb45, hb47]) <;> (repeat' with_reducible apply And.intro) <;> first | assumption | rfl | omega | (unfold maxLen; omega)) ?_
                                  refine athen_n ?_
                                  refine AW.cond (b := (!v0_11)) rfl (fun hb52 => ?_) (fun hb52 => ?_)
                                  · rw [if_pos hb52] at h
                                    refine AW.seq ?_
                                    refine AW.ops ?_
                                    refine AO.allF tab_ok (by decide) [(6, .bool false)] [] (by (simp only [go_sem, hb2, hb10, hb12, hb14, hb16, hb18, hb20, hb23, hb25, hb39, hb43, hb45, hb47, hb52]) <;> (repeat' with_reducible apply And.intro) <;> first | assumption | rfl | omega | (unfold maxLen; omega)) ?_
                                    refine athen_n ?_
                                    refine AW.ret ?_
                                    refine ablock_r ?_
                                    refine athen_r ?_
                                    obtain rfl := Option.some.inj h
                                    rw [← hd36 _ rfl] at ho35
                                    have h := ho35
                                    try simp only at h
                                    refine athen_r ?_
                                    refine ablock_r ?_
                                    refine athen_r ?_
                                    obtain rfl := Option.some.inj h
                                    exact ⟨rfl, [], [], [], rfl, (by (simp only [go_sem, hb2, hb10, hb12, hb14, hb16, hb18, hb20, hb23, hb25, hb39, hb43, hb45, hb47, hb52]) <;> (repeat' with_reducible apply And.intro) <;> first | assumption | rfl | omega | (unfold maxLen; omega))⟩
                                  · rw [if_neg (Bool.eq_false_iff.1 hb52)] at h
                                    refine AW.skip ?_
                                    refine ablock_n ?_
                                    refine athen_n ?_
                                    refine AW.ops ?_
                                    obtain ⟨c53, h⟩ := ck_some.1 h
                                    refine AO.allF tab_ok (by decide) [(1, .sl (.int .i64) w), (3, .bp 3 0), (15, .own 74000), (155, .own 74000), (156, .int .i64 (v0_7.1.length : Int)), (157, .int .i64 (st2 + 1))] [(3, .box 24 [.int .i64 l.1, .sl (.pair (.int .i64) (.int .i64)) l.2]), (74000, .arr 25 (.sl (.int .i64)) v0_7.1)] (by (simp only [go_sem, hb2, hb10, hb12, hb14, hb16, hb18, hb20, hb23, hb25, hb39, hb43, hb45, hb47, hb52]) <;> (repeat' with_reducible apply And.intro) <;> first | assumption | rfl | omega | (unfold maxLen; omega)) ?_
                                    obtain rfl := Option.some.inj h
                                    exact ⟨_, rfl, Wk.le [] [] [] rfl (by (simp only [go_sem, hb2, hb10, hb12, hb14, hb16, hb18, hb20, hb23, hb25, hb39, hb43, hb45, hb47, hb52]) <;> (repeat' with_reducible apply And.intro) <;> first | assumption | rfl | omega | (unfold maxLen; omega)) (by (simp only [go_sem, hb2, hb10, hb12, hb14, hb16, hb18, hb20, hb23, hb25, hb39, hb43, hb45, hb47, hb52]) <;> (repeat' with_reducible apply And.intro) <;> first | assumption | rfl | omega | (unfold maxLen; omega))⟩
                                · rw [if_neg (Bool.eq_false_iff.1 hb47)] at h
                                  refine AO.weaken (s' := ⟨fr [(1, .sl (.int .i64) w), (3, .bp 3 0), (15, .own 74000), (24, .int .i64 st2), (25, .sl (.int .i64) (v0_7.1.getD st2.toNat [])), (155, .own 74000), (156, .int .i64 (v0_7.1.length : Int)), (157, .int .i64 st2), (175, .bool false), (178, .bool false)], hpGet [(3, .box 24 [.int .i64 l.1, .sl (.pair (.int .i64) (.int .i64)) l.2]), (74000, .arr 25 (.sl (.int .i64)) v0_7.1)], gt⟩) (Wk.to (by (simp only [go_sem, hb2, hb10, hb12, hb14, hb16, hb18, hb20, hb23, hb25, hb39, hb43, hb45, hb47]) <;> (repeat' with_reducible apply And.intro) <;> first | assumption | rfl | omega | (unfold maxLen; omega))) ?_
                                  refine AO.segF tab_ok 4 (by decide) [(1, .sl (.int .i64) w), (3, .bp 3 0), (15, .own 74000), (25, .sl (.int .i64) (v0_7.1.getD st2.toNat [])), (155, .own 74000), (156, .int .i64 (v0_7.1.length : Int)), (157, .int .i64 st2), (175, .bool false), (178, .bool false), (182, .cv (undef))] [(3, .box 24 [.int .i64 l.1, .sl (.pair (.int .i64) (.int .i64)) l.2]), (74000, .arr 25 (.sl (.int .i64)) v0_7.1)] (by (simp only [go_sem, hb2, hb10, hb12, hb14, hb16, hb18, hb20, hb23, hb25, hb39, hb43, hb45, hb47]) <;> (repeat' with_reducible apply And.intro) <;> first | assumption | rfl | omega | (unfold maxLen; omega)) ?_
                                  refine AO.segF tab_ok 4 (by decide) [(1, .sl (.int .i64) w), (3, .bp 3 0), (15, .own 74000), (155, .own 74000), (156, .int .i64 (v0_7.1.length : Int)), (157, .int .i64 st2), (175, .bool false), (178, .bool false), (186, .cv (undef))] [(3, .box 24 [.int .i64 l.1, .sl (.pair (.int .i64) (.int .i64)) l.2]), (74000, .arr 25 (.sl (.int .i64)) v0_7.1)] (by (simp only [go_sem, hb2, hb10, hb12, hb14, hb16, hb18, hb20, hb23, hb25, hb39, hb43, hb45, hb47]) <;> (repeat' with_reducible apply And.intro) <;> first | assumption | rfl | omega | (unfold maxLen; omega)) ?_
                                  refine AO.allF tab_ok (by decide) [(1, .sl (.int .i64) w), (3, .bp 3 0), (15, .own 74000), (155, .own 74000), (156, .int .i64 (v0_7.1.length : Int)), (157, .int .i64 st2), (188, .bool false)] [(3, .box 24 [.int .i64 l.1, .sl (.pair (.int .i64) (.int .i64)) l.2]), (74000, .arr 25 (.sl (.int .i64)) v0_7.1)] (by (simp only [go_sem, hb2, hb10, hb12, hb14, hb16, hb18, hb20, hb23, hb25, hb39, hb43, hb45, hb47]) <;> (repeat' with_reducible apply And.intro) <;> first | assumption | rfl | omega | (unfold maxLen; omega)) ?_
                                  refine athen_n ?_
                                  refine AW.cond (b := false) rfl (fun hb54 => by cases hb54) (fun _ => ?_)
                                  refine AW.skip ?_
                                  refine ablock_n ?_
                                  refine athen_n ?_
                                  refine AW.ops ?_
                                  obtain ⟨c55, h⟩ := ck_some.1 h
                                  refine AO.allF tab_ok (by decide) [(1, .sl (.int .i64) w), (3, .bp 3 0), (15, .own 74000), (155, .own 74000), (156, .int .i64 (v0_7.1.length : Int)), (157, .int .i64 (st2 + 1))] [(3, .box 24 [.int .i64 l.1, .sl (.pair (.int .i64) (.int .i64)) l.2]), (74000, .arr 25 (.sl (.int .i64)) v0_7.1)] (by (simp only [go_sem, hb2, hb10, hb12, hb14, hb16, hb18, hb20, hb23, hb25, hb39, hb43, hb45, hb47]) <;> (repeat' with_reducible apply And.intro) <;> first | assumption | rfl | omega | (unfold maxLen; omega)) ?_
                                  obtain rfl := Option.some.inj h
                                  exact ⟨_, rfl, Wk.le [] [] [] rfl (by (simp only [go_sem, hb2, hb10, hb12, hb14, hb16, hb18, hb20, hb23, hb25, hb39, hb43, hb45, hb47]) <;> (repeat' with_reducible apply And.intro) <;> first | assumption | rfl | omega | (unfold maxLen; omega)) (by (simp only [go_sem, hb2, hb10, hb12, hb14, hb16, hb18, hb20, hb23, hb25, hb39, hb43, hb45, hb47]) <;> (repeat' with_reducible apply And.intro) <;> first | assumption | rfl | omega | (unfold maxLen; omega))⟩
                          · rw [if_neg (Bool.eq_false_iff.1 hb39)] at h
                            refine AW.exit ?_
                            refine athen_e ?_
                            obtain rfl := Option.some.inj h
                            rw [← hd36 _ rfl] at ho35
                            have h := ho35
                            try simp only at h
                            refine athen_e ?_
                            refine ablock_s ?_
                            refine athen_n ?_
                            exact AW.weaken (Wk.le [] [] [] rfl (by (simp only [go_sem, hb2, hb10, hb12, hb14, hb16, hb18, hb20, hb23, hb25, hb39]) <;> (repeat' with_reducible apply And.intro) <;> first | assumption | rfl | omega | (unfold maxLen; omega)) (by (simp only [go_sem, hb2, hb10, hb12, hb14, hb16, hb18, hb20, hb23, hb25, hb39]) <;> (repeat' with_reducible apply And.intro) <;> first | assumption | rfl | omega | (unfold maxLen; omega))) (hk_lineallaw03_WeaveSizes_k3 () h)
                      · refine AW.seq ?_
                        refine AW.seq ?_
                        refine AW.ops ?_
                        refine AO.segF tab_ok 4 (by decide) [(1, .sl (.int .i64) w), (3, .bp 3 0), (7, .int .i64 v0_3.1), (15, .own 74000), (17, .int .i64 b1), (141, .bool (decide (0 < (w.length : Int))))] [(3, .box 24 [.int .i64 l.1, .sl (.pair (.int .i64) (.int .i64)) l.2]), (74000, .arr 25 (.sl (.int .i64)) v0_7.1)] (by (simp only [go_sem, hb2, hb10, hb12, hb14, hb16, hb18, hb20, hb23, hb25]) <;> (repeat' with_reducible apply And.intro) <;> first | assumption | rfl | omega | (unfold maxLen; omega)) ?_
                        rcases Bool.eq_false_or_eq_true (decide (0 < (w.length : Int))) with hb56 | hb56
                        · rw [if_pos hb56] at h
                          refine AO.weaken (s' := ⟨fr [(1, .sl (.int .i64) w), (3, .bp 3 0), (7, .int .i64 v0_3.1), (15, .own 74000), (17, .int .i64 b1), (141, .bool true)], hpGet [(3, .box 24 [.int .i64 l.1, .sl (.pair (.int .i64) (.int .i64)) l.2]), (74000, .arr 25 (.sl (.int .i64)) v0_7.1)], gt⟩) (Wk.to (by (simp only [go_sem, hb2, hb10, hb12, hb14, hb16, hb18, hb20, hb23, hb25, hb56]) <;> (repeat' with_reducible apply And.intro) <;> first | assumption | rfl | omega | (unfold maxLen; omega))) ?_
                          refine AO.segF tab_ok 5 (by decide) [(1, .sl (.int .i64) w), (3, .bp 3 0), (7, .int .i64 v0_3.1), (15, .own 74000), (146, .bool (!(decide (b1 = v0_3.1))))] [(3, .box 24 [.int .i64 l.1, .sl (.pair (.int .i64) (.int .i64)) l.2]), (74000, .arr 25 (.sl (.int .i64)) v0_7.1)] (by (simp only [go_sem, hb2, hb10, hb12, hb14, hb16, hb18, hb20, hb23, hb25, hb56]) <;> (repeat' with_reducible apply And.intro) <;> first | assumption | rfl | omega | (unfold maxLen; omega)) ?_
                          rcases Bool.eq_false_or_eq_true (!(decide (b1 = v0_3.1))) with hb57 | hb57
                          · rw [if_pos hb57] at h
                            refine AO.weaken (s' := ⟨fr [(1, .sl (.int .i64) w), (3, .bp 3 0), (7, .int .i64 v0_3.1), (15, .own 74000), (146, .bool true)], hpGet [(3, .box 24 [.int .i64 l.1, .sl (.pair (.int .i64) (.int .i64)) l.2]), (74000, .arr 25 (.sl (.int .i64)) v0_7.1)], gt⟩) (Wk.to (by (simp only [go_sem, hb2, hb10, hb12, hb14, hb16, hb18, hb20, hb23, hb25, hb56, hb57]) <;> (repeat' with_reducible apply And.intro) <;> first | assumption | rfl | omega | (unfold maxLen; omega))) ?_
                            refine AO.segF tab_ok 4 (by decide) [(1, .sl (.int .i64) w), (3, .bp 3 0), (7, .int .i64 v0_3.1), (15, .own 74000), (146, .bool true), (150, .cv (undef))] [(3, .box 24 [.int .i64 l.1, .sl (.pair (.int .i64) (.int .i64)) l.2]), (74000, .arr 25 (.sl (.int .i64)) v0_7.1)] (by (simp only [go_sem, hb2, hb10, hb12, hb14, hb16, hb18, hb20, hb23, hb25, hb56, hb57]) <;> (repeat' with_reducible apply And.intro) <;> first | assumption | rfl | omega | (unfold maxLen; omega)) ?_
                            refine AO.allF tab_ok (by decide) [(1, .sl (.int .i64) w), (3, .bp 3 0), (15, .own 74000), (154, .bool true)] [(3, .box 24 [.int .i64 l.1, .sl (.pair (.int .i64) (.int .i64)) l.2]), (74000, .arr 25 (.sl (.int .i64)) v0_7.1)] (by (simp only [go_sem, hb2, hb10, hb12, hb14, hb16, hb18, hb20, hb23, hb25, hb56, hb57]) <;> (repeat' with_reducible apply And.intro) <;> first | assumption | rfl | omega | (unfold maxLen; omega)) ?_
                            refine athen_n ?_
                            refine AW.cond (b := true) rfl (fun _ => ?_) (fun hb58 => by cases hb58)
                            refine AW.seq ?_
                            refine AW.ops ?_
                            refine AO.allF tab_ok (by decide) [(6, .bool false)] [] (by (simp only [go_sem, hb2, hb10, hb12, hb14, hb16, hb18, hb20, hb23, hb25, hb56, hb57]) <;> (repeat' with_reducible apply And.intro) <;> first | assumption | rfl | omega | (unfold maxLen; omega)) ?_
                            refine athen_n ?_
                            refine AW.ret ?_
                            refine athen_r ?_
                            obtain rfl := Option.some.inj h
                            exact ⟨rfl, [], [], [], rfl, (by (simp only [go_sem, hb2, hb10, hb12, hb14, hb16, hb18, hb20, hb23, hb25, hb56, hb57]) <;> (repeat' with_reducible apply And.intro) <;> first | assumption | rfl | omega | (unfold maxLen; omega))⟩
                          · rw [if_neg (Bool.eq_false_iff.1 hb57)] at h
                            refine AO.weaken (s' := ⟨fr [(1, .sl (.int .i64) w), (3, .bp 3 0), (7, .int .i64 v0_3.1), (15, .own 74000), (146, .bool false)], hpGet [(3, .box 24 [.int .i64 l.1, .sl (.pair (.int .i64) (.int .i64)) l.2]), (74000, .arr 25 (.sl (.int .i64)) v0_7.1)], gt⟩) (Wk.to (by (simp only [go_sem, hb2, hb10, hb12, hb14, hb16, hb18, hb20, hb23, hb25, hb56, hb57]) <;> (repeat' with_reducible apply And.intro) <;> first | assumption | rfl | omega | (unfold maxLen; omega))) ?_
                            refine AO.segF tab_ok 4 (by decide) [(1, .sl (.int .i64) w), (3, .bp 3 0), (7, .int .i64 v0_3.1), (15, .own 74000), (146, .bool false), (150, .bool (decide ((w.length : Int) = 0)))] [(3, .box 24 [.int .i64 l.1, .sl (.pair (.int .i64) (.int .i64)) l.2]), (74000, .arr 25 (.sl (.int .i64)) v0_7.1)] (by (simp only [go_sem, hb2, hb10, hb12, hb14, hb16, hb18, hb20, hb23, hb25, hb56, hb57]) <;> (repeat' with_reducible apply And.intro) <;> first | assumption | rfl | omega | (unfold maxLen; omega)) ?_
                            rcases Bool.eq_false_or_eq_true (decide ((w.length : Int) = 0)) with hb59 | hb59
                            · rw [if_pos hb59] at h
                              refine AO.weaken (s' := ⟨fr [(1, .sl (.int .i64) w), (3, .bp 3 0), (7, .int .i64 v0_3.1), (15, .own 74000), (146, .bool false), (150, .bool true)], hpGet [(3, .box 24 [.int .i64 l.1, .sl (.pair (.int .i64) (.int .i64)) l.2]), (74000, .arr 25 (.sl (.int .i64)) v0_7.1)], gt⟩) (Wk.to (by (simp only [go_sem, hb2, hb10, hb12, hb14, hb16, hb18, hb20, hb23, hb25, hb56, hb57, hb59]) <;> (repeat' with_reducible apply And.intro) <;> first | assumption | rfl | omega | (unfold maxLen; omega))) ?_
                              refine AO.allF tab_ok (by decide) [(1, .sl (.int .i64) w), (3, .bp 3 0), (15, .own 74000), (154, .bool (!(decide (v0_3.1 = 1))))] [(3, .box 24 [.int .i64 l.1, .sl (.pair (.int .i64) (.int .i64)) l.2]), (74000, .arr 25 (.sl (.int .i64)) v0_7.1)] (by (simp only [go_sem, hb2, hb10, hb12, hb14, hb16, hb18, hb20, hb23, hb25, hb56, hb57, hb59]) <;> (repeat' with_reducible apply And.intro) <;> first | assumption | rfl | omega | (unfold maxLen; omega)) ?_
                              refine athen_n ?_
                              refine AW.cond (b := (!(decide (v0_3.1 = 1)))) rfl (fun hb60 => ?_) (fun hb60 => ?_)
                              · rw [if_pos hb60] at h
                                refine AW.seq ?_
                                refine AW.ops ?_
                                refine AO.allF tab_ok (by decide) [(6, .bool false)] [] (by (simp only [go_sem, hb2, hb10, hb12, hb14, hb16, hb18, hb20, hb23, hb25, hb56, hb57, hb59, hb60]) <;> (repeat' with_reducible apply And.intro) <;> first | assumption | rfl | omega | (unfold maxLen; omega)) ?_
                                refine athen_n ?_
                                refine AW.ret ?_
                                refine athen_r ?_
                                obtain rfl := Option.some.inj h
                                exact ⟨rfl, [], [], [], rfl, (by (simp only [go_sem, hb2, hb10, hb12, hb14, hb16, hb18, hb20, hb23, hb25, hb56, hb57, hb59, hb60]) <;> (repeat' with_reducible apply And.intro) <;> first | assumption | rfl | omega | (unfold maxLen; omega))⟩
                              · rw [if_neg (Bool.eq_false_iff.1 hb60)] at h
                                refine AW.skip ?_
                                refine athen_n ?_
                                exact AW.weaken (Wk.le [] [] [] rfl (by (simp only [go_sem, hb2, hb10, hb12, hb14, hb16, hb18, hb20, hb23, hb25, hb56, hb57, hb59, hb60]) <;> (repeat' with_reducible apply And.intro) <;> first | assumption | rfl | omega | (unfold maxLen; omega)) (by (simp only [go_sem, hb2, hb10, hb12, hb14, hb16, hb18, hb20, hb23, hb25, hb56, hb57, hb59, hb60]) <;> (repeat' with_reducible apply And.intro) <;> first | assumption | rfl | omega | (unfold maxLen; omega))) (hk_lineallaw03_WeaveSizes_k2 () h)
                            · rw [if_neg (Bool.eq_false_iff.1 hb59)] at h
                              refine AO.weaken (s' := ⟨fr [(1, .sl (.int .i64) w), (3, .bp 3 0), (7, .int .i64 v0_3.1), (15, .own 74000), (146, .bool false), (150, .bool false)], hpGet [(3, .box 24 [.int .i64 l.1, .sl (.pair (.int .i64) (.int .i64)) l.2]), (74000, .arr 25 (.sl (.int .i64)) v0_7.1)], gt⟩) (Wk.to (by (simp only [go_sem, hb2, hb10, hb12, hb14, hb16, hb18, hb20, hb23, hb25, hb56, hb57, hb59]) <;> (repeat' with_reducible apply And.intro) <;> first | assumption | rfl | omega | (unfold maxLen; omega))) ?_
                              refine AO.allF tab_ok (by decide) [(1, .sl (.int .i64) w), (3, .bp 3 0), (15, .own 74000), (154, .bool false)] [(3, .box 24 [.int .i64 l.1, .sl (.pair (.int .i64) (.int .i64)) l.2]), (74000, .arr 25 (.sl (.int .i64)) v0_7.1)] (by (simp only [go_sem, hb2, hb10, hb12, hb14, hb16, hb18, hb20, hb23, hb25, hb56, hb57, hb59]) <;> (repeat' with_reducible apply And.intro) <;> first | assumption | rfl | omega | (unfold maxLen; omega)) ?_
                              refine athen_n ?_
                              refine AW.cond (b := false) rfl (fun hb61 => by cases hb61) (fun _ => ?_)
                              refine AW.skip ?_
                              refine athen_n ?_
                              exact AW.weaken (Wk.le [] [] [] rfl (by (simp only [go_sem, hb2, hb10, hb12, hb14, hb16, hb18, hb20, hb23, hb25, hb56, hb57, hb59]) <;> (repeat' with_reducible apply And.intro) <;> first | assumption | rfl | omega | (unfold maxLen; omega)) (by (simp only [go_sem, hb2, hb10, hb12, hb14, hb16, hb18, hb20, hb23, hb25, hb56, hb57, hb59]) <;> (repeat' with_reducible apply And.intro) <;> first | assumption | rfl | omega | (unfold maxLen; omega))) (hk_lineallaw03_WeaveSizes_k2 () h)
                        · rw [if_neg (Bool.eq_false_iff.1 hb56)] at h
                          refine AO.weaken (s' := ⟨fr [(1, .sl (.int .i64) w), (3, .bp 3 0), (7, .int .i64 v0_3.1), (15, .own 74000), (17, .int .i64 b1), (141, .bool false)], hpGet [(3, .box 24 [.int .i64 l.1, .sl (.pair (.int .i64) (.int .i64)) l.2]), (74000, .arr 25 (.sl (.int .i64)) v0_7.1)], gt⟩) (Wk.to (by (simp only [go_sem, hb2, hb10, hb12, hb14, hb16, hb18, hb20, hb23, hb25, hb56]) <;> (repeat' with_reducible apply And.intro) <;> first | assumption | rfl | omega | (unfold maxLen; omega))) ?_
                          refine AO.segF tab_ok 9 (by decide) [(1, .sl (.int .i64) w), (3, .bp 3 0), (7, .int .i64 v0_3.1), (15, .own 74000), (146, .bool false), (150, .bool (decide ((w.length : Int) = 0)))] [(3, .box 24 [.int .i64 l.1, .sl (.pair (.int .i64) (.int .i64)) l.2]), (74000, .arr 25 (.sl (.int .i64)) v0_7.1)] (by (simp only [go_sem, hb2, hb10, hb12, hb14, hb16, hb18, hb20, hb23, hb25, hb56]) <;> (repeat' with_reducible apply And.intro) <;> first | assumption | rfl | omega | (unfold maxLen; omega)) ?_
                          rcases Bool.eq_false_or_eq_true (decide ((w.length : Int) = 0)) with hb62 | hb62
                          · rw [if_pos hb62] at h
                            refine AO.weaken (s' := ⟨fr [(1, .sl (.int .i64) w), (3, .bp 3 0), (7, .int .i64 v0_3.1), (15, .own 74000), (146, .bool false), (150, .bool true)], hpGet [(3, .box 24 [.int .i64 l.1, .sl (.pair (.int .i64) (.int .i64)) l.2]), (74000, .arr 25 (.sl (.int .i64)) v0_7.1)], gt⟩) (Wk.to (by (simp only [go_sem, hb2, hb10, hb12, hb14, hb16, hb18, hb20, hb23, hb25, hb56, hb62]) <;> (repeat' with_reducible apply And.intro) <;> first | assumption | rfl | omega | (unfold maxLen; omega))) ?_
                            refine AO.allF tab_ok (by decide) [(1, .sl (.int .i64) w), (3, .bp 3 0), (15, .own 74000), (154, .bool (!(decide (v0_3.1 = 1))))] [(3, .box 24 [.int .i64 l.1, .sl (.pair (.int .i64) (.int .i64)) l.2]), (74000, .arr 25 (.sl (.int .i64)) v0_7.1)] (by (simp only [go_sem, hb2, hb10, hb12, hb14, hb16, hb18, hb20, hb23, hb25, hb56, hb62]) <;> (repeat' with_reducible apply And.intro) <;> first | assumption | rfl | omega | (unfold maxLen; omega)) ?_
                            refine athen_n ?_
                            refine AW.cond (b := (!(decide (v0_3.1 = 1)))) rfl (fun hb63 => ?_) (fun hb63 => ?_)
                            · rw [if_pos hb63] at h
                              refine AW.seq ?_
                              refine AW.ops ?_
                              refine AO.allF tab_ok (by decide) [(6, .bool false)] [] (by (simp only [go_sem, hb2, hb10, hb12, hb14, hb16, hb18, hb20, hb23, hb25, hb56, hb62, hb63]) <;> (repeat' with_reducible apply And.intro) <;> first | assumption | rfl | omega | (unfold maxLen; omega)) ?_
                              refine athen_n ?_
                              refine AW.ret ?_
                              refine athen_r ?_
                              obtain rfl := Option.some.inj h
                              exact ⟨rfl, [], [], [], rfl, (by (simp only [go_sem, hb2, hb10, hb12, hb14, hb16, hb18, hb20, hb23, hb25, hb56, hb62, hb63]) <;> (repeat' with_reducible apply And.intro) <;> first | assumption | rfl | omega | (unfold maxLen; omega))⟩
                            · rw [if_neg (Bool.eq_false_iff.1 hb63)] at h
                              refine AW.skip ?_
                              refine athen_n ?_
                              exact AW.weaken (Wk.le [] [] [] rfl (by (simp only [go_sem, hb2, hb10, hb12, hb14, hb16, hb18, hb20, hb23, hb25, hb56, hb62, hb63]) <;> (repeat' with_reducible apply And.intro) <;> first | assumption | rfl | omega | (unfold maxLen; omega)) (by (simp only [go_sem, hb2, hb10, hb12, hb14, hb16, hb18, hb20, hb23, hb25, hb56, hb62, hb63]) <;> (repeat' with_reducible apply And.intro) <;> first | assumption | rfl | omega | (unfold maxLen; omega))) (hk_lineallaw03_WeaveSizes_k2 () h)
                          · rw [if_neg (Bool.eq_false_iff.1 hb62)] at h
                            refine AO.weaken (s' := ⟨fr [(1, .sl (.int .i64) w), (3, .bp 3 0), (7, .int .i64 v0_3.1), (15, .own 74000), (146, .bool false), (150, .bool false)], hpGet [(3, .box 24 [.int .i64 l.1, .sl (.pair (.int .i64) (.int .i64)) l.2]), (74000, .arr 25 (.sl (.int .i64)) v0_7.1)], gt⟩) (Wk.to (by (simp only [go_sem, hb2, hb10, hb12, hb14, hb16, hb18, hb20, hb23, hb25, hb56, hb62]) <;> (repeat' with_reducible apply And.intro) <;> first | assumption | rfl | omega | (unfold maxLen; omega))) ?_
                            refine AO.allF tab_ok (by decide) [(1, .sl (.int .i64) w), (3, .bp 3 0), (15, .own 74000), (154, .bool false)] [(3, .box 24 [.int .i64 l.1, .sl (.pair (.int .i64) (.int .i64)) l.2]), (74000, .arr 25 (.sl (.int .i64)) v0_7.1)] (by (simp only [go_sem, hb2, hb10, hb12, hb14, hb16, hb18, hb20, hb23, hb25, hb56, hb62]) <;> (repeat' with_reducible apply And.intro) <;> first | assumption | rfl | omega | (unfold maxLen; omega)) ?_
                            refine athen_n ?_
                            refine AW.cond (b := false) rfl (fun hb64 => by cases hb64) (fun _ => ?_)
                            refine AW.skip ?_
                            refine athen_n ?_
                            exact AW.weaken (Wk.le [] [] [] rfl (by (simp only [go_sem, hb2, hb10, hb12, hb14, hb16, hb18, hb20, hb23, hb25, hb56, hb62]) <;> (repeat' with_reducible apply And.intro) <;> first | assumption | rfl | omega | (unfold maxLen; omega)) (by (simp only [go_sem, hb2, hb10, hb12, hb14, hb16, hb18, hb20, hb23, hb25, hb56, hb62]) <;> (repeat' with_reducible apply And.intro) <;> first | assumption | rfl | omega | (unfold maxLen; omega))) (hk_lineallaw03_WeaveSizes_k2 () h)
                    · refine AW.seq ?_
                      refine AW.seq ?_
                      refine AW.ops ?_
                      refine AO.allF tab_ok (by decide) [(1, .sl (.int .i64) w), (3, .bp 3 0), (7, .int .i64 v0_3.1), (15, .own 74000), (17, .int .i64 0), (108, .own 54000), (109, .int .i64 (v0_4.1.length : Int)), (110, .int .i64 0)] [(3, .box 24 [.int .i64 l.1, .sl (.pair (.int .i64) (.int .i64)) l.2]), (54000, .arr 3 (.int .i64) v0_4.1), (74000, .arr 25 (.sl (.int .i64)) v0_7.1)] (by (simp only [go_sem, hb2, hb10, hb12, hb14, hb16, hb18, hb20, hb23, hb25]) <;> (repeat' with_reducible apply And.intro) <;> first | assumption | rfl | omega | (unfold maxLen; omega)) ?_
                      refine athen_n ?_
                      refine AW.block ?_
                      obtain ⟨rv69, hw65, ho66⟩ := Option.bind_eq_some_iff.1 h
                      refine AW.loopO (lineallaw03_WeaveSizes_b1 l w v0_4) (fun st1 => ⟨fr [(1, .sl (.int .i64) w), (3, .bp 3 0), (7, .int .i64 v0_3.1), (15, .own 74000), (17, .int .i64 st1.1), (108, .own 54000), (109, .int .i64 (v0_4.1.length : Int)), (110, .int .i64 st1.2)], hpGet [(3, .box 24 [.int .i64 l.1, .sl (.pair (.int .i64) (.int .i64)) l.2]), (54000, .arr 3 (.int .i64) v0_4.1), (74000, .arr 25 (.sl (.int .i64)) v0_7.1)], gt⟩) (0, 0) hw65 (Wk.le [] [] [] rfl (by (simp only [go_sem, hb2, hb10, hb12, hb14, hb16, hb18, hb20, hb23, hb25]) <;> (repeat' with_reducible apply And.intro) <;> first | assumption | rfl | omega | (unfold maxLen; omega)) (by (simp only [go_sem, hb2, hb10, hb12, hb14, hb16, hb18, hb20, hb23, hb25]) <;> (repeat' with_reducible apply And.intro) <;> first | assumption | rfl | omega | (unfold maxLen; omega))) ?_
                      intro st1 x68 h hd67
                      unfold lineallaw03_WeaveSizes_b1 at h
                      refine AW.seq ?_
                      refine AW.ops ?_
                      refine AO.allF tab_ok (by decide) [(1, .sl (.int .i64) w), (3, .bp 3 0), (7, .int .i64 v0_3.1), (15, .own 74000), (17, .int .i64 st1.1), (108, .own 54000), (109, .int .i64 (v0_4.1.length : Int)), (110, .int .i64 st1.2), (111, .bool (decide (st1.2 < (v0_4.1.length : Int))))] [(3, .box 24 [.int .i64 l.1, .sl (.pair (.int .i64) (.int .i64)) l.2]), (54000, .arr 3 (.int .i64) v0_4.1), (74000, .arr 25 (.sl (.int .i64)) v0_7.1)] (by (simp only [go_sem, hb2, hb10, hb12, hb14, hb16, hb18, hb20, hb23, hb25]) <;> (repeat' with_reducible apply And.intro) <;> first | assumption | rfl | omega | (unfold maxLen; omega)) ?_
                      refine athen_n ?_
                      refine AW.seq ?_
                      refine AW.cond (b := (decide (st1.2 < (v0_4.1.length : Int)))) rfl (fun hb70 => ?_) (fun hb70 => ?_)
                      · rw [if_pos hb70] at h
                        refine AW.skip ?_
                        refine athen_n ?_
                        refine AW.seq ?_
                        refine AW.block ?_
                        refine AW.seq ?_
                        refine AW.ops ?_
                        obtain ⟨c71, h⟩ := ck_some.1 h
                        obtain ⟨c72, h⟩ := ck_some.1 h
                        refine AO.allF tab_ok (by decide) [(1, .sl (.int .i64) w), (3, .bp 3 0), (7, .int .i64 v0_3.1), (15, .own 74000), (17, .int .i64 st1.1), (19, .int .i64 (v0_4.1.getD st1.2.toNat 0)), (108, .own 54000), (109, .int .i64 (v0_4.1.length : Int)), (110, .int .i64 st1.2)] [(3, .box 24 [.int .i64 l.1, .sl (.pair (.int .i64) (.int .i64)) l.2]), (54000, .arr 3 (.int .i64) v0_4.1), (74000, .arr 25 (.sl (.int .i64)) v0_7.1)] (by (simp only [go_sem, hb2, hb10, hb12, hb14, hb16, hb18, hb20, hb23, hb25, hb70]) <;> (repeat' with_reducible apply And.intro) <;> first | assumption | rfl | omega | (unfold maxLen; omega)) ?_
                        refine athen_n ?_
                        refine AW.seq ?_
                        refine AW.ops ?_
                        refine AO.segF tab_ok 4 (by decide) [(1, .sl (.int .i64) w), (3, .bp 3 0), (7, .int .i64 v0_3.1), (15, .own 74000), (17, .int .i64 st1.1), (108, .own 54000), (109, .int .i64 (v0_4.1.length : Int)), (110, .int .i64 st1.2), (115, .agg [.int .i64 l.1, .sl (.pair (.int .i64) (.int .i64)) l.2]), (117, .own 117), (118, .sl (.int .i64) w)] [(3, .box 24 [.int .i64 l.1, .sl (.pair (.int .i64) (.int .i64)) l.2]), (117, .arr 3 (.int .i64) [(v0_4.1.getD st1.2.toNat 0)]), (54000, .arr 3 (.int .i64) v0_4.1), (74000, .arr 25 (.sl (.int .i64)) v0_7.1)] (by (simp only [go_sem, hb2, hb10, hb12, hb14, hb16, hb18, hb20, hb23, hb25, hb70]) <;> (repeat' with_reducible apply And.intro) <;> first | assumption | rfl | omega | (unfold maxLen; omega)) ?_
                        obtain ⟨v0_8, hv73, h⟩ := Option.bind_eq_some_iff.1 h
                        refine AO.call tab_ok (by decide) rfl rfl rfl (fun _ h => h) [117] [] (hc_weave_Rest l [(v0_4.1.getD st1.2.toNat 0)] w hv73) rfl (by (simp only [go_sem, hb2, hb10, hb12, hb14, hb16, hb18, hb20, hb23, hb25, hb70]) <;> (repeat' with_reducible apply And.intro) <;> first | assumption | rfl | omega | (unfold maxLen; omega)) (by (simp only [go_sem, hb2, hb10, hb12, hb14, hb16, hb18, hb20, hb23, hb25, hb70]) <;> (repeat' with_reducible apply And.intro) <;> first | assumption | rfl | omega | (unfold maxLen; omega)) [(1, .sl (.int .i64) w), (3, .bp 3 0), (7, .int .i64 v0_3.1), (15, .own 74000), (17, .int .i64 st1.1), (108, .own 54000), (109, .int .i64 (v0_4.1.length : Int)), (110, .int .i64 st1.2), (119, .tup [.sl (.int .i64) v0_8.1, .int .i64 v0_8.2])] [(3, .box 24 [.int .i64 l.1, .sl (.pair (.int .i64) (.int .i64)) l.2]), (54000, .arr 3 (.int .i64) v0_4.1), (74000, .arr 25 (.sl (.int .i64)) v0_7.1)] (by (simp only [go_sem, hb2, hb10, hb12, hb14, hb16, hb18, hb20, hb23, hb25, hb70]) <;> (repeat' with_reducible apply And.intro) <;> first | assumption | rfl | omega | (unfold maxLen; omega)) ?_
                        refine AO.allF tab_ok (by decide) [(1, .sl (.int .i64) w), (3, .bp 3 0), (7, .int .i64 v0_3.1), (15, .own 74000), (17, .int .i64 st1.1), (20, .sl (.int .i64) v0_8.1), (21, .int .i64 v0_8.2), (108, .own 54000), (109, .int .i64 (v0_4.1.length : Int)), (110, .int .i64 st1.2)] [(3, .box 24 [.int .i64 l.1, .sl (.pair (.int .i64) (.int .i64)) l.2]), (54000, .arr 3 (.int .i64) v0_4.1), (74000, .arr 25 (.sl (.int .i64)) v0_7.1)] (by (simp only [go_sem, hb2, hb10, hb12, hb14, hb16, hb18, hb20, hb23, hb25, hb70]) <;> (repeat' with_reducible apply And.intro) <;> first | assumption | rfl | omega | (unfold maxLen; omega)) ?_
                        refine athen_n ?_
                        refine AW.seq ?_
                        refine AW.ops ?_
                        refine AO.segF tab_ok 2 (by decide) [(1, .sl (.int .i64) w), (3, .bp 3 0), (7, .int .i64 v0_3.1), (15, .own 74000), (17, .int .i64 st1.1), (21, .int .i64 v0_8.2), (108, .own 54000), (109, .int .i64 (v0_4.1.length : Int)), (110, .int .i64 st1.2), (123, .agg [.int .i64 l.1, .sl (.pair (.int .i64) (.int .i64)) l.2]), (124, .sl (.int .i64) v0_8.1)] [(3, .box 24 [.int .i64 l.1, .sl (.pair (.int .i64) (.int .i64)) l.2]), (54000, .arr 3 (.int .i64) v0_4.1), (74000, .arr 25 (.sl (.int .i64)) v0_7.1)] (by (simp only [go_sem, hb2, hb10, hb12, hb14, hb16, hb18, hb20, hb23, hb25, hb70]) <;> (repeat' with_reducible apply And.intro) <;> first | assumption | rfl | omega | (unfold maxLen; omega)) ?_
                        obtain ⟨v0_9, hv74, h⟩ := Option.bind_eq_some_iff.1 h
                        refine AO.call tab_ok (by decide) rfl rfl rfl (fun _ h => h) [] [] (hc_weave_Size l v0_8.1 hv74) rfl (by (simp only [go_sem, hb2, hb10, hb12, hb14, hb16, hb18, hb20, hb23, hb25, hb70]) <;> (repeat' with_reducible apply And.intro) <;> first | assumption | rfl | omega | (unfold maxLen; omega)) (by (simp only [go_sem, hb2, hb10, hb12, hb14, hb16, hb18, hb20, hb23, hb25, hb70]) <;> (repeat' with_reducible apply And.intro) <;> first | assumption | rfl | omega | (unfold maxLen; omega)) [(1, .sl (.int .i64) w), (3, .bp 3 0), (7, .int .i64 v0_3.1), (15, .own 74000), (17, .int .i64 st1.1), (21, .int .i64 v0_8.2), (108, .own 54000), (109, .int .i64 (v0_4.1.length : Int)), (110, .int .i64 st1.2), (125, .tup [.int .i64 v0_9.1, .int .i64 v0_9.2])] [(3, .box 24 [.int .i64 l.1, .sl (.pair (.int .i64) (.int .i64)) l.2]), (54000, .arr 3 (.int .i64) v0_4.1), (74000, .arr 25 (.sl (.int .i64)) v0_7.1)] (by (simp only [go_sem, hb2, hb10, hb12, hb14, hb16, hb18, hb20, hb23, hb25, hb70]) <;> (repeat' with_reducible apply And.intro) <;> first | assumption | rfl | omega | (unfold maxLen; omega)) ?_
                        refine AO.allF tab_ok (by decide) [(1, .sl (.int .i64) w), (3, .bp 3 0), (7, .int .i64 v0_3.1), (15, .own 74000), (17, .int .i64 st1.1), (21, .int .i64 v0_8.2), (22, .int .i64 v0_9.1), (23, .int .i64 v0_9.2), (108, .own 54000), (109, .int .i64 (v0_4.1.length : Int)), (110, .int .i64 st1.2)] [(3, .box 24 [.int .i64 l.1, .sl (.pair (.int .i64) (.int .i64)) l.2]), (54000, .arr 3 (.int .i64) v0_4.1), (74000, .arr 25 (.sl (.int .i64)) v0_7.1)] (by (simp only [go_sem, hb2, hb10, hb12, hb14, hb16, hb18, hb20, hb23, hb25, hb70]) <;> (repeat' with_reducible apply And.intro) <;> first | assumption | rfl | omega | (unfold maxLen; omega)) ?_
                        refine athen_n ?_
                        refine AW.seq ?_
                        refine AW.seq ?_
                        refine AW.ops ?_
                        refine AO.segF tab_ok 3 (by decide) [(1, .sl (.int .i64) w), (3, .bp 3 0), (7, .int .i64 v0_3.1), (15, .own 74000), (17, .int .i64 st1.1), (22, .int .i64 v0_9.1), (23, .int .i64 v0_9.2), (108, .own 54000), (109, .int .i64 (v0_4.1.length : Int)), (110, .int .i64 st1.2), (130, .bool (!(decide (v0_8.2 = 0))))] [(3, .box 24 [.int .i64 l.1, .sl (.pair (.int .i64) (.int .i64)) l.2]), (54000, .arr 3 (.int .i64) v0_4.1), (74000, .arr 25 (.sl (.int .i64)) v0_7.1)] (by (simp only [go_sem, hb2, hb10, hb12, hb14, hb16, hb18, hb20, hb23, hb25, hb70]) <;> (repeat' with_reducible apply And.intro) <;> first | assumption | rfl | omega | (unfold maxLen; omega)) ?_
                        rcases Bool.eq_false_or_eq_true (!(decide (v0_8.2 = 0))) with hb75 | hb75
                        · rw [if_pos hb75] at h
                          refine AO.weaken (s' := ⟨fr [(1, .sl (.int .i64) w), (3, .bp 3 0), (7, .int .i64 v0_3.1), (15, .own 74000), (17, .int .i64 st1.1), (22, .int .i64 v0_9.1), (23, .int .i64 v0_9.2), (108, .own 54000), (109, .int .i64 (v0_4.1.length : Int)), (110, .int .i64 st1.2), (130, .bool true)], hpGet [(3, .box 24 [.int .i64 l.1, .sl (.pair (.int .i64) (.int .i64)) l.2]), (54000, .arr 3 (.int .i64) v0_4.1), (74000, .arr 25 (.sl (.int .i64)) v0_7.1)], gt⟩) (Wk.to (by (simp only [go_sem, hb2, hb10, hb12, hb14, hb16, hb18, hb20, hb23, hb25, hb70, hb75]) <;> (repeat' with_reducible apply And.intro) <;> first | assumption | rfl | omega | (unfold maxLen; omega))) ?_
                          refine AO.allF tab_ok (by decide) [(1, .sl (.int .i64) w), (3, .bp 3 0), (7, .int .i64 v0_3.1), (15, .own 74000), (17, .int .i64 st1.1), (22, .int .i64 v0_9.1), (108, .own 54000), (109, .int .i64 (v0_4.1.length : Int)), (110, .int .i64 st1.2), (133, .bool true)] [(3, .box 24 [.int .i64 l.1, .sl (.pair (.int .i64) (.int .i64)) l.2]), (54000, .arr 3 (.int .i64) v0_4.1), (74000, .arr 25 (.sl (.int .i64)) v0_7.1)] (by (simp only [go_sem, hb2, hb10, hb12, hb14, hb16, hb18, hb20, hb23, hb25, hb70, hb75]) <;> (repeat' with_reducible apply And.intro) <;> first | assumption | rfl | omega | (unfold maxLen; omega)) ?_
                          refine athen_n ?_
                          refine AW.cond (b := true) rfl (fun _ => ?_) (fun hb76 => by cases hb76)
                          refine AW.seq ?_
                          refine AW.ops ?_
                          refine AO.allF tab_ok (by decide) [(6, .bool false)] [] (by (simp only [go_sem, hb2, hb10, hb12, hb14, hb16, hb18, hb20, hb23, hb25, hb70, hb75]) <;> (repeat' with_reducible apply And.intro) <;> first | assumption | rfl | omega | (unfold maxLen; omega)) ?_
                          refine athen_n ?_
                          refine AW.ret ?_
                          refine athen_r ?_
                          refine ablock_r ?_
                          refine athen_r ?_
                          obtain rfl := Option.some.inj h
                          rw [← hd67 _ rfl] at ho66
                          have h := ho66
                          try simp only at h
                          refine athen_r ?_
                          refine ablock_r ?_
                          refine athen_r ?_
                          obtain rfl := Option.some.inj h
                          exact ⟨rfl, [], [], [], rfl, (by (simp only [go_sem, hb2, hb10, hb12, hb14, hb16, hb18, hb20, hb23, hb25, hb70, hb75]) <;> (repeat' with_reducible apply And.intro) <;> first | assumption | rfl | omega | (unfold maxLen; omega))⟩
                        · rw [if_neg (Bool.eq_false_iff.1 hb75)] at h
                          refine AO.weaken (s' := ⟨fr [(1, .sl (.int .i64) w), (3, .bp 3 0), (7, .int .i64 v0_3.1), (15, .own 74000), (17, .int .i64 st1.1), (22, .int .i64 v0_9.1), (23, .int .i64 v0_9.2), (108, .own 54000), (109, .int .i64 (v0_4.1.length : Int)), (110, .int .i64 st1.2), (130, .bool false)], hpGet [(3, .box 24 [.int .i64 l.1, .sl (.pair (.int .i64) (.int .i64)) l.2]), (54000, .arr 3 (.int .i64) v0_4.1), (74000, .arr 25 (.sl (.int .i64)) v0_7.1)], gt⟩) (Wk.to (by (simp only [go_sem, hb2, hb10, hb12, hb14, hb16, hb18, hb20, hb23, hb25, hb70, hb75]) <;> (repeat' with_reducible apply And.intro) <;> first | assumption | rfl | omega | (unfold maxLen; omega))) ?_
                          refine AO.allF tab_ok (by decide) [(1, .sl (.int .i64) w), (3, .bp 3 0), (7, .int .i64 v0_3.1), (15, .own 74000), (17, .int .i64 st1.1), (22, .int .i64 v0_9.1), (108, .own 54000), (109, .int .i64 (v0_4.1.length : Int)), (110, .int .i64 st1.2), (133, .bool (!(decide (v0_9.2 = 0))))] [(3, .box 24 [.int .i64 l.1, .sl (.pair (.int .i64) (.int .i64)) l.2]), (54000, .arr 3 (.int .i64) v0_4.1), (74000, .arr 25 (.sl (.int .i64)) v0_7.1)] (by (simp only [go_sem, hb2, hb10, hb12, hb14, hb16, hb18, hb20, hb23, hb25, hb70, hb75]) <;> (repeat' with_reducible apply And.intro) <;> first | assumption | rfl | omega | (unfold maxLen; omega)) ?_
                          refine athen_n ?_
                          refine AW.cond (b := (!(decide (v0_9.2 = 0)))) rfl (fun hb77 => ?_) (fun hb77 => ?_)
                          · rw [if_pos hb77] at h
                            refine AW.seq ?_
                            refine AW.ops ?_
                            refine AO.allF tab_ok (by decide) [(6, .bool false)] [] (by (simp only [go_sem, hb2, hb10, hb12, hb14, hb16, hb18, hb20, hb23, hb25, hb70, hb75, hb77]) <;> (repeat' with_reducible apply And.intro) <;> first | assumption | rfl | omega | (unfold maxLen; omega)) ?_
                            refine athen_n ?_
                            refine AW.ret ?_
                            refine athen_r ?_
                            refine ablock_r ?_
                            refine athen_r ?_
                            obtain rfl := Option.some.inj h
                            rw [← hd67 _ rfl] at ho66
                            have h := ho66
                            try simp only at h
                            refine athen_r ?_
                            refine ablock_r ?_
                            refine athen_r ?_
                            obtain rfl := Option.some.inj h
                            exact ⟨rfl, [], [], [], rfl, (by (simp only [go_sem, hb2, hb10, hb12, hb14, hb16, hb18, hb20, hb23, hb25, hb70, hb75, hb77]) <;> (repeat' with_reducible apply And.intro) <;> first | assumption | rfl | omega | (unfold maxLen; omega))⟩
                          · rw [if_neg (Bool.eq_false_iff.1 hb77)] at h
                            refine AW.skip ?_
                            refine athen_n ?_
                            refine AW.ops ?_
                            obtain ⟨c78, h⟩ := ck_some.1 h
                            refine AO.allF tab_ok (by decide) [(1, .sl (.int .i64) w), (3, .bp 3 0), (7, .int .i64 v0_3.1), (15, .own 74000), (17, .int .i64 (st1.1 + v0_9.1)), (108, .own 54000), (109, .int .i64 (v0_4.1.length : Int)), (110, .int .i64 st1.2)] [(3, .box 24 [.int .i64 l.1, .sl (.pair (.int .i64) (.int .i64)) l.2]), (54000, .arr 3 (.int .i64) v0_4.1), (74000, .arr 25 (.sl (.int .i64)) v0_7.1)] (by (simp only [go_sem, hb2, hb10, hb12, hb14, hb16, hb18, hb20, hb23, hb25, hb70, hb75, hb77]) <;> (repeat' with_reducible apply And.intro) <;> first | assumption | rfl | omega | (unfold maxLen; omega)) ?_
                            refine ablock_n ?_
                            refine athen_n ?_
                            refine AW.ops ?_
                            obtain ⟨c79, h⟩ := ck_some.1 h
                            refine AO.allF tab_ok (by decide) [(1, .sl (.int .i64) w), (3, .bp 3 0), (7, .int .i64 v0_3.1), (15, .own 74000), (17, .int .i64 (st1.1 + v0_9.1)), (108, .own 54000), (109, .int .i64 (v0_4.1.length : Int)), (110, .int .i64 (st1.2 + 1))] [(3, .box 24 [.int .i64 l.1, .sl (.pair (.int .i64) (.int .i64)) l.2]), (54000, .arr 3 (.int .i64) v0_4.1), (74000, .arr 25 (.sl (.int .i64)) v0_7.1)] (by (simp only [go_sem, hb2, hb10, hb12, hb14, hb16, hb18, hb20, hb23, hb25, hb70, hb75, hb77]) <;> (repeat' with_reducible apply And.intro) <;> first | assumption | rfl | omega | (unfold maxLen; omega)) ?_
                            obtain rfl := Option.some.inj h
                            exact ⟨_, rfl, Wk.le [] [] [] rfl (by (simp only [go_sem, hb2, hb10, hb12, hb14, hb16, hb18, hb20, hb23, hb25, hb70, hb75, hb77]) <;> (repeat' with_reducible apply And.intro) <;> first | assumption | rfl | omega | (unfold maxLen; omega)) (by (simp only [go_sem, hb2, hb10, hb12, hb14, hb16, hb18, hb20, hb23, hb25, hb70, hb75, hb77]) <;> (repeat' with_reducible apply And.intro) <;> first | assumption | rfl | omega | (unfold maxLen; omega))⟩
                      · rw [if_neg (Bool.eq_false_iff.1 hb70)] at h
                        refine AW.exit ?_
                        refine athen_e ?_
                        obtain rfl := Option.some.inj h
                        rw [← hd67 _ rfl] at ho66
                        have h := ho66
                        try simp only at h
                        refine athen_e ?_
                        refine ablock_s ?_
                        refine athen_n ?_
                        exact AW.weaken (Wk.le [] [] [] rfl (by (simp only [go_sem, hb2, hb10, hb12, hb14, hb16, hb18, hb20, hb23, hb25, hb70]) <;> (repeat' with_reducible apply And.intro) <;> first | assumption | rfl | omega | (unfold maxLen; omega)) (by (simp only [go_sem, hb2, hb10, hb12, hb14, hb16, hb18, hb20, hb23, hb25, hb70]) <;> (repeat' with_reducible apply And.intro) <;> first | assumption | rfl | omega | (unfold maxLen; omega))) (hk_lineallaw03_WeaveSizes_k1 _ h)

end Go.Proofs.Ytcijihofjcfpoab
