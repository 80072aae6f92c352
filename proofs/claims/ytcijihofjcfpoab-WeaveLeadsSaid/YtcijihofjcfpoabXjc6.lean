/-
  Made by wip/tool/dc.py out of the print of the program: contracts.
-/
import Derived.Test.YtcijihofjcfpoabWp
import Derived.Test.YtcijihofjcfpoabTb3
import Derived.Test.YtcijihofjcfpoabXjc2
import Derived.Test.YtcijihofjcfpoabXjc3
import Derived.Test.YtcijihofjcfpoabXjc4
import Derived.Test.YtcijihofjcfpoabXjc5
namespace Go.Proofs.Ytcijihofjcfpoab
open Go.RowKit

set_option linter.unusedSimpArgs false
set_option linter.unusedVariables false
set_option linter.constructorNameAsVariable false

set_option maxRecDepth 100000 in
set_option maxHeartbeats 2000000 in
theorem hc_lineallaw03_WeaveLeads (l : Int × (List (Int × Int))) (w : List Int) (path : List Int) (at0 : Int) {r : Bool} (h : lineallaw03_WeaveLeads l w path at0 = some r) : HC Try.prog 10 [] [.agg [.int .i64 l.1, .sl (.pair (.int .i64) (.int .i64)) l.2], .sl (.int .i64) w, .sl (.int .u8) path, .int .u8 at0] [] (.bool r) := by
  unfold lineallaw03_WeaveLeads at h
  refine HC.of_body tab_ok (res := [.tmp 8]) Try.func10 rfl (by kernel_rfl) rfl (nt := 170) rfl (by decide) (by simp) ?_
  refine AW.seq ?_
  refine AW.ops ?_
  refine AO.allF tab_ok (by decide) [(1, .sl (.int .i64) w), (2, .sl (.int .u8) path), (4, .bp 4 0)] [(4, .box 24 [.int .i64 l.1, .sl (.pair (.int .i64) (.int .i64)) l.2])] (by (simp only [go_sem]) <;> (repeat' with_reducible apply And.intro) <;> first | assumption | rfl | omega | (unfold maxLen; omega)) ?_
  refine athen_n ?_
  refine AW.seq ?_
  refine AW.seq ?_
  refine AW.ops ?_
  refine AO.segF tab_ok 3 (by decide) [(1, .sl (.int .i64) w), (2, .sl (.int .u8) path), (4, .bp 4 0), (26, .agg [.int .i64 l.1, .sl (.pair (.int .i64) (.int .i64)) l.2]), (28, .own 28)] [(4, .box 24 [.int .i64 l.1, .sl (.pair (.int .i64) (.int .i64)) l.2]), (28, .arr 25 (.sl (.int .i64)) [w])] (by (simp only [go_sem]) <;> (repeat' with_reducible apply And.intro) <;> first | assumption | rfl | omega | (unfold maxLen; omega)) ?_
  obtain ⟨v0, hv1, h⟩ := Option.bind_eq_some_iff.1 h
  refine AO.call tab_ok (by decide) rfl rfl rfl (fun _ h => h) [28] [] (hc_lineallaw03_valid l [w] hv1) rfl (by (simp only [go_sem]) <;> (repeat' with_reducible apply And.intro) <;> first | assumption | rfl | omega | (unfold maxLen; omega)) (by (simp only [go_sem]) <;> (repeat' with_reducible apply And.intro) <;> first | assumption | rfl | omega | (unfold maxLen; omega)) [(1, .sl (.int .i64) w), (2, .sl (.int .u8) path), (4, .bp 4 0), (29, .bool v0)] [(4, .box 24 [.int .i64 l.1, .sl (.pair (.int .i64) (.int .i64)) l.2])] (by (simp only [go_sem]) <;> (repeat' with_reducible apply And.intro) <;> first | assumption | rfl | omega | (unfold maxLen; omega)) ?_
  refine AO.segF tab_ok 2 (by decide) [(1, .sl (.int .i64) w), (2, .sl (.int .u8) path), (4, .bp 4 0), (31, .bool (!v0))] [(4, .box 24 [.int .i64 l.1, .sl (.pair (.int .i64) (.int .i64)) l.2])] (by (simp only [go_sem]) <;> (repeat' with_reducible apply And.intro) <;> first | assumption | rfl | omega | (unfold maxLen; omega)) ?_
  rcases Bool.eq_false_or_eq_true (!v0) with hb2 | hb2
  · rw [if_pos hb2] at h
    refine AO.weaken (s' := ⟨fr [(1, .sl (.int .i64) w), (2, .sl (.int .u8) path), (4, .bp 4 0), (31, .bool true)], hpGet [(4, .box 24 [.int .i64 l.1, .sl (.pair (.int .i64) (.int .i64)) l.2])], gt⟩) (Wk.to (by (simp only [go_sem, hb2]) <;> (repeat' with_reducible apply And.intro) <;> first | assumption | rfl | omega | (unfold maxLen; omega))) ?_
    refine AO.allF tab_ok (by decide) [(1, .sl (.int .i64) w), (2, .sl (.int .u8) path), (4, .bp 4 0), (35, .bool true)] [(4, .box 24 [.int .i64 l.1, .sl (.pair (.int .i64) (.int .i64)) l.2])] (by (simp only [go_sem, hb2]) <;> (repeat' with_reducible apply And.intro) <;> first | assumption | rfl | omega | (unfold maxLen; omega)) ?_
    refine athen_n ?_
    refine AW.cond (b := true) rfl (fun _ => ?_) (fun hb3 => by cases hb3)
    refine AW.seq ?_
    refine AW.ops ?_
    obtain ⟨v0_2, hv4, h⟩ := Option.bind_eq_some_iff.1 h
    refine AO.call tab_ok (by decide) rfl rfl rfl (fun _ h => h) [] [] (hc_lineallaw03_Awake hv4) rfl (by (simp only [go_sem, hb2]) <;> (repeat' with_reducible apply And.intro) <;> first | assumption | rfl | omega | (unfold maxLen; omega)) (by (simp only [go_sem, hb2]) <;> (repeat' with_reducible apply And.intro) <;> first | assumption | rfl | omega | (unfold maxLen; omega)) [(36, .bool v0_2)] [] (by (simp only [go_sem, hb2]) <;> (repeat' with_reducible apply And.intro) <;> first | assumption | rfl | omega | (unfold maxLen; omega)) ?_
    refine AO.allF tab_ok (by decide) [(8, .bool v0_2)] [] (by (simp only [go_sem, hb2]) <;> (repeat' with_reducible apply And.intro) <;> first | assumption | rfl | omega | (unfold maxLen; omega)) ?_
    refine athen_n ?_
    refine AW.ret ?_
    refine athen_r ?_
    obtain rfl := Option.some.inj h
    exact ⟨rfl, [], [], [], rfl, (by (simp only [go_sem, hb2]) <;> (repeat' with_reducible apply And.intro) <;> first | assumption | rfl | omega | (unfold maxLen; omega))⟩
  · rw [if_neg (Bool.eq_false_iff.1 hb2)] at h
    refine AO.weaken (s' := ⟨fr [(1, .sl (.int .i64) w), (2, .sl (.int .u8) path), (4, .bp 4 0), (31, .bool false)], hpGet [(4, .box 24 [.int .i64 l.1, .sl (.pair (.int .i64) (.int .i64)) l.2])], gt⟩) (Wk.to (by (simp only [go_sem, hb2]) <;> (repeat' with_reducible apply And.intro) <;> first | assumption | rfl | omega | (unfold maxLen; omega))) ?_
    refine AO.allF tab_ok (by decide) [(1, .sl (.int .i64) w), (2, .sl (.int .u8) path), (4, .bp 4 0), (35, .bool (decide (200 < (path.length : Int))))] [(4, .box 24 [.int .i64 l.1, .sl (.pair (.int .i64) (.int .i64)) l.2])] (by (simp only [go_sem, hb2]) <;> (repeat' with_reducible apply And.intro) <;> first | assumption | rfl | omega | (unfold maxLen; omega)) ?_
    refine athen_n ?_
    refine AW.cond (b := (decide (200 < (path.length : Int)))) rfl (fun hb5 => ?_) (fun hb5 => ?_)
    · rw [if_pos hb5] at h
      refine AW.seq ?_
      refine AW.ops ?_
      obtain ⟨v0_3, hv6, h⟩ := Option.bind_eq_some_iff.1 h
      refine AO.call tab_ok (by decide) rfl rfl rfl (fun _ h => h) [] [] (hc_lineallaw03_Awake hv6) rfl (by (simp only [go_sem, hb2, hb5]) <;> (repeat' with_reducible apply And.intro) <;> first | assumption | rfl | omega | (unfold maxLen; omega)) (by (simp only [go_sem, hb2, hb5]) <;> (repeat' with_reducible apply And.intro) <;> first | assumption | rfl | omega | (unfold maxLen; omega)) [(36, .bool v0_3)] [] (by (simp only [go_sem, hb2, hb5]) <;> (repeat' with_reducible apply And.intro) <;> first | assumption | rfl | omega | (unfold maxLen; omega)) ?_
      refine AO.allF tab_ok (by decide) [(8, .bool v0_3)] [] (by (simp only [go_sem, hb2, hb5]) <;> (repeat' with_reducible apply And.intro) <;> first | assumption | rfl | omega | (unfold maxLen; omega)) ?_
      refine athen_n ?_
      refine AW.ret ?_
      refine athen_r ?_
      obtain rfl := Option.some.inj h
      exact ⟨rfl, [], [], [], rfl, (by (simp only [go_sem, hb2, hb5]) <;> (repeat' with_reducible apply And.intro) <;> first | assumption | rfl | omega | (unfold maxLen; omega))⟩
    · rw [if_neg (Bool.eq_false_iff.1 hb5)] at h
      refine AW.skip ?_
      refine athen_n ?_
      refine AW.seq ?_
      refine AW.ops ?_
      obtain ⟨c7, h⟩ := ck_some.1 h
      refine AO.allF tab_ok (by decide) [(1, .sl (.int .i64) w), (2, .sl (.int .u8) path), (4, .bp 4 0), (9, .own 39)] [(4, .box 24 [.int .i64 l.1, .sl (.pair (.int .i64) (.int .i64)) l.2]), (39, .arr 3 (.int .i64) w)] (by (simp only [go_sem, hb2, hb5]) <;> (repeat' with_reducible apply And.intro) <;> first | assumption | rfl | omega | (unfold maxLen; omega)) ?_
      refine athen_n ?_
      refine AW.seq ?_
      refine AW.ops ?_
      refine AO.allF tab_ok (by decide) [(1, .sl (.int .i64) w), (2, .sl (.int .u8) path), (4, .bp 4 0), (9, .own 39), (10, .cv (.slice none 0 0))] [(4, .box 24 [.int .i64 l.1, .sl (.pair (.int .i64) (.int .i64)) l.2]), (39, .arr 3 (.int .i64) w)] (by (simp only [go_sem, hb2, hb5]) <;> (repeat' with_reducible apply And.intro) <;> first | assumption | rfl | omega | (unfold maxLen; omega)) ?_
      refine athen_n ?_
      refine AW.have1 (fun b1 : (List Int) × (List Int) => lineallaw03_WeaveLeads_k1 l w b1 = some r) (fun b1 => ⟨fr [(1, .sl (.int .i64) w), (4, .bp 4 0), (9, .own 39), (10, .own 103)], hpGet [(4, .box 24 [.int .i64 l.1, .sl (.pair (.int .i64) (.int .i64)) l.2]), (39, .arr 3 (.int .i64) b1.1), (103, .arr 3 (.int .i64) b1.2)], gt⟩) (fun b1 h => ?_) (fun hk_lineallaw03_WeaveLeads_k1 => ?_)
      · unfold lineallaw03_WeaveLeads_k1 at h
        refine AW.seq ?_
        refine AW.ops ?_
        refine AO.segF tab_ok 4 (by decide) [(1, .sl (.int .i64) w), (4, .bp 4 0), (9, .own 39), (10, .own 103), (106, .agg [.int .i64 l.1, .sl (.pair (.int .i64) (.int .i64)) l.2]), (107, .sl (.int .i64) w), (108, .own 39), (109, .own 103)] [(4, .box 24 [.int .i64 l.1, .sl (.pair (.int .i64) (.int .i64)) l.2]), (39, .arr 3 (.int .i64) b1.1), (103, .arr 3 (.int .i64) b1.2)] (by (simp only [go_sem, hb2, hb5]) <;> (repeat' with_reducible apply And.intro) <;> first | assumption | rfl | omega | (unfold maxLen; omega)) ?_
        obtain ⟨v0_6, hv8, h⟩ := Option.bind_eq_some_iff.1 h
        refine AO.call tab_ok (by decide) rfl rfl rfl (fun _ h => h) [39, 103] [] (hc_weave_IsPath l w b1.1 b1.2 hv8) rfl (by (simp only [go_sem, hb2, hb5]) <;> (repeat' with_reducible apply And.intro) <;> first | assumption | rfl | omega | (unfold maxLen; omega)) (by (simp only [go_sem, hb2, hb5]) <;> (repeat' with_reducible apply And.intro) <;> first | assumption | rfl | omega | (unfold maxLen; omega)) [(1, .sl (.int .i64) w), (4, .bp 4 0), (9, .own 39), (10, .own 103), (110, .tup [.bool v0_6.1, .int .i64 v0_6.2])] [(4, .box 24 [.int .i64 l.1, .sl (.pair (.int .i64) (.int .i64)) l.2]), (39, .arr 3 (.int .i64) b1.1), (103, .arr 3 (.int .i64) b1.2)] (by (simp only [go_sem, hb2, hb5]) <;> (repeat' with_reducible apply And.intro) <;> first | assumption | rfl | omega | (unfold maxLen; omega)) ?_
        refine AO.allF tab_ok (by decide) [(1, .sl (.int .i64) w), (4, .bp 4 0), (9, .own 39), (10, .own 103), (18, .bool v0_6.1), (19, .int .i64 v0_6.2)] [(4, .box 24 [.int .i64 l.1, .sl (.pair (.int .i64) (.int .i64)) l.2]), (39, .arr 3 (.int .i64) b1.1), (103, .arr 3 (.int .i64) b1.2)] (by (simp only [go_sem, hb2, hb5]) <;> (repeat' with_reducible apply And.intro) <;> first | assumption | rfl | omega | (unfold maxLen; omega)) ?_
        refine athen_n ?_
        refine AW.seq ?_
        refine AW.ops ?_
        refine AO.segF tab_ok 3 (by decide) [(1, .sl (.int .i64) w), (4, .bp 4 0), (9, .own 39), (10, .own 103), (18, .bool v0_6.1), (19, .int .i64 v0_6.2), (114, .agg [.int .i64 l.1, .sl (.pair (.int .i64) (.int .i64)) l.2]), (115, .sl (.int .i64) w), (116, .own 39)] [(4, .box 24 [.int .i64 l.1, .sl (.pair (.int .i64) (.int .i64)) l.2]), (39, .arr 3 (.int .i64) b1.1), (103, .arr 3 (.int .i64) b1.2)] (by (simp only [go_sem, hb2, hb5]) <;> (repeat' with_reducible apply And.intro) <;> first | assumption | rfl | omega | (unfold maxLen; omega)) ?_
        obtain ⟨v0_7, hv9, h⟩ := Option.bind_eq_some_iff.1 h
        refine AO.call tab_ok (by decide) rfl rfl rfl (fun _ h => h) [39] [] (hc_weave_Equal l w b1.1 hv9) rfl (by (simp only [go_sem, hb2, hb5]) <;> (repeat' with_reducible apply And.intro) <;> first | assumption | rfl | omega | (unfold maxLen; omega)) (by (simp only [go_sem, hb2, hb5]) <;> (repeat' with_reducible apply And.intro) <;> first | assumption | rfl | omega | (unfold maxLen; omega)) [(1, .sl (.int .i64) w), (4, .bp 4 0), (9, .own 39), (10, .own 103), (18, .bool v0_6.1), (19, .int .i64 v0_6.2), (117, .tup [.bool v0_7.1, .int .i64 v0_7.2])] [(4, .box 24 [.int .i64 l.1, .sl (.pair (.int .i64) (.int .i64)) l.2]), (39, .arr 3 (.int .i64) b1.1), (103, .arr 3 (.int .i64) b1.2)] (by (simp only [go_sem, hb2, hb5]) <;> (repeat' with_reducible apply And.intro) <;> first | assumption | rfl | omega | (unfold maxLen; omega)) ?_
        refine AO.allF tab_ok (by decide) [(1, .sl (.int .i64) w), (4, .bp 4 0), (9, .own 39), (10, .own 103), (18, .bool v0_6.1), (19, .int .i64 v0_6.2), (20, .bool v0_7.1), (21, .int .i64 v0_7.2)] [(4, .box 24 [.int .i64 l.1, .sl (.pair (.int .i64) (.int .i64)) l.2]), (39, .arr 3 (.int .i64) b1.1), (103, .arr 3 (.int .i64) b1.2)] (by (simp only [go_sem, hb2, hb5]) <;> (repeat' with_reducible apply And.intro) <;> first | assumption | rfl | omega | (unfold maxLen; omega)) ?_
        refine athen_n ?_
        refine AW.seq ?_
        refine AW.ops ?_
        refine AO.segF tab_ok 3 (by decide) [(1, .sl (.int .i64) w), (4, .bp 4 0), (9, .own 39), (10, .own 103), (18, .bool v0_6.1), (19, .int .i64 v0_6.2), (20, .bool v0_7.1), (21, .int .i64 v0_7.2), (121, .agg [.int .i64 l.1, .sl (.pair (.int .i64) (.int .i64)) l.2]), (122, .sl (.int .i64) w), (123, .own 39)] [(4, .box 24 [.int .i64 l.1, .sl (.pair (.int .i64) (.int .i64)) l.2]), (39, .arr 3 (.int .i64) b1.1), (103, .arr 3 (.int .i64) b1.2)] (by (simp only [go_sem, hb2, hb5]) <;> (repeat' with_reducible apply And.intro) <;> first | assumption | rfl | omega | (unfold maxLen; omega)) ?_
        obtain ⟨v0_8, hv10, h⟩ := Option.bind_eq_some_iff.1 h
        refine AO.call tab_ok (by decide) rfl rfl rfl (fun _ h => h) [39] [] (hc_weave_Path l w b1.1 hv10) rfl (by (simp only [go_sem, hb2, hb5]) <;> (repeat' with_reducible apply And.intro) <;> first | assumption | rfl | omega | (unfold maxLen; omega)) (by (simp only [go_sem, hb2, hb5]) <;> (repeat' with_reducible apply And.intro) <;> first | assumption | rfl | omega | (unfold maxLen; omega)) [(1, .sl (.int .i64) w), (4, .bp 4 0), (9, .own 39), (10, .own 103), (18, .bool v0_6.1), (19, .int .i64 v0_6.2), (20, .bool v0_7.1), (21, .int .i64 v0_7.2), (124, .tup [.own 134000, .int .i64 v0_8.2])] [(4, .box 24 [.int .i64 l.1, .sl (.pair (.int .i64) (.int .i64)) l.2]), (39, .arr 3 (.int .i64) b1.1), (103, .arr 3 (.int .i64) b1.2), (134000, .arr 3 (.int .i64) v0_8.1)] (by (simp only [go_sem, hb2, hb5]) <;> (repeat' with_reducible apply And.intro) <;> first | assumption | rfl | omega | (unfold maxLen; omega)) ?_
        refine AO.allF tab_ok (by decide) [(1, .sl (.int .i64) w), (4, .bp 4 0), (9, .own 39), (10, .own 103), (18, .bool v0_6.1), (19, .int .i64 v0_6.2), (20, .bool v0_7.1), (21, .int .i64 v0_7.2), (22, .own 134000), (23, .int .i64 v0_8.2)] [(4, .box 24 [.int .i64 l.1, .sl (.pair (.int .i64) (.int .i64)) l.2]), (39, .arr 3 (.int .i64) b1.1), (103, .arr 3 (.int .i64) b1.2), (134000, .arr 3 (.int .i64) v0_8.1)] (by (simp only [go_sem, hb2, hb5]) <;> (repeat' with_reducible apply And.intro) <;> first | assumption | rfl | omega | (unfold maxLen; omega)) ?_
        refine athen_n ?_
        refine AW.seq ?_
        refine AW.ops ?_
        refine AO.segF tab_ok 4 (by decide) [(10, .own 103), (18, .bool v0_6.1), (19, .int .i64 v0_6.2), (20, .bool v0_7.1), (21, .int .i64 v0_7.2), (22, .own 134000), (23, .int .i64 v0_8.2), (128, .agg [.int .i64 l.1, .sl (.pair (.int .i64) (.int .i64)) l.2]), (129, .sl (.int .i64) w), (130, .own 39), (131, .own 134000)] [(39, .arr 3 (.int .i64) b1.1), (103, .arr 3 (.int .i64) b1.2), (134000, .arr 3 (.int .i64) v0_8.1)] (by (simp only [go_sem, hb2, hb5]) <;> (repeat' with_reducible apply And.intro) <;> first | assumption | rfl | omega | (unfold maxLen; omega)) ?_
        obtain ⟨v0_9, hv11, h⟩ := Option.bind_eq_some_iff.1 h
        refine AO.call tab_ok (by decide) rfl rfl rfl (fun _ h => h) [39, 134000] [] (hc_weave_IsPath l w b1.1 v0_8.1 hv11) rfl (by (simp only [go_sem, hb2, hb5]) <;> (repeat' with_reducible apply And.intro) <;> first | assumption | rfl | omega | (unfold maxLen; omega)) (by (simp only [go_sem, hb2, hb5]) <;> (repeat' with_reducible apply And.intro) <;> first | assumption | rfl | omega | (unfold maxLen; omega)) [(10, .own 103), (18, .bool v0_6.1), (19, .int .i64 v0_6.2), (20, .bool v0_7.1), (21, .int .i64 v0_7.2), (22, .own 134000), (23, .int .i64 v0_8.2), (132, .tup [.bool v0_9.1, .int .i64 v0_9.2])] [(103, .arr 3 (.int .i64) b1.2), (134000, .arr 3 (.int .i64) v0_8.1)] (by (simp only [go_sem, hb2, hb5]) <;> (repeat' with_reducible apply And.intro) <;> first | assumption | rfl | omega | (unfold maxLen; omega)) ?_
        refine AO.allF tab_ok (by decide) [(10, .own 103), (18, .bool v0_6.1), (19, .int .i64 v0_6.2), (20, .bool v0_7.1), (21, .int .i64 v0_7.2), (22, .own 134000), (23, .int .i64 v0_8.2), (24, .bool v0_9.1), (25, .int .i64 v0_9.2)] [(103, .arr 3 (.int .i64) b1.2), (134000, .arr 3 (.int .i64) v0_8.1)] (by (simp only [go_sem, hb2, hb5]) <;> (repeat' with_reducible apply And.intro) <;> first | assumption | rfl | omega | (unfold maxLen; omega)) ?_
        refine athen_n ?_
        refine AW.seq ?_
        refine AW.ops ?_
        refine AO.segF tab_ok 3 (by decide) [(10, .own 103), (18, .bool v0_6.1), (20, .bool v0_7.1), (21, .int .i64 v0_7.2), (22, .own 134000), (23, .int .i64 v0_8.2), (24, .bool v0_9.1), (25, .int .i64 v0_9.2), (137, .bool (decide (v0_6.2 = 0)))] [(103, .arr 3 (.int .i64) b1.2), (134000, .arr 3 (.int .i64) v0_8.1)] (by (simp only [go_sem, hb2, hb5]) <;> (repeat' with_reducible apply And.intro) <;> first | assumption | rfl | omega | (unfold maxLen; omega)) ?_
        rcases Bool.eq_false_or_eq_true (decide (v0_6.2 = 0)) with hb12 | hb12
        · rw [if_pos hb12] at h
          refine AO.weaken (s' := ⟨fr [(10, .own 103), (18, .bool v0_6.1), (20, .bool v0_7.1), (21, .int .i64 v0_7.2), (22, .own 134000), (23, .int .i64 v0_8.2), (24, .bool v0_9.1), (25, .int .i64 v0_9.2), (137, .bool true)], hpGet [(103, .arr 3 (.int .i64) b1.2), (134000, .arr 3 (.int .i64) v0_8.1)], gt⟩) (Wk.to (by (simp only [go_sem, hb2, hb5, hb12]) <;> (repeat' with_reducible apply And.intro) <;> first | assumption | rfl | omega | (unfold maxLen; omega))) ?_
          refine AO.segF tab_ok 4 (by decide) [(10, .own 103), (18, .bool v0_6.1), (20, .bool v0_7.1), (22, .own 134000), (23, .int .i64 v0_8.2), (24, .bool v0_9.1), (25, .int .i64 v0_9.2), (141, .bool (decide (v0_7.2 = 0)))] [(103, .arr 3 (.int .i64) b1.2), (134000, .arr 3 (.int .i64) v0_8.1)] (by (simp only [go_sem, hb2, hb5, hb12]) <;> (repeat' with_reducible apply And.intro) <;> first | assumption | rfl | omega | (unfold maxLen; omega)) ?_
          rcases Bool.eq_false_or_eq_true (decide (v0_7.2 = 0)) with hb13 | hb13
          · rw [if_pos hb13] at h
            refine AO.weaken (s' := ⟨fr [(10, .own 103), (18, .bool v0_6.1), (20, .bool v0_7.1), (22, .own 134000), (23, .int .i64 v0_8.2), (24, .bool v0_9.1), (25, .int .i64 v0_9.2), (141, .bool true)], hpGet [(103, .arr 3 (.int .i64) b1.2), (134000, .arr 3 (.int .i64) v0_8.1)], gt⟩) (Wk.to (by (simp only [go_sem, hb2, hb5, hb12, hb13]) <;> (repeat' with_reducible apply And.intro) <;> first | assumption | rfl | omega | (unfold maxLen; omega))) ?_
            refine AO.segF tab_ok 4 (by decide) [(10, .own 103), (18, .bool v0_6.1), (20, .bool v0_7.1), (22, .own 134000), (24, .bool v0_9.1), (25, .int .i64 v0_9.2), (145, .bool (decide (v0_8.2 = 0)))] [(103, .arr 3 (.int .i64) b1.2), (134000, .arr 3 (.int .i64) v0_8.1)] (by (simp only [go_sem, hb2, hb5, hb12, hb13]) <;> (repeat' with_reducible apply And.intro) <;> first | assumption | rfl | omega | (unfold maxLen; omega)) ?_
            rcases Bool.eq_false_or_eq_true (decide (v0_8.2 = 0)) with hb14 | hb14
            · rw [if_pos hb14] at h
              refine AO.weaken (s' := ⟨fr [(10, .own 103), (18, .bool v0_6.1), (20, .bool v0_7.1), (22, .own 134000), (24, .bool v0_9.1), (25, .int .i64 v0_9.2), (145, .bool true)], hpGet [(103, .arr 3 (.int .i64) b1.2), (134000, .arr 3 (.int .i64) v0_8.1)], gt⟩) (Wk.to (by (simp only [go_sem, hb2, hb5, hb12, hb13, hb14]) <;> (repeat' with_reducible apply And.intro) <;> first | assumption | rfl | omega | (unfold maxLen; omega))) ?_
              refine AO.segF tab_ok 4 (by decide) [(10, .own 103), (18, .bool v0_6.1), (20, .bool v0_7.1), (22, .own 134000), (24, .bool v0_9.1), (149, .bool (decide (v0_9.2 = 0)))] [(103, .arr 3 (.int .i64) b1.2), (134000, .arr 3 (.int .i64) v0_8.1)] (by (simp only [go_sem, hb2, hb5, hb12, hb13, hb14]) <;> (repeat' with_reducible apply And.intro) <;> first | assumption | rfl | omega | (unfold maxLen; omega)) ?_
              rcases Bool.eq_false_or_eq_true (decide (v0_9.2 = 0)) with hb15 | hb15
              · rw [if_pos hb15] at h
                refine AO.weaken (s' := ⟨fr [(10, .own 103), (18, .bool v0_6.1), (20, .bool v0_7.1), (22, .own 134000), (24, .bool v0_9.1), (149, .bool true)], hpGet [(103, .arr 3 (.int .i64) b1.2), (134000, .arr 3 (.int .i64) v0_8.1)], gt⟩) (Wk.to (by (simp only [go_sem, hb2, hb5, hb12, hb13, hb14, hb15]) <;> (repeat' with_reducible apply And.intro) <;> first | assumption | rfl | omega | (unfold maxLen; omega))) ?_
                refine AO.segF tab_ok 3 (by decide) [(10, .own 103), (20, .bool v0_7.1), (22, .own 134000), (24, .bool v0_9.1), (152, .bool v0_6.1)] [(103, .arr 3 (.int .i64) b1.2), (134000, .arr 3 (.int .i64) v0_8.1)] (by (simp only [go_sem, hb2, hb5, hb12, hb13, hb14, hb15]) <;> (repeat' with_reducible apply And.intro) <;> first | assumption | rfl | omega | (unfold maxLen; omega)) ?_
                rcases Bool.eq_false_or_eq_true v0_6.1 with hb16 | hb16
                · rw [if_pos hb16] at h
                  refine AO.weaken (s' := ⟨fr [(10, .own 103), (20, .bool v0_7.1), (22, .own 134000), (24, .bool v0_9.1), (152, .bool true)], hpGet [(103, .arr 3 (.int .i64) b1.2), (134000, .arr 3 (.int .i64) v0_8.1)], gt⟩) (Wk.to (by (simp only [go_sem, hb2, hb5, hb12, hb13, hb14, hb15, hb16]) <;> (repeat' with_reducible apply And.intro) <;> first | assumption | rfl | omega | (unfold maxLen; omega))) ?_
                  refine AO.segF tab_ok 3 (by decide) [(10, .own 103), (22, .own 134000), (24, .bool v0_9.1), (155, .bool v0_7.1)] [(103, .arr 3 (.int .i64) b1.2), (134000, .arr 3 (.int .i64) v0_8.1)] (by (simp only [go_sem, hb2, hb5, hb12, hb13, hb14, hb15, hb16]) <;> (repeat' with_reducible apply And.intro) <;> first | assumption | rfl | omega | (unfold maxLen; omega)) ?_
                  rcases Bool.eq_false_or_eq_true v0_7.1 with hb17 | hb17
                  · rw [if_pos hb17] at h
                    refine AO.weaken (s' := ⟨fr [(10, .own 103), (22, .own 134000), (24, .bool v0_9.1), (155, .bool true)], hpGet [(103, .arr 3 (.int .i64) b1.2), (134000, .arr 3 (.int .i64) v0_8.1)], gt⟩) (Wk.to (by (simp only [go_sem, hb2, hb5, hb12, hb13, hb14, hb15, hb16, hb17]) <;> (repeat' with_reducible apply And.intro) <;> first | assumption | rfl | omega | (unfold maxLen; omega))) ?_
                    refine AO.segF tab_ok 3 (by decide) [(10, .own 103), (22, .own 134000), (158, .bool v0_9.1)] [(103, .arr 3 (.int .i64) b1.2), (134000, .arr 3 (.int .i64) v0_8.1)] (by (simp only [go_sem, hb2, hb5, hb12, hb13, hb14, hb15, hb16, hb17]) <;> (repeat' with_reducible apply And.intro) <;> first | assumption | rfl | omega | (unfold maxLen; omega)) ?_
                    rcases Bool.eq_false_or_eq_true v0_9.1 with hb18 | hb18
                    · rw [if_pos hb18] at h
                      refine AO.weaken (s' := ⟨fr [(10, .own 103), (22, .own 134000), (158, .bool true)], hpGet [(103, .arr 3 (.int .i64) b1.2), (134000, .arr 3 (.int .i64) v0_8.1)], gt⟩) (Wk.to (by (simp only [go_sem, hb2, hb5, hb12, hb13, hb14, hb15, hb16, hb17, hb18]) <;> (repeat' with_reducible apply And.intro) <;> first | assumption | rfl | omega | (unfold maxLen; omega))) ?_
                      obtain ⟨c19, h⟩ := ck_some.1 h
                      refine AO.segF tab_ok 5 (by decide) [(158, .bool true), (163, .int .i64 ((v0_8.1.length : Int) - (b1.2.length : Int)))] [] (by (simp only [go_sem, hb2, hb5, hb12, hb13, hb14, hb15, hb16, hb17, hb18]) <;> (repeat' with_reducible apply And.intro) <;> first | assumption | rfl | omega | (unfold maxLen; omega)) ?_
                      refine AO.remT (by decide) (.inr ⟨_, _, _, rfl, rfl, rfl⟩) rfl rfl rfl (by decide) ?_
                      refine AO.weaken (s' := ⟨fr [(158, .bool true), (164, .int .i64 (Int.tmod ((v0_8.1.length : Int) - (b1.2.length : Int)) 2))], hpGet [], gt⟩) (Wk.to (by (simp only [go_sem, hb2, hb5, hb12, hb13, hb14, hb15, hb16, hb17, hb18]) <;> (repeat' with_reducible apply And.intro) <;> first | assumption | rfl | omega | (unfold maxLen; omega))) ?_
                      refine AO.segF tab_ok 3 (by decide) [(167, .bool (decide ((Int.tmod ((v0_8.1.length : Int) - (b1.2.length : Int)) 2) = 0)))] [] (by (simp only [go_sem, hb2, hb5, hb12, hb13, hb14, hb15, hb16, hb17, hb18]) <;> (repeat' with_reducible apply And.intro) <;> first | assumption | rfl | omega | (unfold maxLen; omega)) ?_
                      rcases Bool.eq_false_or_eq_true (decide ((Int.tmod ((v0_8.1.length : Int) - (b1.2.length : Int)) 2) = 0)) with hb20 | hb20
                      · rw [if_pos hb20] at h
                        refine AO.weaken (s' := ⟨fr [(167, .bool true)], hpGet [], gt⟩) (Wk.to (by (simp only [go_sem, hb2, hb5, hb12, hb13, hb14, hb15, hb16, hb17, hb18, hb20]) <;> (repeat' with_reducible apply And.intro) <;> first | assumption | rfl | omega | (unfold maxLen; omega))) ?_
                        obtain ⟨v0_10, hv21, h⟩ := Option.bind_eq_some_iff.1 h
                        refine AO.call tab_ok (by decide) rfl rfl rfl (fun _ h => ⟨fun _ => h, fun hn => absurd rfl hn⟩) [] [] (hc_lineallaw03_Awake hv21) rfl (by (simp only [go_sem, hb2, hb5, hb12, hb13, hb14, hb15, hb16, hb17, hb18, hb20]) <;> (repeat' with_reducible apply And.intro) <;> first | assumption | rfl | omega | (unfold maxLen; omega)) (by (simp only [go_sem, hb2, hb5, hb12, hb13, hb14, hb15, hb16, hb17, hb18, hb20]) <;> (repeat' with_reducible apply And.intro) <;> first | assumption | rfl | omega | (unfold maxLen; omega)) [(167, .bool true), (168, .bool v0_10)] [] (by (simp only [go_sem, hb2, hb5, hb12, hb13, hb14, hb15, hb16, hb17, hb18, hb20]) <;> (repeat' with_reducible apply And.intro) <;> first | assumption | rfl | omega | (unfold maxLen; omega)) ?_
                        refine AO.allF tab_ok (by decide) [(8, .bool v0_10)] [] (by (simp only [go_sem, hb2, hb5, hb12, hb13, hb14, hb15, hb16, hb17, hb18, hb20]) <;> (repeat' with_reducible apply And.intro) <;> first | assumption | rfl | omega | (unfold maxLen; omega)) ?_
                        refine athen_n ?_
                        refine AW.ret ?_
                        obtain rfl := Option.some.inj h
                        exact ⟨rfl, [], [], [], rfl, (by (simp only [go_sem, hb2, hb5, hb12, hb13, hb14, hb15, hb16, hb17, hb18, hb20]) <;> (repeat' with_reducible apply And.intro) <;> first | assumption | rfl | omega | (unfold maxLen; omega))⟩
                      · rw [if_neg (Bool.eq_false_iff.1 hb20)] at h
                        refine AO.weaken (s' := ⟨fr [(167, .bool false)], hpGet [], gt⟩) (Wk.to (by (simp only [go_sem, hb2, hb5, hb12, hb13, hb14, hb15, hb16, hb17, hb18, hb20]) <;> (repeat' with_reducible apply And.intro) <;> first | assumption | rfl | omega | (unfold maxLen; omega))) ?_
                        refine AO.allF tab_ok (by decide) [(8, .bool false)] [] (by (simp only [go_sem, hb2, hb5, hb12, hb13, hb14, hb15, hb16, hb17, hb18, hb20]) <;> (repeat' with_reducible apply And.intro) <;> first | assumption | rfl | omega | (unfold maxLen; omega)) ?_
                        refine athen_n ?_
                        refine AW.ret ?_
                        obtain rfl := Option.some.inj h
                        exact ⟨rfl, [], [], [], rfl, (by (simp only [go_sem, hb2, hb5, hb12, hb13, hb14, hb15, hb16, hb17, hb18, hb20]) <;> (repeat' with_reducible apply And.intro) <;> first | assumption | rfl | omega | (unfold maxLen; omega))⟩
                    · rw [if_neg (Bool.eq_false_iff.1 hb18)] at h
                      refine AO.weaken (s' := ⟨fr [(10, .own 103), (22, .own 134000), (158, .bool false)], hpGet [(103, .arr 3 (.int .i64) b1.2), (134000, .arr 3 (.int .i64) v0_8.1)], gt⟩) (Wk.to (by (simp only [go_sem, hb2, hb5, hb12, hb13, hb14, hb15, hb16, hb17, hb18]) <;> (repeat' with_reducible apply And.intro) <;> first | assumption | rfl | omega | (unfold maxLen; omega))) ?_
                      refine AO.segF tab_ok 4 (by decide) [(158, .bool false), (160, .cv (undef)), (162, .cv (undef))] [] (by (simp only [go_sem, hb2, hb5, hb12, hb13, hb14, hb15, hb16, hb17, hb18]) <;> (repeat' with_reducible apply And.intro) <;> first | assumption | rfl | omega | (unfold maxLen; omega)) ?_
                      refine AO.segF tab_ok 6 (by decide) [(167, .bool false), (168, .cv (undef))] [] (by (simp only [go_sem, hb2, hb5, hb12, hb13, hb14, hb15, hb16, hb17, hb18]) <;> (repeat' with_reducible apply And.intro) <;> first | assumption | rfl | omega | (unfold maxLen; omega)) ?_
                      refine AO.allF tab_ok (by decide) [(8, .bool false)] [] (by (simp only [go_sem, hb2, hb5, hb12, hb13, hb14, hb15, hb16, hb17, hb18]) <;> (repeat' with_reducible apply And.intro) <;> first | assumption | rfl | omega | (unfold maxLen; omega)) ?_
                      refine athen_n ?_
                      refine AW.ret ?_
                      obtain rfl := Option.some.inj h
                      exact ⟨rfl, [], [], [], rfl, (by (simp only [go_sem, hb2, hb5, hb12, hb13, hb14, hb15, hb16, hb17, hb18]) <;> (repeat' with_reducible apply And.intro) <;> first | assumption | rfl | omega | (unfold maxLen; omega))⟩
                  · rw [if_neg (Bool.eq_false_iff.1 hb17)] at h
                    refine AO.weaken (s' := ⟨fr [(10, .own 103), (22, .own 134000), (24, .bool v0_9.1), (155, .bool false)], hpGet [(103, .arr 3 (.int .i64) b1.2), (134000, .arr 3 (.int .i64) v0_8.1)], gt⟩) (Wk.to (by (simp only [go_sem, hb2, hb5, hb12, hb13, hb14, hb15, hb16, hb17]) <;> (repeat' with_reducible apply And.intro) <;> first | assumption | rfl | omega | (unfold maxLen; omega))) ?_
                    refine AO.segF tab_ok 6 (by decide) [(158, .bool false), (160, .cv (undef)), (161, .cv (undef))] [] (by (simp only [go_sem, hb2, hb5, hb12, hb13, hb14, hb15, hb16, hb17]) <;> (repeat' with_reducible apply And.intro) <;> first | assumption | rfl | omega | (unfold maxLen; omega)) ?_
                    refine AO.segF tab_ok 4 (by decide) [(158, .bool false), (165, .cv (undef))] [] (by (simp only [go_sem, hb2, hb5, hb12, hb13, hb14, hb15, hb16, hb17]) <;> (repeat' with_reducible apply And.intro) <;> first | assumption | rfl | omega | (unfold maxLen; omega)) ?_
                    refine AO.allF tab_ok (by decide) [(8, .bool false)] [] (by (simp only [go_sem, hb2, hb5, hb12, hb13, hb14, hb15, hb16, hb17]) <;> (repeat' with_reducible apply And.intro) <;> first | assumption | rfl | omega | (unfold maxLen; omega)) ?_
                    refine athen_n ?_
                    refine AW.ret ?_
                    obtain rfl := Option.some.inj h
                    exact ⟨rfl, [], [], [], rfl, (by (simp only [go_sem, hb2, hb5, hb12, hb13, hb14, hb15, hb16, hb17]) <;> (repeat' with_reducible apply And.intro) <;> first | assumption | rfl | omega | (unfold maxLen; omega))⟩
                · rw [if_neg (Bool.eq_false_iff.1 hb16)] at h
                  refine AO.weaken (s' := ⟨fr [(10, .own 103), (20, .bool v0_7.1), (22, .own 134000), (24, .bool v0_9.1), (152, .bool false)], hpGet [(103, .arr 3 (.int .i64) b1.2), (134000, .arr 3 (.int .i64) v0_8.1)], gt⟩) (Wk.to (by (simp only [go_sem, hb2, hb5, hb12, hb13, hb14, hb15, hb16]) <;> (repeat' with_reducible apply And.intro) <;> first | assumption | rfl | omega | (unfold maxLen; omega))) ?_
                  refine AO.segF tab_ok 8 (by decide) [(10, .own 103), (158, .bool false), (160, .cv (undef))] [(103, .arr 3 (.int .i64) b1.2)] (by (simp only [go_sem, hb2, hb5, hb12, hb13, hb14, hb15, hb16]) <;> (repeat' with_reducible apply And.intro) <;> first | assumption | rfl | omega | (unfold maxLen; omega)) ?_
                  refine AO.segF tab_ok 4 (by decide) [(158, .bool false), (164, .cv (undef))] [] (by (simp only [go_sem, hb2, hb5, hb12, hb13, hb14, hb15, hb16]) <;> (repeat' with_reducible apply And.intro) <;> first | assumption | rfl | omega | (unfold maxLen; omega)) ?_
                  refine AO.allF tab_ok (by decide) [(8, .bool false)] [] (by (simp only [go_sem, hb2, hb5, hb12, hb13, hb14, hb15, hb16]) <;> (repeat' with_reducible apply And.intro) <;> first | assumption | rfl | omega | (unfold maxLen; omega)) ?_
                  refine athen_n ?_
                  refine AW.ret ?_
                  obtain rfl := Option.some.inj h
                  exact ⟨rfl, [], [], [], rfl, (by (simp only [go_sem, hb2, hb5, hb12, hb13, hb14, hb15, hb16]) <;> (repeat' with_reducible apply And.intro) <;> first | assumption | rfl | omega | (unfold maxLen; omega))⟩
              · rw [if_neg (Bool.eq_false_iff.1 hb15)] at h
                refine AO.weaken (s' := ⟨fr [(10, .own 103), (18, .bool v0_6.1), (20, .bool v0_7.1), (22, .own 134000), (24, .bool v0_9.1), (149, .bool false)], hpGet [(103, .arr 3 (.int .i64) b1.2), (134000, .arr 3 (.int .i64) v0_8.1)], gt⟩) (Wk.to (by (simp only [go_sem, hb2, hb5, hb12, hb13, hb14, hb15]) <;> (repeat' with_reducible apply And.intro) <;> first | assumption | rfl | omega | (unfold maxLen; omega))) ?_
                refine AO.segF tab_ok 10 (by decide) [(10, .own 103), (158, .bool false), (159, .cv (undef))] [(103, .arr 3 (.int .i64) b1.2)] (by (simp only [go_sem, hb2, hb5, hb12, hb13, hb14, hb15]) <;> (repeat' with_reducible apply And.intro) <;> first | assumption | rfl | omega | (unfold maxLen; omega)) ?_
                refine AO.segF tab_ok 4 (by decide) [(158, .bool false), (163, .cv (undef))] [] (by (simp only [go_sem, hb2, hb5, hb12, hb13, hb14, hb15]) <;> (repeat' with_reducible apply And.intro) <;> first | assumption | rfl | omega | (unfold maxLen; omega)) ?_
                refine AO.allF tab_ok (by decide) [(8, .bool false)] [] (by (simp only [go_sem, hb2, hb5, hb12, hb13, hb14, hb15]) <;> (repeat' with_reducible apply And.intro) <;> first | assumption | rfl | omega | (unfold maxLen; omega)) ?_
                refine athen_n ?_
                refine AW.ret ?_
                obtain rfl := Option.some.inj h
                exact ⟨rfl, [], [], [], rfl, (by (simp only [go_sem, hb2, hb5, hb12, hb13, hb14, hb15]) <;> (repeat' with_reducible apply And.intro) <;> first | assumption | rfl | omega | (unfold maxLen; omega))⟩
            · rw [if_neg (Bool.eq_false_iff.1 hb14)] at h
              refine AO.weaken (s' := ⟨fr [(10, .own 103), (18, .bool v0_6.1), (20, .bool v0_7.1), (22, .own 134000), (24, .bool v0_9.1), (25, .int .i64 v0_9.2), (145, .bool false)], hpGet [(103, .arr 3 (.int .i64) b1.2), (134000, .arr 3 (.int .i64) v0_8.1)], gt⟩) (Wk.to (by (simp only [go_sem, hb2, hb5, hb12, hb13, hb14]) <;> (repeat' with_reducible apply And.intro) <;> first | assumption | rfl | omega | (unfold maxLen; omega))) ?_
              refine AO.segF tab_ok 8 (by decide) [(10, .own 103), (22, .own 134000), (24, .bool v0_9.1), (152, .bool false), (153, .cv (undef))] [(103, .arr 3 (.int .i64) b1.2), (134000, .arr 3 (.int .i64) v0_8.1)] (by (simp only [go_sem, hb2, hb5, hb12, hb13, hb14]) <;> (repeat' with_reducible apply And.intro) <;> first | assumption | rfl | omega | (unfold maxLen; omega)) ?_
              refine AO.segF tab_ok 8 (by decide) [(158, .bool false), (160, .cv (undef)), (161, .cv (undef))] [] (by (simp only [go_sem, hb2, hb5, hb12, hb13, hb14]) <;> (repeat' with_reducible apply And.intro) <;> first | assumption | rfl | omega | (unfold maxLen; omega)) ?_
              refine AO.segF tab_ok 4 (by decide) [(158, .bool false), (165, .cv (undef))] [] (by (simp only [go_sem, hb2, hb5, hb12, hb13, hb14]) <;> (repeat' with_reducible apply And.intro) <;> first | assumption | rfl | omega | (unfold maxLen; omega)) ?_
              refine AO.allF tab_ok (by decide) [(8, .bool false)] [] (by (simp only [go_sem, hb2, hb5, hb12, hb13, hb14]) <;> (repeat' with_reducible apply And.intro) <;> first | assumption | rfl | omega | (unfold maxLen; omega)) ?_
              refine athen_n ?_
              refine AW.ret ?_
              obtain rfl := Option.some.inj h
              exact ⟨rfl, [], [], [], rfl, (by (simp only [go_sem, hb2, hb5, hb12, hb13, hb14]) <;> (repeat' with_reducible apply And.intro) <;> first | assumption | rfl | omega | (unfold maxLen; omega))⟩
          · rw [if_neg (Bool.eq_false_iff.1 hb13)] at h
            refine AO.weaken (s' := ⟨fr [(10, .own 103), (18, .bool v0_6.1), (20, .bool v0_7.1), (22, .own 134000), (23, .int .i64 v0_8.2), (24, .bool v0_9.1), (25, .int .i64 v0_9.2), (141, .bool false)], hpGet [(103, .arr 3 (.int .i64) b1.2), (134000, .arr 3 (.int .i64) v0_8.1)], gt⟩) (Wk.to (by (simp only [go_sem, hb2, hb5, hb12, hb13]) <;> (repeat' with_reducible apply And.intro) <;> first | assumption | rfl | omega | (unfold maxLen; omega))) ?_
            refine AO.segF tab_ok 6 (by decide) [(10, .own 103), (18, .bool v0_6.1), (20, .bool v0_7.1), (22, .own 134000), (24, .bool v0_9.1), (145, .bool false), (147, .cv (undef))] [(103, .arr 3 (.int .i64) b1.2), (134000, .arr 3 (.int .i64) v0_8.1)] (by (simp only [go_sem, hb2, hb5, hb12, hb13]) <;> (repeat' with_reducible apply And.intro) <;> first | assumption | rfl | omega | (unfold maxLen; omega)) ?_
            refine AO.segF tab_ok 12 (by decide) [(10, .own 103), (158, .bool false), (159, .cv (undef))] [(103, .arr 3 (.int .i64) b1.2)] (by (simp only [go_sem, hb2, hb5, hb12, hb13]) <;> (repeat' with_reducible apply And.intro) <;> first | assumption | rfl | omega | (unfold maxLen; omega)) ?_
            refine AO.segF tab_ok 4 (by decide) [(158, .bool false), (163, .cv (undef))] [] (by (simp only [go_sem, hb2, hb5, hb12, hb13]) <;> (repeat' with_reducible apply And.intro) <;> first | assumption | rfl | omega | (unfold maxLen; omega)) ?_
            refine AO.allF tab_ok (by decide) [(8, .bool false)] [] (by (simp only [go_sem, hb2, hb5, hb12, hb13]) <;> (repeat' with_reducible apply And.intro) <;> first | assumption | rfl | omega | (unfold maxLen; omega)) ?_
            refine athen_n ?_
            refine AW.ret ?_
            obtain rfl := Option.some.inj h
            exact ⟨rfl, [], [], [], rfl, (by (simp only [go_sem, hb2, hb5, hb12, hb13]) <;> (repeat' with_reducible apply And.intro) <;> first | assumption | rfl | omega | (unfold maxLen; omega))⟩
        · rw [if_neg (Bool.eq_false_iff.1 hb12)] at h
          refine AO.weaken (s' := ⟨fr [(10, .own 103), (18, .bool v0_6.1), (20, .bool v0_7.1), (21, .int .i64 v0_7.2), (22, .own 134000), (23, .int .i64 v0_8.2), (24, .bool v0_9.1), (25, .int .i64 v0_9.2), (137, .bool false)], hpGet [(103, .arr 3 (.int .i64) b1.2), (134000, .arr 3 (.int .i64) v0_8.1)], gt⟩) (Wk.to (by (simp only [go_sem, hb2, hb5, hb12]) <;> (repeat' with_reducible apply And.intro) <;> first | assumption | rfl | omega | (unfold maxLen; omega))) ?_
          refine AO.segF tab_ok 6 (by decide) [(10, .own 103), (18, .bool v0_6.1), (20, .bool v0_7.1), (22, .own 134000), (24, .bool v0_9.1), (25, .int .i64 v0_9.2), (141, .bool false), (143, .cv (undef))] [(103, .arr 3 (.int .i64) b1.2), (134000, .arr 3 (.int .i64) v0_8.1)] (by (simp only [go_sem, hb2, hb5, hb12]) <;> (repeat' with_reducible apply And.intro) <;> first | assumption | rfl | omega | (unfold maxLen; omega)) ?_
          refine AO.segF tab_ok 10 (by decide) [(10, .own 103), (22, .own 134000), (24, .bool v0_9.1), (152, .bool false), (153, .cv (undef))] [(103, .arr 3 (.int .i64) b1.2), (134000, .arr 3 (.int .i64) v0_8.1)] (by (simp only [go_sem, hb2, hb5, hb12]) <;> (repeat' with_reducible apply And.intro) <;> first | assumption | rfl | omega | (unfold maxLen; omega)) ?_
          refine AO.segF tab_ok 8 (by decide) [(158, .bool false), (160, .cv (undef)), (161, .cv (undef))] [] (by (simp only [go_sem, hb2, hb5, hb12]) <;> (repeat' with_reducible apply And.intro) <;> first | assumption | rfl | omega | (unfold maxLen; omega)) ?_
          refine AO.segF tab_ok 4 (by decide) [(158, .bool false), (165, .cv (undef))] [] (by (simp only [go_sem, hb2, hb5, hb12]) <;> (repeat' with_reducible apply And.intro) <;> first | assumption | rfl | omega | (unfold maxLen; omega)) ?_
          refine AO.allF tab_ok (by decide) [(8, .bool false)] [] (by (simp only [go_sem, hb2, hb5, hb12]) <;> (repeat' with_reducible apply And.intro) <;> first | assumption | rfl | omega | (unfold maxLen; omega)) ?_
          refine athen_n ?_
          refine AW.ret ?_
          obtain rfl := Option.some.inj h
          exact ⟨rfl, [], [], [], rfl, (by (simp only [go_sem, hb2, hb5, hb12]) <;> (repeat' with_reducible apply And.intro) <;> first | assumption | rfl | omega | (unfold maxLen; omega))⟩
      · refine AW.seq ?_
        refine AW.seq ?_
        refine AW.ops ?_
        refine AO.allF tab_ok (by decide) [(1, .sl (.int .i64) w), (4, .bp 4 0), (9, .own 39), (10, .cv (.slice none 0 0)), (40, .sl (.int .u8) path), (41, .int .i64 (path.length : Int)), (42, .int .i64 0)] [(4, .box 24 [.int .i64 l.1, .sl (.pair (.int .i64) (.int .i64)) l.2]), (39, .arr 3 (.int .i64) w)] (by (simp only [go_sem, hb2, hb5]) <;> (repeat' with_reducible apply And.intro) <;> first | assumption | rfl | omega | (unfold maxLen; omega)) ?_
        refine athen_n ?_
        refine AW.block ?_
        obtain ⟨rv26, hw22, ho23⟩ := Option.bind_eq_some_iff.1 h
        refine AW.loopO (lineallaw03_WeaveLeads_b1 l path) (fun st1 => ⟨fr [(1, .sl (.int .i64) w), (4, .bp 4 0), (9, .own 39), (10, .own 103), (40, .sl (.int .u8) path), (41, .int .i64 (path.length : Int)), (42, .int .i64 st1.2.2)], hpGet [(4, .box 24 [.int .i64 l.1, .sl (.pair (.int .i64) (.int .i64)) l.2]), (39, .arr 3 (.int .i64) st1.1), (103, .arr 3 (.int .i64) st1.2.1)], gt⟩) (w, [], 0) hw22 (Wk.le [] [103] [] rfl (by (simp only [go_sem, hb2, hb5]) <;> (repeat' with_reducible apply And.intro) <;> first | assumption | rfl | omega | (unfold maxLen; omega)) (by (simp only [go_sem, hb2, hb5]) <;> (repeat' with_reducible apply And.intro) <;> first | assumption | rfl | omega | (unfold maxLen; omega))) ?_
        intro st1 x25 h hd24
        unfold lineallaw03_WeaveLeads_b1 at h
        refine AW.seq ?_
        refine AW.ops ?_
        refine AO.allF tab_ok (by decide) [(1, .sl (.int .i64) w), (4, .bp 4 0), (9, .own 39), (10, .own 103), (40, .sl (.int .u8) path), (41, .int .i64 (path.length : Int)), (42, .int .i64 st1.2.2), (43, .bool (decide (st1.2.2 < (path.length : Int))))] [(4, .box 24 [.int .i64 l.1, .sl (.pair (.int .i64) (.int .i64)) l.2]), (39, .arr 3 (.int .i64) st1.1), (103, .arr 3 (.int .i64) st1.2.1)] (by (simp only [go_sem, hb2, hb5]) <;> (repeat' with_reducible apply And.intro) <;> first | assumption | rfl | omega | (unfold maxLen; omega)) ?_
        refine athen_n ?_
        refine AW.seq ?_
        refine AW.cond (b := (decide (st1.2.2 < (path.length : Int)))) rfl (fun hb27 => ?_) (fun hb27 => ?_)
        · rw [if_pos hb27] at h
          refine AW.skip ?_
          refine athen_n ?_
          refine AW.seq ?_
          refine AW.block ?_
          refine AW.seq ?_
          refine AW.ops ?_
          obtain ⟨c28, h⟩ := ck_some.1 h
          obtain ⟨c29, h⟩ := ck_some.1 h
          refine AO.allF tab_ok (by decide) [(1, .sl (.int .i64) w), (4, .bp 4 0), (9, .own 39), (10, .own 103), (12, .int .u8 (path.getD st1.2.2.toNat 0)), (40, .sl (.int .u8) path), (41, .int .i64 (path.length : Int)), (42, .int .i64 st1.2.2)] [(4, .box 24 [.int .i64 l.1, .sl (.pair (.int .i64) (.int .i64)) l.2]), (39, .arr 3 (.int .i64) st1.1), (103, .arr 3 (.int .i64) st1.2.1)] (by (simp only [go_sem, hb2, hb5, hb27]) <;> (repeat' with_reducible apply And.intro) <;> first | assumption | rfl | omega | (unfold maxLen; omega)) ?_
          refine athen_n ?_
          refine AW.seq ?_
          refine AW.seq ?_
          refine AW.ops ?_
          refine AO.allF tab_ok (by decide) [(1, .sl (.int .i64) w), (4, .bp 4 0), (9, .own 39), (10, .own 103), (12, .int .u8 (path.getD st1.2.2.toNat 0)), (40, .sl (.int .u8) path), (41, .int .i64 (path.length : Int)), (42, .int .i64 st1.2.2), (48, .bool (decide ((st1.1.length : Int) < 2)))] [(4, .box 24 [.int .i64 l.1, .sl (.pair (.int .i64) (.int .i64)) l.2]), (39, .arr 3 (.int .i64) st1.1), (103, .arr 3 (.int .i64) st1.2.1)] (by (simp only [go_sem, hb2, hb5, hb27]) <;> (repeat' with_reducible apply And.intro) <;> first | assumption | rfl | omega | (unfold maxLen; omega)) ?_
          refine athen_n ?_
          refine AW.cond (b := (decide ((st1.1.length : Int) < 2))) rfl (fun hb30 => ?_) (fun hb30 => ?_)
          · rw [if_pos hb30] at h
            refine AW.exit ?_
            refine athen_e ?_
            refine ablock_o (by decide) ?_
            refine athen_e ?_
            obtain rfl := Option.some.inj h
            rw [← hd24 _ rfl] at ho23
            have h := ho23
            try simp only at h
            refine athen_e ?_
            refine ablock_s ?_
            refine athen_n ?_
            exact AW.weaken (Wk.le [] [] [] rfl (by (simp only [go_sem, hb2, hb5, hb27, hb30]) <;> (repeat' with_reducible apply And.intro) <;> first | assumption | rfl | omega | (unfold maxLen; omega)) (by (simp only [go_sem, hb2, hb5, hb27, hb30]) <;> (repeat' with_reducible apply And.intro) <;> first | assumption | rfl | omega | (unfold maxLen; omega))) (hk_lineallaw03_WeaveLeads_k1 _ h)
          · rw [if_neg (Bool.eq_false_iff.1 hb30)] at h
            refine AW.skip ?_
            refine athen_n ?_
            refine AW.seq ?_
            refine AW.ops ?_
            obtain ⟨c31, h⟩ := ck_some.1 h
            obtain ⟨c32, h⟩ := ck_some.1 h
            obtain ⟨c33, h⟩ := ck_some.1 h
            obtain ⟨c34, h⟩ := ck_some.1 h
            refine AO.allF tab_ok (by decide) [(1, .sl (.int .i64) w), (4, .bp 4 0), (9, .own 39), (10, .own 103), (13, .int .i64 ((path.getD st1.2.2.toNat 0) % ((st1.1.length : Int) - 1))), (40, .sl (.int .u8) path), (41, .int .i64 (path.length : Int)), (42, .int .i64 st1.2.2)] [(4, .box 24 [.int .i64 l.1, .sl (.pair (.int .i64) (.int .i64)) l.2]), (39, .arr 3 (.int .i64) st1.1), (103, .arr 3 (.int .i64) st1.2.1)] (by (simp only [go_sem, hb2, hb5, hb27, hb30]) <;> (repeat' with_reducible apply And.intro) <;> first | assumption | rfl | omega | (unfold maxLen; omega)) ?_
            refine athen_n ?_
            refine AW.seq ?_
            refine AW.ops ?_
            refine AO.segF tab_ok 3 (by decide) [(1, .sl (.int .i64) w), (4, .bp 4 0), (9, .own 39), (10, .own 103), (13, .int .i64 ((path.getD st1.2.2.toNat 0) % ((st1.1.length : Int) - 1))), (40, .sl (.int .u8) path), (41, .int .i64 (path.length : Int)), (42, .int .i64 st1.2.2), (56, .agg [.int .i64 l.1, .sl (.pair (.int .i64) (.int .i64)) l.2]), (57, .own 39), (58, .int .i64 ((path.getD st1.2.2.toNat 0) % ((st1.1.length : Int) - 1)))] [(4, .box 24 [.int .i64 l.1, .sl (.pair (.int .i64) (.int .i64)) l.2]), (39, .arr 3 (.int .i64) st1.1), (103, .arr 3 (.int .i64) st1.2.1)] (by (simp only [go_sem, hb2, hb5, hb27, hb30]) <;> (repeat' with_reducible apply And.intro) <;> first | assumption | rfl | omega | (unfold maxLen; omega)) ?_
            obtain ⟨v0_4, hv35, h⟩ := Option.bind_eq_some_iff.1 h
            refine AO.call tab_ok (by decide) rfl rfl rfl (fun _ h => h) [39] [] (hc_weave_Exchanged l st1.1 ((path.getD st1.2.2.toNat 0) % ((st1.1.length : Int) - 1)) hv35) rfl (by (simp only [go_sem, hb2, hb5, hb27, hb30]) <;> (repeat' with_reducible apply And.intro) <;> first | assumption | rfl | omega | (unfold maxLen; omega)) (by (simp only [go_sem, hb2, hb5, hb27, hb30]) <;> (repeat' with_reducible apply And.intro) <;> first | assumption | rfl | omega | (unfold maxLen; omega)) [(1, .sl (.int .i64) w), (4, .bp 4 0), (9, .own 39), (10, .own 103), (13, .int .i64 ((path.getD st1.2.2.toNat 0) % ((st1.1.length : Int) - 1))), (40, .sl (.int .u8) path), (41, .int .i64 (path.length : Int)), (42, .int .i64 st1.2.2), (59, .tup [.own 69000, .int .i64 v0_4.2])] [(4, .box 24 [.int .i64 l.1, .sl (.pair (.int .i64) (.int .i64)) l.2]), (39, .arr 3 (.int .i64) st1.1), (103, .arr 3 (.int .i64) st1.2.1), (69000, .arr 3 (.int .i64) v0_4.1)] (by (simp only [go_sem, hb2, hb5, hb27, hb30]) <;> (repeat' with_reducible apply And.intro) <;> first | assumption | rfl | omega | (unfold maxLen; omega)) ?_
            refine AO.allF tab_ok (by decide) [(1, .sl (.int .i64) w), (4, .bp 4 0), (9, .own 39), (10, .own 103), (13, .int .i64 ((path.getD st1.2.2.toNat 0) % ((st1.1.length : Int) - 1))), (14, .own 69000), (15, .int .i64 v0_4.2), (40, .sl (.int .u8) path), (41, .int .i64 (path.length : Int)), (42, .int .i64 st1.2.2)] [(4, .box 24 [.int .i64 l.1, .sl (.pair (.int .i64) (.int .i64)) l.2]), (39, .arr 3 (.int .i64) st1.1), (103, .arr 3 (.int .i64) st1.2.1), (69000, .arr 3 (.int .i64) v0_4.1)] (by (simp only [go_sem, hb2, hb5, hb27, hb30]) <;> (repeat' with_reducible apply And.intro) <;> first | assumption | rfl | omega | (unfold maxLen; omega)) ?_
            refine athen_n ?_
            refine AW.seq ?_
            refine AW.draw tab_ok mixed_ok [] [] (by decide) (by kernel_rfl) ?_
            obtain ⟨c37, h⟩ := ck_some.1 h
            obtain ⟨c38, h⟩ := ck_some.1 h
            refine adops_cut 6 (fun K' hK36 => ?_)
            try dsimp only [List.drop_succ_cons, List.drop_zero, List.take_succ_cons, List.take_zero]
            simp only [go_sem, hb2, hb5, hb27, hb30]
            repeat (with_reducible refine And.intro (by first | assumption | rfl | omega | trivial | (unfold maxLen; omega)) ?_)
            refine hK36 _ ?_
            obtain ⟨c40, h⟩ := ck_some.1 h
            obtain ⟨c41, h⟩ := ck_some.1 h
            obtain ⟨c42, h⟩ := ck_some.1 h
            refine adops_cut 4 (fun K' hK39 => ?_)
            try dsimp only [List.drop_succ_cons, List.drop_zero, List.take_succ_cons, List.take_zero]
            simp only [go_sem, hb2, hb5, hb27, hb30]
            repeat (with_reducible refine And.intro (by first | assumption | rfl | omega | trivial | (unfold maxLen; omega)) ?_)
            refine hK39 _ ?_
            obtain ⟨v0_5, hv43, h⟩ := Option.bind_eq_some_iff.1 h
            refine adops.call (by first | trivial | rfl) rfl rfl rfl (fun _ h => h) [] [] (hc_weave_Depend l (st1.1.getD ((path.getD st1.2.2.toNat 0) % ((st1.1.length : Int) - 1)).toNat 0) (st1.1.getD (((path.getD st1.2.2.toNat 0) % ((st1.1.length : Int) - 1)) + 1).toNat 0) hv43) rfl (by (simp only [go_sem, hb2, hb5, hb27, hb30]) <;> (repeat' with_reducible apply And.intro) <;> first | assumption | rfl | omega | (unfold maxLen; omega)) (by (simp only [go_sem, hb2, hb5, hb27, hb30]) <;> (repeat' with_reducible apply And.intro) <;> first | assumption | rfl | omega | (unfold maxLen; omega)) rfl ?_
            refine adops_cut 5 (fun K' hK44 => ?_)
            try dsimp only [List.drop_succ_cons, List.drop_zero, List.take_succ_cons, List.take_zero]
            simp only [go_sem, hb2, hb5, hb27, hb30]
            repeat (with_reducible refine And.intro (by first | assumption | rfl | omega | trivial | (unfold maxLen; omega)) ?_)
            refine hK44 _ ?_
            refine adops_nil ?_
            refine athen_n ?_
            refine AW.weaken (s' := ⟨fr [(1, .sl (.int .i64) w), (4, .bp 4 0), (9, .own 39), (10, .own 103), (13, .int .i64 ((path.getD st1.2.2.toNat 0) % ((st1.1.length : Int) - 1))), (14, .own 69000), (15, .int .i64 v0_4.2), (16, .bool v0_5.1), (17, .int .i64 v0_5.2), (40, .sl (.int .u8) path), (41, .int .i64 (path.length : Int)), (42, .int .i64 st1.2.2)], hpGet [(4, .box 24 [.int .i64 l.1, .sl (.pair (.int .i64) (.int .i64)) l.2]), (39, .arr 3 (.int .i64) st1.1), (103, .arr 3 (.int .i64) st1.2.1), (69000, .arr 3 (.int .i64) v0_4.1)], gt⟩) (Wk.to (by (simp only [go_sem, hb2, hb5, hb27, hb30]) <;> (repeat' with_reducible apply And.intro) <;> first | assumption | rfl | omega | (unfold maxLen; omega))) ?_
            refine AW.seq ?_
            refine AW.seq ?_
            refine AW.ops ?_
            refine AO.segF tab_ok 3 (by decide) [(1, .sl (.int .i64) w), (4, .bp 4 0), (9, .own 39), (10, .own 103), (13, .int .i64 ((path.getD st1.2.2.toNat 0) % ((st1.1.length : Int) - 1))), (14, .own 69000), (15, .int .i64 v0_4.2), (16, .bool v0_5.1), (40, .sl (.int .u8) path), (41, .int .i64 (path.length : Int)), (42, .int .i64 st1.2.2), (78, .bool (!(decide (v0_5.2 = 0))))] [(4, .box 24 [.int .i64 l.1, .sl (.pair (.int .i64) (.int .i64)) l.2]), (39, .arr 3 (.int .i64) st1.1), (103, .arr 3 (.int .i64) st1.2.1), (69000, .arr 3 (.int .i64) v0_4.1)] (by (simp only [go_sem, hb2, hb5, hb27, hb30]) <;> (repeat' with_reducible apply And.intro) <;> first | assumption | rfl | omega | (unfold maxLen; omega)) ?_
            rcases Bool.eq_false_or_eq_true (!(decide (v0_5.2 = 0))) with hb45 | hb45
            · rw [if_pos hb45] at h
              refine AO.weaken (s' := ⟨fr [(1, .sl (.int .i64) w), (4, .bp 4 0), (9, .own 39), (10, .own 103), (13, .int .i64 ((path.getD st1.2.2.toNat 0) % ((st1.1.length : Int) - 1))), (14, .own 69000), (15, .int .i64 v0_4.2), (16, .bool v0_5.1), (40, .sl (.int .u8) path), (41, .int .i64 (path.length : Int)), (42, .int .i64 st1.2.2), (78, .bool true)], hpGet [(4, .box 24 [.int .i64 l.1, .sl (.pair (.int .i64) (.int .i64)) l.2]), (39, .arr 3 (.int .i64) st1.1), (103, .arr 3 (.int .i64) st1.2.1), (69000, .arr 3 (.int .i64) v0_4.1)], gt⟩) (Wk.to (by (simp only [go_sem, hb2, hb5, hb27, hb30, hb45]) <;> (repeat' with_reducible apply And.intro) <;> first | assumption | rfl | omega | (unfold maxLen; omega))) ?_
              refine AO.segF tab_ok 4 (by decide) [(1, .sl (.int .i64) w), (4, .bp 4 0), (9, .own 39), (10, .own 103), (13, .int .i64 ((path.getD st1.2.2.toNat 0) % ((st1.1.length : Int) - 1))), (14, .own 69000), (15, .int .i64 v0_4.2), (16, .bool v0_5.1), (40, .sl (.int .u8) path), (41, .int .i64 (path.length : Int)), (42, .int .i64 st1.2.2), (78, .bool true), (82, .cv (undef))] [(4, .box 24 [.int .i64 l.1, .sl (.pair (.int .i64) (.int .i64)) l.2]), (39, .arr 3 (.int .i64) st1.1), (103, .arr 3 (.int .i64) st1.2.1), (69000, .arr 3 (.int .i64) v0_4.1)] (by (simp only [go_sem, hb2, hb5, hb27, hb30, hb45]) <;> (repeat' with_reducible apply And.intro) <;> first | assumption | rfl | omega | (unfold maxLen; omega)) ?_
              refine AO.segF tab_ok 6 (by decide) [(1, .sl (.int .i64) w), (4, .bp 4 0), (9, .own 39), (10, .own 103), (13, .int .i64 ((path.getD st1.2.2.toNat 0) % ((st1.1.length : Int) - 1))), (14, .own 69000), (15, .int .i64 v0_4.2), (40, .sl (.int .u8) path), (41, .int .i64 (path.length : Int)), (42, .int .i64 st1.2.2), (84, .bool true), (87, .cv (undef)), (88, .cv (undef))] [(4, .box 24 [.int .i64 l.1, .sl (.pair (.int .i64) (.int .i64)) l.2]), (39, .arr 3 (.int .i64) st1.1), (103, .arr 3 (.int .i64) st1.2.1), (69000, .arr 3 (.int .i64) v0_4.1)] (by (simp only [go_sem, hb2, hb5, hb27, hb30, hb45]) <;> (repeat' with_reducible apply And.intro) <;> first | assumption | rfl | omega | (unfold maxLen; omega)) ?_
              refine AO.allF tab_ok (by decide) [(1, .sl (.int .i64) w), (4, .bp 4 0), (9, .own 39), (10, .own 103), (13, .int .i64 ((path.getD st1.2.2.toNat 0) % ((st1.1.length : Int) - 1))), (14, .own 69000), (15, .int .i64 v0_4.2), (40, .sl (.int .u8) path), (41, .int .i64 (path.length : Int)), (42, .int .i64 st1.2.2), (91, .bool true)] [(4, .box 24 [.int .i64 l.1, .sl (.pair (.int .i64) (.int .i64)) l.2]), (39, .arr 3 (.int .i64) st1.1), (103, .arr 3 (.int .i64) st1.2.1), (69000, .arr 3 (.int .i64) v0_4.1)] (by (simp only [go_sem, hb2, hb5, hb27, hb30, hb45]) <;> (repeat' with_reducible apply And.intro) <;> first | assumption | rfl | omega | (unfold maxLen; omega)) ?_
              refine athen_n ?_
              refine AW.cond (b := true) rfl (fun _ => ?_) (fun hb46 => by cases hb46)
              refine AW.seq ?_
              refine AW.ops ?_
              refine AO.allF tab_ok (by decide) [(8, .bool false)] [] (by (simp only [go_sem, hb2, hb5, hb27, hb30, hb45]) <;> (repeat' with_reducible apply And.intro) <;> first | assumption | rfl | omega | (unfold maxLen; omega)) ?_
              refine athen_n ?_
              refine AW.ret ?_
              refine athen_r ?_
              refine ablock_r ?_
              refine athen_r ?_
              obtain rfl := Option.some.inj h
              rw [← hd24 _ rfl] at ho23
              have h := ho23
              try simp only at h
              refine athen_r ?_
              refine ablock_r ?_
              refine athen_r ?_
              obtain rfl := Option.some.inj h
              exact ⟨rfl, [], [], [], rfl, (by (simp only [go_sem, hb2, hb5, hb27, hb30, hb45]) <;> (repeat' with_reducible apply And.intro) <;> first | assumption | rfl | omega | (unfold maxLen; omega))⟩
            · rw [if_neg (Bool.eq_false_iff.1 hb45)] at h
              refine AO.weaken (s' := ⟨fr [(1, .sl (.int .i64) w), (4, .bp 4 0), (9, .own 39), (10, .own 103), (13, .int .i64 ((path.getD st1.2.2.toNat 0) % ((st1.1.length : Int) - 1))), (14, .own 69000), (15, .int .i64 v0_4.2), (16, .bool v0_5.1), (40, .sl (.int .u8) path), (41, .int .i64 (path.length : Int)), (42, .int .i64 st1.2.2), (78, .bool false)], hpGet [(4, .box 24 [.int .i64 l.1, .sl (.pair (.int .i64) (.int .i64)) l.2]), (39, .arr 3 (.int .i64) st1.1), (103, .arr 3 (.int .i64) st1.2.1), (69000, .arr 3 (.int .i64) v0_4.1)], gt⟩) (Wk.to (by (simp only [go_sem, hb2, hb5, hb27, hb30, hb45]) <;> (repeat' with_reducible apply And.intro) <;> first | assumption | rfl | omega | (unfold maxLen; omega))) ?_
              refine AO.segF tab_ok 6 (by decide) [(1, .sl (.int .i64) w), (4, .bp 4 0), (9, .own 39), (10, .own 103), (13, .int .i64 ((path.getD st1.2.2.toNat 0) % ((st1.1.length : Int) - 1))), (14, .own 69000), (15, .int .i64 v0_4.2), (16, .bool v0_5.1), (40, .sl (.int .u8) path), (41, .int .i64 (path.length : Int)), (42, .int .i64 st1.2.2), (84, .bool ((v0_5.1 == (decide (v0_4.2 = 2))) != true))] [(4, .box 24 [.int .i64 l.1, .sl (.pair (.int .i64) (.int .i64)) l.2]), (39, .arr 3 (.int .i64) st1.1), (103, .arr 3 (.int .i64) st1.2.1), (69000, .arr 3 (.int .i64) v0_4.1)] (by (simp only [go_sem, hb2, hb5, hb27, hb30, hb45]) <;> (repeat' with_reducible apply And.intro) <;> first | assumption | rfl | omega | (unfold maxLen; omega)) ?_
              rcases Bool.eq_false_or_eq_true ((v0_5.1 == (decide (v0_4.2 = 2))) != true) with hb47 | hb47
              · rw [if_pos hb47] at h
                refine AO.weaken (s' := ⟨fr [(1, .sl (.int .i64) w), (4, .bp 4 0), (9, .own 39), (10, .own 103), (13, .int .i64 ((path.getD st1.2.2.toNat 0) % ((st1.1.length : Int) - 1))), (14, .own 69000), (15, .int .i64 v0_4.2), (16, .bool v0_5.1), (40, .sl (.int .u8) path), (41, .int .i64 (path.length : Int)), (42, .int .i64 st1.2.2), (84, .bool true)], hpGet [(4, .box 24 [.int .i64 l.1, .sl (.pair (.int .i64) (.int .i64)) l.2]), (39, .arr 3 (.int .i64) st1.1), (103, .arr 3 (.int .i64) st1.2.1), (69000, .arr 3 (.int .i64) v0_4.1)], gt⟩) (Wk.to (by (simp only [go_sem, hb2, hb5, hb27, hb30, hb45, hb47]) <;> (repeat' with_reducible apply And.intro) <;> first | assumption | rfl | omega | (unfold maxLen; omega))) ?_
                refine AO.segF tab_ok 4 (by decide) [(1, .sl (.int .i64) w), (4, .bp 4 0), (9, .own 39), (10, .own 103), (13, .int .i64 ((path.getD st1.2.2.toNat 0) % ((st1.1.length : Int) - 1))), (14, .own 69000), (15, .int .i64 v0_4.2), (40, .sl (.int .u8) path), (41, .int .i64 (path.length : Int)), (42, .int .i64 st1.2.2), (84, .bool true), (87, .cv (undef)), (88, .cv (undef))] [(4, .box 24 [.int .i64 l.1, .sl (.pair (.int .i64) (.int .i64)) l.2]), (39, .arr 3 (.int .i64) st1.1), (103, .arr 3 (.int .i64) st1.2.1), (69000, .arr 3 (.int .i64) v0_4.1)] (by (simp only [go_sem, hb2, hb5, hb27, hb30, hb45, hb47]) <;> (repeat' with_reducible apply And.intro) <;> first | assumption | rfl | omega | (unfold maxLen; omega)) ?_
                refine AO.allF tab_ok (by decide) [(1, .sl (.int .i64) w), (4, .bp 4 0), (9, .own 39), (10, .own 103), (13, .int .i64 ((path.getD st1.2.2.toNat 0) % ((st1.1.length : Int) - 1))), (14, .own 69000), (15, .int .i64 v0_4.2), (40, .sl (.int .u8) path), (41, .int .i64 (path.length : Int)), (42, .int .i64 st1.2.2), (91, .bool true)] [(4, .box 24 [.int .i64 l.1, .sl (.pair (.int .i64) (.int .i64)) l.2]), (39, .arr 3 (.int .i64) st1.1), (103, .arr 3 (.int .i64) st1.2.1), (69000, .arr 3 (.int .i64) v0_4.1)] (by (simp only [go_sem, hb2, hb5, hb27, hb30, hb45, hb47]) <;> (repeat' with_reducible apply And.intro) <;> first | assumption | rfl | omega | (unfold maxLen; omega)) ?_
                refine athen_n ?_
                refine AW.cond (b := true) rfl (fun _ => ?_) (fun hb48 => by cases hb48)
                refine AW.seq ?_
                refine AW.ops ?_
                refine AO.allF tab_ok (by decide) [(8, .bool false)] [] (by (simp only [go_sem, hb2, hb5, hb27, hb30, hb45, hb47]) <;> (repeat' with_reducible apply And.intro) <;> first | assumption | rfl | omega | (unfold maxLen; omega)) ?_
                refine athen_n ?_
                refine AW.ret ?_
                refine athen_r ?_
                refine ablock_r ?_
                refine athen_r ?_
                obtain rfl := Option.some.inj h
                rw [← hd24 _ rfl] at ho23
                have h := ho23
                try simp only at h
                refine athen_r ?_
                refine ablock_r ?_
                refine athen_r ?_
                obtain rfl := Option.some.inj h
                exact ⟨rfl, [], [], [], rfl, (by (simp only [go_sem, hb2, hb5, hb27, hb30, hb45, hb47]) <;> (repeat' with_reducible apply And.intro) <;> first | assumption | rfl | omega | (unfold maxLen; omega))⟩
              · rw [if_neg (Bool.eq_false_iff.1 hb47)] at h
                refine AO.weaken (s' := ⟨fr [(1, .sl (.int .i64) w), (4, .bp 4 0), (9, .own 39), (10, .own 103), (13, .int .i64 ((path.getD st1.2.2.toNat 0) % ((st1.1.length : Int) - 1))), (14, .own 69000), (15, .int .i64 v0_4.2), (16, .bool v0_5.1), (40, .sl (.int .u8) path), (41, .int .i64 (path.length : Int)), (42, .int .i64 st1.2.2), (84, .bool false)], hpGet [(4, .box 24 [.int .i64 l.1, .sl (.pair (.int .i64) (.int .i64)) l.2]), (39, .arr 3 (.int .i64) st1.1), (103, .arr 3 (.int .i64) st1.2.1), (69000, .arr 3 (.int .i64) v0_4.1)], gt⟩) (Wk.to (by (simp only [go_sem, hb2, hb5, hb27, hb30, hb45, hb47]) <;> (repeat' with_reducible apply And.intro) <;> first | assumption | rfl | omega | (unfold maxLen; omega))) ?_
                refine AO.segF tab_ok 3 (by decide) [(1, .sl (.int .i64) w), (4, .bp 4 0), (9, .own 39), (10, .own 103), (13, .int .i64 ((path.getD st1.2.2.toNat 0) % ((st1.1.length : Int) - 1))), (14, .own 69000), (15, .int .i64 v0_4.2), (40, .sl (.int .u8) path), (41, .int .i64 (path.length : Int)), (42, .int .i64 st1.2.2), (84, .bool false), (87, .bool (!v0_5.1))] [(4, .box 24 [.int .i64 l.1, .sl (.pair (.int .i64) (.int .i64)) l.2]), (39, .arr 3 (.int .i64) st1.1), (103, .arr 3 (.int .i64) st1.2.1), (69000, .arr 3 (.int .i64) v0_4.1)] (by (simp only [go_sem, hb2, hb5, hb27, hb30, hb45, hb47]) <;> (repeat' with_reducible apply And.intro) <;> first | assumption | rfl | omega | (unfold maxLen; omega)) ?_
                rcases Bool.eq_false_or_eq_true (!v0_5.1) with hb49 | hb49
                · rw [if_pos hb49] at h
                  refine AO.weaken (s' := ⟨fr [(1, .sl (.int .i64) w), (4, .bp 4 0), (9, .own 39), (10, .own 103), (13, .int .i64 ((path.getD st1.2.2.toNat 0) % ((st1.1.length : Int) - 1))), (14, .own 69000), (15, .int .i64 v0_4.2), (40, .sl (.int .u8) path), (41, .int .i64 (path.length : Int)), (42, .int .i64 st1.2.2), (84, .bool false), (87, .bool true)], hpGet [(4, .box 24 [.int .i64 l.1, .sl (.pair (.int .i64) (.int .i64)) l.2]), (39, .arr 3 (.int .i64) st1.1), (103, .arr 3 (.int .i64) st1.2.1), (69000, .arr 3 (.int .i64) v0_4.1)], gt⟩) (Wk.to (by (simp only [go_sem, hb2, hb5, hb27, hb30, hb45, hb47, hb49]) <;> (repeat' with_reducible apply And.intro) <;> first | assumption | rfl | omega | (unfold maxLen; omega))) ?_
                  refine AO.allF tab_ok (by decide) [(1, .sl (.int .i64) w), (4, .bp 4 0), (9, .own 39), (10, .own 103), (13, .int .i64 ((path.getD st1.2.2.toNat 0) % ((st1.1.length : Int) - 1))), (14, .own 69000), (15, .int .i64 v0_4.2), (40, .sl (.int .u8) path), (41, .int .i64 (path.length : Int)), (42, .int .i64 st1.2.2), (91, .bool (!(decide (v0_4.2 = 0))))] [(4, .box 24 [.int .i64 l.1, .sl (.pair (.int .i64) (.int .i64)) l.2]), (39, .arr 3 (.int .i64) st1.1), (103, .arr 3 (.int .i64) st1.2.1), (69000, .arr 3 (.int .i64) v0_4.1)] (by (simp only [go_sem, hb2, hb5, hb27, hb30, hb45, hb47, hb49]) <;> (repeat' with_reducible apply And.intro) <;> first | assumption | rfl | omega | (unfold maxLen; omega)) ?_
                  refine athen_n ?_
                  refine AW.cond (b := (!(decide (v0_4.2 = 0)))) rfl (fun hb50 => ?_) (fun hb50 => ?_)
                  · rw [if_pos hb50] at h
                    refine AW.seq ?_
                    refine AW.ops ?_
                    refine AO.allF tab_ok (by decide) [(8, .bool false)] [] (by (simp only [go_sem, hb2, hb5, hb27, hb30, hb45, hb47, hb49, hb50]) <;> (repeat' with_reducible apply And.intro) <;> first | assumption | rfl | omega | (unfold maxLen; omega)) ?_
                    refine athen_n ?_
                    refine AW.ret ?_
                    refine athen_r ?_
                    refine ablock_r ?_
                    refine athen_r ?_
                    obtain rfl := Option.some.inj h
                    rw [← hd24 _ rfl] at ho23
                    have h := ho23
                    try simp only at h
                    refine athen_r ?_
                    refine ablock_r ?_
                    refine athen_r ?_
                    obtain rfl := Option.some.inj h
                    exact ⟨rfl, [], [], [], rfl, (by (simp only [go_sem, hb2, hb5, hb27, hb30, hb45, hb47, hb49, hb50]) <;> (repeat' with_reducible apply And.intro) <;> first | assumption | rfl | omega | (unfold maxLen; omega))⟩
                  · rw [if_neg (Bool.eq_false_iff.1 hb50)] at h
                    refine AW.skip ?_
                    refine athen_n ?_
                    refine AW.seq ?_
                    refine AW.ops ?_
                    refine AO.allF tab_ok (by decide) [(1, .sl (.int .i64) w), (4, .bp 4 0), (9, .own 39), (10, .own 103), (13, .int .i64 ((path.getD st1.2.2.toNat 0) % ((st1.1.length : Int) - 1))), (14, .own 69000), (40, .sl (.int .u8) path), (41, .int .i64 (path.length : Int)), (42, .int .i64 st1.2.2), (93, .bool (decide (v0_4.2 = 0)))] [(4, .box 24 [.int .i64 l.1, .sl (.pair (.int .i64) (.int .i64)) l.2]), (39, .arr 3 (.int .i64) st1.1), (103, .arr 3 (.int .i64) st1.2.1), (69000, .arr 3 (.int .i64) v0_4.1)] (by (simp only [go_sem, hb2, hb5, hb27, hb30, hb45, hb47, hb49, hb50]) <;> (repeat' with_reducible apply And.intro) <;> first | assumption | rfl | omega | (unfold maxLen; omega)) ?_
                    refine athen_n ?_
                    refine AW.cond (b := (decide (v0_4.2 = 0))) rfl (fun hb51 => ?_) (fun hb51 => ?_)
                    · rw [if_pos hb51] at h
                      refine AW.seq ?_
                      refine AW.seq ?_
                      refine AW.ops ?_
                      refine AO.allF tab_ok (by decide) [(1, .sl (.int .i64) w), (4, .bp 4 0), (10, .own 103), (13, .int .i64 ((path.getD st1.2.2.toNat 0) % ((st1.1.length : Int) - 1))), (14, .own 69000), (40, .sl (.int .u8) path), (41, .int .i64 (path.length : Int)), (42, .int .i64 st1.2.2), (98, .bool (!(decide ((v0_4.1.length : Int) = (st1.1.length : Int)))))] [(4, .box 24 [.int .i64 l.1, .sl (.pair (.int .i64) (.int .i64)) l.2]), (103, .arr 3 (.int .i64) st1.2.1), (69000, .arr 3 (.int .i64) v0_4.1)] (by (simp only [go_sem, hb2, hb5, hb27, hb30, hb45, hb47, hb49, hb50, hb51]) <;> (repeat' with_reducible apply And.intro) <;> first | assumption | rfl | omega | (unfold maxLen; omega)) ?_
                      refine athen_n ?_
                      refine AW.cond (b := (!(decide ((v0_4.1.length : Int) = (st1.1.length : Int))))) rfl (fun hb52 => ?_) (fun hb52 => ?_)
                      · rw [if_pos hb52] at h
                        refine AW.seq ?_
                        refine AW.ops ?_
                        refine AO.allF tab_ok (by decide) [(8, .bool false)] [] (by (simp only [go_sem, hb2, hb5, hb27, hb30, hb45, hb47, hb49, hb50, hb51, hb52]) <;> (repeat' with_reducible apply And.intro) <;> first | assumption | rfl | omega | (unfold maxLen; omega)) ?_
                        refine athen_n ?_
                        refine AW.ret ?_
                        refine athen_r ?_
                        refine ablock_r ?_
                        refine athen_r ?_
                        obtain rfl := Option.some.inj h
                        rw [← hd24 _ rfl] at ho23
                        have h := ho23
                        try simp only at h
                        refine athen_r ?_
                        refine ablock_r ?_
                        refine athen_r ?_
                        obtain rfl := Option.some.inj h
                        exact ⟨rfl, [], [], [], rfl, (by (simp only [go_sem, hb2, hb5, hb27, hb30, hb45, hb47, hb49, hb50, hb51, hb52]) <;> (repeat' with_reducible apply And.intro) <;> first | assumption | rfl | omega | (unfold maxLen; omega))⟩
                      · rw [if_neg (Bool.eq_false_iff.1 hb52)] at h
                        refine AW.skip ?_
                        refine athen_n ?_
                        refine AW.seq ?_
                        refine AW.ops ?_
                        refine AO.allF tab_ok (by decide) [(1, .sl (.int .i64) w), (4, .bp 4 0), (9, .own 69000), (10, .own 103), (13, .int .i64 ((path.getD st1.2.2.toNat 0) % ((st1.1.length : Int) - 1))), (40, .sl (.int .u8) path), (41, .int .i64 (path.length : Int)), (42, .int .i64 st1.2.2)] [(4, .box 24 [.int .i64 l.1, .sl (.pair (.int .i64) (.int .i64)) l.2]), (103, .arr 3 (.int .i64) st1.2.1), (69000, .arr 3 (.int .i64) v0_4.1)] (by (simp only [go_sem, hb2, hb5, hb27, hb30, hb45, hb47, hb49, hb50, hb51, hb52]) <;> (repeat' with_reducible apply And.intro) <;> first | assumption | rfl | omega | (unfold maxLen; omega)) ?_
                        refine athen_n ?_
                        refine AW.ops ?_
                        obtain ⟨c53, h⟩ := ck_some.1 h
                        refine AO.allF tab_ok (by decide) [(1, .sl (.int .i64) w), (4, .bp 4 0), (9, .own 69000), (10, .own 103), (40, .sl (.int .u8) path), (41, .int .i64 (path.length : Int)), (42, .int .i64 st1.2.2)] [(4, .box 24 [.int .i64 l.1, .sl (.pair (.int .i64) (.int .i64)) l.2]), (103, .arr 3 (.int .i64) (st1.2.1 ++ [((path.getD st1.2.2.toNat 0) % ((st1.1.length : Int) - 1))])), (69000, .arr 3 (.int .i64) v0_4.1)] (by (simp only [go_sem, hb2, hb5, hb27, hb30, hb45, hb47, hb49, hb50, hb51, hb52]) <;> (repeat' with_reducible apply And.intro) <;> first | assumption | rfl | omega | (unfold maxLen; omega)) ?_
                        refine ablock_n ?_
                        refine athen_n ?_
                        refine AW.ops ?_
                        obtain ⟨c54, h⟩ := ck_some.1 h
                        refine AO.allF tab_ok (by decide) [(1, .sl (.int .i64) w), (4, .bp 4 0), (9, .own 69000), (10, .own 103), (40, .sl (.int .u8) path), (41, .int .i64 (path.length : Int)), (42, .int .i64 (st1.2.2 + 1))] [(4, .box 24 [.int .i64 l.1, .sl (.pair (.int .i64) (.int .i64)) l.2]), (103, .arr 3 (.int .i64) (st1.2.1 ++ [((path.getD st1.2.2.toNat 0) % ((st1.1.length : Int) - 1))])), (69000, .arr 3 (.int .i64) v0_4.1)] (by (simp only [go_sem, hb2, hb5, hb27, hb30, hb45, hb47, hb49, hb50, hb51, hb52]) <;> (repeat' with_reducible apply And.intro) <;> first | assumption | rfl | omega | (unfold maxLen; omega)) ?_
                        obtain rfl := Option.some.inj h
                        exact ⟨_, rfl, Wk.le [] [] [(39, 69000)] rfl (by (simp only [go_sem, hb2, hb5, hb27, hb30, hb45, hb47, hb49, hb50, hb51, hb52]) <;> (repeat' with_reducible apply And.intro) <;> first | assumption | rfl | omega | (unfold maxLen; omega)) (by (simp only [go_sem, hb2, hb5, hb27, hb30, hb45, hb47, hb49, hb50, hb51, hb52]) <;> (repeat' with_reducible apply And.intro) <;> first | assumption | rfl | omega | (unfold maxLen; omega))⟩
                    · rw [if_neg (Bool.eq_false_iff.1 hb51)] at h
                      refine AW.skip ?_
                      refine ablock_n ?_
                      refine athen_n ?_
                      refine AW.ops ?_
                      obtain ⟨c55, h⟩ := ck_some.1 h
                      refine AO.allF tab_ok (by decide) [(1, .sl (.int .i64) w), (4, .bp 4 0), (9, .own 39), (10, .own 103), (40, .sl (.int .u8) path), (41, .int .i64 (path.length : Int)), (42, .int .i64 (st1.2.2 + 1))] [(4, .box 24 [.int .i64 l.1, .sl (.pair (.int .i64) (.int .i64)) l.2]), (39, .arr 3 (.int .i64) st1.1), (103, .arr 3 (.int .i64) st1.2.1)] (by (simp only [go_sem, hb2, hb5, hb27, hb30, hb45, hb47, hb49, hb50, hb51]) <;> (repeat' with_reducible apply And.intro) <;> first | assumption | rfl | omega | (unfold maxLen; omega)) ?_
                      obtain rfl := Option.some.inj h
                      exact ⟨_, rfl, Wk.le [] [] [] rfl (by (simp only [go_sem, hb2, hb5, hb27, hb30, hb45, hb47, hb49, hb50, hb51]) <;> (repeat' with_reducible apply And.intro) <;> first | assumption | rfl | omega | (unfold maxLen; omega)) (by (simp only [go_sem, hb2, hb5, hb27, hb30, hb45, hb47, hb49, hb50, hb51]) <;> (repeat' with_reducible apply And.intro) <;> first | assumption | rfl | omega | (unfold maxLen; omega))⟩
                · rw [if_neg (Bool.eq_false_iff.1 hb49)] at h
                  refine AO.weaken (s' := ⟨fr [(1, .sl (.int .i64) w), (4, .bp 4 0), (9, .own 39), (10, .own 103), (13, .int .i64 ((path.getD st1.2.2.toNat 0) % ((st1.1.length : Int) - 1))), (14, .own 69000), (15, .int .i64 v0_4.2), (40, .sl (.int .u8) path), (41, .int .i64 (path.length : Int)), (42, .int .i64 st1.2.2), (84, .bool false), (87, .bool false)], hpGet [(4, .box 24 [.int .i64 l.1, .sl (.pair (.int .i64) (.int .i64)) l.2]), (39, .arr 3 (.int .i64) st1.1), (103, .arr 3 (.int .i64) st1.2.1), (69000, .arr 3 (.int .i64) v0_4.1)], gt⟩) (Wk.to (by (simp only [go_sem, hb2, hb5, hb27, hb30, hb45, hb47, hb49]) <;> (repeat' with_reducible apply And.intro) <;> first | assumption | rfl | omega | (unfold maxLen; omega))) ?_
                  refine AO.allF tab_ok (by decide) [(1, .sl (.int .i64) w), (4, .bp 4 0), (9, .own 39), (10, .own 103), (13, .int .i64 ((path.getD st1.2.2.toNat 0) % ((st1.1.length : Int) - 1))), (14, .own 69000), (15, .int .i64 v0_4.2), (40, .sl (.int .u8) path), (41, .int .i64 (path.length : Int)), (42, .int .i64 st1.2.2), (91, .bool false)] [(4, .box 24 [.int .i64 l.1, .sl (.pair (.int .i64) (.int .i64)) l.2]), (39, .arr 3 (.int .i64) st1.1), (103, .arr 3 (.int .i64) st1.2.1), (69000, .arr 3 (.int .i64) v0_4.1)] (by (simp only [go_sem, hb2, hb5, hb27, hb30, hb45, hb47, hb49]) <;> (repeat' with_reducible apply And.intro) <;> first | assumption | rfl | omega | (unfold maxLen; omega)) ?_
                  refine athen_n ?_
                  refine AW.cond (b := false) rfl (fun hb56 => by cases hb56) (fun _ => ?_)
                  refine AW.skip ?_
                  refine athen_n ?_
                  refine AW.seq ?_
                  refine AW.ops ?_
                  refine AO.allF tab_ok (by decide) [(1, .sl (.int .i64) w), (4, .bp 4 0), (9, .own 39), (10, .own 103), (13, .int .i64 ((path.getD st1.2.2.toNat 0) % ((st1.1.length : Int) - 1))), (14, .own 69000), (40, .sl (.int .u8) path), (41, .int .i64 (path.length : Int)), (42, .int .i64 st1.2.2), (93, .bool (decide (v0_4.2 = 0)))] [(4, .box 24 [.int .i64 l.1, .sl (.pair (.int .i64) (.int .i64)) l.2]), (39, .arr 3 (.int .i64) st1.1), (103, .arr 3 (.int .i64) st1.2.1), (69000, .arr 3 (.int .i64) v0_4.1)] (by (simp only [go_sem, hb2, hb5, hb27, hb30, hb45, hb47, hb49]) <;> (repeat' with_reducible apply And.intro) <;> first | assumption | rfl | omega | (unfold maxLen; omega)) ?_
                  refine athen_n ?_
                  refine AW.cond (b := (decide (v0_4.2 = 0))) rfl (fun hb57 => ?_) (fun hb57 => ?_)
                  · rw [if_pos hb57] at h
                    refine AW.seq ?_
                    refine AW.seq ?_
                    refine AW.ops ?_
                    refine AO.allF tab_ok (by decide) [(1, .sl (.int .i64) w), (4, .bp 4 0), (10, .own 103), (13, .int .i64 ((path.getD st1.2.2.toNat 0) % ((st1.1.length : Int) - 1))), (14, .own 69000), (40, .sl (.int .u8) path), (41, .int .i64 (path.length : Int)), (42, .int .i64 st1.2.2), (98, .bool (!(decide ((v0_4.1.length : Int) = (st1.1.length : Int)))))] [(4, .box 24 [.int .i64 l.1, .sl (.pair (.int .i64) (.int .i64)) l.2]), (103, .arr 3 (.int .i64) st1.2.1), (69000, .arr 3 (.int .i64) v0_4.1)] (by (simp only [go_sem, hb2, hb5, hb27, hb30, hb45, hb47, hb49, hb57]) <;> (repeat' with_reducible apply And.intro) <;> first | assumption | rfl | omega | (unfold maxLen; omega)) ?_
                    refine athen_n ?_
                    refine AW.cond (b := (!(decide ((v0_4.1.length : Int) = (st1.1.length : Int))))) rfl (fun hb58 => ?_) (fun hb58 => ?_)
                    · rw [if_pos hb58] at h
                      refine AW.seq ?_
                      refine AW.ops ?_
                      refine AO.allF tab_ok (by decide) [(8, .bool false)] [] (by (simp only [go_sem, hb2, hb5, hb27, hb30, hb45, hb47, hb49, hb57, hb58]) <;> (repeat' with_reducible apply And.intro) <;> first | assumption | rfl | omega | (unfold maxLen; omega)) ?_
                      refine athen_n ?_
                      refine AW.ret ?_
                      refine athen_r ?_
                      refine ablock_r ?_
                      refine athen_r ?_
                      obtain rfl := Option.some.inj h
                      rw [← hd24 _ rfl] at ho23
                      have h := ho23
                      try simp only at h
                      refine athen_r ?_
                      refine ablock_r ?_
                      refine athen_r ?_
                      obtain rfl := Option.some.inj h
                      exact ⟨rfl, [], [], [], rfl, (by (simp only [go_sem, hb2, hb5, hb27, hb30, hb45, hb47, hb49, hb57, hb58]) <;> (repeat' with_reducible apply And.intro) <;> first | assumption | rfl | omega | (unfold maxLen; omega))⟩
                    · rw [if_neg (Bool.eq_false_iff.1 hb58)] at h
                      refine AW.skip ?_
                      refine athen_n ?_
                      refine AW.seq ?_
                      refine AW.ops ?_
                      refine AO.allF tab_ok (by decide) [(1, .sl (.int .i64) w), (4, .bp 4 0), (9, .own 69000), (10, .own 103), (13, .int .i64 ((path.getD st1.2.2.toNat 0) % ((st1.1.length : Int) - 1))), (40, .sl (.int .u8) path), (41, .int .i64 (path.length : Int)), (42, .int .i64 st1.2.2)] [(4, .box 24 [.int .i64 l.1, .sl (.pair (.int .i64) (.int .i64)) l.2]), (103, .arr 3 (.int .i64) st1.2.1), (69000, .arr 3 (.int .i64) v0_4.1)] (by (simp only [go_sem, hb2, hb5, hb27, hb30, hb45, hb47, hb49, hb57, hb58]) <;> (repeat' with_reducible apply And.intro) <;> first | assumption | rfl | omega | (unfold maxLen; omega)) ?_
                      refine athen_n ?_
                      refine AW.ops ?_
                      obtain ⟨c59, h⟩ := ck_some.1 h
                      refine AO.allF tab_ok (by decide) [(1, .sl (.int .i64) w), (4, .bp 4 0), (9, .own 69000), (10, .own 103), (40, .sl (.int .u8) path), (41, .int .i64 (path.length : Int)), (42, .int .i64 st1.2.2)] [(4, .box 24 [.int .i64 l.1, .sl (.pair (.int .i64) (.int .i64)) l.2]), (103, .arr 3 (.int .i64) (st1.2.1 ++ [((path.getD st1.2.2.toNat 0) % ((st1.1.length : Int) - 1))])), (69000, .arr 3 (.int .i64) v0_4.1)] (by (simp only [go_sem, hb2, hb5, hb27, hb30, hb45, hb47, hb49, hb57, hb58]) <;> (repeat' with_reducible apply And.intro) <;> first | assumption | rfl | omega | (unfold maxLen; omega)) ?_
                      refine ablock_n ?_
                      refine athen_n ?_
                      refine AW.ops ?_
                      obtain ⟨c60, h⟩ := ck_some.1 h
                      refine AO.allF tab_ok (by decide) [(1, .sl (.int .i64) w), (4, .bp 4 0), (9, .own 69000), (10, .own 103), (40, .sl (.int .u8) path), (41, .int .i64 (path.length : Int)), (42, .int .i64 (st1.2.2 + 1))] [(4, .box 24 [.int .i64 l.1, .sl (.pair (.int .i64) (.int .i64)) l.2]), (103, .arr 3 (.int .i64) (st1.2.1 ++ [((path.getD st1.2.2.toNat 0) % ((st1.1.length : Int) - 1))])), (69000, .arr 3 (.int .i64) v0_4.1)] (by (simp only [go_sem, hb2, hb5, hb27, hb30, hb45, hb47, hb49, hb57, hb58]) <;> (repeat' with_reducible apply And.intro) <;> first | assumption | rfl | omega | (unfold maxLen; omega)) ?_
                      obtain rfl := Option.some.inj h
                      exact ⟨_, rfl, Wk.le [] [] [(39, 69000)] rfl (by (simp only [go_sem, hb2, hb5, hb27, hb30, hb45, hb47, hb49, hb57, hb58]) <;> (repeat' with_reducible apply And.intro) <;> first | assumption | rfl | omega | (unfold maxLen; omega)) (by (simp only [go_sem, hb2, hb5, hb27, hb30, hb45, hb47, hb49, hb57, hb58]) <;> (repeat' with_reducible apply And.intro) <;> first | assumption | rfl | omega | (unfold maxLen; omega))⟩
                  · rw [if_neg (Bool.eq_false_iff.1 hb57)] at h
                    refine AW.skip ?_
                    refine ablock_n ?_
                    refine athen_n ?_
                    refine AW.ops ?_
                    obtain ⟨c61, h⟩ := ck_some.1 h
                    refine AO.allF tab_ok (by decide) [(1, .sl (.int .i64) w), (4, .bp 4 0), (9, .own 39), (10, .own 103), (40, .sl (.int .u8) path), (41, .int .i64 (path.length : Int)), (42, .int .i64 (st1.2.2 + 1))] [(4, .box 24 [.int .i64 l.1, .sl (.pair (.int .i64) (.int .i64)) l.2]), (39, .arr 3 (.int .i64) st1.1), (103, .arr 3 (.int .i64) st1.2.1)] (by (simp only [go_sem, hb2, hb5, hb27, hb30, hb45, hb47, hb49, hb57]) <;> (repeat' with_reducible apply And.intro) <;> first | assumption | rfl | omega | (unfold maxLen; omega)) ?_
                    obtain rfl := Option.some.inj h
                    exact ⟨_, rfl, Wk.le [] [] [] rfl (by (simp only [go_sem, hb2, hb5, hb27, hb30, hb45, hb47, hb49, hb57]) <;> (repeat' with_reducible apply And.intro) <;> first | assumption | rfl | omega | (unfold maxLen; omega)) (by (simp only [go_sem, hb2, hb5, hb27, hb30, hb45, hb47, hb49, hb57]) <;> (repeat' with_reducible apply And.intro) <;> first | assumption | rfl | omega | (unfold maxLen; omega))⟩
        · rw [if_neg (Bool.eq_false_iff.1 hb27)] at h
          refine AW.exit ?_
          refine athen_e ?_
          obtain rfl := Option.some.inj h
          rw [← hd24 _ rfl] at ho23
          have h := ho23
          try simp only at h
          refine athen_e ?_
          refine ablock_s ?_
          refine athen_n ?_
          exact AW.weaken (Wk.le [] [] [] rfl (by (simp only [go_sem, hb2, hb5, hb27]) <;> (repeat' with_reducible apply And.intro) <;> first | assumption | rfl | omega | (unfold maxLen; omega)) (by (simp only [go_sem, hb2, hb5, hb27]) <;> (repeat' with_reducible apply And.intro) <;> first | assumption | rfl | omega | (unfold maxLen; omega))) (hk_lineallaw03_WeaveLeads_k1 _ h)

end Go.Proofs.Ytcijihofjcfpoab
