/-
  Made by wip/tool/dc.py out of the print of the program: contracts.
-/
import Derived.Test.YtcijihofjcfpoabWp
import Derived.Test.YtcijihofjcfpoabTb3
import Derived.Test.YtcijihofjcfpoabXfc2
import Derived.Test.YtcijihofjcfpoabXfc3
import Derived.Test.YtcijihofjcfpoabXfc4
namespace Go.Proofs.Ytcijihofjcfpoab
open Go.RowKit

set_option linter.unusedSimpArgs false
set_option linter.unusedVariables false
set_option linter.constructorNameAsVariable false

set_option maxRecDepth 100000 in
set_option maxHeartbeats 2000000 in
theorem hc_lineallaw03_WeaveBegins (l : Int × (List (Int × Int))) (u : List Int) (w : List Int) (v0 : List Int) {r : Bool} (h : lineallaw03_WeaveBegins l u w v0 = some r) : HC Try.prog 13 [] [.agg [.int .i64 l.1, .sl (.pair (.int .i64) (.int .i64)) l.2], .sl (.int .i64) u, .sl (.int .i64) w, .sl (.int .i64) v0] [] (.bool r) := by
  unfold lineallaw03_WeaveBegins at h
  refine HC.of_body tab_ok (res := [.tmp 8]) Try.func13 rfl (by kernel_rfl) rfl (nt := 193) rfl (by decide) (by simp) ?_
  refine AW.seq ?_
  refine AW.ops ?_
  refine AO.allF tab_ok (by decide) [(1, .sl (.int .i64) u), (2, .sl (.int .i64) w), (3, .sl (.int .i64) v0), (4, .bp 4 0)] [(4, .box 24 [.int .i64 l.1, .sl (.pair (.int .i64) (.int .i64)) l.2])] (by (simp only [go_sem]) <;> (repeat' with_reducible apply And.intro) <;> first | assumption | rfl | omega | (unfold maxLen; omega)) ?_
  refine athen_n ?_
  refine AW.seq ?_
  refine AW.seq ?_
  refine AW.ops ?_
  refine AO.segF tab_ok 5 (by decide) [(1, .sl (.int .i64) u), (2, .sl (.int .i64) w), (3, .sl (.int .i64) v0), (4, .bp 4 0), (23, .agg [.int .i64 l.1, .sl (.pair (.int .i64) (.int .i64)) l.2]), (27, .own 27)] [(4, .box 24 [.int .i64 l.1, .sl (.pair (.int .i64) (.int .i64)) l.2]), (27, .arr 25 (.sl (.int .i64)) [u, w, v0])] (by (simp only [go_sem]) <;> (repeat' with_reducible apply And.intro) <;> first | assumption | rfl | omega | (unfold maxLen; omega)) ?_
  obtain ⟨v0_2, hv1, h⟩ := Option.bind_eq_some_iff.1 h
  refine AO.call tab_ok (by decide) rfl rfl rfl (fun _ h => h) [27] [] (hc_lineallaw03_valid l [u, w, v0] hv1) rfl (by (simp only [go_sem]) <;> (repeat' with_reducible apply And.intro) <;> first | assumption | rfl | omega | (unfold maxLen; omega)) (by (simp only [go_sem]) <;> (repeat' with_reducible apply And.intro) <;> first | assumption | rfl | omega | (unfold maxLen; omega)) [(1, .sl (.int .i64) u), (2, .sl (.int .i64) w), (3, .sl (.int .i64) v0), (4, .bp 4 0), (28, .bool v0_2)] [(4, .box 24 [.int .i64 l.1, .sl (.pair (.int .i64) (.int .i64)) l.2])] (by (simp only [go_sem]) <;> (repeat' with_reducible apply And.intro) <;> first | assumption | rfl | omega | (unfold maxLen; omega)) ?_
  refine AO.allF tab_ok (by decide) [(1, .sl (.int .i64) u), (2, .sl (.int .i64) w), (3, .sl (.int .i64) v0), (4, .bp 4 0), (29, .bool (!v0_2))] [(4, .box 24 [.int .i64 l.1, .sl (.pair (.int .i64) (.int .i64)) l.2])] (by (simp only [go_sem]) <;> (repeat' with_reducible apply And.intro) <;> first | assumption | rfl | omega | (unfold maxLen; omega)) ?_
  refine athen_n ?_
  refine AW.cond (b := (!v0_2)) rfl (fun hb2 => ?_) (fun hb2 => ?_)
  · rw [if_pos hb2] at h
    refine AW.seq ?_
    refine AW.ops ?_
    obtain ⟨v0_3, hv3, h⟩ := Option.bind_eq_some_iff.1 h
    refine AO.call tab_ok (by decide) rfl rfl rfl (fun _ h => h) [] [] (hc_lineallaw03_Awake hv3) rfl (by (simp only [go_sem, hb2]) <;> (repeat' with_reducible apply And.intro) <;> first | assumption | rfl | omega | (unfold maxLen; omega)) (by (simp only [go_sem, hb2]) <;> (repeat' with_reducible apply And.intro) <;> first | assumption | rfl | omega | (unfold maxLen; omega)) [(30, .bool v0_3)] [] (by (simp only [go_sem, hb2]) <;> (repeat' with_reducible apply And.intro) <;> first | assumption | rfl | omega | (unfold maxLen; omega)) ?_
    refine AO.allF tab_ok (by decide) [(8, .bool v0_3)] [] (by (simp only [go_sem, hb2]) <;> (repeat' with_reducible apply And.intro) <;> first | assumption | rfl | omega | (unfold maxLen; omega)) ?_
    refine athen_n ?_
    refine AW.ret ?_
    refine athen_r ?_
    obtain rfl := Option.some.inj h
    exact ⟨rfl, [], [], [], rfl, (by (simp only [go_sem, hb2]) <;> (repeat' with_reducible apply And.intro) <;> first | assumption | rfl | omega | (unfold maxLen; omega))⟩
  · rw [if_neg (Bool.eq_false_iff.1 hb2)] at h
    refine AW.skip ?_
    refine athen_n ?_
    refine AW.seq ?_
    refine AW.ops ?_
    refine AO.segF tab_ok 3 (by decide) [(1, .sl (.int .i64) u), (2, .sl (.int .i64) w), (3, .sl (.int .i64) v0), (4, .bp 4 0), (32, .agg [.int .i64 l.1, .sl (.pair (.int .i64) (.int .i64)) l.2]), (33, .sl (.int .i64) u), (34, .sl (.int .i64) w)] [(4, .box 24 [.int .i64 l.1, .sl (.pair (.int .i64) (.int .i64)) l.2])] (by (simp only [go_sem, hb2]) <;> (repeat' with_reducible apply And.intro) <;> first | assumption | rfl | omega | (unfold maxLen; omega)) ?_
    obtain ⟨v0_4, hv4, h⟩ := Option.bind_eq_some_iff.1 h
    refine AO.call tab_ok (by decide) rfl rfl rfl (fun _ h => h) [] [] (hc_weave_Begins l u w hv4) rfl (by (simp only [go_sem, hb2]) <;> (repeat' with_reducible apply And.intro) <;> first | assumption | rfl | omega | (unfold maxLen; omega)) (by (simp only [go_sem, hb2]) <;> (repeat' with_reducible apply And.intro) <;> first | assumption | rfl | omega | (unfold maxLen; omega)) [(1, .sl (.int .i64) u), (2, .sl (.int .i64) w), (3, .sl (.int .i64) v0), (4, .bp 4 0), (35, .tup [.bool v0_4.1, .int .i64 v0_4.2])] [(4, .box 24 [.int .i64 l.1, .sl (.pair (.int .i64) (.int .i64)) l.2])] (by (simp only [go_sem, hb2]) <;> (repeat' with_reducible apply And.intro) <;> first | assumption | rfl | omega | (unfold maxLen; omega)) ?_
    refine AO.allF tab_ok (by decide) [(1, .sl (.int .i64) u), (2, .sl (.int .i64) w), (3, .sl (.int .i64) v0), (4, .bp 4 0), (9, .bool v0_4.1), (10, .int .i64 v0_4.2)] [(4, .box 24 [.int .i64 l.1, .sl (.pair (.int .i64) (.int .i64)) l.2])] (by (simp only [go_sem, hb2]) <;> (repeat' with_reducible apply And.intro) <;> first | assumption | rfl | omega | (unfold maxLen; omega)) ?_
    refine athen_n ?_
    refine AW.seq ?_
    refine AW.ops ?_
    refine AO.segF tab_ok 3 (by decide) [(1, .sl (.int .i64) u), (2, .sl (.int .i64) w), (3, .sl (.int .i64) v0), (4, .bp 4 0), (9, .bool v0_4.1), (10, .int .i64 v0_4.2), (39, .agg [.int .i64 l.1, .sl (.pair (.int .i64) (.int .i64)) l.2]), (40, .sl (.int .i64) u), (41, .sl (.int .i64) w)] [(4, .box 24 [.int .i64 l.1, .sl (.pair (.int .i64) (.int .i64)) l.2])] (by (simp only [go_sem, hb2]) <;> (repeat' with_reducible apply And.intro) <;> first | assumption | rfl | omega | (unfold maxLen; omega)) ?_
    obtain ⟨v0_5, hv5, h⟩ := Option.bind_eq_some_iff.1 h
    refine AO.call tab_ok (by decide) rfl rfl rfl (fun _ h => h) [] [] (hc_weave_Rest l u w hv5) rfl (by (simp only [go_sem, hb2]) <;> (repeat' with_reducible apply And.intro) <;> first | assumption | rfl | omega | (unfold maxLen; omega)) (by (simp only [go_sem, hb2]) <;> (repeat' with_reducible apply And.intro) <;> first | assumption | rfl | omega | (unfold maxLen; omega)) [(1, .sl (.int .i64) u), (2, .sl (.int .i64) w), (3, .sl (.int .i64) v0), (4, .bp 4 0), (9, .bool v0_4.1), (10, .int .i64 v0_4.2), (42, .tup [.sl (.int .i64) v0_5.1, .int .i64 v0_5.2])] [(4, .box 24 [.int .i64 l.1, .sl (.pair (.int .i64) (.int .i64)) l.2])] (by (simp only [go_sem, hb2]) <;> (repeat' with_reducible apply And.intro) <;> first | assumption | rfl | omega | (unfold maxLen; omega)) ?_
    refine AO.allF tab_ok (by decide) [(1, .sl (.int .i64) u), (2, .sl (.int .i64) w), (3, .sl (.int .i64) v0), (4, .bp 4 0), (9, .bool v0_4.1), (10, .int .i64 v0_4.2), (11, .sl (.int .i64) v0_5.1), (12, .int .i64 v0_5.2)] [(4, .box 24 [.int .i64 l.1, .sl (.pair (.int .i64) (.int .i64)) l.2])] (by (simp only [go_sem, hb2]) <;> (repeat' with_reducible apply And.intro) <;> first | assumption | rfl | omega | (unfold maxLen; omega)) ?_
    refine athen_n ?_
    refine AW.seq ?_
    refine AW.ops ?_
    refine AO.segF tab_ok 2 (by decide) [(1, .sl (.int .i64) u), (2, .sl (.int .i64) w), (3, .sl (.int .i64) v0), (4, .bp 4 0), (9, .bool v0_4.1), (10, .int .i64 v0_4.2), (11, .sl (.int .i64) v0_5.1), (12, .int .i64 v0_5.2), (46, .agg [.int .i64 l.1, .sl (.pair (.int .i64) (.int .i64)) l.2]), (47, .sl (.int .i64) w)] [(4, .box 24 [.int .i64 l.1, .sl (.pair (.int .i64) (.int .i64)) l.2])] (by (simp only [go_sem, hb2]) <;> (repeat' with_reducible apply And.intro) <;> first | assumption | rfl | omega | (unfold maxLen; omega)) ?_
    obtain ⟨v0_6, hv6, h⟩ := Option.bind_eq_some_iff.1 h
    refine AO.call tab_ok (by decide) rfl rfl rfl (fun _ h => h) [] [] (hc_weave_First l w hv6) rfl (by (simp only [go_sem, hb2]) <;> (repeat' with_reducible apply And.intro) <;> first | assumption | rfl | omega | (unfold maxLen; omega)) (by (simp only [go_sem, hb2]) <;> (repeat' with_reducible apply And.intro) <;> first | assumption | rfl | omega | (unfold maxLen; omega)) [(1, .sl (.int .i64) u), (2, .sl (.int .i64) w), (3, .sl (.int .i64) v0), (4, .bp 4 0), (9, .bool v0_4.1), (10, .int .i64 v0_4.2), (11, .sl (.int .i64) v0_5.1), (12, .int .i64 v0_5.2), (48, .tup [.sl (.int .i64) v0_6.1, .int .i64 v0_6.2])] [(4, .box 24 [.int .i64 l.1, .sl (.pair (.int .i64) (.int .i64)) l.2])] (by (simp only [go_sem, hb2]) <;> (repeat' with_reducible apply And.intro) <;> first | assumption | rfl | omega | (unfold maxLen; omega)) ?_
    refine AO.allF tab_ok (by decide) [(1, .sl (.int .i64) u), (2, .sl (.int .i64) w), (3, .sl (.int .i64) v0), (4, .bp 4 0), (9, .bool v0_4.1), (10, .int .i64 v0_4.2), (11, .sl (.int .i64) v0_5.1), (12, .int .i64 v0_5.2), (13, .sl (.int .i64) v0_6.1), (14, .int .i64 v0_6.2)] [(4, .box 24 [.int .i64 l.1, .sl (.pair (.int .i64) (.int .i64)) l.2])] (by (simp only [go_sem, hb2]) <;> (repeat' with_reducible apply And.intro) <;> first | assumption | rfl | omega | (unfold maxLen; omega)) ?_
    refine athen_n ?_
    refine AW.have1 (fun _ : Unit => lineallaw03_WeaveBegins_k1 l u w v0 v0_4 v0_5 v0_6 = some r) (fun _ => ⟨fr [(1, .sl (.int .i64) u), (2, .sl (.int .i64) w), (3, .sl (.int .i64) v0), (4, .bp 4 0), (9, .bool v0_4.1), (11, .sl (.int .i64) v0_5.1), (13, .sl (.int .i64) v0_6.1)], hpGet [(4, .box 24 [.int .i64 l.1, .sl (.pair (.int .i64) (.int .i64)) l.2])], gt⟩) (fun _ h => ?_) (fun hk_lineallaw03_WeaveBegins_k1 => ?_)
    · unfold lineallaw03_WeaveBegins_k1 at h
      refine AW.have1 (fun _ : Unit => lineallaw03_WeaveBegins_k2 l u w v0 v0_6 = some r) (fun _ => ⟨fr [(1, .sl (.int .i64) u), (2, .sl (.int .i64) w), (3, .sl (.int .i64) v0), (4, .bp 4 0), (13, .sl (.int .i64) v0_6.1)], hpGet [(4, .box 24 [.int .i64 l.1, .sl (.pair (.int .i64) (.int .i64)) l.2])], gt⟩) (fun _ h => ?_) (fun hk_lineallaw03_WeaveBegins_k2 => ?_)
      · unfold lineallaw03_WeaveBegins_k2 at h
        refine AW.seq ?_
        refine AW.ops ?_
        refine AO.segF tab_ok 3 (by decide) [(1, .sl (.int .i64) u), (2, .sl (.int .i64) w), (3, .sl (.int .i64) v0), (4, .bp 4 0), (13, .sl (.int .i64) v0_6.1), (88, .agg [.int .i64 l.1, .sl (.pair (.int .i64) (.int .i64)) l.2]), (89, .sl (.int .i64) u), (90, .sl (.int .i64) w)] [(4, .box 24 [.int .i64 l.1, .sl (.pair (.int .i64) (.int .i64)) l.2])] (by (simp only [go_sem, hb2]) <;> (repeat' with_reducible apply And.intro) <;> first | assumption | rfl | omega | (unfold maxLen; omega)) ?_
        obtain ⟨v0_9, hv7, h⟩ := Option.bind_eq_some_iff.1 h
        refine AO.call tab_ok (by decide) rfl rfl rfl (fun _ h => h) [] [] (hc_weave_Joined l u w hv7) rfl (by (simp only [go_sem, hb2]) <;> (repeat' with_reducible apply And.intro) <;> first | assumption | rfl | omega | (unfold maxLen; omega)) (by (simp only [go_sem, hb2]) <;> (repeat' with_reducible apply And.intro) <;> first | assumption | rfl | omega | (unfold maxLen; omega)) [(1, .sl (.int .i64) u), (2, .sl (.int .i64) w), (3, .sl (.int .i64) v0), (4, .bp 4 0), (13, .sl (.int .i64) v0_6.1), (91, .tup [.sl (.int .i64) v0_9.1, .int .i64 v0_9.2])] [(4, .box 24 [.int .i64 l.1, .sl (.pair (.int .i64) (.int .i64)) l.2])] (by (simp only [go_sem, hb2]) <;> (repeat' with_reducible apply And.intro) <;> first | assumption | rfl | omega | (unfold maxLen; omega)) ?_
        refine AO.allF tab_ok (by decide) [(1, .sl (.int .i64) u), (2, .sl (.int .i64) w), (3, .sl (.int .i64) v0), (4, .bp 4 0), (10, .int .i64 v0_9.2), (13, .sl (.int .i64) v0_6.1), (17, .sl (.int .i64) v0_9.1)] [(4, .box 24 [.int .i64 l.1, .sl (.pair (.int .i64) (.int .i64)) l.2])] (by (simp only [go_sem, hb2]) <;> (repeat' with_reducible apply And.intro) <;> first | assumption | rfl | omega | (unfold maxLen; omega)) ?_
        refine athen_n ?_
        refine AW.seq ?_
        refine AW.seq ?_
        refine AW.ops ?_
        refine AO.allF tab_ok (by decide) [(1, .sl (.int .i64) u), (2, .sl (.int .i64) w), (3, .sl (.int .i64) v0), (4, .bp 4 0), (10, .int .i64 v0_9.2), (13, .sl (.int .i64) v0_6.1), (17, .sl (.int .i64) v0_9.1), (95, .bool (!(decide (v0_9.2 = 0))))] [(4, .box 24 [.int .i64 l.1, .sl (.pair (.int .i64) (.int .i64)) l.2])] (by (simp only [go_sem, hb2]) <;> (repeat' with_reducible apply And.intro) <;> first | assumption | rfl | omega | (unfold maxLen; omega)) ?_
        refine athen_n ?_
        refine AW.cond (b := (!(decide (v0_9.2 = 0)))) rfl (fun hb8 => ?_) (fun hb8 => ?_)
        · rw [if_pos hb8] at h
          refine AW.seq ?_
          refine AW.ops ?_
          refine AO.segF tab_ok 3 (by decide) [(1, .sl (.int .i64) u), (2, .sl (.int .i64) w), (98, .bool (decide (v0_9.2 = 4)))] [] (by (simp only [go_sem, hb2, hb8]) <;> (repeat' with_reducible apply And.intro) <;> first | assumption | rfl | omega | (unfold maxLen; omega)) ?_
          rcases Bool.eq_false_or_eq_true (decide (v0_9.2 = 4)) with hb9 | hb9
          · rw [if_pos hb9] at h
            refine AO.weaken (s' := ⟨fr [(1, .sl (.int .i64) u), (2, .sl (.int .i64) w), (98, .bool true)], hpGet [], gt⟩) (Wk.to (by (simp only [go_sem, hb2, hb8, hb9]) <;> (repeat' with_reducible apply And.intro) <;> first | assumption | rfl | omega | (unfold maxLen; omega))) ?_
            obtain ⟨c10, h⟩ := ck_some.1 h
            refine AO.segF tab_ok 8 (by decide) [(106, .bool (decide (10 < ((u.length : Int) + (w.length : Int)))))] [] (by (simp only [go_sem, hb2, hb8, hb9]) <;> (repeat' with_reducible apply And.intro) <;> first | assumption | rfl | omega | (unfold maxLen; omega)) ?_
            rcases Bool.eq_false_or_eq_true (decide (10 < ((u.length : Int) + (w.length : Int)))) with hb11 | hb11
            · rw [if_pos hb11] at h
              refine AO.weaken (s' := ⟨fr [(106, .bool true)], hpGet [], gt⟩) (Wk.to (by (simp only [go_sem, hb2, hb8, hb9, hb11]) <;> (repeat' with_reducible apply And.intro) <;> first | assumption | rfl | omega | (unfold maxLen; omega))) ?_
              obtain ⟨v0_10, hv12, h⟩ := Option.bind_eq_some_iff.1 h
              refine AO.call tab_ok (by decide) rfl rfl rfl (fun _ h => ⟨fun _ => h, fun hn => absurd rfl hn⟩) [] [] (hc_lineallaw03_Awake hv12) rfl (by (simp only [go_sem, hb2, hb8, hb9, hb11]) <;> (repeat' with_reducible apply And.intro) <;> first | assumption | rfl | omega | (unfold maxLen; omega)) (by (simp only [go_sem, hb2, hb8, hb9, hb11]) <;> (repeat' with_reducible apply And.intro) <;> first | assumption | rfl | omega | (unfold maxLen; omega)) [(106, .bool true), (107, .bool v0_10)] [] (by (simp only [go_sem, hb2, hb8, hb9, hb11]) <;> (repeat' with_reducible apply And.intro) <;> first | assumption | rfl | omega | (unfold maxLen; omega)) ?_
              refine AO.allF tab_ok (by decide) [(8, .bool v0_10)] [] (by (simp only [go_sem, hb2, hb8, hb9, hb11]) <;> (repeat' with_reducible apply And.intro) <;> first | assumption | rfl | omega | (unfold maxLen; omega)) ?_
              refine athen_n ?_
              refine AW.ret ?_
              refine athen_r ?_
              obtain rfl := Option.some.inj h
              exact ⟨rfl, [], [], [], rfl, (by (simp only [go_sem, hb2, hb8, hb9, hb11]) <;> (repeat' with_reducible apply And.intro) <;> first | assumption | rfl | omega | (unfold maxLen; omega))⟩
            · rw [if_neg (Bool.eq_false_iff.1 hb11)] at h
              refine AO.weaken (s' := ⟨fr [(106, .bool false)], hpGet [], gt⟩) (Wk.to (by (simp only [go_sem, hb2, hb8, hb9, hb11]) <;> (repeat' with_reducible apply And.intro) <;> first | assumption | rfl | omega | (unfold maxLen; omega))) ?_
              refine AO.allF tab_ok (by decide) [(8, .bool false)] [] (by (simp only [go_sem, hb2, hb8, hb9, hb11]) <;> (repeat' with_reducible apply And.intro) <;> first | assumption | rfl | omega | (unfold maxLen; omega)) ?_
              refine athen_n ?_
              refine AW.ret ?_
              refine athen_r ?_
              obtain rfl := Option.some.inj h
              exact ⟨rfl, [], [], [], rfl, (by (simp only [go_sem, hb2, hb8, hb9, hb11]) <;> (repeat' with_reducible apply And.intro) <;> first | assumption | rfl | omega | (unfold maxLen; omega))⟩
          · rw [if_neg (Bool.eq_false_iff.1 hb9)] at h
            refine AO.weaken (s' := ⟨fr [(1, .sl (.int .i64) u), (2, .sl (.int .i64) w), (98, .bool false)], hpGet [], gt⟩) (Wk.to (by (simp only [go_sem, hb2, hb8, hb9]) <;> (repeat' with_reducible apply And.intro) <;> first | assumption | rfl | omega | (unfold maxLen; omega))) ?_
            refine AO.segF tab_ok 4 (by decide) [(98, .bool false), (100, .cv (undef)), (102, .cv (undef))] [] (by (simp only [go_sem, hb2, hb8, hb9]) <;> (repeat' with_reducible apply And.intro) <;> first | assumption | rfl | omega | (unfold maxLen; omega)) ?_
            refine AO.allF tab_ok (by decide) [(8, .bool false)] [] (by (simp only [go_sem, hb2, hb8, hb9]) <;> (repeat' with_reducible apply And.intro) <;> first | assumption | rfl | omega | (unfold maxLen; omega)) ?_
            refine athen_n ?_
            refine AW.ret ?_
            refine athen_r ?_
            obtain rfl := Option.some.inj h
            exact ⟨rfl, [], [], [], rfl, (by (simp only [go_sem, hb2, hb8, hb9]) <;> (repeat' with_reducible apply And.intro) <;> first | assumption | rfl | omega | (unfold maxLen; omega))⟩
        · rw [if_neg (Bool.eq_false_iff.1 hb8)] at h
          refine AW.skip ?_
          refine athen_n ?_
          refine AW.seq ?_
          refine AW.ops ?_
          refine AO.segF tab_ok 3 (by decide) [(1, .sl (.int .i64) u), (2, .sl (.int .i64) w), (3, .sl (.int .i64) v0), (4, .bp 4 0), (13, .sl (.int .i64) v0_6.1), (17, .sl (.int .i64) v0_9.1), (110, .agg [.int .i64 l.1, .sl (.pair (.int .i64) (.int .i64)) l.2]), (111, .sl (.int .i64) u), (112, .sl (.int .i64) v0_9.1)] [(4, .box 24 [.int .i64 l.1, .sl (.pair (.int .i64) (.int .i64)) l.2])] (by (simp only [go_sem, hb2, hb8]) <;> (repeat' with_reducible apply And.intro) <;> first | assumption | rfl | omega | (unfold maxLen; omega)) ?_
          obtain ⟨v0_11, hv13, h⟩ := Option.bind_eq_some_iff.1 h
          refine AO.call tab_ok (by decide) rfl rfl rfl (fun _ h => h) [] [] (hc_weave_Begins l u v0_9.1 hv13) rfl (by (simp only [go_sem, hb2, hb8]) <;> (repeat' with_reducible apply And.intro) <;> first | assumption | rfl | omega | (unfold maxLen; omega)) (by (simp only [go_sem, hb2, hb8]) <;> (repeat' with_reducible apply And.intro) <;> first | assumption | rfl | omega | (unfold maxLen; omega)) [(1, .sl (.int .i64) u), (2, .sl (.int .i64) w), (3, .sl (.int .i64) v0), (4, .bp 4 0), (13, .sl (.int .i64) v0_6.1), (17, .sl (.int .i64) v0_9.1), (113, .tup [.bool v0_11.1, .int .i64 v0_11.2])] [(4, .box 24 [.int .i64 l.1, .sl (.pair (.int .i64) (.int .i64)) l.2])] (by (simp only [go_sem, hb2, hb8]) <;> (repeat' with_reducible apply And.intro) <;> first | assumption | rfl | omega | (unfold maxLen; omega)) ?_
          refine AO.allF tab_ok (by decide) [(1, .sl (.int .i64) u), (2, .sl (.int .i64) w), (3, .sl (.int .i64) v0), (4, .bp 4 0), (12, .int .i64 v0_11.2), (13, .sl (.int .i64) v0_6.1), (17, .sl (.int .i64) v0_9.1), (18, .bool v0_11.1)] [(4, .box 24 [.int .i64 l.1, .sl (.pair (.int .i64) (.int .i64)) l.2])] (by (simp only [go_sem, hb2, hb8]) <;> (repeat' with_reducible apply And.intro) <;> first | assumption | rfl | omega | (unfold maxLen; omega)) ?_
          refine athen_n ?_
          refine AW.seq ?_
          refine AW.ops ?_
          refine AO.segF tab_ok 3 (by decide) [(1, .sl (.int .i64) u), (2, .sl (.int .i64) w), (3, .sl (.int .i64) v0), (4, .bp 4 0), (12, .int .i64 v0_11.2), (13, .sl (.int .i64) v0_6.1), (17, .sl (.int .i64) v0_9.1), (18, .bool v0_11.1), (117, .agg [.int .i64 l.1, .sl (.pair (.int .i64) (.int .i64)) l.2]), (118, .sl (.int .i64) u), (119, .sl (.int .i64) v0_9.1)] [(4, .box 24 [.int .i64 l.1, .sl (.pair (.int .i64) (.int .i64)) l.2])] (by (simp only [go_sem, hb2, hb8]) <;> (repeat' with_reducible apply And.intro) <;> first | assumption | rfl | omega | (unfold maxLen; omega)) ?_
          obtain ⟨v0_12, hv14, h⟩ := Option.bind_eq_some_iff.1 h
          refine AO.call tab_ok (by decide) rfl rfl rfl (fun _ h => h) [] [] (hc_weave_Rest l u v0_9.1 hv14) rfl (by (simp only [go_sem, hb2, hb8]) <;> (repeat' with_reducible apply And.intro) <;> first | assumption | rfl | omega | (unfold maxLen; omega)) (by (simp only [go_sem, hb2, hb8]) <;> (repeat' with_reducible apply And.intro) <;> first | assumption | rfl | omega | (unfold maxLen; omega)) [(1, .sl (.int .i64) u), (2, .sl (.int .i64) w), (3, .sl (.int .i64) v0), (4, .bp 4 0), (12, .int .i64 v0_11.2), (13, .sl (.int .i64) v0_6.1), (17, .sl (.int .i64) v0_9.1), (18, .bool v0_11.1), (120, .tup [.sl (.int .i64) v0_12.1, .int .i64 v0_12.2])] [(4, .box 24 [.int .i64 l.1, .sl (.pair (.int .i64) (.int .i64)) l.2])] (by (simp only [go_sem, hb2, hb8]) <;> (repeat' with_reducible apply And.intro) <;> first | assumption | rfl | omega | (unfold maxLen; omega)) ?_
          refine AO.allF tab_ok (by decide) [(1, .sl (.int .i64) u), (2, .sl (.int .i64) w), (3, .sl (.int .i64) v0), (4, .bp 4 0), (12, .int .i64 v0_11.2), (13, .sl (.int .i64) v0_6.1), (14, .int .i64 v0_12.2), (17, .sl (.int .i64) v0_9.1), (18, .bool v0_11.1), (19, .sl (.int .i64) v0_12.1)] [(4, .box 24 [.int .i64 l.1, .sl (.pair (.int .i64) (.int .i64)) l.2])] (by (simp only [go_sem, hb2, hb8]) <;> (repeat' with_reducible apply And.intro) <;> first | assumption | rfl | omega | (unfold maxLen; omega)) ?_
          refine athen_n ?_
          refine AW.seq ?_
          refine AW.seq ?_
          refine AW.ops ?_
          refine AO.segF tab_ok 3 (by decide) [(1, .sl (.int .i64) u), (2, .sl (.int .i64) w), (3, .sl (.int .i64) v0), (4, .bp 4 0), (13, .sl (.int .i64) v0_6.1), (14, .int .i64 v0_12.2), (17, .sl (.int .i64) v0_9.1), (18, .bool v0_11.1), (19, .sl (.int .i64) v0_12.1), (125, .bool (!(decide (v0_11.2 = 0))))] [(4, .box 24 [.int .i64 l.1, .sl (.pair (.int .i64) (.int .i64)) l.2])] (by (simp only [go_sem, hb2, hb8]) <;> (repeat' with_reducible apply And.intro) <;> first | assumption | rfl | omega | (unfold maxLen; omega)) ?_
          rcases Bool.eq_false_or_eq_true (!(decide (v0_11.2 = 0))) with hb15 | hb15
          · rw [if_pos hb15] at h
            refine AO.weaken (s' := ⟨fr [(1, .sl (.int .i64) u), (2, .sl (.int .i64) w), (3, .sl (.int .i64) v0), (4, .bp 4 0), (13, .sl (.int .i64) v0_6.1), (14, .int .i64 v0_12.2), (17, .sl (.int .i64) v0_9.1), (18, .bool v0_11.1), (19, .sl (.int .i64) v0_12.1), (125, .bool true)], hpGet [(4, .box 24 [.int .i64 l.1, .sl (.pair (.int .i64) (.int .i64)) l.2])], gt⟩) (Wk.to (by (simp only [go_sem, hb2, hb8, hb15]) <;> (repeat' with_reducible apply And.intro) <;> first | assumption | rfl | omega | (unfold maxLen; omega))) ?_
            refine AO.segF tab_ok 6 (by decide) [(1, .sl (.int .i64) u), (2, .sl (.int .i64) w), (3, .sl (.int .i64) v0), (4, .bp 4 0), (13, .sl (.int .i64) v0_6.1), (17, .sl (.int .i64) v0_9.1), (19, .sl (.int .i64) v0_12.1), (129, .bool true), (131, .cv (undef))] [(4, .box 24 [.int .i64 l.1, .sl (.pair (.int .i64) (.int .i64)) l.2])] (by (simp only [go_sem, hb2, hb8, hb15]) <;> (repeat' with_reducible apply And.intro) <;> first | assumption | rfl | omega | (unfold maxLen; omega)) ?_
            refine AO.segF tab_ok 6 (by decide) [(1, .sl (.int .i64) u), (2, .sl (.int .i64) w), (3, .sl (.int .i64) v0), (4, .bp 4 0), (17, .sl (.int .i64) v0_9.1), (133, .bool true), (137, .cv (undef))] [(4, .box 24 [.int .i64 l.1, .sl (.pair (.int .i64) (.int .i64)) l.2])] (by (simp only [go_sem, hb2, hb8, hb15]) <;> (repeat' with_reducible apply And.intro) <;> first | assumption | rfl | omega | (unfold maxLen; omega)) ?_
            refine AO.allF tab_ok (by decide) [(1, .sl (.int .i64) u), (2, .sl (.int .i64) w), (3, .sl (.int .i64) v0), (4, .bp 4 0), (17, .sl (.int .i64) v0_9.1), (138, .bool true)] [(4, .box 24 [.int .i64 l.1, .sl (.pair (.int .i64) (.int .i64)) l.2])] (by (simp only [go_sem, hb2, hb8, hb15]) <;> (repeat' with_reducible apply And.intro) <;> first | assumption | rfl | omega | (unfold maxLen; omega)) ?_
            refine athen_n ?_
            refine AW.cond (b := true) rfl (fun _ => ?_) (fun hb16 => by cases hb16)
            refine AW.seq ?_
            refine AW.ops ?_
            refine AO.allF tab_ok (by decide) [(8, .bool false)] [] (by (simp only [go_sem, hb2, hb8, hb15]) <;> (repeat' with_reducible apply And.intro) <;> first | assumption | rfl | omega | (unfold maxLen; omega)) ?_
            refine athen_n ?_
            refine AW.ret ?_
            refine athen_r ?_
            obtain rfl := Option.some.inj h
            exact ⟨rfl, [], [], [], rfl, (by (simp only [go_sem, hb2, hb8, hb15]) <;> (repeat' with_reducible apply And.intro) <;> first | assumption | rfl | omega | (unfold maxLen; omega))⟩
          · rw [if_neg (Bool.eq_false_iff.1 hb15)] at h
            refine AO.weaken (s' := ⟨fr [(1, .sl (.int .i64) u), (2, .sl (.int .i64) w), (3, .sl (.int .i64) v0), (4, .bp 4 0), (13, .sl (.int .i64) v0_6.1), (14, .int .i64 v0_12.2), (17, .sl (.int .i64) v0_9.1), (18, .bool v0_11.1), (19, .sl (.int .i64) v0_12.1), (125, .bool false)], hpGet [(4, .box 24 [.int .i64 l.1, .sl (.pair (.int .i64) (.int .i64)) l.2])], gt⟩) (Wk.to (by (simp only [go_sem, hb2, hb8, hb15]) <;> (repeat' with_reducible apply And.intro) <;> first | assumption | rfl | omega | (unfold maxLen; omega))) ?_
            refine AO.segF tab_ok 4 (by decide) [(1, .sl (.int .i64) u), (2, .sl (.int .i64) w), (3, .sl (.int .i64) v0), (4, .bp 4 0), (13, .sl (.int .i64) v0_6.1), (17, .sl (.int .i64) v0_9.1), (18, .bool v0_11.1), (19, .sl (.int .i64) v0_12.1), (129, .bool (!(decide (v0_12.2 = 0))))] [(4, .box 24 [.int .i64 l.1, .sl (.pair (.int .i64) (.int .i64)) l.2])] (by (simp only [go_sem, hb2, hb8, hb15]) <;> (repeat' with_reducible apply And.intro) <;> first | assumption | rfl | omega | (unfold maxLen; omega)) ?_
            rcases Bool.eq_false_or_eq_true (!(decide (v0_12.2 = 0))) with hb17 | hb17
            · rw [if_pos hb17] at h
              refine AO.weaken (s' := ⟨fr [(1, .sl (.int .i64) u), (2, .sl (.int .i64) w), (3, .sl (.int .i64) v0), (4, .bp 4 0), (13, .sl (.int .i64) v0_6.1), (17, .sl (.int .i64) v0_9.1), (18, .bool v0_11.1), (19, .sl (.int .i64) v0_12.1), (129, .bool true)], hpGet [(4, .box 24 [.int .i64 l.1, .sl (.pair (.int .i64) (.int .i64)) l.2])], gt⟩) (Wk.to (by (simp only [go_sem, hb2, hb8, hb15, hb17]) <;> (repeat' with_reducible apply And.intro) <;> first | assumption | rfl | omega | (unfold maxLen; omega))) ?_
              refine AO.segF tab_ok 6 (by decide) [(1, .sl (.int .i64) u), (2, .sl (.int .i64) w), (3, .sl (.int .i64) v0), (4, .bp 4 0), (17, .sl (.int .i64) v0_9.1), (133, .bool true), (134, .cv (undef)), (135, .cv (undef))] [(4, .box 24 [.int .i64 l.1, .sl (.pair (.int .i64) (.int .i64)) l.2])] (by (simp only [go_sem, hb2, hb8, hb15, hb17]) <;> (repeat' with_reducible apply And.intro) <;> first | assumption | rfl | omega | (unfold maxLen; omega)) ?_
              refine AO.allF tab_ok (by decide) [(1, .sl (.int .i64) u), (2, .sl (.int .i64) w), (3, .sl (.int .i64) v0), (4, .bp 4 0), (17, .sl (.int .i64) v0_9.1), (138, .bool true)] [(4, .box 24 [.int .i64 l.1, .sl (.pair (.int .i64) (.int .i64)) l.2])] (by (simp only [go_sem, hb2, hb8, hb15, hb17]) <;> (repeat' with_reducible apply And.intro) <;> first | assumption | rfl | omega | (unfold maxLen; omega)) ?_
              refine athen_n ?_
              refine AW.cond (b := true) rfl (fun _ => ?_) (fun hb18 => by cases hb18)
              refine AW.seq ?_
              refine AW.ops ?_
              refine AO.allF tab_ok (by decide) [(8, .bool false)] [] (by (simp only [go_sem, hb2, hb8, hb15, hb17]) <;> (repeat' with_reducible apply And.intro) <;> first | assumption | rfl | omega | (unfold maxLen; omega)) ?_
              refine athen_n ?_
              refine AW.ret ?_
              refine athen_r ?_
              obtain rfl := Option.some.inj h
              exact ⟨rfl, [], [], [], rfl, (by (simp only [go_sem, hb2, hb8, hb15, hb17]) <;> (repeat' with_reducible apply And.intro) <;> first | assumption | rfl | omega | (unfold maxLen; omega))⟩
            · rw [if_neg (Bool.eq_false_iff.1 hb17)] at h
              refine AO.weaken (s' := ⟨fr [(1, .sl (.int .i64) u), (2, .sl (.int .i64) w), (3, .sl (.int .i64) v0), (4, .bp 4 0), (13, .sl (.int .i64) v0_6.1), (17, .sl (.int .i64) v0_9.1), (18, .bool v0_11.1), (19, .sl (.int .i64) v0_12.1), (129, .bool false)], hpGet [(4, .box 24 [.int .i64 l.1, .sl (.pair (.int .i64) (.int .i64)) l.2])], gt⟩) (Wk.to (by (simp only [go_sem, hb2, hb8, hb15, hb17]) <;> (repeat' with_reducible apply And.intro) <;> first | assumption | rfl | omega | (unfold maxLen; omega))) ?_
              refine AO.segF tab_ok 4 (by decide) [(1, .sl (.int .i64) u), (2, .sl (.int .i64) w), (3, .sl (.int .i64) v0), (4, .bp 4 0), (13, .sl (.int .i64) v0_6.1), (17, .sl (.int .i64) v0_9.1), (19, .sl (.int .i64) v0_12.1), (133, .bool (!v0_11.1))] [(4, .box 24 [.int .i64 l.1, .sl (.pair (.int .i64) (.int .i64)) l.2])] (by (simp only [go_sem, hb2, hb8, hb15, hb17]) <;> (repeat' with_reducible apply And.intro) <;> first | assumption | rfl | omega | (unfold maxLen; omega)) ?_
              rcases Bool.eq_false_or_eq_true (!v0_11.1) with hb19 | hb19
              · rw [if_pos hb19] at h
                refine AO.weaken (s' := ⟨fr [(1, .sl (.int .i64) u), (2, .sl (.int .i64) w), (3, .sl (.int .i64) v0), (4, .bp 4 0), (13, .sl (.int .i64) v0_6.1), (17, .sl (.int .i64) v0_9.1), (19, .sl (.int .i64) v0_12.1), (133, .bool true)], hpGet [(4, .box 24 [.int .i64 l.1, .sl (.pair (.int .i64) (.int .i64)) l.2])], gt⟩) (Wk.to (by (simp only [go_sem, hb2, hb8, hb15, hb17, hb19]) <;> (repeat' with_reducible apply And.intro) <;> first | assumption | rfl | omega | (unfold maxLen; omega))) ?_
                refine AO.segF tab_ok 4 (by decide) [(1, .sl (.int .i64) u), (2, .sl (.int .i64) w), (3, .sl (.int .i64) v0), (4, .bp 4 0), (17, .sl (.int .i64) v0_9.1), (133, .bool true), (137, .cv (undef))] [(4, .box 24 [.int .i64 l.1, .sl (.pair (.int .i64) (.int .i64)) l.2])] (by (simp only [go_sem, hb2, hb8, hb15, hb17, hb19]) <;> (repeat' with_reducible apply And.intro) <;> first | assumption | rfl | omega | (unfold maxLen; omega)) ?_
                refine AO.allF tab_ok (by decide) [(1, .sl (.int .i64) u), (2, .sl (.int .i64) w), (3, .sl (.int .i64) v0), (4, .bp 4 0), (17, .sl (.int .i64) v0_9.1), (138, .bool true)] [(4, .box 24 [.int .i64 l.1, .sl (.pair (.int .i64) (.int .i64)) l.2])] (by (simp only [go_sem, hb2, hb8, hb15, hb17, hb19]) <;> (repeat' with_reducible apply And.intro) <;> first | assumption | rfl | omega | (unfold maxLen; omega)) ?_
                refine athen_n ?_
                refine AW.cond (b := true) rfl (fun _ => ?_) (fun hb20 => by cases hb20)
                refine AW.seq ?_
                refine AW.ops ?_
                refine AO.allF tab_ok (by decide) [(8, .bool false)] [] (by (simp only [go_sem, hb2, hb8, hb15, hb17, hb19]) <;> (repeat' with_reducible apply And.intro) <;> first | assumption | rfl | omega | (unfold maxLen; omega)) ?_
                refine athen_n ?_
                refine AW.ret ?_
                refine athen_r ?_
                obtain rfl := Option.some.inj h
                exact ⟨rfl, [], [], [], rfl, (by (simp only [go_sem, hb2, hb8, hb15, hb17, hb19]) <;> (repeat' with_reducible apply And.intro) <;> first | assumption | rfl | omega | (unfold maxLen; omega))⟩
              · rw [if_neg (Bool.eq_false_iff.1 hb19)] at h
                refine AO.weaken (s' := ⟨fr [(1, .sl (.int .i64) u), (2, .sl (.int .i64) w), (3, .sl (.int .i64) v0), (4, .bp 4 0), (13, .sl (.int .i64) v0_6.1), (17, .sl (.int .i64) v0_9.1), (19, .sl (.int .i64) v0_12.1), (133, .bool false)], hpGet [(4, .box 24 [.int .i64 l.1, .sl (.pair (.int .i64) (.int .i64)) l.2])], gt⟩) (Wk.to (by (simp only [go_sem, hb2, hb8, hb15, hb17, hb19]) <;> (repeat' with_reducible apply And.intro) <;> first | assumption | rfl | omega | (unfold maxLen; omega))) ?_
                refine AO.segF tab_ok 2 (by decide) [(1, .sl (.int .i64) u), (2, .sl (.int .i64) w), (3, .sl (.int .i64) v0), (4, .bp 4 0), (17, .sl (.int .i64) v0_9.1), (133, .bool false), (134, .sl (.int .i64) v0_12.1), (135, .sl (.int .i64) v0_6.1)] [(4, .box 24 [.int .i64 l.1, .sl (.pair (.int .i64) (.int .i64)) l.2])] (by (simp only [go_sem, hb2, hb8, hb15, hb17, hb19]) <;> (repeat' with_reducible apply And.intro) <;> first | assumption | rfl | omega | (unfold maxLen; omega)) ?_
                obtain ⟨v0_13, hv21, h⟩ := Option.bind_eq_some_iff.1 h
                refine AO.call tab_ok (by decide) rfl rfl rfl (fun _ h => ⟨fun _ => h, fun hn => absurd rfl hn⟩) [] [] (hc_linealref03_SameInts v0_12.1 v0_6.1 hv21) rfl (by (simp only [go_sem, hb2, hb8, hb15, hb17, hb19]) <;> (repeat' with_reducible apply And.intro) <;> first | assumption | rfl | omega | (unfold maxLen; omega)) (by (simp only [go_sem, hb2, hb8, hb15, hb17, hb19]) <;> (repeat' with_reducible apply And.intro) <;> first | assumption | rfl | omega | (unfold maxLen; omega)) [(1, .sl (.int .i64) u), (2, .sl (.int .i64) w), (3, .sl (.int .i64) v0), (4, .bp 4 0), (17, .sl (.int .i64) v0_9.1), (133, .bool false), (136, .bool v0_13)] [(4, .box 24 [.int .i64 l.1, .sl (.pair (.int .i64) (.int .i64)) l.2])] (by (simp only [go_sem, hb2, hb8, hb15, hb17, hb19]) <;> (repeat' with_reducible apply And.intro) <;> first | assumption | rfl | omega | (unfold maxLen; omega)) ?_
                refine AO.allF tab_ok (by decide) [(1, .sl (.int .i64) u), (2, .sl (.int .i64) w), (3, .sl (.int .i64) v0), (4, .bp 4 0), (17, .sl (.int .i64) v0_9.1), (138, .bool (!v0_13))] [(4, .box 24 [.int .i64 l.1, .sl (.pair (.int .i64) (.int .i64)) l.2])] (by (simp only [go_sem, hb2, hb8, hb15, hb17, hb19]) <;> (repeat' with_reducible apply And.intro) <;> first | assumption | rfl | omega | (unfold maxLen; omega)) ?_
                refine athen_n ?_
                refine AW.cond (b := (!v0_13)) rfl (fun hb22 => ?_) (fun hb22 => ?_)
                · rw [if_pos hb22] at h
                  refine AW.seq ?_
                  refine AW.ops ?_
                  refine AO.allF tab_ok (by decide) [(8, .bool false)] [] (by (simp only [go_sem, hb2, hb8, hb15, hb17, hb19, hb22]) <;> (repeat' with_reducible apply And.intro) <;> first | assumption | rfl | omega | (unfold maxLen; omega)) ?_
                  refine athen_n ?_
                  refine AW.ret ?_
                  refine athen_r ?_
                  obtain rfl := Option.some.inj h
                  exact ⟨rfl, [], [], [], rfl, (by (simp only [go_sem, hb2, hb8, hb15, hb17, hb19, hb22]) <;> (repeat' with_reducible apply And.intro) <;> first | assumption | rfl | omega | (unfold maxLen; omega))⟩
                · rw [if_neg (Bool.eq_false_iff.1 hb22)] at h
                  refine AW.skip ?_
                  refine athen_n ?_
                  refine AW.seq ?_
                  refine AW.ops ?_
                  refine AO.segF tab_ok 3 (by decide) [(1, .sl (.int .i64) u), (3, .sl (.int .i64) v0), (4, .bp 4 0), (17, .sl (.int .i64) v0_9.1), (140, .agg [.int .i64 l.1, .sl (.pair (.int .i64) (.int .i64)) l.2]), (141, .sl (.int .i64) w), (142, .sl (.int .i64) v0)] [(4, .box 24 [.int .i64 l.1, .sl (.pair (.int .i64) (.int .i64)) l.2])] (by (simp only [go_sem, hb2, hb8, hb15, hb17, hb19, hb22]) <;> (repeat' with_reducible apply And.intro) <;> first | assumption | rfl | omega | (unfold maxLen; omega)) ?_
                  obtain ⟨v0_14, hv23, h⟩ := Option.bind_eq_some_iff.1 h
                  refine AO.call tab_ok (by decide) rfl rfl rfl (fun _ h => h) [] [] (hc_weave_Joined l w v0 hv23) rfl (by (simp only [go_sem, hb2, hb8, hb15, hb17, hb19, hb22]) <;> (repeat' with_reducible apply And.intro) <;> first | assumption | rfl | omega | (unfold maxLen; omega)) (by (simp only [go_sem, hb2, hb8, hb15, hb17, hb19, hb22]) <;> (repeat' with_reducible apply And.intro) <;> first | assumption | rfl | omega | (unfold maxLen; omega)) [(1, .sl (.int .i64) u), (3, .sl (.int .i64) v0), (4, .bp 4 0), (17, .sl (.int .i64) v0_9.1), (143, .tup [.sl (.int .i64) v0_14.1, .int .i64 v0_14.2])] [(4, .box 24 [.int .i64 l.1, .sl (.pair (.int .i64) (.int .i64)) l.2])] (by (simp only [go_sem, hb2, hb8, hb15, hb17, hb19, hb22]) <;> (repeat' with_reducible apply And.intro) <;> first | assumption | rfl | omega | (unfold maxLen; omega)) ?_
                  refine AO.allF tab_ok (by decide) [(1, .sl (.int .i64) u), (3, .sl (.int .i64) v0), (4, .bp 4 0), (10, .int .i64 v0_14.2), (17, .sl (.int .i64) v0_9.1), (20, .sl (.int .i64) v0_14.1)] [(4, .box 24 [.int .i64 l.1, .sl (.pair (.int .i64) (.int .i64)) l.2])] (by (simp only [go_sem, hb2, hb8, hb15, hb17, hb19, hb22]) <;> (repeat' with_reducible apply And.intro) <;> first | assumption | rfl | omega | (unfold maxLen; omega)) ?_
                  refine athen_n ?_
                  refine AW.seq ?_
                  refine AW.ops ?_
                  refine AO.segF tab_ok 3 (by decide) [(1, .sl (.int .i64) u), (4, .bp 4 0), (10, .int .i64 v0_14.2), (20, .sl (.int .i64) v0_14.1), (147, .agg [.int .i64 l.1, .sl (.pair (.int .i64) (.int .i64)) l.2]), (148, .sl (.int .i64) v0_9.1), (149, .sl (.int .i64) v0)] [(4, .box 24 [.int .i64 l.1, .sl (.pair (.int .i64) (.int .i64)) l.2])] (by (simp only [go_sem, hb2, hb8, hb15, hb17, hb19, hb22]) <;> (repeat' with_reducible apply And.intro) <;> first | assumption | rfl | omega | (unfold maxLen; omega)) ?_
                  obtain ⟨v0_15, hv24, h⟩ := Option.bind_eq_some_iff.1 h
                  refine AO.call tab_ok (by decide) rfl rfl rfl (fun _ h => h) [] [] (hc_weave_Joined l v0_9.1 v0 hv24) rfl (by (simp only [go_sem, hb2, hb8, hb15, hb17, hb19, hb22]) <;> (repeat' with_reducible apply And.intro) <;> first | assumption | rfl | omega | (unfold maxLen; omega)) (by (simp only [go_sem, hb2, hb8, hb15, hb17, hb19, hb22]) <;> (repeat' with_reducible apply And.intro) <;> first | assumption | rfl | omega | (unfold maxLen; omega)) [(1, .sl (.int .i64) u), (4, .bp 4 0), (10, .int .i64 v0_14.2), (20, .sl (.int .i64) v0_14.1), (150, .tup [.sl (.int .i64) v0_15.1, .int .i64 v0_15.2])] [(4, .box 24 [.int .i64 l.1, .sl (.pair (.int .i64) (.int .i64)) l.2])] (by (simp only [go_sem, hb2, hb8, hb15, hb17, hb19, hb22]) <;> (repeat' with_reducible apply And.intro) <;> first | assumption | rfl | omega | (unfold maxLen; omega)) ?_
                  refine AO.allF tab_ok (by decide) [(1, .sl (.int .i64) u), (4, .bp 4 0), (10, .int .i64 v0_14.2), (12, .int .i64 v0_15.2), (20, .sl (.int .i64) v0_14.1), (21, .sl (.int .i64) v0_15.1)] [(4, .box 24 [.int .i64 l.1, .sl (.pair (.int .i64) (.int .i64)) l.2])] (by (simp only [go_sem, hb2, hb8, hb15, hb17, hb19, hb22]) <;> (repeat' with_reducible apply And.intro) <;> first | assumption | rfl | omega | (unfold maxLen; omega)) ?_
                  refine athen_n ?_
                  refine AW.seq ?_
                  refine AW.seq ?_
                  refine AW.ops ?_
                  refine AO.segF tab_ok 3 (by decide) [(1, .sl (.int .i64) u), (4, .bp 4 0), (10, .int .i64 v0_14.2), (12, .int .i64 v0_15.2), (20, .sl (.int .i64) v0_14.1), (21, .sl (.int .i64) v0_15.1), (155, .bool (!(decide (v0_14.2 = 0))))] [(4, .box 24 [.int .i64 l.1, .sl (.pair (.int .i64) (.int .i64)) l.2])] (by (simp only [go_sem, hb2, hb8, hb15, hb17, hb19, hb22]) <;> (repeat' with_reducible apply And.intro) <;> first | assumption | rfl | omega | (unfold maxLen; omega)) ?_
                  rcases Bool.eq_false_or_eq_true (!(decide (v0_14.2 = 0))) with hb25 | hb25
                  · rw [if_pos hb25] at h
                    refine AO.weaken (s' := ⟨fr [(1, .sl (.int .i64) u), (4, .bp 4 0), (10, .int .i64 v0_14.2), (12, .int .i64 v0_15.2), (20, .sl (.int .i64) v0_14.1), (21, .sl (.int .i64) v0_15.1), (155, .bool true)], hpGet [(4, .box 24 [.int .i64 l.1, .sl (.pair (.int .i64) (.int .i64)) l.2])], gt⟩) (Wk.to (by (simp only [go_sem, hb2, hb8, hb15, hb17, hb19, hb22, hb25]) <;> (repeat' with_reducible apply And.intro) <;> first | assumption | rfl | omega | (unfold maxLen; omega))) ?_
                    refine AO.allF tab_ok (by decide) [(1, .sl (.int .i64) u), (4, .bp 4 0), (10, .int .i64 v0_14.2), (12, .int .i64 v0_15.2), (20, .sl (.int .i64) v0_14.1), (21, .sl (.int .i64) v0_15.1), (158, .bool true)] [(4, .box 24 [.int .i64 l.1, .sl (.pair (.int .i64) (.int .i64)) l.2])] (by (simp only [go_sem, hb2, hb8, hb15, hb17, hb19, hb22, hb25]) <;> (repeat' with_reducible apply And.intro) <;> first | assumption | rfl | omega | (unfold maxLen; omega)) ?_
                    refine athen_n ?_
                    refine AW.cond (b := true) rfl (fun _ => ?_) (fun hb26 => by cases hb26)
                    refine AW.seq ?_
                    refine AW.ops ?_
                    refine AO.segF tab_ok 3 (by decide) [(10, .int .i64 v0_14.2), (12, .int .i64 v0_15.2), (161, .bool (decide (v0_14.2 = 0)))] [] (by (simp only [go_sem, hb2, hb8, hb15, hb17, hb19, hb22, hb25]) <;> (repeat' with_reducible apply And.intro) <;> first | assumption | rfl | omega | (unfold maxLen; omega)) ?_
                    rcases Bool.eq_false_or_eq_true (decide (v0_14.2 = 0)) with hb27 | hb27
                    · rw [if_pos hb27] at h
                      refine AO.weaken (s' := ⟨fr [(10, .int .i64 v0_14.2), (12, .int .i64 v0_15.2), (161, .bool true)], hpGet [], gt⟩) (Wk.to (by (simp only [go_sem, hb2, hb8, hb15, hb17, hb19, hb22, hb25, hb27]) <;> (repeat' with_reducible apply And.intro) <;> first | assumption | rfl | omega | (unfold maxLen; omega))) ?_
                      refine AO.segF tab_ok 7 (by decide) [(12, .int .i64 v0_15.2), (165, .bool true), (168, .bool (decide (v0_15.2 = 0)))] [] (by (simp only [go_sem, hb2, hb8, hb15, hb17, hb19, hb22, hb25, hb27]) <;> (repeat' with_reducible apply And.intro) <;> first | assumption | rfl | omega | (unfold maxLen; omega)) ?_
                      rcases Bool.eq_false_or_eq_true (decide (v0_15.2 = 0)) with hb28 | hb28
                      · rw [if_pos hb28] at h
                        refine AO.weaken (s' := ⟨fr [(12, .int .i64 v0_15.2), (165, .bool true), (168, .bool true)], hpGet [], gt⟩) (Wk.to (by (simp only [go_sem, hb2, hb8, hb15, hb17, hb19, hb22, hb25, hb27, hb28]) <;> (repeat' with_reducible apply And.intro) <;> first | assumption | rfl | omega | (unfold maxLen; omega))) ?_
                        refine AO.segF tab_ok 5 (by decide) [(173, .bool true)] [] (by (simp only [go_sem, hb2, hb8, hb15, hb17, hb19, hb22, hb25, hb27, hb28]) <;> (repeat' with_reducible apply And.intro) <;> first | assumption | rfl | omega | (unfold maxLen; omega)) ?_
                        obtain ⟨v0_16, hv29, h⟩ := Option.bind_eq_some_iff.1 h
                        refine AO.call tab_ok (by decide) rfl rfl rfl (fun _ h => ⟨fun _ => h, fun hn => absurd rfl hn⟩) [] [] (hc_lineallaw03_Awake hv29) rfl (by (simp only [go_sem, hb2, hb8, hb15, hb17, hb19, hb22, hb25, hb27, hb28]) <;> (repeat' with_reducible apply And.intro) <;> first | assumption | rfl | omega | (unfold maxLen; omega)) (by (simp only [go_sem, hb2, hb8, hb15, hb17, hb19, hb22, hb25, hb27, hb28]) <;> (repeat' with_reducible apply And.intro) <;> first | assumption | rfl | omega | (unfold maxLen; omega)) [(173, .bool true), (174, .bool v0_16)] [] (by (simp only [go_sem, hb2, hb8, hb15, hb17, hb19, hb22, hb25, hb27, hb28]) <;> (repeat' with_reducible apply And.intro) <;> first | assumption | rfl | omega | (unfold maxLen; omega)) ?_
                        refine AO.allF tab_ok (by decide) [(8, .bool v0_16)] [] (by (simp only [go_sem, hb2, hb8, hb15, hb17, hb19, hb22, hb25, hb27, hb28]) <;> (repeat' with_reducible apply And.intro) <;> first | assumption | rfl | omega | (unfold maxLen; omega)) ?_
                        refine athen_n ?_
                        refine AW.ret ?_
                        refine athen_r ?_
                        obtain rfl := Option.some.inj h
                        exact ⟨rfl, [], [], [], rfl, (by (simp only [go_sem, hb2, hb8, hb15, hb17, hb19, hb22, hb25, hb27, hb28]) <;> (repeat' with_reducible apply And.intro) <;> first | assumption | rfl | omega | (unfold maxLen; omega))⟩
                      · rw [if_neg (Bool.eq_false_iff.1 hb28)] at h
                        refine AO.weaken (s' := ⟨fr [(12, .int .i64 v0_15.2), (165, .bool true), (168, .bool false)], hpGet [], gt⟩) (Wk.to (by (simp only [go_sem, hb2, hb8, hb15, hb17, hb19, hb22, hb25, hb27, hb28]) <;> (repeat' with_reducible apply And.intro) <;> first | assumption | rfl | omega | (unfold maxLen; omega))) ?_
                        refine AO.segF tab_ok 5 (by decide) [(173, .bool (decide (v0_15.2 = 4)))] [] (by (simp only [go_sem, hb2, hb8, hb15, hb17, hb19, hb22, hb25, hb27, hb28]) <;> (repeat' with_reducible apply And.intro) <;> first | assumption | rfl | omega | (unfold maxLen; omega)) ?_
                        rcases Bool.eq_false_or_eq_true (decide (v0_15.2 = 4)) with hb30 | hb30
                        · rw [if_pos hb30] at h
                          refine AO.weaken (s' := ⟨fr [(173, .bool true)], hpGet [], gt⟩) (Wk.to (by (simp only [go_sem, hb2, hb8, hb15, hb17, hb19, hb22, hb25, hb27, hb28, hb30]) <;> (repeat' with_reducible apply And.intro) <;> first | assumption | rfl | omega | (unfold maxLen; omega))) ?_
                          obtain ⟨v0_17, hv31, h⟩ := Option.bind_eq_some_iff.1 h
                          refine AO.call tab_ok (by decide) rfl rfl rfl (fun _ h => ⟨fun _ => h, fun hn => absurd rfl hn⟩) [] [] (hc_lineallaw03_Awake hv31) rfl (by (simp only [go_sem, hb2, hb8, hb15, hb17, hb19, hb22, hb25, hb27, hb28, hb30]) <;> (repeat' with_reducible apply And.intro) <;> first | assumption | rfl | omega | (unfold maxLen; omega)) (by (simp only [go_sem, hb2, hb8, hb15, hb17, hb19, hb22, hb25, hb27, hb28, hb30]) <;> (repeat' with_reducible apply And.intro) <;> first | assumption | rfl | omega | (unfold maxLen; omega)) [(173, .bool true), (174, .bool v0_17)] [] (by (simp only [go_sem, hb2, hb8, hb15, hb17, hb19, hb22, hb25, hb27, hb28, hb30]) <;> (repeat' with_reducible apply And.intro) <;> first | assumption | rfl | omega | (unfold maxLen; omega)) ?_
                          refine AO.allF tab_ok (by decide) [(8, .bool v0_17)] [] (by (simp only [go_sem, hb2, hb8, hb15, hb17, hb19, hb22, hb25, hb27, hb28, hb30]) <;> (repeat' with_reducible apply And.intro) <;> first | assumption | rfl | omega | (unfold maxLen; omega)) ?_
                          refine athen_n ?_
                          refine AW.ret ?_
                          refine athen_r ?_
                          obtain rfl := Option.some.inj h
                          exact ⟨rfl, [], [], [], rfl, (by (simp only [go_sem, hb2, hb8, hb15, hb17, hb19, hb22, hb25, hb27, hb28, hb30]) <;> (repeat' with_reducible apply And.intro) <;> first | assumption | rfl | omega | (unfold maxLen; omega))⟩
                        · rw [if_neg (Bool.eq_false_iff.1 hb30)] at h
                          refine AO.weaken (s' := ⟨fr [(173, .bool false)], hpGet [], gt⟩) (Wk.to (by (simp only [go_sem, hb2, hb8, hb15, hb17, hb19, hb22, hb25, hb27, hb28, hb30]) <;> (repeat' with_reducible apply And.intro) <;> first | assumption | rfl | omega | (unfold maxLen; omega))) ?_
                          refine AO.allF tab_ok (by decide) [(8, .bool false)] [] (by (simp only [go_sem, hb2, hb8, hb15, hb17, hb19, hb22, hb25, hb27, hb28, hb30]) <;> (repeat' with_reducible apply And.intro) <;> first | assumption | rfl | omega | (unfold maxLen; omega)) ?_
                          refine athen_n ?_
                          refine AW.ret ?_
                          refine athen_r ?_
                          obtain rfl := Option.some.inj h
                          exact ⟨rfl, [], [], [], rfl, (by (simp only [go_sem, hb2, hb8, hb15, hb17, hb19, hb22, hb25, hb27, hb28, hb30]) <;> (repeat' with_reducible apply And.intro) <;> first | assumption | rfl | omega | (unfold maxLen; omega))⟩
                    · rw [if_neg (Bool.eq_false_iff.1 hb27)] at h
                      refine AO.weaken (s' := ⟨fr [(10, .int .i64 v0_14.2), (12, .int .i64 v0_15.2), (161, .bool false)], hpGet [], gt⟩) (Wk.to (by (simp only [go_sem, hb2, hb8, hb15, hb17, hb19, hb22, hb25, hb27]) <;> (repeat' with_reducible apply And.intro) <;> first | assumption | rfl | omega | (unfold maxLen; omega))) ?_
                      refine AO.segF tab_ok 4 (by decide) [(12, .int .i64 v0_15.2), (165, .bool (decide (v0_14.2 = 4)))] [] (by (simp only [go_sem, hb2, hb8, hb15, hb17, hb19, hb22, hb25, hb27]) <;> (repeat' with_reducible apply And.intro) <;> first | assumption | rfl | omega | (unfold maxLen; omega)) ?_
                      rcases Bool.eq_false_or_eq_true (decide (v0_14.2 = 4)) with hb32 | hb32
                      · rw [if_pos hb32] at h
                        refine AO.weaken (s' := ⟨fr [(12, .int .i64 v0_15.2), (165, .bool true)], hpGet [], gt⟩) (Wk.to (by (simp only [go_sem, hb2, hb8, hb15, hb17, hb19, hb22, hb25, hb27, hb32]) <;> (repeat' with_reducible apply And.intro) <;> first | assumption | rfl | omega | (unfold maxLen; omega))) ?_
                        refine AO.segF tab_ok 3 (by decide) [(12, .int .i64 v0_15.2), (165, .bool true), (168, .bool (decide (v0_15.2 = 0)))] [] (by (simp only [go_sem, hb2, hb8, hb15, hb17, hb19, hb22, hb25, hb27, hb32]) <;> (repeat' with_reducible apply And.intro) <;> first | assumption | rfl | omega | (unfold maxLen; omega)) ?_
                        rcases Bool.eq_false_or_eq_true (decide (v0_15.2 = 0)) with hb33 | hb33
                        · rw [if_pos hb33] at h
                          refine AO.weaken (s' := ⟨fr [(12, .int .i64 v0_15.2), (165, .bool true), (168, .bool true)], hpGet [], gt⟩) (Wk.to (by (simp only [go_sem, hb2, hb8, hb15, hb17, hb19, hb22, hb25, hb27, hb32, hb33]) <;> (repeat' with_reducible apply And.intro) <;> first | assumption | rfl | omega | (unfold maxLen; omega))) ?_
                          refine AO.segF tab_ok 5 (by decide) [(173, .bool true)] [] (by (simp only [go_sem, hb2, hb8, hb15, hb17, hb19, hb22, hb25, hb27, hb32, hb33]) <;> (repeat' with_reducible apply And.intro) <;> first | assumption | rfl | omega | (unfold maxLen; omega)) ?_
                          obtain ⟨v0_18, hv34, h⟩ := Option.bind_eq_some_iff.1 h
                          refine AO.call tab_ok (by decide) rfl rfl rfl (fun _ h => ⟨fun _ => h, fun hn => absurd rfl hn⟩) [] [] (hc_lineallaw03_Awake hv34) rfl (by (simp only [go_sem, hb2, hb8, hb15, hb17, hb19, hb22, hb25, hb27, hb32, hb33]) <;> (repeat' with_reducible apply And.intro) <;> first | assumption | rfl | omega | (unfold maxLen; omega)) (by (simp only [go_sem, hb2, hb8, hb15, hb17, hb19, hb22, hb25, hb27, hb32, hb33]) <;> (repeat' with_reducible apply And.intro) <;> first | assumption | rfl | omega | (unfold maxLen; omega)) [(173, .bool true), (174, .bool v0_18)] [] (by (simp only [go_sem, hb2, hb8, hb15, hb17, hb19, hb22, hb25, hb27, hb32, hb33]) <;> (repeat' with_reducible apply And.intro) <;> first | assumption | rfl | omega | (unfold maxLen; omega)) ?_
                          refine AO.allF tab_ok (by decide) [(8, .bool v0_18)] [] (by (simp only [go_sem, hb2, hb8, hb15, hb17, hb19, hb22, hb25, hb27, hb32, hb33]) <;> (repeat' with_reducible apply And.intro) <;> first | assumption | rfl | omega | (unfold maxLen; omega)) ?_
                          refine athen_n ?_
                          refine AW.ret ?_
                          refine athen_r ?_
                          obtain rfl := Option.some.inj h
                          exact ⟨rfl, [], [], [], rfl, (by (simp only [go_sem, hb2, hb8, hb15, hb17, hb19, hb22, hb25, hb27, hb32, hb33]) <;> (repeat' with_reducible apply And.intro) <;> first | assumption | rfl | omega | (unfold maxLen; omega))⟩
                        · rw [if_neg (Bool.eq_false_iff.1 hb33)] at h
                          refine AO.weaken (s' := ⟨fr [(12, .int .i64 v0_15.2), (165, .bool true), (168, .bool false)], hpGet [], gt⟩) (Wk.to (by (simp only [go_sem, hb2, hb8, hb15, hb17, hb19, hb22, hb25, hb27, hb32, hb33]) <;> (repeat' with_reducible apply And.intro) <;> first | assumption | rfl | omega | (unfold maxLen; omega))) ?_
                          refine AO.segF tab_ok 5 (by decide) [(173, .bool (decide (v0_15.2 = 4)))] [] (by (simp only [go_sem, hb2, hb8, hb15, hb17, hb19, hb22, hb25, hb27, hb32, hb33]) <;> (repeat' with_reducible apply And.intro) <;> first | assumption | rfl | omega | (unfold maxLen; omega)) ?_
                          rcases Bool.eq_false_or_eq_true (decide (v0_15.2 = 4)) with hb35 | hb35
                          · rw [if_pos hb35] at h
                            refine AO.weaken (s' := ⟨fr [(173, .bool true)], hpGet [], gt⟩) (Wk.to (by (simp only [go_sem, hb2, hb8, hb15, hb17, hb19, hb22, hb25, hb27, hb32, hb33, hb35]) <;> (repeat' with_reducible apply And.intro) <;> first | assumption | rfl | omega | (unfold maxLen; omega))) ?_
                            obtain ⟨v0_19, hv36, h⟩ := Option.bind_eq_some_iff.1 h
                            refine AO.call tab_ok (by decide) rfl rfl rfl (fun _ h => ⟨fun _ => h, fun hn => absurd rfl hn⟩) [] [] (hc_lineallaw03_Awake hv36) rfl (by (simp only [go_sem, hb2, hb8, hb15, hb17, hb19, hb22, hb25, hb27, hb32, hb33, hb35]) <;> (repeat' with_reducible apply And.intro) <;> first | assumption | rfl | omega | (unfold maxLen; omega)) (by (simp only [go_sem, hb2, hb8, hb15, hb17, hb19, hb22, hb25, hb27, hb32, hb33, hb35]) <;> (repeat' with_reducible apply And.intro) <;> first | assumption | rfl | omega | (unfold maxLen; omega)) [(173, .bool true), (174, .bool v0_19)] [] (by (simp only [go_sem, hb2, hb8, hb15, hb17, hb19, hb22, hb25, hb27, hb32, hb33, hb35]) <;> (repeat' with_reducible apply And.intro) <;> first | assumption | rfl | omega | (unfold maxLen; omega)) ?_
                            refine AO.allF tab_ok (by decide) [(8, .bool v0_19)] [] (by (simp only [go_sem, hb2, hb8, hb15, hb17, hb19, hb22, hb25, hb27, hb32, hb33, hb35]) <;> (repeat' with_reducible apply And.intro) <;> first | assumption | rfl | omega | (unfold maxLen; omega)) ?_
                            refine athen_n ?_
                            refine AW.ret ?_
                            refine athen_r ?_
                            obtain rfl := Option.some.inj h
                            exact ⟨rfl, [], [], [], rfl, (by (simp only [go_sem, hb2, hb8, hb15, hb17, hb19, hb22, hb25, hb27, hb32, hb33, hb35]) <;> (repeat' with_reducible apply And.intro) <;> first | assumption | rfl | omega | (unfold maxLen; omega))⟩
                          · rw [if_neg (Bool.eq_false_iff.1 hb35)] at h
                            refine AO.weaken (s' := ⟨fr [(173, .bool false)], hpGet [], gt⟩) (Wk.to (by (simp only [go_sem, hb2, hb8, hb15, hb17, hb19, hb22, hb25, hb27, hb32, hb33, hb35]) <;> (repeat' with_reducible apply And.intro) <;> first | assumption | rfl | omega | (unfold maxLen; omega))) ?_
                            refine AO.allF tab_ok (by decide) [(8, .bool false)] [] (by (simp only [go_sem, hb2, hb8, hb15, hb17, hb19, hb22, hb25, hb27, hb32, hb33, hb35]) <;> (repeat' with_reducible apply And.intro) <;> first | assumption | rfl | omega | (unfold maxLen; omega)) ?_
                            refine athen_n ?_
                            refine AW.ret ?_
                            refine athen_r ?_
                            obtain rfl := Option.some.inj h
                            exact ⟨rfl, [], [], [], rfl, (by (simp only [go_sem, hb2, hb8, hb15, hb17, hb19, hb22, hb25, hb27, hb32, hb33, hb35]) <;> (repeat' with_reducible apply And.intro) <;> first | assumption | rfl | omega | (unfold maxLen; omega))⟩
                      · rw [if_neg (Bool.eq_false_iff.1 hb32)] at h
                        refine AO.weaken (s' := ⟨fr [(12, .int .i64 v0_15.2), (165, .bool false)], hpGet [], gt⟩) (Wk.to (by (simp only [go_sem, hb2, hb8, hb15, hb17, hb19, hb22, hb25, hb27, hb32]) <;> (repeat' with_reducible apply And.intro) <;> first | assumption | rfl | omega | (unfold maxLen; omega))) ?_
                        refine AO.segF tab_ok 4 (by decide) [(165, .bool false), (168, .cv (undef)), (169, .cv (undef))] [] (by (simp only [go_sem, hb2, hb8, hb15, hb17, hb19, hb22, hb25, hb27, hb32]) <;> (repeat' with_reducible apply And.intro) <;> first | assumption | rfl | omega | (unfold maxLen; omega)) ?_
                        refine AO.allF tab_ok (by decide) [(8, .bool false)] [] (by (simp only [go_sem, hb2, hb8, hb15, hb17, hb19, hb22, hb25, hb27, hb32]) <;> (repeat' with_reducible apply And.intro) <;> first | assumption | rfl | omega | (unfold maxLen; omega)) ?_
                        refine athen_n ?_
                        refine AW.ret ?_
                        refine athen_r ?_
                        obtain rfl := Option.some.inj h
                        exact ⟨rfl, [], [], [], rfl, (by (simp only [go_sem, hb2, hb8, hb15, hb17, hb19, hb22, hb25, hb27, hb32]) <;> (repeat' with_reducible apply And.intro) <;> first | assumption | rfl | omega | (unfold maxLen; omega))⟩
                  · rw [if_neg (Bool.eq_false_iff.1 hb25)] at h
                    refine AO.weaken (s' := ⟨fr [(1, .sl (.int .i64) u), (4, .bp 4 0), (10, .int .i64 v0_14.2), (12, .int .i64 v0_15.2), (20, .sl (.int .i64) v0_14.1), (21, .sl (.int .i64) v0_15.1), (155, .bool false)], hpGet [(4, .box 24 [.int .i64 l.1, .sl (.pair (.int .i64) (.int .i64)) l.2])], gt⟩) (Wk.to (by (simp only [go_sem, hb2, hb8, hb15, hb17, hb19, hb22, hb25]) <;> (repeat' with_reducible apply And.intro) <;> first | assumption | rfl | omega | (unfold maxLen; omega))) ?_
                    refine AO.allF tab_ok (by decide) [(1, .sl (.int .i64) u), (4, .bp 4 0), (10, .int .i64 v0_14.2), (12, .int .i64 v0_15.2), (20, .sl (.int .i64) v0_14.1), (21, .sl (.int .i64) v0_15.1), (158, .bool (!(decide (v0_15.2 = 0))))] [(4, .box 24 [.int .i64 l.1, .sl (.pair (.int .i64) (.int .i64)) l.2])] (by (simp only [go_sem, hb2, hb8, hb15, hb17, hb19, hb22, hb25]) <;> (repeat' with_reducible apply And.intro) <;> first | assumption | rfl | omega | (unfold maxLen; omega)) ?_
                    refine athen_n ?_
                    refine AW.cond (b := (!(decide (v0_15.2 = 0)))) rfl (fun hb37 => ?_) (fun hb37 => ?_)
                    · rw [if_pos hb37] at h
                      refine AW.seq ?_
                      refine AW.ops ?_
                      refine AO.segF tab_ok 3 (by decide) [(10, .int .i64 v0_14.2), (12, .int .i64 v0_15.2), (161, .bool (decide (v0_14.2 = 0)))] [] (by (simp only [go_sem, hb2, hb8, hb15, hb17, hb19, hb22, hb25, hb37]) <;> (repeat' with_reducible apply And.intro) <;> first | assumption | rfl | omega | (unfold maxLen; omega)) ?_
                      rcases Bool.eq_false_or_eq_true (decide (v0_14.2 = 0)) with hb38 | hb38
                      · rw [if_pos hb38] at h
                        refine AO.weaken (s' := ⟨fr [(10, .int .i64 v0_14.2), (12, .int .i64 v0_15.2), (161, .bool true)], hpGet [], gt⟩) (Wk.to (by (simp only [go_sem, hb2, hb8, hb15, hb17, hb19, hb22, hb25, hb37, hb38]) <;> (repeat' with_reducible apply And.intro) <;> first | assumption | rfl | omega | (unfold maxLen; omega))) ?_
                        refine AO.segF tab_ok 7 (by decide) [(12, .int .i64 v0_15.2), (165, .bool true), (168, .bool (decide (v0_15.2 = 0)))] [] (by (simp only [go_sem, hb2, hb8, hb15, hb17, hb19, hb22, hb25, hb37, hb38]) <;> (repeat' with_reducible apply And.intro) <;> first | assumption | rfl | omega | (unfold maxLen; omega)) ?_
                        rcases Bool.eq_false_or_eq_true (decide (v0_15.2 = 0)) with hb39 | hb39
                        · rw [if_pos hb39] at h
                          refine AO.weaken (s' := ⟨fr [(12, .int .i64 v0_15.2), (165, .bool true), (168, .bool true)], hpGet [], gt⟩) (Wk.to (by (simp only [go_sem, hb2, hb8, hb15, hb17, hb19, hb22, hb25, hb37, hb38, hb39]) <;> (repeat' with_reducible apply And.intro) <;> first | assumption | rfl | omega | (unfold maxLen; omega))) ?_
                          refine AO.segF tab_ok 5 (by decide) [(173, .bool true)] [] (by (simp only [go_sem, hb2, hb8, hb15, hb17, hb19, hb22, hb25, hb37, hb38, hb39]) <;> (repeat' with_reducible apply And.intro) <;> first | assumption | rfl | omega | (unfold maxLen; omega)) ?_
                          obtain ⟨v0_20, hv40, h⟩ := Option.bind_eq_some_iff.1 h
                          refine AO.call tab_ok (by decide) rfl rfl rfl (fun _ h => ⟨fun _ => h, fun hn => absurd rfl hn⟩) [] [] (hc_lineallaw03_Awake hv40) rfl (by (simp only [go_sem, hb2, hb8, hb15, hb17, hb19, hb22, hb25, hb37, hb38, hb39]) <;> (repeat' with_reducible apply And.intro) <;> first | assumption | rfl | omega | (unfold maxLen; omega)) (by (simp only [go_sem, hb2, hb8, hb15, hb17, hb19, hb22, hb25, hb37, hb38, hb39]) <;> (repeat' with_reducible apply And.intro) <;> first | assumption | rfl | omega | (unfold maxLen; omega)) [(173, .bool true), (174, .bool v0_20)] [] (by (simp only [go_sem, hb2, hb8, hb15, hb17, hb19, hb22, hb25, hb37, hb38, hb39]) <;> (repeat' with_reducible apply And.intro) <;> first | assumption | rfl | omega | (unfold maxLen; omega)) ?_
                          refine AO.allF tab_ok (by decide) [(8, .bool v0_20)] [] (by (simp only [go_sem, hb2, hb8, hb15, hb17, hb19, hb22, hb25, hb37, hb38, hb39]) <;> (repeat' with_reducible apply And.intro) <;> first | assumption | rfl | omega | (unfold maxLen; omega)) ?_
                          refine athen_n ?_
                          refine AW.ret ?_
                          refine athen_r ?_
                          obtain rfl := Option.some.inj h
                          exact ⟨rfl, [], [], [], rfl, (by (simp only [go_sem, hb2, hb8, hb15, hb17, hb19, hb22, hb25, hb37, hb38, hb39]) <;> (repeat' with_reducible apply And.intro) <;> first | assumption | rfl | omega | (unfold maxLen; omega))⟩
                        · rw [if_neg (Bool.eq_false_iff.1 hb39)] at h
                          refine AO.weaken (s' := ⟨fr [(12, .int .i64 v0_15.2), (165, .bool true), (168, .bool false)], hpGet [], gt⟩) (Wk.to (by (simp only [go_sem, hb2, hb8, hb15, hb17, hb19, hb22, hb25, hb37, hb38, hb39]) <;> (repeat' with_reducible apply And.intro) <;> first | assumption | rfl | omega | (unfold maxLen; omega))) ?_
                          refine AO.segF tab_ok 5 (by decide) [(173, .bool (decide (v0_15.2 = 4)))] [] (by (simp only [go_sem, hb2, hb8, hb15, hb17, hb19, hb22, hb25, hb37, hb38, hb39]) <;> (repeat' with_reducible apply And.intro) <;> first | assumption | rfl | omega | (unfold maxLen; omega)) ?_
                          rcases Bool.eq_false_or_eq_true (decide (v0_15.2 = 4)) with hb41 | hb41
                          · rw [if_pos hb41] at h
                            refine AO.weaken (s' := ⟨fr [(173, .bool true)], hpGet [], gt⟩) (Wk.to (by (simp only [go_sem, hb2, hb8, hb15, hb17, hb19, hb22, hb25, hb37, hb38, hb39, hb41]) <;> (repeat' with_reducible apply And.intro) <;> first | assumption | rfl | omega | (unfold maxLen; omega))) ?_
                            obtain ⟨v0_21, hv42, h⟩ := Option.bind_eq_some_iff.1 h
                            refine AO.call tab_ok (by decide) rfl rfl rfl (fun _ h => ⟨fun _ => h, fun hn => absurd rfl hn⟩) [] [] (hc_lineallaw03_Awake hv42) rfl (by (simp only [go_sem, hb2, hb8, hb15, hb17, hb19, hb22, hb25, hb37, hb38, hb39, hb41]) <;> (repeat' with_reducible apply And.intro) <;> first | assumption | rfl | omega | (unfold maxLen; omega)) (by (simp only [go_sem, hb2, hb8, hb15, hb17, hb19, hb22, hb25, hb37, hb38, hb39, hb41]) <;> (repeat' with_reducible apply And.intro) <;> first | assumption | rfl | omega | (unfold maxLen; omega)) [(173, .bool true), (174, .bool v0_21)] [] (by (simp only [go_sem, hb2, hb8, hb15, hb17, hb19, hb22, hb25, hb37, hb38, hb39, hb41]) <;> (repeat' with_reducible apply And.intro) <;> first | assumption | rfl | omega | (unfold maxLen; omega)) ?_
                            refine AO.allF tab_ok (by decide) [(8, .bool v0_21)] [] (by (simp only [go_sem, hb2, hb8, hb15, hb17, hb19, hb22, hb25, hb37, hb38, hb39, hb41]) <;> (repeat' with_reducible apply And.intro) <;> first | assumption | rfl | omega | (unfold maxLen; omega)) ?_
                            refine athen_n ?_
                            refine AW.ret ?_
                            refine athen_r ?_
                            obtain rfl := Option.some.inj h
                            exact ⟨rfl, [], [], [], rfl, (by (simp only [go_sem, hb2, hb8, hb15, hb17, hb19, hb22, hb25, hb37, hb38, hb39, hb41]) <;> (repeat' with_reducible apply And.intro) <;> first | assumption | rfl | omega | (unfold maxLen; omega))⟩
                          · rw [if_neg (Bool.eq_false_iff.1 hb41)] at h
                            refine AO.weaken (s' := ⟨fr [(173, .bool false)], hpGet [], gt⟩) (Wk.to (by (simp only [go_sem, hb2, hb8, hb15, hb17, hb19, hb22, hb25, hb37, hb38, hb39, hb41]) <;> (repeat' with_reducible apply And.intro) <;> first | assumption | rfl | omega | (unfold maxLen; omega))) ?_
                            refine AO.allF tab_ok (by decide) [(8, .bool false)] [] (by (simp only [go_sem, hb2, hb8, hb15, hb17, hb19, hb22, hb25, hb37, hb38, hb39, hb41]) <;> (repeat' with_reducible apply And.intro) <;> first | assumption | rfl | omega | (unfold maxLen; omega)) ?_
                            refine athen_n ?_
                            refine AW.ret ?_
                            refine athen_r ?_
                            obtain rfl := Option.some.inj h
                            exact ⟨rfl, [], [], [], rfl, (by (simp only [go_sem, hb2, hb8, hb15, hb17, hb19, hb22, hb25, hb37, hb38, hb39, hb41]) <;> (repeat' with_reducible apply And.intro) <;> first | assumption | rfl | omega | (unfold maxLen; omega))⟩
                      · rw [if_neg (Bool.eq_false_iff.1 hb38)] at h
                        refine AO.weaken (s' := ⟨fr [(10, .int .i64 v0_14.2), (12, .int .i64 v0_15.2), (161, .bool false)], hpGet [], gt⟩) (Wk.to (by (simp only [go_sem, hb2, hb8, hb15, hb17, hb19, hb22, hb25, hb37, hb38]) <;> (repeat' with_reducible apply And.intro) <;> first | assumption | rfl | omega | (unfold maxLen; omega))) ?_
                        refine AO.segF tab_ok 4 (by decide) [(12, .int .i64 v0_15.2), (165, .bool (decide (v0_14.2 = 4)))] [] (by (simp only [go_sem, hb2, hb8, hb15, hb17, hb19, hb22, hb25, hb37, hb38]) <;> (repeat' with_reducible apply And.intro) <;> first | assumption | rfl | omega | (unfold maxLen; omega)) ?_
                        rcases Bool.eq_false_or_eq_true (decide (v0_14.2 = 4)) with hb43 | hb43
                        · rw [if_pos hb43] at h
                          refine AO.weaken (s' := ⟨fr [(12, .int .i64 v0_15.2), (165, .bool true)], hpGet [], gt⟩) (Wk.to (by (simp only [go_sem, hb2, hb8, hb15, hb17, hb19, hb22, hb25, hb37, hb38, hb43]) <;> (repeat' with_reducible apply And.intro) <;> first | assumption | rfl | omega | (unfold maxLen; omega))) ?_
                          refine AO.segF tab_ok 3 (by decide) [(12, .int .i64 v0_15.2), (165, .bool true), (168, .bool (decide (v0_15.2 = 0)))] [] (by (simp only [go_sem, hb2, hb8, hb15, hb17, hb19, hb22, hb25, hb37, hb38, hb43]) <;> (repeat' with_reducible apply And.intro) <;> first | assumption | rfl | omega | (unfold maxLen; omega)) ?_
                          rcases Bool.eq_false_or_eq_true (decide (v0_15.2 = 0)) with hb44 | hb44
                          · rw [if_pos hb44] at h
                            refine AO.weaken (s' := ⟨fr [(12, .int .i64 v0_15.2), (165, .bool true), (168, .bool true)], hpGet [], gt⟩) (Wk.to (by (simp only [go_sem, hb2, hb8, hb15, hb17, hb19, hb22, hb25, hb37, hb38, hb43, hb44]) <;> (repeat' with_reducible apply And.intro) <;> first | assumption | rfl | omega | (unfold maxLen; omega))) ?_
                            refine AO.segF tab_ok 5 (by decide) [(173, .bool true)] [] (by (simp only [go_sem, hb2, hb8, hb15, hb17, hb19, hb22, hb25, hb37, hb38, hb43, hb44]) <;> (repeat' with_reducible apply And.intro) <;> first | assumption | rfl | omega | (unfold maxLen; omega)) ?_
                            obtain ⟨v0_22, hv45, h⟩ := Option.bind_eq_some_iff.1 h
                            refine AO.call tab_ok (by decide) rfl rfl rfl (fun _ h => ⟨fun _ => h, fun hn => absurd rfl hn⟩) [] [] (hc_lineallaw03_Awake hv45) rfl (by (simp only [go_sem, hb2, hb8, hb15, hb17, hb19, hb22, hb25, hb37, hb38, hb43, hb44]) <;> (repeat' with_reducible apply And.intro) <;> first | assumption | rfl | omega | (unfold maxLen; omega)) (by (simp only [go_sem, hb2, hb8, hb15, hb17, hb19, hb22, hb25, hb37, hb38, hb43, hb44]) <;> (repeat' with_reducible apply And.intro) <;> first | assumption | rfl | omega | (unfold maxLen; omega)) [(173, .bool true), (174, .bool v0_22)] [] (by (simp only [go_sem, hb2, hb8, hb15, hb17, hb19, hb22, hb25, hb37, hb38, hb43, hb44]) <;> (repeat' with_reducible apply And.intro) <;> first | assumption | rfl | omega | (unfold maxLen; omega)) ?_
                            refine AO.allF tab_ok (by decide) [(8, .bool v0_22)] [] (by (simp only [go_sem, hb2, hb8, hb15, hb17, hb19, hb22, hb25, hb37, hb38, hb43, hb44]) <;> (repeat' with_reducible apply And.intro) <;> first | assumption | rfl | omega | (unfold maxLen; omega)) ?_
                            refine athen_n ?_
                            refine AW.ret ?_
                            refine athen_r ?_
                            obtain rfl := Option.some.inj h
                            exact ⟨rfl, [], [], [], rfl, (by (simp only [go_sem, hb2, hb8, hb15, hb17, hb19, hb22, hb25, hb37, hb38, hb43, hb44]) <;> (repeat' with_reducible apply And.intro) <;> first | assumption | rfl | omega | (unfold maxLen; omega))⟩
                          · rw [if_neg (Bool.eq_false_iff.1 hb44)] at h
                            refine AO.weaken (s' := ⟨fr [(12, .int .i64 v0_15.2), (165, .bool true), (168, .bool false)], hpGet [], gt⟩) (Wk.to (by (simp only [go_sem, hb2, hb8, hb15, hb17, hb19, hb22, hb25, hb37, hb38, hb43, hb44]) <;> (repeat' with_reducible apply And.intro) <;> first | assumption | rfl | omega | (unfold maxLen; omega))) ?_
                            refine AO.segF tab_ok 5 (by decide) [(173, .bool (decide (v0_15.2 = 4)))] [] (by (simp only [go_sem, hb2, hb8, hb15, hb17, hb19, hb22, hb25, hb37, hb38, hb43, hb44]) <;> (repeat' with_reducible apply And.intro) <;> first | assumption | rfl | omega | (unfold maxLen; omega)) ?_
                            rcases Bool.eq_false_or_eq_true (decide (v0_15.2 = 4)) with hb46 | hb46
                            · rw [if_pos hb46] at h
                              refine AO.weaken (s' := ⟨fr [(173, .bool true)], hpGet [], gt⟩) (Wk.to (by (simp only [go_sem, hb2, hb8, hb15, hb17, hb19, hb22, hb25, hb37, hb38, hb43, hb44, hb46]) <;> (repeat' with_reducible apply And.intro) <;> first | assumption | rfl | omega | (unfold maxLen; omega))) ?_
                              obtain ⟨v0_23, hv47, h⟩ := Option.bind_eq_some_iff.1 h
                              refine AO.call tab_ok (by decide) rfl rfl rfl (fun _ h => ⟨fun _ => h, fun hn => absurd rfl hn⟩) [] [] (hc_lineallaw03_Awake hv47) rfl (by (simp only [go_sem, hb2, hb8, hb15, hb17, hb19, hb22, hb25, hb37, hb38, hb43, hb44, hb46]) <;> (repeat' with_reducible apply And.intro) <;> first | assumption | rfl | omega | (unfold maxLen; omega)) (by (simp only [go_sem, hb2, hb8, hb15, hb17, hb19, hb22, hb25, hb37, hb38, hb43, hb44, hb46]) <;> (repeat' with_reducible apply And.intro) <;> first | assumption | rfl | omega | (unfold maxLen; omega)) [(173, .bool true), (174, .bool v0_23)] [] (by (simp only [go_sem, hb2, hb8, hb15, hb17, hb19, hb22, hb25, hb37, hb38, hb43, hb44, hb46]) <;> (repeat' with_reducible apply And.intro) <;> first | assumption | rfl | omega | (unfold maxLen; omega)) ?_
                              refine AO.allF tab_ok (by decide) [(8, .bool v0_23)] [] (by (simp only [go_sem, hb2, hb8, hb15, hb17, hb19, hb22, hb25, hb37, hb38, hb43, hb44, hb46]) <;> (repeat' with_reducible apply And.intro) <;> first | assumption | rfl | omega | (unfold maxLen; omega)) ?_
                              refine athen_n ?_
                              refine AW.ret ?_
                              refine athen_r ?_
                              obtain rfl := Option.some.inj h
                              exact ⟨rfl, [], [], [], rfl, (by (simp only [go_sem, hb2, hb8, hb15, hb17, hb19, hb22, hb25, hb37, hb38, hb43, hb44, hb46]) <;> (repeat' with_reducible apply And.intro) <;> first | assumption | rfl | omega | (unfold maxLen; omega))⟩
                            · rw [if_neg (Bool.eq_false_iff.1 hb46)] at h
                              refine AO.weaken (s' := ⟨fr [(173, .bool false)], hpGet [], gt⟩) (Wk.to (by (simp only [go_sem, hb2, hb8, hb15, hb17, hb19, hb22, hb25, hb37, hb38, hb43, hb44, hb46]) <;> (repeat' with_reducible apply And.intro) <;> first | assumption | rfl | omega | (unfold maxLen; omega))) ?_
                              refine AO.allF tab_ok (by decide) [(8, .bool false)] [] (by (simp only [go_sem, hb2, hb8, hb15, hb17, hb19, hb22, hb25, hb37, hb38, hb43, hb44, hb46]) <;> (repeat' with_reducible apply And.intro) <;> first | assumption | rfl | omega | (unfold maxLen; omega)) ?_
                              refine athen_n ?_
                              refine AW.ret ?_
                              refine athen_r ?_
                              obtain rfl := Option.some.inj h
                              exact ⟨rfl, [], [], [], rfl, (by (simp only [go_sem, hb2, hb8, hb15, hb17, hb19, hb22, hb25, hb37, hb38, hb43, hb44, hb46]) <;> (repeat' with_reducible apply And.intro) <;> first | assumption | rfl | omega | (unfold maxLen; omega))⟩
                        · rw [if_neg (Bool.eq_false_iff.1 hb43)] at h
                          refine AO.weaken (s' := ⟨fr [(12, .int .i64 v0_15.2), (165, .bool false)], hpGet [], gt⟩) (Wk.to (by (simp only [go_sem, hb2, hb8, hb15, hb17, hb19, hb22, hb25, hb37, hb38, hb43]) <;> (repeat' with_reducible apply And.intro) <;> first | assumption | rfl | omega | (unfold maxLen; omega))) ?_
                          refine AO.segF tab_ok 4 (by decide) [(165, .bool false), (168, .cv (undef)), (169, .cv (undef))] [] (by (simp only [go_sem, hb2, hb8, hb15, hb17, hb19, hb22, hb25, hb37, hb38, hb43]) <;> (repeat' with_reducible apply And.intro) <;> first | assumption | rfl | omega | (unfold maxLen; omega)) ?_
                          refine AO.allF tab_ok (by decide) [(8, .bool false)] [] (by (simp only [go_sem, hb2, hb8, hb15, hb17, hb19, hb22, hb25, hb37, hb38, hb43]) <;> (repeat' with_reducible apply And.intro) <;> first | assumption | rfl | omega | (unfold maxLen; omega)) ?_
                          refine athen_n ?_
                          refine AW.ret ?_
                          refine athen_r ?_
                          obtain rfl := Option.some.inj h
                          exact ⟨rfl, [], [], [], rfl, (by (simp only [go_sem, hb2, hb8, hb15, hb17, hb19, hb22, hb25, hb37, hb38, hb43]) <;> (repeat' with_reducible apply And.intro) <;> first | assumption | rfl | omega | (unfold maxLen; omega))⟩
                    · rw [if_neg (Bool.eq_false_iff.1 hb37)] at h
                      refine AW.skip ?_
                      refine athen_n ?_
                      refine AW.seq ?_
                      refine AW.ops ?_
                      refine AO.segF tab_ok 3 (by decide) [(21, .sl (.int .i64) v0_15.1), (177, .agg [.int .i64 l.1, .sl (.pair (.int .i64) (.int .i64)) l.2]), (178, .sl (.int .i64) u), (179, .sl (.int .i64) v0_14.1)] [] (by (simp only [go_sem, hb2, hb8, hb15, hb17, hb19, hb22, hb25, hb37]) <;> (repeat' with_reducible apply And.intro) <;> first | assumption | rfl | omega | (unfold maxLen; omega)) ?_
                      obtain ⟨v0_24, hv48, h⟩ := Option.bind_eq_some_iff.1 h
                      refine AO.call tab_ok (by decide) rfl rfl rfl (fun _ h => h) [] [] (hc_weave_Joined l u v0_14.1 hv48) rfl (by (simp only [go_sem, hb2, hb8, hb15, hb17, hb19, hb22, hb25, hb37]) <;> (repeat' with_reducible apply And.intro) <;> first | assumption | rfl | omega | (unfold maxLen; omega)) (by (simp only [go_sem, hb2, hb8, hb15, hb17, hb19, hb22, hb25, hb37]) <;> (repeat' with_reducible apply And.intro) <;> first | assumption | rfl | omega | (unfold maxLen; omega)) [(21, .sl (.int .i64) v0_15.1), (180, .tup [.sl (.int .i64) v0_24.1, .int .i64 v0_24.2])] [] (by (simp only [go_sem, hb2, hb8, hb15, hb17, hb19, hb22, hb25, hb37]) <;> (repeat' with_reducible apply And.intro) <;> first | assumption | rfl | omega | (unfold maxLen; omega)) ?_
                      refine AO.allF tab_ok (by decide) [(14, .int .i64 v0_24.2), (21, .sl (.int .i64) v0_15.1), (22, .sl (.int .i64) v0_24.1)] [] (by (simp only [go_sem, hb2, hb8, hb15, hb17, hb19, hb22, hb25, hb37]) <;> (repeat' with_reducible apply And.intro) <;> first | assumption | rfl | omega | (unfold maxLen; omega)) ?_
                      refine athen_n ?_
                      refine AW.seq ?_
                      refine AW.ops ?_
                      refine AO.segF tab_ok 3 (by decide) [(21, .sl (.int .i64) v0_15.1), (22, .sl (.int .i64) v0_24.1), (185, .bool (decide (v0_24.2 = 0)))] [] (by (simp only [go_sem, hb2, hb8, hb15, hb17, hb19, hb22, hb25, hb37]) <;> (repeat' with_reducible apply And.intro) <;> first | assumption | rfl | omega | (unfold maxLen; omega)) ?_
                      rcases Bool.eq_false_or_eq_true (decide (v0_24.2 = 0)) with hb49 | hb49
                      · rw [if_pos hb49] at h
                        refine AO.weaken (s' := ⟨fr [(21, .sl (.int .i64) v0_15.1), (22, .sl (.int .i64) v0_24.1), (185, .bool true)], hpGet [], gt⟩) (Wk.to (by (simp only [go_sem, hb2, hb8, hb15, hb17, hb19, hb22, hb25, hb37, hb49]) <;> (repeat' with_reducible apply And.intro) <;> first | assumption | rfl | omega | (unfold maxLen; omega))) ?_
                        refine AO.segF tab_ok 2 (by decide) [(185, .bool true), (186, .sl (.int .i64) v0_15.1), (187, .sl (.int .i64) v0_24.1)] [] (by (simp only [go_sem, hb2, hb8, hb15, hb17, hb19, hb22, hb25, hb37, hb49]) <;> (repeat' with_reducible apply And.intro) <;> first | assumption | rfl | omega | (unfold maxLen; omega)) ?_
                        obtain ⟨v0_25, hv50, h⟩ := Option.bind_eq_some_iff.1 h
                        refine AO.call tab_ok (by decide) rfl rfl rfl (fun _ h => ⟨fun _ => h, fun hn => absurd rfl hn⟩) [] [] (hc_linealref03_SameInts v0_15.1 v0_24.1 hv50) rfl (by (simp only [go_sem, hb2, hb8, hb15, hb17, hb19, hb22, hb25, hb37, hb49]) <;> (repeat' with_reducible apply And.intro) <;> first | assumption | rfl | omega | (unfold maxLen; omega)) (by (simp only [go_sem, hb2, hb8, hb15, hb17, hb19, hb22, hb25, hb37, hb49]) <;> (repeat' with_reducible apply And.intro) <;> first | assumption | rfl | omega | (unfold maxLen; omega)) [(185, .bool true), (188, .bool v0_25)] [] (by (simp only [go_sem, hb2, hb8, hb15, hb17, hb19, hb22, hb25, hb37, hb49]) <;> (repeat' with_reducible apply And.intro) <;> first | assumption | rfl | omega | (unfold maxLen; omega)) ?_
                        refine AO.segF tab_ok 2 (by decide) [(190, .bool v0_25)] [] (by (simp only [go_sem, hb2, hb8, hb15, hb17, hb19, hb22, hb25, hb37, hb49]) <;> (repeat' with_reducible apply And.intro) <;> first | assumption | rfl | omega | (unfold maxLen; omega)) ?_
                        rcases Bool.eq_false_or_eq_true v0_25 with hb51 | hb51
                        · rw [if_pos hb51] at h
                          refine AO.weaken (s' := ⟨fr [(190, .bool true)], hpGet [], gt⟩) (Wk.to (by (simp only [go_sem, hb2, hb8, hb15, hb17, hb19, hb22, hb25, hb37, hb49, hb51]) <;> (repeat' with_reducible apply And.intro) <;> first | assumption | rfl | omega | (unfold maxLen; omega))) ?_
                          obtain ⟨v0_26, hv52, h⟩ := Option.bind_eq_some_iff.1 h
                          refine AO.call tab_ok (by decide) rfl rfl rfl (fun _ h => ⟨fun _ => h, fun hn => absurd rfl hn⟩) [] [] (hc_lineallaw03_Awake hv52) rfl (by (simp only [go_sem, hb2, hb8, hb15, hb17, hb19, hb22, hb25, hb37, hb49, hb51]) <;> (repeat' with_reducible apply And.intro) <;> first | assumption | rfl | omega | (unfold maxLen; omega)) (by (simp only [go_sem, hb2, hb8, hb15, hb17, hb19, hb22, hb25, hb37, hb49, hb51]) <;> (repeat' with_reducible apply And.intro) <;> first | assumption | rfl | omega | (unfold maxLen; omega)) [(190, .bool true), (191, .bool v0_26)] [] (by (simp only [go_sem, hb2, hb8, hb15, hb17, hb19, hb22, hb25, hb37, hb49, hb51]) <;> (repeat' with_reducible apply And.intro) <;> first | assumption | rfl | omega | (unfold maxLen; omega)) ?_
                          refine AO.allF tab_ok (by decide) [(8, .bool v0_26)] [] (by (simp only [go_sem, hb2, hb8, hb15, hb17, hb19, hb22, hb25, hb37, hb49, hb51]) <;> (repeat' with_reducible apply And.intro) <;> first | assumption | rfl | omega | (unfold maxLen; omega)) ?_
                          refine athen_n ?_
                          refine AW.ret ?_
                          obtain rfl := Option.some.inj h
                          exact ⟨rfl, [], [], [], rfl, (by (simp only [go_sem, hb2, hb8, hb15, hb17, hb19, hb22, hb25, hb37, hb49, hb51]) <;> (repeat' with_reducible apply And.intro) <;> first | assumption | rfl | omega | (unfold maxLen; omega))⟩
                        · rw [if_neg (Bool.eq_false_iff.1 hb51)] at h
                          refine AO.weaken (s' := ⟨fr [(190, .bool false)], hpGet [], gt⟩) (Wk.to (by (simp only [go_sem, hb2, hb8, hb15, hb17, hb19, hb22, hb25, hb37, hb49, hb51]) <;> (repeat' with_reducible apply And.intro) <;> first | assumption | rfl | omega | (unfold maxLen; omega))) ?_
                          refine AO.allF tab_ok (by decide) [(8, .bool false)] [] (by (simp only [go_sem, hb2, hb8, hb15, hb17, hb19, hb22, hb25, hb37, hb49, hb51]) <;> (repeat' with_reducible apply And.intro) <;> first | assumption | rfl | omega | (unfold maxLen; omega)) ?_
                          refine athen_n ?_
                          refine AW.ret ?_
                          obtain rfl := Option.some.inj h
                          exact ⟨rfl, [], [], [], rfl, (by (simp only [go_sem, hb2, hb8, hb15, hb17, hb19, hb22, hb25, hb37, hb49, hb51]) <;> (repeat' with_reducible apply And.intro) <;> first | assumption | rfl | omega | (unfold maxLen; omega))⟩
                      · rw [if_neg (Bool.eq_false_iff.1 hb49)] at h
                        refine AO.weaken (s' := ⟨fr [(21, .sl (.int .i64) v0_15.1), (22, .sl (.int .i64) v0_24.1), (185, .bool false)], hpGet [], gt⟩) (Wk.to (by (simp only [go_sem, hb2, hb8, hb15, hb17, hb19, hb22, hb25, hb37, hb49]) <;> (repeat' with_reducible apply And.intro) <;> first | assumption | rfl | omega | (unfold maxLen; omega))) ?_
                        refine AO.segF tab_ok 6 (by decide) [(190, .bool false), (191, .cv (undef))] [] (by (simp only [go_sem, hb2, hb8, hb15, hb17, hb19, hb22, hb25, hb37, hb49]) <;> (repeat' with_reducible apply And.intro) <;> first | assumption | rfl | omega | (unfold maxLen; omega)) ?_
                        refine AO.allF tab_ok (by decide) [(8, .bool false)] [] (by (simp only [go_sem, hb2, hb8, hb15, hb17, hb19, hb22, hb25, hb37, hb49]) <;> (repeat' with_reducible apply And.intro) <;> first | assumption | rfl | omega | (unfold maxLen; omega)) ?_
                        refine athen_n ?_
                        refine AW.ret ?_
                        obtain rfl := Option.some.inj h
                        exact ⟨rfl, [], [], [], rfl, (by (simp only [go_sem, hb2, hb8, hb15, hb17, hb19, hb22, hb25, hb37, hb49]) <;> (repeat' with_reducible apply And.intro) <;> first | assumption | rfl | omega | (unfold maxLen; omega))⟩
      · refine AW.seq ?_
        refine AW.seq ?_
        refine AW.ops ?_
        refine AO.allF tab_ok (by decide) [(1, .sl (.int .i64) u), (2, .sl (.int .i64) w), (3, .sl (.int .i64) v0), (4, .bp 4 0), (11, .sl (.int .i64) v0_5.1), (13, .sl (.int .i64) v0_6.1), (71, .bool v0_4.1)] [(4, .box 24 [.int .i64 l.1, .sl (.pair (.int .i64) (.int .i64)) l.2])] (by (simp only [go_sem, hb2]) <;> (repeat' with_reducible apply And.intro) <;> first | assumption | rfl | omega | (unfold maxLen; omega)) ?_
        refine athen_n ?_
        refine AW.cond (b := v0_4.1) rfl (fun hb53 => ?_) (fun hb53 => ?_)
        · rw [if_pos hb53] at h
          refine AW.seq ?_
          refine AW.ops ?_
          refine AO.segF tab_ok 3 (by decide) [(1, .sl (.int .i64) u), (2, .sl (.int .i64) w), (3, .sl (.int .i64) v0), (4, .bp 4 0), (13, .sl (.int .i64) v0_6.1), (73, .agg [.int .i64 l.1, .sl (.pair (.int .i64) (.int .i64)) l.2]), (74, .sl (.int .i64) u), (75, .sl (.int .i64) v0_5.1)] [(4, .box 24 [.int .i64 l.1, .sl (.pair (.int .i64) (.int .i64)) l.2])] (by (simp only [go_sem, hb2, hb53]) <;> (repeat' with_reducible apply And.intro) <;> first | assumption | rfl | omega | (unfold maxLen; omega)) ?_
          obtain ⟨v0_7, hv54, h⟩ := Option.bind_eq_some_iff.1 h
          refine AO.call tab_ok (by decide) rfl rfl rfl (fun _ h => h) [] [] (hc_weave_Joined l u v0_5.1 hv54) rfl (by (simp only [go_sem, hb2, hb53]) <;> (repeat' with_reducible apply And.intro) <;> first | assumption | rfl | omega | (unfold maxLen; omega)) (by (simp only [go_sem, hb2, hb53]) <;> (repeat' with_reducible apply And.intro) <;> first | assumption | rfl | omega | (unfold maxLen; omega)) [(1, .sl (.int .i64) u), (2, .sl (.int .i64) w), (3, .sl (.int .i64) v0), (4, .bp 4 0), (13, .sl (.int .i64) v0_6.1), (76, .tup [.sl (.int .i64) v0_7.1, .int .i64 v0_7.2])] [(4, .box 24 [.int .i64 l.1, .sl (.pair (.int .i64) (.int .i64)) l.2])] (by (simp only [go_sem, hb2, hb53]) <;> (repeat' with_reducible apply And.intro) <;> first | assumption | rfl | omega | (unfold maxLen; omega)) ?_
          refine AO.allF tab_ok (by decide) [(1, .sl (.int .i64) u), (2, .sl (.int .i64) w), (3, .sl (.int .i64) v0), (4, .bp 4 0), (13, .sl (.int .i64) v0_6.1), (15, .sl (.int .i64) v0_7.1), (16, .int .i64 v0_7.2)] [(4, .box 24 [.int .i64 l.1, .sl (.pair (.int .i64) (.int .i64)) l.2])] (by (simp only [go_sem, hb2, hb53]) <;> (repeat' with_reducible apply And.intro) <;> first | assumption | rfl | omega | (unfold maxLen; omega)) ?_
          refine athen_n ?_
          refine AW.seq ?_
          refine AW.ops ?_
          refine AO.segF tab_ok 3 (by decide) [(1, .sl (.int .i64) u), (2, .sl (.int .i64) w), (3, .sl (.int .i64) v0), (4, .bp 4 0), (13, .sl (.int .i64) v0_6.1), (15, .sl (.int .i64) v0_7.1), (81, .bool (!(decide (v0_7.2 = 0))))] [(4, .box 24 [.int .i64 l.1, .sl (.pair (.int .i64) (.int .i64)) l.2])] (by (simp only [go_sem, hb2, hb53]) <;> (repeat' with_reducible apply And.intro) <;> first | assumption | rfl | omega | (unfold maxLen; omega)) ?_
          rcases Bool.eq_false_or_eq_true (!(decide (v0_7.2 = 0))) with hb55 | hb55
          · rw [if_pos hb55] at h
            refine AO.weaken (s' := ⟨fr [(1, .sl (.int .i64) u), (2, .sl (.int .i64) w), (3, .sl (.int .i64) v0), (4, .bp 4 0), (13, .sl (.int .i64) v0_6.1), (15, .sl (.int .i64) v0_7.1), (81, .bool true)], hpGet [(4, .box 24 [.int .i64 l.1, .sl (.pair (.int .i64) (.int .i64)) l.2])], gt⟩) (Wk.to (by (simp only [go_sem, hb2, hb53, hb55]) <;> (repeat' with_reducible apply And.intro) <;> first | assumption | rfl | omega | (unfold maxLen; omega))) ?_
            refine AO.segF tab_ok 4 (by decide) [(1, .sl (.int .i64) u), (2, .sl (.int .i64) w), (3, .sl (.int .i64) v0), (4, .bp 4 0), (13, .sl (.int .i64) v0_6.1), (81, .bool true), (85, .cv (undef))] [(4, .box 24 [.int .i64 l.1, .sl (.pair (.int .i64) (.int .i64)) l.2])] (by (simp only [go_sem, hb2, hb53, hb55]) <;> (repeat' with_reducible apply And.intro) <;> first | assumption | rfl | omega | (unfold maxLen; omega)) ?_
            refine AO.allF tab_ok (by decide) [(1, .sl (.int .i64) u), (2, .sl (.int .i64) w), (3, .sl (.int .i64) v0), (4, .bp 4 0), (13, .sl (.int .i64) v0_6.1), (86, .bool true)] [(4, .box 24 [.int .i64 l.1, .sl (.pair (.int .i64) (.int .i64)) l.2])] (by (simp only [go_sem, hb2, hb53, hb55]) <;> (repeat' with_reducible apply And.intro) <;> first | assumption | rfl | omega | (unfold maxLen; omega)) ?_
            refine athen_n ?_
            refine AW.cond (b := true) rfl (fun _ => ?_) (fun hb56 => by cases hb56)
            refine AW.seq ?_
            refine AW.ops ?_
            refine AO.allF tab_ok (by decide) [(8, .bool false)] [] (by (simp only [go_sem, hb2, hb53, hb55]) <;> (repeat' with_reducible apply And.intro) <;> first | assumption | rfl | omega | (unfold maxLen; omega)) ?_
            refine athen_n ?_
            refine AW.ret ?_
            refine athen_r ?_
            obtain rfl := Option.some.inj h
            exact ⟨rfl, [], [], [], rfl, (by (simp only [go_sem, hb2, hb53, hb55]) <;> (repeat' with_reducible apply And.intro) <;> first | assumption | rfl | omega | (unfold maxLen; omega))⟩
          · rw [if_neg (Bool.eq_false_iff.1 hb55)] at h
            refine AO.weaken (s' := ⟨fr [(1, .sl (.int .i64) u), (2, .sl (.int .i64) w), (3, .sl (.int .i64) v0), (4, .bp 4 0), (13, .sl (.int .i64) v0_6.1), (15, .sl (.int .i64) v0_7.1), (81, .bool false)], hpGet [(4, .box 24 [.int .i64 l.1, .sl (.pair (.int .i64) (.int .i64)) l.2])], gt⟩) (Wk.to (by (simp only [go_sem, hb2, hb53, hb55]) <;> (repeat' with_reducible apply And.intro) <;> first | assumption | rfl | omega | (unfold maxLen; omega))) ?_
            refine AO.segF tab_ok 2 (by decide) [(1, .sl (.int .i64) u), (2, .sl (.int .i64) w), (3, .sl (.int .i64) v0), (4, .bp 4 0), (13, .sl (.int .i64) v0_6.1), (81, .bool false), (82, .sl (.int .i64) v0_7.1), (83, .sl (.int .i64) v0_6.1)] [(4, .box 24 [.int .i64 l.1, .sl (.pair (.int .i64) (.int .i64)) l.2])] (by (simp only [go_sem, hb2, hb53, hb55]) <;> (repeat' with_reducible apply And.intro) <;> first | assumption | rfl | omega | (unfold maxLen; omega)) ?_
            obtain ⟨v0_8, hv57, h⟩ := Option.bind_eq_some_iff.1 h
            refine AO.call tab_ok (by decide) rfl rfl rfl (fun _ h => ⟨fun _ => h, fun hn => absurd rfl hn⟩) [] [] (hc_linealref03_SameInts v0_7.1 v0_6.1 hv57) rfl (by (simp only [go_sem, hb2, hb53, hb55]) <;> (repeat' with_reducible apply And.intro) <;> first | assumption | rfl | omega | (unfold maxLen; omega)) (by (simp only [go_sem, hb2, hb53, hb55]) <;> (repeat' with_reducible apply And.intro) <;> first | assumption | rfl | omega | (unfold maxLen; omega)) [(1, .sl (.int .i64) u), (2, .sl (.int .i64) w), (3, .sl (.int .i64) v0), (4, .bp 4 0), (13, .sl (.int .i64) v0_6.1), (81, .bool false), (84, .bool v0_8)] [(4, .box 24 [.int .i64 l.1, .sl (.pair (.int .i64) (.int .i64)) l.2])] (by (simp only [go_sem, hb2, hb53, hb55]) <;> (repeat' with_reducible apply And.intro) <;> first | assumption | rfl | omega | (unfold maxLen; omega)) ?_
            refine AO.allF tab_ok (by decide) [(1, .sl (.int .i64) u), (2, .sl (.int .i64) w), (3, .sl (.int .i64) v0), (4, .bp 4 0), (13, .sl (.int .i64) v0_6.1), (86, .bool (!v0_8))] [(4, .box 24 [.int .i64 l.1, .sl (.pair (.int .i64) (.int .i64)) l.2])] (by (simp only [go_sem, hb2, hb53, hb55]) <;> (repeat' with_reducible apply And.intro) <;> first | assumption | rfl | omega | (unfold maxLen; omega)) ?_
            refine athen_n ?_
            refine AW.cond (b := (!v0_8)) rfl (fun hb58 => ?_) (fun hb58 => ?_)
            · rw [if_pos hb58] at h
              refine AW.seq ?_
              refine AW.ops ?_
              refine AO.allF tab_ok (by decide) [(8, .bool false)] [] (by (simp only [go_sem, hb2, hb53, hb55, hb58]) <;> (repeat' with_reducible apply And.intro) <;> first | assumption | rfl | omega | (unfold maxLen; omega)) ?_
              refine athen_n ?_
              refine AW.ret ?_
              refine athen_r ?_
              obtain rfl := Option.some.inj h
              exact ⟨rfl, [], [], [], rfl, (by (simp only [go_sem, hb2, hb53, hb55, hb58]) <;> (repeat' with_reducible apply And.intro) <;> first | assumption | rfl | omega | (unfold maxLen; omega))⟩
            · rw [if_neg (Bool.eq_false_iff.1 hb58)] at h
              refine AW.skip ?_
              refine athen_n ?_
              exact AW.weaken (Wk.le [] [] [] rfl (by (simp only [go_sem, hb2, hb53, hb55, hb58]) <;> (repeat' with_reducible apply And.intro) <;> first | assumption | rfl | omega | (unfold maxLen; omega)) (by (simp only [go_sem, hb2, hb53, hb55, hb58]) <;> (repeat' with_reducible apply And.intro) <;> first | assumption | rfl | omega | (unfold maxLen; omega))) (hk_lineallaw03_WeaveBegins_k2 () h)
        · rw [if_neg (Bool.eq_false_iff.1 hb53)] at h
          refine AW.skip ?_
          refine athen_n ?_
          exact AW.weaken (Wk.le [] [] [] rfl (by (simp only [go_sem, hb2, hb53]) <;> (repeat' with_reducible apply And.intro) <;> first | assumption | rfl | omega | (unfold maxLen; omega)) (by (simp only [go_sem, hb2, hb53]) <;> (repeat' with_reducible apply And.intro) <;> first | assumption | rfl | omega | (unfold maxLen; omega))) (hk_lineallaw03_WeaveBegins_k2 () h)
    · refine AW.seq ?_
      refine AW.seq ?_
      refine AW.ops ?_
      refine AO.segF tab_ok 3 (by decide) [(1, .sl (.int .i64) u), (2, .sl (.int .i64) w), (3, .sl (.int .i64) v0), (4, .bp 4 0), (9, .bool v0_4.1), (11, .sl (.int .i64) v0_5.1), (12, .int .i64 v0_5.2), (13, .sl (.int .i64) v0_6.1), (14, .int .i64 v0_6.2), (53, .bool (!(decide (v0_4.2 = 0))))] [(4, .box 24 [.int .i64 l.1, .sl (.pair (.int .i64) (.int .i64)) l.2])] (by (simp only [go_sem, hb2]) <;> (repeat' with_reducible apply And.intro) <;> first | assumption | rfl | omega | (unfold maxLen; omega)) ?_
      rcases Bool.eq_false_or_eq_true (!(decide (v0_4.2 = 0))) with hb59 | hb59
      · rw [if_pos hb59] at h
        refine AO.weaken (s' := ⟨fr [(1, .sl (.int .i64) u), (2, .sl (.int .i64) w), (3, .sl (.int .i64) v0), (4, .bp 4 0), (9, .bool v0_4.1), (11, .sl (.int .i64) v0_5.1), (12, .int .i64 v0_5.2), (13, .sl (.int .i64) v0_6.1), (14, .int .i64 v0_6.2), (53, .bool true)], hpGet [(4, .box 24 [.int .i64 l.1, .sl (.pair (.int .i64) (.int .i64)) l.2])], gt⟩) (Wk.to (by (simp only [go_sem, hb2, hb59]) <;> (repeat' with_reducible apply And.intro) <;> first | assumption | rfl | omega | (unfold maxLen; omega))) ?_
        refine AO.segF tab_ok 6 (by decide) [(1, .sl (.int .i64) u), (2, .sl (.int .i64) w), (3, .sl (.int .i64) v0), (4, .bp 4 0), (9, .bool v0_4.1), (11, .sl (.int .i64) v0_5.1), (12, .int .i64 v0_5.2), (13, .sl (.int .i64) v0_6.1), (57, .bool true), (58, .cv (undef)), (59, .cv (undef))] [(4, .box 24 [.int .i64 l.1, .sl (.pair (.int .i64) (.int .i64)) l.2])] (by (simp only [go_sem, hb2, hb59]) <;> (repeat' with_reducible apply And.intro) <;> first | assumption | rfl | omega | (unfold maxLen; omega)) ?_
        refine AO.segF tab_ok 6 (by decide) [(1, .sl (.int .i64) u), (2, .sl (.int .i64) w), (3, .sl (.int .i64) v0), (4, .bp 4 0), (9, .bool v0_4.1), (11, .sl (.int .i64) v0_5.1), (12, .int .i64 v0_5.2), (13, .sl (.int .i64) v0_6.1), (63, .bool true), (65, .cv (undef))] [(4, .box 24 [.int .i64 l.1, .sl (.pair (.int .i64) (.int .i64)) l.2])] (by (simp only [go_sem, hb2, hb59]) <;> (repeat' with_reducible apply And.intro) <;> first | assumption | rfl | omega | (unfold maxLen; omega)) ?_
        refine AO.segF tab_ok 4 (by decide) [(1, .sl (.int .i64) u), (2, .sl (.int .i64) w), (3, .sl (.int .i64) v0), (4, .bp 4 0), (9, .bool v0_4.1), (11, .sl (.int .i64) v0_5.1), (13, .sl (.int .i64) v0_6.1), (63, .bool true), (69, .cv (undef))] [(4, .box 24 [.int .i64 l.1, .sl (.pair (.int .i64) (.int .i64)) l.2])] (by (simp only [go_sem, hb2, hb59]) <;> (repeat' with_reducible apply And.intro) <;> first | assumption | rfl | omega | (unfold maxLen; omega)) ?_
        refine AO.allF tab_ok (by decide) [(1, .sl (.int .i64) u), (2, .sl (.int .i64) w), (3, .sl (.int .i64) v0), (4, .bp 4 0), (9, .bool v0_4.1), (11, .sl (.int .i64) v0_5.1), (13, .sl (.int .i64) v0_6.1), (70, .bool true)] [(4, .box 24 [.int .i64 l.1, .sl (.pair (.int .i64) (.int .i64)) l.2])] (by (simp only [go_sem, hb2, hb59]) <;> (repeat' with_reducible apply And.intro) <;> first | assumption | rfl | omega | (unfold maxLen; omega)) ?_
        refine athen_n ?_
        refine AW.cond (b := true) rfl (fun _ => ?_) (fun hb60 => by cases hb60)
        refine AW.seq ?_
        refine AW.ops ?_
        refine AO.allF tab_ok (by decide) [(8, .bool false)] [] (by (simp only [go_sem, hb2, hb59]) <;> (repeat' with_reducible apply And.intro) <;> first | assumption | rfl | omega | (unfold maxLen; omega)) ?_
        refine athen_n ?_
        refine AW.ret ?_
        refine athen_r ?_
        obtain rfl := Option.some.inj h
        exact ⟨rfl, [], [], [], rfl, (by (simp only [go_sem, hb2, hb59]) <;> (repeat' with_reducible apply And.intro) <;> first | assumption | rfl | omega | (unfold maxLen; omega))⟩
      · rw [if_neg (Bool.eq_false_iff.1 hb59)] at h
        refine AO.weaken (s' := ⟨fr [(1, .sl (.int .i64) u), (2, .sl (.int .i64) w), (3, .sl (.int .i64) v0), (4, .bp 4 0), (9, .bool v0_4.1), (11, .sl (.int .i64) v0_5.1), (12, .int .i64 v0_5.2), (13, .sl (.int .i64) v0_6.1), (14, .int .i64 v0_6.2), (53, .bool false)], hpGet [(4, .box 24 [.int .i64 l.1, .sl (.pair (.int .i64) (.int .i64)) l.2])], gt⟩) (Wk.to (by (simp only [go_sem, hb2, hb59]) <;> (repeat' with_reducible apply And.intro) <;> first | assumption | rfl | omega | (unfold maxLen; omega))) ?_
        refine AO.segF tab_ok 4 (by decide) [(1, .sl (.int .i64) u), (2, .sl (.int .i64) w), (3, .sl (.int .i64) v0), (4, .bp 4 0), (9, .bool v0_4.1), (11, .sl (.int .i64) v0_5.1), (12, .int .i64 v0_5.2), (13, .sl (.int .i64) v0_6.1), (57, .bool (!(decide (v0_6.2 = 0))))] [(4, .box 24 [.int .i64 l.1, .sl (.pair (.int .i64) (.int .i64)) l.2])] (by (simp only [go_sem, hb2, hb59]) <;> (repeat' with_reducible apply And.intro) <;> first | assumption | rfl | omega | (unfold maxLen; omega)) ?_
        rcases Bool.eq_false_or_eq_true (!(decide (v0_6.2 = 0))) with hb61 | hb61
        · rw [if_pos hb61] at h
          refine AO.weaken (s' := ⟨fr [(1, .sl (.int .i64) u), (2, .sl (.int .i64) w), (3, .sl (.int .i64) v0), (4, .bp 4 0), (9, .bool v0_4.1), (11, .sl (.int .i64) v0_5.1), (12, .int .i64 v0_5.2), (13, .sl (.int .i64) v0_6.1), (57, .bool true)], hpGet [(4, .box 24 [.int .i64 l.1, .sl (.pair (.int .i64) (.int .i64)) l.2])], gt⟩) (Wk.to (by (simp only [go_sem, hb2, hb59, hb61]) <;> (repeat' with_reducible apply And.intro) <;> first | assumption | rfl | omega | (unfold maxLen; omega))) ?_
          refine AO.segF tab_ok 4 (by decide) [(1, .sl (.int .i64) u), (2, .sl (.int .i64) w), (3, .sl (.int .i64) v0), (4, .bp 4 0), (9, .bool v0_4.1), (11, .sl (.int .i64) v0_5.1), (12, .int .i64 v0_5.2), (13, .sl (.int .i64) v0_6.1), (57, .bool true), (61, .cv (undef))] [(4, .box 24 [.int .i64 l.1, .sl (.pair (.int .i64) (.int .i64)) l.2])] (by (simp only [go_sem, hb2, hb59, hb61]) <;> (repeat' with_reducible apply And.intro) <;> first | assumption | rfl | omega | (unfold maxLen; omega)) ?_
          refine AO.segF tab_ok 6 (by decide) [(1, .sl (.int .i64) u), (2, .sl (.int .i64) w), (3, .sl (.int .i64) v0), (4, .bp 4 0), (9, .bool v0_4.1), (11, .sl (.int .i64) v0_5.1), (13, .sl (.int .i64) v0_6.1), (63, .bool true), (66, .cv (undef)), (67, .cv (undef))] [(4, .box 24 [.int .i64 l.1, .sl (.pair (.int .i64) (.int .i64)) l.2])] (by (simp only [go_sem, hb2, hb59, hb61]) <;> (repeat' with_reducible apply And.intro) <;> first | assumption | rfl | omega | (unfold maxLen; omega)) ?_
          refine AO.allF tab_ok (by decide) [(1, .sl (.int .i64) u), (2, .sl (.int .i64) w), (3, .sl (.int .i64) v0), (4, .bp 4 0), (9, .bool v0_4.1), (11, .sl (.int .i64) v0_5.1), (13, .sl (.int .i64) v0_6.1), (70, .bool true)] [(4, .box 24 [.int .i64 l.1, .sl (.pair (.int .i64) (.int .i64)) l.2])] (by (simp only [go_sem, hb2, hb59, hb61]) <;> (repeat' with_reducible apply And.intro) <;> first | assumption | rfl | omega | (unfold maxLen; omega)) ?_
          refine athen_n ?_
          refine AW.cond (b := true) rfl (fun _ => ?_) (fun hb62 => by cases hb62)
          refine AW.seq ?_
          refine AW.ops ?_
          refine AO.allF tab_ok (by decide) [(8, .bool false)] [] (by (simp only [go_sem, hb2, hb59, hb61]) <;> (repeat' with_reducible apply And.intro) <;> first | assumption | rfl | omega | (unfold maxLen; omega)) ?_
          refine athen_n ?_
          refine AW.ret ?_
          refine athen_r ?_
          obtain rfl := Option.some.inj h
          exact ⟨rfl, [], [], [], rfl, (by (simp only [go_sem, hb2, hb59, hb61]) <;> (repeat' with_reducible apply And.intro) <;> first | assumption | rfl | omega | (unfold maxLen; omega))⟩
        · rw [if_neg (Bool.eq_false_iff.1 hb61)] at h
          refine AO.weaken (s' := ⟨fr [(1, .sl (.int .i64) u), (2, .sl (.int .i64) w), (3, .sl (.int .i64) v0), (4, .bp 4 0), (9, .bool v0_4.1), (11, .sl (.int .i64) v0_5.1), (12, .int .i64 v0_5.2), (13, .sl (.int .i64) v0_6.1), (57, .bool false)], hpGet [(4, .box 24 [.int .i64 l.1, .sl (.pair (.int .i64) (.int .i64)) l.2])], gt⟩) (Wk.to (by (simp only [go_sem, hb2, hb59, hb61]) <;> (repeat' with_reducible apply And.intro) <;> first | assumption | rfl | omega | (unfold maxLen; omega))) ?_
          refine AO.segF tab_ok 6 (by decide) [(1, .sl (.int .i64) u), (2, .sl (.int .i64) w), (3, .sl (.int .i64) v0), (4, .bp 4 0), (9, .bool v0_4.1), (11, .sl (.int .i64) v0_5.1), (12, .int .i64 v0_5.2), (13, .sl (.int .i64) v0_6.1), (63, .bool ((v0_4.1 == (decide (v0_5.2 = 0))) != true))] [(4, .box 24 [.int .i64 l.1, .sl (.pair (.int .i64) (.int .i64)) l.2])] (by (simp only [go_sem, hb2, hb59, hb61]) <;> (repeat' with_reducible apply And.intro) <;> first | assumption | rfl | omega | (unfold maxLen; omega)) ?_
          rcases Bool.eq_false_or_eq_true ((v0_4.1 == (decide (v0_5.2 = 0))) != true) with hb63 | hb63
          · rw [if_pos hb63] at h
            refine AO.weaken (s' := ⟨fr [(1, .sl (.int .i64) u), (2, .sl (.int .i64) w), (3, .sl (.int .i64) v0), (4, .bp 4 0), (9, .bool v0_4.1), (11, .sl (.int .i64) v0_5.1), (12, .int .i64 v0_5.2), (13, .sl (.int .i64) v0_6.1), (63, .bool true)], hpGet [(4, .box 24 [.int .i64 l.1, .sl (.pair (.int .i64) (.int .i64)) l.2])], gt⟩) (Wk.to (by (simp only [go_sem, hb2, hb59, hb61, hb63]) <;> (repeat' with_reducible apply And.intro) <;> first | assumption | rfl | omega | (unfold maxLen; omega))) ?_
            refine AO.segF tab_ok 4 (by decide) [(1, .sl (.int .i64) u), (2, .sl (.int .i64) w), (3, .sl (.int .i64) v0), (4, .bp 4 0), (9, .bool v0_4.1), (11, .sl (.int .i64) v0_5.1), (13, .sl (.int .i64) v0_6.1), (63, .bool true), (66, .cv (undef)), (67, .cv (undef))] [(4, .box 24 [.int .i64 l.1, .sl (.pair (.int .i64) (.int .i64)) l.2])] (by (simp only [go_sem, hb2, hb59, hb61, hb63]) <;> (repeat' with_reducible apply And.intro) <;> first | assumption | rfl | omega | (unfold maxLen; omega)) ?_
            refine AO.allF tab_ok (by decide) [(1, .sl (.int .i64) u), (2, .sl (.int .i64) w), (3, .sl (.int .i64) v0), (4, .bp 4 0), (9, .bool v0_4.1), (11, .sl (.int .i64) v0_5.1), (13, .sl (.int .i64) v0_6.1), (70, .bool true)] [(4, .box 24 [.int .i64 l.1, .sl (.pair (.int .i64) (.int .i64)) l.2])] (by (simp only [go_sem, hb2, hb59, hb61, hb63]) <;> (repeat' with_reducible apply And.intro) <;> first | assumption | rfl | omega | (unfold maxLen; omega)) ?_
            refine athen_n ?_
            refine AW.cond (b := true) rfl (fun _ => ?_) (fun hb64 => by cases hb64)
            refine AW.seq ?_
            refine AW.ops ?_
            refine AO.allF tab_ok (by decide) [(8, .bool false)] [] (by (simp only [go_sem, hb2, hb59, hb61, hb63]) <;> (repeat' with_reducible apply And.intro) <;> first | assumption | rfl | omega | (unfold maxLen; omega)) ?_
            refine athen_n ?_
            refine AW.ret ?_
            refine athen_r ?_
            obtain rfl := Option.some.inj h
            exact ⟨rfl, [], [], [], rfl, (by (simp only [go_sem, hb2, hb59, hb61, hb63]) <;> (repeat' with_reducible apply And.intro) <;> first | assumption | rfl | omega | (unfold maxLen; omega))⟩
          · rw [if_neg (Bool.eq_false_iff.1 hb63)] at h
            refine AO.weaken (s' := ⟨fr [(1, .sl (.int .i64) u), (2, .sl (.int .i64) w), (3, .sl (.int .i64) v0), (4, .bp 4 0), (9, .bool v0_4.1), (11, .sl (.int .i64) v0_5.1), (12, .int .i64 v0_5.2), (13, .sl (.int .i64) v0_6.1), (63, .bool false)], hpGet [(4, .box 24 [.int .i64 l.1, .sl (.pair (.int .i64) (.int .i64)) l.2])], gt⟩) (Wk.to (by (simp only [go_sem, hb2, hb59, hb61, hb63]) <;> (repeat' with_reducible apply And.intro) <;> first | assumption | rfl | omega | (unfold maxLen; omega))) ?_
            refine AO.segF tab_ok 3 (by decide) [(1, .sl (.int .i64) u), (2, .sl (.int .i64) w), (3, .sl (.int .i64) v0), (4, .bp 4 0), (9, .bool v0_4.1), (11, .sl (.int .i64) v0_5.1), (12, .int .i64 v0_5.2), (13, .sl (.int .i64) v0_6.1), (63, .bool false), (66, .bool (!v0_4.1))] [(4, .box 24 [.int .i64 l.1, .sl (.pair (.int .i64) (.int .i64)) l.2])] (by (simp only [go_sem, hb2, hb59, hb61, hb63]) <;> (repeat' with_reducible apply And.intro) <;> first | assumption | rfl | omega | (unfold maxLen; omega)) ?_
            rcases Bool.eq_false_or_eq_true (!v0_4.1) with hb65 | hb65
            · rw [if_pos hb65] at h
              refine AO.weaken (s' := ⟨fr [(1, .sl (.int .i64) u), (2, .sl (.int .i64) w), (3, .sl (.int .i64) v0), (4, .bp 4 0), (9, .bool v0_4.1), (11, .sl (.int .i64) v0_5.1), (12, .int .i64 v0_5.2), (13, .sl (.int .i64) v0_6.1), (63, .bool false), (66, .bool true)], hpGet [(4, .box 24 [.int .i64 l.1, .sl (.pair (.int .i64) (.int .i64)) l.2])], gt⟩) (Wk.to (by (simp only [go_sem, hb2, hb59, hb61, hb63, hb65]) <;> (repeat' with_reducible apply And.intro) <;> first | assumption | rfl | omega | (unfold maxLen; omega))) ?_
              refine AO.allF tab_ok (by decide) [(1, .sl (.int .i64) u), (2, .sl (.int .i64) w), (3, .sl (.int .i64) v0), (4, .bp 4 0), (9, .bool v0_4.1), (11, .sl (.int .i64) v0_5.1), (13, .sl (.int .i64) v0_6.1), (70, .bool (!(decide (v0_5.2 = 5))))] [(4, .box 24 [.int .i64 l.1, .sl (.pair (.int .i64) (.int .i64)) l.2])] (by (simp only [go_sem, hb2, hb59, hb61, hb63, hb65]) <;> (repeat' with_reducible apply And.intro) <;> first | assumption | rfl | omega | (unfold maxLen; omega)) ?_
              refine athen_n ?_
              refine AW.cond (b := (!(decide (v0_5.2 = 5)))) rfl (fun hb66 => ?_) (fun hb66 => ?_)
              · rw [if_pos hb66] at h
                refine AW.seq ?_
                refine AW.ops ?_
                refine AO.allF tab_ok (by decide) [(8, .bool false)] [] (by (simp only [go_sem, hb2, hb59, hb61, hb63, hb65, hb66]) <;> (repeat' with_reducible apply And.intro) <;> first | assumption | rfl | omega | (unfold maxLen; omega)) ?_
                refine athen_n ?_
                refine AW.ret ?_
                refine athen_r ?_
                obtain rfl := Option.some.inj h
                exact ⟨rfl, [], [], [], rfl, (by (simp only [go_sem, hb2, hb59, hb61, hb63, hb65, hb66]) <;> (repeat' with_reducible apply And.intro) <;> first | assumption | rfl | omega | (unfold maxLen; omega))⟩
              · rw [if_neg (Bool.eq_false_iff.1 hb66)] at h
                refine AW.skip ?_
                refine athen_n ?_
                exact AW.weaken (Wk.le [] [] [] rfl (by (simp only [go_sem, hb2, hb59, hb61, hb63, hb65, hb66]) <;> (repeat' with_reducible apply And.intro) <;> first | assumption | rfl | omega | (unfold maxLen; omega)) (by (simp only [go_sem, hb2, hb59, hb61, hb63, hb65, hb66]) <;> (repeat' with_reducible apply And.intro) <;> first | assumption | rfl | omega | (unfold maxLen; omega))) (hk_lineallaw03_WeaveBegins_k1 () h)
            · rw [if_neg (Bool.eq_false_iff.1 hb65)] at h
              refine AO.weaken (s' := ⟨fr [(1, .sl (.int .i64) u), (2, .sl (.int .i64) w), (3, .sl (.int .i64) v0), (4, .bp 4 0), (9, .bool v0_4.1), (11, .sl (.int .i64) v0_5.1), (12, .int .i64 v0_5.2), (13, .sl (.int .i64) v0_6.1), (63, .bool false), (66, .bool false)], hpGet [(4, .box 24 [.int .i64 l.1, .sl (.pair (.int .i64) (.int .i64)) l.2])], gt⟩) (Wk.to (by (simp only [go_sem, hb2, hb59, hb61, hb63, hb65]) <;> (repeat' with_reducible apply And.intro) <;> first | assumption | rfl | omega | (unfold maxLen; omega))) ?_
              refine AO.allF tab_ok (by decide) [(1, .sl (.int .i64) u), (2, .sl (.int .i64) w), (3, .sl (.int .i64) v0), (4, .bp 4 0), (9, .bool v0_4.1), (11, .sl (.int .i64) v0_5.1), (13, .sl (.int .i64) v0_6.1), (70, .bool false)] [(4, .box 24 [.int .i64 l.1, .sl (.pair (.int .i64) (.int .i64)) l.2])] (by (simp only [go_sem, hb2, hb59, hb61, hb63, hb65]) <;> (repeat' with_reducible apply And.intro) <;> first | assumption | rfl | omega | (unfold maxLen; omega)) ?_
              refine athen_n ?_
              refine AW.cond (b := false) rfl (fun hb67 => by cases hb67) (fun _ => ?_)
              refine AW.skip ?_
              refine athen_n ?_
              exact AW.weaken (Wk.le [] [] [] rfl (by (simp only [go_sem, hb2, hb59, hb61, hb63, hb65]) <;> (repeat' with_reducible apply And.intro) <;> first | assumption | rfl | omega | (unfold maxLen; omega)) (by (simp only [go_sem, hb2, hb59, hb61, hb63, hb65]) <;> (repeat' with_reducible apply And.intro) <;> first | assumption | rfl | omega | (unfold maxLen; omega))) (hk_lineallaw03_WeaveBegins_k1 () h)

end Go.Proofs.Ytcijihofjcfpoab
