/-
  Made by wip/tool/dc.py out of the print of the program: contracts.
-/
import Derived.Test.YtdkdkpenmgkdcaaHp
import Derived.Test.YtdkdkpenmgkdcaaTbh
import Derived.Test.YtdkdkpenmgkdcaaKgc1
namespace Go.Proofs.Ytdkdkpenmgkdcaa
open Go.RowKit

set_option linter.unusedSimpArgs false
set_option linter.unusedVariables false
set_option linter.constructorNameAsVariable false

set_option maxRecDepth 100000 in
set_option maxHeartbeats 2000000 in
theorem hc_history_isCall (c : Int × Int × Int × Int × Int × Int) {r : Bool} (h : history_isCall c = some r) : HC Try.prog 70 [] [.agg [.int .i64 c.1, .int .i64 c.2.1, .int .i64 c.2.2.1, .int .i64 c.2.2.2.1, .int .i64 c.2.2.2.2.1, .int .i64 c.2.2.2.2.2]] [] (.bool r) := by
  unfold history_isCall at h
  refine HC.of_body tab_ok (res := [.tmp 2]) Try.func70 rfl (by kernel_rfl) rfl (nt := 52) rfl (by decide) (by simp) ?_
  refine AW.seq ?_
  refine AW.ops ?_
  refine AO.allF tab_ok (by decide) [(1, .bp 1 0)] [(1, .box 55 [.int .i64 c.1, .int .i64 c.2.1, .int .i64 c.2.2.1, .int .i64 c.2.2.2.1, .int .i64 c.2.2.2.2.1, .int .i64 c.2.2.2.2.2])] (by (simp only [go_sem]) <;> (repeat' with_reducible apply And.intro) <;> first | assumption | rfl | omega) ?_
  refine athen_n ?_
  refine AW.have1 (fun b1 : Bool => history_isCall_k1 c b1 = some r) (fun b1 => ⟨fr [(1, .bp 1 0), (3, .bool b1)], hpGet [(1, .box 55 [.int .i64 c.1, .int .i64 c.2.1, .int .i64 c.2.2.1, .int .i64 c.2.2.2.1, .int .i64 c.2.2.2.2.1, .int .i64 c.2.2.2.2.2])], gt⟩) (fun b1 h => ?_) (fun hk_history_isCall_k1 => ?_)
  · unfold history_isCall_k1 at h
    refine AW.have1 (fun b2 : Bool => history_isCall_k2 c b1 b2 = some r) (fun b2 => ⟨fr [(1, .bp 1 0), (3, .bool b1), (4, .bool b2)], hpGet [(1, .box 55 [.int .i64 c.1, .int .i64 c.2.1, .int .i64 c.2.2.1, .int .i64 c.2.2.2.1, .int .i64 c.2.2.2.2.1, .int .i64 c.2.2.2.2.2])], gt⟩) (fun b2 h => ?_) (fun hk_history_isCall_k2 => ?_)
    · unfold history_isCall_k2 at h
      refine AW.seq ?_
      refine AW.ops ?_
      refine AO.segF tab_ok 2 (by decide) [(1, .bp 1 0), (3, .bool b1), (4, .bool b2), (24, .int .i64 c.1)] [(1, .box 55 [.int .i64 c.1, .int .i64 c.2.1, .int .i64 c.2.2.1, .int .i64 c.2.2.2.1, .int .i64 c.2.2.2.2.1, .int .i64 c.2.2.2.2.2])] (by (simp only [go_sem]) <;> (repeat' with_reducible apply And.intro) <;> first | assumption | rfl | omega) ?_
      obtain ⟨v0, hv1, h⟩ := Option.bind_eq_some_iff.1 h
      refine AO.call tab_ok (by decide) rfl rfl rfl (fun _ h => h) [] [] (hc_history_within c.1 0 3 hv1) rfl (by (simp only [go_sem]) <;> (repeat' with_reducible apply And.intro) <;> first | assumption | rfl | omega) (by (simp only [go_sem]) <;> (repeat' with_reducible apply And.intro) <;> first | assumption | rfl | omega) [(1, .bp 1 0), (3, .bool b1), (4, .bool b2), (25, .bool v0)] [(1, .box 55 [.int .i64 c.1, .int .i64 c.2.1, .int .i64 c.2.2.1, .int .i64 c.2.2.2.1, .int .i64 c.2.2.2.2.1, .int .i64 c.2.2.2.2.2])] (by (simp only [go_sem]) <;> (repeat' with_reducible apply And.intro) <;> first | assumption | rfl | omega) ?_
      refine AO.segF tab_ok 1 (by decide) [(1, .bp 1 0), (3, .bool b1), (4, .bool b2), (26, .bool v0)] [(1, .box 55 [.int .i64 c.1, .int .i64 c.2.1, .int .i64 c.2.2.1, .int .i64 c.2.2.2.1, .int .i64 c.2.2.2.2.1, .int .i64 c.2.2.2.2.2])] (by (simp only [go_sem]) <;> (repeat' with_reducible apply And.intro) <;> first | assumption | rfl | omega) ?_
      rcases Bool.eq_false_or_eq_true v0 with hb2 | hb2
      · rw [if_pos hb2] at h
        refine AO.weaken (s' := ⟨fr [(1, .bp 1 0), (3, .bool b1), (4, .bool b2), (26, .bool true)], hpGet [(1, .box 55 [.int .i64 c.1, .int .i64 c.2.1, .int .i64 c.2.2.1, .int .i64 c.2.2.2.1, .int .i64 c.2.2.2.2.1, .int .i64 c.2.2.2.2.2])], gt⟩) (Wk.to (by (simp only [go_sem, hb2]) <;> (repeat' with_reducible apply And.intro) <;> first | assumption | rfl | omega)) ?_
        refine AO.segF tab_ok 2 (by decide) [(1, .bp 1 0), (3, .bool b1), (4, .bool b2), (26, .bool true), (28, .int .i64 c.2.1)] [(1, .box 55 [.int .i64 c.1, .int .i64 c.2.1, .int .i64 c.2.2.1, .int .i64 c.2.2.2.1, .int .i64 c.2.2.2.2.1, .int .i64 c.2.2.2.2.2])] (by (simp only [go_sem, hb2]) <;> (repeat' with_reducible apply And.intro) <;> first | assumption | rfl | omega) ?_
        obtain ⟨v0_2, hv3, h⟩ := Option.bind_eq_some_iff.1 h
        refine AO.call tab_ok (by decide) rfl rfl rfl (fun _ h => ⟨fun _ => h, fun hn => absurd rfl hn⟩) [] [] (hc_history_within c.2.1 0 1 hv3) rfl (by (simp only [go_sem, hb2]) <;> (repeat' with_reducible apply And.intro) <;> first | assumption | rfl | omega) (by (simp only [go_sem, hb2]) <;> (repeat' with_reducible apply And.intro) <;> first | assumption | rfl | omega) [(1, .bp 1 0), (3, .bool b1), (4, .bool b2), (26, .bool true), (29, .bool v0_2)] [(1, .box 55 [.int .i64 c.1, .int .i64 c.2.1, .int .i64 c.2.2.1, .int .i64 c.2.2.2.1, .int .i64 c.2.2.2.2.1, .int .i64 c.2.2.2.2.2])] (by (simp only [go_sem, hb2]) <;> (repeat' with_reducible apply And.intro) <;> first | assumption | rfl | omega) ?_
        refine AO.segF tab_ok 2 (by decide) [(1, .bp 1 0), (3, .bool b1), (4, .bool b2), (31, .bool v0_2)] [(1, .box 55 [.int .i64 c.1, .int .i64 c.2.1, .int .i64 c.2.2.1, .int .i64 c.2.2.2.1, .int .i64 c.2.2.2.2.1, .int .i64 c.2.2.2.2.2])] (by (simp only [go_sem, hb2]) <;> (repeat' with_reducible apply And.intro) <;> first | assumption | rfl | omega) ?_
        rcases Bool.eq_false_or_eq_true v0_2 with hb4 | hb4
        · rw [if_pos hb4] at h
          refine AO.weaken (s' := ⟨fr [(1, .bp 1 0), (3, .bool b1), (4, .bool b2), (31, .bool true)], hpGet [(1, .box 55 [.int .i64 c.1, .int .i64 c.2.1, .int .i64 c.2.2.1, .int .i64 c.2.2.2.1, .int .i64 c.2.2.2.2.1, .int .i64 c.2.2.2.2.2])], gt⟩) (Wk.to (by (simp only [go_sem, hb2, hb4]) <;> (repeat' with_reducible apply And.intro) <;> first | assumption | rfl | omega)) ?_
          refine AO.segF tab_ok 2 (by decide) [(1, .bp 1 0), (3, .bool b1), (4, .bool b2), (31, .bool true), (33, .int .i64 c.2.2.1)] [(1, .box 55 [.int .i64 c.1, .int .i64 c.2.1, .int .i64 c.2.2.1, .int .i64 c.2.2.2.1, .int .i64 c.2.2.2.2.1, .int .i64 c.2.2.2.2.2])] (by (simp only [go_sem, hb2, hb4]) <;> (repeat' with_reducible apply And.intro) <;> first | assumption | rfl | omega) ?_
          obtain ⟨v0_3, hv5, h⟩ := Option.bind_eq_some_iff.1 h
          refine AO.call tab_ok (by decide) rfl rfl rfl (fun _ h => ⟨fun _ => h, fun hn => absurd rfl hn⟩) [] [] (hc_history_within c.2.2.1 0 3 hv5) rfl (by (simp only [go_sem, hb2, hb4]) <;> (repeat' with_reducible apply And.intro) <;> first | assumption | rfl | omega) (by (simp only [go_sem, hb2, hb4]) <;> (repeat' with_reducible apply And.intro) <;> first | assumption | rfl | omega) [(1, .bp 1 0), (3, .bool b1), (4, .bool b2), (31, .bool true), (34, .bool v0_3)] [(1, .box 55 [.int .i64 c.1, .int .i64 c.2.1, .int .i64 c.2.2.1, .int .i64 c.2.2.2.1, .int .i64 c.2.2.2.2.1, .int .i64 c.2.2.2.2.2])] (by (simp only [go_sem, hb2, hb4]) <;> (repeat' with_reducible apply And.intro) <;> first | assumption | rfl | omega) ?_
          refine AO.segF tab_ok 2 (by decide) [(1, .bp 1 0), (3, .bool b1), (4, .bool b2), (36, .bool v0_3)] [(1, .box 55 [.int .i64 c.1, .int .i64 c.2.1, .int .i64 c.2.2.1, .int .i64 c.2.2.2.1, .int .i64 c.2.2.2.2.1, .int .i64 c.2.2.2.2.2])] (by (simp only [go_sem, hb2, hb4]) <;> (repeat' with_reducible apply And.intro) <;> first | assumption | rfl | omega) ?_
          rcases Bool.eq_false_or_eq_true v0_3 with hb6 | hb6
          · rw [if_pos hb6] at h
            refine AO.weaken (s' := ⟨fr [(1, .bp 1 0), (3, .bool b1), (4, .bool b2), (36, .bool true)], hpGet [(1, .box 55 [.int .i64 c.1, .int .i64 c.2.1, .int .i64 c.2.2.1, .int .i64 c.2.2.2.1, .int .i64 c.2.2.2.2.1, .int .i64 c.2.2.2.2.2])], gt⟩) (Wk.to (by (simp only [go_sem, hb2, hb4, hb6]) <;> (repeat' with_reducible apply And.intro) <;> first | assumption | rfl | omega)) ?_
            refine AO.segF tab_ok 2 (by decide) [(1, .bp 1 0), (3, .bool b1), (4, .bool b2), (36, .bool true), (38, .int .i64 c.2.2.2.1)] [(1, .box 55 [.int .i64 c.1, .int .i64 c.2.1, .int .i64 c.2.2.1, .int .i64 c.2.2.2.1, .int .i64 c.2.2.2.2.1, .int .i64 c.2.2.2.2.2])] (by (simp only [go_sem, hb2, hb4, hb6]) <;> (repeat' with_reducible apply And.intro) <;> first | assumption | rfl | omega) ?_
            obtain ⟨v0_4, hv7, h⟩ := Option.bind_eq_some_iff.1 h
            refine AO.call tab_ok (by decide) rfl rfl rfl (fun _ h => ⟨fun _ => h, fun hn => absurd rfl hn⟩) [] [] (hc_history_within c.2.2.2.1 0 9 hv7) rfl (by (simp only [go_sem, hb2, hb4, hb6]) <;> (repeat' with_reducible apply And.intro) <;> first | assumption | rfl | omega) (by (simp only [go_sem, hb2, hb4, hb6]) <;> (repeat' with_reducible apply And.intro) <;> first | assumption | rfl | omega) [(1, .bp 1 0), (3, .bool b1), (4, .bool b2), (36, .bool true), (39, .bool v0_4)] [(1, .box 55 [.int .i64 c.1, .int .i64 c.2.1, .int .i64 c.2.2.1, .int .i64 c.2.2.2.1, .int .i64 c.2.2.2.2.1, .int .i64 c.2.2.2.2.2])] (by (simp only [go_sem, hb2, hb4, hb6]) <;> (repeat' with_reducible apply And.intro) <;> first | assumption | rfl | omega) ?_
            refine AO.segF tab_ok 2 (by decide) [(1, .bp 1 0), (3, .bool b1), (4, .bool b2), (41, .bool v0_4)] [(1, .box 55 [.int .i64 c.1, .int .i64 c.2.1, .int .i64 c.2.2.1, .int .i64 c.2.2.2.1, .int .i64 c.2.2.2.2.1, .int .i64 c.2.2.2.2.2])] (by (simp only [go_sem, hb2, hb4, hb6]) <;> (repeat' with_reducible apply And.intro) <;> first | assumption | rfl | omega) ?_
            rcases Bool.eq_false_or_eq_true v0_4 with hb8 | hb8
            · rw [if_pos hb8] at h
              refine AO.weaken (s' := ⟨fr [(1, .bp 1 0), (3, .bool b1), (4, .bool b2), (41, .bool true)], hpGet [(1, .box 55 [.int .i64 c.1, .int .i64 c.2.1, .int .i64 c.2.2.1, .int .i64 c.2.2.2.1, .int .i64 c.2.2.2.2.1, .int .i64 c.2.2.2.2.2])], gt⟩) (Wk.to (by (simp only [go_sem, hb2, hb4, hb6, hb8]) <;> (repeat' with_reducible apply And.intro) <;> first | assumption | rfl | omega)) ?_
              refine AO.segF tab_ok 2 (by decide) [(3, .bool b1), (4, .bool b2), (41, .bool true), (43, .int .i64 c.2.2.2.2.1)] [] (by (simp only [go_sem, hb2, hb4, hb6, hb8]) <;> (repeat' with_reducible apply And.intro) <;> first | assumption | rfl | omega) ?_
              obtain ⟨v0_5, hv9, h⟩ := Option.bind_eq_some_iff.1 h
              refine AO.call tab_ok (by decide) rfl rfl rfl (fun _ h => ⟨fun _ => h, fun hn => absurd rfl hn⟩) [] [] (hc_history_within c.2.2.2.2.1 1 100 hv9) rfl (by (simp only [go_sem, hb2, hb4, hb6, hb8]) <;> (repeat' with_reducible apply And.intro) <;> first | assumption | rfl | omega) (by (simp only [go_sem, hb2, hb4, hb6, hb8]) <;> (repeat' with_reducible apply And.intro) <;> first | assumption | rfl | omega) [(3, .bool b1), (4, .bool b2), (41, .bool true), (44, .bool v0_5)] [] (by (simp only [go_sem, hb2, hb4, hb6, hb8]) <;> (repeat' with_reducible apply And.intro) <;> first | assumption | rfl | omega) ?_
              refine AO.segF tab_ok 2 (by decide) [(3, .bool b1), (4, .bool b2), (46, .bool v0_5)] [] (by (simp only [go_sem, hb2, hb4, hb6, hb8]) <;> (repeat' with_reducible apply And.intro) <;> first | assumption | rfl | omega) ?_
              rcases Bool.eq_false_or_eq_true v0_5 with hb10 | hb10
              · rw [if_pos hb10] at h
                refine AO.weaken (s' := ⟨fr [(3, .bool b1), (4, .bool b2), (46, .bool true)], hpGet [], gt⟩) (Wk.to (by (simp only [go_sem, hb2, hb4, hb6, hb8, hb10]) <;> (repeat' with_reducible apply And.intro) <;> first | assumption | rfl | omega)) ?_
                refine AO.segF tab_ok 2 (by decide) [(4, .bool b2), (46, .bool true), (48, .bool b1)] [] (by (simp only [go_sem, hb2, hb4, hb6, hb8, hb10]) <;> (repeat' with_reducible apply And.intro) <;> first | assumption | rfl | omega) ?_
                rcases Bool.eq_false_or_eq_true b1 with hb11 | hb11
                · rw [if_pos hb11] at h
                  refine AO.weaken (s' := ⟨fr [(4, .bool b2), (46, .bool true), (48, .bool true)], hpGet [], gt⟩) (Wk.to (by (simp only [go_sem, hb2, hb4, hb6, hb8, hb10, hb11]) <;> (repeat' with_reducible apply And.intro) <;> first | assumption | rfl | omega)) ?_
                  refine AO.allF tab_ok (by decide) [(2, .bool true)] [] (by (simp only [go_sem, hb2, hb4, hb6, hb8, hb10, hb11]) <;> (repeat' with_reducible apply And.intro) <;> first | assumption | rfl | omega) ?_
                  refine athen_n ?_
                  refine AW.ret ?_
                  obtain rfl := Option.some.inj h
                  exact ⟨rfl, [], [], [], rfl, (by (simp only [go_sem, hb2, hb4, hb6, hb8, hb10, hb11]) <;> (repeat' with_reducible apply And.intro) <;> first | assumption | rfl | omega)⟩
                · rw [if_neg (Bool.eq_false_iff.1 hb11)] at h
                  refine AO.weaken (s' := ⟨fr [(4, .bool b2), (46, .bool true), (48, .bool false)], hpGet [], gt⟩) (Wk.to (by (simp only [go_sem, hb2, hb4, hb6, hb8, hb10, hb11]) <;> (repeat' with_reducible apply And.intro) <;> first | assumption | rfl | omega)) ?_
                  refine AO.allF tab_ok (by decide) [(2, .bool b2)] [] (by (simp only [go_sem, hb2, hb4, hb6, hb8, hb10, hb11]) <;> (repeat' with_reducible apply And.intro) <;> first | assumption | rfl | omega) ?_
                  refine athen_n ?_
                  refine AW.ret ?_
                  obtain rfl := Option.some.inj h
                  exact ⟨rfl, [], [], [], rfl, (by (simp only [go_sem, hb2, hb4, hb6, hb8, hb10, hb11]) <;> (repeat' with_reducible apply And.intro) <;> first | assumption | rfl | omega)⟩
              · rw [if_neg (Bool.eq_false_iff.1 hb10)] at h
                refine AO.weaken (s' := ⟨fr [(3, .bool b1), (4, .bool b2), (46, .bool false)], hpGet [], gt⟩) (Wk.to (by (simp only [go_sem, hb2, hb4, hb6, hb8, hb10]) <;> (repeat' with_reducible apply And.intro) <;> first | assumption | rfl | omega)) ?_
                refine AO.segF tab_ok 4 (by decide) [(46, .bool false), (50, .cv (undef))] [] (by (simp only [go_sem, hb2, hb4, hb6, hb8, hb10]) <;> (repeat' with_reducible apply And.intro) <;> first | assumption | rfl | omega) ?_
                refine AO.allF tab_ok (by decide) [(2, .bool false)] [] (by (simp only [go_sem, hb2, hb4, hb6, hb8, hb10]) <;> (repeat' with_reducible apply And.intro) <;> first | assumption | rfl | omega) ?_
                refine athen_n ?_
                refine AW.ret ?_
                obtain rfl := Option.some.inj h
                exact ⟨rfl, [], [], [], rfl, (by (simp only [go_sem, hb2, hb4, hb6, hb8, hb10]) <;> (repeat' with_reducible apply And.intro) <;> first | assumption | rfl | omega)⟩
            · rw [if_neg (Bool.eq_false_iff.1 hb8)] at h
              refine AO.weaken (s' := ⟨fr [(1, .bp 1 0), (3, .bool b1), (4, .bool b2), (41, .bool false)], hpGet [(1, .box 55 [.int .i64 c.1, .int .i64 c.2.1, .int .i64 c.2.2.1, .int .i64 c.2.2.2.1, .int .i64 c.2.2.2.2.1, .int .i64 c.2.2.2.2.2])], gt⟩) (Wk.to (by (simp only [go_sem, hb2, hb4, hb6, hb8]) <;> (repeat' with_reducible apply And.intro) <;> first | assumption | rfl | omega)) ?_
              refine AO.segF tab_ok 6 (by decide) [(4, .bool b2), (46, .bool false), (47, .cv (undef))] [] (by (simp only [go_sem, hb2, hb4, hb6, hb8]) <;> (repeat' with_reducible apply And.intro) <;> first | assumption | rfl | omega) ?_
              refine AO.allF tab_ok (by decide) [(2, .bool false)] [] (by (simp only [go_sem, hb2, hb4, hb6, hb8]) <;> (repeat' with_reducible apply And.intro) <;> first | assumption | rfl | omega) ?_
              refine athen_n ?_
              refine AW.ret ?_
              obtain rfl := Option.some.inj h
              exact ⟨rfl, [], [], [], rfl, (by (simp only [go_sem, hb2, hb4, hb6, hb8]) <;> (repeat' with_reducible apply And.intro) <;> first | assumption | rfl | omega)⟩
          · rw [if_neg (Bool.eq_false_iff.1 hb6)] at h
            refine AO.weaken (s' := ⟨fr [(1, .bp 1 0), (3, .bool b1), (4, .bool b2), (36, .bool false)], hpGet [(1, .box 55 [.int .i64 c.1, .int .i64 c.2.1, .int .i64 c.2.2.1, .int .i64 c.2.2.2.1, .int .i64 c.2.2.2.2.1, .int .i64 c.2.2.2.2.2])], gt⟩) (Wk.to (by (simp only [go_sem, hb2, hb4, hb6]) <;> (repeat' with_reducible apply And.intro) <;> first | assumption | rfl | omega)) ?_
            refine AO.segF tab_ok 6 (by decide) [(3, .bool b1), (4, .bool b2), (41, .bool false), (42, .cv (undef))] [] (by (simp only [go_sem, hb2, hb4, hb6]) <;> (repeat' with_reducible apply And.intro) <;> first | assumption | rfl | omega) ?_
            refine AO.segF tab_ok 6 (by decide) [(4, .bool b2), (46, .bool false), (48, .cv (undef))] [] (by (simp only [go_sem, hb2, hb4, hb6]) <;> (repeat' with_reducible apply And.intro) <;> first | assumption | rfl | omega) ?_
            refine AO.allF tab_ok (by decide) [(2, .bool false)] [] (by (simp only [go_sem, hb2, hb4, hb6]) <;> (repeat' with_reducible apply And.intro) <;> first | assumption | rfl | omega) ?_
            refine athen_n ?_
            refine AW.ret ?_
            obtain rfl := Option.some.inj h
            exact ⟨rfl, [], [], [], rfl, (by (simp only [go_sem, hb2, hb4, hb6]) <;> (repeat' with_reducible apply And.intro) <;> first | assumption | rfl | omega)⟩
        · rw [if_neg (Bool.eq_false_iff.1 hb4)] at h
          refine AO.weaken (s' := ⟨fr [(1, .bp 1 0), (3, .bool b1), (4, .bool b2), (31, .bool false)], hpGet [(1, .box 55 [.int .i64 c.1, .int .i64 c.2.1, .int .i64 c.2.2.1, .int .i64 c.2.2.2.1, .int .i64 c.2.2.2.2.1, .int .i64 c.2.2.2.2.2])], gt⟩) (Wk.to (by (simp only [go_sem, hb2, hb4]) <;> (repeat' with_reducible apply And.intro) <;> first | assumption | rfl | omega)) ?_
          refine AO.segF tab_ok 6 (by decide) [(1, .bp 1 0), (3, .bool b1), (4, .bool b2), (36, .bool false), (37, .cv (undef))] [(1, .box 55 [.int .i64 c.1, .int .i64 c.2.1, .int .i64 c.2.2.1, .int .i64 c.2.2.2.1, .int .i64 c.2.2.2.2.1, .int .i64 c.2.2.2.2.2])] (by (simp only [go_sem, hb2, hb4]) <;> (repeat' with_reducible apply And.intro) <;> first | assumption | rfl | omega) ?_
          refine AO.segF tab_ok 6 (by decide) [(3, .bool b1), (4, .bool b2), (41, .bool false), (43, .cv (undef))] [] (by (simp only [go_sem, hb2, hb4]) <;> (repeat' with_reducible apply And.intro) <;> first | assumption | rfl | omega) ?_
          refine AO.segF tab_ok 6 (by decide) [(46, .bool false), (48, .cv (undef)), (49, .cv (undef))] [] (by (simp only [go_sem, hb2, hb4]) <;> (repeat' with_reducible apply And.intro) <;> first | assumption | rfl | omega) ?_
          refine AO.allF tab_ok (by decide) [(2, .bool false)] [] (by (simp only [go_sem, hb2, hb4]) <;> (repeat' with_reducible apply And.intro) <;> first | assumption | rfl | omega) ?_
          refine athen_n ?_
          refine AW.ret ?_
          obtain rfl := Option.some.inj h
          exact ⟨rfl, [], [], [], rfl, (by (simp only [go_sem, hb2, hb4]) <;> (repeat' with_reducible apply And.intro) <;> first | assumption | rfl | omega)⟩
      · rw [if_neg (Bool.eq_false_iff.1 hb2)] at h
        refine AO.weaken (s' := ⟨fr [(1, .bp 1 0), (3, .bool b1), (4, .bool b2), (26, .bool false)], hpGet [(1, .box 55 [.int .i64 c.1, .int .i64 c.2.1, .int .i64 c.2.2.1, .int .i64 c.2.2.2.1, .int .i64 c.2.2.2.2.1, .int .i64 c.2.2.2.2.2])], gt⟩) (Wk.to (by (simp only [go_sem, hb2]) <;> (repeat' with_reducible apply And.intro) <;> first | assumption | rfl | omega)) ?_
        refine AO.segF tab_ok 6 (by decide) [(1, .bp 1 0), (3, .bool b1), (4, .bool b2), (31, .bool false), (32, .cv (undef))] [(1, .box 55 [.int .i64 c.1, .int .i64 c.2.1, .int .i64 c.2.2.1, .int .i64 c.2.2.2.1, .int .i64 c.2.2.2.2.1, .int .i64 c.2.2.2.2.2])] (by (simp only [go_sem, hb2]) <;> (repeat' with_reducible apply And.intro) <;> first | assumption | rfl | omega) ?_
        refine AO.segF tab_ok 6 (by decide) [(1, .bp 1 0), (3, .bool b1), (4, .bool b2), (36, .bool false), (38, .cv (undef))] [(1, .box 55 [.int .i64 c.1, .int .i64 c.2.1, .int .i64 c.2.2.1, .int .i64 c.2.2.2.1, .int .i64 c.2.2.2.2.1, .int .i64 c.2.2.2.2.2])] (by (simp only [go_sem, hb2]) <;> (repeat' with_reducible apply And.intro) <;> first | assumption | rfl | omega) ?_
        refine AO.segF tab_ok 6 (by decide) [(3, .bool b1), (4, .bool b2), (41, .bool false), (44, .cv (undef))] [] (by (simp only [go_sem, hb2]) <;> (repeat' with_reducible apply And.intro) <;> first | assumption | rfl | omega) ?_
        refine AO.segF tab_ok 6 (by decide) [(46, .bool false), (50, .cv (undef))] [] (by (simp only [go_sem, hb2]) <;> (repeat' with_reducible apply And.intro) <;> first | assumption | rfl | omega) ?_
        refine AO.allF tab_ok (by decide) [(2, .bool false)] [] (by (simp only [go_sem, hb2]) <;> (repeat' with_reducible apply And.intro) <;> first | assumption | rfl | omega) ?_
        refine athen_n ?_
        refine AW.ret ?_
        obtain rfl := Option.some.inj h
        exact ⟨rfl, [], [], [], rfl, (by (simp only [go_sem, hb2]) <;> (repeat' with_reducible apply And.intro) <;> first | assumption | rfl | omega)⟩
    · refine AW.seq ?_
      refine AW.ops ?_
      refine AO.segF tab_ok 6 (by decide) [(1, .bp 1 0), (3, .bool b1), (18, .bool (decide (c.2.2.2.2.1 < c.2.2.2.2.2)))] [(1, .box 55 [.int .i64 c.1, .int .i64 c.2.1, .int .i64 c.2.2.1, .int .i64 c.2.2.2.1, .int .i64 c.2.2.2.2.1, .int .i64 c.2.2.2.2.2])] (by (simp only [go_sem]) <;> (repeat' with_reducible apply And.intro) <;> first | assumption | rfl | omega) ?_
      rcases Bool.eq_false_or_eq_true (decide (c.2.2.2.2.1 < c.2.2.2.2.2)) with hb12 | hb12
      · rw [if_pos hb12] at h
        refine AO.weaken (s' := ⟨fr [(1, .bp 1 0), (3, .bool b1), (18, .bool true)], hpGet [(1, .box 55 [.int .i64 c.1, .int .i64 c.2.1, .int .i64 c.2.2.1, .int .i64 c.2.2.2.1, .int .i64 c.2.2.2.2.1, .int .i64 c.2.2.2.2.2])], gt⟩) (Wk.to (by (simp only [go_sem, hb12]) <;> (repeat' with_reducible apply And.intro) <;> first | assumption | rfl | omega)) ?_
        refine AO.allF tab_ok (by decide) [(1, .bp 1 0), (3, .bool b1), (4, .bool (decide (c.2.2.2.2.2 ≤ 100)))] [(1, .box 55 [.int .i64 c.1, .int .i64 c.2.1, .int .i64 c.2.2.1, .int .i64 c.2.2.2.1, .int .i64 c.2.2.2.2.1, .int .i64 c.2.2.2.2.2])] (by (simp only [go_sem, hb12]) <;> (repeat' with_reducible apply And.intro) <;> first | assumption | rfl | omega) ?_
        refine athen_n ?_
        exact AW.weaken (Wk.le [] [] [] rfl (by (simp only [go_sem, hb12]) <;> (repeat' with_reducible apply And.intro) <;> first | assumption | rfl | omega) (by (simp only [go_sem, hb12]) <;> (repeat' with_reducible apply And.intro) <;> first | assumption | rfl | omega)) (hk_history_isCall_k2 _ h)
      · rw [if_neg (Bool.eq_false_iff.1 hb12)] at h
        refine AO.weaken (s' := ⟨fr [(1, .bp 1 0), (3, .bool b1), (18, .bool false)], hpGet [(1, .box 55 [.int .i64 c.1, .int .i64 c.2.1, .int .i64 c.2.2.1, .int .i64 c.2.2.2.1, .int .i64 c.2.2.2.2.1, .int .i64 c.2.2.2.2.2])], gt⟩) (Wk.to (by (simp only [go_sem, hb12]) <;> (repeat' with_reducible apply And.intro) <;> first | assumption | rfl | omega)) ?_
        refine AO.allF tab_ok (by decide) [(1, .bp 1 0), (3, .bool b1), (4, .bool false)] [(1, .box 55 [.int .i64 c.1, .int .i64 c.2.1, .int .i64 c.2.2.1, .int .i64 c.2.2.2.1, .int .i64 c.2.2.2.2.1, .int .i64 c.2.2.2.2.2])] (by (simp only [go_sem, hb12]) <;> (repeat' with_reducible apply And.intro) <;> first | assumption | rfl | omega) ?_
        refine athen_n ?_
        exact AW.weaken (Wk.le [] [] [] rfl (by (simp only [go_sem, hb12]) <;> (repeat' with_reducible apply And.intro) <;> first | assumption | rfl | omega) (by (simp only [go_sem, hb12]) <;> (repeat' with_reducible apply And.intro) <;> first | assumption | rfl | omega)) (hk_history_isCall_k2 _ h)
  · refine AW.seq ?_
    refine AW.ops ?_
    refine AO.segF tab_ok 4 (by decide) [(1, .bp 1 0), (8, .bool (decide (c.2.2.2.2.2 = 0)))] [(1, .box 55 [.int .i64 c.1, .int .i64 c.2.1, .int .i64 c.2.2.1, .int .i64 c.2.2.2.1, .int .i64 c.2.2.2.2.1, .int .i64 c.2.2.2.2.2])] (by (simp only [go_sem]) <;> (repeat' with_reducible apply And.intro) <;> first | assumption | rfl | omega) ?_
    rcases Bool.eq_false_or_eq_true (decide (c.2.2.2.2.2 = 0)) with hb13 | hb13
    · rw [if_pos hb13] at h
      refine AO.weaken (s' := ⟨fr [(1, .bp 1 0), (8, .bool true)], hpGet [(1, .box 55 [.int .i64 c.1, .int .i64 c.2.1, .int .i64 c.2.2.1, .int .i64 c.2.2.2.1, .int .i64 c.2.2.2.2.1, .int .i64 c.2.2.2.2.2])], gt⟩) (Wk.to (by (simp only [go_sem, hb13]) <;> (repeat' with_reducible apply And.intro) <;> first | assumption | rfl | omega)) ?_
      refine AO.allF tab_ok (by decide) [(1, .bp 1 0), (3, .bool (decide (c.2.2.2.1 = 0)))] [(1, .box 55 [.int .i64 c.1, .int .i64 c.2.1, .int .i64 c.2.2.1, .int .i64 c.2.2.2.1, .int .i64 c.2.2.2.2.1, .int .i64 c.2.2.2.2.2])] (by (simp only [go_sem, hb13]) <;> (repeat' with_reducible apply And.intro) <;> first | assumption | rfl | omega) ?_
      refine athen_n ?_
      exact AW.weaken (Wk.le [] [] [] rfl (by (simp only [go_sem, hb13]) <;> (repeat' with_reducible apply And.intro) <;> first | assumption | rfl | omega) (by (simp only [go_sem, hb13]) <;> (repeat' with_reducible apply And.intro) <;> first | assumption | rfl | omega)) (hk_history_isCall_k1 _ h)
    · rw [if_neg (Bool.eq_false_iff.1 hb13)] at h
      refine AO.weaken (s' := ⟨fr [(1, .bp 1 0), (8, .bool false)], hpGet [(1, .box 55 [.int .i64 c.1, .int .i64 c.2.1, .int .i64 c.2.2.1, .int .i64 c.2.2.2.1, .int .i64 c.2.2.2.2.1, .int .i64 c.2.2.2.2.2])], gt⟩) (Wk.to (by (simp only [go_sem, hb13]) <;> (repeat' with_reducible apply And.intro) <;> first | assumption | rfl | omega)) ?_
      refine AO.allF tab_ok (by decide) [(1, .bp 1 0), (3, .bool false)] [(1, .box 55 [.int .i64 c.1, .int .i64 c.2.1, .int .i64 c.2.2.1, .int .i64 c.2.2.2.1, .int .i64 c.2.2.2.2.1, .int .i64 c.2.2.2.2.2])] (by (simp only [go_sem, hb13]) <;> (repeat' with_reducible apply And.intro) <;> first | assumption | rfl | omega) ?_
      refine athen_n ?_
      exact AW.weaken (Wk.le [] [] [] rfl (by (simp only [go_sem, hb13]) <;> (repeat' with_reducible apply And.intro) <;> first | assumption | rfl | omega) (by (simp only [go_sem, hb13]) <;> (repeat' with_reducible apply And.intro) <;> first | assumption | rfl | omega)) (hk_history_isCall_k1 _ h)

set_option maxRecDepth 100000 in
set_option maxHeartbeats 2000000 in
theorem hc_history_before (a : Int × Int × Int × Int × Int × Int) (b : Int × Int × Int × Int × Int × Int) {r : Bool} (h : history_before a b = some r) : HC Try.prog 67 [] [.agg [.int .i64 a.1, .int .i64 a.2.1, .int .i64 a.2.2.1, .int .i64 a.2.2.2.1, .int .i64 a.2.2.2.2.1, .int .i64 a.2.2.2.2.2], .agg [.int .i64 b.1, .int .i64 b.2.1, .int .i64 b.2.2.1, .int .i64 b.2.2.2.1, .int .i64 b.2.2.2.2.1, .int .i64 b.2.2.2.2.2]] [] (.bool r) := by
  unfold history_before at h
  refine HC.of_body tab_ok (res := [.tmp 4]) Try.func67 rfl (by kernel_rfl) rfl (nt := 15) rfl (by decide) (by simp) ?_
  refine AW.seq ?_
  refine AW.ops ?_
  refine AO.allF tab_ok (by decide) [(2, .bp 2 0), (3, .bp 3 0)] [(2, .box 55 [.int .i64 a.1, .int .i64 a.2.1, .int .i64 a.2.2.1, .int .i64 a.2.2.2.1, .int .i64 a.2.2.2.2.1, .int .i64 a.2.2.2.2.2]), (3, .box 55 [.int .i64 b.1, .int .i64 b.2.1, .int .i64 b.2.2.1, .int .i64 b.2.2.2.1, .int .i64 b.2.2.2.2.1, .int .i64 b.2.2.2.2.2])] (by (simp only [go_sem]) <;> (repeat' with_reducible apply And.intro) <;> first | assumption | rfl | omega) ?_
  refine athen_n ?_
  refine AW.seq ?_
  refine AW.ops ?_
  refine AO.segF tab_ok 4 (by decide) [(2, .bp 2 0), (3, .bp 3 0), (8, .bool (!(decide (a.2.2.2.2.2 = 0))))] [(2, .box 55 [.int .i64 a.1, .int .i64 a.2.1, .int .i64 a.2.2.1, .int .i64 a.2.2.2.1, .int .i64 a.2.2.2.2.1, .int .i64 a.2.2.2.2.2]), (3, .box 55 [.int .i64 b.1, .int .i64 b.2.1, .int .i64 b.2.2.1, .int .i64 b.2.2.2.1, .int .i64 b.2.2.2.2.1, .int .i64 b.2.2.2.2.2])] (by (simp only [go_sem]) <;> (repeat' with_reducible apply And.intro) <;> first | assumption | rfl | omega) ?_
  rcases Bool.eq_false_or_eq_true (!(decide (a.2.2.2.2.2 = 0))) with hb1 | hb1
  · rw [if_pos hb1] at h
    refine AO.weaken (s' := ⟨fr [(2, .bp 2 0), (3, .bp 3 0), (8, .bool true)], hpGet [(2, .box 55 [.int .i64 a.1, .int .i64 a.2.1, .int .i64 a.2.2.1, .int .i64 a.2.2.2.1, .int .i64 a.2.2.2.2.1, .int .i64 a.2.2.2.2.2]), (3, .box 55 [.int .i64 b.1, .int .i64 b.2.1, .int .i64 b.2.2.1, .int .i64 b.2.2.2.1, .int .i64 b.2.2.2.2.1, .int .i64 b.2.2.2.2.2])], gt⟩) (Wk.to (by (simp only [go_sem, hb1]) <;> (repeat' with_reducible apply And.intro) <;> first | assumption | rfl | omega)) ?_
    refine AO.allF tab_ok (by decide) [(4, .bool (decide (a.2.2.2.2.2 < b.2.2.2.2.1)))] [] (by (simp only [go_sem, hb1]) <;> (repeat' with_reducible apply And.intro) <;> first | assumption | rfl | omega) ?_
    refine athen_n ?_
    refine AW.ret ?_
    obtain rfl := Option.some.inj h
    exact ⟨rfl, [], [], [], rfl, (by (simp only [go_sem, hb1]) <;> (repeat' with_reducible apply And.intro) <;> first | assumption | rfl | omega)⟩
  · rw [if_neg (Bool.eq_false_iff.1 hb1)] at h
    refine AO.weaken (s' := ⟨fr [(2, .bp 2 0), (3, .bp 3 0), (8, .bool false)], hpGet [(2, .box 55 [.int .i64 a.1, .int .i64 a.2.1, .int .i64 a.2.2.1, .int .i64 a.2.2.2.1, .int .i64 a.2.2.2.2.1, .int .i64 a.2.2.2.2.2]), (3, .box 55 [.int .i64 b.1, .int .i64 b.2.1, .int .i64 b.2.2.1, .int .i64 b.2.2.2.1, .int .i64 b.2.2.2.2.1, .int .i64 b.2.2.2.2.2])], gt⟩) (Wk.to (by (simp only [go_sem, hb1]) <;> (repeat' with_reducible apply And.intro) <;> first | assumption | rfl | omega)) ?_
    refine AO.segF tab_ok 4 (by decide) [(8, .bool false), (10, .cv (undef)), (12, .cv (undef))] [] (by (simp only [go_sem, hb1]) <;> (repeat' with_reducible apply And.intro) <;> first | assumption | rfl | omega) ?_
    refine AO.allF tab_ok (by decide) [(4, .bool false)] [] (by (simp only [go_sem, hb1]) <;> (repeat' with_reducible apply And.intro) <;> first | assumption | rfl | omega) ?_
    refine athen_n ?_
    refine AW.ret ?_
    obtain rfl := Option.some.inj h
    exact ⟨rfl, [], [], [], rfl, (by (simp only [go_sem, hb1]) <;> (repeat' with_reducible apply And.intro) <;> first | assumption | rfl | omega)⟩

set_option maxRecDepth 100000 in
set_option maxHeartbeats 2000000 in
theorem hc_history_apart (a : Int × Int × Int × Int × Int × Int) (b : Int × Int × Int × Int × Int × Int) {r : Bool} (h : history_apart a b = some r) : HC Try.prog 71 [] [.agg [.int .i64 a.1, .int .i64 a.2.1, .int .i64 a.2.2.1, .int .i64 a.2.2.2.1, .int .i64 a.2.2.2.2.1, .int .i64 a.2.2.2.2.2], .agg [.int .i64 b.1, .int .i64 b.2.1, .int .i64 b.2.2.1, .int .i64 b.2.2.2.1, .int .i64 b.2.2.2.2.1, .int .i64 b.2.2.2.2.2]] [] (.bool r) := by
  unfold history_apart at h
  refine HC.of_body tab_ok (res := [.tmp 4]) Try.func71 rfl (by kernel_rfl) rfl (nt := 49) rfl (by decide) (by simp) ?_
  refine AW.seq ?_
  refine AW.ops ?_
  refine AO.allF tab_ok (by decide) [(2, .bp 2 0), (3, .bp 3 0)] [(2, .box 55 [.int .i64 a.1, .int .i64 a.2.1, .int .i64 a.2.2.1, .int .i64 a.2.2.2.1, .int .i64 a.2.2.2.2.1, .int .i64 a.2.2.2.2.2]), (3, .box 55 [.int .i64 b.1, .int .i64 b.2.1, .int .i64 b.2.2.1, .int .i64 b.2.2.2.1, .int .i64 b.2.2.2.2.1, .int .i64 b.2.2.2.2.2])] (by (simp only [go_sem]) <;> (repeat' with_reducible apply And.intro) <;> first | assumption | rfl | omega) ?_
  refine athen_n ?_
  refine AW.seq ?_
  refine AW.seq ?_
  refine AW.ops ?_
  refine AO.segF tab_ok 6 (by decide) [(2, .bp 2 0), (3, .bp 3 0), (10, .bool (decide (a.2.2.2.2.1 = b.2.2.2.2.1)))] [(2, .box 55 [.int .i64 a.1, .int .i64 a.2.1, .int .i64 a.2.2.1, .int .i64 a.2.2.2.1, .int .i64 a.2.2.2.2.1, .int .i64 a.2.2.2.2.2]), (3, .box 55 [.int .i64 b.1, .int .i64 b.2.1, .int .i64 b.2.2.1, .int .i64 b.2.2.2.1, .int .i64 b.2.2.2.2.1, .int .i64 b.2.2.2.2.2])] (by (simp only [go_sem]) <;> (repeat' with_reducible apply And.intro) <;> first | assumption | rfl | omega) ?_
  rcases Bool.eq_false_or_eq_true (decide (a.2.2.2.2.1 = b.2.2.2.2.1)) with hb1 | hb1
  · rw [if_pos hb1] at h
    refine AO.weaken (s' := ⟨fr [(2, .bp 2 0), (3, .bp 3 0), (10, .bool true)], hpGet [(2, .box 55 [.int .i64 a.1, .int .i64 a.2.1, .int .i64 a.2.2.1, .int .i64 a.2.2.2.1, .int .i64 a.2.2.2.2.1, .int .i64 a.2.2.2.2.2]), (3, .box 55 [.int .i64 b.1, .int .i64 b.2.1, .int .i64 b.2.2.1, .int .i64 b.2.2.2.1, .int .i64 b.2.2.2.2.1, .int .i64 b.2.2.2.2.2])], gt⟩) (Wk.to (by (simp only [go_sem, hb1]) <;> (repeat' with_reducible apply And.intro) <;> first | assumption | rfl | omega)) ?_
    refine AO.segF tab_ok 4 (by decide) [(2, .bp 2 0), (3, .bp 3 0), (10, .bool true), (12, .cv (undef)), (14, .cv (undef))] [(2, .box 55 [.int .i64 a.1, .int .i64 a.2.1, .int .i64 a.2.2.1, .int .i64 a.2.2.2.1, .int .i64 a.2.2.2.2.1, .int .i64 a.2.2.2.2.2]), (3, .box 55 [.int .i64 b.1, .int .i64 b.2.1, .int .i64 b.2.2.1, .int .i64 b.2.2.2.1, .int .i64 b.2.2.2.2.1, .int .i64 b.2.2.2.2.2])] (by (simp only [go_sem, hb1]) <;> (repeat' with_reducible apply And.intro) <;> first | assumption | rfl | omega) ?_
    refine AO.segF tab_ok 6 (by decide) [(2, .bp 2 0), (3, .bp 3 0), (17, .bool true), (19, .cv (undef)), (20, .cv (undef))] [(2, .box 55 [.int .i64 a.1, .int .i64 a.2.1, .int .i64 a.2.2.1, .int .i64 a.2.2.2.1, .int .i64 a.2.2.2.2.1, .int .i64 a.2.2.2.2.2]), (3, .box 55 [.int .i64 b.1, .int .i64 b.2.1, .int .i64 b.2.2.1, .int .i64 b.2.2.2.1, .int .i64 b.2.2.2.2.1, .int .i64 b.2.2.2.2.2])] (by (simp only [go_sem, hb1]) <;> (repeat' with_reducible apply And.intro) <;> first | assumption | rfl | omega) ?_
    refine AO.allF tab_ok (by decide) [(2, .bp 2 0), (3, .bp 3 0), (23, .bool true)] [(2, .box 55 [.int .i64 a.1, .int .i64 a.2.1, .int .i64 a.2.2.1, .int .i64 a.2.2.2.1, .int .i64 a.2.2.2.2.1, .int .i64 a.2.2.2.2.2]), (3, .box 55 [.int .i64 b.1, .int .i64 b.2.1, .int .i64 b.2.2.1, .int .i64 b.2.2.2.1, .int .i64 b.2.2.2.2.1, .int .i64 b.2.2.2.2.2])] (by (simp only [go_sem, hb1]) <;> (repeat' with_reducible apply And.intro) <;> first | assumption | rfl | omega) ?_
    refine athen_n ?_
    refine AW.cond (b := true) rfl (fun _ => ?_) (fun hb2 => by cases hb2)
    refine AW.seq ?_
    refine AW.ops ?_
    refine AO.allF tab_ok (by decide) [(4, .bool false)] [] (by (simp only [go_sem, hb1]) <;> (repeat' with_reducible apply And.intro) <;> first | assumption | rfl | omega) ?_
    refine athen_n ?_
    refine AW.ret ?_
    refine athen_r ?_
    obtain rfl := Option.some.inj h
    exact ⟨rfl, [], [], [], rfl, (by (simp only [go_sem, hb1]) <;> (repeat' with_reducible apply And.intro) <;> first | assumption | rfl | omega)⟩
  · rw [if_neg (Bool.eq_false_iff.1 hb1)] at h
    refine AO.weaken (s' := ⟨fr [(2, .bp 2 0), (3, .bp 3 0), (10, .bool false)], hpGet [(2, .box 55 [.int .i64 a.1, .int .i64 a.2.1, .int .i64 a.2.2.1, .int .i64 a.2.2.2.1, .int .i64 a.2.2.2.2.1, .int .i64 a.2.2.2.2.2]), (3, .box 55 [.int .i64 b.1, .int .i64 b.2.1, .int .i64 b.2.2.1, .int .i64 b.2.2.2.1, .int .i64 b.2.2.2.2.1, .int .i64 b.2.2.2.2.2])], gt⟩) (Wk.to (by (simp only [go_sem, hb1]) <;> (repeat' with_reducible apply And.intro) <;> first | assumption | rfl | omega)) ?_
    refine AO.segF tab_ok 7 (by decide) [(2, .bp 2 0), (3, .bp 3 0), (17, .bool (decide (a.2.2.2.2.1 = b.2.2.2.2.2)))] [(2, .box 55 [.int .i64 a.1, .int .i64 a.2.1, .int .i64 a.2.2.1, .int .i64 a.2.2.2.1, .int .i64 a.2.2.2.2.1, .int .i64 a.2.2.2.2.2]), (3, .box 55 [.int .i64 b.1, .int .i64 b.2.1, .int .i64 b.2.2.1, .int .i64 b.2.2.2.1, .int .i64 b.2.2.2.2.1, .int .i64 b.2.2.2.2.2])] (by (simp only [go_sem, hb1]) <;> (repeat' with_reducible apply And.intro) <;> first | assumption | rfl | omega) ?_
    rcases Bool.eq_false_or_eq_true (decide (a.2.2.2.2.1 = b.2.2.2.2.2)) with hb3 | hb3
    · rw [if_pos hb3] at h
      refine AO.weaken (s' := ⟨fr [(2, .bp 2 0), (3, .bp 3 0), (17, .bool true)], hpGet [(2, .box 55 [.int .i64 a.1, .int .i64 a.2.1, .int .i64 a.2.2.1, .int .i64 a.2.2.2.1, .int .i64 a.2.2.2.2.1, .int .i64 a.2.2.2.2.2]), (3, .box 55 [.int .i64 b.1, .int .i64 b.2.1, .int .i64 b.2.2.1, .int .i64 b.2.2.2.1, .int .i64 b.2.2.2.2.1, .int .i64 b.2.2.2.2.2])], gt⟩) (Wk.to (by (simp only [go_sem, hb1, hb3]) <;> (repeat' with_reducible apply And.intro) <;> first | assumption | rfl | omega)) ?_
      refine AO.segF tab_ok 4 (by decide) [(2, .bp 2 0), (3, .bp 3 0), (17, .bool true), (19, .cv (undef)), (21, .cv (undef))] [(2, .box 55 [.int .i64 a.1, .int .i64 a.2.1, .int .i64 a.2.2.1, .int .i64 a.2.2.2.1, .int .i64 a.2.2.2.2.1, .int .i64 a.2.2.2.2.2]), (3, .box 55 [.int .i64 b.1, .int .i64 b.2.1, .int .i64 b.2.2.1, .int .i64 b.2.2.2.1, .int .i64 b.2.2.2.2.1, .int .i64 b.2.2.2.2.2])] (by (simp only [go_sem, hb1, hb3]) <;> (repeat' with_reducible apply And.intro) <;> first | assumption | rfl | omega) ?_
      refine AO.allF tab_ok (by decide) [(2, .bp 2 0), (3, .bp 3 0), (23, .bool true)] [(2, .box 55 [.int .i64 a.1, .int .i64 a.2.1, .int .i64 a.2.2.1, .int .i64 a.2.2.2.1, .int .i64 a.2.2.2.2.1, .int .i64 a.2.2.2.2.2]), (3, .box 55 [.int .i64 b.1, .int .i64 b.2.1, .int .i64 b.2.2.1, .int .i64 b.2.2.2.1, .int .i64 b.2.2.2.2.1, .int .i64 b.2.2.2.2.2])] (by (simp only [go_sem, hb1, hb3]) <;> (repeat' with_reducible apply And.intro) <;> first | assumption | rfl | omega) ?_
      refine athen_n ?_
      refine AW.cond (b := true) rfl (fun _ => ?_) (fun hb4 => by cases hb4)
      refine AW.seq ?_
      refine AW.ops ?_
      refine AO.allF tab_ok (by decide) [(4, .bool false)] [] (by (simp only [go_sem, hb1, hb3]) <;> (repeat' with_reducible apply And.intro) <;> first | assumption | rfl | omega) ?_
      refine athen_n ?_
      refine AW.ret ?_
      refine athen_r ?_
      obtain rfl := Option.some.inj h
      exact ⟨rfl, [], [], [], rfl, (by (simp only [go_sem, hb1, hb3]) <;> (repeat' with_reducible apply And.intro) <;> first | assumption | rfl | omega)⟩
    · rw [if_neg (Bool.eq_false_iff.1 hb3)] at h
      refine AO.weaken (s' := ⟨fr [(2, .bp 2 0), (3, .bp 3 0), (17, .bool false)], hpGet [(2, .box 55 [.int .i64 a.1, .int .i64 a.2.1, .int .i64 a.2.2.1, .int .i64 a.2.2.2.1, .int .i64 a.2.2.2.2.1, .int .i64 a.2.2.2.2.2]), (3, .box 55 [.int .i64 b.1, .int .i64 b.2.1, .int .i64 b.2.2.1, .int .i64 b.2.2.2.1, .int .i64 b.2.2.2.2.1, .int .i64 b.2.2.2.2.2])], gt⟩) (Wk.to (by (simp only [go_sem, hb1, hb3]) <;> (repeat' with_reducible apply And.intro) <;> first | assumption | rfl | omega)) ?_
      refine AO.allF tab_ok (by decide) [(2, .bp 2 0), (3, .bp 3 0), (23, .bool (decide (a.2.2.2.2.2 = b.2.2.2.2.1)))] [(2, .box 55 [.int .i64 a.1, .int .i64 a.2.1, .int .i64 a.2.2.1, .int .i64 a.2.2.2.1, .int .i64 a.2.2.2.2.1, .int .i64 a.2.2.2.2.2]), (3, .box 55 [.int .i64 b.1, .int .i64 b.2.1, .int .i64 b.2.2.1, .int .i64 b.2.2.2.1, .int .i64 b.2.2.2.2.1, .int .i64 b.2.2.2.2.2])] (by (simp only [go_sem, hb1, hb3]) <;> (repeat' with_reducible apply And.intro) <;> first | assumption | rfl | omega) ?_
      refine athen_n ?_
      refine AW.cond (b := (decide (a.2.2.2.2.2 = b.2.2.2.2.1))) rfl (fun hb5 => ?_) (fun hb5 => ?_)
      · rw [if_pos hb5] at h
        refine AW.seq ?_
        refine AW.ops ?_
        refine AO.allF tab_ok (by decide) [(4, .bool false)] [] (by (simp only [go_sem, hb1, hb3, hb5]) <;> (repeat' with_reducible apply And.intro) <;> first | assumption | rfl | omega) ?_
        refine athen_n ?_
        refine AW.ret ?_
        refine athen_r ?_
        obtain rfl := Option.some.inj h
        exact ⟨rfl, [], [], [], rfl, (by (simp only [go_sem, hb1, hb3, hb5]) <;> (repeat' with_reducible apply And.intro) <;> first | assumption | rfl | omega)⟩
      · rw [if_neg (Bool.eq_false_iff.1 hb5)] at h
        refine AW.skip ?_
        refine athen_n ?_
        refine AW.have1 (fun _ : Unit => history_apart_k1 a b = some r) (fun _ => ⟨fr [(2, .bp 2 0), (3, .bp 3 0)], hpGet [(2, .box 55 [.int .i64 a.1, .int .i64 a.2.1, .int .i64 a.2.2.1, .int .i64 a.2.2.2.1, .int .i64 a.2.2.2.2.1, .int .i64 a.2.2.2.2.2]), (3, .box 55 [.int .i64 b.1, .int .i64 b.2.1, .int .i64 b.2.2.1, .int .i64 b.2.2.2.1, .int .i64 b.2.2.2.2.1, .int .i64 b.2.2.2.2.2])], gt⟩) (fun _ h => ?_) (fun hk_history_apart_k1 => ?_)
        · unfold history_apart_k1 at h
          refine AW.seq ?_
          refine AW.ops ?_
          refine AO.segF tab_ok 6 (by decide) [(2, .bp 2 0), (3, .bp 3 0), (39, .bool (!(decide (a.1 = b.1))))] [(2, .box 55 [.int .i64 a.1, .int .i64 a.2.1, .int .i64 a.2.2.1, .int .i64 a.2.2.2.1, .int .i64 a.2.2.2.2.1, .int .i64 a.2.2.2.2.2]), (3, .box 55 [.int .i64 b.1, .int .i64 b.2.1, .int .i64 b.2.2.1, .int .i64 b.2.2.2.1, .int .i64 b.2.2.2.2.1, .int .i64 b.2.2.2.2.2])] (by (simp only [go_sem, hb1, hb3, hb5]) <;> (repeat' with_reducible apply And.intro) <;> first | assumption | rfl | omega) ?_
          rcases Bool.eq_false_or_eq_true (!(decide (a.1 = b.1))) with hb6 | hb6
          · rw [if_pos hb6] at h
            refine AO.weaken (s' := ⟨fr [(2, .bp 2 0), (3, .bp 3 0), (39, .bool true)], hpGet [(2, .box 55 [.int .i64 a.1, .int .i64 a.2.1, .int .i64 a.2.2.1, .int .i64 a.2.2.2.1, .int .i64 a.2.2.2.2.1, .int .i64 a.2.2.2.2.2]), (3, .box 55 [.int .i64 b.1, .int .i64 b.2.1, .int .i64 b.2.2.1, .int .i64 b.2.2.2.1, .int .i64 b.2.2.2.2.1, .int .i64 b.2.2.2.2.2])], gt⟩) (Wk.to (by (simp only [go_sem, hb1, hb3, hb5, hb6]) <;> (repeat' with_reducible apply And.intro) <;> first | assumption | rfl | omega)) ?_
            refine AO.segF tab_ok 6 (by decide) [(2, .bp 2 0), (44, .bool true), (45, .cv (undef))] [(2, .box 55 [.int .i64 a.1, .int .i64 a.2.1, .int .i64 a.2.2.1, .int .i64 a.2.2.2.1, .int .i64 a.2.2.2.2.1, .int .i64 a.2.2.2.2.2])] (by (simp only [go_sem, hb1, hb3, hb5, hb6]) <;> (repeat' with_reducible apply And.intro) <;> first | assumption | rfl | omega) ?_
            refine AO.allF tab_ok (by decide) [(4, .bool true)] [] (by (simp only [go_sem, hb1, hb3, hb5, hb6]) <;> (repeat' with_reducible apply And.intro) <;> first | assumption | rfl | omega) ?_
            refine athen_n ?_
            refine AW.ret ?_
            obtain rfl := Option.some.inj h
            exact ⟨rfl, [], [], [], rfl, (by (simp only [go_sem, hb1, hb3, hb5, hb6]) <;> (repeat' with_reducible apply And.intro) <;> first | assumption | rfl | omega)⟩
          · rw [if_neg (Bool.eq_false_iff.1 hb6)] at h
            refine AO.weaken (s' := ⟨fr [(2, .bp 2 0), (3, .bp 3 0), (39, .bool false)], hpGet [(2, .box 55 [.int .i64 a.1, .int .i64 a.2.1, .int .i64 a.2.2.1, .int .i64 a.2.2.2.1, .int .i64 a.2.2.2.2.1, .int .i64 a.2.2.2.2.2]), (3, .box 55 [.int .i64 b.1, .int .i64 b.2.1, .int .i64 b.2.2.1, .int .i64 b.2.2.2.1, .int .i64 b.2.2.2.2.1, .int .i64 b.2.2.2.2.2])], gt⟩) (Wk.to (by (simp only [go_sem, hb1, hb3, hb5, hb6]) <;> (repeat' with_reducible apply And.intro) <;> first | assumption | rfl | omega)) ?_
            refine AO.segF tab_ok 2 (by decide) [(2, .bp 2 0), (3, .bp 3 0), (39, .bool false), (40, .agg [.int .i64 a.1, .int .i64 a.2.1, .int .i64 a.2.2.1, .int .i64 a.2.2.2.1, .int .i64 a.2.2.2.2.1, .int .i64 a.2.2.2.2.2]), (41, .agg [.int .i64 b.1, .int .i64 b.2.1, .int .i64 b.2.2.1, .int .i64 b.2.2.2.1, .int .i64 b.2.2.2.2.1, .int .i64 b.2.2.2.2.2])] [(2, .box 55 [.int .i64 a.1, .int .i64 a.2.1, .int .i64 a.2.2.1, .int .i64 a.2.2.2.1, .int .i64 a.2.2.2.2.1, .int .i64 a.2.2.2.2.2]), (3, .box 55 [.int .i64 b.1, .int .i64 b.2.1, .int .i64 b.2.2.1, .int .i64 b.2.2.2.1, .int .i64 b.2.2.2.2.1, .int .i64 b.2.2.2.2.2])] (by (simp only [go_sem, hb1, hb3, hb5, hb6]) <;> (repeat' with_reducible apply And.intro) <;> first | assumption | rfl | omega) ?_
            obtain ⟨v0, hv7, h⟩ := Option.bind_eq_some_iff.1 h
            refine AO.call tab_ok (by decide) rfl rfl rfl (fun _ h => ⟨fun _ => h, fun hn => absurd rfl hn⟩) [] [] (hc_history_before a b hv7) rfl (by (simp only [go_sem, hb1, hb3, hb5, hb6]) <;> (repeat' with_reducible apply And.intro) <;> first | assumption | rfl | omega) (by (simp only [go_sem, hb1, hb3, hb5, hb6]) <;> (repeat' with_reducible apply And.intro) <;> first | assumption | rfl | omega) [(2, .bp 2 0), (3, .bp 3 0), (39, .bool false), (42, .bool v0)] [(2, .box 55 [.int .i64 a.1, .int .i64 a.2.1, .int .i64 a.2.2.1, .int .i64 a.2.2.2.1, .int .i64 a.2.2.2.2.1, .int .i64 a.2.2.2.2.2]), (3, .box 55 [.int .i64 b.1, .int .i64 b.2.1, .int .i64 b.2.2.1, .int .i64 b.2.2.2.1, .int .i64 b.2.2.2.2.1, .int .i64 b.2.2.2.2.2])] (by (simp only [go_sem, hb1, hb3, hb5, hb6]) <;> (repeat' with_reducible apply And.intro) <;> first | assumption | rfl | omega) ?_
            refine AO.segF tab_ok 2 (by decide) [(2, .bp 2 0), (3, .bp 3 0), (44, .bool v0)] [(2, .box 55 [.int .i64 a.1, .int .i64 a.2.1, .int .i64 a.2.2.1, .int .i64 a.2.2.2.1, .int .i64 a.2.2.2.2.1, .int .i64 a.2.2.2.2.2]), (3, .box 55 [.int .i64 b.1, .int .i64 b.2.1, .int .i64 b.2.2.1, .int .i64 b.2.2.2.1, .int .i64 b.2.2.2.2.1, .int .i64 b.2.2.2.2.2])] (by (simp only [go_sem, hb1, hb3, hb5, hb6]) <;> (repeat' with_reducible apply And.intro) <;> first | assumption | rfl | omega) ?_
            rcases Bool.eq_false_or_eq_true v0 with hb8 | hb8
            · rw [if_pos hb8] at h
              refine AO.weaken (s' := ⟨fr [(2, .bp 2 0), (3, .bp 3 0), (44, .bool true)], hpGet [(2, .box 55 [.int .i64 a.1, .int .i64 a.2.1, .int .i64 a.2.2.1, .int .i64 a.2.2.2.1, .int .i64 a.2.2.2.2.1, .int .i64 a.2.2.2.2.2]), (3, .box 55 [.int .i64 b.1, .int .i64 b.2.1, .int .i64 b.2.2.1, .int .i64 b.2.2.2.1, .int .i64 b.2.2.2.2.1, .int .i64 b.2.2.2.2.2])], gt⟩) (Wk.to (by (simp only [go_sem, hb1, hb3, hb5, hb6, hb8]) <;> (repeat' with_reducible apply And.intro) <;> first | assumption | rfl | omega)) ?_
              refine AO.allF tab_ok (by decide) [(4, .bool true)] [] (by (simp only [go_sem, hb1, hb3, hb5, hb6, hb8]) <;> (repeat' with_reducible apply And.intro) <;> first | assumption | rfl | omega) ?_
              refine athen_n ?_
              refine AW.ret ?_
              obtain rfl := Option.some.inj h
              exact ⟨rfl, [], [], [], rfl, (by (simp only [go_sem, hb1, hb3, hb5, hb6, hb8]) <;> (repeat' with_reducible apply And.intro) <;> first | assumption | rfl | omega)⟩
            · rw [if_neg (Bool.eq_false_iff.1 hb8)] at h
              refine AO.weaken (s' := ⟨fr [(2, .bp 2 0), (3, .bp 3 0), (44, .bool false)], hpGet [(2, .box 55 [.int .i64 a.1, .int .i64 a.2.1, .int .i64 a.2.2.1, .int .i64 a.2.2.2.1, .int .i64 a.2.2.2.2.1, .int .i64 a.2.2.2.2.2]), (3, .box 55 [.int .i64 b.1, .int .i64 b.2.1, .int .i64 b.2.2.1, .int .i64 b.2.2.2.1, .int .i64 b.2.2.2.2.1, .int .i64 b.2.2.2.2.2])], gt⟩) (Wk.to (by (simp only [go_sem, hb1, hb3, hb5, hb6, hb8]) <;> (repeat' with_reducible apply And.intro) <;> first | assumption | rfl | omega)) ?_
              refine AO.segF tab_ok 2 (by decide) [(44, .bool false), (45, .agg [.int .i64 b.1, .int .i64 b.2.1, .int .i64 b.2.2.1, .int .i64 b.2.2.2.1, .int .i64 b.2.2.2.2.1, .int .i64 b.2.2.2.2.2]), (46, .agg [.int .i64 a.1, .int .i64 a.2.1, .int .i64 a.2.2.1, .int .i64 a.2.2.2.1, .int .i64 a.2.2.2.2.1, .int .i64 a.2.2.2.2.2])] [] (by (simp only [go_sem, hb1, hb3, hb5, hb6, hb8]) <;> (repeat' with_reducible apply And.intro) <;> first | assumption | rfl | omega) ?_
              obtain ⟨v0_2, hv9, h⟩ := Option.bind_eq_some_iff.1 h
              refine AO.call tab_ok (by decide) rfl rfl rfl (fun _ h => ⟨fun _ => h, fun hn => absurd rfl hn⟩) [] [] (hc_history_before b a hv9) rfl (by (simp only [go_sem, hb1, hb3, hb5, hb6, hb8]) <;> (repeat' with_reducible apply And.intro) <;> first | assumption | rfl | omega) (by (simp only [go_sem, hb1, hb3, hb5, hb6, hb8]) <;> (repeat' with_reducible apply And.intro) <;> first | assumption | rfl | omega) [(44, .bool false), (47, .bool v0_2)] [] (by (simp only [go_sem, hb1, hb3, hb5, hb6, hb8]) <;> (repeat' with_reducible apply And.intro) <;> first | assumption | rfl | omega) ?_
              refine AO.allF tab_ok (by decide) [(4, .bool v0_2)] [] (by (simp only [go_sem, hb1, hb3, hb5, hb6, hb8]) <;> (repeat' with_reducible apply And.intro) <;> first | assumption | rfl | omega) ?_
              refine athen_n ?_
              refine AW.ret ?_
              obtain rfl := Option.some.inj h
              exact ⟨rfl, [], [], [], rfl, (by (simp only [go_sem, hb1, hb3, hb5, hb6, hb8]) <;> (repeat' with_reducible apply And.intro) <;> first | assumption | rfl | omega)⟩
        · refine AW.seq ?_
          refine AW.seq ?_
          refine AW.ops ?_
          refine AO.segF tab_ok 6 (by decide) [(2, .bp 2 0), (3, .bp 3 0), (29, .bool (decide (a.2.2.2.2.2 = b.2.2.2.2.2)))] [(2, .box 55 [.int .i64 a.1, .int .i64 a.2.1, .int .i64 a.2.2.1, .int .i64 a.2.2.2.1, .int .i64 a.2.2.2.2.1, .int .i64 a.2.2.2.2.2]), (3, .box 55 [.int .i64 b.1, .int .i64 b.2.1, .int .i64 b.2.2.1, .int .i64 b.2.2.2.1, .int .i64 b.2.2.2.2.1, .int .i64 b.2.2.2.2.2])] (by (simp only [go_sem, hb1, hb3, hb5]) <;> (repeat' with_reducible apply And.intro) <;> first | assumption | rfl | omega) ?_
          rcases Bool.eq_false_or_eq_true (decide (a.2.2.2.2.2 = b.2.2.2.2.2)) with hb10 | hb10
          · rw [if_pos hb10] at h
            refine AO.weaken (s' := ⟨fr [(2, .bp 2 0), (3, .bp 3 0), (29, .bool true)], hpGet [(2, .box 55 [.int .i64 a.1, .int .i64 a.2.1, .int .i64 a.2.2.1, .int .i64 a.2.2.2.1, .int .i64 a.2.2.2.2.1, .int .i64 a.2.2.2.2.2]), (3, .box 55 [.int .i64 b.1, .int .i64 b.2.1, .int .i64 b.2.2.1, .int .i64 b.2.2.2.1, .int .i64 b.2.2.2.2.1, .int .i64 b.2.2.2.2.2])], gt⟩) (Wk.to (by (simp only [go_sem, hb1, hb3, hb5, hb10]) <;> (repeat' with_reducible apply And.intro) <;> first | assumption | rfl | omega)) ?_
            refine AO.allF tab_ok (by decide) [(2, .bp 2 0), (3, .bp 3 0), (33, .bool (!(decide (a.2.2.2.2.2 = 0))))] [(2, .box 55 [.int .i64 a.1, .int .i64 a.2.1, .int .i64 a.2.2.1, .int .i64 a.2.2.2.1, .int .i64 a.2.2.2.2.1, .int .i64 a.2.2.2.2.2]), (3, .box 55 [.int .i64 b.1, .int .i64 b.2.1, .int .i64 b.2.2.1, .int .i64 b.2.2.2.1, .int .i64 b.2.2.2.2.1, .int .i64 b.2.2.2.2.2])] (by (simp only [go_sem, hb1, hb3, hb5, hb10]) <;> (repeat' with_reducible apply And.intro) <;> first | assumption | rfl | omega) ?_
            refine athen_n ?_
            refine AW.cond (b := (!(decide (a.2.2.2.2.2 = 0)))) rfl (fun hb11 => ?_) (fun hb11 => ?_)
            · rw [if_pos hb11] at h
              refine AW.seq ?_
              refine AW.ops ?_
              refine AO.allF tab_ok (by decide) [(4, .bool false)] [] (by (simp only [go_sem, hb1, hb3, hb5, hb10, hb11]) <;> (repeat' with_reducible apply And.intro) <;> first | assumption | rfl | omega) ?_
              refine athen_n ?_
              refine AW.ret ?_
              refine athen_r ?_
              obtain rfl := Option.some.inj h
              exact ⟨rfl, [], [], [], rfl, (by (simp only [go_sem, hb1, hb3, hb5, hb10, hb11]) <;> (repeat' with_reducible apply And.intro) <;> first | assumption | rfl | omega)⟩
            · rw [if_neg (Bool.eq_false_iff.1 hb11)] at h
              refine AW.skip ?_
              refine athen_n ?_
              exact AW.weaken (Wk.le [] [] [] rfl (by (simp only [go_sem, hb1, hb3, hb5, hb10, hb11]) <;> (repeat' with_reducible apply And.intro) <;> first | assumption | rfl | omega) (by (simp only [go_sem, hb1, hb3, hb5, hb10, hb11]) <;> (repeat' with_reducible apply And.intro) <;> first | assumption | rfl | omega)) (hk_history_apart_k1 () h)
          · rw [if_neg (Bool.eq_false_iff.1 hb10)] at h
            refine AO.weaken (s' := ⟨fr [(2, .bp 2 0), (3, .bp 3 0), (29, .bool false)], hpGet [(2, .box 55 [.int .i64 a.1, .int .i64 a.2.1, .int .i64 a.2.2.1, .int .i64 a.2.2.2.1, .int .i64 a.2.2.2.2.1, .int .i64 a.2.2.2.2.2]), (3, .box 55 [.int .i64 b.1, .int .i64 b.2.1, .int .i64 b.2.2.1, .int .i64 b.2.2.2.1, .int .i64 b.2.2.2.2.1, .int .i64 b.2.2.2.2.2])], gt⟩) (Wk.to (by (simp only [go_sem, hb1, hb3, hb5, hb10]) <;> (repeat' with_reducible apply And.intro) <;> first | assumption | rfl | omega)) ?_
            refine AO.allF tab_ok (by decide) [(2, .bp 2 0), (3, .bp 3 0), (33, .bool false)] [(2, .box 55 [.int .i64 a.1, .int .i64 a.2.1, .int .i64 a.2.2.1, .int .i64 a.2.2.2.1, .int .i64 a.2.2.2.2.1, .int .i64 a.2.2.2.2.2]), (3, .box 55 [.int .i64 b.1, .int .i64 b.2.1, .int .i64 b.2.2.1, .int .i64 b.2.2.2.1, .int .i64 b.2.2.2.2.1, .int .i64 b.2.2.2.2.2])] (by (simp only [go_sem, hb1, hb3, hb5, hb10]) <;> (repeat' with_reducible apply And.intro) <;> first | assumption | rfl | omega) ?_
            refine athen_n ?_
            refine AW.cond (b := false) rfl (fun hb12 => by cases hb12) (fun _ => ?_)
            refine AW.skip ?_
            refine athen_n ?_
            exact AW.weaken (Wk.le [] [] [] rfl (by (simp only [go_sem, hb1, hb3, hb5, hb10]) <;> (repeat' with_reducible apply And.intro) <;> first | assumption | rfl | omega) (by (simp only [go_sem, hb1, hb3, hb5, hb10]) <;> (repeat' with_reducible apply And.intro) <;> first | assumption | rfl | omega)) (hk_history_apart_k1 () h)

set_option maxRecDepth 100000 in
set_option maxHeartbeats 2000000 in
theorem hc_history_Valid (h0 : List (Int × Int × Int × Int × Int × Int)) {r : Bool} (h : history_Valid h0 = some r) : HC Try.prog 24 [] [.sl Y1 h0] [] (.bool r) := by
  unfold history_Valid at h
  refine HC.of_body tab_ok (res := [.tmp 2]) Try.func24 rfl (by kernel_rfl) rfl (nt := 34) rfl (by decide) (by simp) ?_
  refine AW.seq ?_
  refine AW.ops ?_
  refine AO.allF tab_ok (by decide) [(0, .sl Y1 h0)] [] (by (simp only [go_sem]) <;> (repeat' with_reducible apply And.intro) <;> first | assumption | rfl | omega) ?_
  refine athen_n ?_
  refine AW.seq ?_
  refine AW.seq ?_
  refine AW.ops ?_
  refine AO.allF tab_ok (by decide) [(0, .sl Y1 h0), (9, .bool (decide (8 < (h0.length : Int))))] [] (by (simp only [go_sem]) <;> (repeat' with_reducible apply And.intro) <;> first | assumption | rfl | omega) ?_
  refine athen_n ?_
  refine AW.cond (b := (decide (8 < (h0.length : Int)))) rfl (fun hb1 => ?_) (fun hb1 => ?_)
  · rw [if_pos hb1] at h
    refine AW.seq ?_
    refine AW.ops ?_
    refine AO.allF tab_ok (by decide) [(2, .bool false)] [] (by (simp only [go_sem, hb1]) <;> (repeat' with_reducible apply And.intro) <;> first | assumption | rfl | omega) ?_
    refine athen_n ?_
    refine AW.ret ?_
    refine athen_r ?_
    obtain rfl := Option.some.inj h
    exact ⟨rfl, [], [], [], rfl, (by (simp only [go_sem, hb1]) <;> (repeat' with_reducible apply And.intro) <;> first | assumption | rfl | omega)⟩
  · rw [if_neg (Bool.eq_false_iff.1 hb1)] at h
    refine AW.skip ?_
    refine athen_n ?_
    refine AW.have1 (fun _ : Unit => history_Valid_k1 = some r) (fun _ => ⟨fr [], hpGet [], gt⟩) (fun _ h => ?_) (fun hk_history_Valid_k1 => ?_)
    · unfold history_Valid_k1 at h
      refine AW.seq ?_
      refine AW.ops ?_
      refine AO.allF tab_ok (by decide) [(2, .bool true)] [] (by (simp only [go_sem, hb1]) <;> (repeat' with_reducible apply And.intro) <;> first | assumption | rfl | omega) ?_
      refine athen_n ?_
      refine AW.ret ?_
      obtain rfl := Option.some.inj h
      exact ⟨rfl, [], [], [], rfl, (by (simp only [go_sem, hb1]) <;> (repeat' with_reducible apply And.intro) <;> first | assumption | rfl | omega)⟩
    · refine AW.seq ?_
      refine AW.seq ?_
      refine AW.ops ?_
      refine AO.allF tab_ok (by decide) [(0, .sl Y1 h0), (10, .sl Y1 h0), (11, .int .i64 (h0.length : Int)), (12, .int .i64 0)] [] (by (simp only [go_sem, hb1]) <;> (repeat' with_reducible apply And.intro) <;> first | assumption | rfl | omega) ?_
      refine athen_n ?_
      refine AW.block ?_
      obtain ⟨rv6, hw2, ho3⟩ := Option.bind_eq_some_iff.1 h
      refine AW.loopO (history_Valid_b1 h0) (fun st1 => ⟨fr [(0, .sl Y1 h0), (10, .sl Y1 h0), (11, .int .i64 (h0.length : Int)), (12, .int .i64 st1)], hpGet [], gt⟩) 0 hw2 (Wk.le [] [] [] rfl (by (simp only [go_sem, hb1]) <;> (repeat' with_reducible apply And.intro) <;> first | assumption | rfl | omega) (by (simp only [go_sem, hb1]) <;> (repeat' with_reducible apply And.intro) <;> first | assumption | rfl | omega)) ?_
      intro st1 x5 h hd4
      unfold history_Valid_b1 at h
      refine AW.seq ?_
      refine AW.ops ?_
      refine AO.allF tab_ok (by decide) [(0, .sl Y1 h0), (10, .sl Y1 h0), (11, .int .i64 (h0.length : Int)), (12, .int .i64 st1), (13, .bool (decide (st1 < (h0.length : Int))))] [] (by (simp only [go_sem, hb1]) <;> (repeat' with_reducible apply And.intro) <;> first | assumption | rfl | omega) ?_
      refine athen_n ?_
      refine AW.seq ?_
      refine AW.cond (b := (decide (st1 < (h0.length : Int)))) rfl (fun hb7 => ?_) (fun hb7 => ?_)
      · rw [if_pos hb7] at h
        refine AW.skip ?_
        refine athen_n ?_
        refine AW.have1 (fun _ : Unit => history_Valid_k2 st1 = some x5) (fun _ => ⟨fr [(0, .sl Y1 h0), (10, .sl Y1 h0), (11, .int .i64 (h0.length : Int)), (12, .int .i64 st1)], hpGet [], gt⟩) (fun _ h => ?_) (fun hk_history_Valid_k2 => ?_)
        · unfold history_Valid_k2 at h
          refine AW.ops ?_
          obtain ⟨c8, h⟩ := ck_some.1 h
          refine AO.allF tab_ok (by decide) [(0, .sl Y1 h0), (10, .sl Y1 h0), (11, .int .i64 (h0.length : Int)), (12, .int .i64 (st1 + 1))] [] (by (simp only [go_sem, hb1, hb7]) <;> (repeat' with_reducible apply And.intro) <;> first | assumption | rfl | omega) ?_
          obtain rfl := Option.some.inj h
          exact ⟨_, rfl, Wk.le [] [] [] rfl (by (simp only [go_sem, hb1, hb7]) <;> (repeat' with_reducible apply And.intro) <;> first | assumption | rfl | omega) (by (simp only [go_sem, hb1, hb7]) <;> (repeat' with_reducible apply And.intro) <;> first | assumption | rfl | omega)⟩
        · refine AW.seq ?_
          refine AW.block ?_
          refine AW.seq ?_
          refine AW.ops ?_
          obtain ⟨c9, h⟩ := ck_some.1 h
          obtain ⟨c10, h⟩ := ck_some.1 h
          refine AO.allF tab_ok (by decide) [(0, .sl Y1 h0), (3, .int .i64 st1), (4, .bp 4 0), (10, .sl Y1 h0), (11, .int .i64 (h0.length : Int)), (12, .int .i64 st1)] [(4, .box 55 [.int .i64 (h0.getD st1.toNat (0, 0, 0, 0, 0, 0)).1, .int .i64 (h0.getD st1.toNat (0, 0, 0, 0, 0, 0)).2.1, .int .i64 (h0.getD st1.toNat (0, 0, 0, 0, 0, 0)).2.2.1, .int .i64 (h0.getD st1.toNat (0, 0, 0, 0, 0, 0)).2.2.2.1, .int .i64 (h0.getD st1.toNat (0, 0, 0, 0, 0, 0)).2.2.2.2.1, .int .i64 (h0.getD st1.toNat (0, 0, 0, 0, 0, 0)).2.2.2.2.2])] (by (simp only [go_sem, hb1, hb7]) <;> (repeat' with_reducible apply And.intro) <;> first | assumption | rfl | omega) ?_
          refine athen_n ?_
          refine AW.seq ?_
          refine AW.seq ?_
          refine AW.ops ?_
          refine AO.segF tab_ok 1 (by decide) [(0, .sl Y1 h0), (3, .int .i64 st1), (4, .bp 4 0), (10, .sl Y1 h0), (11, .int .i64 (h0.length : Int)), (12, .int .i64 st1), (17, .agg [.int .i64 (h0.getD st1.toNat (0, 0, 0, 0, 0, 0)).1, .int .i64 (h0.getD st1.toNat (0, 0, 0, 0, 0, 0)).2.1, .int .i64 (h0.getD st1.toNat (0, 0, 0, 0, 0, 0)).2.2.1, .int .i64 (h0.getD st1.toNat (0, 0, 0, 0, 0, 0)).2.2.2.1, .int .i64 (h0.getD st1.toNat (0, 0, 0, 0, 0, 0)).2.2.2.2.1, .int .i64 (h0.getD st1.toNat (0, 0, 0, 0, 0, 0)).2.2.2.2.2])] [(4, .box 55 [.int .i64 (h0.getD st1.toNat (0, 0, 0, 0, 0, 0)).1, .int .i64 (h0.getD st1.toNat (0, 0, 0, 0, 0, 0)).2.1, .int .i64 (h0.getD st1.toNat (0, 0, 0, 0, 0, 0)).2.2.1, .int .i64 (h0.getD st1.toNat (0, 0, 0, 0, 0, 0)).2.2.2.1, .int .i64 (h0.getD st1.toNat (0, 0, 0, 0, 0, 0)).2.2.2.2.1, .int .i64 (h0.getD st1.toNat (0, 0, 0, 0, 0, 0)).2.2.2.2.2])] (by (simp only [go_sem, hb1, hb7]) <;> (repeat' with_reducible apply And.intro) <;> first | assumption | rfl | omega) ?_
          obtain ⟨v0, hv11, h⟩ := Option.bind_eq_some_iff.1 h
          refine AO.call tab_ok (by decide) rfl rfl rfl (fun _ h => h) [] [] (hc_history_isCall (h0.getD st1.toNat (0, 0, 0, 0, 0, 0)) hv11) rfl (by (simp only [go_sem, hb1, hb7]) <;> (repeat' with_reducible apply And.intro) <;> first | assumption | rfl | omega) (by (simp only [go_sem, hb1, hb7]) <;> (repeat' with_reducible apply And.intro) <;> first | assumption | rfl | omega) [(0, .sl Y1 h0), (3, .int .i64 st1), (4, .bp 4 0), (10, .sl Y1 h0), (11, .int .i64 (h0.length : Int)), (12, .int .i64 st1), (18, .bool v0)] [(4, .box 55 [.int .i64 (h0.getD st1.toNat (0, 0, 0, 0, 0, 0)).1, .int .i64 (h0.getD st1.toNat (0, 0, 0, 0, 0, 0)).2.1, .int .i64 (h0.getD st1.toNat (0, 0, 0, 0, 0, 0)).2.2.1, .int .i64 (h0.getD st1.toNat (0, 0, 0, 0, 0, 0)).2.2.2.1, .int .i64 (h0.getD st1.toNat (0, 0, 0, 0, 0, 0)).2.2.2.2.1, .int .i64 (h0.getD st1.toNat (0, 0, 0, 0, 0, 0)).2.2.2.2.2])] (by (simp only [go_sem, hb1, hb7]) <;> (repeat' with_reducible apply And.intro) <;> first | assumption | rfl | omega) ?_
          refine AO.allF tab_ok (by decide) [(0, .sl Y1 h0), (3, .int .i64 st1), (4, .bp 4 0), (10, .sl Y1 h0), (11, .int .i64 (h0.length : Int)), (12, .int .i64 st1), (19, .bool (!v0))] [(4, .box 55 [.int .i64 (h0.getD st1.toNat (0, 0, 0, 0, 0, 0)).1, .int .i64 (h0.getD st1.toNat (0, 0, 0, 0, 0, 0)).2.1, .int .i64 (h0.getD st1.toNat (0, 0, 0, 0, 0, 0)).2.2.1, .int .i64 (h0.getD st1.toNat (0, 0, 0, 0, 0, 0)).2.2.2.1, .int .i64 (h0.getD st1.toNat (0, 0, 0, 0, 0, 0)).2.2.2.2.1, .int .i64 (h0.getD st1.toNat (0, 0, 0, 0, 0, 0)).2.2.2.2.2])] (by (simp only [go_sem, hb1, hb7]) <;> (repeat' with_reducible apply And.intro) <;> first | assumption | rfl | omega) ?_
          refine athen_n ?_
          refine AW.cond (b := (!v0)) rfl (fun hb12 => ?_) (fun hb12 => ?_)
          · rw [if_pos hb12] at h
            refine AW.seq ?_
            refine AW.ops ?_
            refine AO.allF tab_ok (by decide) [(2, .bool false)] [] (by (simp only [go_sem, hb1, hb7, hb12]) <;> (repeat' with_reducible apply And.intro) <;> first | assumption | rfl | omega) ?_
            refine athen_n ?_
            refine AW.ret ?_
            refine athen_r ?_
            refine ablock_r ?_
            refine athen_r ?_
            obtain rfl := Option.some.inj h
            rw [← hd4 _ rfl] at ho3
            have h := ho3
            try simp only at h
            refine athen_r ?_
            refine ablock_r ?_
            refine athen_r ?_
            obtain rfl := Option.some.inj h
            exact ⟨rfl, [], [], [], rfl, (by (simp only [go_sem, hb1, hb7, hb12]) <;> (repeat' with_reducible apply And.intro) <;> first | assumption | rfl | omega)⟩
          · rw [if_neg (Bool.eq_false_iff.1 hb12)] at h
            refine AW.skip ?_
            refine athen_n ?_
            refine AW.seq ?_
            refine AW.ops ?_
            obtain ⟨c13, h⟩ := ck_some.1 h
            obtain ⟨c14, h⟩ := ck_some.1 h
            refine AO.allF tab_ok (by decide) [(0, .sl Y1 h0), (4, .bp 4 0), (10, .sl Y1 h0), (11, .int .i64 (h0.length : Int)), (12, .int .i64 st1), (22, .sl Y1 (h0.take st1.toNat)), (23, .int .i64 ((h0.take st1.toNat).length : Int)), (24, .int .i64 0)] [(4, .box 55 [.int .i64 (h0.getD st1.toNat (0, 0, 0, 0, 0, 0)).1, .int .i64 (h0.getD st1.toNat (0, 0, 0, 0, 0, 0)).2.1, .int .i64 (h0.getD st1.toNat (0, 0, 0, 0, 0, 0)).2.2.1, .int .i64 (h0.getD st1.toNat (0, 0, 0, 0, 0, 0)).2.2.2.1, .int .i64 (h0.getD st1.toNat (0, 0, 0, 0, 0, 0)).2.2.2.2.1, .int .i64 (h0.getD st1.toNat (0, 0, 0, 0, 0, 0)).2.2.2.2.2])] (by (simp only [go_sem, hb1, hb7, hb12]) <;> (repeat' with_reducible apply And.intro) <;> first | assumption | rfl | omega) ?_
            refine athen_n ?_
            refine AW.block ?_
            obtain ⟨rv19, hw15, ho16⟩ := Option.bind_eq_some_iff.1 h
            refine AW.loopO (history_Valid_b2 h0 st1) (fun st2 => ⟨fr [(0, .sl Y1 h0), (4, .bp 4 0), (10, .sl Y1 h0), (11, .int .i64 (h0.length : Int)), (12, .int .i64 st1), (22, .sl Y1 (h0.take st1.toNat)), (23, .int .i64 ((h0.take st1.toNat).length : Int)), (24, .int .i64 st2)], hpGet [(4, .box 55 [.int .i64 (h0.getD st1.toNat (0, 0, 0, 0, 0, 0)).1, .int .i64 (h0.getD st1.toNat (0, 0, 0, 0, 0, 0)).2.1, .int .i64 (h0.getD st1.toNat (0, 0, 0, 0, 0, 0)).2.2.1, .int .i64 (h0.getD st1.toNat (0, 0, 0, 0, 0, 0)).2.2.2.1, .int .i64 (h0.getD st1.toNat (0, 0, 0, 0, 0, 0)).2.2.2.2.1, .int .i64 (h0.getD st1.toNat (0, 0, 0, 0, 0, 0)).2.2.2.2.2])], gt⟩) 0 hw15 (Wk.le [] [] [] rfl (by (simp only [go_sem, hb1, hb7, hb12]) <;> (repeat' with_reducible apply And.intro) <;> first | assumption | rfl | omega) (by (simp only [go_sem, hb1, hb7, hb12]) <;> (repeat' with_reducible apply And.intro) <;> first | assumption | rfl | omega)) ?_
            intro st2 x18 h hd17
            unfold history_Valid_b2 at h
            refine AW.seq ?_
            refine AW.ops ?_
            refine AO.allF tab_ok (by decide) [(0, .sl Y1 h0), (4, .bp 4 0), (10, .sl Y1 h0), (11, .int .i64 (h0.length : Int)), (12, .int .i64 st1), (22, .sl Y1 (h0.take st1.toNat)), (23, .int .i64 ((h0.take st1.toNat).length : Int)), (24, .int .i64 st2), (25, .bool (decide (st2 < ((h0.take st1.toNat).length : Int))))] [(4, .box 55 [.int .i64 (h0.getD st1.toNat (0, 0, 0, 0, 0, 0)).1, .int .i64 (h0.getD st1.toNat (0, 0, 0, 0, 0, 0)).2.1, .int .i64 (h0.getD st1.toNat (0, 0, 0, 0, 0, 0)).2.2.1, .int .i64 (h0.getD st1.toNat (0, 0, 0, 0, 0, 0)).2.2.2.1, .int .i64 (h0.getD st1.toNat (0, 0, 0, 0, 0, 0)).2.2.2.2.1, .int .i64 (h0.getD st1.toNat (0, 0, 0, 0, 0, 0)).2.2.2.2.2])] (by (simp only [go_sem, hb1, hb7, hb12]) <;> (repeat' with_reducible apply And.intro) <;> first | assumption | rfl | omega) ?_
            refine athen_n ?_
            refine AW.seq ?_
            refine AW.cond (b := (decide (st2 < ((h0.take st1.toNat).length : Int)))) rfl (fun hb20 => ?_) (fun hb20 => ?_)
            · rw [if_pos hb20] at h
              refine AW.skip ?_
              refine athen_n ?_
              refine AW.seq ?_
              refine AW.block ?_
              refine AW.seq ?_
              refine AW.ops ?_
              obtain ⟨c21, h⟩ := ck_some.1 h
              obtain ⟨c22, h⟩ := ck_some.1 h
              refine AO.allF tab_ok (by decide) [(0, .sl Y1 h0), (4, .bp 4 0), (6, .bp 6 0), (10, .sl Y1 h0), (11, .int .i64 (h0.length : Int)), (12, .int .i64 st1), (22, .sl Y1 (h0.take st1.toNat)), (23, .int .i64 ((h0.take st1.toNat).length : Int)), (24, .int .i64 st2)] [(4, .box 55 [.int .i64 (h0.getD st1.toNat (0, 0, 0, 0, 0, 0)).1, .int .i64 (h0.getD st1.toNat (0, 0, 0, 0, 0, 0)).2.1, .int .i64 (h0.getD st1.toNat (0, 0, 0, 0, 0, 0)).2.2.1, .int .i64 (h0.getD st1.toNat (0, 0, 0, 0, 0, 0)).2.2.2.1, .int .i64 (h0.getD st1.toNat (0, 0, 0, 0, 0, 0)).2.2.2.2.1, .int .i64 (h0.getD st1.toNat (0, 0, 0, 0, 0, 0)).2.2.2.2.2]), (6, .box 55 [.int .i64 ((h0.take st1.toNat).getD st2.toNat (0, 0, 0, 0, 0, 0)).1, .int .i64 ((h0.take st1.toNat).getD st2.toNat (0, 0, 0, 0, 0, 0)).2.1, .int .i64 ((h0.take st1.toNat).getD st2.toNat (0, 0, 0, 0, 0, 0)).2.2.1, .int .i64 ((h0.take st1.toNat).getD st2.toNat (0, 0, 0, 0, 0, 0)).2.2.2.1, .int .i64 ((h0.take st1.toNat).getD st2.toNat (0, 0, 0, 0, 0, 0)).2.2.2.2.1, .int .i64 ((h0.take st1.toNat).getD st2.toNat (0, 0, 0, 0, 0, 0)).2.2.2.2.2])] (by (simp only [go_sem, hb1, hb7, hb12, hb20]) <;> (repeat' with_reducible apply And.intro) <;> first | assumption | rfl | omega) ?_
              refine athen_n ?_
              refine AW.seq ?_
              refine AW.ops ?_
              refine AO.segF tab_ok 2 (by decide) [(0, .sl Y1 h0), (4, .bp 4 0), (10, .sl Y1 h0), (11, .int .i64 (h0.length : Int)), (12, .int .i64 st1), (22, .sl Y1 (h0.take st1.toNat)), (23, .int .i64 ((h0.take st1.toNat).length : Int)), (24, .int .i64 st2), (28, .agg [.int .i64 (h0.getD st1.toNat (0, 0, 0, 0, 0, 0)).1, .int .i64 (h0.getD st1.toNat (0, 0, 0, 0, 0, 0)).2.1, .int .i64 (h0.getD st1.toNat (0, 0, 0, 0, 0, 0)).2.2.1, .int .i64 (h0.getD st1.toNat (0, 0, 0, 0, 0, 0)).2.2.2.1, .int .i64 (h0.getD st1.toNat (0, 0, 0, 0, 0, 0)).2.2.2.2.1, .int .i64 (h0.getD st1.toNat (0, 0, 0, 0, 0, 0)).2.2.2.2.2]), (29, .agg [.int .i64 ((h0.take st1.toNat).getD st2.toNat (0, 0, 0, 0, 0, 0)).1, .int .i64 ((h0.take st1.toNat).getD st2.toNat (0, 0, 0, 0, 0, 0)).2.1, .int .i64 ((h0.take st1.toNat).getD st2.toNat (0, 0, 0, 0, 0, 0)).2.2.1, .int .i64 ((h0.take st1.toNat).getD st2.toNat (0, 0, 0, 0, 0, 0)).2.2.2.1, .int .i64 ((h0.take st1.toNat).getD st2.toNat (0, 0, 0, 0, 0, 0)).2.2.2.2.1, .int .i64 ((h0.take st1.toNat).getD st2.toNat (0, 0, 0, 0, 0, 0)).2.2.2.2.2])] [(4, .box 55 [.int .i64 (h0.getD st1.toNat (0, 0, 0, 0, 0, 0)).1, .int .i64 (h0.getD st1.toNat (0, 0, 0, 0, 0, 0)).2.1, .int .i64 (h0.getD st1.toNat (0, 0, 0, 0, 0, 0)).2.2.1, .int .i64 (h0.getD st1.toNat (0, 0, 0, 0, 0, 0)).2.2.2.1, .int .i64 (h0.getD st1.toNat (0, 0, 0, 0, 0, 0)).2.2.2.2.1, .int .i64 (h0.getD st1.toNat (0, 0, 0, 0, 0, 0)).2.2.2.2.2])] (by (simp only [go_sem, hb1, hb7, hb12, hb20]) <;> (repeat' with_reducible apply And.intro) <;> first | assumption | rfl | omega) ?_
              obtain ⟨v0_2, hv23, h⟩ := Option.bind_eq_some_iff.1 h
              refine AO.call tab_ok (by decide) rfl rfl rfl (fun _ h => h) [] [] (hc_history_apart (h0.getD st1.toNat (0, 0, 0, 0, 0, 0)) ((h0.take st1.toNat).getD st2.toNat (0, 0, 0, 0, 0, 0)) hv23) rfl (by (simp only [go_sem, hb1, hb7, hb12, hb20]) <;> (repeat' with_reducible apply And.intro) <;> first | assumption | rfl | omega) (by (simp only [go_sem, hb1, hb7, hb12, hb20]) <;> (repeat' with_reducible apply And.intro) <;> first | assumption | rfl | omega) [(0, .sl Y1 h0), (4, .bp 4 0), (10, .sl Y1 h0), (11, .int .i64 (h0.length : Int)), (12, .int .i64 st1), (22, .sl Y1 (h0.take st1.toNat)), (23, .int .i64 ((h0.take st1.toNat).length : Int)), (24, .int .i64 st2), (30, .bool v0_2)] [(4, .box 55 [.int .i64 (h0.getD st1.toNat (0, 0, 0, 0, 0, 0)).1, .int .i64 (h0.getD st1.toNat (0, 0, 0, 0, 0, 0)).2.1, .int .i64 (h0.getD st1.toNat (0, 0, 0, 0, 0, 0)).2.2.1, .int .i64 (h0.getD st1.toNat (0, 0, 0, 0, 0, 0)).2.2.2.1, .int .i64 (h0.getD st1.toNat (0, 0, 0, 0, 0, 0)).2.2.2.2.1, .int .i64 (h0.getD st1.toNat (0, 0, 0, 0, 0, 0)).2.2.2.2.2])] (by (simp only [go_sem, hb1, hb7, hb12, hb20]) <;> (repeat' with_reducible apply And.intro) <;> first | assumption | rfl | omega) ?_
              refine AO.allF tab_ok (by decide) [(0, .sl Y1 h0), (4, .bp 4 0), (10, .sl Y1 h0), (11, .int .i64 (h0.length : Int)), (12, .int .i64 st1), (22, .sl Y1 (h0.take st1.toNat)), (23, .int .i64 ((h0.take st1.toNat).length : Int)), (24, .int .i64 st2), (31, .bool (!v0_2))] [(4, .box 55 [.int .i64 (h0.getD st1.toNat (0, 0, 0, 0, 0, 0)).1, .int .i64 (h0.getD st1.toNat (0, 0, 0, 0, 0, 0)).2.1, .int .i64 (h0.getD st1.toNat (0, 0, 0, 0, 0, 0)).2.2.1, .int .i64 (h0.getD st1.toNat (0, 0, 0, 0, 0, 0)).2.2.2.1, .int .i64 (h0.getD st1.toNat (0, 0, 0, 0, 0, 0)).2.2.2.2.1, .int .i64 (h0.getD st1.toNat (0, 0, 0, 0, 0, 0)).2.2.2.2.2])] (by (simp only [go_sem, hb1, hb7, hb12, hb20]) <;> (repeat' with_reducible apply And.intro) <;> first | assumption | rfl | omega) ?_
              refine athen_n ?_
              refine AW.cond (b := (!v0_2)) rfl (fun hb24 => ?_) (fun hb24 => ?_)
              · rw [if_pos hb24] at h
                refine AW.seq ?_
                refine AW.ops ?_
                refine AO.allF tab_ok (by decide) [(2, .bool false)] [] (by (simp only [go_sem, hb1, hb7, hb12, hb20, hb24]) <;> (repeat' with_reducible apply And.intro) <;> first | assumption | rfl | omega) ?_
                refine athen_n ?_
                refine AW.ret ?_
                refine ablock_r ?_
                refine athen_r ?_
                obtain rfl := Option.some.inj h
                rw [← hd17 _ rfl] at ho16
                have h := ho16
                try simp only at h
                refine athen_r ?_
                refine ablock_r ?_
                refine ablock_r ?_
                refine athen_r ?_
                obtain rfl := Option.some.inj h
                rw [← hd4 _ rfl] at ho3
                have h := ho3
                try simp only at h
                refine athen_r ?_
                refine ablock_r ?_
                refine athen_r ?_
                obtain rfl := Option.some.inj h
                exact ⟨rfl, [], [], [], rfl, (by (simp only [go_sem, hb1, hb7, hb12, hb20, hb24]) <;> (repeat' with_reducible apply And.intro) <;> first | assumption | rfl | omega)⟩
              · rw [if_neg (Bool.eq_false_iff.1 hb24)] at h
                refine AW.skip ?_
                refine ablock_n ?_
                refine athen_n ?_
                refine AW.ops ?_
                obtain ⟨c25, h⟩ := ck_some.1 h
                refine AO.allF tab_ok (by decide) [(0, .sl Y1 h0), (4, .bp 4 0), (10, .sl Y1 h0), (11, .int .i64 (h0.length : Int)), (12, .int .i64 st1), (22, .sl Y1 (h0.take st1.toNat)), (23, .int .i64 ((h0.take st1.toNat).length : Int)), (24, .int .i64 (st2 + 1))] [(4, .box 55 [.int .i64 (h0.getD st1.toNat (0, 0, 0, 0, 0, 0)).1, .int .i64 (h0.getD st1.toNat (0, 0, 0, 0, 0, 0)).2.1, .int .i64 (h0.getD st1.toNat (0, 0, 0, 0, 0, 0)).2.2.1, .int .i64 (h0.getD st1.toNat (0, 0, 0, 0, 0, 0)).2.2.2.1, .int .i64 (h0.getD st1.toNat (0, 0, 0, 0, 0, 0)).2.2.2.2.1, .int .i64 (h0.getD st1.toNat (0, 0, 0, 0, 0, 0)).2.2.2.2.2])] (by (simp only [go_sem, hb1, hb7, hb12, hb20, hb24]) <;> (repeat' with_reducible apply And.intro) <;> first | assumption | rfl | omega) ?_
                obtain rfl := Option.some.inj h
                exact ⟨_, rfl, Wk.le [] [] [] rfl (by (simp only [go_sem, hb1, hb7, hb12, hb20, hb24]) <;> (repeat' with_reducible apply And.intro) <;> first | assumption | rfl | omega) (by (simp only [go_sem, hb1, hb7, hb12, hb20, hb24]) <;> (repeat' with_reducible apply And.intro) <;> first | assumption | rfl | omega)⟩
            · rw [if_neg (Bool.eq_false_iff.1 hb20)] at h
              refine AW.exit ?_
              refine athen_e ?_
              obtain rfl := Option.some.inj h
              rw [← hd17 _ rfl] at ho16
              have h := ho16
              try simp only at h
              refine athen_e ?_
              refine ablock_s ?_
              refine ablock_n ?_
              refine athen_n ?_
              exact AW.weaken (Wk.le [] [] [] rfl (by (simp only [go_sem, hb1, hb7, hb12, hb20]) <;> (repeat' with_reducible apply And.intro) <;> first | assumption | rfl | omega) (by (simp only [go_sem, hb1, hb7, hb12, hb20]) <;> (repeat' with_reducible apply And.intro) <;> first | assumption | rfl | omega)) (hk_history_Valid_k2 () h)
      · rw [if_neg (Bool.eq_false_iff.1 hb7)] at h
        refine AW.exit ?_
        refine athen_e ?_
        obtain rfl := Option.some.inj h
        rw [← hd4 _ rfl] at ho3
        have h := ho3
        try simp only at h
        refine athen_e ?_
        refine ablock_s ?_
        refine athen_n ?_
        exact AW.weaken (Wk.le [] [] [] rfl (by (simp only [go_sem, hb1, hb7]) <;> (repeat' with_reducible apply And.intro) <;> first | assumption | rfl | omega) (by (simp only [go_sem, hb1, hb7]) <;> (repeat' with_reducible apply And.intro) <;> first | assumption | rfl | omega)) (hk_history_Valid_k1 () h)

set_option maxRecDepth 100000 in
set_option maxHeartbeats 2000000 in
theorem hc_history_fits (specs : List (Int × Int × (List (List Int)) × (List (List Int)))) (h0 : List (Int × Int × Int × Int × Int × Int)) {r : Bool} (h : history_fits specs h0 = some r) : HC Try.prog 61 [] [.sl Y0 specs, .sl Y1 h0] [] (.bool r) := by
  unfold history_fits at h
  refine HC.of_body tab_ok (res := [.tmp 4]) Try.func61 rfl (by kernel_rfl) rfl (nt := 30) rfl (by decide) (by simp) ?_
  refine AW.seq ?_
  refine AW.ops ?_
  refine AO.allF tab_ok (by decide) [(0, .sl Y0 specs), (1, .sl Y1 h0)] [] (by (simp only [go_sem]) <;> (repeat' with_reducible apply And.intro) <;> first | assumption | rfl | omega) ?_
  refine athen_n ?_
  refine AW.have1 (fun _ : Unit => history_fits_k1 = some r) (fun _ => ⟨fr [], hpGet [], gt⟩) (fun _ h => ?_) (fun hk_history_fits_k1 => ?_)
  · unfold history_fits_k1 at h
    refine AW.seq ?_
    refine AW.ops ?_
    refine AO.allF tab_ok (by decide) [(4, .bool true)] [] (by (simp only [go_sem]) <;> (repeat' with_reducible apply And.intro) <;> first | assumption | rfl | omega) ?_
    refine athen_n ?_
    refine AW.ret ?_
    obtain rfl := Option.some.inj h
    exact ⟨rfl, [], [], [], rfl, (by (simp only [go_sem]) <;> (repeat' with_reducible apply And.intro) <;> first | assumption | rfl | omega)⟩
  · refine AW.seq ?_
    refine AW.seq ?_
    refine AW.ops ?_
    refine AO.allF tab_ok (by decide) [(0, .sl Y0 specs), (7, .sl Y1 h0), (8, .int .i64 (h0.length : Int)), (9, .int .i64 0)] [] (by (simp only [go_sem]) <;> (repeat' with_reducible apply And.intro) <;> first | assumption | rfl | omega) ?_
    refine athen_n ?_
    refine AW.block ?_
    obtain ⟨rv5, hw1, ho2⟩ := Option.bind_eq_some_iff.1 h
    refine AW.loopO (history_fits_b1 specs h0) (fun st1 => ⟨fr [(0, .sl Y0 specs), (7, .sl Y1 h0), (8, .int .i64 (h0.length : Int)), (9, .int .i64 st1)], hpGet [], gt⟩) 0 hw1 (Wk.le [] [] [] rfl (by (simp only [go_sem]) <;> (repeat' with_reducible apply And.intro) <;> first | assumption | rfl | omega) (by (simp only [go_sem]) <;> (repeat' with_reducible apply And.intro) <;> first | assumption | rfl | omega)) ?_
    intro st1 x4 h hd3
    unfold history_fits_b1 at h
    refine AW.seq ?_
    refine AW.ops ?_
    refine AO.allF tab_ok (by decide) [(0, .sl Y0 specs), (7, .sl Y1 h0), (8, .int .i64 (h0.length : Int)), (9, .int .i64 st1), (10, .bool (decide (st1 < (h0.length : Int))))] [] (by (simp only [go_sem]) <;> (repeat' with_reducible apply And.intro) <;> first | assumption | rfl | omega) ?_
    refine athen_n ?_
    refine AW.seq ?_
    refine AW.cond (b := (decide (st1 < (h0.length : Int)))) rfl (fun hb6 => ?_) (fun hb6 => ?_)
    · rw [if_pos hb6] at h
      refine AW.skip ?_
      refine athen_n ?_
      refine AW.seq ?_
      refine AW.block ?_
      refine AW.seq ?_
      refine AW.ops ?_
      obtain ⟨c7, h⟩ := ck_some.1 h
      obtain ⟨c8, h⟩ := ck_some.1 h
      refine AO.allF tab_ok (by decide) [(0, .sl Y0 specs), (6, .bp 6 0), (7, .sl Y1 h0), (8, .int .i64 (h0.length : Int)), (9, .int .i64 st1)] [(6, .box 55 [.int .i64 (h0.getD st1.toNat (0, 0, 0, 0, 0, 0)).1, .int .i64 (h0.getD st1.toNat (0, 0, 0, 0, 0, 0)).2.1, .int .i64 (h0.getD st1.toNat (0, 0, 0, 0, 0, 0)).2.2.1, .int .i64 (h0.getD st1.toNat (0, 0, 0, 0, 0, 0)).2.2.2.1, .int .i64 (h0.getD st1.toNat (0, 0, 0, 0, 0, 0)).2.2.2.2.1, .int .i64 (h0.getD st1.toNat (0, 0, 0, 0, 0, 0)).2.2.2.2.2])] (by (simp only [go_sem, hb6]) <;> (repeat' with_reducible apply And.intro) <;> first | assumption | rfl | omega) ?_
      refine athen_n ?_
      refine AW.seq ?_
      refine AW.draw tab_ok mixed_ok [] [] (by decide) (by kernel_rfl) ?_
      refine adops_cut 6 (fun K' hK9 => ?_)
      try dsimp only [List.drop_succ_cons, List.drop_zero, List.take_succ_cons, List.take_zero]
      simp only [go_sem, hb6]
      repeat (with_reducible refine And.intro (by first | assumption | rfl | omega | trivial) ?_)
      refine hK9 _ ?_
      rcases Bool.eq_false_or_eq_true (decide ((specs.length : Int) ≤ (h0.getD st1.toNat (0, 0, 0, 0, 0, 0)).2.1)) with hb10 | hb10
      · rw [if_pos hb10] at h
        simp only [hb10]
        refine adops_cut 4 (fun K' hK11 => ?_)
        try dsimp only [List.drop_succ_cons, List.drop_zero, List.take_succ_cons, List.take_zero]
        simp only [go_sem, hb6, hb10]
        repeat (with_reducible refine And.intro (by first | assumption | rfl | omega | trivial) ?_)
        refine hK11 _ ?_
        refine adops_cut 4 (fun K' hK12 => ?_)
        try dsimp only [List.drop_succ_cons, List.drop_zero, List.take_succ_cons, List.take_zero]
        simp only [go_sem, hb6, hb10]
        repeat (with_reducible refine And.intro (by first | assumption | rfl | omega | trivial) ?_)
        refine hK12 _ ?_
        refine adops_cut 2 (fun K' hK13 => ?_)
        try dsimp only [List.drop_succ_cons, List.drop_zero, List.take_succ_cons, List.take_zero]
        simp only [go_sem, hb6, hb10]
        repeat (with_reducible refine And.intro (by first | assumption | rfl | omega | trivial) ?_)
        refine hK13 _ ?_
        refine adops_nil ?_
        refine athen_n ?_
        refine AW.weaken (s' := ⟨fr [(0, .sl Y0 specs), (7, .sl Y1 h0), (8, .int .i64 (h0.length : Int)), (9, .int .i64 st1), (28, .bool true)], hpGet [], gt⟩) (Wk.to (by (simp only [go_sem, hb6, hb10]) <;> (repeat' with_reducible apply And.intro) <;> first | assumption | rfl | omega)) ?_
        refine AW.cond (b := true) rfl (fun _ => ?_) (fun hb14 => by cases hb14)
        refine AW.seq ?_
        refine AW.ops ?_
        refine AO.allF tab_ok (by decide) [(4, .bool false)] [] (by (simp only [go_sem, hb6, hb10]) <;> (repeat' with_reducible apply And.intro) <;> first | assumption | rfl | omega) ?_
        refine athen_n ?_
        refine AW.ret ?_
        refine ablock_r ?_
        refine athen_r ?_
        obtain rfl := Option.some.inj h
        rw [← hd3 _ rfl] at ho2
        have h := ho2
        try simp only at h
        refine athen_r ?_
        refine ablock_r ?_
        refine athen_r ?_
        obtain rfl := Option.some.inj h
        exact ⟨rfl, [], [], [], rfl, (by (simp only [go_sem, hb6, hb10]) <;> (repeat' with_reducible apply And.intro) <;> first | assumption | rfl | omega)⟩
      · rw [if_neg (Bool.eq_false_iff.1 hb10)] at h
        simp only [hb10]
        obtain ⟨c16, h⟩ := ck_some.1 h
        obtain ⟨c17, h⟩ := ck_some.1 h
        refine adops_cut 6 (fun K' hK15 => ?_)
        try dsimp only [List.drop_succ_cons, List.drop_zero, List.take_succ_cons, List.take_zero]
        simp only [go_sem, hb6, hb10]
        repeat (with_reducible refine And.intro (by first | assumption | rfl | omega | trivial) ?_)
        refine hK15 _ ?_
        refine adops_cut 4 (fun K' hK18 => ?_)
        try dsimp only [List.drop_succ_cons, List.drop_zero, List.take_succ_cons, List.take_zero]
        simp only [go_sem, hb6, hb10]
        repeat (with_reducible refine And.intro (by first | assumption | rfl | omega | trivial) ?_)
        refine hK18 _ ?_
        refine adops_nil ?_
        refine athen_n ?_
        refine AW.weaken (s' := ⟨fr [(0, .sl Y0 specs), (7, .sl Y1 h0), (8, .int .i64 (h0.length : Int)), (9, .int .i64 st1), (28, .bool (decide ((specs.getD (h0.getD st1.toNat (0, 0, 0, 0, 0, 0)).2.1.toNat (0, 0, [], [])).2.1 ≤ (h0.getD st1.toNat (0, 0, 0, 0, 0, 0)).2.2.1)))], hpGet [], gt⟩) (Wk.to (by (simp only [go_sem, hb6, hb10]) <;> (repeat' with_reducible apply And.intro) <;> first | assumption | rfl | omega)) ?_
        refine AW.cond (b := (decide ((specs.getD (h0.getD st1.toNat (0, 0, 0, 0, 0, 0)).2.1.toNat (0, 0, [], [])).2.1 ≤ (h0.getD st1.toNat (0, 0, 0, 0, 0, 0)).2.2.1))) rfl (fun hb19 => ?_) (fun hb19 => ?_)
        · rw [if_pos hb19] at h
          refine AW.seq ?_
          refine AW.ops ?_
          refine AO.allF tab_ok (by decide) [(4, .bool false)] [] (by (simp only [go_sem, hb6, hb10, hb19]) <;> (repeat' with_reducible apply And.intro) <;> first | assumption | rfl | omega) ?_
          refine athen_n ?_
          refine AW.ret ?_
          refine ablock_r ?_
          refine athen_r ?_
          obtain rfl := Option.some.inj h
          rw [← hd3 _ rfl] at ho2
          have h := ho2
          try simp only at h
          refine athen_r ?_
          refine ablock_r ?_
          refine athen_r ?_
          obtain rfl := Option.some.inj h
          exact ⟨rfl, [], [], [], rfl, (by (simp only [go_sem, hb6, hb10, hb19]) <;> (repeat' with_reducible apply And.intro) <;> first | assumption | rfl | omega)⟩
        · rw [if_neg (Bool.eq_false_iff.1 hb19)] at h
          refine AW.skip ?_
          refine ablock_n ?_
          refine athen_n ?_
          refine AW.ops ?_
          obtain ⟨c20, h⟩ := ck_some.1 h
          refine AO.allF tab_ok (by decide) [(0, .sl Y0 specs), (7, .sl Y1 h0), (8, .int .i64 (h0.length : Int)), (9, .int .i64 (st1 + 1))] [] (by (simp only [go_sem, hb6, hb10, hb19]) <;> (repeat' with_reducible apply And.intro) <;> first | assumption | rfl | omega) ?_
          obtain rfl := Option.some.inj h
          exact ⟨_, rfl, Wk.le [] [] [] rfl (by (simp only [go_sem, hb6, hb10, hb19]) <;> (repeat' with_reducible apply And.intro) <;> first | assumption | rfl | omega) (by (simp only [go_sem, hb6, hb10, hb19]) <;> (repeat' with_reducible apply And.intro) <;> first | assumption | rfl | omega)⟩
    · rw [if_neg (Bool.eq_false_iff.1 hb6)] at h
      refine AW.exit ?_
      refine athen_e ?_
      obtain rfl := Option.some.inj h
      rw [← hd3 _ rfl] at ho2
      have h := ho2
      try simp only at h
      refine athen_e ?_
      refine ablock_s ?_
      refine athen_n ?_
      exact AW.weaken (Wk.le [] [] [] rfl (by (simp only [go_sem, hb6]) <;> (repeat' with_reducible apply And.intro) <;> first | assumption | rfl | omega) (by (simp only [go_sem, hb6]) <;> (repeat' with_reducible apply And.intro) <;> first | assumption | rfl | omega)) (hk_history_fits_k1 () h)

end Go.Proofs.Ytdkdkpenmgkdcaa
