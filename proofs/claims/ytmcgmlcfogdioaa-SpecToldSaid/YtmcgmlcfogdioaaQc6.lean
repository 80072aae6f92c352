/-
  Made by wip/tool/dc.py out of the print of the program: contracts.
-/
import Derived.Test.YtmcgmlcfogdioaaQp
import Derived.Test.YtmcgmlcfogdioaaTb
import Derived.Test.YtmcgmlcfogdioaaQc5
namespace Go.Proofs.Ytmcgmlcfogdioaa
open Go.RowKit

set_option linter.unusedSimpArgs false
set_option linter.unusedVariables false
set_option linter.constructorNameAsVariable false

set_option maxRecDepth 100000 in
set_option maxHeartbeats 2000000 in
theorem hc_linealref01_Valid (s : Int × Int × (List (List Int)) × (List (List Int))) {r : Bool} (h : linealref01_Valid s = some r) : HC Try.prog 22 [] [.agg [.int .i64 s.1, .int .i64 s.2.1, .sl (.sl (.int .i64)) s.2.2.1, .sl (.sl (.int .i64)) s.2.2.2]] [] (.bool r) := by
  unfold linealref01_Valid at h
  refine HC.of_body tab_ok (res := [.tmp 2]) Try.func22 rfl (by kernel_rfl) rfl (nt := 35) rfl (by decide) (by simp) ?_
  refine AW.seq ?_
  refine AW.ops ?_
  refine AO.allF tab_ok (by decide) [(1, .bp 1 0)] [(1, .box 24 [.int .i64 s.1, .int .i64 s.2.1, .sl (.sl (.int .i64)) s.2.2.1, .sl (.sl (.int .i64)) s.2.2.2])] (by (simp only [go_sem]) <;> (repeat' with_reducible apply And.intro) <;> first | assumption | rfl | omega | (unfold maxLen; omega)) ?_
  refine athen_n ?_
  refine AW.seq ?_
  refine AW.ops ?_
  refine AO.segF tab_ok 4 (by decide) [(1, .bp 1 0), (6, .bool (decide (1 ≤ s.1)))] [(1, .box 24 [.int .i64 s.1, .int .i64 s.2.1, .sl (.sl (.int .i64)) s.2.2.1, .sl (.sl (.int .i64)) s.2.2.2])] (by (simp only [go_sem]) <;> (repeat' with_reducible apply And.intro) <;> first | assumption | rfl | omega | (unfold maxLen; omega)) ?_
  rcases Bool.eq_false_or_eq_true (decide (1 ≤ s.1)) with hb1 | hb1
  · rw [if_pos hb1] at h
    refine AO.weaken (s' := ⟨fr [(1, .bp 1 0), (6, .bool true)], hpGet [(1, .box 24 [.int .i64 s.1, .int .i64 s.2.1, .sl (.sl (.int .i64)) s.2.2.1, .sl (.sl (.int .i64)) s.2.2.2])], gt⟩) (Wk.to (by (simp only [go_sem, hb1]) <;> (repeat' with_reducible apply And.intro) <;> first | assumption | rfl | omega | (unfold maxLen; omega))) ?_
    refine AO.segF tab_ok 5 (by decide) [(1, .bp 1 0), (11, .bool (decide (s.1 ≤ 8)))] [(1, .box 24 [.int .i64 s.1, .int .i64 s.2.1, .sl (.sl (.int .i64)) s.2.2.1, .sl (.sl (.int .i64)) s.2.2.2])] (by (simp only [go_sem, hb1]) <;> (repeat' with_reducible apply And.intro) <;> first | assumption | rfl | omega | (unfold maxLen; omega)) ?_
    rcases Bool.eq_false_or_eq_true (decide (s.1 ≤ 8)) with hb2 | hb2
    · rw [if_pos hb2] at h
      refine AO.weaken (s' := ⟨fr [(1, .bp 1 0), (11, .bool true)], hpGet [(1, .box 24 [.int .i64 s.1, .int .i64 s.2.1, .sl (.sl (.int .i64)) s.2.2.1, .sl (.sl (.int .i64)) s.2.2.2])], gt⟩) (Wk.to (by (simp only [go_sem, hb1, hb2]) <;> (repeat' with_reducible apply And.intro) <;> first | assumption | rfl | omega | (unfold maxLen; omega))) ?_
      refine AO.segF tab_ok 5 (by decide) [(1, .bp 1 0), (16, .bool (decide (1 ≤ s.2.1)))] [(1, .box 24 [.int .i64 s.1, .int .i64 s.2.1, .sl (.sl (.int .i64)) s.2.2.1, .sl (.sl (.int .i64)) s.2.2.2])] (by (simp only [go_sem, hb1, hb2]) <;> (repeat' with_reducible apply And.intro) <;> first | assumption | rfl | omega | (unfold maxLen; omega)) ?_
      rcases Bool.eq_false_or_eq_true (decide (1 ≤ s.2.1)) with hb3 | hb3
      · rw [if_pos hb3] at h
        refine AO.weaken (s' := ⟨fr [(1, .bp 1 0), (16, .bool true)], hpGet [(1, .box 24 [.int .i64 s.1, .int .i64 s.2.1, .sl (.sl (.int .i64)) s.2.2.1, .sl (.sl (.int .i64)) s.2.2.2])], gt⟩) (Wk.to (by (simp only [go_sem, hb1, hb2, hb3]) <;> (repeat' with_reducible apply And.intro) <;> first | assumption | rfl | omega | (unfold maxLen; omega))) ?_
        refine AO.segF tab_ok 5 (by decide) [(1, .bp 1 0), (21, .bool (decide (s.2.1 ≤ 4)))] [(1, .box 24 [.int .i64 s.1, .int .i64 s.2.1, .sl (.sl (.int .i64)) s.2.2.1, .sl (.sl (.int .i64)) s.2.2.2])] (by (simp only [go_sem, hb1, hb2, hb3]) <;> (repeat' with_reducible apply And.intro) <;> first | assumption | rfl | omega | (unfold maxLen; omega)) ?_
        rcases Bool.eq_false_or_eq_true (decide (s.2.1 ≤ 4)) with hb4 | hb4
        · rw [if_pos hb4] at h
          refine AO.weaken (s' := ⟨fr [(1, .bp 1 0), (21, .bool true)], hpGet [(1, .box 24 [.int .i64 s.1, .int .i64 s.2.1, .sl (.sl (.int .i64)) s.2.2.1, .sl (.sl (.int .i64)) s.2.2.2])], gt⟩) (Wk.to (by (simp only [go_sem, hb1, hb2, hb3, hb4]) <;> (repeat' with_reducible apply And.intro) <;> first | assumption | rfl | omega | (unfold maxLen; omega))) ?_
          refine AO.segF tab_ok 5 (by decide) [(1, .bp 1 0), (21, .bool true), (22, .agg [.int .i64 s.1, .int .i64 s.2.1, .sl (.sl (.int .i64)) s.2.2.1, .sl (.sl (.int .i64)) s.2.2.2]), (24, .sl (.sl (.int .i64)) s.2.2.1), (26, .int .i64 s.1)] [(1, .box 24 [.int .i64 s.1, .int .i64 s.2.1, .sl (.sl (.int .i64)) s.2.2.1, .sl (.sl (.int .i64)) s.2.2.2])] (by (simp only [go_sem, hb1, hb2, hb3, hb4]) <;> (repeat' with_reducible apply And.intro) <;> first | assumption | rfl | omega | (unfold maxLen; omega)) ?_
          obtain ⟨v0, hv5, h⟩ := Option.bind_eq_some_iff.1 h
          refine AO.call tab_ok (by decide) rfl rfl rfl (fun _ h => ⟨fun _ => h, fun hn => absurd rfl hn⟩) [] [] (hc_linealref01_isTable s s.2.2.1 s.1 hv5) rfl (by (simp only [go_sem, hb1, hb2, hb3, hb4]) <;> (repeat' with_reducible apply And.intro) <;> first | assumption | rfl | omega | (unfold maxLen; omega)) (by (simp only [go_sem, hb1, hb2, hb3, hb4]) <;> (repeat' with_reducible apply And.intro) <;> first | assumption | rfl | omega | (unfold maxLen; omega)) [(1, .bp 1 0), (21, .bool true), (27, .bool v0)] [(1, .box 24 [.int .i64 s.1, .int .i64 s.2.1, .sl (.sl (.int .i64)) s.2.2.1, .sl (.sl (.int .i64)) s.2.2.2])] (by (simp only [go_sem, hb1, hb2, hb3, hb4]) <;> (repeat' with_reducible apply And.intro) <;> first | assumption | rfl | omega | (unfold maxLen; omega)) ?_
          refine AO.segF tab_ok 2 (by decide) [(1, .bp 1 0), (29, .bool v0)] [(1, .box 24 [.int .i64 s.1, .int .i64 s.2.1, .sl (.sl (.int .i64)) s.2.2.1, .sl (.sl (.int .i64)) s.2.2.2])] (by (simp only [go_sem, hb1, hb2, hb3, hb4]) <;> (repeat' with_reducible apply And.intro) <;> first | assumption | rfl | omega | (unfold maxLen; omega)) ?_
          rcases Bool.eq_false_or_eq_true v0 with hb6 | hb6
          · rw [if_pos hb6] at h
            refine AO.weaken (s' := ⟨fr [(1, .bp 1 0), (29, .bool true)], hpGet [(1, .box 24 [.int .i64 s.1, .int .i64 s.2.1, .sl (.sl (.int .i64)) s.2.2.1, .sl (.sl (.int .i64)) s.2.2.2])], gt⟩) (Wk.to (by (simp only [go_sem, hb1, hb2, hb3, hb4, hb6]) <;> (repeat' with_reducible apply And.intro) <;> first | assumption | rfl | omega | (unfold maxLen; omega))) ?_
            refine AO.segF tab_ok 3 (by decide) [(29, .bool true), (30, .agg [.int .i64 s.1, .int .i64 s.2.1, .sl (.sl (.int .i64)) s.2.2.1, .sl (.sl (.int .i64)) s.2.2.2]), (32, .sl (.sl (.int .i64)) s.2.2.2)] [] (by (simp only [go_sem, hb1, hb2, hb3, hb4, hb6]) <;> (repeat' with_reducible apply And.intro) <;> first | assumption | rfl | omega | (unfold maxLen; omega)) ?_
            obtain ⟨v0_2, hv7, h⟩ := Option.bind_eq_some_iff.1 h
            refine AO.call tab_ok (by decide) rfl rfl rfl (fun _ h => ⟨fun _ => h, fun hn => absurd rfl hn⟩) [] [] (hc_linealref01_isTable s s.2.2.2 6 hv7) rfl (by (simp only [go_sem, hb1, hb2, hb3, hb4, hb6]) <;> (repeat' with_reducible apply And.intro) <;> first | assumption | rfl | omega | (unfold maxLen; omega)) (by (simp only [go_sem, hb1, hb2, hb3, hb4, hb6]) <;> (repeat' with_reducible apply And.intro) <;> first | assumption | rfl | omega | (unfold maxLen; omega)) [(29, .bool true), (33, .bool v0_2)] [] (by (simp only [go_sem, hb1, hb2, hb3, hb4, hb6]) <;> (repeat' with_reducible apply And.intro) <;> first | assumption | rfl | omega | (unfold maxLen; omega)) ?_
            refine AO.allF tab_ok (by decide) [(2, .bool v0_2)] [] (by (simp only [go_sem, hb1, hb2, hb3, hb4, hb6]) <;> (repeat' with_reducible apply And.intro) <;> first | assumption | rfl | omega | (unfold maxLen; omega)) ?_
            refine athen_n ?_
            refine AW.ret ?_
            obtain rfl := Option.some.inj h
            exact ⟨rfl, [], [], [], rfl, (by (simp only [go_sem, hb1, hb2, hb3, hb4, hb6]) <;> (repeat' with_reducible apply And.intro) <;> first | assumption | rfl | omega | (unfold maxLen; omega))⟩
          · rw [if_neg (Bool.eq_false_iff.1 hb6)] at h
            refine AO.weaken (s' := ⟨fr [(1, .bp 1 0), (29, .bool false)], hpGet [(1, .box 24 [.int .i64 s.1, .int .i64 s.2.1, .sl (.sl (.int .i64)) s.2.2.1, .sl (.sl (.int .i64)) s.2.2.2])], gt⟩) (Wk.to (by (simp only [go_sem, hb1, hb2, hb3, hb4, hb6]) <;> (repeat' with_reducible apply And.intro) <;> first | assumption | rfl | omega | (unfold maxLen; omega))) ?_
            refine AO.segF tab_ok 4 (by decide) [(29, .bool false), (33, .cv (undef))] [] (by (simp only [go_sem, hb1, hb2, hb3, hb4, hb6]) <;> (repeat' with_reducible apply And.intro) <;> first | assumption | rfl | omega | (unfold maxLen; omega)) ?_
            refine AO.allF tab_ok (by decide) [(2, .bool false)] [] (by (simp only [go_sem, hb1, hb2, hb3, hb4, hb6]) <;> (repeat' with_reducible apply And.intro) <;> first | assumption | rfl | omega | (unfold maxLen; omega)) ?_
            refine athen_n ?_
            refine AW.ret ?_
            obtain rfl := Option.some.inj h
            exact ⟨rfl, [], [], [], rfl, (by (simp only [go_sem, hb1, hb2, hb3, hb4, hb6]) <;> (repeat' with_reducible apply And.intro) <;> first | assumption | rfl | omega | (unfold maxLen; omega))⟩
        · rw [if_neg (Bool.eq_false_iff.1 hb4)] at h
          refine AO.weaken (s' := ⟨fr [(1, .bp 1 0), (21, .bool false)], hpGet [(1, .box 24 [.int .i64 s.1, .int .i64 s.2.1, .sl (.sl (.int .i64)) s.2.2.1, .sl (.sl (.int .i64)) s.2.2.2])], gt⟩) (Wk.to (by (simp only [go_sem, hb1, hb2, hb3, hb4]) <;> (repeat' with_reducible apply And.intro) <;> first | assumption | rfl | omega | (unfold maxLen; omega))) ?_
          refine AO.segF tab_ok 4 (by decide) [(1, .bp 1 0), (21, .bool false), (22, .cv (undef)), (24, .cv (undef)), (25, .cv (undef))] [(1, .box 24 [.int .i64 s.1, .int .i64 s.2.1, .sl (.sl (.int .i64)) s.2.2.1, .sl (.sl (.int .i64)) s.2.2.2])] (by (simp only [go_sem, hb1, hb2, hb3, hb4]) <;> (repeat' with_reducible apply And.intro) <;> first | assumption | rfl | omega | (unfold maxLen; omega)) ?_
          refine AO.segF tab_ok 6 (by decide) [(29, .bool false), (30, .cv (undef)), (31, .cv (undef))] [] (by (simp only [go_sem, hb1, hb2, hb3, hb4]) <;> (repeat' with_reducible apply And.intro) <;> first | assumption | rfl | omega | (unfold maxLen; omega)) ?_
          refine AO.allF tab_ok (by decide) [(2, .bool false)] [] (by (simp only [go_sem, hb1, hb2, hb3, hb4]) <;> (repeat' with_reducible apply And.intro) <;> first | assumption | rfl | omega | (unfold maxLen; omega)) ?_
          refine athen_n ?_
          refine AW.ret ?_
          obtain rfl := Option.some.inj h
          exact ⟨rfl, [], [], [], rfl, (by (simp only [go_sem, hb1, hb2, hb3, hb4]) <;> (repeat' with_reducible apply And.intro) <;> first | assumption | rfl | omega | (unfold maxLen; omega))⟩
      · rw [if_neg (Bool.eq_false_iff.1 hb3)] at h
        refine AO.weaken (s' := ⟨fr [(1, .bp 1 0), (16, .bool false)], hpGet [(1, .box 24 [.int .i64 s.1, .int .i64 s.2.1, .sl (.sl (.int .i64)) s.2.2.1, .sl (.sl (.int .i64)) s.2.2.2])], gt⟩) (Wk.to (by (simp only [go_sem, hb1, hb2, hb3]) <;> (repeat' with_reducible apply And.intro) <;> first | assumption | rfl | omega | (unfold maxLen; omega))) ?_
        refine AO.segF tab_ok 6 (by decide) [(1, .bp 1 0), (21, .bool false), (22, .cv (undef))] [(1, .box 24 [.int .i64 s.1, .int .i64 s.2.1, .sl (.sl (.int .i64)) s.2.2.1, .sl (.sl (.int .i64)) s.2.2.2])] (by (simp only [go_sem, hb1, hb2, hb3]) <;> (repeat' with_reducible apply And.intro) <;> first | assumption | rfl | omega | (unfold maxLen; omega)) ?_
        refine AO.segF tab_ok 4 (by decide) [(1, .bp 1 0), (21, .bool false), (22, .cv (undef)), (24, .cv (undef)), (26, .cv (undef))] [(1, .box 24 [.int .i64 s.1, .int .i64 s.2.1, .sl (.sl (.int .i64)) s.2.2.1, .sl (.sl (.int .i64)) s.2.2.2])] (by (simp only [go_sem, hb1, hb2, hb3]) <;> (repeat' with_reducible apply And.intro) <;> first | assumption | rfl | omega | (unfold maxLen; omega)) ?_
        refine AO.segF tab_ok 6 (by decide) [(29, .bool false), (30, .cv (undef)), (32, .cv (undef))] [] (by (simp only [go_sem, hb1, hb2, hb3]) <;> (repeat' with_reducible apply And.intro) <;> first | assumption | rfl | omega | (unfold maxLen; omega)) ?_
        refine AO.allF tab_ok (by decide) [(2, .bool false)] [] (by (simp only [go_sem, hb1, hb2, hb3]) <;> (repeat' with_reducible apply And.intro) <;> first | assumption | rfl | omega | (unfold maxLen; omega)) ?_
        refine athen_n ?_
        refine AW.ret ?_
        obtain rfl := Option.some.inj h
        exact ⟨rfl, [], [], [], rfl, (by (simp only [go_sem, hb1, hb2, hb3]) <;> (repeat' with_reducible apply And.intro) <;> first | assumption | rfl | omega | (unfold maxLen; omega))⟩
    · rw [if_neg (Bool.eq_false_iff.1 hb2)] at h
      refine AO.weaken (s' := ⟨fr [(1, .bp 1 0), (11, .bool false)], hpGet [(1, .box 24 [.int .i64 s.1, .int .i64 s.2.1, .sl (.sl (.int .i64)) s.2.2.1, .sl (.sl (.int .i64)) s.2.2.2])], gt⟩) (Wk.to (by (simp only [go_sem, hb1, hb2]) <;> (repeat' with_reducible apply And.intro) <;> first | assumption | rfl | omega | (unfold maxLen; omega))) ?_
      refine AO.segF tab_ok 6 (by decide) [(1, .bp 1 0), (16, .bool false), (17, .cv (undef))] [(1, .box 24 [.int .i64 s.1, .int .i64 s.2.1, .sl (.sl (.int .i64)) s.2.2.1, .sl (.sl (.int .i64)) s.2.2.2])] (by (simp only [go_sem, hb1, hb2]) <;> (repeat' with_reducible apply And.intro) <;> first | assumption | rfl | omega | (unfold maxLen; omega)) ?_
      refine AO.segF tab_ok 6 (by decide) [(1, .bp 1 0), (21, .bool false), (22, .cv (undef)), (23, .cv (undef))] [(1, .box 24 [.int .i64 s.1, .int .i64 s.2.1, .sl (.sl (.int .i64)) s.2.2.1, .sl (.sl (.int .i64)) s.2.2.2])] (by (simp only [go_sem, hb1, hb2]) <;> (repeat' with_reducible apply And.intro) <;> first | assumption | rfl | omega | (unfold maxLen; omega)) ?_
      refine AO.segF tab_ok 4 (by decide) [(1, .bp 1 0), (21, .bool false), (27, .cv (undef))] [(1, .box 24 [.int .i64 s.1, .int .i64 s.2.1, .sl (.sl (.int .i64)) s.2.2.1, .sl (.sl (.int .i64)) s.2.2.2])] (by (simp only [go_sem, hb1, hb2]) <;> (repeat' with_reducible apply And.intro) <;> first | assumption | rfl | omega | (unfold maxLen; omega)) ?_
      refine AO.segF tab_ok 6 (by decide) [(29, .bool false), (33, .cv (undef))] [] (by (simp only [go_sem, hb1, hb2]) <;> (repeat' with_reducible apply And.intro) <;> first | assumption | rfl | omega | (unfold maxLen; omega)) ?_
      refine AO.allF tab_ok (by decide) [(2, .bool false)] [] (by (simp only [go_sem, hb1, hb2]) <;> (repeat' with_reducible apply And.intro) <;> first | assumption | rfl | omega | (unfold maxLen; omega)) ?_
      refine athen_n ?_
      refine AW.ret ?_
      obtain rfl := Option.some.inj h
      exact ⟨rfl, [], [], [], rfl, (by (simp only [go_sem, hb1, hb2]) <;> (repeat' with_reducible apply And.intro) <;> first | assumption | rfl | omega | (unfold maxLen; omega))⟩
  · rw [if_neg (Bool.eq_false_iff.1 hb1)] at h
    refine AO.weaken (s' := ⟨fr [(1, .bp 1 0), (6, .bool false)], hpGet [(1, .box 24 [.int .i64 s.1, .int .i64 s.2.1, .sl (.sl (.int .i64)) s.2.2.1, .sl (.sl (.int .i64)) s.2.2.2])], gt⟩) (Wk.to (by (simp only [go_sem, hb1]) <;> (repeat' with_reducible apply And.intro) <;> first | assumption | rfl | omega | (unfold maxLen; omega))) ?_
    refine AO.segF tab_ok 6 (by decide) [(1, .bp 1 0), (11, .bool false), (12, .cv (undef))] [(1, .box 24 [.int .i64 s.1, .int .i64 s.2.1, .sl (.sl (.int .i64)) s.2.2.1, .sl (.sl (.int .i64)) s.2.2.2])] (by (simp only [go_sem, hb1]) <;> (repeat' with_reducible apply And.intro) <;> first | assumption | rfl | omega | (unfold maxLen; omega)) ?_
    refine AO.segF tab_ok 6 (by decide) [(1, .bp 1 0), (16, .bool false), (18, .cv (undef))] [(1, .box 24 [.int .i64 s.1, .int .i64 s.2.1, .sl (.sl (.int .i64)) s.2.2.1, .sl (.sl (.int .i64)) s.2.2.2])] (by (simp only [go_sem, hb1]) <;> (repeat' with_reducible apply And.intro) <;> first | assumption | rfl | omega | (unfold maxLen; omega)) ?_
    refine AO.segF tab_ok 6 (by decide) [(1, .bp 1 0), (21, .bool false), (22, .cv (undef)), (24, .cv (undef))] [(1, .box 24 [.int .i64 s.1, .int .i64 s.2.1, .sl (.sl (.int .i64)) s.2.2.1, .sl (.sl (.int .i64)) s.2.2.2])] (by (simp only [go_sem, hb1]) <;> (repeat' with_reducible apply And.intro) <;> first | assumption | rfl | omega | (unfold maxLen; omega)) ?_
    refine AO.segF tab_ok 6 (by decide) [(1, .bp 1 0), (29, .bool false), (30, .cv (undef))] [(1, .box 24 [.int .i64 s.1, .int .i64 s.2.1, .sl (.sl (.int .i64)) s.2.2.1, .sl (.sl (.int .i64)) s.2.2.2])] (by (simp only [go_sem, hb1]) <;> (repeat' with_reducible apply And.intro) <;> first | assumption | rfl | omega | (unfold maxLen; omega)) ?_
    refine AO.allF tab_ok (by decide) [(2, .bool false)] [] (by (simp only [go_sem, hb1]) <;> (repeat' with_reducible apply And.intro) <;> first | assumption | rfl | omega | (unfold maxLen; omega)) ?_
    refine athen_n ?_
    refine AW.ret ?_
    obtain rfl := Option.some.inj h
    exact ⟨rfl, [], [], [], rfl, (by (simp only [go_sem, hb1]) <;> (repeat' with_reducible apply And.intro) <;> first | assumption | rfl | omega | (unfold maxLen; omega))⟩

set_option maxRecDepth 100000 in
set_option maxHeartbeats 2000000 in
theorem hc_linealref01_IsState (s : Int × Int × (List (List Int)) × (List (List Int))) (n : Int) {r : Bool} (h : linealref01_IsState s n = some r) : HC Try.prog 58 [] [.agg [.int .i64 s.1, .int .i64 s.2.1, .sl (.sl (.int .i64)) s.2.2.1, .sl (.sl (.int .i64)) s.2.2.2], .int .i64 n] [] (.bool r) := by
  unfold linealref01_IsState at h
  refine HC.of_body tab_ok (res := [.tmp 4]) Try.func58 rfl (by kernel_rfl) rfl (nt := 13) rfl (by decide) (by simp) ?_
  refine AW.seq ?_
  refine AW.ops ?_
  refine AO.allF tab_ok (by decide) [(1, .int .i64 n), (2, .bp 2 0)] [(2, .box 24 [.int .i64 s.1, .int .i64 s.2.1, .sl (.sl (.int .i64)) s.2.2.1, .sl (.sl (.int .i64)) s.2.2.2])] (by (simp only [go_sem]) <;> (repeat' with_reducible apply And.intro) <;> first | assumption | rfl | omega | (unfold maxLen; omega)) ?_
  refine athen_n ?_
  refine AW.seq ?_
  refine AW.ops ?_
  refine AO.segF tab_ok 3 (by decide) [(1, .int .i64 n), (2, .bp 2 0), (7, .bool (decide (0 ≤ n)))] [(2, .box 24 [.int .i64 s.1, .int .i64 s.2.1, .sl (.sl (.int .i64)) s.2.2.1, .sl (.sl (.int .i64)) s.2.2.2])] (by (simp only [go_sem]) <;> (repeat' with_reducible apply And.intro) <;> first | assumption | rfl | omega | (unfold maxLen; omega)) ?_
  rcases Bool.eq_false_or_eq_true (decide (0 ≤ n)) with hb1 | hb1
  · rw [if_pos hb1] at h
    refine AO.weaken (s' := ⟨fr [(1, .int .i64 n), (2, .bp 2 0), (7, .bool true)], hpGet [(2, .box 24 [.int .i64 s.1, .int .i64 s.2.1, .sl (.sl (.int .i64)) s.2.2.1, .sl (.sl (.int .i64)) s.2.2.2])], gt⟩) (Wk.to (by (simp only [go_sem, hb1]) <;> (repeat' with_reducible apply And.intro) <;> first | assumption | rfl | omega | (unfold maxLen; omega))) ?_
    refine AO.allF tab_ok (by decide) [(4, .bool (decide (n < s.1)))] [] (by (simp only [go_sem, hb1]) <;> (repeat' with_reducible apply And.intro) <;> first | assumption | rfl | omega | (unfold maxLen; omega)) ?_
    refine athen_n ?_
    refine AW.ret ?_
    obtain rfl := Option.some.inj h
    exact ⟨rfl, [], [], [], rfl, (by (simp only [go_sem, hb1]) <;> (repeat' with_reducible apply And.intro) <;> first | assumption | rfl | omega | (unfold maxLen; omega))⟩
  · rw [if_neg (Bool.eq_false_iff.1 hb1)] at h
    refine AO.weaken (s' := ⟨fr [(1, .int .i64 n), (2, .bp 2 0), (7, .bool false)], hpGet [(2, .box 24 [.int .i64 s.1, .int .i64 s.2.1, .sl (.sl (.int .i64)) s.2.2.1, .sl (.sl (.int .i64)) s.2.2.2])], gt⟩) (Wk.to (by (simp only [go_sem, hb1]) <;> (repeat' with_reducible apply And.intro) <;> first | assumption | rfl | omega | (unfold maxLen; omega))) ?_
    refine AO.segF tab_ok 4 (by decide) [(7, .bool false), (11, .cv (undef))] [] (by (simp only [go_sem, hb1]) <;> (repeat' with_reducible apply And.intro) <;> first | assumption | rfl | omega | (unfold maxLen; omega)) ?_
    refine AO.allF tab_ok (by decide) [(4, .bool false)] [] (by (simp only [go_sem, hb1]) <;> (repeat' with_reducible apply And.intro) <;> first | assumption | rfl | omega | (unfold maxLen; omega)) ?_
    refine athen_n ?_
    refine AW.ret ?_
    obtain rfl := Option.some.inj h
    exact ⟨rfl, [], [], [], rfl, (by (simp only [go_sem, hb1]) <;> (repeat' with_reducible apply And.intro) <;> first | assumption | rfl | omega | (unfold maxLen; omega))⟩

set_option maxRecDepth 100000 in
set_option maxHeartbeats 2000000 in
theorem hc_linealref01_asked (s : Int × Int × (List (List Int)) × (List (List Int))) (a : Int) (b : Int) {r : Int} (h : linealref01_asked s a b = some r) : HC Try.prog 61 [] [.agg [.int .i64 s.1, .int .i64 s.2.1, .sl (.sl (.int .i64)) s.2.2.1, .sl (.sl (.int .i64)) s.2.2.2], .int .i64 a, .int .i64 b] [] (.int .i64 r) := by
  unfold linealref01_asked at h
  refine HC.of_body tab_ok (res := [.tmp 6]) Try.func61 rfl (by kernel_rfl) rfl (nt := 20) rfl (by decide) (by simp) ?_
  refine AW.seq ?_
  refine AW.ops ?_
  refine AO.allF tab_ok (by decide) [(1, .int .i64 a), (2, .int .i64 b), (3, .bp 3 0)] [(3, .box 24 [.int .i64 s.1, .int .i64 s.2.1, .sl (.sl (.int .i64)) s.2.2.1, .sl (.sl (.int .i64)) s.2.2.2])] (by (simp only [go_sem]) <;> (repeat' with_reducible apply And.intro) <;> first | assumption | rfl | omega | (unfold maxLen; omega)) ?_
  refine athen_n ?_
  refine AW.seq ?_
  refine AW.seq ?_
  refine AW.ops ?_
  refine AO.segF tab_ok 1 (by decide) [(1, .int .i64 a), (2, .int .i64 b), (3, .bp 3 0), (7, .agg [.int .i64 s.1, .int .i64 s.2.1, .sl (.sl (.int .i64)) s.2.2.1, .sl (.sl (.int .i64)) s.2.2.2])] [(3, .box 24 [.int .i64 s.1, .int .i64 s.2.1, .sl (.sl (.int .i64)) s.2.2.1, .sl (.sl (.int .i64)) s.2.2.2])] (by (simp only [go_sem]) <;> (repeat' with_reducible apply And.intro) <;> first | assumption | rfl | omega | (unfold maxLen; omega)) ?_
  obtain ⟨v0, hv1, h⟩ := Option.bind_eq_some_iff.1 h
  refine AO.call tab_ok (by decide) rfl rfl rfl (fun _ h => h) [] [] (hc_linealref01_Valid s hv1) rfl (by (simp only [go_sem]) <;> (repeat' with_reducible apply And.intro) <;> first | assumption | rfl | omega | (unfold maxLen; omega)) (by (simp only [go_sem]) <;> (repeat' with_reducible apply And.intro) <;> first | assumption | rfl | omega | (unfold maxLen; omega)) [(1, .int .i64 a), (2, .int .i64 b), (3, .bp 3 0), (8, .bool v0)] [(3, .box 24 [.int .i64 s.1, .int .i64 s.2.1, .sl (.sl (.int .i64)) s.2.2.1, .sl (.sl (.int .i64)) s.2.2.2])] (by (simp only [go_sem]) <;> (repeat' with_reducible apply And.intro) <;> first | assumption | rfl | omega | (unfold maxLen; omega)) ?_
  refine AO.allF tab_ok (by decide) [(1, .int .i64 a), (2, .int .i64 b), (3, .bp 3 0), (9, .bool (!v0))] [(3, .box 24 [.int .i64 s.1, .int .i64 s.2.1, .sl (.sl (.int .i64)) s.2.2.1, .sl (.sl (.int .i64)) s.2.2.2])] (by (simp only [go_sem]) <;> (repeat' with_reducible apply And.intro) <;> first | assumption | rfl | omega | (unfold maxLen; omega)) ?_
  refine athen_n ?_
  refine AW.cond (b := (!v0)) rfl (fun hb2 => ?_) (fun hb2 => ?_)
  · rw [if_pos hb2] at h
    refine AW.seq ?_
    refine AW.ops ?_
    refine AO.allF tab_ok (by decide) [(6, .int .i64 10)] [] (by (simp only [go_sem, hb2]) <;> (repeat' with_reducible apply And.intro) <;> first | assumption | rfl | omega | (unfold maxLen; omega)) ?_
    refine athen_n ?_
    refine AW.ret ?_
    refine athen_r ?_
    obtain rfl := Option.some.inj h
    exact ⟨rfl, [], [], [], rfl, (by (simp only [go_sem, hb2]) <;> (repeat' with_reducible apply And.intro) <;> first | assumption | rfl | omega | (unfold maxLen; omega))⟩
  · rw [if_neg (Bool.eq_false_iff.1 hb2)] at h
    refine AW.skip ?_
    refine athen_n ?_
    refine AW.seq ?_
    refine AW.seq ?_
    refine AW.ops ?_
    refine AO.segF tab_ok 2 (by decide) [(2, .int .i64 b), (3, .bp 3 0), (10, .agg [.int .i64 s.1, .int .i64 s.2.1, .sl (.sl (.int .i64)) s.2.2.1, .sl (.sl (.int .i64)) s.2.2.2]), (11, .int .i64 a)] [(3, .box 24 [.int .i64 s.1, .int .i64 s.2.1, .sl (.sl (.int .i64)) s.2.2.1, .sl (.sl (.int .i64)) s.2.2.2])] (by (simp only [go_sem, hb2]) <;> (repeat' with_reducible apply And.intro) <;> first | assumption | rfl | omega | (unfold maxLen; omega)) ?_
    obtain ⟨v0_2, hv3, h⟩ := Option.bind_eq_some_iff.1 h
    refine AO.call tab_ok (by decide) rfl rfl rfl (fun _ h => h) [] [] (hc_linealref01_IsState s a hv3) rfl (by (simp only [go_sem, hb2]) <;> (repeat' with_reducible apply And.intro) <;> first | assumption | rfl | omega | (unfold maxLen; omega)) (by (simp only [go_sem, hb2]) <;> (repeat' with_reducible apply And.intro) <;> first | assumption | rfl | omega | (unfold maxLen; omega)) [(2, .int .i64 b), (3, .bp 3 0), (12, .bool v0_2)] [(3, .box 24 [.int .i64 s.1, .int .i64 s.2.1, .sl (.sl (.int .i64)) s.2.2.1, .sl (.sl (.int .i64)) s.2.2.2])] (by (simp only [go_sem, hb2]) <;> (repeat' with_reducible apply And.intro) <;> first | assumption | rfl | omega | (unfold maxLen; omega)) ?_
    refine AO.segF tab_ok 2 (by decide) [(2, .int .i64 b), (3, .bp 3 0), (14, .bool (!v0_2))] [(3, .box 24 [.int .i64 s.1, .int .i64 s.2.1, .sl (.sl (.int .i64)) s.2.2.1, .sl (.sl (.int .i64)) s.2.2.2])] (by (simp only [go_sem, hb2]) <;> (repeat' with_reducible apply And.intro) <;> first | assumption | rfl | omega | (unfold maxLen; omega)) ?_
    rcases Bool.eq_false_or_eq_true (!v0_2) with hb4 | hb4
    · rw [if_pos hb4] at h
      refine AO.weaken (s' := ⟨fr [(2, .int .i64 b), (3, .bp 3 0), (14, .bool true)], hpGet [(3, .box 24 [.int .i64 s.1, .int .i64 s.2.1, .sl (.sl (.int .i64)) s.2.2.1, .sl (.sl (.int .i64)) s.2.2.2])], gt⟩) (Wk.to (by (simp only [go_sem, hb2, hb4]) <;> (repeat' with_reducible apply And.intro) <;> first | assumption | rfl | omega | (unfold maxLen; omega))) ?_
      refine AO.segF tab_ok 4 (by decide) [(14, .bool true), (18, .cv (undef))] [] (by (simp only [go_sem, hb2, hb4]) <;> (repeat' with_reducible apply And.intro) <;> first | assumption | rfl | omega | (unfold maxLen; omega)) ?_
      refine AO.allF tab_ok (by decide) [(19, .bool true)] [] (by (simp only [go_sem, hb2, hb4]) <;> (repeat' with_reducible apply And.intro) <;> first | assumption | rfl | omega | (unfold maxLen; omega)) ?_
      refine athen_n ?_
      refine AW.cond (b := true) rfl (fun _ => ?_) (fun hb5 => by cases hb5)
      refine AW.seq ?_
      refine AW.ops ?_
      refine AO.allF tab_ok (by decide) [(6, .int .i64 2)] [] (by (simp only [go_sem, hb2, hb4]) <;> (repeat' with_reducible apply And.intro) <;> first | assumption | rfl | omega | (unfold maxLen; omega)) ?_
      refine athen_n ?_
      refine AW.ret ?_
      refine athen_r ?_
      obtain rfl := Option.some.inj h
      exact ⟨rfl, [], [], [], rfl, (by (simp only [go_sem, hb2, hb4]) <;> (repeat' with_reducible apply And.intro) <;> first | assumption | rfl | omega | (unfold maxLen; omega))⟩
    · rw [if_neg (Bool.eq_false_iff.1 hb4)] at h
      refine AO.weaken (s' := ⟨fr [(2, .int .i64 b), (3, .bp 3 0), (14, .bool false)], hpGet [(3, .box 24 [.int .i64 s.1, .int .i64 s.2.1, .sl (.sl (.int .i64)) s.2.2.1, .sl (.sl (.int .i64)) s.2.2.2])], gt⟩) (Wk.to (by (simp only [go_sem, hb2, hb4]) <;> (repeat' with_reducible apply And.intro) <;> first | assumption | rfl | omega | (unfold maxLen; omega))) ?_
      refine AO.segF tab_ok 2 (by decide) [(14, .bool false), (15, .agg [.int .i64 s.1, .int .i64 s.2.1, .sl (.sl (.int .i64)) s.2.2.1, .sl (.sl (.int .i64)) s.2.2.2]), (16, .int .i64 b)] [] (by (simp only [go_sem, hb2, hb4]) <;> (repeat' with_reducible apply And.intro) <;> first | assumption | rfl | omega | (unfold maxLen; omega)) ?_
      obtain ⟨v0_3, hv6, h⟩ := Option.bind_eq_some_iff.1 h
      refine AO.call tab_ok (by decide) rfl rfl rfl (fun _ h => ⟨fun _ => h, fun hn => absurd rfl hn⟩) [] [] (hc_linealref01_IsState s b hv6) rfl (by (simp only [go_sem, hb2, hb4]) <;> (repeat' with_reducible apply And.intro) <;> first | assumption | rfl | omega | (unfold maxLen; omega)) (by (simp only [go_sem, hb2, hb4]) <;> (repeat' with_reducible apply And.intro) <;> first | assumption | rfl | omega | (unfold maxLen; omega)) [(14, .bool false), (17, .bool v0_3)] [] (by (simp only [go_sem, hb2, hb4]) <;> (repeat' with_reducible apply And.intro) <;> first | assumption | rfl | omega | (unfold maxLen; omega)) ?_
      refine AO.allF tab_ok (by decide) [(19, .bool (!v0_3))] [] (by (simp only [go_sem, hb2, hb4]) <;> (repeat' with_reducible apply And.intro) <;> first | assumption | rfl | omega | (unfold maxLen; omega)) ?_
      refine athen_n ?_
      refine AW.cond (b := (!v0_3)) rfl (fun hb7 => ?_) (fun hb7 => ?_)
      · rw [if_pos hb7] at h
        refine AW.seq ?_
        refine AW.ops ?_
        refine AO.allF tab_ok (by decide) [(6, .int .i64 2)] [] (by (simp only [go_sem, hb2, hb4, hb7]) <;> (repeat' with_reducible apply And.intro) <;> first | assumption | rfl | omega | (unfold maxLen; omega)) ?_
        refine athen_n ?_
        refine AW.ret ?_
        refine athen_r ?_
        obtain rfl := Option.some.inj h
        exact ⟨rfl, [], [], [], rfl, (by (simp only [go_sem, hb2, hb4, hb7]) <;> (repeat' with_reducible apply And.intro) <;> first | assumption | rfl | omega | (unfold maxLen; omega))⟩
      · rw [if_neg (Bool.eq_false_iff.1 hb7)] at h
        refine AW.skip ?_
        refine athen_n ?_
        refine AW.seq ?_
        refine AW.ops ?_
        refine AO.allF tab_ok (by decide) [(6, .int .i64 0)] [] (by (simp only [go_sem, hb2, hb4, hb7]) <;> (repeat' with_reducible apply And.intro) <;> first | assumption | rfl | omega | (unfold maxLen; omega)) ?_
        refine athen_n ?_
        refine AW.ret ?_
        obtain rfl := Option.some.inj h
        exact ⟨rfl, [], [], [], rfl, (by (simp only [go_sem, hb2, hb4, hb7]) <;> (repeat' with_reducible apply And.intro) <;> first | assumption | rfl | omega | (unfold maxLen; omega))⟩

set_option maxRecDepth 100000 in
set_option maxHeartbeats 2000000 in
theorem hc_linealref01_exchanged (n : Int) (other : Int) {r : Int} (h : linealref01_exchanged n other = some r) : HC Try.prog 91 [] [.int .i64 n, .int .i64 other] [] (.int .i64 r) := by
  unfold linealref01_exchanged at h
  refine HC.of_body tab_ok (res := [.tmp 4]) Try.func91 rfl (by kernel_rfl) rfl (nt := 13) rfl (by decide) (by simp) ?_
  refine AW.seq ?_
  refine AW.ops ?_
  refine AO.allF tab_ok (by decide) [(0, .int .i64 n), (1, .int .i64 other)] [] (by (simp only [go_sem]) <;> (repeat' with_reducible apply And.intro) <;> first | assumption | rfl | omega | (unfold maxLen; omega)) ?_
  refine athen_n ?_
  refine AW.seq ?_
  refine AW.seq ?_
  refine AW.ops ?_
  refine AO.allF tab_ok (by decide) [(0, .int .i64 n), (1, .int .i64 other), (5, .int .i64 n)] [] (by (simp only [go_sem]) <;> (repeat' with_reducible apply And.intro) <;> first | assumption | rfl | omega | (unfold maxLen; omega)) ?_
  refine athen_n ?_
  refine AW.block ?_
  refine AW.seq ?_
  refine AW.ops ?_
  refine AO.allF tab_ok (by decide) [(0, .int .i64 n), (1, .int .i64 other), (5, .int .i64 n), (6, .bool (decide (n = 0)))] [] (by (simp only [go_sem]) <;> (repeat' with_reducible apply And.intro) <;> first | assumption | rfl | omega | (unfold maxLen; omega)) ?_
  refine athen_n ?_
  refine AW.cond (b := (decide (n = 0))) rfl (fun hb1 => ?_) (fun hb1 => ?_)
  · rw [if_pos hb1] at h
    refine AW.seq ?_
    refine AW.ops ?_
    refine AO.allF tab_ok (by decide) [(4, .int .i64 other)] [] (by (simp only [go_sem, hb1]) <;> (repeat' with_reducible apply And.intro) <;> first | assumption | rfl | omega | (unfold maxLen; omega)) ?_
    refine athen_n ?_
    refine AW.ret ?_
    refine ablock_r ?_
    refine athen_r ?_
    obtain rfl := Option.some.inj h
    exact ⟨rfl, [], [], [], rfl, (by (simp only [go_sem, hb1]) <;> (repeat' with_reducible apply And.intro) <;> first | assumption | rfl | omega | (unfold maxLen; omega))⟩
  · rw [if_neg (Bool.eq_false_iff.1 hb1)] at h
    refine AW.seq ?_
    refine AW.ops ?_
    refine AO.allF tab_ok (by decide) [(0, .int .i64 n), (9, .bool (decide (n = other)))] [] (by (simp only [go_sem, hb1]) <;> (repeat' with_reducible apply And.intro) <;> first | assumption | rfl | omega | (unfold maxLen; omega)) ?_
    refine athen_n ?_
    refine AW.cond (b := (decide (n = other))) rfl (fun hb2 => ?_) (fun hb2 => ?_)
    · rw [if_pos hb2] at h
      refine AW.seq ?_
      refine AW.ops ?_
      refine AO.allF tab_ok (by decide) [(4, .int .i64 0)] [] (by (simp only [go_sem, hb1, hb2]) <;> (repeat' with_reducible apply And.intro) <;> first | assumption | rfl | omega | (unfold maxLen; omega)) ?_
      refine athen_n ?_
      refine AW.ret ?_
      refine ablock_r ?_
      refine athen_r ?_
      obtain rfl := Option.some.inj h
      exact ⟨rfl, [], [], [], rfl, (by (simp only [go_sem, hb1, hb2]) <;> (repeat' with_reducible apply And.intro) <;> first | assumption | rfl | omega | (unfold maxLen; omega))⟩
    · rw [if_neg (Bool.eq_false_iff.1 hb2)] at h
      refine AW.skip ?_
      refine ablock_n ?_
      refine athen_n ?_
      refine AW.seq ?_
      refine AW.ops ?_
      refine AO.allF tab_ok (by decide) [(4, .int .i64 n)] [] (by (simp only [go_sem, hb1, hb2]) <;> (repeat' with_reducible apply And.intro) <;> first | assumption | rfl | omega | (unfold maxLen; omega)) ?_
      refine athen_n ?_
      refine AW.ret ?_
      obtain rfl := Option.some.inj h
      exact ⟨rfl, [], [], [], rfl, (by (simp only [go_sem, hb1, hb2]) <;> (repeat' with_reducible apply And.intro) <;> first | assumption | rfl | omega | (unfold maxLen; omega))⟩

end Go.Proofs.Ytmcgmlcfogdioaa
