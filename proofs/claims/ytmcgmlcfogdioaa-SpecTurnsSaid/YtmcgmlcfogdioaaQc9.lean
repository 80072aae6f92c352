/-
  Made by wip/tool/dc.py out of the print of the program: contracts.
-/
import Derived.Test.YtmcgmlcfogdioaaQp
import Derived.Test.YtmcgmlcfogdioaaTb
import Derived.Test.YtmcgmlcfogdioaaQc4
import Derived.Test.YtmcgmlcfogdioaaQc5
import Derived.Test.YtmcgmlcfogdioaaQc6
import Derived.Test.YtmcgmlcfogdioaaQc7
import Derived.Test.YtmcgmlcfogdioaaQc8
namespace Go.Proofs.Ytmcgmlcfogdioaa
open Go.RowKit

set_option linter.unusedSimpArgs false
set_option linter.unusedVariables false
set_option linter.constructorNameAsVariable false

set_option maxRecDepth 100000 in
set_option maxHeartbeats 2000000 in
theorem hc_lineallaw01_SpecTurns (s : Int × Int × (List (List Int)) × (List (List Int))) (state : Int) (word : List Int) {r : Bool} (h : lineallaw01_SpecTurns s state word = some r) : HC Try.prog 14 [] [.agg [.int .i64 s.1, .int .i64 s.2.1, .sl (.sl (.int .i64)) s.2.2.1, .sl (.sl (.int .i64)) s.2.2.2], .int .u8 state, .sl (.int .i64) word] [] (.bool r) := by
  unfold lineallaw01_SpecTurns at h
  refine HC.of_body tab_ok (res := [.tmp 6]) Try.func14 rfl (by kernel_rfl) rfl (nt := 103) rfl (by decide) (by simp) ?_
  refine AW.seq ?_
  refine AW.ops ?_
  refine AO.allF tab_ok (by decide) [(1, .int .u8 state), (2, .sl (.int .i64) word), (3, .bp 3 0)] [(3, .box 24 [.int .i64 s.1, .int .i64 s.2.1, .sl (.sl (.int .i64)) s.2.2.1, .sl (.sl (.int .i64)) s.2.2.2])] (by (simp only [go_sem]) <;> (repeat' with_reducible apply And.intro) <;> first | assumption | rfl | omega | (unfold maxLen; omega)) ?_
  refine athen_n ?_
  refine AW.seq ?_
  refine AW.seq ?_
  refine AW.ops ?_
  refine AO.segF tab_ok 1 (by decide) [(1, .int .u8 state), (2, .sl (.int .i64) word), (3, .bp 3 0), (18, .agg [.int .i64 s.1, .int .i64 s.2.1, .sl (.sl (.int .i64)) s.2.2.1, .sl (.sl (.int .i64)) s.2.2.2])] [(3, .box 24 [.int .i64 s.1, .int .i64 s.2.1, .sl (.sl (.int .i64)) s.2.2.1, .sl (.sl (.int .i64)) s.2.2.2])] (by (simp only [go_sem]) <;> (repeat' with_reducible apply And.intro) <;> first | assumption | rfl | omega | (unfold maxLen; omega)) ?_
  obtain ⟨v0, hv1, h⟩ := Option.bind_eq_some_iff.1 h
  refine AO.call tab_ok (by decide) rfl rfl rfl (fun _ h => h) [] [] (hc_lineallaw01_Long s hv1) rfl (by (simp only [go_sem]) <;> (repeat' with_reducible apply And.intro) <;> first | assumption | rfl | omega | (unfold maxLen; omega)) (by (simp only [go_sem]) <;> (repeat' with_reducible apply And.intro) <;> first | assumption | rfl | omega | (unfold maxLen; omega)) [(1, .int .u8 state), (2, .sl (.int .i64) word), (3, .bp 3 0), (19, .bool v0)] [(3, .box 24 [.int .i64 s.1, .int .i64 s.2.1, .sl (.sl (.int .i64)) s.2.2.1, .sl (.sl (.int .i64)) s.2.2.2])] (by (simp only [go_sem]) <;> (repeat' with_reducible apply And.intro) <;> first | assumption | rfl | omega | (unfold maxLen; omega)) ?_
  refine AO.segF tab_ok 1 (by decide) [(1, .int .u8 state), (2, .sl (.int .i64) word), (3, .bp 3 0), (20, .bool v0)] [(3, .box 24 [.int .i64 s.1, .int .i64 s.2.1, .sl (.sl (.int .i64)) s.2.2.1, .sl (.sl (.int .i64)) s.2.2.2])] (by (simp only [go_sem]) <;> (repeat' with_reducible apply And.intro) <;> first | assumption | rfl | omega | (unfold maxLen; omega)) ?_
  rcases Bool.eq_false_or_eq_true v0 with hb2 | hb2
  · rw [if_pos hb2] at h
    refine AO.weaken (s' := ⟨fr [(1, .int .u8 state), (2, .sl (.int .i64) word), (3, .bp 3 0), (20, .bool true)], hpGet [(3, .box 24 [.int .i64 s.1, .int .i64 s.2.1, .sl (.sl (.int .i64)) s.2.2.1, .sl (.sl (.int .i64)) s.2.2.2])], gt⟩) (Wk.to (by (simp only [go_sem, hb2]) <;> (repeat' with_reducible apply And.intro) <;> first | assumption | rfl | omega | (unfold maxLen; omega))) ?_
    refine AO.segF tab_ok 6 (by decide) [(1, .int .u8 state), (2, .sl (.int .i64) word), (3, .bp 3 0), (25, .bool true), (26, .cv (undef))] [(3, .box 24 [.int .i64 s.1, .int .i64 s.2.1, .sl (.sl (.int .i64)) s.2.2.1, .sl (.sl (.int .i64)) s.2.2.2])] (by (simp only [go_sem, hb2]) <;> (repeat' with_reducible apply And.intro) <;> first | assumption | rfl | omega | (unfold maxLen; omega)) ?_
    refine AO.allF tab_ok (by decide) [(1, .int .u8 state), (2, .sl (.int .i64) word), (3, .bp 3 0), (30, .bool true)] [(3, .box 24 [.int .i64 s.1, .int .i64 s.2.1, .sl (.sl (.int .i64)) s.2.2.1, .sl (.sl (.int .i64)) s.2.2.2])] (by (simp only [go_sem, hb2]) <;> (repeat' with_reducible apply And.intro) <;> first | assumption | rfl | omega | (unfold maxLen; omega)) ?_
    refine athen_n ?_
    refine AW.cond (b := true) rfl (fun _ => ?_) (fun hb3 => by cases hb3)
    refine AW.seq ?_
    refine AW.ops ?_
    obtain ⟨v0_2, hv4, h⟩ := Option.bind_eq_some_iff.1 h
    refine AO.call tab_ok (by decide) rfl rfl rfl (fun _ h => h) [] [] (hc_lineallaw01_Awake hv4) rfl (by (simp only [go_sem, hb2]) <;> (repeat' with_reducible apply And.intro) <;> first | assumption | rfl | omega | (unfold maxLen; omega)) (by (simp only [go_sem, hb2]) <;> (repeat' with_reducible apply And.intro) <;> first | assumption | rfl | omega | (unfold maxLen; omega)) [(31, .bool v0_2)] [] (by (simp only [go_sem, hb2]) <;> (repeat' with_reducible apply And.intro) <;> first | assumption | rfl | omega | (unfold maxLen; omega)) ?_
    refine AO.allF tab_ok (by decide) [(6, .bool v0_2)] [] (by (simp only [go_sem, hb2]) <;> (repeat' with_reducible apply And.intro) <;> first | assumption | rfl | omega | (unfold maxLen; omega)) ?_
    refine athen_n ?_
    refine AW.ret ?_
    refine athen_r ?_
    obtain rfl := Option.some.inj h
    exact ⟨rfl, [], [], [], rfl, (by (simp only [go_sem, hb2]) <;> (repeat' with_reducible apply And.intro) <;> first | assumption | rfl | omega | (unfold maxLen; omega))⟩
  · rw [if_neg (Bool.eq_false_iff.1 hb2)] at h
    refine AO.weaken (s' := ⟨fr [(1, .int .u8 state), (2, .sl (.int .i64) word), (3, .bp 3 0), (20, .bool false)], hpGet [(3, .box 24 [.int .i64 s.1, .int .i64 s.2.1, .sl (.sl (.int .i64)) s.2.2.1, .sl (.sl (.int .i64)) s.2.2.2])], gt⟩) (Wk.to (by (simp only [go_sem, hb2]) <;> (repeat' with_reducible apply And.intro) <;> first | assumption | rfl | omega | (unfold maxLen; omega))) ?_
    refine AO.segF tab_ok 1 (by decide) [(1, .int .u8 state), (2, .sl (.int .i64) word), (3, .bp 3 0), (20, .bool false), (21, .agg [.int .i64 s.1, .int .i64 s.2.1, .sl (.sl (.int .i64)) s.2.2.1, .sl (.sl (.int .i64)) s.2.2.2])] [(3, .box 24 [.int .i64 s.1, .int .i64 s.2.1, .sl (.sl (.int .i64)) s.2.2.1, .sl (.sl (.int .i64)) s.2.2.2])] (by (simp only [go_sem, hb2]) <;> (repeat' with_reducible apply And.intro) <;> first | assumption | rfl | omega | (unfold maxLen; omega)) ?_
    obtain ⟨v0_3, hv5, h⟩ := Option.bind_eq_some_iff.1 h
    refine AO.call tab_ok (by decide) rfl rfl rfl (fun _ h => ⟨fun _ => h, fun hn => absurd rfl hn⟩) [] [] (hc_linealref01_Valid s hv5) rfl (by (simp only [go_sem, hb2]) <;> (repeat' with_reducible apply And.intro) <;> first | assumption | rfl | omega | (unfold maxLen; omega)) (by (simp only [go_sem, hb2]) <;> (repeat' with_reducible apply And.intro) <;> first | assumption | rfl | omega | (unfold maxLen; omega)) [(1, .int .u8 state), (2, .sl (.int .i64) word), (3, .bp 3 0), (20, .bool false), (22, .bool v0_3)] [(3, .box 24 [.int .i64 s.1, .int .i64 s.2.1, .sl (.sl (.int .i64)) s.2.2.1, .sl (.sl (.int .i64)) s.2.2.2])] (by (simp only [go_sem, hb2]) <;> (repeat' with_reducible apply And.intro) <;> first | assumption | rfl | omega | (unfold maxLen; omega)) ?_
    refine AO.segF tab_ok 3 (by decide) [(1, .int .u8 state), (2, .sl (.int .i64) word), (3, .bp 3 0), (25, .bool (!v0_3))] [(3, .box 24 [.int .i64 s.1, .int .i64 s.2.1, .sl (.sl (.int .i64)) s.2.2.1, .sl (.sl (.int .i64)) s.2.2.2])] (by (simp only [go_sem, hb2]) <;> (repeat' with_reducible apply And.intro) <;> first | assumption | rfl | omega | (unfold maxLen; omega)) ?_
    rcases Bool.eq_false_or_eq_true (!v0_3) with hb6 | hb6
    · rw [if_pos hb6] at h
      refine AO.weaken (s' := ⟨fr [(1, .int .u8 state), (2, .sl (.int .i64) word), (3, .bp 3 0), (25, .bool true)], hpGet [(3, .box 24 [.int .i64 s.1, .int .i64 s.2.1, .sl (.sl (.int .i64)) s.2.2.1, .sl (.sl (.int .i64)) s.2.2.2])], gt⟩) (Wk.to (by (simp only [go_sem, hb2, hb6]) <;> (repeat' with_reducible apply And.intro) <;> first | assumption | rfl | omega | (unfold maxLen; omega))) ?_
      refine AO.segF tab_ok 4 (by decide) [(1, .int .u8 state), (2, .sl (.int .i64) word), (3, .bp 3 0), (25, .bool true), (29, .cv (undef))] [(3, .box 24 [.int .i64 s.1, .int .i64 s.2.1, .sl (.sl (.int .i64)) s.2.2.1, .sl (.sl (.int .i64)) s.2.2.2])] (by (simp only [go_sem, hb2, hb6]) <;> (repeat' with_reducible apply And.intro) <;> first | assumption | rfl | omega | (unfold maxLen; omega)) ?_
      refine AO.allF tab_ok (by decide) [(1, .int .u8 state), (2, .sl (.int .i64) word), (3, .bp 3 0), (30, .bool true)] [(3, .box 24 [.int .i64 s.1, .int .i64 s.2.1, .sl (.sl (.int .i64)) s.2.2.1, .sl (.sl (.int .i64)) s.2.2.2])] (by (simp only [go_sem, hb2, hb6]) <;> (repeat' with_reducible apply And.intro) <;> first | assumption | rfl | omega | (unfold maxLen; omega)) ?_
      refine athen_n ?_
      refine AW.cond (b := true) rfl (fun _ => ?_) (fun hb7 => by cases hb7)
      refine AW.seq ?_
      refine AW.ops ?_
      obtain ⟨v0_4, hv8, h⟩ := Option.bind_eq_some_iff.1 h
      refine AO.call tab_ok (by decide) rfl rfl rfl (fun _ h => h) [] [] (hc_lineallaw01_Awake hv8) rfl (by (simp only [go_sem, hb2, hb6]) <;> (repeat' with_reducible apply And.intro) <;> first | assumption | rfl | omega | (unfold maxLen; omega)) (by (simp only [go_sem, hb2, hb6]) <;> (repeat' with_reducible apply And.intro) <;> first | assumption | rfl | omega | (unfold maxLen; omega)) [(31, .bool v0_4)] [] (by (simp only [go_sem, hb2, hb6]) <;> (repeat' with_reducible apply And.intro) <;> first | assumption | rfl | omega | (unfold maxLen; omega)) ?_
      refine AO.allF tab_ok (by decide) [(6, .bool v0_4)] [] (by (simp only [go_sem, hb2, hb6]) <;> (repeat' with_reducible apply And.intro) <;> first | assumption | rfl | omega | (unfold maxLen; omega)) ?_
      refine athen_n ?_
      refine AW.ret ?_
      refine athen_r ?_
      obtain rfl := Option.some.inj h
      exact ⟨rfl, [], [], [], rfl, (by (simp only [go_sem, hb2, hb6]) <;> (repeat' with_reducible apply And.intro) <;> first | assumption | rfl | omega | (unfold maxLen; omega))⟩
    · rw [if_neg (Bool.eq_false_iff.1 hb6)] at h
      refine AO.weaken (s' := ⟨fr [(1, .int .u8 state), (2, .sl (.int .i64) word), (3, .bp 3 0), (25, .bool false)], hpGet [(3, .box 24 [.int .i64 s.1, .int .i64 s.2.1, .sl (.sl (.int .i64)) s.2.2.1, .sl (.sl (.int .i64)) s.2.2.2])], gt⟩) (Wk.to (by (simp only [go_sem, hb2, hb6]) <;> (repeat' with_reducible apply And.intro) <;> first | assumption | rfl | omega | (unfold maxLen; omega))) ?_
      refine AO.segF tab_ok 2 (by decide) [(1, .int .u8 state), (2, .sl (.int .i64) word), (3, .bp 3 0), (25, .bool false), (26, .agg [.int .i64 s.1, .int .i64 s.2.1, .sl (.sl (.int .i64)) s.2.2.1, .sl (.sl (.int .i64)) s.2.2.2]), (27, .sl (.int .i64) word)] [(3, .box 24 [.int .i64 s.1, .int .i64 s.2.1, .sl (.sl (.int .i64)) s.2.2.1, .sl (.sl (.int .i64)) s.2.2.2])] (by (simp only [go_sem, hb2, hb6]) <;> (repeat' with_reducible apply And.intro) <;> first | assumption | rfl | omega | (unfold maxLen; omega)) ?_
      obtain ⟨v0_5, hv9, h⟩ := Option.bind_eq_some_iff.1 h
      refine AO.call tab_ok (by decide) rfl rfl rfl (fun _ h => ⟨fun _ => h, fun hn => absurd rfl hn⟩) [] [] (hc_linealref01_IsWord s word hv9) rfl (by (simp only [go_sem, hb2, hb6]) <;> (repeat' with_reducible apply And.intro) <;> first | assumption | rfl | omega | (unfold maxLen; omega)) (by (simp only [go_sem, hb2, hb6]) <;> (repeat' with_reducible apply And.intro) <;> first | assumption | rfl | omega | (unfold maxLen; omega)) [(1, .int .u8 state), (2, .sl (.int .i64) word), (3, .bp 3 0), (25, .bool false), (28, .bool v0_5)] [(3, .box 24 [.int .i64 s.1, .int .i64 s.2.1, .sl (.sl (.int .i64)) s.2.2.1, .sl (.sl (.int .i64)) s.2.2.2])] (by (simp only [go_sem, hb2, hb6]) <;> (repeat' with_reducible apply And.intro) <;> first | assumption | rfl | omega | (unfold maxLen; omega)) ?_
      refine AO.allF tab_ok (by decide) [(1, .int .u8 state), (2, .sl (.int .i64) word), (3, .bp 3 0), (30, .bool (!v0_5))] [(3, .box 24 [.int .i64 s.1, .int .i64 s.2.1, .sl (.sl (.int .i64)) s.2.2.1, .sl (.sl (.int .i64)) s.2.2.2])] (by (simp only [go_sem, hb2, hb6]) <;> (repeat' with_reducible apply And.intro) <;> first | assumption | rfl | omega | (unfold maxLen; omega)) ?_
      refine athen_n ?_
      refine AW.cond (b := (!v0_5)) rfl (fun hb10 => ?_) (fun hb10 => ?_)
      · rw [if_pos hb10] at h
        refine AW.seq ?_
        refine AW.ops ?_
        obtain ⟨v0_6, hv11, h⟩ := Option.bind_eq_some_iff.1 h
        refine AO.call tab_ok (by decide) rfl rfl rfl (fun _ h => h) [] [] (hc_lineallaw01_Awake hv11) rfl (by (simp only [go_sem, hb2, hb6, hb10]) <;> (repeat' with_reducible apply And.intro) <;> first | assumption | rfl | omega | (unfold maxLen; omega)) (by (simp only [go_sem, hb2, hb6, hb10]) <;> (repeat' with_reducible apply And.intro) <;> first | assumption | rfl | omega | (unfold maxLen; omega)) [(31, .bool v0_6)] [] (by (simp only [go_sem, hb2, hb6, hb10]) <;> (repeat' with_reducible apply And.intro) <;> first | assumption | rfl | omega | (unfold maxLen; omega)) ?_
        refine AO.allF tab_ok (by decide) [(6, .bool v0_6)] [] (by (simp only [go_sem, hb2, hb6, hb10]) <;> (repeat' with_reducible apply And.intro) <;> first | assumption | rfl | omega | (unfold maxLen; omega)) ?_
        refine athen_n ?_
        refine AW.ret ?_
        refine athen_r ?_
        obtain rfl := Option.some.inj h
        exact ⟨rfl, [], [], [], rfl, (by (simp only [go_sem, hb2, hb6, hb10]) <;> (repeat' with_reducible apply And.intro) <;> first | assumption | rfl | omega | (unfold maxLen; omega))⟩
      · rw [if_neg (Bool.eq_false_iff.1 hb10)] at h
        refine AW.skip ?_
        refine athen_n ?_
        refine AW.seq ?_
        refine AW.ops ?_
        obtain ⟨c12, h⟩ := ck_some.1 h
        obtain ⟨c13, h⟩ := ck_some.1 h
        obtain ⟨c14, h⟩ := ck_some.1 h
        refine AO.allF tab_ok (by decide) [(2, .sl (.int .i64) word), (3, .bp 3 0), (7, .int .i64 (state % s.1))] [(3, .box 24 [.int .i64 s.1, .int .i64 s.2.1, .sl (.sl (.int .i64)) s.2.2.1, .sl (.sl (.int .i64)) s.2.2.2])] (by (simp only [go_sem, hb2, hb6, hb10]) <;> (repeat' with_reducible apply And.intro) <;> first | assumption | rfl | omega | (unfold maxLen; omega)) ?_
        refine athen_n ?_
        refine AW.seq ?_
        refine AW.ops ?_
        refine AO.segF tab_ok 2 (by decide) [(2, .sl (.int .i64) word), (3, .bp 3 0), (7, .int .i64 (state % s.1)), (38, .agg [.int .i64 s.1, .int .i64 s.2.1, .sl (.sl (.int .i64)) s.2.2.1, .sl (.sl (.int .i64)) s.2.2.2]), (39, .int .i64 (state % s.1))] [(3, .box 24 [.int .i64 s.1, .int .i64 s.2.1, .sl (.sl (.int .i64)) s.2.2.1, .sl (.sl (.int .i64)) s.2.2.2])] (by (simp only [go_sem, hb2, hb6, hb10]) <;> (repeat' with_reducible apply And.intro) <;> first | assumption | rfl | omega | (unfold maxLen; omega)) ?_
        obtain ⟨v0_7, hv15, h⟩ := Option.bind_eq_some_iff.1 h
        refine AO.call tab_ok (by decide) rfl rfl rfl (fun _ h => h) [] [] (hc_spec_Begun s (state % s.1) hv15) rfl (by (simp only [go_sem, hb2, hb6, hb10]) <;> (repeat' with_reducible apply And.intro) <;> first | assumption | rfl | omega | (unfold maxLen; omega)) (by (simp only [go_sem, hb2, hb6, hb10]) <;> (repeat' with_reducible apply And.intro) <;> first | assumption | rfl | omega | (unfold maxLen; omega)) [(2, .sl (.int .i64) word), (3, .bp 3 0), (7, .int .i64 (state % s.1)), (40, .tup [.agg [.int .i64 v0_7.1, .int .i64 v0_7.2.1, .own 50000, .own 50001], .int .i64 v0_7.2.2.2.2])] [(3, .box 24 [.int .i64 s.1, .int .i64 s.2.1, .sl (.sl (.int .i64)) s.2.2.1, .sl (.sl (.int .i64)) s.2.2.2]), (50000, .arr 25 (.sl (.int .i64)) v0_7.2.2.1), (50001, .arr 25 (.sl (.int .i64)) v0_7.2.2.2.1)] (by (simp only [go_sem, hb2, hb6, hb10]) <;> (repeat' with_reducible apply And.intro) <;> first | assumption | rfl | omega | (unfold maxLen; omega)) ?_
        refine AO.allF tab_ok (by decide) [(2, .sl (.int .i64) word), (3, .bp 3 0), (7, .int .i64 (state % s.1)), (8, .bp 8 0), (9, .int .i64 v0_7.2.2.2.2)] [(3, .box 24 [.int .i64 s.1, .int .i64 s.2.1, .sl (.sl (.int .i64)) s.2.2.1, .sl (.sl (.int .i64)) s.2.2.2]), (8, .box 24 [.int .i64 v0_7.1, .int .i64 v0_7.2.1, .own 50000, .own 50001]), (50000, .arr 25 (.sl (.int .i64)) v0_7.2.2.1), (50001, .arr 25 (.sl (.int .i64)) v0_7.2.2.2.1)] (by (simp only [go_sem, hb2, hb6, hb10]) <;> (repeat' with_reducible apply And.intro) <;> first | assumption | rfl | omega | (unfold maxLen; omega)) ?_
        refine athen_n ?_
        refine AW.seq ?_
        refine AW.ops ?_
        refine AO.segF tab_ok 2 (by decide) [(2, .sl (.int .i64) word), (3, .bp 3 0), (7, .int .i64 (state % s.1)), (8, .bp 8 0), (9, .int .i64 v0_7.2.2.2.2), (44, .agg [.int .i64 v0_7.1, .int .i64 v0_7.2.1, .own 50000, .own 50001]), (45, .int .i64 (state % s.1))] [(3, .box 24 [.int .i64 s.1, .int .i64 s.2.1, .sl (.sl (.int .i64)) s.2.2.1, .sl (.sl (.int .i64)) s.2.2.2]), (8, .box 24 [.int .i64 v0_7.1, .int .i64 v0_7.2.1, .own 50000, .own 50001]), (50000, .arr 25 (.sl (.int .i64)) v0_7.2.2.1), (50001, .arr 25 (.sl (.int .i64)) v0_7.2.2.2.1)] (by (simp only [go_sem, hb2, hb6, hb10]) <;> (repeat' with_reducible apply And.intro) <;> first | assumption | rfl | omega | (unfold maxLen; omega)) ?_
        obtain ⟨v0_8, hv16, h⟩ := Option.bind_eq_some_iff.1 h
        refine AO.call tab_ok (by decide) rfl rfl rfl (fun _ h => h) [50000, 50001] [] (hc_spec_Begun (v0_7.1, v0_7.2.1, v0_7.2.2.1, v0_7.2.2.2.1) (state % s.1) hv16) rfl (by (simp only [go_sem, hb2, hb6, hb10]) <;> (repeat' with_reducible apply And.intro) <;> first | assumption | rfl | omega | (unfold maxLen; omega)) (by (simp only [go_sem, hb2, hb6, hb10]) <;> (repeat' with_reducible apply And.intro) <;> first | assumption | rfl | omega | (unfold maxLen; omega)) [(2, .sl (.int .i64) word), (3, .bp 3 0), (7, .int .i64 (state % s.1)), (8, .bp 8 0), (9, .int .i64 v0_7.2.2.2.2), (46, .tup [.agg [.int .i64 v0_8.1, .int .i64 v0_8.2.1, .own 56000, .own 56001], .int .i64 v0_8.2.2.2.2])] [(3, .box 24 [.int .i64 s.1, .int .i64 s.2.1, .sl (.sl (.int .i64)) s.2.2.1, .sl (.sl (.int .i64)) s.2.2.2]), (8, .box 24 [.int .i64 v0_7.1, .int .i64 v0_7.2.1, .own 50000, .own 50001]), (50000, .imm (.sl (.int .i64)) v0_7.2.2.1), (50001, .imm (.sl (.int .i64)) v0_7.2.2.2.1), (56000, .arr 25 (.sl (.int .i64)) v0_8.2.2.1), (56001, .arr 25 (.sl (.int .i64)) v0_8.2.2.2.1)] (by (simp only [go_sem, hb2, hb6, hb10]) <;> (repeat' with_reducible apply And.intro) <;> first | assumption | rfl | omega | (unfold maxLen; omega)) ?_
        refine AO.allF tab_ok (by decide) [(2, .sl (.int .i64) word), (3, .bp 3 0), (7, .int .i64 (state % s.1)), (8, .bp 8 0), (9, .int .i64 v0_7.2.2.2.2), (10, .bp 10 0), (11, .int .i64 v0_8.2.2.2.2)] [(3, .box 24 [.int .i64 s.1, .int .i64 s.2.1, .sl (.sl (.int .i64)) s.2.2.1, .sl (.sl (.int .i64)) s.2.2.2]), (8, .box 24 [.int .i64 v0_7.1, .int .i64 v0_7.2.1, .own 50000, .own 50001]), (10, .box 24 [.int .i64 v0_8.1, .int .i64 v0_8.2.1, .own 56000, .own 56001]), (50000, .imm (.sl (.int .i64)) v0_7.2.2.1), (50001, .imm (.sl (.int .i64)) v0_7.2.2.2.1), (56000, .arr 25 (.sl (.int .i64)) v0_8.2.2.1), (56001, .arr 25 (.sl (.int .i64)) v0_8.2.2.2.1)] (by (simp only [go_sem, hb2, hb6, hb10]) <;> (repeat' with_reducible apply And.intro) <;> first | assumption | rfl | omega | (unfold maxLen; omega)) ?_
        refine athen_n ?_
        refine AW.seq ?_
        refine AW.ops ?_
        refine AO.segF tab_ok 3 (by decide) [(2, .sl (.int .i64) word), (3, .bp 3 0), (7, .int .i64 (state % s.1)), (8, .bp 8 0), (9, .int .i64 v0_7.2.2.2.2), (10, .bp 10 0), (11, .int .i64 v0_8.2.2.2.2), (50, .agg [.int .i64 s.1, .int .i64 s.2.1, .sl (.sl (.int .i64)) s.2.2.1, .sl (.sl (.int .i64)) s.2.2.2]), (51, .int .i64 (state % s.1)), (52, .sl (.int .i64) word)] [(3, .box 24 [.int .i64 s.1, .int .i64 s.2.1, .sl (.sl (.int .i64)) s.2.2.1, .sl (.sl (.int .i64)) s.2.2.2]), (8, .box 24 [.int .i64 v0_7.1, .int .i64 v0_7.2.1, .own 50000, .own 50001]), (10, .box 24 [.int .i64 v0_8.1, .int .i64 v0_8.2.1, .own 56000, .own 56001]), (50000, .imm (.sl (.int .i64)) v0_7.2.2.1), (50001, .imm (.sl (.int .i64)) v0_7.2.2.2.1), (56000, .arr 25 (.sl (.int .i64)) v0_8.2.2.1), (56001, .arr 25 (.sl (.int .i64)) v0_8.2.2.2.1)] (by (simp only [go_sem, hb2, hb6, hb10]) <;> (repeat' with_reducible apply And.intro) <;> first | assumption | rfl | omega | (unfold maxLen; omega)) ?_
        obtain ⟨v0_9, hv17, h⟩ := Option.bind_eq_some_iff.1 h
        refine AO.call tab_ok (by decide) rfl rfl rfl (fun _ h => h) [] [] (hc_spec_Run s (state % s.1) word hv17) rfl (by (simp only [go_sem, hb2, hb6, hb10]) <;> (repeat' with_reducible apply And.intro) <;> first | assumption | rfl | omega | (unfold maxLen; omega)) (by (simp only [go_sem, hb2, hb6, hb10]) <;> (repeat' with_reducible apply And.intro) <;> first | assumption | rfl | omega | (unfold maxLen; omega)) [(2, .sl (.int .i64) word), (3, .bp 3 0), (7, .int .i64 (state % s.1)), (8, .bp 8 0), (9, .int .i64 v0_7.2.2.2.2), (10, .bp 10 0), (11, .int .i64 v0_8.2.2.2.2), (53, .tup [.own 63000, .int .i64 v0_9.2.1, .int .i64 v0_9.2.2])] [(3, .box 24 [.int .i64 s.1, .int .i64 s.2.1, .sl (.sl (.int .i64)) s.2.2.1, .sl (.sl (.int .i64)) s.2.2.2]), (8, .box 24 [.int .i64 v0_7.1, .int .i64 v0_7.2.1, .own 50000, .own 50001]), (10, .box 24 [.int .i64 v0_8.1, .int .i64 v0_8.2.1, .own 56000, .own 56001]), (50000, .imm (.sl (.int .i64)) v0_7.2.2.1), (50001, .imm (.sl (.int .i64)) v0_7.2.2.2.1), (56000, .arr 25 (.sl (.int .i64)) v0_8.2.2.1), (56001, .arr 25 (.sl (.int .i64)) v0_8.2.2.2.1), (63000, .arr 3 (.int .i64) v0_9.1)] (by (simp only [go_sem, hb2, hb6, hb10]) <;> (repeat' with_reducible apply And.intro) <;> first | assumption | rfl | omega | (unfold maxLen; omega)) ?_
        refine AO.allF tab_ok (by decide) [(2, .sl (.int .i64) word), (3, .bp 3 0), (7, .int .i64 (state % s.1)), (8, .bp 8 0), (9, .int .i64 v0_7.2.2.2.2), (10, .bp 10 0), (11, .int .i64 v0_8.2.2.2.2), (12, .own 63000), (13, .int .i64 v0_9.2.1), (14, .int .i64 v0_9.2.2)] [(3, .box 24 [.int .i64 s.1, .int .i64 s.2.1, .sl (.sl (.int .i64)) s.2.2.1, .sl (.sl (.int .i64)) s.2.2.2]), (8, .box 24 [.int .i64 v0_7.1, .int .i64 v0_7.2.1, .own 50000, .own 50001]), (10, .box 24 [.int .i64 v0_8.1, .int .i64 v0_8.2.1, .own 56000, .own 56001]), (50000, .imm (.sl (.int .i64)) v0_7.2.2.1), (50001, .imm (.sl (.int .i64)) v0_7.2.2.2.1), (56000, .arr 25 (.sl (.int .i64)) v0_8.2.2.1), (56001, .arr 25 (.sl (.int .i64)) v0_8.2.2.2.1), (63000, .arr 3 (.int .i64) v0_9.1)] (by (simp only [go_sem, hb2, hb6, hb10]) <;> (repeat' with_reducible apply And.intro) <;> first | assumption | rfl | omega | (unfold maxLen; omega)) ?_
        refine athen_n ?_
        refine AW.seq ?_
        refine AW.ops ?_
        refine AO.segF tab_ok 2 (by decide) [(3, .bp 3 0), (7, .int .i64 (state % s.1)), (9, .int .i64 v0_7.2.2.2.2), (10, .bp 10 0), (11, .int .i64 v0_8.2.2.2.2), (12, .own 63000), (13, .int .i64 v0_9.2.1), (14, .int .i64 v0_9.2.2), (58, .agg [.int .i64 v0_7.1, .int .i64 v0_7.2.1, .own 50000, .own 50001]), (59, .sl (.int .i64) word)] [(3, .box 24 [.int .i64 s.1, .int .i64 s.2.1, .sl (.sl (.int .i64)) s.2.2.1, .sl (.sl (.int .i64)) s.2.2.2]), (10, .box 24 [.int .i64 v0_8.1, .int .i64 v0_8.2.1, .own 56000, .own 56001]), (50000, .imm (.sl (.int .i64)) v0_7.2.2.1), (50001, .imm (.sl (.int .i64)) v0_7.2.2.2.1), (56000, .arr 25 (.sl (.int .i64)) v0_8.2.2.1), (56001, .arr 25 (.sl (.int .i64)) v0_8.2.2.2.1), (63000, .arr 3 (.int .i64) v0_9.1)] (by (simp only [go_sem, hb2, hb6, hb10]) <;> (repeat' with_reducible apply And.intro) <;> first | assumption | rfl | omega | (unfold maxLen; omega)) ?_
        obtain ⟨v0_10, hv18, h⟩ := Option.bind_eq_some_iff.1 h
        refine AO.call tab_ok (by decide) rfl rfl rfl (fun _ h => h) [] [] (hc_spec_Run (v0_7.1, v0_7.2.1, v0_7.2.2.1, v0_7.2.2.2.1) 0 word hv18) rfl (by (simp only [go_sem, hb2, hb6, hb10]) <;> (repeat' with_reducible apply And.intro) <;> first | assumption | rfl | omega | (unfold maxLen; omega)) (by (simp only [go_sem, hb2, hb6, hb10]) <;> (repeat' with_reducible apply And.intro) <;> first | assumption | rfl | omega | (unfold maxLen; omega)) [(3, .bp 3 0), (7, .int .i64 (state % s.1)), (9, .int .i64 v0_7.2.2.2.2), (10, .bp 10 0), (11, .int .i64 v0_8.2.2.2.2), (12, .own 63000), (13, .int .i64 v0_9.2.1), (14, .int .i64 v0_9.2.2), (60, .tup [.own 70000, .int .i64 v0_10.2.1, .int .i64 v0_10.2.2])] [(3, .box 24 [.int .i64 s.1, .int .i64 s.2.1, .sl (.sl (.int .i64)) s.2.2.1, .sl (.sl (.int .i64)) s.2.2.2]), (10, .box 24 [.int .i64 v0_8.1, .int .i64 v0_8.2.1, .own 56000, .own 56001]), (56000, .arr 25 (.sl (.int .i64)) v0_8.2.2.1), (56001, .arr 25 (.sl (.int .i64)) v0_8.2.2.2.1), (63000, .arr 3 (.int .i64) v0_9.1), (70000, .arr 3 (.int .i64) v0_10.1)] (by (simp only [go_sem, hb2, hb6, hb10]) <;> (repeat' with_reducible apply And.intro) <;> first | assumption | rfl | omega | (unfold maxLen; omega)) ?_
        refine AO.allF tab_ok (by decide) [(3, .bp 3 0), (7, .int .i64 (state % s.1)), (9, .int .i64 v0_7.2.2.2.2), (10, .bp 10 0), (11, .int .i64 v0_8.2.2.2.2), (12, .own 63000), (13, .int .i64 v0_9.2.1), (14, .int .i64 v0_9.2.2), (15, .own 70000), (16, .int .i64 v0_10.2.1), (17, .int .i64 v0_10.2.2)] [(3, .box 24 [.int .i64 s.1, .int .i64 s.2.1, .sl (.sl (.int .i64)) s.2.2.1, .sl (.sl (.int .i64)) s.2.2.2]), (10, .box 24 [.int .i64 v0_8.1, .int .i64 v0_8.2.1, .own 56000, .own 56001]), (56000, .arr 25 (.sl (.int .i64)) v0_8.2.2.1), (56001, .arr 25 (.sl (.int .i64)) v0_8.2.2.2.1), (63000, .arr 3 (.int .i64) v0_9.1), (70000, .arr 3 (.int .i64) v0_10.1)] (by (simp only [go_sem, hb2, hb6, hb10]) <;> (repeat' with_reducible apply And.intro) <;> first | assumption | rfl | omega | (unfold maxLen; omega)) ?_
        refine athen_n ?_
        refine AW.seq ?_
        refine AW.seq ?_
        refine AW.ops ?_
        refine AO.segF tab_ok 3 (by decide) [(3, .bp 3 0), (7, .int .i64 (state % s.1)), (10, .bp 10 0), (11, .int .i64 v0_8.2.2.2.2), (12, .own 63000), (13, .int .i64 v0_9.2.1), (14, .int .i64 v0_9.2.2), (15, .own 70000), (16, .int .i64 v0_10.2.1), (17, .int .i64 v0_10.2.2), (66, .bool (!(decide (v0_7.2.2.2.2 = 0))))] [(3, .box 24 [.int .i64 s.1, .int .i64 s.2.1, .sl (.sl (.int .i64)) s.2.2.1, .sl (.sl (.int .i64)) s.2.2.2]), (10, .box 24 [.int .i64 v0_8.1, .int .i64 v0_8.2.1, .own 56000, .own 56001]), (56000, .arr 25 (.sl (.int .i64)) v0_8.2.2.1), (56001, .arr 25 (.sl (.int .i64)) v0_8.2.2.2.1), (63000, .arr 3 (.int .i64) v0_9.1), (70000, .arr 3 (.int .i64) v0_10.1)] (by (simp only [go_sem, hb2, hb6, hb10]) <;> (repeat' with_reducible apply And.intro) <;> first | assumption | rfl | omega | (unfold maxLen; omega)) ?_
        rcases Bool.eq_false_or_eq_true (!(decide (v0_7.2.2.2.2 = 0))) with hb19 | hb19
        · rw [if_pos hb19] at h
          refine AO.weaken (s' := ⟨fr [(3, .bp 3 0), (7, .int .i64 (state % s.1)), (10, .bp 10 0), (11, .int .i64 v0_8.2.2.2.2), (12, .own 63000), (13, .int .i64 v0_9.2.1), (14, .int .i64 v0_9.2.2), (15, .own 70000), (16, .int .i64 v0_10.2.1), (17, .int .i64 v0_10.2.2), (66, .bool true)], hpGet [(3, .box 24 [.int .i64 s.1, .int .i64 s.2.1, .sl (.sl (.int .i64)) s.2.2.1, .sl (.sl (.int .i64)) s.2.2.2]), (10, .box 24 [.int .i64 v0_8.1, .int .i64 v0_8.2.1, .own 56000, .own 56001]), (56000, .arr 25 (.sl (.int .i64)) v0_8.2.2.1), (56001, .arr 25 (.sl (.int .i64)) v0_8.2.2.2.1), (63000, .arr 3 (.int .i64) v0_9.1), (70000, .arr 3 (.int .i64) v0_10.1)], gt⟩) (Wk.to (by (simp only [go_sem, hb2, hb6, hb10, hb19]) <;> (repeat' with_reducible apply And.intro) <;> first | assumption | rfl | omega | (unfold maxLen; omega))) ?_
          refine AO.segF tab_ok 6 (by decide) [(3, .bp 3 0), (7, .int .i64 (state % s.1)), (10, .bp 10 0), (12, .own 63000), (13, .int .i64 v0_9.2.1), (15, .own 70000), (16, .int .i64 v0_10.2.1), (17, .int .i64 v0_10.2.2), (70, .bool true), (72, .cv (undef))] [(3, .box 24 [.int .i64 s.1, .int .i64 s.2.1, .sl (.sl (.int .i64)) s.2.2.1, .sl (.sl (.int .i64)) s.2.2.2]), (10, .box 24 [.int .i64 v0_8.1, .int .i64 v0_8.2.1, .own 56000, .own 56001]), (56000, .arr 25 (.sl (.int .i64)) v0_8.2.2.1), (56001, .arr 25 (.sl (.int .i64)) v0_8.2.2.2.1), (63000, .arr 3 (.int .i64) v0_9.1), (70000, .arr 3 (.int .i64) v0_10.1)] (by (simp only [go_sem, hb2, hb6, hb10, hb19]) <;> (repeat' with_reducible apply And.intro) <;> first | assumption | rfl | omega | (unfold maxLen; omega)) ?_
          refine AO.segF tab_ok 8 (by decide) [(7, .int .i64 (state % s.1)), (12, .own 63000), (13, .int .i64 v0_9.2.1), (15, .own 70000), (16, .int .i64 v0_10.2.1), (78, .bool true), (79, .cv (undef)), (80, .cv (undef))] [(63000, .arr 3 (.int .i64) v0_9.1), (70000, .arr 3 (.int .i64) v0_10.1)] (by (simp only [go_sem, hb2, hb6, hb10, hb19]) <;> (repeat' with_reducible apply And.intro) <;> first | assumption | rfl | omega | (unfold maxLen; omega)) ?_
          refine AO.segF tab_ok 6 (by decide) [(7, .int .i64 (state % s.1)), (13, .int .i64 v0_9.2.1), (16, .int .i64 v0_10.2.1), (84, .bool true), (85, .cv (undef)), (86, .cv (undef))] [] (by (simp only [go_sem, hb2, hb6, hb10, hb19]) <;> (repeat' with_reducible apply And.intro) <;> first | assumption | rfl | omega | (unfold maxLen; omega)) ?_
          refine AO.allF tab_ok (by decide) [(7, .int .i64 (state % s.1)), (13, .int .i64 v0_9.2.1), (16, .int .i64 v0_10.2.1), (89, .bool true)] [] (by (simp only [go_sem, hb2, hb6, hb10, hb19]) <;> (repeat' with_reducible apply And.intro) <;> first | assumption | rfl | omega | (unfold maxLen; omega)) ?_
          refine athen_n ?_
          refine AW.cond (b := true) rfl (fun _ => ?_) (fun hb20 => by cases hb20)
          refine AW.seq ?_
          refine AW.ops ?_
          refine AO.allF tab_ok (by decide) [(6, .bool false)] [] (by (simp only [go_sem, hb2, hb6, hb10, hb19]) <;> (repeat' with_reducible apply And.intro) <;> first | assumption | rfl | omega | (unfold maxLen; omega)) ?_
          refine athen_n ?_
          refine AW.ret ?_
          refine athen_r ?_
          obtain rfl := Option.some.inj h
          exact ⟨rfl, [], [], [], rfl, (by (simp only [go_sem, hb2, hb6, hb10, hb19]) <;> (repeat' with_reducible apply And.intro) <;> first | assumption | rfl | omega | (unfold maxLen; omega))⟩
        · rw [if_neg (Bool.eq_false_iff.1 hb19)] at h
          refine AO.weaken (s' := ⟨fr [(3, .bp 3 0), (7, .int .i64 (state % s.1)), (10, .bp 10 0), (11, .int .i64 v0_8.2.2.2.2), (12, .own 63000), (13, .int .i64 v0_9.2.1), (14, .int .i64 v0_9.2.2), (15, .own 70000), (16, .int .i64 v0_10.2.1), (17, .int .i64 v0_10.2.2), (66, .bool false)], hpGet [(3, .box 24 [.int .i64 s.1, .int .i64 s.2.1, .sl (.sl (.int .i64)) s.2.2.1, .sl (.sl (.int .i64)) s.2.2.2]), (10, .box 24 [.int .i64 v0_8.1, .int .i64 v0_8.2.1, .own 56000, .own 56001]), (56000, .arr 25 (.sl (.int .i64)) v0_8.2.2.1), (56001, .arr 25 (.sl (.int .i64)) v0_8.2.2.2.1), (63000, .arr 3 (.int .i64) v0_9.1), (70000, .arr 3 (.int .i64) v0_10.1)], gt⟩) (Wk.to (by (simp only [go_sem, hb2, hb6, hb10, hb19]) <;> (repeat' with_reducible apply And.intro) <;> first | assumption | rfl | omega | (unfold maxLen; omega))) ?_
          refine AO.segF tab_ok 4 (by decide) [(3, .bp 3 0), (7, .int .i64 (state % s.1)), (10, .bp 10 0), (12, .own 63000), (13, .int .i64 v0_9.2.1), (14, .int .i64 v0_9.2.2), (15, .own 70000), (16, .int .i64 v0_10.2.1), (17, .int .i64 v0_10.2.2), (70, .bool (!(decide (v0_8.2.2.2.2 = 0))))] [(3, .box 24 [.int .i64 s.1, .int .i64 s.2.1, .sl (.sl (.int .i64)) s.2.2.1, .sl (.sl (.int .i64)) s.2.2.2]), (10, .box 24 [.int .i64 v0_8.1, .int .i64 v0_8.2.1, .own 56000, .own 56001]), (56000, .arr 25 (.sl (.int .i64)) v0_8.2.2.1), (56001, .arr 25 (.sl (.int .i64)) v0_8.2.2.2.1), (63000, .arr 3 (.int .i64) v0_9.1), (70000, .arr 3 (.int .i64) v0_10.1)] (by (simp only [go_sem, hb2, hb6, hb10, hb19]) <;> (repeat' with_reducible apply And.intro) <;> first | assumption | rfl | omega | (unfold maxLen; omega)) ?_
          rcases Bool.eq_false_or_eq_true (!(decide (v0_8.2.2.2.2 = 0))) with hb21 | hb21
          · rw [if_pos hb21] at h
            refine AO.weaken (s' := ⟨fr [(3, .bp 3 0), (7, .int .i64 (state % s.1)), (10, .bp 10 0), (12, .own 63000), (13, .int .i64 v0_9.2.1), (14, .int .i64 v0_9.2.2), (15, .own 70000), (16, .int .i64 v0_10.2.1), (17, .int .i64 v0_10.2.2), (70, .bool true)], hpGet [(3, .box 24 [.int .i64 s.1, .int .i64 s.2.1, .sl (.sl (.int .i64)) s.2.2.1, .sl (.sl (.int .i64)) s.2.2.2]), (10, .box 24 [.int .i64 v0_8.1, .int .i64 v0_8.2.1, .own 56000, .own 56001]), (56000, .arr 25 (.sl (.int .i64)) v0_8.2.2.1), (56001, .arr 25 (.sl (.int .i64)) v0_8.2.2.2.1), (63000, .arr 3 (.int .i64) v0_9.1), (70000, .arr 3 (.int .i64) v0_10.1)], gt⟩) (Wk.to (by (simp only [go_sem, hb2, hb6, hb10, hb19, hb21]) <;> (repeat' with_reducible apply And.intro) <;> first | assumption | rfl | omega | (unfold maxLen; omega))) ?_
            refine AO.segF tab_ok 6 (by decide) [(3, .bp 3 0), (7, .int .i64 (state % s.1)), (10, .bp 10 0), (12, .own 63000), (13, .int .i64 v0_9.2.1), (15, .own 70000), (16, .int .i64 v0_10.2.1), (74, .bool true), (76, .cv (undef))] [(3, .box 24 [.int .i64 s.1, .int .i64 s.2.1, .sl (.sl (.int .i64)) s.2.2.1, .sl (.sl (.int .i64)) s.2.2.2]), (10, .box 24 [.int .i64 v0_8.1, .int .i64 v0_8.2.1, .own 56000, .own 56001]), (56000, .arr 25 (.sl (.int .i64)) v0_8.2.2.1), (56001, .arr 25 (.sl (.int .i64)) v0_8.2.2.2.1), (63000, .arr 3 (.int .i64) v0_9.1), (70000, .arr 3 (.int .i64) v0_10.1)] (by (simp only [go_sem, hb2, hb6, hb10, hb19, hb21]) <;> (repeat' with_reducible apply And.intro) <;> first | assumption | rfl | omega | (unfold maxLen; omega)) ?_
            refine AO.segF tab_ok 6 (by decide) [(7, .int .i64 (state % s.1)), (12, .own 63000), (13, .int .i64 v0_9.2.1), (15, .own 70000), (16, .int .i64 v0_10.2.1), (78, .bool true), (82, .cv (undef))] [(63000, .arr 3 (.int .i64) v0_9.1), (70000, .arr 3 (.int .i64) v0_10.1)] (by (simp only [go_sem, hb2, hb6, hb10, hb19, hb21]) <;> (repeat' with_reducible apply And.intro) <;> first | assumption | rfl | omega | (unfold maxLen; omega)) ?_
            refine AO.segF tab_ok 6 (by decide) [(7, .int .i64 (state % s.1)), (13, .int .i64 v0_9.2.1), (16, .int .i64 v0_10.2.1), (84, .bool true), (88, .cv (undef))] [] (by (simp only [go_sem, hb2, hb6, hb10, hb19, hb21]) <;> (repeat' with_reducible apply And.intro) <;> first | assumption | rfl | omega | (unfold maxLen; omega)) ?_
            refine AO.allF tab_ok (by decide) [(7, .int .i64 (state % s.1)), (13, .int .i64 v0_9.2.1), (16, .int .i64 v0_10.2.1), (89, .bool true)] [] (by (simp only [go_sem, hb2, hb6, hb10, hb19, hb21]) <;> (repeat' with_reducible apply And.intro) <;> first | assumption | rfl | omega | (unfold maxLen; omega)) ?_
            refine athen_n ?_
            refine AW.cond (b := true) rfl (fun _ => ?_) (fun hb22 => by cases hb22)
            refine AW.seq ?_
            refine AW.ops ?_
            refine AO.allF tab_ok (by decide) [(6, .bool false)] [] (by (simp only [go_sem, hb2, hb6, hb10, hb19, hb21]) <;> (repeat' with_reducible apply And.intro) <;> first | assumption | rfl | omega | (unfold maxLen; omega)) ?_
            refine athen_n ?_
            refine AW.ret ?_
            refine athen_r ?_
            obtain rfl := Option.some.inj h
            exact ⟨rfl, [], [], [], rfl, (by (simp only [go_sem, hb2, hb6, hb10, hb19, hb21]) <;> (repeat' with_reducible apply And.intro) <;> first | assumption | rfl | omega | (unfold maxLen; omega))⟩
          · rw [if_neg (Bool.eq_false_iff.1 hb21)] at h
            refine AO.weaken (s' := ⟨fr [(3, .bp 3 0), (7, .int .i64 (state % s.1)), (10, .bp 10 0), (12, .own 63000), (13, .int .i64 v0_9.2.1), (14, .int .i64 v0_9.2.2), (15, .own 70000), (16, .int .i64 v0_10.2.1), (17, .int .i64 v0_10.2.2), (70, .bool false)], hpGet [(3, .box 24 [.int .i64 s.1, .int .i64 s.2.1, .sl (.sl (.int .i64)) s.2.2.1, .sl (.sl (.int .i64)) s.2.2.2]), (10, .box 24 [.int .i64 v0_8.1, .int .i64 v0_8.2.1, .own 56000, .own 56001]), (56000, .arr 25 (.sl (.int .i64)) v0_8.2.2.1), (56001, .arr 25 (.sl (.int .i64)) v0_8.2.2.2.1), (63000, .arr 3 (.int .i64) v0_9.1), (70000, .arr 3 (.int .i64) v0_10.1)], gt⟩) (Wk.to (by (simp only [go_sem, hb2, hb6, hb10, hb19, hb21]) <;> (repeat' with_reducible apply And.intro) <;> first | assumption | rfl | omega | (unfold maxLen; omega))) ?_
            refine AO.segF tab_ok 4 (by decide) [(3, .bp 3 0), (7, .int .i64 (state % s.1)), (10, .bp 10 0), (12, .own 63000), (13, .int .i64 v0_9.2.1), (15, .own 70000), (16, .int .i64 v0_10.2.1), (17, .int .i64 v0_10.2.2), (74, .bool (!(decide (v0_9.2.2 = 0))))] [(3, .box 24 [.int .i64 s.1, .int .i64 s.2.1, .sl (.sl (.int .i64)) s.2.2.1, .sl (.sl (.int .i64)) s.2.2.2]), (10, .box 24 [.int .i64 v0_8.1, .int .i64 v0_8.2.1, .own 56000, .own 56001]), (56000, .arr 25 (.sl (.int .i64)) v0_8.2.2.1), (56001, .arr 25 (.sl (.int .i64)) v0_8.2.2.2.1), (63000, .arr 3 (.int .i64) v0_9.1), (70000, .arr 3 (.int .i64) v0_10.1)] (by (simp only [go_sem, hb2, hb6, hb10, hb19, hb21]) <;> (repeat' with_reducible apply And.intro) <;> first | assumption | rfl | omega | (unfold maxLen; omega)) ?_
            rcases Bool.eq_false_or_eq_true (!(decide (v0_9.2.2 = 0))) with hb23 | hb23
            · rw [if_pos hb23] at h
              refine AO.weaken (s' := ⟨fr [(3, .bp 3 0), (7, .int .i64 (state % s.1)), (10, .bp 10 0), (12, .own 63000), (13, .int .i64 v0_9.2.1), (15, .own 70000), (16, .int .i64 v0_10.2.1), (17, .int .i64 v0_10.2.2), (74, .bool true)], hpGet [(3, .box 24 [.int .i64 s.1, .int .i64 s.2.1, .sl (.sl (.int .i64)) s.2.2.1, .sl (.sl (.int .i64)) s.2.2.2]), (10, .box 24 [.int .i64 v0_8.1, .int .i64 v0_8.2.1, .own 56000, .own 56001]), (56000, .arr 25 (.sl (.int .i64)) v0_8.2.2.1), (56001, .arr 25 (.sl (.int .i64)) v0_8.2.2.2.1), (63000, .arr 3 (.int .i64) v0_9.1), (70000, .arr 3 (.int .i64) v0_10.1)], gt⟩) (Wk.to (by (simp only [go_sem, hb2, hb6, hb10, hb19, hb21, hb23]) <;> (repeat' with_reducible apply And.intro) <;> first | assumption | rfl | omega | (unfold maxLen; omega))) ?_
              refine AO.segF tab_ok 6 (by decide) [(7, .int .i64 (state % s.1)), (12, .own 63000), (13, .int .i64 v0_9.2.1), (15, .own 70000), (16, .int .i64 v0_10.2.1), (78, .bool true), (79, .cv (undef)), (80, .cv (undef))] [(63000, .arr 3 (.int .i64) v0_9.1), (70000, .arr 3 (.int .i64) v0_10.1)] (by (simp only [go_sem, hb2, hb6, hb10, hb19, hb21, hb23]) <;> (repeat' with_reducible apply And.intro) <;> first | assumption | rfl | omega | (unfold maxLen; omega)) ?_
              refine AO.segF tab_ok 6 (by decide) [(7, .int .i64 (state % s.1)), (13, .int .i64 v0_9.2.1), (16, .int .i64 v0_10.2.1), (84, .bool true), (85, .cv (undef)), (86, .cv (undef))] [] (by (simp only [go_sem, hb2, hb6, hb10, hb19, hb21, hb23]) <;> (repeat' with_reducible apply And.intro) <;> first | assumption | rfl | omega | (unfold maxLen; omega)) ?_
              refine AO.allF tab_ok (by decide) [(7, .int .i64 (state % s.1)), (13, .int .i64 v0_9.2.1), (16, .int .i64 v0_10.2.1), (89, .bool true)] [] (by (simp only [go_sem, hb2, hb6, hb10, hb19, hb21, hb23]) <;> (repeat' with_reducible apply And.intro) <;> first | assumption | rfl | omega | (unfold maxLen; omega)) ?_
              refine athen_n ?_
              refine AW.cond (b := true) rfl (fun _ => ?_) (fun hb24 => by cases hb24)
              refine AW.seq ?_
              refine AW.ops ?_
              refine AO.allF tab_ok (by decide) [(6, .bool false)] [] (by (simp only [go_sem, hb2, hb6, hb10, hb19, hb21, hb23]) <;> (repeat' with_reducible apply And.intro) <;> first | assumption | rfl | omega | (unfold maxLen; omega)) ?_
              refine athen_n ?_
              refine AW.ret ?_
              refine athen_r ?_
              obtain rfl := Option.some.inj h
              exact ⟨rfl, [], [], [], rfl, (by (simp only [go_sem, hb2, hb6, hb10, hb19, hb21, hb23]) <;> (repeat' with_reducible apply And.intro) <;> first | assumption | rfl | omega | (unfold maxLen; omega))⟩
            · rw [if_neg (Bool.eq_false_iff.1 hb23)] at h
              refine AO.weaken (s' := ⟨fr [(3, .bp 3 0), (7, .int .i64 (state % s.1)), (10, .bp 10 0), (12, .own 63000), (13, .int .i64 v0_9.2.1), (15, .own 70000), (16, .int .i64 v0_10.2.1), (17, .int .i64 v0_10.2.2), (74, .bool false)], hpGet [(3, .box 24 [.int .i64 s.1, .int .i64 s.2.1, .sl (.sl (.int .i64)) s.2.2.1, .sl (.sl (.int .i64)) s.2.2.2]), (10, .box 24 [.int .i64 v0_8.1, .int .i64 v0_8.2.1, .own 56000, .own 56001]), (56000, .arr 25 (.sl (.int .i64)) v0_8.2.2.1), (56001, .arr 25 (.sl (.int .i64)) v0_8.2.2.2.1), (63000, .arr 3 (.int .i64) v0_9.1), (70000, .arr 3 (.int .i64) v0_10.1)], gt⟩) (Wk.to (by (simp only [go_sem, hb2, hb6, hb10, hb19, hb21, hb23]) <;> (repeat' with_reducible apply And.intro) <;> first | assumption | rfl | omega | (unfold maxLen; omega))) ?_
              refine AO.segF tab_ok 4 (by decide) [(3, .bp 3 0), (7, .int .i64 (state % s.1)), (10, .bp 10 0), (12, .own 63000), (13, .int .i64 v0_9.2.1), (15, .own 70000), (16, .int .i64 v0_10.2.1), (78, .bool (!(decide (v0_10.2.2 = 0))))] [(3, .box 24 [.int .i64 s.1, .int .i64 s.2.1, .sl (.sl (.int .i64)) s.2.2.1, .sl (.sl (.int .i64)) s.2.2.2]), (10, .box 24 [.int .i64 v0_8.1, .int .i64 v0_8.2.1, .own 56000, .own 56001]), (56000, .arr 25 (.sl (.int .i64)) v0_8.2.2.1), (56001, .arr 25 (.sl (.int .i64)) v0_8.2.2.2.1), (63000, .arr 3 (.int .i64) v0_9.1), (70000, .arr 3 (.int .i64) v0_10.1)] (by (simp only [go_sem, hb2, hb6, hb10, hb19, hb21, hb23]) <;> (repeat' with_reducible apply And.intro) <;> first | assumption | rfl | omega | (unfold maxLen; omega)) ?_
              rcases Bool.eq_false_or_eq_true (!(decide (v0_10.2.2 = 0))) with hb25 | hb25
              · rw [if_pos hb25] at h
                refine AO.weaken (s' := ⟨fr [(3, .bp 3 0), (7, .int .i64 (state % s.1)), (10, .bp 10 0), (12, .own 63000), (13, .int .i64 v0_9.2.1), (15, .own 70000), (16, .int .i64 v0_10.2.1), (78, .bool true)], hpGet [(3, .box 24 [.int .i64 s.1, .int .i64 s.2.1, .sl (.sl (.int .i64)) s.2.2.1, .sl (.sl (.int .i64)) s.2.2.2]), (10, .box 24 [.int .i64 v0_8.1, .int .i64 v0_8.2.1, .own 56000, .own 56001]), (56000, .arr 25 (.sl (.int .i64)) v0_8.2.2.1), (56001, .arr 25 (.sl (.int .i64)) v0_8.2.2.2.1), (63000, .arr 3 (.int .i64) v0_9.1), (70000, .arr 3 (.int .i64) v0_10.1)], gt⟩) (Wk.to (by (simp only [go_sem, hb2, hb6, hb10, hb19, hb21, hb23, hb25]) <;> (repeat' with_reducible apply And.intro) <;> first | assumption | rfl | omega | (unfold maxLen; omega))) ?_
                refine AO.segF tab_ok 4 (by decide) [(7, .int .i64 (state % s.1)), (12, .own 63000), (13, .int .i64 v0_9.2.1), (15, .own 70000), (16, .int .i64 v0_10.2.1), (78, .bool true), (82, .cv (undef))] [(63000, .arr 3 (.int .i64) v0_9.1), (70000, .arr 3 (.int .i64) v0_10.1)] (by (simp only [go_sem, hb2, hb6, hb10, hb19, hb21, hb23, hb25]) <;> (repeat' with_reducible apply And.intro) <;> first | assumption | rfl | omega | (unfold maxLen; omega)) ?_
                refine AO.segF tab_ok 6 (by decide) [(7, .int .i64 (state % s.1)), (13, .int .i64 v0_9.2.1), (16, .int .i64 v0_10.2.1), (84, .bool true), (88, .cv (undef))] [] (by (simp only [go_sem, hb2, hb6, hb10, hb19, hb21, hb23, hb25]) <;> (repeat' with_reducible apply And.intro) <;> first | assumption | rfl | omega | (unfold maxLen; omega)) ?_
                refine AO.allF tab_ok (by decide) [(7, .int .i64 (state % s.1)), (13, .int .i64 v0_9.2.1), (16, .int .i64 v0_10.2.1), (89, .bool true)] [] (by (simp only [go_sem, hb2, hb6, hb10, hb19, hb21, hb23, hb25]) <;> (repeat' with_reducible apply And.intro) <;> first | assumption | rfl | omega | (unfold maxLen; omega)) ?_
                refine athen_n ?_
                refine AW.cond (b := true) rfl (fun _ => ?_) (fun hb26 => by cases hb26)
                refine AW.seq ?_
                refine AW.ops ?_
                refine AO.allF tab_ok (by decide) [(6, .bool false)] [] (by (simp only [go_sem, hb2, hb6, hb10, hb19, hb21, hb23, hb25]) <;> (repeat' with_reducible apply And.intro) <;> first | assumption | rfl | omega | (unfold maxLen; omega)) ?_
                refine athen_n ?_
                refine AW.ret ?_
                refine athen_r ?_
                obtain rfl := Option.some.inj h
                exact ⟨rfl, [], [], [], rfl, (by (simp only [go_sem, hb2, hb6, hb10, hb19, hb21, hb23, hb25]) <;> (repeat' with_reducible apply And.intro) <;> first | assumption | rfl | omega | (unfold maxLen; omega))⟩
              · rw [if_neg (Bool.eq_false_iff.1 hb25)] at h
                refine AO.weaken (s' := ⟨fr [(3, .bp 3 0), (7, .int .i64 (state % s.1)), (10, .bp 10 0), (12, .own 63000), (13, .int .i64 v0_9.2.1), (15, .own 70000), (16, .int .i64 v0_10.2.1), (78, .bool false)], hpGet [(3, .box 24 [.int .i64 s.1, .int .i64 s.2.1, .sl (.sl (.int .i64)) s.2.2.1, .sl (.sl (.int .i64)) s.2.2.2]), (10, .box 24 [.int .i64 v0_8.1, .int .i64 v0_8.2.1, .own 56000, .own 56001]), (56000, .arr 25 (.sl (.int .i64)) v0_8.2.2.1), (56001, .arr 25 (.sl (.int .i64)) v0_8.2.2.2.1), (63000, .arr 3 (.int .i64) v0_9.1), (70000, .arr 3 (.int .i64) v0_10.1)], gt⟩) (Wk.to (by (simp only [go_sem, hb2, hb6, hb10, hb19, hb21, hb23, hb25]) <;> (repeat' with_reducible apply And.intro) <;> first | assumption | rfl | omega | (unfold maxLen; omega))) ?_
                refine AO.segF tab_ok 2 (by decide) [(7, .int .i64 (state % s.1)), (12, .own 63000), (13, .int .i64 v0_9.2.1), (15, .own 70000), (16, .int .i64 v0_10.2.1), (78, .bool false), (79, .agg [.int .i64 v0_8.1, .int .i64 v0_8.2.1, .own 56000, .own 56001]), (80, .agg [.int .i64 s.1, .int .i64 s.2.1, .sl (.sl (.int .i64)) s.2.2.1, .sl (.sl (.int .i64)) s.2.2.2])] [(56000, .arr 25 (.sl (.int .i64)) v0_8.2.2.1), (56001, .arr 25 (.sl (.int .i64)) v0_8.2.2.2.1), (63000, .arr 3 (.int .i64) v0_9.1), (70000, .arr 3 (.int .i64) v0_10.1)] (by (simp only [go_sem, hb2, hb6, hb10, hb19, hb21, hb23, hb25]) <;> (repeat' with_reducible apply And.intro) <;> first | assumption | rfl | omega | (unfold maxLen; omega)) ?_
                obtain ⟨v0_11, hv27, h⟩ := Option.bind_eq_some_iff.1 h
                refine AO.call tab_ok (by decide) rfl rfl rfl (fun _ h => ⟨fun _ => h, fun hn => absurd rfl hn⟩) [56000, 56001] [] (hc_linealref01_Equal (v0_8.1, v0_8.2.1, v0_8.2.2.1, v0_8.2.2.2.1) s hv27) rfl (by (simp only [go_sem, hb2, hb6, hb10, hb19, hb21, hb23, hb25]) <;> (repeat' with_reducible apply And.intro) <;> first | assumption | rfl | omega | (unfold maxLen; omega)) (by (simp only [go_sem, hb2, hb6, hb10, hb19, hb21, hb23, hb25]) <;> (repeat' with_reducible apply And.intro) <;> first | assumption | rfl | omega | (unfold maxLen; omega)) [(7, .int .i64 (state % s.1)), (12, .own 63000), (13, .int .i64 v0_9.2.1), (15, .own 70000), (16, .int .i64 v0_10.2.1), (78, .bool false), (81, .bool v0_11)] [(63000, .arr 3 (.int .i64) v0_9.1), (70000, .arr 3 (.int .i64) v0_10.1)] (by (simp only [go_sem, hb2, hb6, hb10, hb19, hb21, hb23, hb25]) <;> (repeat' with_reducible apply And.intro) <;> first | assumption | rfl | omega | (unfold maxLen; omega)) ?_
                refine AO.segF tab_ok 3 (by decide) [(7, .int .i64 (state % s.1)), (12, .own 63000), (13, .int .i64 v0_9.2.1), (15, .own 70000), (16, .int .i64 v0_10.2.1), (84, .bool (!v0_11))] [(63000, .arr 3 (.int .i64) v0_9.1), (70000, .arr 3 (.int .i64) v0_10.1)] (by (simp only [go_sem, hb2, hb6, hb10, hb19, hb21, hb23, hb25]) <;> (repeat' with_reducible apply And.intro) <;> first | assumption | rfl | omega | (unfold maxLen; omega)) ?_
                rcases Bool.eq_false_or_eq_true (!v0_11) with hb28 | hb28
                · rw [if_pos hb28] at h
                  refine AO.weaken (s' := ⟨fr [(7, .int .i64 (state % s.1)), (12, .own 63000), (13, .int .i64 v0_9.2.1), (15, .own 70000), (16, .int .i64 v0_10.2.1), (84, .bool true)], hpGet [(63000, .arr 3 (.int .i64) v0_9.1), (70000, .arr 3 (.int .i64) v0_10.1)], gt⟩) (Wk.to (by (simp only [go_sem, hb2, hb6, hb10, hb19, hb21, hb23, hb25, hb28]) <;> (repeat' with_reducible apply And.intro) <;> first | assumption | rfl | omega | (unfold maxLen; omega))) ?_
                  refine AO.segF tab_ok 4 (by decide) [(7, .int .i64 (state % s.1)), (13, .int .i64 v0_9.2.1), (16, .int .i64 v0_10.2.1), (84, .bool true), (88, .cv (undef))] [] (by (simp only [go_sem, hb2, hb6, hb10, hb19, hb21, hb23, hb25, hb28]) <;> (repeat' with_reducible apply And.intro) <;> first | assumption | rfl | omega | (unfold maxLen; omega)) ?_
                  refine AO.allF tab_ok (by decide) [(7, .int .i64 (state % s.1)), (13, .int .i64 v0_9.2.1), (16, .int .i64 v0_10.2.1), (89, .bool true)] [] (by (simp only [go_sem, hb2, hb6, hb10, hb19, hb21, hb23, hb25, hb28]) <;> (repeat' with_reducible apply And.intro) <;> first | assumption | rfl | omega | (unfold maxLen; omega)) ?_
                  refine athen_n ?_
                  refine AW.cond (b := true) rfl (fun _ => ?_) (fun hb29 => by cases hb29)
                  refine AW.seq ?_
                  refine AW.ops ?_
                  refine AO.allF tab_ok (by decide) [(6, .bool false)] [] (by (simp only [go_sem, hb2, hb6, hb10, hb19, hb21, hb23, hb25, hb28]) <;> (repeat' with_reducible apply And.intro) <;> first | assumption | rfl | omega | (unfold maxLen; omega)) ?_
                  refine athen_n ?_
                  refine AW.ret ?_
                  refine athen_r ?_
                  obtain rfl := Option.some.inj h
                  exact ⟨rfl, [], [], [], rfl, (by (simp only [go_sem, hb2, hb6, hb10, hb19, hb21, hb23, hb25, hb28]) <;> (repeat' with_reducible apply And.intro) <;> first | assumption | rfl | omega | (unfold maxLen; omega))⟩
                · rw [if_neg (Bool.eq_false_iff.1 hb28)] at h
                  refine AO.weaken (s' := ⟨fr [(7, .int .i64 (state % s.1)), (12, .own 63000), (13, .int .i64 v0_9.2.1), (15, .own 70000), (16, .int .i64 v0_10.2.1), (84, .bool false)], hpGet [(63000, .arr 3 (.int .i64) v0_9.1), (70000, .arr 3 (.int .i64) v0_10.1)], gt⟩) (Wk.to (by (simp only [go_sem, hb2, hb6, hb10, hb19, hb21, hb23, hb25, hb28]) <;> (repeat' with_reducible apply And.intro) <;> first | assumption | rfl | omega | (unfold maxLen; omega))) ?_
                  refine AO.segF tab_ok 2 (by decide) [(7, .int .i64 (state % s.1)), (13, .int .i64 v0_9.2.1), (16, .int .i64 v0_10.2.1), (84, .bool false), (85, .own 63000), (86, .own 70000)] [(63000, .arr 3 (.int .i64) v0_9.1), (70000, .arr 3 (.int .i64) v0_10.1)] (by (simp only [go_sem, hb2, hb6, hb10, hb19, hb21, hb23, hb25, hb28]) <;> (repeat' with_reducible apply And.intro) <;> first | assumption | rfl | omega | (unfold maxLen; omega)) ?_
                  obtain ⟨v0_12, hv30, h⟩ := Option.bind_eq_some_iff.1 h
                  refine AO.call tab_ok (by decide) rfl rfl rfl (fun _ h => ⟨fun _ => h, fun hn => absurd rfl hn⟩) [63000, 70000] [] (hc_linealref01_SameInts v0_9.1 v0_10.1 hv30) rfl (by (simp only [go_sem, hb2, hb6, hb10, hb19, hb21, hb23, hb25, hb28]) <;> (repeat' with_reducible apply And.intro) <;> first | assumption | rfl | omega | (unfold maxLen; omega)) (by (simp only [go_sem, hb2, hb6, hb10, hb19, hb21, hb23, hb25, hb28]) <;> (repeat' with_reducible apply And.intro) <;> first | assumption | rfl | omega | (unfold maxLen; omega)) [(7, .int .i64 (state % s.1)), (13, .int .i64 v0_9.2.1), (16, .int .i64 v0_10.2.1), (84, .bool false), (87, .bool v0_12)] [] (by (simp only [go_sem, hb2, hb6, hb10, hb19, hb21, hb23, hb25, hb28]) <;> (repeat' with_reducible apply And.intro) <;> first | assumption | rfl | omega | (unfold maxLen; omega)) ?_
                  refine AO.allF tab_ok (by decide) [(7, .int .i64 (state % s.1)), (13, .int .i64 v0_9.2.1), (16, .int .i64 v0_10.2.1), (89, .bool (!v0_12))] [] (by (simp only [go_sem, hb2, hb6, hb10, hb19, hb21, hb23, hb25, hb28]) <;> (repeat' with_reducible apply And.intro) <;> first | assumption | rfl | omega | (unfold maxLen; omega)) ?_
                  refine athen_n ?_
                  refine AW.cond (b := (!v0_12)) rfl (fun hb31 => ?_) (fun hb31 => ?_)
                  · rw [if_pos hb31] at h
                    refine AW.seq ?_
                    refine AW.ops ?_
                    refine AO.allF tab_ok (by decide) [(6, .bool false)] [] (by (simp only [go_sem, hb2, hb6, hb10, hb19, hb21, hb23, hb25, hb28, hb31]) <;> (repeat' with_reducible apply And.intro) <;> first | assumption | rfl | omega | (unfold maxLen; omega)) ?_
                    refine athen_n ?_
                    refine AW.ret ?_
                    refine athen_r ?_
                    obtain rfl := Option.some.inj h
                    exact ⟨rfl, [], [], [], rfl, (by (simp only [go_sem, hb2, hb6, hb10, hb19, hb21, hb23, hb25, hb28, hb31]) <;> (repeat' with_reducible apply And.intro) <;> first | assumption | rfl | omega | (unfold maxLen; omega))⟩
                  · rw [if_neg (Bool.eq_false_iff.1 hb31)] at h
                    refine AW.skip ?_
                    refine athen_n ?_
                    refine AW.have1 (fun b1 : Int => lineallaw01_SpecTurns_k1 v0_10 b1 = some r) (fun b1 => ⟨fr [(13, .int .i64 b1), (16, .int .i64 v0_10.2.1)], hpGet [], gt⟩) (fun b1 h => ?_) (fun hk_lineallaw01_SpecTurns_k1 => ?_)
                    · unfold lineallaw01_SpecTurns_k1 at h
                      refine AW.seq ?_
                      refine AW.ops ?_
                      refine AO.segF tab_ok 4 (by decide) [(100, .bool (decide (b1 = v0_10.2.1)))] [] (by (simp only [go_sem, hb2, hb6, hb10, hb19, hb21, hb23, hb25, hb28, hb31]) <;> (repeat' with_reducible apply And.intro) <;> first | assumption | rfl | omega | (unfold maxLen; omega)) ?_
                      rcases Bool.eq_false_or_eq_true (decide (b1 = v0_10.2.1)) with hb32 | hb32
                      · rw [if_pos hb32] at h
                        refine AO.weaken (s' := ⟨fr [(100, .bool true)], hpGet [], gt⟩) (Wk.to (by (simp only [go_sem, hb2, hb6, hb10, hb19, hb21, hb23, hb25, hb28, hb31, hb32]) <;> (repeat' with_reducible apply And.intro) <;> first | assumption | rfl | omega | (unfold maxLen; omega))) ?_
                        obtain ⟨v0_13, hv33, h⟩ := Option.bind_eq_some_iff.1 h
                        refine AO.call tab_ok (by decide) rfl rfl rfl (fun _ h => ⟨fun _ => h, fun hn => absurd rfl hn⟩) [] [] (hc_lineallaw01_Awake hv33) rfl (by (simp only [go_sem, hb2, hb6, hb10, hb19, hb21, hb23, hb25, hb28, hb31, hb32]) <;> (repeat' with_reducible apply And.intro) <;> first | assumption | rfl | omega | (unfold maxLen; omega)) (by (simp only [go_sem, hb2, hb6, hb10, hb19, hb21, hb23, hb25, hb28, hb31, hb32]) <;> (repeat' with_reducible apply And.intro) <;> first | assumption | rfl | omega | (unfold maxLen; omega)) [(100, .bool true), (101, .bool v0_13)] [] (by (simp only [go_sem, hb2, hb6, hb10, hb19, hb21, hb23, hb25, hb28, hb31, hb32]) <;> (repeat' with_reducible apply And.intro) <;> first | assumption | rfl | omega | (unfold maxLen; omega)) ?_
                        refine AO.allF tab_ok (by decide) [(6, .bool v0_13)] [] (by (simp only [go_sem, hb2, hb6, hb10, hb19, hb21, hb23, hb25, hb28, hb31, hb32]) <;> (repeat' with_reducible apply And.intro) <;> first | assumption | rfl | omega | (unfold maxLen; omega)) ?_
                        refine athen_n ?_
                        refine AW.ret ?_
                        obtain rfl := Option.some.inj h
                        exact ⟨rfl, [], [], [], rfl, (by (simp only [go_sem, hb2, hb6, hb10, hb19, hb21, hb23, hb25, hb28, hb31, hb32]) <;> (repeat' with_reducible apply And.intro) <;> first | assumption | rfl | omega | (unfold maxLen; omega))⟩
                      · rw [if_neg (Bool.eq_false_iff.1 hb32)] at h
                        refine AO.weaken (s' := ⟨fr [(100, .bool false)], hpGet [], gt⟩) (Wk.to (by (simp only [go_sem, hb2, hb6, hb10, hb19, hb21, hb23, hb25, hb28, hb31, hb32]) <;> (repeat' with_reducible apply And.intro) <;> first | assumption | rfl | omega | (unfold maxLen; omega))) ?_
                        refine AO.allF tab_ok (by decide) [(6, .bool false)] [] (by (simp only [go_sem, hb2, hb6, hb10, hb19, hb21, hb23, hb25, hb28, hb31, hb32]) <;> (repeat' with_reducible apply And.intro) <;> first | assumption | rfl | omega | (unfold maxLen; omega)) ?_
                        refine athen_n ?_
                        refine AW.ret ?_
                        obtain rfl := Option.some.inj h
                        exact ⟨rfl, [], [], [], rfl, (by (simp only [go_sem, hb2, hb6, hb10, hb19, hb21, hb23, hb25, hb28, hb31, hb32]) <;> (repeat' with_reducible apply And.intro) <;> first | assumption | rfl | omega | (unfold maxLen; omega))⟩
                    · refine AW.seq ?_
                      refine AW.seq ?_
                      refine AW.ops ?_
                      refine AO.allF tab_ok (by decide) [(7, .int .i64 (state % s.1)), (13, .int .i64 v0_9.2.1), (16, .int .i64 v0_10.2.1), (90, .int .i64 v0_9.2.1)] [] (by (simp only [go_sem, hb2, hb6, hb10, hb19, hb21, hb23, hb25, hb28, hb31]) <;> (repeat' with_reducible apply And.intro) <;> first | assumption | rfl | omega | (unfold maxLen; omega)) ?_
                      refine athen_n ?_
                      refine AW.block ?_
                      refine AW.seq ?_
                      refine AW.ops ?_
                      refine AO.allF tab_ok (by decide) [(7, .int .i64 (state % s.1)), (13, .int .i64 v0_9.2.1), (16, .int .i64 v0_10.2.1), (90, .int .i64 v0_9.2.1), (91, .bool (decide (v0_9.2.1 = 0)))] [] (by (simp only [go_sem, hb2, hb6, hb10, hb19, hb21, hb23, hb25, hb28, hb31]) <;> (repeat' with_reducible apply And.intro) <;> first | assumption | rfl | omega | (unfold maxLen; omega)) ?_
                      refine athen_n ?_
                      refine AW.cond (b := (decide (v0_9.2.1 = 0))) rfl (fun hb34 => ?_) (fun hb34 => ?_)
                      · rw [if_pos hb34] at h
                        refine AW.ops ?_
                        refine AO.allF tab_ok (by decide) [(13, .int .i64 (state % s.1)), (16, .int .i64 v0_10.2.1)] [] (by (simp only [go_sem, hb2, hb6, hb10, hb19, hb21, hb23, hb25, hb28, hb31, hb34]) <;> (repeat' with_reducible apply And.intro) <;> first | assumption | rfl | omega | (unfold maxLen; omega)) ?_
                        refine ablock_n ?_
                        refine athen_n ?_
                        exact AW.weaken (Wk.le [] [] [] rfl (by (simp only [go_sem, hb2, hb6, hb10, hb19, hb21, hb23, hb25, hb28, hb31, hb34]) <;> (repeat' with_reducible apply And.intro) <;> first | assumption | rfl | omega | (unfold maxLen; omega)) (by (simp only [go_sem, hb2, hb6, hb10, hb19, hb21, hb23, hb25, hb28, hb31, hb34]) <;> (repeat' with_reducible apply And.intro) <;> first | assumption | rfl | omega | (unfold maxLen; omega))) (hk_lineallaw01_SpecTurns_k1 _ h)
                      · rw [if_neg (Bool.eq_false_iff.1 hb34)] at h
                        refine AW.seq ?_
                        refine AW.ops ?_
                        refine AO.allF tab_ok (by decide) [(13, .int .i64 v0_9.2.1), (16, .int .i64 v0_10.2.1), (94, .bool (decide (v0_9.2.1 = (state % s.1))))] [] (by (simp only [go_sem, hb2, hb6, hb10, hb19, hb21, hb23, hb25, hb28, hb31, hb34]) <;> (repeat' with_reducible apply And.intro) <;> first | assumption | rfl | omega | (unfold maxLen; omega)) ?_
                        refine athen_n ?_
                        refine AW.cond (b := (decide (v0_9.2.1 = (state % s.1)))) rfl (fun hb35 => ?_) (fun hb35 => ?_)
                        · rw [if_pos hb35] at h
                          refine AW.ops ?_
                          refine AO.allF tab_ok (by decide) [(13, .int .i64 0), (16, .int .i64 v0_10.2.1)] [] (by (simp only [go_sem, hb2, hb6, hb10, hb19, hb21, hb23, hb25, hb28, hb31, hb34, hb35]) <;> (repeat' with_reducible apply And.intro) <;> first | assumption | rfl | omega | (unfold maxLen; omega)) ?_
                          refine ablock_n ?_
                          refine athen_n ?_
                          exact AW.weaken (Wk.le [] [] [] rfl (by (simp only [go_sem, hb2, hb6, hb10, hb19, hb21, hb23, hb25, hb28, hb31, hb34, hb35]) <;> (repeat' with_reducible apply And.intro) <;> first | assumption | rfl | omega | (unfold maxLen; omega)) (by (simp only [go_sem, hb2, hb6, hb10, hb19, hb21, hb23, hb25, hb28, hb31, hb34, hb35]) <;> (repeat' with_reducible apply And.intro) <;> first | assumption | rfl | omega | (unfold maxLen; omega))) (hk_lineallaw01_SpecTurns_k1 _ h)
                        · rw [if_neg (Bool.eq_false_iff.1 hb35)] at h
                          refine AW.skip ?_
                          refine ablock_n ?_
                          refine athen_n ?_
                          exact AW.weaken (Wk.le [] [] [] rfl (by (simp only [go_sem, hb2, hb6, hb10, hb19, hb21, hb23, hb25, hb28, hb31, hb34, hb35]) <;> (repeat' with_reducible apply And.intro) <;> first | assumption | rfl | omega | (unfold maxLen; omega)) (by (simp only [go_sem, hb2, hb6, hb10, hb19, hb21, hb23, hb25, hb28, hb31, hb34, hb35]) <;> (repeat' with_reducible apply And.intro) <;> first | assumption | rfl | omega | (unfold maxLen; omega))) (hk_lineallaw01_SpecTurns_k1 _ h)

end Go.Proofs.Ytmcgmlcfogdioaa
