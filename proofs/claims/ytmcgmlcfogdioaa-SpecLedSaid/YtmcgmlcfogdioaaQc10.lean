/-
  Made by wip/tool/dc.py out of the print of the program: contracts.
-/
import Derived.Test.YtmcgmlcfogdioaaQp
import Derived.Test.YtmcgmlcfogdioaaTb
import Derived.Test.YtmcgmlcfogdioaaQc3
import Derived.Test.YtmcgmlcfogdioaaQc4
import Derived.Test.YtmcgmlcfogdioaaQc5
import Derived.Test.YtmcgmlcfogdioaaQc9
namespace Go.Proofs.Ytmcgmlcfogdioaa
open Go.RowKit

set_option linter.unusedSimpArgs false
set_option linter.unusedVariables false
set_option linter.constructorNameAsVariable false

set_option maxRecDepth 100000 in
set_option maxHeartbeats 2000000 in
theorem hc_lineallaw01_SpecLed (s : Int × Int × (List (List Int)) × (List (List Int))) (state : Int) (word : List Int) {r : Bool} (h : lineallaw01_SpecLed s state word = some r) : HC Try.prog 11 [] [.agg [.int .i64 s.1, .int .i64 s.2.1, .sl (.sl (.int .i64)) s.2.2.1, .sl (.sl (.int .i64)) s.2.2.2], .int .u8 state, .sl (.int .i64) word] [] (.bool r) := by
  unfold lineallaw01_SpecLed at h
  refine HC.of_body tab_ok (res := [.tmp 6]) Try.func11 rfl (by kernel_rfl) rfl (nt := 137) rfl (by decide) (by simp) ?_
  refine AW.seq ?_
  refine AW.ops ?_
  refine AO.allF tab_ok (by decide) [(1, .int .u8 state), (2, .sl (.int .i64) word), (3, .bp 3 0)] [(3, .box 24 [.int .i64 s.1, .int .i64 s.2.1, .sl (.sl (.int .i64)) s.2.2.1, .sl (.sl (.int .i64)) s.2.2.2])] (by (simp only [go_sem]) <;> (repeat' with_reducible apply And.intro) <;> first | assumption | rfl | omega | (unfold maxLen; omega)) ?_
  refine athen_n ?_
  refine AW.seq ?_
  refine AW.seq ?_
  refine AW.ops ?_
  refine AO.segF tab_ok 1 (by decide) [(1, .int .u8 state), (2, .sl (.int .i64) word), (3, .bp 3 0), (21, .agg [.int .i64 s.1, .int .i64 s.2.1, .sl (.sl (.int .i64)) s.2.2.1, .sl (.sl (.int .i64)) s.2.2.2])] [(3, .box 24 [.int .i64 s.1, .int .i64 s.2.1, .sl (.sl (.int .i64)) s.2.2.1, .sl (.sl (.int .i64)) s.2.2.2])] (by (simp only [go_sem]) <;> (repeat' with_reducible apply And.intro) <;> first | assumption | rfl | omega | (unfold maxLen; omega)) ?_
  obtain ⟨v0, hv1, h⟩ := Option.bind_eq_some_iff.1 h
  refine AO.call tab_ok (by decide) rfl rfl rfl (fun _ h => h) [] [] (hc_lineallaw01_Long s hv1) rfl (by (simp only [go_sem]) <;> (repeat' with_reducible apply And.intro) <;> first | assumption | rfl | omega | (unfold maxLen; omega)) (by (simp only [go_sem]) <;> (repeat' with_reducible apply And.intro) <;> first | assumption | rfl | omega | (unfold maxLen; omega)) [(1, .int .u8 state), (2, .sl (.int .i64) word), (3, .bp 3 0), (22, .bool v0)] [(3, .box 24 [.int .i64 s.1, .int .i64 s.2.1, .sl (.sl (.int .i64)) s.2.2.1, .sl (.sl (.int .i64)) s.2.2.2])] (by (simp only [go_sem]) <;> (repeat' with_reducible apply And.intro) <;> first | assumption | rfl | omega | (unfold maxLen; omega)) ?_
  refine AO.segF tab_ok 1 (by decide) [(1, .int .u8 state), (2, .sl (.int .i64) word), (3, .bp 3 0), (23, .bool v0)] [(3, .box 24 [.int .i64 s.1, .int .i64 s.2.1, .sl (.sl (.int .i64)) s.2.2.1, .sl (.sl (.int .i64)) s.2.2.2])] (by (simp only [go_sem]) <;> (repeat' with_reducible apply And.intro) <;> first | assumption | rfl | omega | (unfold maxLen; omega)) ?_
  rcases Bool.eq_false_or_eq_true v0 with hb2 | hb2
  · rw [if_pos hb2] at h
    refine AO.weaken (s' := ⟨fr [(1, .int .u8 state), (2, .sl (.int .i64) word), (3, .bp 3 0), (23, .bool true)], hpGet [(3, .box 24 [.int .i64 s.1, .int .i64 s.2.1, .sl (.sl (.int .i64)) s.2.2.1, .sl (.sl (.int .i64)) s.2.2.2])], gt⟩) (Wk.to (by (simp only [go_sem, hb2]) <;> (repeat' with_reducible apply And.intro) <;> first | assumption | rfl | omega | (unfold maxLen; omega))) ?_
    refine AO.segF tab_ok 6 (by decide) [(1, .int .u8 state), (2, .sl (.int .i64) word), (3, .bp 3 0), (28, .bool true), (29, .cv (undef))] [(3, .box 24 [.int .i64 s.1, .int .i64 s.2.1, .sl (.sl (.int .i64)) s.2.2.1, .sl (.sl (.int .i64)) s.2.2.2])] (by (simp only [go_sem, hb2]) <;> (repeat' with_reducible apply And.intro) <;> first | assumption | rfl | omega | (unfold maxLen; omega)) ?_
    refine AO.allF tab_ok (by decide) [(1, .int .u8 state), (2, .sl (.int .i64) word), (3, .bp 3 0), (33, .bool true)] [(3, .box 24 [.int .i64 s.1, .int .i64 s.2.1, .sl (.sl (.int .i64)) s.2.2.1, .sl (.sl (.int .i64)) s.2.2.2])] (by (simp only [go_sem, hb2]) <;> (repeat' with_reducible apply And.intro) <;> first | assumption | rfl | omega | (unfold maxLen; omega)) ?_
    refine athen_n ?_
    refine AW.cond (b := true) rfl (fun _ => ?_) (fun hb3 => by cases hb3)
    refine AW.seq ?_
    refine AW.ops ?_
    obtain ⟨v0_2, hv4, h⟩ := Option.bind_eq_some_iff.1 h
    refine AO.call tab_ok (by decide) rfl rfl rfl (fun _ h => h) [] [] (hc_lineallaw01_Awake hv4) rfl (by (simp only [go_sem, hb2]) <;> (repeat' with_reducible apply And.intro) <;> first | assumption | rfl | omega | (unfold maxLen; omega)) (by (simp only [go_sem, hb2]) <;> (repeat' with_reducible apply And.intro) <;> first | assumption | rfl | omega | (unfold maxLen; omega)) [(34, .bool v0_2)] [] (by (simp only [go_sem, hb2]) <;> (repeat' with_reducible apply And.intro) <;> first | assumption | rfl | omega | (unfold maxLen; omega)) ?_
    refine AO.allF tab_ok (by decide) [(6, .bool v0_2)] [] (by (simp only [go_sem, hb2]) <;> (repeat' with_reducible apply And.intro) <;> first | assumption | rfl | omega | (unfold maxLen; omega)) ?_
    refine athen_n ?_
    refine AW.ret ?_
    refine athen_r ?_
    obtain rfl := Option.some.inj h
    exact ⟨rfl, [], [], [], rfl, (by (simp only [go_sem, hb2]) <;> (repeat' with_reducible apply And.intro) <;> first | assumption | rfl | omega | (unfold maxLen; omega))⟩
  · rw [if_neg (Bool.eq_false_iff.1 hb2)] at h
    refine AO.weaken (s' := ⟨fr [(1, .int .u8 state), (2, .sl (.int .i64) word), (3, .bp 3 0), (23, .bool false)], hpGet [(3, .box 24 [.int .i64 s.1, .int .i64 s.2.1, .sl (.sl (.int .i64)) s.2.2.1, .sl (.sl (.int .i64)) s.2.2.2])], gt⟩) (Wk.to (by (simp only [go_sem, hb2]) <;> (repeat' with_reducible apply And.intro) <;> first | assumption | rfl | omega | (unfold maxLen; omega))) ?_
    refine AO.segF tab_ok 1 (by decide) [(1, .int .u8 state), (2, .sl (.int .i64) word), (3, .bp 3 0), (23, .bool false), (24, .agg [.int .i64 s.1, .int .i64 s.2.1, .sl (.sl (.int .i64)) s.2.2.1, .sl (.sl (.int .i64)) s.2.2.2])] [(3, .box 24 [.int .i64 s.1, .int .i64 s.2.1, .sl (.sl (.int .i64)) s.2.2.1, .sl (.sl (.int .i64)) s.2.2.2])] (by (simp only [go_sem, hb2]) <;> (repeat' with_reducible apply And.intro) <;> first | assumption | rfl | omega | (unfold maxLen; omega)) ?_
    obtain ⟨v0_3, hv5, h⟩ := Option.bind_eq_some_iff.1 h
    refine AO.call tab_ok (by decide) rfl rfl rfl (fun _ h => ⟨fun _ => h, fun hn => absurd rfl hn⟩) [] [] (hc_linealref01_Valid s hv5) rfl (by (simp only [go_sem, hb2]) <;> (repeat' with_reducible apply And.intro) <;> first | assumption | rfl | omega | (unfold maxLen; omega)) (by (simp only [go_sem, hb2]) <;> (repeat' with_reducible apply And.intro) <;> first | assumption | rfl | omega | (unfold maxLen; omega)) [(1, .int .u8 state), (2, .sl (.int .i64) word), (3, .bp 3 0), (23, .bool false), (25, .bool v0_3)] [(3, .box 24 [.int .i64 s.1, .int .i64 s.2.1, .sl (.sl (.int .i64)) s.2.2.1, .sl (.sl (.int .i64)) s.2.2.2])] (by (simp only [go_sem, hb2]) <;> (repeat' with_reducible apply And.intro) <;> first | assumption | rfl | omega | (unfold maxLen; omega)) ?_
    refine AO.segF tab_ok 3 (by decide) [(1, .int .u8 state), (2, .sl (.int .i64) word), (3, .bp 3 0), (28, .bool (!v0_3))] [(3, .box 24 [.int .i64 s.1, .int .i64 s.2.1, .sl (.sl (.int .i64)) s.2.2.1, .sl (.sl (.int .i64)) s.2.2.2])] (by (simp only [go_sem, hb2]) <;> (repeat' with_reducible apply And.intro) <;> first | assumption | rfl | omega | (unfold maxLen; omega)) ?_
    rcases Bool.eq_false_or_eq_true (!v0_3) with hb6 | hb6
    · rw [if_pos hb6] at h
      refine AO.weaken (s' := ⟨fr [(1, .int .u8 state), (2, .sl (.int .i64) word), (3, .bp 3 0), (28, .bool true)], hpGet [(3, .box 24 [.int .i64 s.1, .int .i64 s.2.1, .sl (.sl (.int .i64)) s.2.2.1, .sl (.sl (.int .i64)) s.2.2.2])], gt⟩) (Wk.to (by (simp only [go_sem, hb2, hb6]) <;> (repeat' with_reducible apply And.intro) <;> first | assumption | rfl | omega | (unfold maxLen; omega))) ?_
      refine AO.segF tab_ok 4 (by decide) [(1, .int .u8 state), (2, .sl (.int .i64) word), (3, .bp 3 0), (28, .bool true), (32, .cv (undef))] [(3, .box 24 [.int .i64 s.1, .int .i64 s.2.1, .sl (.sl (.int .i64)) s.2.2.1, .sl (.sl (.int .i64)) s.2.2.2])] (by (simp only [go_sem, hb2, hb6]) <;> (repeat' with_reducible apply And.intro) <;> first | assumption | rfl | omega | (unfold maxLen; omega)) ?_
      refine AO.allF tab_ok (by decide) [(1, .int .u8 state), (2, .sl (.int .i64) word), (3, .bp 3 0), (33, .bool true)] [(3, .box 24 [.int .i64 s.1, .int .i64 s.2.1, .sl (.sl (.int .i64)) s.2.2.1, .sl (.sl (.int .i64)) s.2.2.2])] (by (simp only [go_sem, hb2, hb6]) <;> (repeat' with_reducible apply And.intro) <;> first | assumption | rfl | omega | (unfold maxLen; omega)) ?_
      refine athen_n ?_
      refine AW.cond (b := true) rfl (fun _ => ?_) (fun hb7 => by cases hb7)
      refine AW.seq ?_
      refine AW.ops ?_
      obtain ⟨v0_4, hv8, h⟩ := Option.bind_eq_some_iff.1 h
      refine AO.call tab_ok (by decide) rfl rfl rfl (fun _ h => h) [] [] (hc_lineallaw01_Awake hv8) rfl (by (simp only [go_sem, hb2, hb6]) <;> (repeat' with_reducible apply And.intro) <;> first | assumption | rfl | omega | (unfold maxLen; omega)) (by (simp only [go_sem, hb2, hb6]) <;> (repeat' with_reducible apply And.intro) <;> first | assumption | rfl | omega | (unfold maxLen; omega)) [(34, .bool v0_4)] [] (by (simp only [go_sem, hb2, hb6]) <;> (repeat' with_reducible apply And.intro) <;> first | assumption | rfl | omega | (unfold maxLen; omega)) ?_
      refine AO.allF tab_ok (by decide) [(6, .bool v0_4)] [] (by (simp only [go_sem, hb2, hb6]) <;> (repeat' with_reducible apply And.intro) <;> first | assumption | rfl | omega | (unfold maxLen; omega)) ?_
      refine athen_n ?_
      refine AW.ret ?_
      refine athen_r ?_
      obtain rfl := Option.some.inj h
      exact ⟨rfl, [], [], [], rfl, (by (simp only [go_sem, hb2, hb6]) <;> (repeat' with_reducible apply And.intro) <;> first | assumption | rfl | omega | (unfold maxLen; omega))⟩
    · rw [if_neg (Bool.eq_false_iff.1 hb6)] at h
      refine AO.weaken (s' := ⟨fr [(1, .int .u8 state), (2, .sl (.int .i64) word), (3, .bp 3 0), (28, .bool false)], hpGet [(3, .box 24 [.int .i64 s.1, .int .i64 s.2.1, .sl (.sl (.int .i64)) s.2.2.1, .sl (.sl (.int .i64)) s.2.2.2])], gt⟩) (Wk.to (by (simp only [go_sem, hb2, hb6]) <;> (repeat' with_reducible apply And.intro) <;> first | assumption | rfl | omega | (unfold maxLen; omega))) ?_
      refine AO.segF tab_ok 2 (by decide) [(1, .int .u8 state), (2, .sl (.int .i64) word), (3, .bp 3 0), (28, .bool false), (29, .agg [.int .i64 s.1, .int .i64 s.2.1, .sl (.sl (.int .i64)) s.2.2.1, .sl (.sl (.int .i64)) s.2.2.2]), (30, .sl (.int .i64) word)] [(3, .box 24 [.int .i64 s.1, .int .i64 s.2.1, .sl (.sl (.int .i64)) s.2.2.1, .sl (.sl (.int .i64)) s.2.2.2])] (by (simp only [go_sem, hb2, hb6]) <;> (repeat' with_reducible apply And.intro) <;> first | assumption | rfl | omega | (unfold maxLen; omega)) ?_
      obtain ⟨v0_5, hv9, h⟩ := Option.bind_eq_some_iff.1 h
      refine AO.call tab_ok (by decide) rfl rfl rfl (fun _ h => ⟨fun _ => h, fun hn => absurd rfl hn⟩) [] [] (hc_linealref01_IsWord s word hv9) rfl (by (simp only [go_sem, hb2, hb6]) <;> (repeat' with_reducible apply And.intro) <;> first | assumption | rfl | omega | (unfold maxLen; omega)) (by (simp only [go_sem, hb2, hb6]) <;> (repeat' with_reducible apply And.intro) <;> first | assumption | rfl | omega | (unfold maxLen; omega)) [(1, .int .u8 state), (2, .sl (.int .i64) word), (3, .bp 3 0), (28, .bool false), (31, .bool v0_5)] [(3, .box 24 [.int .i64 s.1, .int .i64 s.2.1, .sl (.sl (.int .i64)) s.2.2.1, .sl (.sl (.int .i64)) s.2.2.2])] (by (simp only [go_sem, hb2, hb6]) <;> (repeat' with_reducible apply And.intro) <;> first | assumption | rfl | omega | (unfold maxLen; omega)) ?_
      refine AO.allF tab_ok (by decide) [(1, .int .u8 state), (2, .sl (.int .i64) word), (3, .bp 3 0), (33, .bool (!v0_5))] [(3, .box 24 [.int .i64 s.1, .int .i64 s.2.1, .sl (.sl (.int .i64)) s.2.2.1, .sl (.sl (.int .i64)) s.2.2.2])] (by (simp only [go_sem, hb2, hb6]) <;> (repeat' with_reducible apply And.intro) <;> first | assumption | rfl | omega | (unfold maxLen; omega)) ?_
      refine athen_n ?_
      refine AW.cond (b := (!v0_5)) rfl (fun hb10 => ?_) (fun hb10 => ?_)
      · rw [if_pos hb10] at h
        refine AW.seq ?_
        refine AW.ops ?_
        obtain ⟨v0_6, hv11, h⟩ := Option.bind_eq_some_iff.1 h
        refine AO.call tab_ok (by decide) rfl rfl rfl (fun _ h => h) [] [] (hc_lineallaw01_Awake hv11) rfl (by (simp only [go_sem, hb2, hb6, hb10]) <;> (repeat' with_reducible apply And.intro) <;> first | assumption | rfl | omega | (unfold maxLen; omega)) (by (simp only [go_sem, hb2, hb6, hb10]) <;> (repeat' with_reducible apply And.intro) <;> first | assumption | rfl | omega | (unfold maxLen; omega)) [(34, .bool v0_6)] [] (by (simp only [go_sem, hb2, hb6, hb10]) <;> (repeat' with_reducible apply And.intro) <;> first | assumption | rfl | omega | (unfold maxLen; omega)) ?_
        refine AO.allF tab_ok (by decide) [(6, .bool v0_6)] [] (by (simp only [go_sem, hb2, hb6, hb10]) <;> (repeat' with_reducible apply And.intro) <;> first | assumption | rfl | omega | (unfold maxLen; omega)) ?_
        refine athen_n ?_
        refine AW.ret ?_
        refine athen_r ?_
        obtain rfl := Option.some.inj h
        exact ⟨rfl, [], [], [], rfl, (by (simp only [go_sem, hb2, hb6, hb10]) <;> (repeat' with_reducible apply And.intro) <;> first | assumption | rfl | omega | (unfold maxLen; omega))⟩
      · rw [if_neg (Bool.eq_false_iff.1 hb10)] at h
        refine AW.skip ?_
        refine athen_n ?_
        refine AW.seq ?_
        refine AW.ops ?_
        obtain ⟨c12, h⟩ := ck_some.1 h
        obtain ⟨c13, h⟩ := ck_some.1 h
        obtain ⟨c14, h⟩ := ck_some.1 h
        refine AO.allF tab_ok (by decide) [(2, .sl (.int .i64) word), (3, .bp 3 0), (7, .int .i64 (state % s.1))] [(3, .box 24 [.int .i64 s.1, .int .i64 s.2.1, .sl (.sl (.int .i64)) s.2.2.1, .sl (.sl (.int .i64)) s.2.2.2])] (by (simp only [go_sem, hb2, hb6, hb10]) <;> (repeat' with_reducible apply And.intro) <;> first | assumption | rfl | omega | (unfold maxLen; omega)) ?_
        refine athen_n ?_
        refine AW.seq ?_
        refine AW.ops ?_
        refine AO.segF tab_ok 2 (by decide) [(2, .sl (.int .i64) word), (3, .bp 3 0), (7, .int .i64 (state % s.1)), (41, .agg [.int .i64 s.1, .int .i64 s.2.1, .sl (.sl (.int .i64)) s.2.2.1, .sl (.sl (.int .i64)) s.2.2.2]), (42, .int .i64 (state % s.1))] [(3, .box 24 [.int .i64 s.1, .int .i64 s.2.1, .sl (.sl (.int .i64)) s.2.2.1, .sl (.sl (.int .i64)) s.2.2.2])] (by (simp only [go_sem, hb2, hb6, hb10]) <;> (repeat' with_reducible apply And.intro) <;> first | assumption | rfl | omega | (unfold maxLen; omega)) ?_
        obtain ⟨v0_7, hv15, h⟩ := Option.bind_eq_some_iff.1 h
        refine AO.call tab_ok (by decide) rfl rfl rfl (fun _ h => h) [] [] (hc_spec_Way s (state % s.1) hv15) rfl (by (simp only [go_sem, hb2, hb6, hb10]) <;> (repeat' with_reducible apply And.intro) <;> first | assumption | rfl | omega | (unfold maxLen; omega)) (by (simp only [go_sem, hb2, hb6, hb10]) <;> (repeat' with_reducible apply And.intro) <;> first | assumption | rfl | omega | (unfold maxLen; omega)) [(2, .sl (.int .i64) word), (3, .bp 3 0), (7, .int .i64 (state % s.1)), (43, .tup [.sl (.int .i64) v0_7.1, .int .i64 v0_7.2])] [(3, .box 24 [.int .i64 s.1, .int .i64 s.2.1, .sl (.sl (.int .i64)) s.2.2.1, .sl (.sl (.int .i64)) s.2.2.2])] (by (simp only [go_sem, hb2, hb6, hb10]) <;> (repeat' with_reducible apply And.intro) <;> first | assumption | rfl | omega | (unfold maxLen; omega)) ?_
        refine AO.allF tab_ok (by decide) [(2, .sl (.int .i64) word), (3, .bp 3 0), (7, .int .i64 (state % s.1)), (8, .sl (.int .i64) v0_7.1), (9, .int .i64 v0_7.2)] [(3, .box 24 [.int .i64 s.1, .int .i64 s.2.1, .sl (.sl (.int .i64)) s.2.2.1, .sl (.sl (.int .i64)) s.2.2.2])] (by (simp only [go_sem, hb2, hb6, hb10]) <;> (repeat' with_reducible apply And.intro) <;> first | assumption | rfl | omega | (unfold maxLen; omega)) ?_
        refine athen_n ?_
        refine AW.seq ?_
        refine AW.ops ?_
        refine AO.segF tab_ok 1 (by decide) [(2, .sl (.int .i64) word), (3, .bp 3 0), (7, .int .i64 (state % s.1)), (8, .sl (.int .i64) v0_7.1), (9, .int .i64 v0_7.2), (47, .agg [.int .i64 s.1, .int .i64 s.2.1, .sl (.sl (.int .i64)) s.2.2.1, .sl (.sl (.int .i64)) s.2.2.2])] [(3, .box 24 [.int .i64 s.1, .int .i64 s.2.1, .sl (.sl (.int .i64)) s.2.2.1, .sl (.sl (.int .i64)) s.2.2.2])] (by (simp only [go_sem, hb2, hb6, hb10]) <;> (repeat' with_reducible apply And.intro) <;> first | assumption | rfl | omega | (unfold maxLen; omega)) ?_
        obtain ⟨v0_8, hv16, h⟩ := Option.bind_eq_some_iff.1 h
        refine AO.call tab_ok (by decide) rfl rfl rfl (fun _ h => h) [] [] (hc_spec_Reached s hv16) rfl (by (simp only [go_sem, hb2, hb6, hb10]) <;> (repeat' with_reducible apply And.intro) <;> first | assumption | rfl | omega | (unfold maxLen; omega)) (by (simp only [go_sem, hb2, hb6, hb10]) <;> (repeat' with_reducible apply And.intro) <;> first | assumption | rfl | omega | (unfold maxLen; omega)) [(2, .sl (.int .i64) word), (3, .bp 3 0), (7, .int .i64 (state % s.1)), (8, .sl (.int .i64) v0_7.1), (9, .int .i64 v0_7.2), (48, .tup [.own 58000, .int .i64 v0_8.2])] [(3, .box 24 [.int .i64 s.1, .int .i64 s.2.1, .sl (.sl (.int .i64)) s.2.2.1, .sl (.sl (.int .i64)) s.2.2.2]), (58000, .arr 3 (.int .i64) v0_8.1)] (by (simp only [go_sem, hb2, hb6, hb10]) <;> (repeat' with_reducible apply And.intro) <;> first | assumption | rfl | omega | (unfold maxLen; omega)) ?_
        refine AO.allF tab_ok (by decide) [(2, .sl (.int .i64) word), (3, .bp 3 0), (7, .int .i64 (state % s.1)), (8, .sl (.int .i64) v0_7.1), (9, .int .i64 v0_7.2), (10, .own 58000), (11, .int .i64 v0_8.2)] [(3, .box 24 [.int .i64 s.1, .int .i64 s.2.1, .sl (.sl (.int .i64)) s.2.2.1, .sl (.sl (.int .i64)) s.2.2.2]), (58000, .arr 3 (.int .i64) v0_8.1)] (by (simp only [go_sem, hb2, hb6, hb10]) <;> (repeat' with_reducible apply And.intro) <;> first | assumption | rfl | omega | (unfold maxLen; omega)) ?_
        refine athen_n ?_
        refine AW.seq ?_
        refine AW.ops ?_
        refine AO.segF tab_ok 2 (by decide) [(2, .sl (.int .i64) word), (3, .bp 3 0), (7, .int .i64 (state % s.1)), (8, .sl (.int .i64) v0_7.1), (9, .int .i64 v0_7.2), (10, .own 58000), (11, .int .i64 v0_8.2), (52, .agg [.int .i64 s.1, .int .i64 s.2.1, .sl (.sl (.int .i64)) s.2.2.1, .sl (.sl (.int .i64)) s.2.2.2]), (53, .sl (.int .i64) word)] [(3, .box 24 [.int .i64 s.1, .int .i64 s.2.1, .sl (.sl (.int .i64)) s.2.2.1, .sl (.sl (.int .i64)) s.2.2.2]), (58000, .arr 3 (.int .i64) v0_8.1)] (by (simp only [go_sem, hb2, hb6, hb10]) <;> (repeat' with_reducible apply And.intro) <;> first | assumption | rfl | omega | (unfold maxLen; omega)) ?_
        obtain ⟨v0_9, hv17, h⟩ := Option.bind_eq_some_iff.1 h
        refine AO.call tab_ok (by decide) rfl rfl rfl (fun _ h => h) [] [] (hc_spec_Run s 0 word hv17) rfl (by (simp only [go_sem, hb2, hb6, hb10]) <;> (repeat' with_reducible apply And.intro) <;> first | assumption | rfl | omega | (unfold maxLen; omega)) (by (simp only [go_sem, hb2, hb6, hb10]) <;> (repeat' with_reducible apply And.intro) <;> first | assumption | rfl | omega | (unfold maxLen; omega)) [(2, .sl (.int .i64) word), (3, .bp 3 0), (7, .int .i64 (state % s.1)), (8, .sl (.int .i64) v0_7.1), (9, .int .i64 v0_7.2), (10, .own 58000), (11, .int .i64 v0_8.2), (54, .tup [.own 64000, .int .i64 v0_9.2.1, .int .i64 v0_9.2.2])] [(3, .box 24 [.int .i64 s.1, .int .i64 s.2.1, .sl (.sl (.int .i64)) s.2.2.1, .sl (.sl (.int .i64)) s.2.2.2]), (58000, .arr 3 (.int .i64) v0_8.1), (64000, .arr 3 (.int .i64) v0_9.1)] (by (simp only [go_sem, hb2, hb6, hb10]) <;> (repeat' with_reducible apply And.intro) <;> first | assumption | rfl | omega | (unfold maxLen; omega)) ?_
        refine AO.allF tab_ok (by decide) [(2, .sl (.int .i64) word), (3, .bp 3 0), (7, .int .i64 (state % s.1)), (8, .sl (.int .i64) v0_7.1), (9, .int .i64 v0_7.2), (10, .own 58000), (11, .int .i64 v0_8.2), (13, .int .i64 v0_9.2.1), (14, .int .i64 v0_9.2.2)] [(3, .box 24 [.int .i64 s.1, .int .i64 s.2.1, .sl (.sl (.int .i64)) s.2.2.1, .sl (.sl (.int .i64)) s.2.2.2]), (58000, .arr 3 (.int .i64) v0_8.1)] (by (simp only [go_sem, hb2, hb6, hb10]) <;> (repeat' with_reducible apply And.intro) <;> first | assumption | rfl | omega | (unfold maxLen; omega)) ?_
        refine athen_n ?_
        refine AW.have2 (fun _ : Unit => lineallaw01_SpecLed_k1 s state word v0_7 v0_8 v0_9 = some r) (fun _ => ⟨fr [(2, .sl (.int .i64) word), (3, .bp 3 0), (7, .int .i64 (state % s.1)), (8, .sl (.int .i64) v0_7.1), (9, .int .i64 v0_7.2), (10, .own 58000), (13, .int .i64 v0_9.2.1), (15, .bool false)], hpGet [(3, .box 24 [.int .i64 s.1, .int .i64 s.2.1, .sl (.sl (.int .i64)) s.2.2.1, .sl (.sl (.int .i64)) s.2.2.2]), (58000, .arr 3 (.int .i64) v0_8.1)], gt⟩) (fun _ h => ?_) (fun hk_lineallaw01_SpecLed_k1 => ?_)
        · unfold lineallaw01_SpecLed_k1 at h
          refine AW.have1 (fun b2 : Bool => lineallaw01_SpecLed_k2 s state word v0_7 v0_9 b2 = some r) (fun b2 => ⟨fr [(2, .sl (.int .i64) word), (3, .bp 3 0), (7, .int .i64 (state % s.1)), (8, .sl (.int .i64) v0_7.1), (9, .int .i64 v0_7.2), (13, .int .i64 v0_9.2.1), (15, .bool b2)], hpGet [(3, .box 24 [.int .i64 s.1, .int .i64 s.2.1, .sl (.sl (.int .i64)) s.2.2.1, .sl (.sl (.int .i64)) s.2.2.2])], gt⟩) (fun b2 h => ?_) (fun hk_lineallaw01_SpecLed_k2 => ?_)
          · unfold lineallaw01_SpecLed_k2 at h
            refine AW.have1 (fun _ : Unit => lineallaw01_SpecLed_k3 s state v0_7 b2 = some r) (fun _ => ⟨fr [(3, .bp 3 0), (7, .int .i64 (state % s.1)), (8, .sl (.int .i64) v0_7.1), (15, .bool b2)], hpGet [(3, .box 24 [.int .i64 s.1, .int .i64 s.2.1, .sl (.sl (.int .i64)) s.2.2.1, .sl (.sl (.int .i64)) s.2.2.2])], gt⟩) (fun _ h => ?_) (fun hk_lineallaw01_SpecLed_k3 => ?_)
            · unfold lineallaw01_SpecLed_k3 at h
              refine AW.seq ?_
              refine AW.seq ?_
              refine AW.ops ?_
              refine AO.allF tab_ok (by decide) [(3, .bp 3 0), (7, .int .i64 (state % s.1)), (8, .sl (.int .i64) v0_7.1), (106, .bool (!b2))] [(3, .box 24 [.int .i64 s.1, .int .i64 s.2.1, .sl (.sl (.int .i64)) s.2.2.1, .sl (.sl (.int .i64)) s.2.2.2])] (by (simp only [go_sem, hb2, hb6, hb10]) <;> (repeat' with_reducible apply And.intro) <;> first | assumption | rfl | omega | (unfold maxLen; omega)) ?_
              refine athen_n ?_
              refine AW.cond (b := (!b2)) rfl (fun hb18 => ?_) (fun hb18 => ?_)
              · rw [if_pos hb18] at h
                refine AW.seq ?_
                refine AW.ops ?_
                refine AO.segF tab_ok 4 (by decide) [(110, .bool (decide ((v0_7.1.length : Int) = 0)))] [] (by (simp only [go_sem, hb2, hb6, hb10, hb18]) <;> (repeat' with_reducible apply And.intro) <;> first | assumption | rfl | omega | (unfold maxLen; omega)) ?_
                rcases Bool.eq_false_or_eq_true (decide ((v0_7.1.length : Int) = 0)) with hb19 | hb19
                · rw [if_pos hb19] at h
                  refine AO.weaken (s' := ⟨fr [(110, .bool true)], hpGet [], gt⟩) (Wk.to (by (simp only [go_sem, hb2, hb6, hb10, hb18, hb19]) <;> (repeat' with_reducible apply And.intro) <;> first | assumption | rfl | omega | (unfold maxLen; omega))) ?_
                  obtain ⟨v0_10, hv20, h⟩ := Option.bind_eq_some_iff.1 h
                  refine AO.call tab_ok (by decide) rfl rfl rfl (fun _ h => ⟨fun _ => h, fun hn => absurd rfl hn⟩) [] [] (hc_lineallaw01_Awake hv20) rfl (by (simp only [go_sem, hb2, hb6, hb10, hb18, hb19]) <;> (repeat' with_reducible apply And.intro) <;> first | assumption | rfl | omega | (unfold maxLen; omega)) (by (simp only [go_sem, hb2, hb6, hb10, hb18, hb19]) <;> (repeat' with_reducible apply And.intro) <;> first | assumption | rfl | omega | (unfold maxLen; omega)) [(110, .bool true), (111, .bool v0_10)] [] (by (simp only [go_sem, hb2, hb6, hb10, hb18, hb19]) <;> (repeat' with_reducible apply And.intro) <;> first | assumption | rfl | omega | (unfold maxLen; omega)) ?_
                  refine AO.allF tab_ok (by decide) [(6, .bool v0_10)] [] (by (simp only [go_sem, hb2, hb6, hb10, hb18, hb19]) <;> (repeat' with_reducible apply And.intro) <;> first | assumption | rfl | omega | (unfold maxLen; omega)) ?_
                  refine athen_n ?_
                  refine AW.ret ?_
                  refine athen_r ?_
                  obtain rfl := Option.some.inj h
                  exact ⟨rfl, [], [], [], rfl, (by (simp only [go_sem, hb2, hb6, hb10, hb18, hb19]) <;> (repeat' with_reducible apply And.intro) <;> first | assumption | rfl | omega | (unfold maxLen; omega))⟩
                · rw [if_neg (Bool.eq_false_iff.1 hb19)] at h
                  refine AO.weaken (s' := ⟨fr [(110, .bool false)], hpGet [], gt⟩) (Wk.to (by (simp only [go_sem, hb2, hb6, hb10, hb18, hb19]) <;> (repeat' with_reducible apply And.intro) <;> first | assumption | rfl | omega | (unfold maxLen; omega))) ?_
                  refine AO.allF tab_ok (by decide) [(6, .bool false)] [] (by (simp only [go_sem, hb2, hb6, hb10, hb18, hb19]) <;> (repeat' with_reducible apply And.intro) <;> first | assumption | rfl | omega | (unfold maxLen; omega)) ?_
                  refine athen_n ?_
                  refine AW.ret ?_
                  refine athen_r ?_
                  obtain rfl := Option.some.inj h
                  exact ⟨rfl, [], [], [], rfl, (by (simp only [go_sem, hb2, hb6, hb10, hb18, hb19]) <;> (repeat' with_reducible apply And.intro) <;> first | assumption | rfl | omega | (unfold maxLen; omega))⟩
              · rw [if_neg (Bool.eq_false_iff.1 hb18)] at h
                refine AW.skip ?_
                refine athen_n ?_
                refine AW.seq ?_
                refine AW.ops ?_
                refine AO.segF tab_ok 2 (by decide) [(3, .bp 3 0), (7, .int .i64 (state % s.1)), (8, .sl (.int .i64) v0_7.1), (114, .agg [.int .i64 s.1, .int .i64 s.2.1, .sl (.sl (.int .i64)) s.2.2.1, .sl (.sl (.int .i64)) s.2.2.2]), (115, .sl (.int .i64) v0_7.1)] [(3, .box 24 [.int .i64 s.1, .int .i64 s.2.1, .sl (.sl (.int .i64)) s.2.2.1, .sl (.sl (.int .i64)) s.2.2.2])] (by (simp only [go_sem, hb2, hb6, hb10, hb18]) <;> (repeat' with_reducible apply And.intro) <;> first | assumption | rfl | omega | (unfold maxLen; omega)) ?_
                obtain ⟨v0_11, hv21, h⟩ := Option.bind_eq_some_iff.1 h
                refine AO.call tab_ok (by decide) rfl rfl rfl (fun _ h => h) [] [] (hc_spec_Run s 0 v0_7.1 hv21) rfl (by (simp only [go_sem, hb2, hb6, hb10, hb18]) <;> (repeat' with_reducible apply And.intro) <;> first | assumption | rfl | omega | (unfold maxLen; omega)) (by (simp only [go_sem, hb2, hb6, hb10, hb18]) <;> (repeat' with_reducible apply And.intro) <;> first | assumption | rfl | omega | (unfold maxLen; omega)) [(3, .bp 3 0), (7, .int .i64 (state % s.1)), (8, .sl (.int .i64) v0_7.1), (116, .tup [.own 126000, .int .i64 v0_11.2.1, .int .i64 v0_11.2.2])] [(3, .box 24 [.int .i64 s.1, .int .i64 s.2.1, .sl (.sl (.int .i64)) s.2.2.1, .sl (.sl (.int .i64)) s.2.2.2]), (126000, .arr 3 (.int .i64) v0_11.1)] (by (simp only [go_sem, hb2, hb6, hb10, hb18]) <;> (repeat' with_reducible apply And.intro) <;> first | assumption | rfl | omega | (unfold maxLen; omega)) ?_
                refine AO.allF tab_ok (by decide) [(3, .bp 3 0), (7, .int .i64 (state % s.1)), (8, .sl (.int .i64) v0_7.1), (19, .int .i64 v0_11.2.1), (20, .int .i64 v0_11.2.2)] [(3, .box 24 [.int .i64 s.1, .int .i64 s.2.1, .sl (.sl (.int .i64)) s.2.2.1, .sl (.sl (.int .i64)) s.2.2.2])] (by (simp only [go_sem, hb2, hb6, hb10, hb18]) <;> (repeat' with_reducible apply And.intro) <;> first | assumption | rfl | omega | (unfold maxLen; omega)) ?_
                refine athen_n ?_
                refine AW.seq ?_
                refine AW.ops ?_
                refine AO.segF tab_ok 3 (by decide) [(3, .bp 3 0), (7, .int .i64 (state % s.1)), (8, .sl (.int .i64) v0_7.1), (19, .int .i64 v0_11.2.1), (122, .bool (decide (v0_11.2.2 = 0)))] [(3, .box 24 [.int .i64 s.1, .int .i64 s.2.1, .sl (.sl (.int .i64)) s.2.2.1, .sl (.sl (.int .i64)) s.2.2.2])] (by (simp only [go_sem, hb2, hb6, hb10, hb18]) <;> (repeat' with_reducible apply And.intro) <;> first | assumption | rfl | omega | (unfold maxLen; omega)) ?_
                rcases Bool.eq_false_or_eq_true (decide (v0_11.2.2 = 0)) with hb22 | hb22
                · rw [if_pos hb22] at h
                  refine AO.weaken (s' := ⟨fr [(3, .bp 3 0), (7, .int .i64 (state % s.1)), (8, .sl (.int .i64) v0_7.1), (19, .int .i64 v0_11.2.1), (122, .bool true)], hpGet [(3, .box 24 [.int .i64 s.1, .int .i64 s.2.1, .sl (.sl (.int .i64)) s.2.2.1, .sl (.sl (.int .i64)) s.2.2.2])], gt⟩) (Wk.to (by (simp only [go_sem, hb2, hb6, hb10, hb18, hb22]) <;> (repeat' with_reducible apply And.intro) <;> first | assumption | rfl | omega | (unfold maxLen; omega))) ?_
                  refine AO.segF tab_ok 5 (by decide) [(3, .bp 3 0), (8, .sl (.int .i64) v0_7.1), (127, .bool (decide (v0_11.2.1 = (state % s.1))))] [(3, .box 24 [.int .i64 s.1, .int .i64 s.2.1, .sl (.sl (.int .i64)) s.2.2.1, .sl (.sl (.int .i64)) s.2.2.2])] (by (simp only [go_sem, hb2, hb6, hb10, hb18, hb22]) <;> (repeat' with_reducible apply And.intro) <;> first | assumption | rfl | omega | (unfold maxLen; omega)) ?_
                  rcases Bool.eq_false_or_eq_true (decide (v0_11.2.1 = (state % s.1))) with hb23 | hb23
                  · rw [if_pos hb23] at h
                    refine AO.weaken (s' := ⟨fr [(3, .bp 3 0), (8, .sl (.int .i64) v0_7.1), (127, .bool true)], hpGet [(3, .box 24 [.int .i64 s.1, .int .i64 s.2.1, .sl (.sl (.int .i64)) s.2.2.1, .sl (.sl (.int .i64)) s.2.2.2])], gt⟩) (Wk.to (by (simp only [go_sem, hb2, hb6, hb10, hb18, hb22, hb23]) <;> (repeat' with_reducible apply And.intro) <;> first | assumption | rfl | omega | (unfold maxLen; omega))) ?_
                    refine AO.segF tab_ok 7 (by decide) [(134, .bool (decide ((v0_7.1.length : Int) < s.1)))] [] (by (simp only [go_sem, hb2, hb6, hb10, hb18, hb22, hb23]) <;> (repeat' with_reducible apply And.intro) <;> first | assumption | rfl | omega | (unfold maxLen; omega)) ?_
                    rcases Bool.eq_false_or_eq_true (decide ((v0_7.1.length : Int) < s.1)) with hb24 | hb24
                    · rw [if_pos hb24] at h
                      refine AO.weaken (s' := ⟨fr [(134, .bool true)], hpGet [], gt⟩) (Wk.to (by (simp only [go_sem, hb2, hb6, hb10, hb18, hb22, hb23, hb24]) <;> (repeat' with_reducible apply And.intro) <;> first | assumption | rfl | omega | (unfold maxLen; omega))) ?_
                      obtain ⟨v0_12, hv25, h⟩ := Option.bind_eq_some_iff.1 h
                      refine AO.call tab_ok (by decide) rfl rfl rfl (fun _ h => ⟨fun _ => h, fun hn => absurd rfl hn⟩) [] [] (hc_lineallaw01_Awake hv25) rfl (by (simp only [go_sem, hb2, hb6, hb10, hb18, hb22, hb23, hb24]) <;> (repeat' with_reducible apply And.intro) <;> first | assumption | rfl | omega | (unfold maxLen; omega)) (by (simp only [go_sem, hb2, hb6, hb10, hb18, hb22, hb23, hb24]) <;> (repeat' with_reducible apply And.intro) <;> first | assumption | rfl | omega | (unfold maxLen; omega)) [(134, .bool true), (135, .bool v0_12)] [] (by (simp only [go_sem, hb2, hb6, hb10, hb18, hb22, hb23, hb24]) <;> (repeat' with_reducible apply And.intro) <;> first | assumption | rfl | omega | (unfold maxLen; omega)) ?_
                      refine AO.allF tab_ok (by decide) [(6, .bool v0_12)] [] (by (simp only [go_sem, hb2, hb6, hb10, hb18, hb22, hb23, hb24]) <;> (repeat' with_reducible apply And.intro) <;> first | assumption | rfl | omega | (unfold maxLen; omega)) ?_
                      refine athen_n ?_
                      refine AW.ret ?_
                      obtain rfl := Option.some.inj h
                      exact ⟨rfl, [], [], [], rfl, (by (simp only [go_sem, hb2, hb6, hb10, hb18, hb22, hb23, hb24]) <;> (repeat' with_reducible apply And.intro) <;> first | assumption | rfl | omega | (unfold maxLen; omega))⟩
                    · rw [if_neg (Bool.eq_false_iff.1 hb24)] at h
                      refine AO.weaken (s' := ⟨fr [(134, .bool false)], hpGet [], gt⟩) (Wk.to (by (simp only [go_sem, hb2, hb6, hb10, hb18, hb22, hb23, hb24]) <;> (repeat' with_reducible apply And.intro) <;> first | assumption | rfl | omega | (unfold maxLen; omega))) ?_
                      refine AO.allF tab_ok (by decide) [(6, .bool false)] [] (by (simp only [go_sem, hb2, hb6, hb10, hb18, hb22, hb23, hb24]) <;> (repeat' with_reducible apply And.intro) <;> first | assumption | rfl | omega | (unfold maxLen; omega)) ?_
                      refine athen_n ?_
                      refine AW.ret ?_
                      obtain rfl := Option.some.inj h
                      exact ⟨rfl, [], [], [], rfl, (by (simp only [go_sem, hb2, hb6, hb10, hb18, hb22, hb23, hb24]) <;> (repeat' with_reducible apply And.intro) <;> first | assumption | rfl | omega | (unfold maxLen; omega))⟩
                  · rw [if_neg (Bool.eq_false_iff.1 hb23)] at h
                    refine AO.weaken (s' := ⟨fr [(3, .bp 3 0), (8, .sl (.int .i64) v0_7.1), (127, .bool false)], hpGet [(3, .box 24 [.int .i64 s.1, .int .i64 s.2.1, .sl (.sl (.int .i64)) s.2.2.1, .sl (.sl (.int .i64)) s.2.2.2])], gt⟩) (Wk.to (by (simp only [go_sem, hb2, hb6, hb10, hb18, hb22, hb23]) <;> (repeat' with_reducible apply And.intro) <;> first | assumption | rfl | omega | (unfold maxLen; omega))) ?_
                    refine AO.segF tab_ok 4 (by decide) [(127, .bool false), (129, .cv (undef)), (131, .cv (undef))] [] (by (simp only [go_sem, hb2, hb6, hb10, hb18, hb22, hb23]) <;> (repeat' with_reducible apply And.intro) <;> first | assumption | rfl | omega | (unfold maxLen; omega)) ?_
                    refine AO.allF tab_ok (by decide) [(6, .bool false)] [] (by (simp only [go_sem, hb2, hb6, hb10, hb18, hb22, hb23]) <;> (repeat' with_reducible apply And.intro) <;> first | assumption | rfl | omega | (unfold maxLen; omega)) ?_
                    refine athen_n ?_
                    refine AW.ret ?_
                    obtain rfl := Option.some.inj h
                    exact ⟨rfl, [], [], [], rfl, (by (simp only [go_sem, hb2, hb6, hb10, hb18, hb22, hb23]) <;> (repeat' with_reducible apply And.intro) <;> first | assumption | rfl | omega | (unfold maxLen; omega))⟩
                · rw [if_neg (Bool.eq_false_iff.1 hb22)] at h
                  refine AO.weaken (s' := ⟨fr [(3, .bp 3 0), (7, .int .i64 (state % s.1)), (8, .sl (.int .i64) v0_7.1), (19, .int .i64 v0_11.2.1), (122, .bool false)], hpGet [(3, .box 24 [.int .i64 s.1, .int .i64 s.2.1, .sl (.sl (.int .i64)) s.2.2.1, .sl (.sl (.int .i64)) s.2.2.2])], gt⟩) (Wk.to (by (simp only [go_sem, hb2, hb6, hb10, hb18, hb22]) <;> (repeat' with_reducible apply And.intro) <;> first | assumption | rfl | omega | (unfold maxLen; omega))) ?_
                  refine AO.segF tab_ok 6 (by decide) [(3, .bp 3 0), (127, .bool false), (128, .cv (undef))] [(3, .box 24 [.int .i64 s.1, .int .i64 s.2.1, .sl (.sl (.int .i64)) s.2.2.1, .sl (.sl (.int .i64)) s.2.2.2])] (by (simp only [go_sem, hb2, hb6, hb10, hb18, hb22]) <;> (repeat' with_reducible apply And.intro) <;> first | assumption | rfl | omega | (unfold maxLen; omega)) ?_
                  refine AO.segF tab_ok 4 (by decide) [(127, .bool false), (132, .cv (undef))] [] (by (simp only [go_sem, hb2, hb6, hb10, hb18, hb22]) <;> (repeat' with_reducible apply And.intro) <;> first | assumption | rfl | omega | (unfold maxLen; omega)) ?_
                  refine AO.allF tab_ok (by decide) [(6, .bool false)] [] (by (simp only [go_sem, hb2, hb6, hb10, hb18, hb22]) <;> (repeat' with_reducible apply And.intro) <;> first | assumption | rfl | omega | (unfold maxLen; omega)) ?_
                  refine athen_n ?_
                  refine AW.ret ?_
                  obtain rfl := Option.some.inj h
                  exact ⟨rfl, [], [], [], rfl, (by (simp only [go_sem, hb2, hb6, hb10, hb18, hb22]) <;> (repeat' with_reducible apply And.intro) <;> first | assumption | rfl | omega | (unfold maxLen; omega))⟩
            · refine AW.seq ?_
              refine AW.seq ?_
              refine AW.ops ?_
              refine AO.segF tab_ok 5 (by decide) [(2, .sl (.int .i64) word), (3, .bp 3 0), (7, .int .i64 (state % s.1)), (8, .sl (.int .i64) v0_7.1), (13, .int .i64 v0_9.2.1), (15, .bool b2), (89, .bool ((b2 == (decide (v0_7.2 = 0))) != true))] [(3, .box 24 [.int .i64 s.1, .int .i64 s.2.1, .sl (.sl (.int .i64)) s.2.2.1, .sl (.sl (.int .i64)) s.2.2.2])] (by (simp only [go_sem, hb2, hb6, hb10]) <;> (repeat' with_reducible apply And.intro) <;> first | assumption | rfl | omega | (unfold maxLen; omega)) ?_
              rcases Bool.eq_false_or_eq_true ((b2 == (decide (v0_7.2 = 0))) != true) with hb26 | hb26
              · rw [if_pos hb26] at h
                refine AO.weaken (s' := ⟨fr [(2, .sl (.int .i64) word), (3, .bp 3 0), (7, .int .i64 (state % s.1)), (8, .sl (.int .i64) v0_7.1), (13, .int .i64 v0_9.2.1), (15, .bool b2), (89, .bool true)], hpGet [(3, .box 24 [.int .i64 s.1, .int .i64 s.2.1, .sl (.sl (.int .i64)) s.2.2.1, .sl (.sl (.int .i64)) s.2.2.2])], gt⟩) (Wk.to (by (simp only [go_sem, hb2, hb6, hb10, hb26]) <;> (repeat' with_reducible apply And.intro) <;> first | assumption | rfl | omega | (unfold maxLen; omega))) ?_
                refine AO.segF tab_ok 4 (by decide) [(2, .sl (.int .i64) word), (3, .bp 3 0), (7, .int .i64 (state % s.1)), (8, .sl (.int .i64) v0_7.1), (15, .bool b2), (89, .bool true), (93, .cv (undef))] [(3, .box 24 [.int .i64 s.1, .int .i64 s.2.1, .sl (.sl (.int .i64)) s.2.2.1, .sl (.sl (.int .i64)) s.2.2.2])] (by (simp only [go_sem, hb2, hb6, hb10, hb26]) <;> (repeat' with_reducible apply And.intro) <;> first | assumption | rfl | omega | (unfold maxLen; omega)) ?_
                refine AO.segF tab_ok 4 (by decide) [(3, .bp 3 0), (7, .int .i64 (state % s.1)), (8, .sl (.int .i64) v0_7.1), (15, .bool b2), (89, .bool true), (93, .cv (undef)), (96, .cv (undef)), (97, .cv (undef))] [(3, .box 24 [.int .i64 s.1, .int .i64 s.2.1, .sl (.sl (.int .i64)) s.2.2.1, .sl (.sl (.int .i64)) s.2.2.2])] (by (simp only [go_sem, hb2, hb6, hb10, hb26]) <;> (repeat' with_reducible apply And.intro) <;> first | assumption | rfl | omega | (unfold maxLen; omega)) ?_
                refine AO.segF tab_ok 4 (by decide) [(3, .bp 3 0), (7, .int .i64 (state % s.1)), (8, .sl (.int .i64) v0_7.1), (15, .bool b2), (89, .bool true), (93, .cv (undef)), (96, .cv (undef)), (101, .cv (undef))] [(3, .box 24 [.int .i64 s.1, .int .i64 s.2.1, .sl (.sl (.int .i64)) s.2.2.1, .sl (.sl (.int .i64)) s.2.2.2])] (by (simp only [go_sem, hb2, hb6, hb10, hb26]) <;> (repeat' with_reducible apply And.intro) <;> first | assumption | rfl | omega | (unfold maxLen; omega)) ?_
                refine AO.allF tab_ok (by decide) [(3, .bp 3 0), (7, .int .i64 (state % s.1)), (8, .sl (.int .i64) v0_7.1), (15, .bool b2), (104, .bool true)] [(3, .box 24 [.int .i64 s.1, .int .i64 s.2.1, .sl (.sl (.int .i64)) s.2.2.1, .sl (.sl (.int .i64)) s.2.2.2])] (by (simp only [go_sem, hb2, hb6, hb10, hb26]) <;> (repeat' with_reducible apply And.intro) <;> first | assumption | rfl | omega | (unfold maxLen; omega)) ?_
                refine athen_n ?_
                refine AW.cond (b := true) rfl (fun _ => ?_) (fun hb27 => by cases hb27)
                refine AW.seq ?_
                refine AW.ops ?_
                refine AO.allF tab_ok (by decide) [(6, .bool false)] [] (by (simp only [go_sem, hb2, hb6, hb10, hb26]) <;> (repeat' with_reducible apply And.intro) <;> first | assumption | rfl | omega | (unfold maxLen; omega)) ?_
                refine athen_n ?_
                refine AW.ret ?_
                refine athen_r ?_
                obtain rfl := Option.some.inj h
                exact ⟨rfl, [], [], [], rfl, (by (simp only [go_sem, hb2, hb6, hb10, hb26]) <;> (repeat' with_reducible apply And.intro) <;> first | assumption | rfl | omega | (unfold maxLen; omega))⟩
              · rw [if_neg (Bool.eq_false_iff.1 hb26)] at h
                refine AO.weaken (s' := ⟨fr [(2, .sl (.int .i64) word), (3, .bp 3 0), (7, .int .i64 (state % s.1)), (8, .sl (.int .i64) v0_7.1), (13, .int .i64 v0_9.2.1), (15, .bool b2), (89, .bool false)], hpGet [(3, .box 24 [.int .i64 s.1, .int .i64 s.2.1, .sl (.sl (.int .i64)) s.2.2.1, .sl (.sl (.int .i64)) s.2.2.2])], gt⟩) (Wk.to (by (simp only [go_sem, hb2, hb6, hb10, hb26]) <;> (repeat' with_reducible apply And.intro) <;> first | assumption | rfl | omega | (unfold maxLen; omega))) ?_
                refine AO.segF tab_ok 4 (by decide) [(2, .sl (.int .i64) word), (3, .bp 3 0), (7, .int .i64 (state % s.1)), (8, .sl (.int .i64) v0_7.1), (15, .bool b2), (89, .bool false), (93, .bool (decide (v0_9.2.1 = (state % s.1))))] [(3, .box 24 [.int .i64 s.1, .int .i64 s.2.1, .sl (.sl (.int .i64)) s.2.2.1, .sl (.sl (.int .i64)) s.2.2.2])] (by (simp only [go_sem, hb2, hb6, hb10, hb26]) <;> (repeat' with_reducible apply And.intro) <;> first | assumption | rfl | omega | (unfold maxLen; omega)) ?_
                rcases Bool.eq_false_or_eq_true (decide (v0_9.2.1 = (state % s.1))) with hb28 | hb28
                · rw [if_pos hb28] at h
                  refine AO.weaken (s' := ⟨fr [(2, .sl (.int .i64) word), (3, .bp 3 0), (7, .int .i64 (state % s.1)), (8, .sl (.int .i64) v0_7.1), (15, .bool b2), (89, .bool false), (93, .bool true)], hpGet [(3, .box 24 [.int .i64 s.1, .int .i64 s.2.1, .sl (.sl (.int .i64)) s.2.2.1, .sl (.sl (.int .i64)) s.2.2.2])], gt⟩) (Wk.to (by (simp only [go_sem, hb2, hb6, hb10, hb26, hb28]) <;> (repeat' with_reducible apply And.intro) <;> first | assumption | rfl | omega | (unfold maxLen; omega))) ?_
                  refine AO.segF tab_ok 3 (by decide) [(2, .sl (.int .i64) word), (3, .bp 3 0), (7, .int .i64 (state % s.1)), (8, .sl (.int .i64) v0_7.1), (15, .bool b2), (89, .bool false), (93, .bool true), (96, .bool (!b2))] [(3, .box 24 [.int .i64 s.1, .int .i64 s.2.1, .sl (.sl (.int .i64)) s.2.2.1, .sl (.sl (.int .i64)) s.2.2.2])] (by (simp only [go_sem, hb2, hb6, hb10, hb26, hb28]) <;> (repeat' with_reducible apply And.intro) <;> first | assumption | rfl | omega | (unfold maxLen; omega)) ?_
                  rcases Bool.eq_false_or_eq_true (!b2) with hb29 | hb29
                  · rw [if_pos hb29] at h
                    refine AO.weaken (s' := ⟨fr [(2, .sl (.int .i64) word), (3, .bp 3 0), (7, .int .i64 (state % s.1)), (8, .sl (.int .i64) v0_7.1), (15, .bool b2), (89, .bool false), (93, .bool true), (96, .bool true)], hpGet [(3, .box 24 [.int .i64 s.1, .int .i64 s.2.1, .sl (.sl (.int .i64)) s.2.2.1, .sl (.sl (.int .i64)) s.2.2.2])], gt⟩) (Wk.to (by (simp only [go_sem, hb2, hb6, hb10, hb26, hb28, hb29]) <;> (repeat' with_reducible apply And.intro) <;> first | assumption | rfl | omega | (unfold maxLen; omega))) ?_
                    refine AO.segF tab_ok 4 (by decide) [(3, .bp 3 0), (7, .int .i64 (state % s.1)), (8, .sl (.int .i64) v0_7.1), (15, .bool b2), (89, .bool false), (93, .bool true), (96, .bool true), (98, .cv (undef)), (100, .cv (undef))] [(3, .box 24 [.int .i64 s.1, .int .i64 s.2.1, .sl (.sl (.int .i64)) s.2.2.1, .sl (.sl (.int .i64)) s.2.2.2])] (by (simp only [go_sem, hb2, hb6, hb10, hb26, hb28, hb29]) <;> (repeat' with_reducible apply And.intro) <;> first | assumption | rfl | omega | (unfold maxLen; omega)) ?_
                    refine AO.allF tab_ok (by decide) [(3, .bp 3 0), (7, .int .i64 (state % s.1)), (8, .sl (.int .i64) v0_7.1), (15, .bool b2), (104, .bool true)] [(3, .box 24 [.int .i64 s.1, .int .i64 s.2.1, .sl (.sl (.int .i64)) s.2.2.1, .sl (.sl (.int .i64)) s.2.2.2])] (by (simp only [go_sem, hb2, hb6, hb10, hb26, hb28, hb29]) <;> (repeat' with_reducible apply And.intro) <;> first | assumption | rfl | omega | (unfold maxLen; omega)) ?_
                    refine athen_n ?_
                    refine AW.cond (b := true) rfl (fun _ => ?_) (fun hb30 => by cases hb30)
                    refine AW.seq ?_
                    refine AW.ops ?_
                    refine AO.allF tab_ok (by decide) [(6, .bool false)] [] (by (simp only [go_sem, hb2, hb6, hb10, hb26, hb28, hb29]) <;> (repeat' with_reducible apply And.intro) <;> first | assumption | rfl | omega | (unfold maxLen; omega)) ?_
                    refine athen_n ?_
                    refine AW.ret ?_
                    refine athen_r ?_
                    obtain rfl := Option.some.inj h
                    exact ⟨rfl, [], [], [], rfl, (by (simp only [go_sem, hb2, hb6, hb10, hb26, hb28, hb29]) <;> (repeat' with_reducible apply And.intro) <;> first | assumption | rfl | omega | (unfold maxLen; omega))⟩
                  · rw [if_neg (Bool.eq_false_iff.1 hb29)] at h
                    refine AO.weaken (s' := ⟨fr [(2, .sl (.int .i64) word), (3, .bp 3 0), (7, .int .i64 (state % s.1)), (8, .sl (.int .i64) v0_7.1), (15, .bool b2), (89, .bool false), (93, .bool true), (96, .bool false)], hpGet [(3, .box 24 [.int .i64 s.1, .int .i64 s.2.1, .sl (.sl (.int .i64)) s.2.2.1, .sl (.sl (.int .i64)) s.2.2.2])], gt⟩) (Wk.to (by (simp only [go_sem, hb2, hb6, hb10, hb26, hb28, hb29]) <;> (repeat' with_reducible apply And.intro) <;> first | assumption | rfl | omega | (unfold maxLen; omega))) ?_
                    refine AO.allF tab_ok (by decide) [(3, .bp 3 0), (7, .int .i64 (state % s.1)), (8, .sl (.int .i64) v0_7.1), (15, .bool b2), (104, .bool (decide ((word.length : Int) < (v0_7.1.length : Int))))] [(3, .box 24 [.int .i64 s.1, .int .i64 s.2.1, .sl (.sl (.int .i64)) s.2.2.1, .sl (.sl (.int .i64)) s.2.2.2])] (by (simp only [go_sem, hb2, hb6, hb10, hb26, hb28, hb29]) <;> (repeat' with_reducible apply And.intro) <;> first | assumption | rfl | omega | (unfold maxLen; omega)) ?_
                    refine athen_n ?_
                    refine AW.cond (b := (decide ((word.length : Int) < (v0_7.1.length : Int)))) rfl (fun hb31 => ?_) (fun hb31 => ?_)
                    · rw [if_pos hb31] at h
                      refine AW.seq ?_
                      refine AW.ops ?_
                      refine AO.allF tab_ok (by decide) [(6, .bool false)] [] (by (simp only [go_sem, hb2, hb6, hb10, hb26, hb28, hb29, hb31]) <;> (repeat' with_reducible apply And.intro) <;> first | assumption | rfl | omega | (unfold maxLen; omega)) ?_
                      refine athen_n ?_
                      refine AW.ret ?_
                      refine athen_r ?_
                      obtain rfl := Option.some.inj h
                      exact ⟨rfl, [], [], [], rfl, (by (simp only [go_sem, hb2, hb6, hb10, hb26, hb28, hb29, hb31]) <;> (repeat' with_reducible apply And.intro) <;> first | assumption | rfl | omega | (unfold maxLen; omega))⟩
                    · rw [if_neg (Bool.eq_false_iff.1 hb31)] at h
                      refine AW.skip ?_
                      refine athen_n ?_
                      exact AW.weaken (Wk.le [] [] [] rfl (by (simp only [go_sem, hb2, hb6, hb10, hb26, hb28, hb29, hb31]) <;> (repeat' with_reducible apply And.intro) <;> first | assumption | rfl | omega | (unfold maxLen; omega)) (by (simp only [go_sem, hb2, hb6, hb10, hb26, hb28, hb29, hb31]) <;> (repeat' with_reducible apply And.intro) <;> first | assumption | rfl | omega | (unfold maxLen; omega))) (hk_lineallaw01_SpecLed_k3 () h)
                · rw [if_neg (Bool.eq_false_iff.1 hb28)] at h
                  refine AO.weaken (s' := ⟨fr [(2, .sl (.int .i64) word), (3, .bp 3 0), (7, .int .i64 (state % s.1)), (8, .sl (.int .i64) v0_7.1), (15, .bool b2), (89, .bool false), (93, .bool false)], hpGet [(3, .box 24 [.int .i64 s.1, .int .i64 s.2.1, .sl (.sl (.int .i64)) s.2.2.1, .sl (.sl (.int .i64)) s.2.2.2])], gt⟩) (Wk.to (by (simp only [go_sem, hb2, hb6, hb10, hb26, hb28]) <;> (repeat' with_reducible apply And.intro) <;> first | assumption | rfl | omega | (unfold maxLen; omega))) ?_
                  refine AO.segF tab_ok 4 (by decide) [(3, .bp 3 0), (7, .int .i64 (state % s.1)), (8, .sl (.int .i64) v0_7.1), (15, .bool b2), (89, .bool false), (93, .bool false), (96, .cv (undef)), (97, .cv (undef))] [(3, .box 24 [.int .i64 s.1, .int .i64 s.2.1, .sl (.sl (.int .i64)) s.2.2.1, .sl (.sl (.int .i64)) s.2.2.2])] (by (simp only [go_sem, hb2, hb6, hb10, hb26, hb28]) <;> (repeat' with_reducible apply And.intro) <;> first | assumption | rfl | omega | (unfold maxLen; omega)) ?_
                  refine AO.segF tab_ok 4 (by decide) [(3, .bp 3 0), (7, .int .i64 (state % s.1)), (8, .sl (.int .i64) v0_7.1), (15, .bool b2), (89, .bool false), (93, .bool false), (96, .cv (undef)), (101, .cv (undef))] [(3, .box 24 [.int .i64 s.1, .int .i64 s.2.1, .sl (.sl (.int .i64)) s.2.2.1, .sl (.sl (.int .i64)) s.2.2.2])] (by (simp only [go_sem, hb2, hb6, hb10, hb26, hb28]) <;> (repeat' with_reducible apply And.intro) <;> first | assumption | rfl | omega | (unfold maxLen; omega)) ?_
                  refine AO.allF tab_ok (by decide) [(3, .bp 3 0), (7, .int .i64 (state % s.1)), (8, .sl (.int .i64) v0_7.1), (15, .bool b2), (104, .bool false)] [(3, .box 24 [.int .i64 s.1, .int .i64 s.2.1, .sl (.sl (.int .i64)) s.2.2.1, .sl (.sl (.int .i64)) s.2.2.2])] (by (simp only [go_sem, hb2, hb6, hb10, hb26, hb28]) <;> (repeat' with_reducible apply And.intro) <;> first | assumption | rfl | omega | (unfold maxLen; omega)) ?_
                  refine athen_n ?_
                  refine AW.cond (b := false) rfl (fun hb32 => by cases hb32) (fun _ => ?_)
                  refine AW.skip ?_
                  refine athen_n ?_
                  exact AW.weaken (Wk.le [] [] [] rfl (by (simp only [go_sem, hb2, hb6, hb10, hb26, hb28]) <;> (repeat' with_reducible apply And.intro) <;> first | assumption | rfl | omega | (unfold maxLen; omega)) (by (simp only [go_sem, hb2, hb6, hb10, hb26, hb28]) <;> (repeat' with_reducible apply And.intro) <;> first | assumption | rfl | omega | (unfold maxLen; omega))) (hk_lineallaw01_SpecLed_k3 () h)
          · refine AW.seq ?_
            refine AW.seq ?_
            refine AW.ops ?_
            refine AO.allF tab_ok (by decide) [(2, .sl (.int .i64) word), (3, .bp 3 0), (7, .int .i64 (state % s.1)), (8, .sl (.int .i64) v0_7.1), (9, .int .i64 v0_7.2), (13, .int .i64 v0_9.2.1), (15, .bool false), (72, .own 58000), (73, .int .i64 (v0_8.1.length : Int)), (74, .int .i64 0)] [(3, .box 24 [.int .i64 s.1, .int .i64 s.2.1, .sl (.sl (.int .i64)) s.2.2.1, .sl (.sl (.int .i64)) s.2.2.2]), (58000, .arr 3 (.int .i64) v0_8.1)] (by (simp only [go_sem, hb2, hb6, hb10]) <;> (repeat' with_reducible apply And.intro) <;> first | assumption | rfl | omega | (unfold maxLen; omega)) ?_
            refine athen_n ?_
            refine AW.block ?_
            obtain ⟨rv37, hw33, ho34⟩ := Option.bind_eq_some_iff.1 h
            refine AW.loopO (lineallaw01_SpecLed_b1 s state v0_8) (fun st1 => ⟨fr [(2, .sl (.int .i64) word), (3, .bp 3 0), (7, .int .i64 (state % s.1)), (8, .sl (.int .i64) v0_7.1), (9, .int .i64 v0_7.2), (13, .int .i64 v0_9.2.1), (15, .bool st1.1), (72, .own 58000), (73, .int .i64 (v0_8.1.length : Int)), (74, .int .i64 st1.2)], hpGet [(3, .box 24 [.int .i64 s.1, .int .i64 s.2.1, .sl (.sl (.int .i64)) s.2.2.1, .sl (.sl (.int .i64)) s.2.2.2]), (58000, .arr 3 (.int .i64) v0_8.1)], gt⟩) (false, 0) hw33 (Wk.le [] [] [] rfl (by (simp only [go_sem, hb2, hb6, hb10]) <;> (repeat' with_reducible apply And.intro) <;> first | assumption | rfl | omega | (unfold maxLen; omega)) (by (simp only [go_sem, hb2, hb6, hb10]) <;> (repeat' with_reducible apply And.intro) <;> first | assumption | rfl | omega | (unfold maxLen; omega))) ?_
            intro st1 x36 h hd35
            unfold lineallaw01_SpecLed_b1 at h
            refine AW.seq ?_
            refine AW.ops ?_
            refine AO.allF tab_ok (by decide) [(2, .sl (.int .i64) word), (3, .bp 3 0), (7, .int .i64 (state % s.1)), (8, .sl (.int .i64) v0_7.1), (9, .int .i64 v0_7.2), (13, .int .i64 v0_9.2.1), (15, .bool st1.1), (72, .own 58000), (73, .int .i64 (v0_8.1.length : Int)), (74, .int .i64 st1.2), (75, .bool (decide (st1.2 < (v0_8.1.length : Int))))] [(3, .box 24 [.int .i64 s.1, .int .i64 s.2.1, .sl (.sl (.int .i64)) s.2.2.1, .sl (.sl (.int .i64)) s.2.2.2]), (58000, .arr 3 (.int .i64) v0_8.1)] (by (simp only [go_sem, hb2, hb6, hb10]) <;> (repeat' with_reducible apply And.intro) <;> first | assumption | rfl | omega | (unfold maxLen; omega)) ?_
            refine athen_n ?_
            refine AW.seq ?_
            refine AW.cond (b := (decide (st1.2 < (v0_8.1.length : Int)))) rfl (fun hb38 => ?_) (fun hb38 => ?_)
            · rw [if_pos hb38] at h
              refine AW.skip ?_
              refine athen_n ?_
              refine AW.seq ?_
              refine AW.block ?_
              refine AW.seq ?_
              refine AW.ops ?_
              obtain ⟨c39, h⟩ := ck_some.1 h
              obtain ⟨c40, h⟩ := ck_some.1 h
              refine AO.allF tab_ok (by decide) [(2, .sl (.int .i64) word), (3, .bp 3 0), (7, .int .i64 (state % s.1)), (8, .sl (.int .i64) v0_7.1), (9, .int .i64 v0_7.2), (13, .int .i64 v0_9.2.1), (15, .bool st1.1), (17, .int .i64 (v0_8.1.getD st1.2.toNat 0)), (72, .own 58000), (73, .int .i64 (v0_8.1.length : Int)), (74, .int .i64 st1.2)] [(3, .box 24 [.int .i64 s.1, .int .i64 s.2.1, .sl (.sl (.int .i64)) s.2.2.1, .sl (.sl (.int .i64)) s.2.2.2]), (58000, .arr 3 (.int .i64) v0_8.1)] (by (simp only [go_sem, hb2, hb6, hb10, hb38]) <;> (repeat' with_reducible apply And.intro) <;> first | assumption | rfl | omega | (unfold maxLen; omega)) ?_
              refine athen_n ?_
              refine AW.ops ?_
              refine AO.segF tab_ok 2 (by decide) [(2, .sl (.int .i64) word), (3, .bp 3 0), (7, .int .i64 (state % s.1)), (8, .sl (.int .i64) v0_7.1), (9, .int .i64 v0_7.2), (13, .int .i64 v0_9.2.1), (17, .int .i64 (v0_8.1.getD st1.2.toNat 0)), (72, .own 58000), (73, .int .i64 (v0_8.1.length : Int)), (74, .int .i64 st1.2), (79, .bool st1.1)] [(3, .box 24 [.int .i64 s.1, .int .i64 s.2.1, .sl (.sl (.int .i64)) s.2.2.1, .sl (.sl (.int .i64)) s.2.2.2]), (58000, .arr 3 (.int .i64) v0_8.1)] (by (simp only [go_sem, hb2, hb6, hb10, hb38]) <;> (repeat' with_reducible apply And.intro) <;> first | assumption | rfl | omega | (unfold maxLen; omega)) ?_
              rcases Bool.eq_false_or_eq_true st1.1 with hb41 | hb41
              · rw [if_pos hb41] at h
                refine AO.weaken (s' := ⟨fr [(2, .sl (.int .i64) word), (3, .bp 3 0), (7, .int .i64 (state % s.1)), (8, .sl (.int .i64) v0_7.1), (9, .int .i64 v0_7.2), (13, .int .i64 v0_9.2.1), (17, .int .i64 (v0_8.1.getD st1.2.toNat 0)), (72, .own 58000), (73, .int .i64 (v0_8.1.length : Int)), (74, .int .i64 st1.2), (79, .bool true)], hpGet [(3, .box 24 [.int .i64 s.1, .int .i64 s.2.1, .sl (.sl (.int .i64)) s.2.2.1, .sl (.sl (.int .i64)) s.2.2.2]), (58000, .arr 3 (.int .i64) v0_8.1)], gt⟩) (Wk.to (by (simp only [go_sem, hb2, hb6, hb10, hb38, hb41]) <;> (repeat' with_reducible apply And.intro) <;> first | assumption | rfl | omega | (unfold maxLen; omega))) ?_
                refine AO.allF tab_ok (by decide) [(2, .sl (.int .i64) word), (3, .bp 3 0), (7, .int .i64 (state % s.1)), (8, .sl (.int .i64) v0_7.1), (9, .int .i64 v0_7.2), (13, .int .i64 v0_9.2.1), (15, .bool true), (72, .own 58000), (73, .int .i64 (v0_8.1.length : Int)), (74, .int .i64 st1.2)] [(3, .box 24 [.int .i64 s.1, .int .i64 s.2.1, .sl (.sl (.int .i64)) s.2.2.1, .sl (.sl (.int .i64)) s.2.2.2]), (58000, .arr 3 (.int .i64) v0_8.1)] (by (simp only [go_sem, hb2, hb6, hb10, hb38, hb41]) <;> (repeat' with_reducible apply And.intro) <;> first | assumption | rfl | omega | (unfold maxLen; omega)) ?_
                refine ablock_n ?_
                refine athen_n ?_
                refine AW.ops ?_
                obtain ⟨c42, h⟩ := ck_some.1 h
                refine AO.allF tab_ok (by decide) [(2, .sl (.int .i64) word), (3, .bp 3 0), (7, .int .i64 (state % s.1)), (8, .sl (.int .i64) v0_7.1), (9, .int .i64 v0_7.2), (13, .int .i64 v0_9.2.1), (15, .bool true), (72, .own 58000), (73, .int .i64 (v0_8.1.length : Int)), (74, .int .i64 (st1.2 + 1))] [(3, .box 24 [.int .i64 s.1, .int .i64 s.2.1, .sl (.sl (.int .i64)) s.2.2.1, .sl (.sl (.int .i64)) s.2.2.2]), (58000, .arr 3 (.int .i64) v0_8.1)] (by (simp only [go_sem, hb2, hb6, hb10, hb38, hb41]) <;> (repeat' with_reducible apply And.intro) <;> first | assumption | rfl | omega | (unfold maxLen; omega)) ?_
                obtain rfl := Option.some.inj h
                exact ⟨_, rfl, Wk.le [] [] [] rfl (by (simp only [go_sem, hb2, hb6, hb10, hb38, hb41]) <;> (repeat' with_reducible apply And.intro) <;> first | assumption | rfl | omega | (unfold maxLen; omega)) (by (simp only [go_sem, hb2, hb6, hb10, hb38, hb41]) <;> (repeat' with_reducible apply And.intro) <;> first | assumption | rfl | omega | (unfold maxLen; omega))⟩
              · rw [if_neg (Bool.eq_false_iff.1 hb41)] at h
                refine AO.weaken (s' := ⟨fr [(2, .sl (.int .i64) word), (3, .bp 3 0), (7, .int .i64 (state % s.1)), (8, .sl (.int .i64) v0_7.1), (9, .int .i64 v0_7.2), (13, .int .i64 v0_9.2.1), (17, .int .i64 (v0_8.1.getD st1.2.toNat 0)), (72, .own 58000), (73, .int .i64 (v0_8.1.length : Int)), (74, .int .i64 st1.2), (79, .bool false)], hpGet [(3, .box 24 [.int .i64 s.1, .int .i64 s.2.1, .sl (.sl (.int .i64)) s.2.2.1, .sl (.sl (.int .i64)) s.2.2.2]), (58000, .arr 3 (.int .i64) v0_8.1)], gt⟩) (Wk.to (by (simp only [go_sem, hb2, hb6, hb10, hb38, hb41]) <;> (repeat' with_reducible apply And.intro) <;> first | assumption | rfl | omega | (unfold maxLen; omega))) ?_
                refine AO.allF tab_ok (by decide) [(2, .sl (.int .i64) word), (3, .bp 3 0), (7, .int .i64 (state % s.1)), (8, .sl (.int .i64) v0_7.1), (9, .int .i64 v0_7.2), (13, .int .i64 v0_9.2.1), (15, .bool (decide ((state % s.1) = (v0_8.1.getD st1.2.toNat 0)))), (72, .own 58000), (73, .int .i64 (v0_8.1.length : Int)), (74, .int .i64 st1.2)] [(3, .box 24 [.int .i64 s.1, .int .i64 s.2.1, .sl (.sl (.int .i64)) s.2.2.1, .sl (.sl (.int .i64)) s.2.2.2]), (58000, .arr 3 (.int .i64) v0_8.1)] (by (simp only [go_sem, hb2, hb6, hb10, hb38, hb41]) <;> (repeat' with_reducible apply And.intro) <;> first | assumption | rfl | omega | (unfold maxLen; omega)) ?_
                refine ablock_n ?_
                refine athen_n ?_
                refine AW.ops ?_
                obtain ⟨c43, h⟩ := ck_some.1 h
                refine AO.allF tab_ok (by decide) [(2, .sl (.int .i64) word), (3, .bp 3 0), (7, .int .i64 (state % s.1)), (8, .sl (.int .i64) v0_7.1), (9, .int .i64 v0_7.2), (13, .int .i64 v0_9.2.1), (15, .bool (decide ((state % s.1) = (v0_8.1.getD st1.2.toNat 0)))), (72, .own 58000), (73, .int .i64 (v0_8.1.length : Int)), (74, .int .i64 (st1.2 + 1))] [(3, .box 24 [.int .i64 s.1, .int .i64 s.2.1, .sl (.sl (.int .i64)) s.2.2.1, .sl (.sl (.int .i64)) s.2.2.2]), (58000, .arr 3 (.int .i64) v0_8.1)] (by (simp only [go_sem, hb2, hb6, hb10, hb38, hb41]) <;> (repeat' with_reducible apply And.intro) <;> first | assumption | rfl | omega | (unfold maxLen; omega)) ?_
                obtain rfl := Option.some.inj h
                exact ⟨_, rfl, Wk.le [] [] [] rfl (by (simp only [go_sem, hb2, hb6, hb10, hb38, hb41]) <;> (repeat' with_reducible apply And.intro) <;> first | assumption | rfl | omega | (unfold maxLen; omega)) (by (simp only [go_sem, hb2, hb6, hb10, hb38, hb41]) <;> (repeat' with_reducible apply And.intro) <;> first | assumption | rfl | omega | (unfold maxLen; omega))⟩
            · rw [if_neg (Bool.eq_false_iff.1 hb38)] at h
              refine AW.exit ?_
              refine athen_e ?_
              obtain rfl := Option.some.inj h
              rw [← hd35 _ rfl] at ho34
              have h := ho34
              refine athen_e ?_
              refine ablock_s ?_
              refine athen_n ?_
              exact AW.weaken (Wk.le [] [] [] rfl (by (simp only [go_sem, hb2, hb6, hb10, hb38]) <;> (repeat' with_reducible apply And.intro) <;> first | assumption | rfl | omega | (unfold maxLen; omega)) (by (simp only [go_sem, hb2, hb6, hb10, hb38]) <;> (repeat' with_reducible apply And.intro) <;> first | assumption | rfl | omega | (unfold maxLen; omega))) (hk_lineallaw01_SpecLed_k2 _ h)
        · refine AW.seq ?_
          refine AW.seq ?_
          refine AW.ops ?_
          refine AO.segF tab_ok 3 (by decide) [(2, .sl (.int .i64) word), (3, .bp 3 0), (7, .int .i64 (state % s.1)), (8, .sl (.int .i64) v0_7.1), (9, .int .i64 v0_7.2), (10, .own 58000), (13, .int .i64 v0_9.2.1), (14, .int .i64 v0_9.2.2), (60, .bool (!(decide (v0_8.2 = 0))))] [(3, .box 24 [.int .i64 s.1, .int .i64 s.2.1, .sl (.sl (.int .i64)) s.2.2.1, .sl (.sl (.int .i64)) s.2.2.2]), (58000, .arr 3 (.int .i64) v0_8.1)] (by (simp only [go_sem, hb2, hb6, hb10]) <;> (repeat' with_reducible apply And.intro) <;> first | assumption | rfl | omega | (unfold maxLen; omega)) ?_
          rcases Bool.eq_false_or_eq_true (!(decide (v0_8.2 = 0))) with hb44 | hb44
          · rw [if_pos hb44] at h
            refine AO.weaken (s' := ⟨fr [(2, .sl (.int .i64) word), (3, .bp 3 0), (7, .int .i64 (state % s.1)), (8, .sl (.int .i64) v0_7.1), (9, .int .i64 v0_7.2), (10, .own 58000), (13, .int .i64 v0_9.2.1), (14, .int .i64 v0_9.2.2), (60, .bool true)], hpGet [(3, .box 24 [.int .i64 s.1, .int .i64 s.2.1, .sl (.sl (.int .i64)) s.2.2.1, .sl (.sl (.int .i64)) s.2.2.2]), (58000, .arr 3 (.int .i64) v0_8.1)], gt⟩) (Wk.to (by (simp only [go_sem, hb2, hb6, hb10, hb44]) <;> (repeat' with_reducible apply And.intro) <;> first | assumption | rfl | omega | (unfold maxLen; omega))) ?_
            refine AO.segF tab_ok 6 (by decide) [(2, .sl (.int .i64) word), (3, .bp 3 0), (7, .int .i64 (state % s.1)), (8, .sl (.int .i64) v0_7.1), (9, .int .i64 v0_7.2), (10, .own 58000), (13, .int .i64 v0_9.2.1), (64, .bool true), (66, .cv (undef))] [(3, .box 24 [.int .i64 s.1, .int .i64 s.2.1, .sl (.sl (.int .i64)) s.2.2.1, .sl (.sl (.int .i64)) s.2.2.2]), (58000, .arr 3 (.int .i64) v0_8.1)] (by (simp only [go_sem, hb2, hb6, hb10, hb44]) <;> (repeat' with_reducible apply And.intro) <;> first | assumption | rfl | omega | (unfold maxLen; omega)) ?_
            refine AO.segF tab_ok 4 (by decide) [(2, .sl (.int .i64) word), (3, .bp 3 0), (7, .int .i64 (state % s.1)), (8, .sl (.int .i64) v0_7.1), (9, .int .i64 v0_7.2), (10, .own 58000), (13, .int .i64 v0_9.2.1), (64, .bool true), (70, .cv (undef))] [(3, .box 24 [.int .i64 s.1, .int .i64 s.2.1, .sl (.sl (.int .i64)) s.2.2.1, .sl (.sl (.int .i64)) s.2.2.2]), (58000, .arr 3 (.int .i64) v0_8.1)] (by (simp only [go_sem, hb2, hb6, hb10, hb44]) <;> (repeat' with_reducible apply And.intro) <;> first | assumption | rfl | omega | (unfold maxLen; omega)) ?_
            refine AO.allF tab_ok (by decide) [(2, .sl (.int .i64) word), (3, .bp 3 0), (7, .int .i64 (state % s.1)), (8, .sl (.int .i64) v0_7.1), (9, .int .i64 v0_7.2), (10, .own 58000), (13, .int .i64 v0_9.2.1), (71, .bool true)] [(3, .box 24 [.int .i64 s.1, .int .i64 s.2.1, .sl (.sl (.int .i64)) s.2.2.1, .sl (.sl (.int .i64)) s.2.2.2]), (58000, .arr 3 (.int .i64) v0_8.1)] (by (simp only [go_sem, hb2, hb6, hb10, hb44]) <;> (repeat' with_reducible apply And.intro) <;> first | assumption | rfl | omega | (unfold maxLen; omega)) ?_
            refine athen_n ?_
            refine AW.cond (b := true) rfl (fun _ => ?_) (fun hb45 => by cases hb45)
            refine AW.seq ?_
            refine AW.ops ?_
            refine AO.allF tab_ok (by decide) [(6, .bool false)] [] (by (simp only [go_sem, hb2, hb6, hb10, hb44]) <;> (repeat' with_reducible apply And.intro) <;> first | assumption | rfl | omega | (unfold maxLen; omega)) ?_
            refine athen_n ?_
            refine AW.ret ?_
            refine athen_r ?_
            obtain rfl := Option.some.inj h
            exact ⟨rfl, [], [], [], rfl, (by (simp only [go_sem, hb2, hb6, hb10, hb44]) <;> (repeat' with_reducible apply And.intro) <;> first | assumption | rfl | omega | (unfold maxLen; omega))⟩
          · rw [if_neg (Bool.eq_false_iff.1 hb44)] at h
            refine AO.weaken (s' := ⟨fr [(2, .sl (.int .i64) word), (3, .bp 3 0), (7, .int .i64 (state % s.1)), (8, .sl (.int .i64) v0_7.1), (9, .int .i64 v0_7.2), (10, .own 58000), (13, .int .i64 v0_9.2.1), (14, .int .i64 v0_9.2.2), (60, .bool false)], hpGet [(3, .box 24 [.int .i64 s.1, .int .i64 s.2.1, .sl (.sl (.int .i64)) s.2.2.1, .sl (.sl (.int .i64)) s.2.2.2]), (58000, .arr 3 (.int .i64) v0_8.1)], gt⟩) (Wk.to (by (simp only [go_sem, hb2, hb6, hb10, hb44]) <;> (repeat' with_reducible apply And.intro) <;> first | assumption | rfl | omega | (unfold maxLen; omega))) ?_
            refine AO.segF tab_ok 4 (by decide) [(2, .sl (.int .i64) word), (3, .bp 3 0), (7, .int .i64 (state % s.1)), (8, .sl (.int .i64) v0_7.1), (9, .int .i64 v0_7.2), (10, .own 58000), (13, .int .i64 v0_9.2.1), (64, .bool (!(decide (v0_9.2.2 = 0))))] [(3, .box 24 [.int .i64 s.1, .int .i64 s.2.1, .sl (.sl (.int .i64)) s.2.2.1, .sl (.sl (.int .i64)) s.2.2.2]), (58000, .arr 3 (.int .i64) v0_8.1)] (by (simp only [go_sem, hb2, hb6, hb10, hb44]) <;> (repeat' with_reducible apply And.intro) <;> first | assumption | rfl | omega | (unfold maxLen; omega)) ?_
            rcases Bool.eq_false_or_eq_true (!(decide (v0_9.2.2 = 0))) with hb46 | hb46
            · rw [if_pos hb46] at h
              refine AO.weaken (s' := ⟨fr [(2, .sl (.int .i64) word), (3, .bp 3 0), (7, .int .i64 (state % s.1)), (8, .sl (.int .i64) v0_7.1), (9, .int .i64 v0_7.2), (10, .own 58000), (13, .int .i64 v0_9.2.1), (64, .bool true)], hpGet [(3, .box 24 [.int .i64 s.1, .int .i64 s.2.1, .sl (.sl (.int .i64)) s.2.2.1, .sl (.sl (.int .i64)) s.2.2.2]), (58000, .arr 3 (.int .i64) v0_8.1)], gt⟩) (Wk.to (by (simp only [go_sem, hb2, hb6, hb10, hb44, hb46]) <;> (repeat' with_reducible apply And.intro) <;> first | assumption | rfl | omega | (unfold maxLen; omega))) ?_
              refine AO.segF tab_ok 4 (by decide) [(2, .sl (.int .i64) word), (3, .bp 3 0), (7, .int .i64 (state % s.1)), (8, .sl (.int .i64) v0_7.1), (9, .int .i64 v0_7.2), (10, .own 58000), (13, .int .i64 v0_9.2.1), (64, .bool true), (67, .cv (undef)), (68, .cv (undef))] [(3, .box 24 [.int .i64 s.1, .int .i64 s.2.1, .sl (.sl (.int .i64)) s.2.2.1, .sl (.sl (.int .i64)) s.2.2.2]), (58000, .arr 3 (.int .i64) v0_8.1)] (by (simp only [go_sem, hb2, hb6, hb10, hb44, hb46]) <;> (repeat' with_reducible apply And.intro) <;> first | assumption | rfl | omega | (unfold maxLen; omega)) ?_
              refine AO.allF tab_ok (by decide) [(2, .sl (.int .i64) word), (3, .bp 3 0), (7, .int .i64 (state % s.1)), (8, .sl (.int .i64) v0_7.1), (9, .int .i64 v0_7.2), (10, .own 58000), (13, .int .i64 v0_9.2.1), (71, .bool true)] [(3, .box 24 [.int .i64 s.1, .int .i64 s.2.1, .sl (.sl (.int .i64)) s.2.2.1, .sl (.sl (.int .i64)) s.2.2.2]), (58000, .arr 3 (.int .i64) v0_8.1)] (by (simp only [go_sem, hb2, hb6, hb10, hb44, hb46]) <;> (repeat' with_reducible apply And.intro) <;> first | assumption | rfl | omega | (unfold maxLen; omega)) ?_
              refine athen_n ?_
              refine AW.cond (b := true) rfl (fun _ => ?_) (fun hb47 => by cases hb47)
              refine AW.seq ?_
              refine AW.ops ?_
              refine AO.allF tab_ok (by decide) [(6, .bool false)] [] (by (simp only [go_sem, hb2, hb6, hb10, hb44, hb46]) <;> (repeat' with_reducible apply And.intro) <;> first | assumption | rfl | omega | (unfold maxLen; omega)) ?_
              refine athen_n ?_
              refine AW.ret ?_
              refine athen_r ?_
              obtain rfl := Option.some.inj h
              exact ⟨rfl, [], [], [], rfl, (by (simp only [go_sem, hb2, hb6, hb10, hb44, hb46]) <;> (repeat' with_reducible apply And.intro) <;> first | assumption | rfl | omega | (unfold maxLen; omega))⟩
            · rw [if_neg (Bool.eq_false_iff.1 hb46)] at h
              refine AO.weaken (s' := ⟨fr [(2, .sl (.int .i64) word), (3, .bp 3 0), (7, .int .i64 (state % s.1)), (8, .sl (.int .i64) v0_7.1), (9, .int .i64 v0_7.2), (10, .own 58000), (13, .int .i64 v0_9.2.1), (64, .bool false)], hpGet [(3, .box 24 [.int .i64 s.1, .int .i64 s.2.1, .sl (.sl (.int .i64)) s.2.2.1, .sl (.sl (.int .i64)) s.2.2.2]), (58000, .arr 3 (.int .i64) v0_8.1)], gt⟩) (Wk.to (by (simp only [go_sem, hb2, hb6, hb10, hb44, hb46]) <;> (repeat' with_reducible apply And.intro) <;> first | assumption | rfl | omega | (unfold maxLen; omega))) ?_
              refine AO.segF tab_ok 3 (by decide) [(2, .sl (.int .i64) word), (3, .bp 3 0), (7, .int .i64 (state % s.1)), (8, .sl (.int .i64) v0_7.1), (9, .int .i64 v0_7.2), (10, .own 58000), (13, .int .i64 v0_9.2.1), (64, .bool false), (67, .bool (!(decide (v0_7.2 = 0))))] [(3, .box 24 [.int .i64 s.1, .int .i64 s.2.1, .sl (.sl (.int .i64)) s.2.2.1, .sl (.sl (.int .i64)) s.2.2.2]), (58000, .arr 3 (.int .i64) v0_8.1)] (by (simp only [go_sem, hb2, hb6, hb10, hb44, hb46]) <;> (repeat' with_reducible apply And.intro) <;> first | assumption | rfl | omega | (unfold maxLen; omega)) ?_
              rcases Bool.eq_false_or_eq_true (!(decide (v0_7.2 = 0))) with hb48 | hb48
              · rw [if_pos hb48] at h
                refine AO.weaken (s' := ⟨fr [(2, .sl (.int .i64) word), (3, .bp 3 0), (7, .int .i64 (state % s.1)), (8, .sl (.int .i64) v0_7.1), (9, .int .i64 v0_7.2), (10, .own 58000), (13, .int .i64 v0_9.2.1), (64, .bool false), (67, .bool true)], hpGet [(3, .box 24 [.int .i64 s.1, .int .i64 s.2.1, .sl (.sl (.int .i64)) s.2.2.1, .sl (.sl (.int .i64)) s.2.2.2]), (58000, .arr 3 (.int .i64) v0_8.1)], gt⟩) (Wk.to (by (simp only [go_sem, hb2, hb6, hb10, hb44, hb46, hb48]) <;> (repeat' with_reducible apply And.intro) <;> first | assumption | rfl | omega | (unfold maxLen; omega))) ?_
                refine AO.allF tab_ok (by decide) [(2, .sl (.int .i64) word), (3, .bp 3 0), (7, .int .i64 (state % s.1)), (8, .sl (.int .i64) v0_7.1), (9, .int .i64 v0_7.2), (10, .own 58000), (13, .int .i64 v0_9.2.1), (71, .bool (!(decide (v0_7.2 = 5))))] [(3, .box 24 [.int .i64 s.1, .int .i64 s.2.1, .sl (.sl (.int .i64)) s.2.2.1, .sl (.sl (.int .i64)) s.2.2.2]), (58000, .arr 3 (.int .i64) v0_8.1)] (by (simp only [go_sem, hb2, hb6, hb10, hb44, hb46, hb48]) <;> (repeat' with_reducible apply And.intro) <;> first | assumption | rfl | omega | (unfold maxLen; omega)) ?_
                refine athen_n ?_
                refine AW.cond (b := (!(decide (v0_7.2 = 5)))) rfl (fun hb49 => ?_) (fun hb49 => ?_)
                · rw [if_pos hb49] at h
                  refine AW.seq ?_
                  refine AW.ops ?_
                  refine AO.allF tab_ok (by decide) [(6, .bool false)] [] (by (simp only [go_sem, hb2, hb6, hb10, hb44, hb46, hb48, hb49]) <;> (repeat' with_reducible apply And.intro) <;> first | assumption | rfl | omega | (unfold maxLen; omega)) ?_
                  refine athen_n ?_
                  refine AW.ret ?_
                  refine athen_r ?_
                  obtain rfl := Option.some.inj h
                  exact ⟨rfl, [], [], [], rfl, (by (simp only [go_sem, hb2, hb6, hb10, hb44, hb46, hb48, hb49]) <;> (repeat' with_reducible apply And.intro) <;> first | assumption | rfl | omega | (unfold maxLen; omega))⟩
                · rw [if_neg (Bool.eq_false_iff.1 hb49)] at h
                  refine AW.skip ?_
                  refine athen_n ?_
                  refine AW.seq ?_
                  refine AW.ops ?_
                  refine AO.allF tab_ok (by decide) [(2, .sl (.int .i64) word), (3, .bp 3 0), (7, .int .i64 (state % s.1)), (8, .sl (.int .i64) v0_7.1), (9, .int .i64 v0_7.2), (10, .own 58000), (13, .int .i64 v0_9.2.1), (15, .bool false)] [(3, .box 24 [.int .i64 s.1, .int .i64 s.2.1, .sl (.sl (.int .i64)) s.2.2.1, .sl (.sl (.int .i64)) s.2.2.2]), (58000, .arr 3 (.int .i64) v0_8.1)] (by (simp only [go_sem, hb2, hb6, hb10, hb44, hb46, hb48, hb49]) <;> (repeat' with_reducible apply And.intro) <;> first | assumption | rfl | omega | (unfold maxLen; omega)) ?_
                  refine athen_n ?_
                  exact AW.weaken (Wk.le [] [] [] rfl (by (simp only [go_sem, hb2, hb6, hb10, hb44, hb46, hb48, hb49]) <;> (repeat' with_reducible apply And.intro) <;> first | assumption | rfl | omega | (unfold maxLen; omega)) (by (simp only [go_sem, hb2, hb6, hb10, hb44, hb46, hb48, hb49]) <;> (repeat' with_reducible apply And.intro) <;> first | assumption | rfl | omega | (unfold maxLen; omega))) (hk_lineallaw01_SpecLed_k1 () h)
              · rw [if_neg (Bool.eq_false_iff.1 hb48)] at h
                refine AO.weaken (s' := ⟨fr [(2, .sl (.int .i64) word), (3, .bp 3 0), (7, .int .i64 (state % s.1)), (8, .sl (.int .i64) v0_7.1), (9, .int .i64 v0_7.2), (10, .own 58000), (13, .int .i64 v0_9.2.1), (64, .bool false), (67, .bool false)], hpGet [(3, .box 24 [.int .i64 s.1, .int .i64 s.2.1, .sl (.sl (.int .i64)) s.2.2.1, .sl (.sl (.int .i64)) s.2.2.2]), (58000, .arr 3 (.int .i64) v0_8.1)], gt⟩) (Wk.to (by (simp only [go_sem, hb2, hb6, hb10, hb44, hb46, hb48]) <;> (repeat' with_reducible apply And.intro) <;> first | assumption | rfl | omega | (unfold maxLen; omega))) ?_
                refine AO.allF tab_ok (by decide) [(2, .sl (.int .i64) word), (3, .bp 3 0), (7, .int .i64 (state % s.1)), (8, .sl (.int .i64) v0_7.1), (9, .int .i64 v0_7.2), (10, .own 58000), (13, .int .i64 v0_9.2.1), (71, .bool false)] [(3, .box 24 [.int .i64 s.1, .int .i64 s.2.1, .sl (.sl (.int .i64)) s.2.2.1, .sl (.sl (.int .i64)) s.2.2.2]), (58000, .arr 3 (.int .i64) v0_8.1)] (by (simp only [go_sem, hb2, hb6, hb10, hb44, hb46, hb48]) <;> (repeat' with_reducible apply And.intro) <;> first | assumption | rfl | omega | (unfold maxLen; omega)) ?_
                refine athen_n ?_
                refine AW.cond (b := false) rfl (fun hb50 => by cases hb50) (fun _ => ?_)
                refine AW.skip ?_
                refine athen_n ?_
                refine AW.seq ?_
                refine AW.ops ?_
                refine AO.allF tab_ok (by decide) [(2, .sl (.int .i64) word), (3, .bp 3 0), (7, .int .i64 (state % s.1)), (8, .sl (.int .i64) v0_7.1), (9, .int .i64 v0_7.2), (10, .own 58000), (13, .int .i64 v0_9.2.1), (15, .bool false)] [(3, .box 24 [.int .i64 s.1, .int .i64 s.2.1, .sl (.sl (.int .i64)) s.2.2.1, .sl (.sl (.int .i64)) s.2.2.2]), (58000, .arr 3 (.int .i64) v0_8.1)] (by (simp only [go_sem, hb2, hb6, hb10, hb44, hb46, hb48]) <;> (repeat' with_reducible apply And.intro) <;> first | assumption | rfl | omega | (unfold maxLen; omega)) ?_
                refine athen_n ?_
                exact AW.weaken (Wk.le [] [] [] rfl (by (simp only [go_sem, hb2, hb6, hb10, hb44, hb46, hb48]) <;> (repeat' with_reducible apply And.intro) <;> first | assumption | rfl | omega | (unfold maxLen; omega)) (by (simp only [go_sem, hb2, hb6, hb10, hb44, hb46, hb48]) <;> (repeat' with_reducible apply And.intro) <;> first | assumption | rfl | omega | (unfold maxLen; omega))) (hk_lineallaw01_SpecLed_k1 () h)

end Go.Proofs.Ytmcgmlcfogdioaa
