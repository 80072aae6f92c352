/-
  Made by wip/tool/dc.py out of the print of the program: contracts.
-/
import Derived.Test.YtmcgmlcfogdioaaQp
import Derived.Test.YtmcgmlcfogdioaaTb
import Derived.Test.YtmcgmlcfogdioaaMc3
import Derived.Test.YtmcgmlcfogdioaaMc4
import Derived.Test.YtmcgmlcfogdioaaMc5
namespace Go.Proofs.Ytmcgmlcfogdioaa
open Go.RowKit

set_option linter.unusedSimpArgs false
set_option linter.unusedVariables false
set_option linter.constructorNameAsVariable false

set_option maxRecDepth 100000 in
set_option maxHeartbeats 2000000 in
theorem hc_lineallaw01_SpecCommutes (s : Int × Int × (List (List Int)) × (List (List Int))) (state : Int) (x0 : Int) (y : Int) {r : Bool} (h : lineallaw01_SpecCommutes s state x0 y = some r) : HC Try.prog 12 [] [.agg [.int .i64 s.1, .int .i64 s.2.1, .sl (.sl (.int .i64)) s.2.2.1, .sl (.sl (.int .i64)) s.2.2.2], .int .u8 state, .int .u8 x0, .int .u8 y] [] (.bool r) := by
  unfold lineallaw01_SpecCommutes at h
  refine HC.of_body tab_ok (res := [.tmp 8]) Try.func12 rfl (by kernel_rfl) rfl (nt := 231) rfl (by decide) (by simp) ?_
  refine AW.seq ?_
  refine AW.ops ?_
  refine AO.allF tab_ok (by decide) [(1, .int .u8 state), (2, .int .u8 x0), (3, .int .u8 y), (4, .bp 4 0)] [(4, .box 24 [.int .i64 s.1, .int .i64 s.2.1, .sl (.sl (.int .i64)) s.2.2.1, .sl (.sl (.int .i64)) s.2.2.2])] (by (simp only [go_sem]) <;> (repeat' with_reducible apply And.intro) <;> first | assumption | rfl | omega | (unfold maxLen; omega)) ?_
  refine athen_n ?_
  refine AW.seq ?_
  refine AW.seq ?_
  refine AW.ops ?_
  refine AO.segF tab_ok 1 (by decide) [(1, .int .u8 state), (2, .int .u8 x0), (3, .int .u8 y), (4, .bp 4 0), (33, .agg [.int .i64 s.1, .int .i64 s.2.1, .sl (.sl (.int .i64)) s.2.2.1, .sl (.sl (.int .i64)) s.2.2.2])] [(4, .box 24 [.int .i64 s.1, .int .i64 s.2.1, .sl (.sl (.int .i64)) s.2.2.1, .sl (.sl (.int .i64)) s.2.2.2])] (by (simp only [go_sem]) <;> (repeat' with_reducible apply And.intro) <;> first | assumption | rfl | omega | (unfold maxLen; omega)) ?_
  obtain ⟨v0, hv1, h⟩ := Option.bind_eq_some_iff.1 h
  refine AO.call tab_ok (by decide) rfl rfl rfl (fun _ h => h) [] [] (hc_lineallaw01_Long s hv1) rfl (by (simp only [go_sem]) <;> (repeat' with_reducible apply And.intro) <;> first | assumption | rfl | omega | (unfold maxLen; omega)) (by (simp only [go_sem]) <;> (repeat' with_reducible apply And.intro) <;> first | assumption | rfl | omega | (unfold maxLen; omega)) [(1, .int .u8 state), (2, .int .u8 x0), (3, .int .u8 y), (4, .bp 4 0), (34, .bool v0)] [(4, .box 24 [.int .i64 s.1, .int .i64 s.2.1, .sl (.sl (.int .i64)) s.2.2.1, .sl (.sl (.int .i64)) s.2.2.2])] (by (simp only [go_sem]) <;> (repeat' with_reducible apply And.intro) <;> first | assumption | rfl | omega | (unfold maxLen; omega)) ?_
  refine AO.segF tab_ok 1 (by decide) [(1, .int .u8 state), (2, .int .u8 x0), (3, .int .u8 y), (4, .bp 4 0), (35, .bool v0)] [(4, .box 24 [.int .i64 s.1, .int .i64 s.2.1, .sl (.sl (.int .i64)) s.2.2.1, .sl (.sl (.int .i64)) s.2.2.2])] (by (simp only [go_sem]) <;> (repeat' with_reducible apply And.intro) <;> first | assumption | rfl | omega | (unfold maxLen; omega)) ?_
  rcases Bool.eq_false_or_eq_true v0 with hb2 | hb2
  · rw [if_pos hb2] at h
    refine AO.weaken (s' := ⟨fr [(1, .int .u8 state), (2, .int .u8 x0), (3, .int .u8 y), (4, .bp 4 0), (35, .bool true)], hpGet [(4, .box 24 [.int .i64 s.1, .int .i64 s.2.1, .sl (.sl (.int .i64)) s.2.2.1, .sl (.sl (.int .i64)) s.2.2.2])], gt⟩) (Wk.to (by (simp only [go_sem, hb2]) <;> (repeat' with_reducible apply And.intro) <;> first | assumption | rfl | omega | (unfold maxLen; omega))) ?_
    refine AO.allF tab_ok (by decide) [(1, .int .u8 state), (2, .int .u8 x0), (3, .int .u8 y), (4, .bp 4 0), (39, .bool true)] [(4, .box 24 [.int .i64 s.1, .int .i64 s.2.1, .sl (.sl (.int .i64)) s.2.2.1, .sl (.sl (.int .i64)) s.2.2.2])] (by (simp only [go_sem, hb2]) <;> (repeat' with_reducible apply And.intro) <;> first | assumption | rfl | omega | (unfold maxLen; omega)) ?_
    refine athen_n ?_
    refine AW.cond (b := true) rfl (fun _ => ?_) (fun hb3 => by cases hb3)
    refine AW.seq ?_
    refine AW.ops ?_
    obtain ⟨v0_2, hv4, h⟩ := Option.bind_eq_some_iff.1 h
    refine AO.call tab_ok (by decide) rfl rfl rfl (fun _ h => h) [] [] (hc_lineallaw01_Awake hv4) rfl (by (simp only [go_sem, hb2]) <;> (repeat' with_reducible apply And.intro) <;> first | assumption | rfl | omega | (unfold maxLen; omega)) (by (simp only [go_sem, hb2]) <;> (repeat' with_reducible apply And.intro) <;> first | assumption | rfl | omega | (unfold maxLen; omega)) [(40, .bool v0_2)] [] (by (simp only [go_sem, hb2]) <;> (repeat' with_reducible apply And.intro) <;> first | assumption | rfl | omega | (unfold maxLen; omega)) ?_
    refine AO.allF tab_ok (by decide) [(8, .bool v0_2)] [] (by (simp only [go_sem, hb2]) <;> (repeat' with_reducible apply And.intro) <;> first | assumption | rfl | omega | (unfold maxLen; omega)) ?_
    refine athen_n ?_
    refine AW.ret ?_
    refine athen_r ?_
    obtain rfl := Option.some.inj h
    exact ⟨rfl, [], [], [], rfl, (by (simp only [go_sem, hb2]) <;> (repeat' with_reducible apply And.intro) <;> first | assumption | rfl | omega | (unfold maxLen; omega))⟩
  · rw [if_neg (Bool.eq_false_iff.1 hb2)] at h
    refine AO.weaken (s' := ⟨fr [(1, .int .u8 state), (2, .int .u8 x0), (3, .int .u8 y), (4, .bp 4 0), (35, .bool false)], hpGet [(4, .box 24 [.int .i64 s.1, .int .i64 s.2.1, .sl (.sl (.int .i64)) s.2.2.1, .sl (.sl (.int .i64)) s.2.2.2])], gt⟩) (Wk.to (by (simp only [go_sem, hb2]) <;> (repeat' with_reducible apply And.intro) <;> first | assumption | rfl | omega | (unfold maxLen; omega))) ?_
    refine AO.segF tab_ok 1 (by decide) [(1, .int .u8 state), (2, .int .u8 x0), (3, .int .u8 y), (4, .bp 4 0), (35, .bool false), (36, .agg [.int .i64 s.1, .int .i64 s.2.1, .sl (.sl (.int .i64)) s.2.2.1, .sl (.sl (.int .i64)) s.2.2.2])] [(4, .box 24 [.int .i64 s.1, .int .i64 s.2.1, .sl (.sl (.int .i64)) s.2.2.1, .sl (.sl (.int .i64)) s.2.2.2])] (by (simp only [go_sem, hb2]) <;> (repeat' with_reducible apply And.intro) <;> first | assumption | rfl | omega | (unfold maxLen; omega)) ?_
    obtain ⟨v0_3, hv5, h⟩ := Option.bind_eq_some_iff.1 h
    refine AO.call tab_ok (by decide) rfl rfl rfl (fun _ h => ⟨fun _ => h, fun hn => absurd rfl hn⟩) [] [] (hc_linealref01_Valid s hv5) rfl (by (simp only [go_sem, hb2]) <;> (repeat' with_reducible apply And.intro) <;> first | assumption | rfl | omega | (unfold maxLen; omega)) (by (simp only [go_sem, hb2]) <;> (repeat' with_reducible apply And.intro) <;> first | assumption | rfl | omega | (unfold maxLen; omega)) [(1, .int .u8 state), (2, .int .u8 x0), (3, .int .u8 y), (4, .bp 4 0), (35, .bool false), (37, .bool v0_3)] [(4, .box 24 [.int .i64 s.1, .int .i64 s.2.1, .sl (.sl (.int .i64)) s.2.2.1, .sl (.sl (.int .i64)) s.2.2.2])] (by (simp only [go_sem, hb2]) <;> (repeat' with_reducible apply And.intro) <;> first | assumption | rfl | omega | (unfold maxLen; omega)) ?_
    refine AO.allF tab_ok (by decide) [(1, .int .u8 state), (2, .int .u8 x0), (3, .int .u8 y), (4, .bp 4 0), (39, .bool (!v0_3))] [(4, .box 24 [.int .i64 s.1, .int .i64 s.2.1, .sl (.sl (.int .i64)) s.2.2.1, .sl (.sl (.int .i64)) s.2.2.2])] (by (simp only [go_sem, hb2]) <;> (repeat' with_reducible apply And.intro) <;> first | assumption | rfl | omega | (unfold maxLen; omega)) ?_
    refine athen_n ?_
    refine AW.cond (b := (!v0_3)) rfl (fun hb6 => ?_) (fun hb6 => ?_)
    · rw [if_pos hb6] at h
      refine AW.seq ?_
      refine AW.ops ?_
      obtain ⟨v0_4, hv7, h⟩ := Option.bind_eq_some_iff.1 h
      refine AO.call tab_ok (by decide) rfl rfl rfl (fun _ h => h) [] [] (hc_lineallaw01_Awake hv7) rfl (by (simp only [go_sem, hb2, hb6]) <;> (repeat' with_reducible apply And.intro) <;> first | assumption | rfl | omega | (unfold maxLen; omega)) (by (simp only [go_sem, hb2, hb6]) <;> (repeat' with_reducible apply And.intro) <;> first | assumption | rfl | omega | (unfold maxLen; omega)) [(40, .bool v0_4)] [] (by (simp only [go_sem, hb2, hb6]) <;> (repeat' with_reducible apply And.intro) <;> first | assumption | rfl | omega | (unfold maxLen; omega)) ?_
      refine AO.allF tab_ok (by decide) [(8, .bool v0_4)] [] (by (simp only [go_sem, hb2, hb6]) <;> (repeat' with_reducible apply And.intro) <;> first | assumption | rfl | omega | (unfold maxLen; omega)) ?_
      refine athen_n ?_
      refine AW.ret ?_
      refine athen_r ?_
      obtain rfl := Option.some.inj h
      exact ⟨rfl, [], [], [], rfl, (by (simp only [go_sem, hb2, hb6]) <;> (repeat' with_reducible apply And.intro) <;> first | assumption | rfl | omega | (unfold maxLen; omega))⟩
    · rw [if_neg (Bool.eq_false_iff.1 hb6)] at h
      refine AW.skip ?_
      refine athen_n ?_
      refine AW.seq ?_
      refine AW.draw tab_ok mixed_ok [] [] (by decide) (by kernel_rfl) ?_
      obtain ⟨c9, h⟩ := ck_some.1 h
      obtain ⟨c10, h⟩ := ck_some.1 h
      obtain ⟨c11, h⟩ := ck_some.1 h
      refine adops_cut 6 (fun K' hK8 => ?_)
      try dsimp only [List.drop_succ_cons, List.drop_zero, List.take_succ_cons, List.take_zero]
      simp only [go_sem, hb2, hb6]
      repeat (with_reducible refine And.intro (by first | assumption | rfl | omega | trivial | (unfold maxLen; omega)) ?_)
      refine hK8 _ ?_
      obtain ⟨c13, h⟩ := ck_some.1 h
      obtain ⟨c14, h⟩ := ck_some.1 h
      obtain ⟨c15, h⟩ := ck_some.1 h
      refine adops_cut 6 (fun K' hK12 => ?_)
      try dsimp only [List.drop_succ_cons, List.drop_zero, List.take_succ_cons, List.take_zero]
      simp only [go_sem, hb2, hb6]
      repeat (with_reducible refine And.intro (by first | assumption | rfl | omega | trivial | (unfold maxLen; omega)) ?_)
      refine hK12 _ ?_
      refine adops_nil ?_
      refine athen_n ?_
      refine AW.weaken (s' := ⟨fr [(1, .int .u8 state), (4, .bp 4 0), (9, .int .i64 (x0 % s.2.1)), (10, .int .i64 (y % s.2.1))], hpGet [(4, .box 24 [.int .i64 s.1, .int .i64 s.2.1, .sl (.sl (.int .i64)) s.2.2.1, .sl (.sl (.int .i64)) s.2.2.2])], gt⟩) (Wk.to (by (simp only [go_sem, hb2, hb6]) <;> (repeat' with_reducible apply And.intro) <;> first | assumption | rfl | omega | (unfold maxLen; omega))) ?_
      refine AW.seq ?_
      refine AW.ops ?_
      obtain ⟨c16, h⟩ := ck_some.1 h
      obtain ⟨c17, h⟩ := ck_some.1 h
      obtain ⟨c18, h⟩ := ck_some.1 h
      refine AO.allF tab_ok (by decide) [(4, .bp 4 0), (9, .int .i64 (x0 % s.2.1)), (10, .int .i64 (y % s.2.1)), (11, .int .i64 (state % s.1))] [(4, .box 24 [.int .i64 s.1, .int .i64 s.2.1, .sl (.sl (.int .i64)) s.2.2.1, .sl (.sl (.int .i64)) s.2.2.2])] (by (simp only [go_sem, hb2, hb6]) <;> (repeat' with_reducible apply And.intro) <;> first | assumption | rfl | omega | (unfold maxLen; omega)) ?_
      refine athen_n ?_
      refine AW.seq ?_
      refine AW.ops ?_
      refine AO.segF tab_ok 4 (by decide) [(4, .bp 4 0), (9, .int .i64 (x0 % s.2.1)), (10, .int .i64 (y % s.2.1)), (11, .int .i64 (state % s.1)), (57, .agg [.int .i64 s.1, .int .i64 s.2.1, .sl (.sl (.int .i64)) s.2.2.1, .sl (.sl (.int .i64)) s.2.2.2]), (58, .int .i64 (state % s.1)), (59, .int .i64 (x0 % s.2.1)), (60, .int .i64 (y % s.2.1))] [(4, .box 24 [.int .i64 s.1, .int .i64 s.2.1, .sl (.sl (.int .i64)) s.2.2.1, .sl (.sl (.int .i64)) s.2.2.2])] (by (simp only [go_sem, hb2, hb6]) <;> (repeat' with_reducible apply And.intro) <;> first | assumption | rfl | omega | (unfold maxLen; omega)) ?_
      obtain ⟨v0_5, hv19, h⟩ := Option.bind_eq_some_iff.1 h
      refine AO.call tab_ok (by decide) rfl rfl rfl (fun _ h => h) [] [] (hc_spec_Commute s (state % s.1) (x0 % s.2.1) (y % s.2.1) hv19) rfl (by (simp only [go_sem, hb2, hb6]) <;> (repeat' with_reducible apply And.intro) <;> first | assumption | rfl | omega | (unfold maxLen; omega)) (by (simp only [go_sem, hb2, hb6]) <;> (repeat' with_reducible apply And.intro) <;> first | assumption | rfl | omega | (unfold maxLen; omega)) [(4, .bp 4 0), (9, .int .i64 (x0 % s.2.1)), (10, .int .i64 (y % s.2.1)), (11, .int .i64 (state % s.1)), (61, .tup [.bool v0_5.1, .int .i64 v0_5.2])] [(4, .box 24 [.int .i64 s.1, .int .i64 s.2.1, .sl (.sl (.int .i64)) s.2.2.1, .sl (.sl (.int .i64)) s.2.2.2])] (by (simp only [go_sem, hb2, hb6]) <;> (repeat' with_reducible apply And.intro) <;> first | assumption | rfl | omega | (unfold maxLen; omega)) ?_
      refine AO.allF tab_ok (by decide) [(4, .bp 4 0), (9, .int .i64 (x0 % s.2.1)), (10, .int .i64 (y % s.2.1)), (11, .int .i64 (state % s.1)), (12, .bool v0_5.1), (13, .int .i64 v0_5.2)] [(4, .box 24 [.int .i64 s.1, .int .i64 s.2.1, .sl (.sl (.int .i64)) s.2.2.1, .sl (.sl (.int .i64)) s.2.2.2])] (by (simp only [go_sem, hb2, hb6]) <;> (repeat' with_reducible apply And.intro) <;> first | assumption | rfl | omega | (unfold maxLen; omega)) ?_
      refine athen_n ?_
      refine AW.seq ?_
      refine AW.ops ?_
      refine AO.segF tab_ok 4 (by decide) [(4, .bp 4 0), (9, .int .i64 (x0 % s.2.1)), (10, .int .i64 (y % s.2.1)), (12, .bool v0_5.1), (13, .int .i64 v0_5.2), (65, .agg [.int .i64 s.1, .int .i64 s.2.1, .sl (.sl (.int .i64)) s.2.2.1, .sl (.sl (.int .i64)) s.2.2.2]), (66, .int .i64 (state % s.1)), (67, .int .i64 (y % s.2.1)), (68, .int .i64 (x0 % s.2.1))] [(4, .box 24 [.int .i64 s.1, .int .i64 s.2.1, .sl (.sl (.int .i64)) s.2.2.1, .sl (.sl (.int .i64)) s.2.2.2])] (by (simp only [go_sem, hb2, hb6]) <;> (repeat' with_reducible apply And.intro) <;> first | assumption | rfl | omega | (unfold maxLen; omega)) ?_
      obtain ⟨v0_6, hv20, h⟩ := Option.bind_eq_some_iff.1 h
      refine AO.call tab_ok (by decide) rfl rfl rfl (fun _ h => h) [] [] (hc_spec_Commute s (state % s.1) (y % s.2.1) (x0 % s.2.1) hv20) rfl (by (simp only [go_sem, hb2, hb6]) <;> (repeat' with_reducible apply And.intro) <;> first | assumption | rfl | omega | (unfold maxLen; omega)) (by (simp only [go_sem, hb2, hb6]) <;> (repeat' with_reducible apply And.intro) <;> first | assumption | rfl | omega | (unfold maxLen; omega)) [(4, .bp 4 0), (9, .int .i64 (x0 % s.2.1)), (10, .int .i64 (y % s.2.1)), (12, .bool v0_5.1), (13, .int .i64 v0_5.2), (69, .tup [.bool v0_6.1, .int .i64 v0_6.2])] [(4, .box 24 [.int .i64 s.1, .int .i64 s.2.1, .sl (.sl (.int .i64)) s.2.2.1, .sl (.sl (.int .i64)) s.2.2.2])] (by (simp only [go_sem, hb2, hb6]) <;> (repeat' with_reducible apply And.intro) <;> first | assumption | rfl | omega | (unfold maxLen; omega)) ?_
      refine AO.allF tab_ok (by decide) [(4, .bp 4 0), (9, .int .i64 (x0 % s.2.1)), (10, .int .i64 (y % s.2.1)), (12, .bool v0_5.1), (13, .int .i64 v0_5.2), (14, .bool v0_6.1), (15, .int .i64 v0_6.2)] [(4, .box 24 [.int .i64 s.1, .int .i64 s.2.1, .sl (.sl (.int .i64)) s.2.2.1, .sl (.sl (.int .i64)) s.2.2.2])] (by (simp only [go_sem, hb2, hb6]) <;> (repeat' with_reducible apply And.intro) <;> first | assumption | rfl | omega | (unfold maxLen; omega)) ?_
      refine athen_n ?_
      refine AW.seq ?_
      refine AW.ops ?_
      refine AO.segF tab_ok 2 (by decide) [(4, .bp 4 0), (9, .int .i64 (x0 % s.2.1)), (10, .int .i64 (y % s.2.1)), (12, .bool v0_5.1), (13, .int .i64 v0_5.2), (14, .bool v0_6.1), (15, .int .i64 v0_6.2), (73, .agg [.int .i64 s.1, .int .i64 s.2.1, .sl (.sl (.int .i64)) s.2.2.1, .sl (.sl (.int .i64)) s.2.2.2]), (74, .int .i64 (x0 % s.2.1))] [(4, .box 24 [.int .i64 s.1, .int .i64 s.2.1, .sl (.sl (.int .i64)) s.2.2.1, .sl (.sl (.int .i64)) s.2.2.2])] (by (simp only [go_sem, hb2, hb6]) <;> (repeat' with_reducible apply And.intro) <;> first | assumption | rfl | omega | (unfold maxLen; omega)) ?_
      obtain ⟨v0_7, hv21, h⟩ := Option.bind_eq_some_iff.1 h
      refine AO.call tab_ok (by decide) rfl rfl rfl (fun _ h => h) [] [] (hc_spec_Reads s (x0 % s.2.1) hv21) rfl (by (simp only [go_sem, hb2, hb6]) <;> (repeat' with_reducible apply And.intro) <;> first | assumption | rfl | omega | (unfold maxLen; omega)) (by (simp only [go_sem, hb2, hb6]) <;> (repeat' with_reducible apply And.intro) <;> first | assumption | rfl | omega | (unfold maxLen; omega)) [(4, .bp 4 0), (9, .int .i64 (x0 % s.2.1)), (10, .int .i64 (y % s.2.1)), (12, .bool v0_5.1), (13, .int .i64 v0_5.2), (14, .bool v0_6.1), (15, .int .i64 v0_6.2), (75, .tup [.bool v0_7.1, .int .i64 v0_7.2])] [(4, .box 24 [.int .i64 s.1, .int .i64 s.2.1, .sl (.sl (.int .i64)) s.2.2.1, .sl (.sl (.int .i64)) s.2.2.2])] (by (simp only [go_sem, hb2, hb6]) <;> (repeat' with_reducible apply And.intro) <;> first | assumption | rfl | omega | (unfold maxLen; omega)) ?_
      refine AO.allF tab_ok (by decide) [(4, .bp 4 0), (9, .int .i64 (x0 % s.2.1)), (10, .int .i64 (y % s.2.1)), (12, .bool v0_5.1), (13, .int .i64 v0_5.2), (14, .bool v0_6.1), (15, .int .i64 v0_6.2), (16, .bool v0_7.1), (17, .int .i64 v0_7.2)] [(4, .box 24 [.int .i64 s.1, .int .i64 s.2.1, .sl (.sl (.int .i64)) s.2.2.1, .sl (.sl (.int .i64)) s.2.2.2])] (by (simp only [go_sem, hb2, hb6]) <;> (repeat' with_reducible apply And.intro) <;> first | assumption | rfl | omega | (unfold maxLen; omega)) ?_
      refine athen_n ?_
      refine AW.seq ?_
      refine AW.ops ?_
      refine AO.segF tab_ok 1 (by decide) [(4, .bp 4 0), (9, .int .i64 (x0 % s.2.1)), (10, .int .i64 (y % s.2.1)), (12, .bool v0_5.1), (13, .int .i64 v0_5.2), (14, .bool v0_6.1), (15, .int .i64 v0_6.2), (16, .bool v0_7.1), (17, .int .i64 v0_7.2), (79, .agg [.int .i64 s.1, .int .i64 s.2.1, .sl (.sl (.int .i64)) s.2.2.1, .sl (.sl (.int .i64)) s.2.2.2])] [(4, .box 24 [.int .i64 s.1, .int .i64 s.2.1, .sl (.sl (.int .i64)) s.2.2.1, .sl (.sl (.int .i64)) s.2.2.2])] (by (simp only [go_sem, hb2, hb6]) <;> (repeat' with_reducible apply And.intro) <;> first | assumption | rfl | omega | (unfold maxLen; omega)) ?_
      obtain ⟨v0_8, hv22, h⟩ := Option.bind_eq_some_iff.1 h
      refine AO.call tab_ok (by decide) rfl rfl rfl (fun _ h => h) [] [] (hc_spec_Reached s hv22) rfl (by (simp only [go_sem, hb2, hb6]) <;> (repeat' with_reducible apply And.intro) <;> first | assumption | rfl | omega | (unfold maxLen; omega)) (by (simp only [go_sem, hb2, hb6]) <;> (repeat' with_reducible apply And.intro) <;> first | assumption | rfl | omega | (unfold maxLen; omega)) [(4, .bp 4 0), (9, .int .i64 (x0 % s.2.1)), (10, .int .i64 (y % s.2.1)), (12, .bool v0_5.1), (13, .int .i64 v0_5.2), (14, .bool v0_6.1), (15, .int .i64 v0_6.2), (16, .bool v0_7.1), (17, .int .i64 v0_7.2), (80, .tup [.own 90000, .int .i64 v0_8.2])] [(4, .box 24 [.int .i64 s.1, .int .i64 s.2.1, .sl (.sl (.int .i64)) s.2.2.1, .sl (.sl (.int .i64)) s.2.2.2]), (90000, .arr 3 (.int .i64) v0_8.1)] (by (simp only [go_sem, hb2, hb6]) <;> (repeat' with_reducible apply And.intro) <;> first | assumption | rfl | omega | (unfold maxLen; omega)) ?_
      refine AO.allF tab_ok (by decide) [(4, .bp 4 0), (9, .int .i64 (x0 % s.2.1)), (10, .int .i64 (y % s.2.1)), (12, .bool v0_5.1), (13, .int .i64 v0_5.2), (14, .bool v0_6.1), (15, .int .i64 v0_6.2), (16, .bool v0_7.1), (17, .int .i64 v0_7.2), (18, .own 90000), (19, .int .i64 v0_8.2)] [(4, .box 24 [.int .i64 s.1, .int .i64 s.2.1, .sl (.sl (.int .i64)) s.2.2.1, .sl (.sl (.int .i64)) s.2.2.2]), (90000, .arr 3 (.int .i64) v0_8.1)] (by (simp only [go_sem, hb2, hb6]) <;> (repeat' with_reducible apply And.intro) <;> first | assumption | rfl | omega | (unfold maxLen; omega)) ?_
      refine athen_n ?_
      refine AW.seq ?_
      refine AW.seq ?_
      refine AW.ops ?_
      refine AO.segF tab_ok 3 (by decide) [(4, .bp 4 0), (9, .int .i64 (x0 % s.2.1)), (10, .int .i64 (y % s.2.1)), (12, .bool v0_5.1), (14, .bool v0_6.1), (15, .int .i64 v0_6.2), (16, .bool v0_7.1), (17, .int .i64 v0_7.2), (18, .own 90000), (19, .int .i64 v0_8.2), (85, .bool (!(decide (v0_5.2 = 0))))] [(4, .box 24 [.int .i64 s.1, .int .i64 s.2.1, .sl (.sl (.int .i64)) s.2.2.1, .sl (.sl (.int .i64)) s.2.2.2]), (90000, .arr 3 (.int .i64) v0_8.1)] (by (simp only [go_sem, hb2, hb6]) <;> (repeat' with_reducible apply And.intro) <;> first | assumption | rfl | omega | (unfold maxLen; omega)) ?_
      rcases Bool.eq_false_or_eq_true (!(decide (v0_5.2 = 0))) with hb23 | hb23
      · rw [if_pos hb23] at h
        refine AO.weaken (s' := ⟨fr [(4, .bp 4 0), (9, .int .i64 (x0 % s.2.1)), (10, .int .i64 (y % s.2.1)), (12, .bool v0_5.1), (14, .bool v0_6.1), (15, .int .i64 v0_6.2), (16, .bool v0_7.1), (17, .int .i64 v0_7.2), (18, .own 90000), (19, .int .i64 v0_8.2), (85, .bool true)], hpGet [(4, .box 24 [.int .i64 s.1, .int .i64 s.2.1, .sl (.sl (.int .i64)) s.2.2.1, .sl (.sl (.int .i64)) s.2.2.2]), (90000, .arr 3 (.int .i64) v0_8.1)], gt⟩) (Wk.to (by (simp only [go_sem, hb2, hb6, hb23]) <;> (repeat' with_reducible apply And.intro) <;> first | assumption | rfl | omega | (unfold maxLen; omega))) ?_
        refine AO.segF tab_ok 6 (by decide) [(4, .bp 4 0), (9, .int .i64 (x0 % s.2.1)), (10, .int .i64 (y % s.2.1)), (12, .bool v0_5.1), (14, .bool v0_6.1), (16, .bool v0_7.1), (18, .own 90000), (19, .int .i64 v0_8.2), (89, .bool true), (91, .cv (undef))] [(4, .box 24 [.int .i64 s.1, .int .i64 s.2.1, .sl (.sl (.int .i64)) s.2.2.1, .sl (.sl (.int .i64)) s.2.2.2]), (90000, .arr 3 (.int .i64) v0_8.1)] (by (simp only [go_sem, hb2, hb6, hb23]) <;> (repeat' with_reducible apply And.intro) <;> first | assumption | rfl | omega | (unfold maxLen; omega)) ?_
        refine AO.segF tab_ok 8 (by decide) [(4, .bp 4 0), (9, .int .i64 (x0 % s.2.1)), (10, .int .i64 (y % s.2.1)), (16, .bool v0_7.1), (18, .own 90000), (97, .bool true), (98, .cv (undef)), (99, .cv (undef))] [(4, .box 24 [.int .i64 s.1, .int .i64 s.2.1, .sl (.sl (.int .i64)) s.2.2.1, .sl (.sl (.int .i64)) s.2.2.2]), (90000, .arr 3 (.int .i64) v0_8.1)] (by (simp only [go_sem, hb2, hb6, hb23]) <;> (repeat' with_reducible apply And.intro) <;> first | assumption | rfl | omega | (unfold maxLen; omega)) ?_
        refine AO.allF tab_ok (by decide) [(4, .bp 4 0), (9, .int .i64 (x0 % s.2.1)), (10, .int .i64 (y % s.2.1)), (16, .bool v0_7.1), (18, .own 90000), (101, .bool true)] [(4, .box 24 [.int .i64 s.1, .int .i64 s.2.1, .sl (.sl (.int .i64)) s.2.2.1, .sl (.sl (.int .i64)) s.2.2.2]), (90000, .arr 3 (.int .i64) v0_8.1)] (by (simp only [go_sem, hb2, hb6, hb23]) <;> (repeat' with_reducible apply And.intro) <;> first | assumption | rfl | omega | (unfold maxLen; omega)) ?_
        refine athen_n ?_
        refine AW.cond (b := true) rfl (fun _ => ?_) (fun hb24 => by cases hb24)
        refine AW.seq ?_
        refine AW.ops ?_
        refine AO.allF tab_ok (by decide) [(8, .bool false)] [] (by (simp only [go_sem, hb2, hb6, hb23]) <;> (repeat' with_reducible apply And.intro) <;> first | assumption | rfl | omega | (unfold maxLen; omega)) ?_
        refine athen_n ?_
        refine AW.ret ?_
        refine athen_r ?_
        obtain rfl := Option.some.inj h
        exact ⟨rfl, [], [], [], rfl, (by (simp only [go_sem, hb2, hb6, hb23]) <;> (repeat' with_reducible apply And.intro) <;> first | assumption | rfl | omega | (unfold maxLen; omega))⟩
      · rw [if_neg (Bool.eq_false_iff.1 hb23)] at h
        refine AO.weaken (s' := ⟨fr [(4, .bp 4 0), (9, .int .i64 (x0 % s.2.1)), (10, .int .i64 (y % s.2.1)), (12, .bool v0_5.1), (14, .bool v0_6.1), (15, .int .i64 v0_6.2), (16, .bool v0_7.1), (17, .int .i64 v0_7.2), (18, .own 90000), (19, .int .i64 v0_8.2), (85, .bool false)], hpGet [(4, .box 24 [.int .i64 s.1, .int .i64 s.2.1, .sl (.sl (.int .i64)) s.2.2.1, .sl (.sl (.int .i64)) s.2.2.2]), (90000, .arr 3 (.int .i64) v0_8.1)], gt⟩) (Wk.to (by (simp only [go_sem, hb2, hb6, hb23]) <;> (repeat' with_reducible apply And.intro) <;> first | assumption | rfl | omega | (unfold maxLen; omega))) ?_
        refine AO.segF tab_ok 4 (by decide) [(4, .bp 4 0), (9, .int .i64 (x0 % s.2.1)), (10, .int .i64 (y % s.2.1)), (12, .bool v0_5.1), (14, .bool v0_6.1), (16, .bool v0_7.1), (17, .int .i64 v0_7.2), (18, .own 90000), (19, .int .i64 v0_8.2), (89, .bool (!(decide (v0_6.2 = 0))))] [(4, .box 24 [.int .i64 s.1, .int .i64 s.2.1, .sl (.sl (.int .i64)) s.2.2.1, .sl (.sl (.int .i64)) s.2.2.2]), (90000, .arr 3 (.int .i64) v0_8.1)] (by (simp only [go_sem, hb2, hb6, hb23]) <;> (repeat' with_reducible apply And.intro) <;> first | assumption | rfl | omega | (unfold maxLen; omega)) ?_
        rcases Bool.eq_false_or_eq_true (!(decide (v0_6.2 = 0))) with hb25 | hb25
        · rw [if_pos hb25] at h
          refine AO.weaken (s' := ⟨fr [(4, .bp 4 0), (9, .int .i64 (x0 % s.2.1)), (10, .int .i64 (y % s.2.1)), (12, .bool v0_5.1), (14, .bool v0_6.1), (16, .bool v0_7.1), (17, .int .i64 v0_7.2), (18, .own 90000), (19, .int .i64 v0_8.2), (89, .bool true)], hpGet [(4, .box 24 [.int .i64 s.1, .int .i64 s.2.1, .sl (.sl (.int .i64)) s.2.2.1, .sl (.sl (.int .i64)) s.2.2.2]), (90000, .arr 3 (.int .i64) v0_8.1)], gt⟩) (Wk.to (by (simp only [go_sem, hb2, hb6, hb23, hb25]) <;> (repeat' with_reducible apply And.intro) <;> first | assumption | rfl | omega | (unfold maxLen; omega))) ?_
          refine AO.segF tab_ok 6 (by decide) [(4, .bp 4 0), (9, .int .i64 (x0 % s.2.1)), (10, .int .i64 (y % s.2.1)), (12, .bool v0_5.1), (14, .bool v0_6.1), (16, .bool v0_7.1), (18, .own 90000), (93, .bool true), (95, .cv (undef))] [(4, .box 24 [.int .i64 s.1, .int .i64 s.2.1, .sl (.sl (.int .i64)) s.2.2.1, .sl (.sl (.int .i64)) s.2.2.2]), (90000, .arr 3 (.int .i64) v0_8.1)] (by (simp only [go_sem, hb2, hb6, hb23, hb25]) <;> (repeat' with_reducible apply And.intro) <;> first | assumption | rfl | omega | (unfold maxLen; omega)) ?_
          refine AO.allF tab_ok (by decide) [(4, .bp 4 0), (9, .int .i64 (x0 % s.2.1)), (10, .int .i64 (y % s.2.1)), (16, .bool v0_7.1), (18, .own 90000), (101, .bool true)] [(4, .box 24 [.int .i64 s.1, .int .i64 s.2.1, .sl (.sl (.int .i64)) s.2.2.1, .sl (.sl (.int .i64)) s.2.2.2]), (90000, .arr 3 (.int .i64) v0_8.1)] (by (simp only [go_sem, hb2, hb6, hb23, hb25]) <;> (repeat' with_reducible apply And.intro) <;> first | assumption | rfl | omega | (unfold maxLen; omega)) ?_
          refine athen_n ?_
          refine AW.cond (b := true) rfl (fun _ => ?_) (fun hb26 => by cases hb26)
          refine AW.seq ?_
          refine AW.ops ?_
          refine AO.allF tab_ok (by decide) [(8, .bool false)] [] (by (simp only [go_sem, hb2, hb6, hb23, hb25]) <;> (repeat' with_reducible apply And.intro) <;> first | assumption | rfl | omega | (unfold maxLen; omega)) ?_
          refine athen_n ?_
          refine AW.ret ?_
          refine athen_r ?_
          obtain rfl := Option.some.inj h
          exact ⟨rfl, [], [], [], rfl, (by (simp only [go_sem, hb2, hb6, hb23, hb25]) <;> (repeat' with_reducible apply And.intro) <;> first | assumption | rfl | omega | (unfold maxLen; omega))⟩
        · rw [if_neg (Bool.eq_false_iff.1 hb25)] at h
          refine AO.weaken (s' := ⟨fr [(4, .bp 4 0), (9, .int .i64 (x0 % s.2.1)), (10, .int .i64 (y % s.2.1)), (12, .bool v0_5.1), (14, .bool v0_6.1), (16, .bool v0_7.1), (17, .int .i64 v0_7.2), (18, .own 90000), (19, .int .i64 v0_8.2), (89, .bool false)], hpGet [(4, .box 24 [.int .i64 s.1, .int .i64 s.2.1, .sl (.sl (.int .i64)) s.2.2.1, .sl (.sl (.int .i64)) s.2.2.2]), (90000, .arr 3 (.int .i64) v0_8.1)], gt⟩) (Wk.to (by (simp only [go_sem, hb2, hb6, hb23, hb25]) <;> (repeat' with_reducible apply And.intro) <;> first | assumption | rfl | omega | (unfold maxLen; omega))) ?_
          refine AO.segF tab_ok 4 (by decide) [(4, .bp 4 0), (9, .int .i64 (x0 % s.2.1)), (10, .int .i64 (y % s.2.1)), (12, .bool v0_5.1), (14, .bool v0_6.1), (16, .bool v0_7.1), (18, .own 90000), (19, .int .i64 v0_8.2), (93, .bool (!(decide (v0_7.2 = 0))))] [(4, .box 24 [.int .i64 s.1, .int .i64 s.2.1, .sl (.sl (.int .i64)) s.2.2.1, .sl (.sl (.int .i64)) s.2.2.2]), (90000, .arr 3 (.int .i64) v0_8.1)] (by (simp only [go_sem, hb2, hb6, hb23, hb25]) <;> (repeat' with_reducible apply And.intro) <;> first | assumption | rfl | omega | (unfold maxLen; omega)) ?_
          rcases Bool.eq_false_or_eq_true (!(decide (v0_7.2 = 0))) with hb27 | hb27
          · rw [if_pos hb27] at h
            refine AO.weaken (s' := ⟨fr [(4, .bp 4 0), (9, .int .i64 (x0 % s.2.1)), (10, .int .i64 (y % s.2.1)), (12, .bool v0_5.1), (14, .bool v0_6.1), (16, .bool v0_7.1), (18, .own 90000), (19, .int .i64 v0_8.2), (93, .bool true)], hpGet [(4, .box 24 [.int .i64 s.1, .int .i64 s.2.1, .sl (.sl (.int .i64)) s.2.2.1, .sl (.sl (.int .i64)) s.2.2.2]), (90000, .arr 3 (.int .i64) v0_8.1)], gt⟩) (Wk.to (by (simp only [go_sem, hb2, hb6, hb23, hb25, hb27]) <;> (repeat' with_reducible apply And.intro) <;> first | assumption | rfl | omega | (unfold maxLen; omega))) ?_
            refine AO.segF tab_ok 6 (by decide) [(4, .bp 4 0), (9, .int .i64 (x0 % s.2.1)), (10, .int .i64 (y % s.2.1)), (16, .bool v0_7.1), (18, .own 90000), (97, .bool true), (98, .cv (undef)), (99, .cv (undef))] [(4, .box 24 [.int .i64 s.1, .int .i64 s.2.1, .sl (.sl (.int .i64)) s.2.2.1, .sl (.sl (.int .i64)) s.2.2.2]), (90000, .arr 3 (.int .i64) v0_8.1)] (by (simp only [go_sem, hb2, hb6, hb23, hb25, hb27]) <;> (repeat' with_reducible apply And.intro) <;> first | assumption | rfl | omega | (unfold maxLen; omega)) ?_
            refine AO.allF tab_ok (by decide) [(4, .bp 4 0), (9, .int .i64 (x0 % s.2.1)), (10, .int .i64 (y % s.2.1)), (16, .bool v0_7.1), (18, .own 90000), (101, .bool true)] [(4, .box 24 [.int .i64 s.1, .int .i64 s.2.1, .sl (.sl (.int .i64)) s.2.2.1, .sl (.sl (.int .i64)) s.2.2.2]), (90000, .arr 3 (.int .i64) v0_8.1)] (by (simp only [go_sem, hb2, hb6, hb23, hb25, hb27]) <;> (repeat' with_reducible apply And.intro) <;> first | assumption | rfl | omega | (unfold maxLen; omega)) ?_
            refine athen_n ?_
            refine AW.cond (b := true) rfl (fun _ => ?_) (fun hb28 => by cases hb28)
            refine AW.seq ?_
            refine AW.ops ?_
            refine AO.allF tab_ok (by decide) [(8, .bool false)] [] (by (simp only [go_sem, hb2, hb6, hb23, hb25, hb27]) <;> (repeat' with_reducible apply And.intro) <;> first | assumption | rfl | omega | (unfold maxLen; omega)) ?_
            refine athen_n ?_
            refine AW.ret ?_
            refine athen_r ?_
            obtain rfl := Option.some.inj h
            exact ⟨rfl, [], [], [], rfl, (by (simp only [go_sem, hb2, hb6, hb23, hb25, hb27]) <;> (repeat' with_reducible apply And.intro) <;> first | assumption | rfl | omega | (unfold maxLen; omega))⟩
          · rw [if_neg (Bool.eq_false_iff.1 hb27)] at h
            refine AO.weaken (s' := ⟨fr [(4, .bp 4 0), (9, .int .i64 (x0 % s.2.1)), (10, .int .i64 (y % s.2.1)), (12, .bool v0_5.1), (14, .bool v0_6.1), (16, .bool v0_7.1), (18, .own 90000), (19, .int .i64 v0_8.2), (93, .bool false)], hpGet [(4, .box 24 [.int .i64 s.1, .int .i64 s.2.1, .sl (.sl (.int .i64)) s.2.2.1, .sl (.sl (.int .i64)) s.2.2.2]), (90000, .arr 3 (.int .i64) v0_8.1)], gt⟩) (Wk.to (by (simp only [go_sem, hb2, hb6, hb23, hb25, hb27]) <;> (repeat' with_reducible apply And.intro) <;> first | assumption | rfl | omega | (unfold maxLen; omega))) ?_
            refine AO.segF tab_ok 4 (by decide) [(4, .bp 4 0), (9, .int .i64 (x0 % s.2.1)), (10, .int .i64 (y % s.2.1)), (12, .bool v0_5.1), (14, .bool v0_6.1), (16, .bool v0_7.1), (18, .own 90000), (97, .bool (!(decide (v0_8.2 = 0))))] [(4, .box 24 [.int .i64 s.1, .int .i64 s.2.1, .sl (.sl (.int .i64)) s.2.2.1, .sl (.sl (.int .i64)) s.2.2.2]), (90000, .arr 3 (.int .i64) v0_8.1)] (by (simp only [go_sem, hb2, hb6, hb23, hb25, hb27]) <;> (repeat' with_reducible apply And.intro) <;> first | assumption | rfl | omega | (unfold maxLen; omega)) ?_
            rcases Bool.eq_false_or_eq_true (!(decide (v0_8.2 = 0))) with hb29 | hb29
            · rw [if_pos hb29] at h
              refine AO.weaken (s' := ⟨fr [(4, .bp 4 0), (9, .int .i64 (x0 % s.2.1)), (10, .int .i64 (y % s.2.1)), (12, .bool v0_5.1), (14, .bool v0_6.1), (16, .bool v0_7.1), (18, .own 90000), (97, .bool true)], hpGet [(4, .box 24 [.int .i64 s.1, .int .i64 s.2.1, .sl (.sl (.int .i64)) s.2.2.1, .sl (.sl (.int .i64)) s.2.2.2]), (90000, .arr 3 (.int .i64) v0_8.1)], gt⟩) (Wk.to (by (simp only [go_sem, hb2, hb6, hb23, hb25, hb27, hb29]) <;> (repeat' with_reducible apply And.intro) <;> first | assumption | rfl | omega | (unfold maxLen; omega))) ?_
              refine AO.allF tab_ok (by decide) [(4, .bp 4 0), (9, .int .i64 (x0 % s.2.1)), (10, .int .i64 (y % s.2.1)), (16, .bool v0_7.1), (18, .own 90000), (101, .bool true)] [(4, .box 24 [.int .i64 s.1, .int .i64 s.2.1, .sl (.sl (.int .i64)) s.2.2.1, .sl (.sl (.int .i64)) s.2.2.2]), (90000, .arr 3 (.int .i64) v0_8.1)] (by (simp only [go_sem, hb2, hb6, hb23, hb25, hb27, hb29]) <;> (repeat' with_reducible apply And.intro) <;> first | assumption | rfl | omega | (unfold maxLen; omega)) ?_
              refine athen_n ?_
              refine AW.cond (b := true) rfl (fun _ => ?_) (fun hb30 => by cases hb30)
              refine AW.seq ?_
              refine AW.ops ?_
              refine AO.allF tab_ok (by decide) [(8, .bool false)] [] (by (simp only [go_sem, hb2, hb6, hb23, hb25, hb27, hb29]) <;> (repeat' with_reducible apply And.intro) <;> first | assumption | rfl | omega | (unfold maxLen; omega)) ?_
              refine athen_n ?_
              refine AW.ret ?_
              refine athen_r ?_
              obtain rfl := Option.some.inj h
              exact ⟨rfl, [], [], [], rfl, (by (simp only [go_sem, hb2, hb6, hb23, hb25, hb27, hb29]) <;> (repeat' with_reducible apply And.intro) <;> first | assumption | rfl | omega | (unfold maxLen; omega))⟩
            · rw [if_neg (Bool.eq_false_iff.1 hb29)] at h
              refine AO.weaken (s' := ⟨fr [(4, .bp 4 0), (9, .int .i64 (x0 % s.2.1)), (10, .int .i64 (y % s.2.1)), (12, .bool v0_5.1), (14, .bool v0_6.1), (16, .bool v0_7.1), (18, .own 90000), (97, .bool false)], hpGet [(4, .box 24 [.int .i64 s.1, .int .i64 s.2.1, .sl (.sl (.int .i64)) s.2.2.1, .sl (.sl (.int .i64)) s.2.2.2]), (90000, .arr 3 (.int .i64) v0_8.1)], gt⟩) (Wk.to (by (simp only [go_sem, hb2, hb6, hb23, hb25, hb27, hb29]) <;> (repeat' with_reducible apply And.intro) <;> first | assumption | rfl | omega | (unfold maxLen; omega))) ?_
              refine AO.allF tab_ok (by decide) [(4, .bp 4 0), (9, .int .i64 (x0 % s.2.1)), (10, .int .i64 (y % s.2.1)), (16, .bool v0_7.1), (18, .own 90000), (101, .bool ((v0_5.1 == v0_6.1) != true))] [(4, .box 24 [.int .i64 s.1, .int .i64 s.2.1, .sl (.sl (.int .i64)) s.2.2.1, .sl (.sl (.int .i64)) s.2.2.2]), (90000, .arr 3 (.int .i64) v0_8.1)] (by (simp only [go_sem, hb2, hb6, hb23, hb25, hb27, hb29]) <;> (repeat' with_reducible apply And.intro) <;> first | assumption | rfl | omega | (unfold maxLen; omega)) ?_
              refine athen_n ?_
              refine AW.cond (b := ((v0_5.1 == v0_6.1) != true)) rfl (fun hb31 => ?_) (fun hb31 => ?_)
              · rw [if_pos hb31] at h
                refine AW.seq ?_
                refine AW.ops ?_
                refine AO.allF tab_ok (by decide) [(8, .bool false)] [] (by (simp only [go_sem, hb2, hb6, hb23, hb25, hb27, hb29, hb31]) <;> (repeat' with_reducible apply And.intro) <;> first | assumption | rfl | omega | (unfold maxLen; omega)) ?_
                refine athen_n ?_
                refine AW.ret ?_
                refine athen_r ?_
                obtain rfl := Option.some.inj h
                exact ⟨rfl, [], [], [], rfl, (by (simp only [go_sem, hb2, hb6, hb23, hb25, hb27, hb29, hb31]) <;> (repeat' with_reducible apply And.intro) <;> first | assumption | rfl | omega | (unfold maxLen; omega))⟩
              · rw [if_neg (Bool.eq_false_iff.1 hb31)] at h
                refine AW.skip ?_
                refine athen_n ?_
                refine AW.seq ?_
                refine AW.ops ?_
                refine AO.allF tab_ok (by decide) [(4, .bp 4 0), (9, .int .i64 (x0 % s.2.1)), (10, .int .i64 (y % s.2.1)), (16, .bool v0_7.1), (18, .own 90000), (20, .bool true)] [(4, .box 24 [.int .i64 s.1, .int .i64 s.2.1, .sl (.sl (.int .i64)) s.2.2.1, .sl (.sl (.int .i64)) s.2.2.2]), (90000, .arr 3 (.int .i64) v0_8.1)] (by (simp only [go_sem, hb2, hb6, hb23, hb25, hb27, hb29, hb31]) <;> (repeat' with_reducible apply And.intro) <;> first | assumption | rfl | omega | (unfold maxLen; omega)) ?_
                refine athen_n ?_
                refine AW.have1 (fun b1 : Bool => lineallaw01_SpecCommutes_k1 s x0 y v0_7 v0_8 b1 = some r) (fun b1 => ⟨fr [(4, .bp 4 0), (9, .int .i64 (x0 % s.2.1)), (10, .int .i64 (y % s.2.1)), (16, .bool v0_7.1), (18, .own 90000), (20, .bool b1)], hpGet [(4, .box 24 [.int .i64 s.1, .int .i64 s.2.1, .sl (.sl (.int .i64)) s.2.2.1, .sl (.sl (.int .i64)) s.2.2.2]), (90000, .arr 3 (.int .i64) v0_8.1)], gt⟩) (fun b1 h => ?_) (fun hk_lineallaw01_SpecCommutes_k1 => ?_)
                · unfold lineallaw01_SpecCommutes_k1 at h
                  refine AW.have1 (fun _ : Unit => lineallaw01_SpecCommutes_k2 s = some r) (fun _ => ⟨fr [(4, .bp 4 0)], hpGet [(4, .box 24 [.int .i64 s.1, .int .i64 s.2.1, .sl (.sl (.int .i64)) s.2.2.1, .sl (.sl (.int .i64)) s.2.2.2])], gt⟩) (fun _ h => ?_) (fun hk_lineallaw01_SpecCommutes_k2 => ?_)
                  · unfold lineallaw01_SpecCommutes_k2 at h
                    refine AW.seq ?_
                    refine AW.ops ?_
                    refine AO.segF tab_ok 1 (by decide) [(4, .bp 4 0), (164, .agg [.int .i64 s.1, .int .i64 s.2.1, .sl (.sl (.int .i64)) s.2.2.1, .sl (.sl (.int .i64)) s.2.2.2])] [(4, .box 24 [.int .i64 s.1, .int .i64 s.2.1, .sl (.sl (.int .i64)) s.2.2.1, .sl (.sl (.int .i64)) s.2.2.2])] (by (simp only [go_sem, hb2, hb6, hb23, hb25, hb27, hb29, hb31]) <;> (repeat' with_reducible apply And.intro) <;> first | assumption | rfl | omega | (unfold maxLen; omega)) ?_
                    obtain ⟨v0_10, hv32, h⟩ := Option.bind_eq_some_iff.1 h
                    refine AO.call tab_ok (by decide) rfl rfl rfl (fun _ h => h) [] [] (hc_spec_Meddles s hv32) rfl (by (simp only [go_sem, hb2, hb6, hb23, hb25, hb27, hb29, hb31]) <;> (repeat' with_reducible apply And.intro) <;> first | assumption | rfl | omega | (unfold maxLen; omega)) (by (simp only [go_sem, hb2, hb6, hb23, hb25, hb27, hb29, hb31]) <;> (repeat' with_reducible apply And.intro) <;> first | assumption | rfl | omega | (unfold maxLen; omega)) [(4, .bp 4 0), (165, .tup [.int .i64 v0_10.1, .int .i64 v0_10.2.1, .int .i64 v0_10.2.2.1, .int .i64 v0_10.2.2.2])] [(4, .box 24 [.int .i64 s.1, .int .i64 s.2.1, .sl (.sl (.int .i64)) s.2.2.1, .sl (.sl (.int .i64)) s.2.2.2])] (by (simp only [go_sem, hb2, hb6, hb23, hb25, hb27, hb29, hb31]) <;> (repeat' with_reducible apply And.intro) <;> first | assumption | rfl | omega | (unfold maxLen; omega)) ?_
                    refine AO.allF tab_ok (by decide) [(4, .bp 4 0), (13, .int .i64 v0_10.2.2.2), (27, .int .i64 v0_10.1), (28, .int .i64 v0_10.2.1), (29, .int .i64 v0_10.2.2.1)] [(4, .box 24 [.int .i64 s.1, .int .i64 s.2.1, .sl (.sl (.int .i64)) s.2.2.1, .sl (.sl (.int .i64)) s.2.2.2])] (by (simp only [go_sem, hb2, hb6, hb23, hb25, hb27, hb29, hb31]) <;> (repeat' with_reducible apply And.intro) <;> first | assumption | rfl | omega | (unfold maxLen; omega)) ?_
                    refine athen_n ?_
                    refine AW.seq ?_
                    refine AW.seq ?_
                    refine AW.ops ?_
                    refine AO.allF tab_ok (by decide) [(4, .bp 4 0), (13, .int .i64 v0_10.2.2.2), (27, .int .i64 v0_10.1), (28, .int .i64 v0_10.2.1), (29, .int .i64 v0_10.2.2.1), (171, .bool (!(decide (v0_10.2.2.2 = 0))))] [(4, .box 24 [.int .i64 s.1, .int .i64 s.2.1, .sl (.sl (.int .i64)) s.2.2.1, .sl (.sl (.int .i64)) s.2.2.2])] (by (simp only [go_sem, hb2, hb6, hb23, hb25, hb27, hb29, hb31]) <;> (repeat' with_reducible apply And.intro) <;> first | assumption | rfl | omega | (unfold maxLen; omega)) ?_
                    refine athen_n ?_
                    refine AW.cond (b := (!(decide (v0_10.2.2.2 = 0)))) rfl (fun hb33 => ?_) (fun hb33 => ?_)
                    · rw [if_pos hb33] at h
                      refine AW.seq ?_
                      refine AW.ops ?_
                      refine AO.segF tab_ok 3 (by decide) [(174, .bool (decide (v0_10.2.2.2 = 5)))] [] (by (simp only [go_sem, hb2, hb6, hb23, hb25, hb27, hb29, hb31, hb33]) <;> (repeat' with_reducible apply And.intro) <;> first | assumption | rfl | omega | (unfold maxLen; omega)) ?_
                      rcases Bool.eq_false_or_eq_true (decide (v0_10.2.2.2 = 5)) with hb34 | hb34
                      · rw [if_pos hb34] at h
                        refine AO.weaken (s' := ⟨fr [(174, .bool true)], hpGet [], gt⟩) (Wk.to (by (simp only [go_sem, hb2, hb6, hb23, hb25, hb27, hb29, hb31, hb33, hb34]) <;> (repeat' with_reducible apply And.intro) <;> first | assumption | rfl | omega | (unfold maxLen; omega))) ?_
                        obtain ⟨v0_11, hv35, h⟩ := Option.bind_eq_some_iff.1 h
                        refine AO.call tab_ok (by decide) rfl rfl rfl (fun _ h => ⟨fun _ => h, fun hn => absurd rfl hn⟩) [] [] (hc_lineallaw01_Awake hv35) rfl (by (simp only [go_sem, hb2, hb6, hb23, hb25, hb27, hb29, hb31, hb33, hb34]) <;> (repeat' with_reducible apply And.intro) <;> first | assumption | rfl | omega | (unfold maxLen; omega)) (by (simp only [go_sem, hb2, hb6, hb23, hb25, hb27, hb29, hb31, hb33, hb34]) <;> (repeat' with_reducible apply And.intro) <;> first | assumption | rfl | omega | (unfold maxLen; omega)) [(174, .bool true), (175, .bool v0_11)] [] (by (simp only [go_sem, hb2, hb6, hb23, hb25, hb27, hb29, hb31, hb33, hb34]) <;> (repeat' with_reducible apply And.intro) <;> first | assumption | rfl | omega | (unfold maxLen; omega)) ?_
                        refine AO.allF tab_ok (by decide) [(8, .bool v0_11)] [] (by (simp only [go_sem, hb2, hb6, hb23, hb25, hb27, hb29, hb31, hb33, hb34]) <;> (repeat' with_reducible apply And.intro) <;> first | assumption | rfl | omega | (unfold maxLen; omega)) ?_
                        refine athen_n ?_
                        refine AW.ret ?_
                        refine athen_r ?_
                        obtain rfl := Option.some.inj h
                        exact ⟨rfl, [], [], [], rfl, (by (simp only [go_sem, hb2, hb6, hb23, hb25, hb27, hb29, hb31, hb33, hb34]) <;> (repeat' with_reducible apply And.intro) <;> first | assumption | rfl | omega | (unfold maxLen; omega))⟩
                      · rw [if_neg (Bool.eq_false_iff.1 hb34)] at h
                        refine AO.weaken (s' := ⟨fr [(174, .bool false)], hpGet [], gt⟩) (Wk.to (by (simp only [go_sem, hb2, hb6, hb23, hb25, hb27, hb29, hb31, hb33, hb34]) <;> (repeat' with_reducible apply And.intro) <;> first | assumption | rfl | omega | (unfold maxLen; omega))) ?_
                        refine AO.allF tab_ok (by decide) [(8, .bool false)] [] (by (simp only [go_sem, hb2, hb6, hb23, hb25, hb27, hb29, hb31, hb33, hb34]) <;> (repeat' with_reducible apply And.intro) <;> first | assumption | rfl | omega | (unfold maxLen; omega)) ?_
                        refine athen_n ?_
                        refine AW.ret ?_
                        refine athen_r ?_
                        obtain rfl := Option.some.inj h
                        exact ⟨rfl, [], [], [], rfl, (by (simp only [go_sem, hb2, hb6, hb23, hb25, hb27, hb29, hb31, hb33, hb34]) <;> (repeat' with_reducible apply And.intro) <;> first | assumption | rfl | omega | (unfold maxLen; omega))⟩
                    · rw [if_neg (Bool.eq_false_iff.1 hb33)] at h
                      refine AW.skip ?_
                      refine athen_n ?_
                      refine AW.seq ?_
                      refine AW.ops ?_
                      refine AO.segF tab_ok 4 (by decide) [(4, .bp 4 0), (27, .int .i64 v0_10.1), (28, .int .i64 v0_10.2.1), (29, .int .i64 v0_10.2.2.1), (178, .agg [.int .i64 s.1, .int .i64 s.2.1, .sl (.sl (.int .i64)) s.2.2.1, .sl (.sl (.int .i64)) s.2.2.2]), (179, .int .i64 v0_10.1), (180, .int .i64 v0_10.2.1), (181, .int .i64 v0_10.2.2.1)] [(4, .box 24 [.int .i64 s.1, .int .i64 s.2.1, .sl (.sl (.int .i64)) s.2.2.1, .sl (.sl (.int .i64)) s.2.2.2])] (by (simp only [go_sem, hb2, hb6, hb23, hb25, hb27, hb29, hb31, hb33]) <;> (repeat' with_reducible apply And.intro) <;> first | assumption | rfl | omega | (unfold maxLen; omega)) ?_
                      obtain ⟨v0_12, hv36, h⟩ := Option.bind_eq_some_iff.1 h
                      refine AO.call tab_ok (by decide) rfl rfl rfl (fun _ h => h) [] [] (hc_spec_Commute s v0_10.1 v0_10.2.1 v0_10.2.2.1 hv36) rfl (by (simp only [go_sem, hb2, hb6, hb23, hb25, hb27, hb29, hb31, hb33]) <;> (repeat' with_reducible apply And.intro) <;> first | assumption | rfl | omega | (unfold maxLen; omega)) (by (simp only [go_sem, hb2, hb6, hb23, hb25, hb27, hb29, hb31, hb33]) <;> (repeat' with_reducible apply And.intro) <;> first | assumption | rfl | omega | (unfold maxLen; omega)) [(4, .bp 4 0), (27, .int .i64 v0_10.1), (28, .int .i64 v0_10.2.1), (29, .int .i64 v0_10.2.2.1), (182, .tup [.bool v0_12.1, .int .i64 v0_12.2])] [(4, .box 24 [.int .i64 s.1, .int .i64 s.2.1, .sl (.sl (.int .i64)) s.2.2.1, .sl (.sl (.int .i64)) s.2.2.2])] (by (simp only [go_sem, hb2, hb6, hb23, hb25, hb27, hb29, hb31, hb33]) <;> (repeat' with_reducible apply And.intro) <;> first | assumption | rfl | omega | (unfold maxLen; omega)) ?_
                      refine AO.allF tab_ok (by decide) [(4, .bp 4 0), (15, .int .i64 v0_12.2), (27, .int .i64 v0_10.1), (28, .int .i64 v0_10.2.1), (29, .int .i64 v0_10.2.2.1), (30, .bool v0_12.1)] [(4, .box 24 [.int .i64 s.1, .int .i64 s.2.1, .sl (.sl (.int .i64)) s.2.2.1, .sl (.sl (.int .i64)) s.2.2.2])] (by (simp only [go_sem, hb2, hb6, hb23, hb25, hb27, hb29, hb31, hb33]) <;> (repeat' with_reducible apply And.intro) <;> first | assumption | rfl | omega | (unfold maxLen; omega)) ?_
                      refine athen_n ?_
                      refine AW.seq ?_
                      refine AW.ops ?_
                      refine AO.segF tab_ok 4 (by decide) [(4, .bp 4 0), (15, .int .i64 v0_12.2), (27, .int .i64 v0_10.1), (28, .int .i64 v0_10.2.1), (29, .int .i64 v0_10.2.2.1), (30, .bool v0_12.1), (186, .agg [.int .i64 s.1, .int .i64 s.2.1, .sl (.sl (.int .i64)) s.2.2.1, .sl (.sl (.int .i64)) s.2.2.2]), (187, .int .i64 v0_10.1), (188, .int .i64 v0_10.2.1), (189, .int .i64 v0_10.2.2.1)] [(4, .box 24 [.int .i64 s.1, .int .i64 s.2.1, .sl (.sl (.int .i64)) s.2.2.1, .sl (.sl (.int .i64)) s.2.2.2])] (by (simp only [go_sem, hb2, hb6, hb23, hb25, hb27, hb29, hb31, hb33]) <;> (repeat' with_reducible apply And.intro) <;> first | assumption | rfl | omega | (unfold maxLen; omega)) ?_
                      obtain ⟨v0_13, hv37, h⟩ := Option.bind_eq_some_iff.1 h
                      refine AO.call tab_ok (by decide) rfl rfl rfl (fun _ h => h) [] [] (hc_spec_Overwrites s v0_10.1 v0_10.2.1 v0_10.2.2.1 hv37) rfl (by (simp only [go_sem, hb2, hb6, hb23, hb25, hb27, hb29, hb31, hb33]) <;> (repeat' with_reducible apply And.intro) <;> first | assumption | rfl | omega | (unfold maxLen; omega)) (by (simp only [go_sem, hb2, hb6, hb23, hb25, hb27, hb29, hb31, hb33]) <;> (repeat' with_reducible apply And.intro) <;> first | assumption | rfl | omega | (unfold maxLen; omega)) [(4, .bp 4 0), (15, .int .i64 v0_12.2), (27, .int .i64 v0_10.1), (28, .int .i64 v0_10.2.1), (29, .int .i64 v0_10.2.2.1), (30, .bool v0_12.1), (190, .tup [.bool v0_13.1, .int .i64 v0_13.2])] [(4, .box 24 [.int .i64 s.1, .int .i64 s.2.1, .sl (.sl (.int .i64)) s.2.2.1, .sl (.sl (.int .i64)) s.2.2.2])] (by (simp only [go_sem, hb2, hb6, hb23, hb25, hb27, hb29, hb31, hb33]) <;> (repeat' with_reducible apply And.intro) <;> first | assumption | rfl | omega | (unfold maxLen; omega)) ?_
                      refine AO.allF tab_ok (by decide) [(4, .bp 4 0), (15, .int .i64 v0_12.2), (17, .int .i64 v0_13.2), (27, .int .i64 v0_10.1), (28, .int .i64 v0_10.2.1), (29, .int .i64 v0_10.2.2.1), (30, .bool v0_12.1), (31, .bool v0_13.1)] [(4, .box 24 [.int .i64 s.1, .int .i64 s.2.1, .sl (.sl (.int .i64)) s.2.2.1, .sl (.sl (.int .i64)) s.2.2.2])] (by (simp only [go_sem, hb2, hb6, hb23, hb25, hb27, hb29, hb31, hb33]) <;> (repeat' with_reducible apply And.intro) <;> first | assumption | rfl | omega | (unfold maxLen; omega)) ?_
                      refine athen_n ?_
                      refine AW.seq ?_
                      refine AW.ops ?_
                      refine AO.segF tab_ok 4 (by decide) [(15, .int .i64 v0_12.2), (17, .int .i64 v0_13.2), (28, .int .i64 v0_10.2.1), (29, .int .i64 v0_10.2.2.1), (30, .bool v0_12.1), (31, .bool v0_13.1), (194, .agg [.int .i64 s.1, .int .i64 s.2.1, .sl (.sl (.int .i64)) s.2.2.1, .sl (.sl (.int .i64)) s.2.2.2]), (195, .int .i64 v0_10.1), (196, .int .i64 v0_10.2.2.1), (197, .int .i64 v0_10.2.1)] [] (by (simp only [go_sem, hb2, hb6, hb23, hb25, hb27, hb29, hb31, hb33]) <;> (repeat' with_reducible apply And.intro) <;> first | assumption | rfl | omega | (unfold maxLen; omega)) ?_
                      obtain ⟨v0_14, hv38, h⟩ := Option.bind_eq_some_iff.1 h
                      refine AO.call tab_ok (by decide) rfl rfl rfl (fun _ h => h) [] [] (hc_spec_Overwrites s v0_10.1 v0_10.2.2.1 v0_10.2.1 hv38) rfl (by (simp only [go_sem, hb2, hb6, hb23, hb25, hb27, hb29, hb31, hb33]) <;> (repeat' with_reducible apply And.intro) <;> first | assumption | rfl | omega | (unfold maxLen; omega)) (by (simp only [go_sem, hb2, hb6, hb23, hb25, hb27, hb29, hb31, hb33]) <;> (repeat' with_reducible apply And.intro) <;> first | assumption | rfl | omega | (unfold maxLen; omega)) [(15, .int .i64 v0_12.2), (17, .int .i64 v0_13.2), (28, .int .i64 v0_10.2.1), (29, .int .i64 v0_10.2.2.1), (30, .bool v0_12.1), (31, .bool v0_13.1), (198, .tup [.bool v0_14.1, .int .i64 v0_14.2])] [] (by (simp only [go_sem, hb2, hb6, hb23, hb25, hb27, hb29, hb31, hb33]) <;> (repeat' with_reducible apply And.intro) <;> first | assumption | rfl | omega | (unfold maxLen; omega)) ?_
                      refine AO.allF tab_ok (by decide) [(15, .int .i64 v0_12.2), (17, .int .i64 v0_13.2), (19, .int .i64 v0_14.2), (28, .int .i64 v0_10.2.1), (29, .int .i64 v0_10.2.2.1), (30, .bool v0_12.1), (31, .bool v0_13.1), (32, .bool v0_14.1)] [] (by (simp only [go_sem, hb2, hb6, hb23, hb25, hb27, hb29, hb31, hb33]) <;> (repeat' with_reducible apply And.intro) <;> first | assumption | rfl | omega | (unfold maxLen; omega)) ?_
                      refine athen_n ?_
                      refine AW.seq ?_
                      refine AW.ops ?_
                      refine AO.segF tab_ok 3 (by decide) [(17, .int .i64 v0_13.2), (19, .int .i64 v0_14.2), (28, .int .i64 v0_10.2.1), (29, .int .i64 v0_10.2.2.1), (30, .bool v0_12.1), (31, .bool v0_13.1), (32, .bool v0_14.1), (203, .bool (decide (v0_12.2 = 0)))] [] (by (simp only [go_sem, hb2, hb6, hb23, hb25, hb27, hb29, hb31, hb33]) <;> (repeat' with_reducible apply And.intro) <;> first | assumption | rfl | omega | (unfold maxLen; omega)) ?_
                      rcases Bool.eq_false_or_eq_true (decide (v0_12.2 = 0)) with hb39 | hb39
                      · rw [if_pos hb39] at h
                        refine AO.weaken (s' := ⟨fr [(17, .int .i64 v0_13.2), (19, .int .i64 v0_14.2), (28, .int .i64 v0_10.2.1), (29, .int .i64 v0_10.2.2.1), (30, .bool v0_12.1), (31, .bool v0_13.1), (32, .bool v0_14.1), (203, .bool true)], hpGet [], gt⟩) (Wk.to (by (simp only [go_sem, hb2, hb6, hb23, hb25, hb27, hb29, hb31, hb33, hb39]) <;> (repeat' with_reducible apply And.intro) <;> first | assumption | rfl | omega | (unfold maxLen; omega))) ?_
                        refine AO.segF tab_ok 4 (by decide) [(19, .int .i64 v0_14.2), (28, .int .i64 v0_10.2.1), (29, .int .i64 v0_10.2.2.1), (30, .bool v0_12.1), (31, .bool v0_13.1), (32, .bool v0_14.1), (207, .bool (decide (v0_13.2 = 0)))] [] (by (simp only [go_sem, hb2, hb6, hb23, hb25, hb27, hb29, hb31, hb33, hb39]) <;> (repeat' with_reducible apply And.intro) <;> first | assumption | rfl | omega | (unfold maxLen; omega)) ?_
                        rcases Bool.eq_false_or_eq_true (decide (v0_13.2 = 0)) with hb40 | hb40
                        · rw [if_pos hb40] at h
                          refine AO.weaken (s' := ⟨fr [(19, .int .i64 v0_14.2), (28, .int .i64 v0_10.2.1), (29, .int .i64 v0_10.2.2.1), (30, .bool v0_12.1), (31, .bool v0_13.1), (32, .bool v0_14.1), (207, .bool true)], hpGet [], gt⟩) (Wk.to (by (simp only [go_sem, hb2, hb6, hb23, hb25, hb27, hb29, hb31, hb33, hb39, hb40]) <;> (repeat' with_reducible apply And.intro) <;> first | assumption | rfl | omega | (unfold maxLen; omega))) ?_
                          refine AO.segF tab_ok 4 (by decide) [(28, .int .i64 v0_10.2.1), (29, .int .i64 v0_10.2.2.1), (30, .bool v0_12.1), (31, .bool v0_13.1), (32, .bool v0_14.1), (211, .bool (decide (v0_14.2 = 0)))] [] (by (simp only [go_sem, hb2, hb6, hb23, hb25, hb27, hb29, hb31, hb33, hb39, hb40]) <;> (repeat' with_reducible apply And.intro) <;> first | assumption | rfl | omega | (unfold maxLen; omega)) ?_
                          rcases Bool.eq_false_or_eq_true (decide (v0_14.2 = 0)) with hb41 | hb41
                          · rw [if_pos hb41] at h
                            refine AO.weaken (s' := ⟨fr [(28, .int .i64 v0_10.2.1), (29, .int .i64 v0_10.2.2.1), (30, .bool v0_12.1), (31, .bool v0_13.1), (32, .bool v0_14.1), (211, .bool true)], hpGet [], gt⟩) (Wk.to (by (simp only [go_sem, hb2, hb6, hb23, hb25, hb27, hb29, hb31, hb33, hb39, hb40, hb41]) <;> (repeat' with_reducible apply And.intro) <;> first | assumption | rfl | omega | (unfold maxLen; omega))) ?_
                            refine AO.segF tab_ok 4 (by decide) [(28, .int .i64 v0_10.2.1), (29, .int .i64 v0_10.2.2.1), (31, .bool v0_13.1), (32, .bool v0_14.1), (215, .bool (!v0_12.1))] [] (by (simp only [go_sem, hb2, hb6, hb23, hb25, hb27, hb29, hb31, hb33, hb39, hb40, hb41]) <;> (repeat' with_reducible apply And.intro) <;> first | assumption | rfl | omega | (unfold maxLen; omega)) ?_
                            rcases Bool.eq_false_or_eq_true (!v0_12.1) with hb42 | hb42
                            · rw [if_pos hb42] at h
                              refine AO.weaken (s' := ⟨fr [(28, .int .i64 v0_10.2.1), (29, .int .i64 v0_10.2.2.1), (31, .bool v0_13.1), (32, .bool v0_14.1), (215, .bool true)], hpGet [], gt⟩) (Wk.to (by (simp only [go_sem, hb2, hb6, hb23, hb25, hb27, hb29, hb31, hb33, hb39, hb40, hb41, hb42]) <;> (repeat' with_reducible apply And.intro) <;> first | assumption | rfl | omega | (unfold maxLen; omega))) ?_
                              refine AO.segF tab_ok 4 (by decide) [(28, .int .i64 v0_10.2.1), (29, .int .i64 v0_10.2.2.1), (32, .bool v0_14.1), (219, .bool (!v0_13.1))] [] (by (simp only [go_sem, hb2, hb6, hb23, hb25, hb27, hb29, hb31, hb33, hb39, hb40, hb41, hb42]) <;> (repeat' with_reducible apply And.intro) <;> first | assumption | rfl | omega | (unfold maxLen; omega)) ?_
                              rcases Bool.eq_false_or_eq_true (!v0_13.1) with hb43 | hb43
                              · rw [if_pos hb43] at h
                                refine AO.weaken (s' := ⟨fr [(28, .int .i64 v0_10.2.1), (29, .int .i64 v0_10.2.2.1), (32, .bool v0_14.1), (219, .bool true)], hpGet [], gt⟩) (Wk.to (by (simp only [go_sem, hb2, hb6, hb23, hb25, hb27, hb29, hb31, hb33, hb39, hb40, hb41, hb42, hb43]) <;> (repeat' with_reducible apply And.intro) <;> first | assumption | rfl | omega | (unfold maxLen; omega))) ?_
                                refine AO.segF tab_ok 4 (by decide) [(28, .int .i64 v0_10.2.1), (29, .int .i64 v0_10.2.2.1), (223, .bool (!v0_14.1))] [] (by (simp only [go_sem, hb2, hb6, hb23, hb25, hb27, hb29, hb31, hb33, hb39, hb40, hb41, hb42, hb43]) <;> (repeat' with_reducible apply And.intro) <;> first | assumption | rfl | omega | (unfold maxLen; omega)) ?_
                                rcases Bool.eq_false_or_eq_true (!v0_14.1) with hb44 | hb44
                                · rw [if_pos hb44] at h
                                  refine AO.weaken (s' := ⟨fr [(28, .int .i64 v0_10.2.1), (29, .int .i64 v0_10.2.2.1), (223, .bool true)], hpGet [], gt⟩) (Wk.to (by (simp only [go_sem, hb2, hb6, hb23, hb25, hb27, hb29, hb31, hb33, hb39, hb40, hb41, hb42, hb43, hb44]) <;> (repeat' with_reducible apply And.intro) <;> first | assumption | rfl | omega | (unfold maxLen; omega))) ?_
                                  refine AO.segF tab_ok 5 (by decide) [(228, .bool (decide (v0_10.2.1 ≤ v0_10.2.2.1)))] [] (by (simp only [go_sem, hb2, hb6, hb23, hb25, hb27, hb29, hb31, hb33, hb39, hb40, hb41, hb42, hb43, hb44]) <;> (repeat' with_reducible apply And.intro) <;> first | assumption | rfl | omega | (unfold maxLen; omega)) ?_
                                  rcases Bool.eq_false_or_eq_true (decide (v0_10.2.1 ≤ v0_10.2.2.1)) with hb45 | hb45
                                  · rw [if_pos hb45] at h
                                    refine AO.weaken (s' := ⟨fr [(228, .bool true)], hpGet [], gt⟩) (Wk.to (by (simp only [go_sem, hb2, hb6, hb23, hb25, hb27, hb29, hb31, hb33, hb39, hb40, hb41, hb42, hb43, hb44, hb45]) <;> (repeat' with_reducible apply And.intro) <;> first | assumption | rfl | omega | (unfold maxLen; omega))) ?_
                                    obtain ⟨v0_15, hv46, h⟩ := Option.bind_eq_some_iff.1 h
                                    refine AO.call tab_ok (by decide) rfl rfl rfl (fun _ h => ⟨fun _ => h, fun hn => absurd rfl hn⟩) [] [] (hc_lineallaw01_Awake hv46) rfl (by (simp only [go_sem, hb2, hb6, hb23, hb25, hb27, hb29, hb31, hb33, hb39, hb40, hb41, hb42, hb43, hb44, hb45]) <;> (repeat' with_reducible apply And.intro) <;> first | assumption | rfl | omega | (unfold maxLen; omega)) (by (simp only [go_sem, hb2, hb6, hb23, hb25, hb27, hb29, hb31, hb33, hb39, hb40, hb41, hb42, hb43, hb44, hb45]) <;> (repeat' with_reducible apply And.intro) <;> first | assumption | rfl | omega | (unfold maxLen; omega)) [(228, .bool true), (229, .bool v0_15)] [] (by (simp only [go_sem, hb2, hb6, hb23, hb25, hb27, hb29, hb31, hb33, hb39, hb40, hb41, hb42, hb43, hb44, hb45]) <;> (repeat' with_reducible apply And.intro) <;> first | assumption | rfl | omega | (unfold maxLen; omega)) ?_
                                    refine AO.allF tab_ok (by decide) [(8, .bool v0_15)] [] (by (simp only [go_sem, hb2, hb6, hb23, hb25, hb27, hb29, hb31, hb33, hb39, hb40, hb41, hb42, hb43, hb44, hb45]) <;> (repeat' with_reducible apply And.intro) <;> first | assumption | rfl | omega | (unfold maxLen; omega)) ?_
                                    refine athen_n ?_
                                    refine AW.ret ?_
                                    obtain rfl := Option.some.inj h
                                    exact ⟨rfl, [], [], [], rfl, (by (simp only [go_sem, hb2, hb6, hb23, hb25, hb27, hb29, hb31, hb33, hb39, hb40, hb41, hb42, hb43, hb44, hb45]) <;> (repeat' with_reducible apply And.intro) <;> first | assumption | rfl | omega | (unfold maxLen; omega))⟩
                                  · rw [if_neg (Bool.eq_false_iff.1 hb45)] at h
                                    refine AO.weaken (s' := ⟨fr [(228, .bool false)], hpGet [], gt⟩) (Wk.to (by (simp only [go_sem, hb2, hb6, hb23, hb25, hb27, hb29, hb31, hb33, hb39, hb40, hb41, hb42, hb43, hb44, hb45]) <;> (repeat' with_reducible apply And.intro) <;> first | assumption | rfl | omega | (unfold maxLen; omega))) ?_
                                    refine AO.allF tab_ok (by decide) [(8, .bool false)] [] (by (simp only [go_sem, hb2, hb6, hb23, hb25, hb27, hb29, hb31, hb33, hb39, hb40, hb41, hb42, hb43, hb44, hb45]) <;> (repeat' with_reducible apply And.intro) <;> first | assumption | rfl | omega | (unfold maxLen; omega)) ?_
                                    refine athen_n ?_
                                    refine AW.ret ?_
                                    obtain rfl := Option.some.inj h
                                    exact ⟨rfl, [], [], [], rfl, (by (simp only [go_sem, hb2, hb6, hb23, hb25, hb27, hb29, hb31, hb33, hb39, hb40, hb41, hb42, hb43, hb44, hb45]) <;> (repeat' with_reducible apply And.intro) <;> first | assumption | rfl | omega | (unfold maxLen; omega))⟩
                                · rw [if_neg (Bool.eq_false_iff.1 hb44)] at h
                                  refine AO.weaken (s' := ⟨fr [(28, .int .i64 v0_10.2.1), (29, .int .i64 v0_10.2.2.1), (223, .bool false)], hpGet [], gt⟩) (Wk.to (by (simp only [go_sem, hb2, hb6, hb23, hb25, hb27, hb29, hb31, hb33, hb39, hb40, hb41, hb42, hb43, hb44]) <;> (repeat' with_reducible apply And.intro) <;> first | assumption | rfl | omega | (unfold maxLen; omega))) ?_
                                  refine AO.segF tab_ok 6 (by decide) [(228, .bool false), (229, .cv (undef))] [] (by (simp only [go_sem, hb2, hb6, hb23, hb25, hb27, hb29, hb31, hb33, hb39, hb40, hb41, hb42, hb43, hb44]) <;> (repeat' with_reducible apply And.intro) <;> first | assumption | rfl | omega | (unfold maxLen; omega)) ?_
                                  refine AO.allF tab_ok (by decide) [(8, .bool false)] [] (by (simp only [go_sem, hb2, hb6, hb23, hb25, hb27, hb29, hb31, hb33, hb39, hb40, hb41, hb42, hb43, hb44]) <;> (repeat' with_reducible apply And.intro) <;> first | assumption | rfl | omega | (unfold maxLen; omega)) ?_
                                  refine athen_n ?_
                                  refine AW.ret ?_
                                  obtain rfl := Option.some.inj h
                                  exact ⟨rfl, [], [], [], rfl, (by (simp only [go_sem, hb2, hb6, hb23, hb25, hb27, hb29, hb31, hb33, hb39, hb40, hb41, hb42, hb43, hb44]) <;> (repeat' with_reducible apply And.intro) <;> first | assumption | rfl | omega | (unfold maxLen; omega))⟩
                              · rw [if_neg (Bool.eq_false_iff.1 hb43)] at h
                                refine AO.weaken (s' := ⟨fr [(28, .int .i64 v0_10.2.1), (29, .int .i64 v0_10.2.2.1), (32, .bool v0_14.1), (219, .bool false)], hpGet [], gt⟩) (Wk.to (by (simp only [go_sem, hb2, hb6, hb23, hb25, hb27, hb29, hb31, hb33, hb39, hb40, hb41, hb42, hb43]) <;> (repeat' with_reducible apply And.intro) <;> first | assumption | rfl | omega | (unfold maxLen; omega))) ?_
                                refine AO.segF tab_ok 6 (by decide) [(223, .bool false), (224, .cv (undef)), (225, .cv (undef))] [] (by (simp only [go_sem, hb2, hb6, hb23, hb25, hb27, hb29, hb31, hb33, hb39, hb40, hb41, hb42, hb43]) <;> (repeat' with_reducible apply And.intro) <;> first | assumption | rfl | omega | (unfold maxLen; omega)) ?_
                                refine AO.allF tab_ok (by decide) [(8, .bool false)] [] (by (simp only [go_sem, hb2, hb6, hb23, hb25, hb27, hb29, hb31, hb33, hb39, hb40, hb41, hb42, hb43]) <;> (repeat' with_reducible apply And.intro) <;> first | assumption | rfl | omega | (unfold maxLen; omega)) ?_
                                refine athen_n ?_
                                refine AW.ret ?_
                                obtain rfl := Option.some.inj h
                                exact ⟨rfl, [], [], [], rfl, (by (simp only [go_sem, hb2, hb6, hb23, hb25, hb27, hb29, hb31, hb33, hb39, hb40, hb41, hb42, hb43]) <;> (repeat' with_reducible apply And.intro) <;> first | assumption | rfl | omega | (unfold maxLen; omega))⟩
                            · rw [if_neg (Bool.eq_false_iff.1 hb42)] at h
                              refine AO.weaken (s' := ⟨fr [(28, .int .i64 v0_10.2.1), (29, .int .i64 v0_10.2.2.1), (31, .bool v0_13.1), (32, .bool v0_14.1), (215, .bool false)], hpGet [], gt⟩) (Wk.to (by (simp only [go_sem, hb2, hb6, hb23, hb25, hb27, hb29, hb31, hb33, hb39, hb40, hb41, hb42]) <;> (repeat' with_reducible apply And.intro) <;> first | assumption | rfl | omega | (unfold maxLen; omega))) ?_
                              refine AO.segF tab_ok 6 (by decide) [(28, .int .i64 v0_10.2.1), (29, .int .i64 v0_10.2.2.1), (219, .bool false), (221, .cv (undef))] [] (by (simp only [go_sem, hb2, hb6, hb23, hb25, hb27, hb29, hb31, hb33, hb39, hb40, hb41, hb42]) <;> (repeat' with_reducible apply And.intro) <;> first | assumption | rfl | omega | (unfold maxLen; omega)) ?_
                              refine AO.segF tab_ok 8 (by decide) [(228, .bool false), (229, .cv (undef))] [] (by (simp only [go_sem, hb2, hb6, hb23, hb25, hb27, hb29, hb31, hb33, hb39, hb40, hb41, hb42]) <;> (repeat' with_reducible apply And.intro) <;> first | assumption | rfl | omega | (unfold maxLen; omega)) ?_
                              refine AO.allF tab_ok (by decide) [(8, .bool false)] [] (by (simp only [go_sem, hb2, hb6, hb23, hb25, hb27, hb29, hb31, hb33, hb39, hb40, hb41, hb42]) <;> (repeat' with_reducible apply And.intro) <;> first | assumption | rfl | omega | (unfold maxLen; omega)) ?_
                              refine athen_n ?_
                              refine AW.ret ?_
                              obtain rfl := Option.some.inj h
                              exact ⟨rfl, [], [], [], rfl, (by (simp only [go_sem, hb2, hb6, hb23, hb25, hb27, hb29, hb31, hb33, hb39, hb40, hb41, hb42]) <;> (repeat' with_reducible apply And.intro) <;> first | assumption | rfl | omega | (unfold maxLen; omega))⟩
                          · rw [if_neg (Bool.eq_false_iff.1 hb41)] at h
                            refine AO.weaken (s' := ⟨fr [(28, .int .i64 v0_10.2.1), (29, .int .i64 v0_10.2.2.1), (30, .bool v0_12.1), (31, .bool v0_13.1), (32, .bool v0_14.1), (211, .bool false)], hpGet [], gt⟩) (Wk.to (by (simp only [go_sem, hb2, hb6, hb23, hb25, hb27, hb29, hb31, hb33, hb39, hb40, hb41]) <;> (repeat' with_reducible apply And.intro) <;> first | assumption | rfl | omega | (unfold maxLen; omega))) ?_
                            refine AO.segF tab_ok 6 (by decide) [(28, .int .i64 v0_10.2.1), (29, .int .i64 v0_10.2.2.1), (32, .bool v0_14.1), (215, .bool false), (217, .cv (undef))] [] (by (simp only [go_sem, hb2, hb6, hb23, hb25, hb27, hb29, hb31, hb33, hb39, hb40, hb41]) <;> (repeat' with_reducible apply And.intro) <;> first | assumption | rfl | omega | (unfold maxLen; omega)) ?_
                            refine AO.segF tab_ok 8 (by decide) [(223, .bool false), (224, .cv (undef)), (225, .cv (undef))] [] (by (simp only [go_sem, hb2, hb6, hb23, hb25, hb27, hb29, hb31, hb33, hb39, hb40, hb41]) <;> (repeat' with_reducible apply And.intro) <;> first | assumption | rfl | omega | (unfold maxLen; omega)) ?_
                            refine AO.allF tab_ok (by decide) [(8, .bool false)] [] (by (simp only [go_sem, hb2, hb6, hb23, hb25, hb27, hb29, hb31, hb33, hb39, hb40, hb41]) <;> (repeat' with_reducible apply And.intro) <;> first | assumption | rfl | omega | (unfold maxLen; omega)) ?_
                            refine athen_n ?_
                            refine AW.ret ?_
                            obtain rfl := Option.some.inj h
                            exact ⟨rfl, [], [], [], rfl, (by (simp only [go_sem, hb2, hb6, hb23, hb25, hb27, hb29, hb31, hb33, hb39, hb40, hb41]) <;> (repeat' with_reducible apply And.intro) <;> first | assumption | rfl | omega | (unfold maxLen; omega))⟩
                        · rw [if_neg (Bool.eq_false_iff.1 hb40)] at h
                          refine AO.weaken (s' := ⟨fr [(19, .int .i64 v0_14.2), (28, .int .i64 v0_10.2.1), (29, .int .i64 v0_10.2.2.1), (30, .bool v0_12.1), (31, .bool v0_13.1), (32, .bool v0_14.1), (207, .bool false)], hpGet [], gt⟩) (Wk.to (by (simp only [go_sem, hb2, hb6, hb23, hb25, hb27, hb29, hb31, hb33, hb39, hb40]) <;> (repeat' with_reducible apply And.intro) <;> first | assumption | rfl | omega | (unfold maxLen; omega))) ?_
                          refine AO.segF tab_ok 6 (by decide) [(28, .int .i64 v0_10.2.1), (29, .int .i64 v0_10.2.2.1), (31, .bool v0_13.1), (32, .bool v0_14.1), (211, .bool false), (213, .cv (undef))] [] (by (simp only [go_sem, hb2, hb6, hb23, hb25, hb27, hb29, hb31, hb33, hb39, hb40]) <;> (repeat' with_reducible apply And.intro) <;> first | assumption | rfl | omega | (unfold maxLen; omega)) ?_
                          refine AO.segF tab_ok 8 (by decide) [(28, .int .i64 v0_10.2.1), (29, .int .i64 v0_10.2.2.1), (219, .bool false), (221, .cv (undef))] [] (by (simp only [go_sem, hb2, hb6, hb23, hb25, hb27, hb29, hb31, hb33, hb39, hb40]) <;> (repeat' with_reducible apply And.intro) <;> first | assumption | rfl | omega | (unfold maxLen; omega)) ?_
                          refine AO.segF tab_ok 8 (by decide) [(228, .bool false), (229, .cv (undef))] [] (by (simp only [go_sem, hb2, hb6, hb23, hb25, hb27, hb29, hb31, hb33, hb39, hb40]) <;> (repeat' with_reducible apply And.intro) <;> first | assumption | rfl | omega | (unfold maxLen; omega)) ?_
                          refine AO.allF tab_ok (by decide) [(8, .bool false)] [] (by (simp only [go_sem, hb2, hb6, hb23, hb25, hb27, hb29, hb31, hb33, hb39, hb40]) <;> (repeat' with_reducible apply And.intro) <;> first | assumption | rfl | omega | (unfold maxLen; omega)) ?_
                          refine athen_n ?_
                          refine AW.ret ?_
                          obtain rfl := Option.some.inj h
                          exact ⟨rfl, [], [], [], rfl, (by (simp only [go_sem, hb2, hb6, hb23, hb25, hb27, hb29, hb31, hb33, hb39, hb40]) <;> (repeat' with_reducible apply And.intro) <;> first | assumption | rfl | omega | (unfold maxLen; omega))⟩
                      · rw [if_neg (Bool.eq_false_iff.1 hb39)] at h
                        refine AO.weaken (s' := ⟨fr [(17, .int .i64 v0_13.2), (19, .int .i64 v0_14.2), (28, .int .i64 v0_10.2.1), (29, .int .i64 v0_10.2.2.1), (30, .bool v0_12.1), (31, .bool v0_13.1), (32, .bool v0_14.1), (203, .bool false)], hpGet [], gt⟩) (Wk.to (by (simp only [go_sem, hb2, hb6, hb23, hb25, hb27, hb29, hb31, hb33, hb39]) <;> (repeat' with_reducible apply And.intro) <;> first | assumption | rfl | omega | (unfold maxLen; omega))) ?_
                        refine AO.segF tab_ok 6 (by decide) [(28, .int .i64 v0_10.2.1), (29, .int .i64 v0_10.2.2.1), (30, .bool v0_12.1), (31, .bool v0_13.1), (32, .bool v0_14.1), (207, .bool false), (209, .cv (undef))] [] (by (simp only [go_sem, hb2, hb6, hb23, hb25, hb27, hb29, hb31, hb33, hb39]) <;> (repeat' with_reducible apply And.intro) <;> first | assumption | rfl | omega | (unfold maxLen; omega)) ?_
                        refine AO.segF tab_ok 8 (by decide) [(28, .int .i64 v0_10.2.1), (29, .int .i64 v0_10.2.2.1), (32, .bool v0_14.1), (215, .bool false), (217, .cv (undef))] [] (by (simp only [go_sem, hb2, hb6, hb23, hb25, hb27, hb29, hb31, hb33, hb39]) <;> (repeat' with_reducible apply And.intro) <;> first | assumption | rfl | omega | (unfold maxLen; omega)) ?_
                        refine AO.segF tab_ok 8 (by decide) [(223, .bool false), (224, .cv (undef)), (225, .cv (undef))] [] (by (simp only [go_sem, hb2, hb6, hb23, hb25, hb27, hb29, hb31, hb33, hb39]) <;> (repeat' with_reducible apply And.intro) <;> first | assumption | rfl | omega | (unfold maxLen; omega)) ?_
                        refine AO.allF tab_ok (by decide) [(8, .bool false)] [] (by (simp only [go_sem, hb2, hb6, hb23, hb25, hb27, hb29, hb31, hb33, hb39]) <;> (repeat' with_reducible apply And.intro) <;> first | assumption | rfl | omega | (unfold maxLen; omega)) ?_
                        refine athen_n ?_
                        refine AW.ret ?_
                        obtain rfl := Option.some.inj h
                        exact ⟨rfl, [], [], [], rfl, (by (simp only [go_sem, hb2, hb6, hb23, hb25, hb27, hb29, hb31, hb33, hb39]) <;> (repeat' with_reducible apply And.intro) <;> first | assumption | rfl | omega | (unfold maxLen; omega))⟩
                  · refine AW.seq ?_
                    refine AW.seq ?_
                    refine AW.ops ?_
                    refine AO.allF tab_ok (by decide) [(4, .bp 4 0), (9, .int .i64 (x0 % s.2.1)), (10, .int .i64 (y % s.2.1)), (16, .bool v0_7.1), (20, .bool b1), (136, .own 90000), (137, .int .i64 (v0_8.1.length : Int)), (138, .int .i64 0)] [(4, .box 24 [.int .i64 s.1, .int .i64 s.2.1, .sl (.sl (.int .i64)) s.2.2.1, .sl (.sl (.int .i64)) s.2.2.2]), (90000, .arr 3 (.int .i64) v0_8.1)] (by (simp only [go_sem, hb2, hb6, hb23, hb25, hb27, hb29, hb31]) <;> (repeat' with_reducible apply And.intro) <;> first | assumption | rfl | omega | (unfold maxLen; omega)) ?_
                    refine athen_n ?_
                    refine AW.block ?_
                    obtain ⟨rv51, hw47, ho48⟩ := Option.bind_eq_some_iff.1 h
                    refine AW.loopO (lineallaw01_SpecCommutes_b2 s x0 y v0_8) (fun st2 => ⟨fr [(4, .bp 4 0), (9, .int .i64 (x0 % s.2.1)), (10, .int .i64 (y % s.2.1)), (16, .bool st2.1), (20, .bool st2.2.1), (136, .own 90000), (137, .int .i64 (v0_8.1.length : Int)), (138, .int .i64 st2.2.2)], hpGet [(4, .box 24 [.int .i64 s.1, .int .i64 s.2.1, .sl (.sl (.int .i64)) s.2.2.1, .sl (.sl (.int .i64)) s.2.2.2]), (90000, .arr 3 (.int .i64) v0_8.1)], gt⟩) (v0_7.1, b1, 0) hw47 (Wk.le [] [] [] rfl (by (simp only [go_sem, hb2, hb6, hb23, hb25, hb27, hb29, hb31]) <;> (repeat' with_reducible apply And.intro) <;> first | assumption | rfl | omega | (unfold maxLen; omega)) (by (simp only [go_sem, hb2, hb6, hb23, hb25, hb27, hb29, hb31]) <;> (repeat' with_reducible apply And.intro) <;> first | assumption | rfl | omega | (unfold maxLen; omega))) ?_
                    intro st2 x50 h hd49
                    unfold lineallaw01_SpecCommutes_b2 at h
                    refine AW.seq ?_
                    refine AW.ops ?_
                    refine AO.allF tab_ok (by decide) [(4, .bp 4 0), (9, .int .i64 (x0 % s.2.1)), (10, .int .i64 (y % s.2.1)), (16, .bool st2.1), (20, .bool st2.2.1), (136, .own 90000), (137, .int .i64 (v0_8.1.length : Int)), (138, .int .i64 st2.2.2), (139, .bool (decide (st2.2.2 < (v0_8.1.length : Int))))] [(4, .box 24 [.int .i64 s.1, .int .i64 s.2.1, .sl (.sl (.int .i64)) s.2.2.1, .sl (.sl (.int .i64)) s.2.2.2]), (90000, .arr 3 (.int .i64) v0_8.1)] (by (simp only [go_sem, hb2, hb6, hb23, hb25, hb27, hb29, hb31]) <;> (repeat' with_reducible apply And.intro) <;> first | assumption | rfl | omega | (unfold maxLen; omega)) ?_
                    refine athen_n ?_
                    refine AW.seq ?_
                    refine AW.cond (b := (decide (st2.2.2 < (v0_8.1.length : Int)))) rfl (fun hb52 => ?_) (fun hb52 => ?_)
                    · rw [if_pos hb52] at h
                      refine AW.skip ?_
                      refine athen_n ?_
                      refine AW.seq ?_
                      refine AW.block ?_
                      refine AW.seq ?_
                      refine AW.ops ?_
                      obtain ⟨c53, h⟩ := ck_some.1 h
                      obtain ⟨c54, h⟩ := ck_some.1 h
                      refine AO.allF tab_ok (by decide) [(4, .bp 4 0), (9, .int .i64 (x0 % s.2.1)), (10, .int .i64 (y % s.2.1)), (16, .bool st2.1), (20, .bool st2.2.1), (24, .int .i64 (v0_8.1.getD st2.2.2.toNat 0)), (136, .own 90000), (137, .int .i64 (v0_8.1.length : Int)), (138, .int .i64 st2.2.2)] [(4, .box 24 [.int .i64 s.1, .int .i64 s.2.1, .sl (.sl (.int .i64)) s.2.2.1, .sl (.sl (.int .i64)) s.2.2.2]), (90000, .arr 3 (.int .i64) v0_8.1)] (by (simp only [go_sem, hb2, hb6, hb23, hb25, hb27, hb29, hb31, hb52]) <;> (repeat' with_reducible apply And.intro) <;> first | assumption | rfl | omega | (unfold maxLen; omega)) ?_
                      refine athen_n ?_
                      refine AW.seq ?_
                      refine AW.ops ?_
                      refine AO.segF tab_ok 4 (by decide) [(4, .bp 4 0), (9, .int .i64 (x0 % s.2.1)), (10, .int .i64 (y % s.2.1)), (16, .bool st2.1), (20, .bool st2.2.1), (136, .own 90000), (137, .int .i64 (v0_8.1.length : Int)), (138, .int .i64 st2.2.2), (143, .agg [.int .i64 s.1, .int .i64 s.2.1, .sl (.sl (.int .i64)) s.2.2.1, .sl (.sl (.int .i64)) s.2.2.2]), (144, .int .i64 (v0_8.1.getD st2.2.2.toNat 0)), (145, .int .i64 (x0 % s.2.1)), (146, .int .i64 (y % s.2.1))] [(4, .box 24 [.int .i64 s.1, .int .i64 s.2.1, .sl (.sl (.int .i64)) s.2.2.1, .sl (.sl (.int .i64)) s.2.2.2]), (90000, .arr 3 (.int .i64) v0_8.1)] (by (simp only [go_sem, hb2, hb6, hb23, hb25, hb27, hb29, hb31, hb52]) <;> (repeat' with_reducible apply And.intro) <;> first | assumption | rfl | omega | (unfold maxLen; omega)) ?_
                      obtain ⟨v0_9, hv55, h⟩ := Option.bind_eq_some_iff.1 h
                      refine AO.call tab_ok (by decide) rfl rfl rfl (fun _ h => h) [] [] (hc_spec_Commute s (v0_8.1.getD st2.2.2.toNat 0) (x0 % s.2.1) (y % s.2.1) hv55) rfl (by (simp only [go_sem, hb2, hb6, hb23, hb25, hb27, hb29, hb31, hb52]) <;> (repeat' with_reducible apply And.intro) <;> first | assumption | rfl | omega | (unfold maxLen; omega)) (by (simp only [go_sem, hb2, hb6, hb23, hb25, hb27, hb29, hb31, hb52]) <;> (repeat' with_reducible apply And.intro) <;> first | assumption | rfl | omega | (unfold maxLen; omega)) [(4, .bp 4 0), (9, .int .i64 (x0 % s.2.1)), (10, .int .i64 (y % s.2.1)), (16, .bool st2.1), (20, .bool st2.2.1), (136, .own 90000), (137, .int .i64 (v0_8.1.length : Int)), (138, .int .i64 st2.2.2), (147, .tup [.bool v0_9.1, .int .i64 v0_9.2])] [(4, .box 24 [.int .i64 s.1, .int .i64 s.2.1, .sl (.sl (.int .i64)) s.2.2.1, .sl (.sl (.int .i64)) s.2.2.2]), (90000, .arr 3 (.int .i64) v0_8.1)] (by (simp only [go_sem, hb2, hb6, hb23, hb25, hb27, hb29, hb31, hb52]) <;> (repeat' with_reducible apply And.intro) <;> first | assumption | rfl | omega | (unfold maxLen; omega)) ?_
                      refine AO.allF tab_ok (by decide) [(4, .bp 4 0), (9, .int .i64 (x0 % s.2.1)), (10, .int .i64 (y % s.2.1)), (16, .bool st2.1), (20, .bool st2.2.1), (25, .bool v0_9.1), (26, .int .i64 v0_9.2), (136, .own 90000), (137, .int .i64 (v0_8.1.length : Int)), (138, .int .i64 st2.2.2)] [(4, .box 24 [.int .i64 s.1, .int .i64 s.2.1, .sl (.sl (.int .i64)) s.2.2.1, .sl (.sl (.int .i64)) s.2.2.2]), (90000, .arr 3 (.int .i64) v0_8.1)] (by (simp only [go_sem, hb2, hb6, hb23, hb25, hb27, hb29, hb31, hb52]) <;> (repeat' with_reducible apply And.intro) <;> first | assumption | rfl | omega | (unfold maxLen; omega)) ?_
                      refine athen_n ?_
                      refine AW.seq ?_
                      refine AW.ops ?_
                      refine AO.segF tab_ok 3 (by decide) [(4, .bp 4 0), (9, .int .i64 (x0 % s.2.1)), (10, .int .i64 (y % s.2.1)), (16, .bool st2.1), (20, .bool st2.2.1), (25, .bool v0_9.1), (136, .own 90000), (137, .int .i64 (v0_8.1.length : Int)), (138, .int .i64 st2.2.2), (152, .bool (!(decide (v0_9.2 = 0))))] [(4, .box 24 [.int .i64 s.1, .int .i64 s.2.1, .sl (.sl (.int .i64)) s.2.2.1, .sl (.sl (.int .i64)) s.2.2.2]), (90000, .arr 3 (.int .i64) v0_8.1)] (by (simp only [go_sem, hb2, hb6, hb23, hb25, hb27, hb29, hb31, hb52]) <;> (repeat' with_reducible apply And.intro) <;> first | assumption | rfl | omega | (unfold maxLen; omega)) ?_
                      rcases Bool.eq_false_or_eq_true (!(decide (v0_9.2 = 0))) with hb56 | hb56
                      · rw [if_pos hb56] at h
                        refine AO.weaken (s' := ⟨fr [(4, .bp 4 0), (9, .int .i64 (x0 % s.2.1)), (10, .int .i64 (y % s.2.1)), (16, .bool st2.1), (20, .bool st2.2.1), (25, .bool v0_9.1), (136, .own 90000), (137, .int .i64 (v0_8.1.length : Int)), (138, .int .i64 st2.2.2), (152, .bool true)], hpGet [(4, .box 24 [.int .i64 s.1, .int .i64 s.2.1, .sl (.sl (.int .i64)) s.2.2.1, .sl (.sl (.int .i64)) s.2.2.2]), (90000, .arr 3 (.int .i64) v0_8.1)], gt⟩) (Wk.to (by (simp only [go_sem, hb2, hb6, hb23, hb25, hb27, hb29, hb31, hb52, hb56]) <;> (repeat' with_reducible apply And.intro) <;> first | assumption | rfl | omega | (unfold maxLen; omega))) ?_
                        refine AO.segF tab_ok 4 (by decide) [(4, .bp 4 0), (9, .int .i64 (x0 % s.2.1)), (10, .int .i64 (y % s.2.1)), (16, .bool st2.1), (20, .bool st2.2.1), (25, .bool v0_9.1), (136, .own 90000), (137, .int .i64 (v0_8.1.length : Int)), (138, .int .i64 st2.2.2), (152, .bool true), (156, .cv (undef))] [(4, .box 24 [.int .i64 s.1, .int .i64 s.2.1, .sl (.sl (.int .i64)) s.2.2.1, .sl (.sl (.int .i64)) s.2.2.2]), (90000, .arr 3 (.int .i64) v0_8.1)] (by (simp only [go_sem, hb2, hb6, hb23, hb25, hb27, hb29, hb31, hb52, hb56]) <;> (repeat' with_reducible apply And.intro) <;> first | assumption | rfl | omega | (unfold maxLen; omega)) ?_
                        refine AO.segF tab_ok 4 (by decide) [(4, .bp 4 0), (9, .int .i64 (x0 % s.2.1)), (10, .int .i64 (y % s.2.1)), (16, .bool st2.1), (20, .bool st2.2.1), (136, .own 90000), (137, .int .i64 (v0_8.1.length : Int)), (138, .int .i64 st2.2.2), (152, .bool true), (160, .cv (undef))] [(4, .box 24 [.int .i64 s.1, .int .i64 s.2.1, .sl (.sl (.int .i64)) s.2.2.1, .sl (.sl (.int .i64)) s.2.2.2]), (90000, .arr 3 (.int .i64) v0_8.1)] (by (simp only [go_sem, hb2, hb6, hb23, hb25, hb27, hb29, hb31, hb52, hb56]) <;> (repeat' with_reducible apply And.intro) <;> first | assumption | rfl | omega | (unfold maxLen; omega)) ?_
                        refine AO.allF tab_ok (by decide) [(4, .bp 4 0), (9, .int .i64 (x0 % s.2.1)), (10, .int .i64 (y % s.2.1)), (16, .bool st2.1), (20, .bool st2.2.1), (136, .own 90000), (137, .int .i64 (v0_8.1.length : Int)), (138, .int .i64 st2.2.2), (161, .bool true)] [(4, .box 24 [.int .i64 s.1, .int .i64 s.2.1, .sl (.sl (.int .i64)) s.2.2.1, .sl (.sl (.int .i64)) s.2.2.2]), (90000, .arr 3 (.int .i64) v0_8.1)] (by (simp only [go_sem, hb2, hb6, hb23, hb25, hb27, hb29, hb31, hb52, hb56]) <;> (repeat' with_reducible apply And.intro) <;> first | assumption | rfl | omega | (unfold maxLen; omega)) ?_
                        refine athen_n ?_
                        refine AW.cond (b := true) rfl (fun _ => ?_) (fun hb57 => by cases hb57)
                        refine AW.seq ?_
                        refine AW.ops ?_
                        refine AO.allF tab_ok (by decide) [(8, .bool false)] [] (by (simp only [go_sem, hb2, hb6, hb23, hb25, hb27, hb29, hb31, hb52, hb56]) <;> (repeat' with_reducible apply And.intro) <;> first | assumption | rfl | omega | (unfold maxLen; omega)) ?_
                        refine athen_n ?_
                        refine AW.ret ?_
                        refine ablock_r ?_
                        refine athen_r ?_
                        obtain rfl := Option.some.inj h
                        rw [← hd49 _ rfl] at ho48
                        have h := ho48
                        try simp only at h
                        refine athen_r ?_
                        refine ablock_r ?_
                        refine athen_r ?_
                        obtain rfl := Option.some.inj h
                        exact ⟨rfl, [], [], [], rfl, (by (simp only [go_sem, hb2, hb6, hb23, hb25, hb27, hb29, hb31, hb52, hb56]) <;> (repeat' with_reducible apply And.intro) <;> first | assumption | rfl | omega | (unfold maxLen; omega))⟩
                      · rw [if_neg (Bool.eq_false_iff.1 hb56)] at h
                        refine AO.weaken (s' := ⟨fr [(4, .bp 4 0), (9, .int .i64 (x0 % s.2.1)), (10, .int .i64 (y % s.2.1)), (16, .bool st2.1), (20, .bool st2.2.1), (25, .bool v0_9.1), (136, .own 90000), (137, .int .i64 (v0_8.1.length : Int)), (138, .int .i64 st2.2.2), (152, .bool false)], hpGet [(4, .box 24 [.int .i64 s.1, .int .i64 s.2.1, .sl (.sl (.int .i64)) s.2.2.1, .sl (.sl (.int .i64)) s.2.2.2]), (90000, .arr 3 (.int .i64) v0_8.1)], gt⟩) (Wk.to (by (simp only [go_sem, hb2, hb6, hb23, hb25, hb27, hb29, hb31, hb52, hb56]) <;> (repeat' with_reducible apply And.intro) <;> first | assumption | rfl | omega | (unfold maxLen; omega))) ?_
                        refine AO.segF tab_ok 2 (by decide) [(4, .bp 4 0), (9, .int .i64 (x0 % s.2.1)), (10, .int .i64 (y % s.2.1)), (16, .bool st2.1), (20, .bool st2.2.1), (25, .bool v0_9.1), (136, .own 90000), (137, .int .i64 (v0_8.1.length : Int)), (138, .int .i64 st2.2.2), (152, .bool false), (154, .bool st2.1)] [(4, .box 24 [.int .i64 s.1, .int .i64 s.2.1, .sl (.sl (.int .i64)) s.2.2.1, .sl (.sl (.int .i64)) s.2.2.2]), (90000, .arr 3 (.int .i64) v0_8.1)] (by (simp only [go_sem, hb2, hb6, hb23, hb25, hb27, hb29, hb31, hb52, hb56]) <;> (repeat' with_reducible apply And.intro) <;> first | assumption | rfl | omega | (unfold maxLen; omega)) ?_
                        rcases Bool.eq_false_or_eq_true st2.1 with hb58 | hb58
                        · rw [if_pos hb58] at h
                          refine AO.weaken (s' := ⟨fr [(4, .bp 4 0), (9, .int .i64 (x0 % s.2.1)), (10, .int .i64 (y % s.2.1)), (16, .bool true), (20, .bool st2.2.1), (25, .bool v0_9.1), (136, .own 90000), (137, .int .i64 (v0_8.1.length : Int)), (138, .int .i64 st2.2.2), (152, .bool false), (154, .bool true)], hpGet [(4, .box 24 [.int .i64 s.1, .int .i64 s.2.1, .sl (.sl (.int .i64)) s.2.2.1, .sl (.sl (.int .i64)) s.2.2.2]), (90000, .arr 3 (.int .i64) v0_8.1)], gt⟩) (Wk.to (by (simp only [go_sem, hb2, hb6, hb23, hb25, hb27, hb29, hb31, hb52, hb56, hb58]) <;> (repeat' with_reducible apply And.intro) <;> first | assumption | rfl | omega | (unfold maxLen; omega))) ?_
                          refine AO.segF tab_ok 3 (by decide) [(4, .bp 4 0), (9, .int .i64 (x0 % s.2.1)), (10, .int .i64 (y % s.2.1)), (16, .bool true), (20, .bool st2.2.1), (25, .bool v0_9.1), (136, .own 90000), (137, .int .i64 (v0_8.1.length : Int)), (138, .int .i64 st2.2.2), (152, .bool false), (157, .bool st2.2.1)] [(4, .box 24 [.int .i64 s.1, .int .i64 s.2.1, .sl (.sl (.int .i64)) s.2.2.1, .sl (.sl (.int .i64)) s.2.2.2]), (90000, .arr 3 (.int .i64) v0_8.1)] (by (simp only [go_sem, hb2, hb6, hb23, hb25, hb27, hb29, hb31, hb52, hb56, hb58]) <;> (repeat' with_reducible apply And.intro) <;> first | assumption | rfl | omega | (unfold maxLen; omega)) ?_
                          rcases Bool.eq_false_or_eq_true st2.2.1 with hb59 | hb59
                          · rw [if_pos hb59] at h
                            refine AO.weaken (s' := ⟨fr [(4, .bp 4 0), (9, .int .i64 (x0 % s.2.1)), (10, .int .i64 (y % s.2.1)), (16, .bool true), (20, .bool true), (25, .bool v0_9.1), (136, .own 90000), (137, .int .i64 (v0_8.1.length : Int)), (138, .int .i64 st2.2.2), (152, .bool false), (157, .bool true)], hpGet [(4, .box 24 [.int .i64 s.1, .int .i64 s.2.1, .sl (.sl (.int .i64)) s.2.2.1, .sl (.sl (.int .i64)) s.2.2.2]), (90000, .arr 3 (.int .i64) v0_8.1)], gt⟩) (Wk.to (by (simp only [go_sem, hb2, hb6, hb23, hb25, hb27, hb29, hb31, hb52, hb56, hb58, hb59]) <;> (repeat' with_reducible apply And.intro) <;> first | assumption | rfl | omega | (unfold maxLen; omega))) ?_
                            refine AO.allF tab_ok (by decide) [(4, .bp 4 0), (9, .int .i64 (x0 % s.2.1)), (10, .int .i64 (y % s.2.1)), (16, .bool true), (20, .bool true), (136, .own 90000), (137, .int .i64 (v0_8.1.length : Int)), (138, .int .i64 st2.2.2), (161, .bool (!v0_9.1))] [(4, .box 24 [.int .i64 s.1, .int .i64 s.2.1, .sl (.sl (.int .i64)) s.2.2.1, .sl (.sl (.int .i64)) s.2.2.2]), (90000, .arr 3 (.int .i64) v0_8.1)] (by (simp only [go_sem, hb2, hb6, hb23, hb25, hb27, hb29, hb31, hb52, hb56, hb58, hb59]) <;> (repeat' with_reducible apply And.intro) <;> first | assumption | rfl | omega | (unfold maxLen; omega)) ?_
                            refine athen_n ?_
                            refine AW.cond (b := (!v0_9.1)) rfl (fun hb60 => ?_) (fun hb60 => ?_)
                            · rw [if_pos hb60] at h
                              refine AW.seq ?_
                              refine AW.ops ?_
                              refine AO.allF tab_ok (by decide) [(8, .bool false)] [] (by (simp only [go_sem, hb2, hb6, hb23, hb25, hb27, hb29, hb31, hb52, hb56, hb58, hb59, hb60]) <;> (repeat' with_reducible apply And.intro) <;> first | assumption | rfl | omega | (unfold maxLen; omega)) ?_
                              refine athen_n ?_
                              refine AW.ret ?_
                              refine ablock_r ?_
                              refine athen_r ?_
                              obtain rfl := Option.some.inj h
                              rw [← hd49 _ rfl] at ho48
                              have h := ho48
                              try simp only at h
                              refine athen_r ?_
                              refine ablock_r ?_
                              refine athen_r ?_
                              obtain rfl := Option.some.inj h
                              exact ⟨rfl, [], [], [], rfl, (by (simp only [go_sem, hb2, hb6, hb23, hb25, hb27, hb29, hb31, hb52, hb56, hb58, hb59, hb60]) <;> (repeat' with_reducible apply And.intro) <;> first | assumption | rfl | omega | (unfold maxLen; omega))⟩
                            · rw [if_neg (Bool.eq_false_iff.1 hb60)] at h
                              refine AW.skip ?_
                              refine ablock_n ?_
                              refine athen_n ?_
                              refine AW.ops ?_
                              obtain ⟨c61, h⟩ := ck_some.1 h
                              refine AO.allF tab_ok (by decide) [(4, .bp 4 0), (9, .int .i64 (x0 % s.2.1)), (10, .int .i64 (y % s.2.1)), (16, .bool true), (20, .bool true), (136, .own 90000), (137, .int .i64 (v0_8.1.length : Int)), (138, .int .i64 (st2.2.2 + 1))] [(4, .box 24 [.int .i64 s.1, .int .i64 s.2.1, .sl (.sl (.int .i64)) s.2.2.1, .sl (.sl (.int .i64)) s.2.2.2]), (90000, .arr 3 (.int .i64) v0_8.1)] (by (simp only [go_sem, hb2, hb6, hb23, hb25, hb27, hb29, hb31, hb52, hb56, hb58, hb59, hb60]) <;> (repeat' with_reducible apply And.intro) <;> first | assumption | rfl | omega | (unfold maxLen; omega)) ?_
                              obtain rfl := Option.some.inj h
                              exact ⟨_, rfl, Wk.le [] [] [] rfl (by (simp only [go_sem, hb2, hb6, hb23, hb25, hb27, hb29, hb31, hb52, hb56, hb58, hb59, hb60]) <;> (repeat' with_reducible apply And.intro) <;> first | assumption | rfl | omega | (unfold maxLen; omega)) (by (simp only [go_sem, hb2, hb6, hb23, hb25, hb27, hb29, hb31, hb52, hb56, hb58, hb59, hb60]) <;> (repeat' with_reducible apply And.intro) <;> first | assumption | rfl | omega | (unfold maxLen; omega))⟩
                          · rw [if_neg (Bool.eq_false_iff.1 hb59)] at h
                            refine AO.weaken (s' := ⟨fr [(4, .bp 4 0), (9, .int .i64 (x0 % s.2.1)), (10, .int .i64 (y % s.2.1)), (16, .bool true), (20, .bool false), (25, .bool v0_9.1), (136, .own 90000), (137, .int .i64 (v0_8.1.length : Int)), (138, .int .i64 st2.2.2), (152, .bool false), (157, .bool false)], hpGet [(4, .box 24 [.int .i64 s.1, .int .i64 s.2.1, .sl (.sl (.int .i64)) s.2.2.1, .sl (.sl (.int .i64)) s.2.2.2]), (90000, .arr 3 (.int .i64) v0_8.1)], gt⟩) (Wk.to (by (simp only [go_sem, hb2, hb6, hb23, hb25, hb27, hb29, hb31, hb52, hb56, hb58, hb59]) <;> (repeat' with_reducible apply And.intro) <;> first | assumption | rfl | omega | (unfold maxLen; omega))) ?_
                            refine AO.allF tab_ok (by decide) [(4, .bp 4 0), (9, .int .i64 (x0 % s.2.1)), (10, .int .i64 (y % s.2.1)), (16, .bool true), (20, .bool false), (136, .own 90000), (137, .int .i64 (v0_8.1.length : Int)), (138, .int .i64 st2.2.2), (161, .bool false)] [(4, .box 24 [.int .i64 s.1, .int .i64 s.2.1, .sl (.sl (.int .i64)) s.2.2.1, .sl (.sl (.int .i64)) s.2.2.2]), (90000, .arr 3 (.int .i64) v0_8.1)] (by (simp only [go_sem, hb2, hb6, hb23, hb25, hb27, hb29, hb31, hb52, hb56, hb58, hb59]) <;> (repeat' with_reducible apply And.intro) <;> first | assumption | rfl | omega | (unfold maxLen; omega)) ?_
                            refine athen_n ?_
                            refine AW.cond (b := false) rfl (fun hb62 => by cases hb62) (fun _ => ?_)
                            refine AW.skip ?_
                            refine ablock_n ?_
                            refine athen_n ?_
                            refine AW.ops ?_
                            obtain ⟨c63, h⟩ := ck_some.1 h
                            refine AO.allF tab_ok (by decide) [(4, .bp 4 0), (9, .int .i64 (x0 % s.2.1)), (10, .int .i64 (y % s.2.1)), (16, .bool true), (20, .bool false), (136, .own 90000), (137, .int .i64 (v0_8.1.length : Int)), (138, .int .i64 (st2.2.2 + 1))] [(4, .box 24 [.int .i64 s.1, .int .i64 s.2.1, .sl (.sl (.int .i64)) s.2.2.1, .sl (.sl (.int .i64)) s.2.2.2]), (90000, .arr 3 (.int .i64) v0_8.1)] (by (simp only [go_sem, hb2, hb6, hb23, hb25, hb27, hb29, hb31, hb52, hb56, hb58, hb59]) <;> (repeat' with_reducible apply And.intro) <;> first | assumption | rfl | omega | (unfold maxLen; omega)) ?_
                            obtain rfl := Option.some.inj h
                            exact ⟨_, rfl, Wk.le [] [] [] rfl (by (simp only [go_sem, hb2, hb6, hb23, hb25, hb27, hb29, hb31, hb52, hb56, hb58, hb59]) <;> (repeat' with_reducible apply And.intro) <;> first | assumption | rfl | omega | (unfold maxLen; omega)) (by (simp only [go_sem, hb2, hb6, hb23, hb25, hb27, hb29, hb31, hb52, hb56, hb58, hb59]) <;> (repeat' with_reducible apply And.intro) <;> first | assumption | rfl | omega | (unfold maxLen; omega))⟩
                        · rw [if_neg (Bool.eq_false_iff.1 hb58)] at h
                          refine AO.weaken (s' := ⟨fr [(4, .bp 4 0), (9, .int .i64 (x0 % s.2.1)), (10, .int .i64 (y % s.2.1)), (16, .bool false), (20, .bool st2.2.1), (25, .bool v0_9.1), (136, .own 90000), (137, .int .i64 (v0_8.1.length : Int)), (138, .int .i64 st2.2.2), (152, .bool false), (154, .bool false)], hpGet [(4, .box 24 [.int .i64 s.1, .int .i64 s.2.1, .sl (.sl (.int .i64)) s.2.2.1, .sl (.sl (.int .i64)) s.2.2.2]), (90000, .arr 3 (.int .i64) v0_8.1)], gt⟩) (Wk.to (by (simp only [go_sem, hb2, hb6, hb23, hb25, hb27, hb29, hb31, hb52, hb56, hb58]) <;> (repeat' with_reducible apply And.intro) <;> first | assumption | rfl | omega | (unfold maxLen; omega))) ?_
                          refine AO.allF tab_ok (by decide) [(4, .bp 4 0), (9, .int .i64 (x0 % s.2.1)), (10, .int .i64 (y % s.2.1)), (16, .bool false), (20, .bool st2.2.1), (136, .own 90000), (137, .int .i64 (v0_8.1.length : Int)), (138, .int .i64 st2.2.2), (161, .bool false)] [(4, .box 24 [.int .i64 s.1, .int .i64 s.2.1, .sl (.sl (.int .i64)) s.2.2.1, .sl (.sl (.int .i64)) s.2.2.2]), (90000, .arr 3 (.int .i64) v0_8.1)] (by (simp only [go_sem, hb2, hb6, hb23, hb25, hb27, hb29, hb31, hb52, hb56, hb58]) <;> (repeat' with_reducible apply And.intro) <;> first | assumption | rfl | omega | (unfold maxLen; omega)) ?_
                          refine athen_n ?_
                          refine AW.cond (b := false) rfl (fun hb64 => by cases hb64) (fun _ => ?_)
                          refine AW.skip ?_
                          refine ablock_n ?_
                          refine athen_n ?_
                          refine AW.ops ?_
                          obtain ⟨c65, h⟩ := ck_some.1 h
                          refine AO.allF tab_ok (by decide) [(4, .bp 4 0), (9, .int .i64 (x0 % s.2.1)), (10, .int .i64 (y % s.2.1)), (16, .bool false), (20, .bool st2.2.1), (136, .own 90000), (137, .int .i64 (v0_8.1.length : Int)), (138, .int .i64 (st2.2.2 + 1))] [(4, .box 24 [.int .i64 s.1, .int .i64 s.2.1, .sl (.sl (.int .i64)) s.2.2.1, .sl (.sl (.int .i64)) s.2.2.2]), (90000, .arr 3 (.int .i64) v0_8.1)] (by (simp only [go_sem, hb2, hb6, hb23, hb25, hb27, hb29, hb31, hb52, hb56, hb58]) <;> (repeat' with_reducible apply And.intro) <;> first | assumption | rfl | omega | (unfold maxLen; omega)) ?_
                          obtain rfl := Option.some.inj h
                          exact ⟨_, rfl, Wk.le [] [] [] rfl (by (simp only [go_sem, hb2, hb6, hb23, hb25, hb27, hb29, hb31, hb52, hb56, hb58]) <;> (repeat' with_reducible apply And.intro) <;> first | assumption | rfl | omega | (unfold maxLen; omega)) (by (simp only [go_sem, hb2, hb6, hb23, hb25, hb27, hb29, hb31, hb52, hb56, hb58]) <;> (repeat' with_reducible apply And.intro) <;> first | assumption | rfl | omega | (unfold maxLen; omega))⟩
                    · rw [if_neg (Bool.eq_false_iff.1 hb52)] at h
                      refine AW.exit ?_
                      refine athen_e ?_
                      obtain rfl := Option.some.inj h
                      rw [← hd49 _ rfl] at ho48
                      have h := ho48
                      try simp only at h
                      refine athen_e ?_
                      refine ablock_s ?_
                      refine athen_n ?_
                      exact AW.weaken (Wk.le [] [] [] rfl (by (simp only [go_sem, hb2, hb6, hb23, hb25, hb27, hb29, hb31, hb52]) <;> (repeat' with_reducible apply And.intro) <;> first | assumption | rfl | omega | (unfold maxLen; omega)) (by (simp only [go_sem, hb2, hb6, hb23, hb25, hb27, hb29, hb31, hb52]) <;> (repeat' with_reducible apply And.intro) <;> first | assumption | rfl | omega | (unfold maxLen; omega))) (hk_lineallaw01_SpecCommutes_k2 () h)
                · refine AW.seq ?_
                  refine AW.seq ?_
                  refine AW.ops ?_
                  refine AO.allF tab_ok (by decide) [(4, .bp 4 0), (9, .int .i64 (x0 % s.2.1)), (10, .int .i64 (y % s.2.1)), (16, .bool v0_7.1), (18, .own 90000), (20, .bool true), (102, .own 90000), (103, .int .i64 (v0_8.1.length : Int)), (104, .int .i64 0)] [(4, .box 24 [.int .i64 s.1, .int .i64 s.2.1, .sl (.sl (.int .i64)) s.2.2.1, .sl (.sl (.int .i64)) s.2.2.2]), (90000, .arr 3 (.int .i64) v0_8.1)] (by (simp only [go_sem, hb2, hb6, hb23, hb25, hb27, hb29, hb31]) <;> (repeat' with_reducible apply And.intro) <;> first | assumption | rfl | omega | (unfold maxLen; omega)) ?_
                  refine athen_n ?_
                  refine AW.block ?_
                  obtain ⟨rv70, hw66, ho67⟩ := Option.bind_eq_some_iff.1 h
                  refine AW.loopO (lineallaw01_SpecCommutes_b1 s x0 v0_8) (fun st1 => ⟨fr [(4, .bp 4 0), (9, .int .i64 (x0 % s.2.1)), (10, .int .i64 (y % s.2.1)), (16, .bool v0_7.1), (18, .own 90000), (20, .bool st1.1), (102, .own 90000), (103, .int .i64 (v0_8.1.length : Int)), (104, .int .i64 st1.2)], hpGet [(4, .box 24 [.int .i64 s.1, .int .i64 s.2.1, .sl (.sl (.int .i64)) s.2.2.1, .sl (.sl (.int .i64)) s.2.2.2]), (90000, .arr 3 (.int .i64) v0_8.1)], gt⟩) (true, 0) hw66 (Wk.le [] [] [] rfl (by (simp only [go_sem, hb2, hb6, hb23, hb25, hb27, hb29, hb31]) <;> (repeat' with_reducible apply And.intro) <;> first | assumption | rfl | omega | (unfold maxLen; omega)) (by (simp only [go_sem, hb2, hb6, hb23, hb25, hb27, hb29, hb31]) <;> (repeat' with_reducible apply And.intro) <;> first | assumption | rfl | omega | (unfold maxLen; omega))) ?_
                  intro st1 x69 h hd68
                  unfold lineallaw01_SpecCommutes_b1 at h
                  refine AW.seq ?_
                  refine AW.ops ?_
                  refine AO.allF tab_ok (by decide) [(4, .bp 4 0), (9, .int .i64 (x0 % s.2.1)), (10, .int .i64 (y % s.2.1)), (16, .bool v0_7.1), (18, .own 90000), (20, .bool st1.1), (102, .own 90000), (103, .int .i64 (v0_8.1.length : Int)), (104, .int .i64 st1.2), (105, .bool (decide (st1.2 < (v0_8.1.length : Int))))] [(4, .box 24 [.int .i64 s.1, .int .i64 s.2.1, .sl (.sl (.int .i64)) s.2.2.1, .sl (.sl (.int .i64)) s.2.2.2]), (90000, .arr 3 (.int .i64) v0_8.1)] (by (simp only [go_sem, hb2, hb6, hb23, hb25, hb27, hb29, hb31]) <;> (repeat' with_reducible apply And.intro) <;> first | assumption | rfl | omega | (unfold maxLen; omega)) ?_
                  refine athen_n ?_
                  refine AW.seq ?_
                  refine AW.cond (b := (decide (st1.2 < (v0_8.1.length : Int)))) rfl (fun hb71 => ?_) (fun hb71 => ?_)
                  · rw [if_pos hb71] at h
                    refine AW.skip ?_
                    refine athen_n ?_
                    refine AW.seq ?_
                    refine AW.block ?_
                    refine AW.seq ?_
                    refine AW.ops ?_
                    obtain ⟨c72, h⟩ := ck_some.1 h
                    obtain ⟨c73, h⟩ := ck_some.1 h
                    refine AO.allF tab_ok (by decide) [(4, .bp 4 0), (9, .int .i64 (x0 % s.2.1)), (10, .int .i64 (y % s.2.1)), (16, .bool v0_7.1), (18, .own 90000), (20, .bool st1.1), (22, .int .i64 (v0_8.1.getD st1.2.toNat 0)), (102, .own 90000), (103, .int .i64 (v0_8.1.length : Int)), (104, .int .i64 st1.2)] [(4, .box 24 [.int .i64 s.1, .int .i64 s.2.1, .sl (.sl (.int .i64)) s.2.2.1, .sl (.sl (.int .i64)) s.2.2.2]), (90000, .arr 3 (.int .i64) v0_8.1)] (by (simp only [go_sem, hb2, hb6, hb23, hb25, hb27, hb29, hb31, hb71]) <;> (repeat' with_reducible apply And.intro) <;> first | assumption | rfl | omega | (unfold maxLen; omega)) ?_
                    refine athen_n ?_
                    refine AW.seq ?_
                    refine AW.seq ?_
                    refine AW.ops ?_
                    refine AO.segF tab_ok 3 (by decide) [(4, .bp 4 0), (9, .int .i64 (x0 % s.2.1)), (10, .int .i64 (y % s.2.1)), (16, .bool v0_7.1), (18, .own 90000), (20, .bool st1.1), (22, .int .i64 (v0_8.1.getD st1.2.toNat 0)), (102, .own 90000), (103, .int .i64 (v0_8.1.length : Int)), (104, .int .i64 st1.2), (110, .bool (decide ((v0_8.1.getD st1.2.toNat 0) < 0)))] [(4, .box 24 [.int .i64 s.1, .int .i64 s.2.1, .sl (.sl (.int .i64)) s.2.2.1, .sl (.sl (.int .i64)) s.2.2.2]), (90000, .arr 3 (.int .i64) v0_8.1)] (by (simp only [go_sem, hb2, hb6, hb23, hb25, hb27, hb29, hb31, hb71]) <;> (repeat' with_reducible apply And.intro) <;> first | assumption | rfl | omega | (unfold maxLen; omega)) ?_
                    rcases Bool.eq_false_or_eq_true (decide ((v0_8.1.getD st1.2.toNat 0) < 0)) with hb74 | hb74
                    · rw [if_pos hb74] at h
                      refine AO.weaken (s' := ⟨fr [(4, .bp 4 0), (9, .int .i64 (x0 % s.2.1)), (10, .int .i64 (y % s.2.1)), (16, .bool v0_7.1), (18, .own 90000), (20, .bool st1.1), (22, .int .i64 (v0_8.1.getD st1.2.toNat 0)), (102, .own 90000), (103, .int .i64 (v0_8.1.length : Int)), (104, .int .i64 st1.2), (110, .bool true)], hpGet [(4, .box 24 [.int .i64 s.1, .int .i64 s.2.1, .sl (.sl (.int .i64)) s.2.2.1, .sl (.sl (.int .i64)) s.2.2.2]), (90000, .arr 3 (.int .i64) v0_8.1)], gt⟩) (Wk.to (by (simp only [go_sem, hb2, hb6, hb23, hb25, hb27, hb29, hb31, hb71, hb74]) <;> (repeat' with_reducible apply And.intro) <;> first | assumption | rfl | omega | (unfold maxLen; omega))) ?_
                      refine AO.segF tab_ok 4 (by decide) [(4, .bp 4 0), (9, .int .i64 (x0 % s.2.1)), (10, .int .i64 (y % s.2.1)), (16, .bool v0_7.1), (18, .own 90000), (20, .bool st1.1), (22, .int .i64 (v0_8.1.getD st1.2.toNat 0)), (102, .own 90000), (103, .int .i64 (v0_8.1.length : Int)), (104, .int .i64 st1.2), (110, .bool true), (114, .cv (undef))] [(4, .box 24 [.int .i64 s.1, .int .i64 s.2.1, .sl (.sl (.int .i64)) s.2.2.1, .sl (.sl (.int .i64)) s.2.2.2]), (90000, .arr 3 (.int .i64) v0_8.1)] (by (simp only [go_sem, hb2, hb6, hb23, hb25, hb27, hb29, hb31, hb71, hb74]) <;> (repeat' with_reducible apply And.intro) <;> first | assumption | rfl | omega | (unfold maxLen; omega)) ?_
                      refine AO.allF tab_ok (by decide) [(4, .bp 4 0), (9, .int .i64 (x0 % s.2.1)), (10, .int .i64 (y % s.2.1)), (16, .bool v0_7.1), (18, .own 90000), (20, .bool st1.1), (22, .int .i64 (v0_8.1.getD st1.2.toNat 0)), (102, .own 90000), (103, .int .i64 (v0_8.1.length : Int)), (104, .int .i64 st1.2), (115, .bool true)] [(4, .box 24 [.int .i64 s.1, .int .i64 s.2.1, .sl (.sl (.int .i64)) s.2.2.1, .sl (.sl (.int .i64)) s.2.2.2]), (90000, .arr 3 (.int .i64) v0_8.1)] (by (simp only [go_sem, hb2, hb6, hb23, hb25, hb27, hb29, hb31, hb71, hb74]) <;> (repeat' with_reducible apply And.intro) <;> first | assumption | rfl | omega | (unfold maxLen; omega)) ?_
                      refine athen_n ?_
                      refine AW.cond (b := true) rfl (fun _ => ?_) (fun hb75 => by cases hb75)
                      refine AW.seq ?_
                      refine AW.ops ?_
                      refine AO.allF tab_ok (by decide) [(8, .bool false)] [] (by (simp only [go_sem, hb2, hb6, hb23, hb25, hb27, hb29, hb31, hb71, hb74]) <;> (repeat' with_reducible apply And.intro) <;> first | assumption | rfl | omega | (unfold maxLen; omega)) ?_
                      refine athen_n ?_
                      refine AW.ret ?_
                      refine athen_r ?_
                      refine ablock_r ?_
                      refine athen_r ?_
                      obtain rfl := Option.some.inj h
                      rw [← hd68 _ rfl] at ho67
                      have h := ho67
                      try simp only at h
                      refine athen_r ?_
                      refine ablock_r ?_
                      refine athen_r ?_
                      obtain rfl := Option.some.inj h
                      exact ⟨rfl, [], [], [], rfl, (by (simp only [go_sem, hb2, hb6, hb23, hb25, hb27, hb29, hb31, hb71, hb74]) <;> (repeat' with_reducible apply And.intro) <;> first | assumption | rfl | omega | (unfold maxLen; omega))⟩
                    · rw [if_neg (Bool.eq_false_iff.1 hb74)] at h
                      refine AO.weaken (s' := ⟨fr [(4, .bp 4 0), (9, .int .i64 (x0 % s.2.1)), (10, .int .i64 (y % s.2.1)), (16, .bool v0_7.1), (18, .own 90000), (20, .bool st1.1), (22, .int .i64 (v0_8.1.getD st1.2.toNat 0)), (102, .own 90000), (103, .int .i64 (v0_8.1.length : Int)), (104, .int .i64 st1.2), (110, .bool false)], hpGet [(4, .box 24 [.int .i64 s.1, .int .i64 s.2.1, .sl (.sl (.int .i64)) s.2.2.1, .sl (.sl (.int .i64)) s.2.2.2]), (90000, .arr 3 (.int .i64) v0_8.1)], gt⟩) (Wk.to (by (simp only [go_sem, hb2, hb6, hb23, hb25, hb27, hb29, hb31, hb71, hb74]) <;> (repeat' with_reducible apply And.intro) <;> first | assumption | rfl | omega | (unfold maxLen; omega))) ?_
                      refine AO.allF tab_ok (by decide) [(4, .bp 4 0), (9, .int .i64 (x0 % s.2.1)), (10, .int .i64 (y % s.2.1)), (16, .bool v0_7.1), (18, .own 90000), (20, .bool st1.1), (22, .int .i64 (v0_8.1.getD st1.2.toNat 0)), (102, .own 90000), (103, .int .i64 (v0_8.1.length : Int)), (104, .int .i64 st1.2), (115, .bool (decide (s.1 ≤ (v0_8.1.getD st1.2.toNat 0))))] [(4, .box 24 [.int .i64 s.1, .int .i64 s.2.1, .sl (.sl (.int .i64)) s.2.2.1, .sl (.sl (.int .i64)) s.2.2.2]), (90000, .arr 3 (.int .i64) v0_8.1)] (by (simp only [go_sem, hb2, hb6, hb23, hb25, hb27, hb29, hb31, hb71, hb74]) <;> (repeat' with_reducible apply And.intro) <;> first | assumption | rfl | omega | (unfold maxLen; omega)) ?_
                      refine athen_n ?_
                      refine AW.cond (b := (decide (s.1 ≤ (v0_8.1.getD st1.2.toNat 0)))) rfl (fun hb76 => ?_) (fun hb76 => ?_)
                      · rw [if_pos hb76] at h
                        refine AW.seq ?_
                        refine AW.ops ?_
                        refine AO.allF tab_ok (by decide) [(8, .bool false)] [] (by (simp only [go_sem, hb2, hb6, hb23, hb25, hb27, hb29, hb31, hb71, hb74, hb76]) <;> (repeat' with_reducible apply And.intro) <;> first | assumption | rfl | omega | (unfold maxLen; omega)) ?_
                        refine athen_n ?_
                        refine AW.ret ?_
                        refine athen_r ?_
                        refine ablock_r ?_
                        refine athen_r ?_
                        obtain rfl := Option.some.inj h
                        rw [← hd68 _ rfl] at ho67
                        have h := ho67
                        try simp only at h
                        refine athen_r ?_
                        refine ablock_r ?_
                        refine athen_r ?_
                        obtain rfl := Option.some.inj h
                        exact ⟨rfl, [], [], [], rfl, (by (simp only [go_sem, hb2, hb6, hb23, hb25, hb27, hb29, hb31, hb71, hb74, hb76]) <;> (repeat' with_reducible apply And.intro) <;> first | assumption | rfl | omega | (unfold maxLen; omega))⟩
                      · rw [if_neg (Bool.eq_false_iff.1 hb76)] at h
                        refine AW.skip ?_
                        refine athen_n ?_
                        refine AW.draw tab_ok mixed_ok [] [] (by decide) (by kernel_rfl) ?_
                        refine adops_cut 2 (fun K' hK77 => ?_)
                        try dsimp only [List.drop_succ_cons, List.drop_zero, List.take_succ_cons, List.take_zero]
                        simp only [go_sem, hb2, hb6, hb23, hb25, hb27, hb29, hb31, hb71, hb74, hb76]
                        repeat (with_reducible refine And.intro (by first | assumption | rfl | omega | trivial | (unfold maxLen; omega)) ?_)
                        refine hK77 _ ?_
                        rcases Bool.eq_false_or_eq_true st1.1 with hb78 | hb78
                        · rw [if_pos hb78] at h
                          simp only [hb78]
                          obtain ⟨c80, h⟩ := ck_some.1 h
                          obtain ⟨c81, h⟩ := ck_some.1 h
                          refine adops_cut 6 (fun K' hK79 => ?_)
                          try dsimp only [List.drop_succ_cons, List.drop_zero, List.take_succ_cons, List.take_zero]
                          simp only [go_sem, hb2, hb6, hb23, hb25, hb27, hb29, hb31, hb71, hb74, hb76, hb78]
                          repeat (with_reducible refine And.intro (by first | assumption | rfl | omega | trivial | (unfold maxLen; omega)) ?_)
                          refine hK79 _ ?_
                          obtain ⟨c83, h⟩ := ck_some.1 h
                          obtain ⟨c84, h⟩ := ck_some.1 h
                          obtain ⟨c85, h⟩ := ck_some.1 h
                          refine adops_cut 6 (fun K' hK82 => ?_)
                          try dsimp only [List.drop_succ_cons, List.drop_zero, List.take_succ_cons, List.take_zero]
                          simp only [go_sem, hb2, hb6, hb23, hb25, hb27, hb29, hb31, hb71, hb74, hb76, hb78]
                          repeat (with_reducible refine And.intro (by first | assumption | rfl | omega | trivial | (unfold maxLen; omega)) ?_)
                          refine hK82 _ ?_
                          obtain ⟨c87, h⟩ := ck_some.1 h
                          obtain ⟨c88, h⟩ := ck_some.1 h
                          refine adops_cut 6 (fun K' hK86 => ?_)
                          try dsimp only [List.drop_succ_cons, List.drop_zero, List.take_succ_cons, List.take_zero]
                          simp only [go_sem, hb2, hb6, hb23, hb25, hb27, hb29, hb31, hb71, hb74, hb76, hb78]
                          repeat (with_reducible refine And.intro (by first | assumption | rfl | omega | trivial | (unfold maxLen; omega)) ?_)
                          refine hK86 _ ?_
                          refine adops_nil ?_
                          refine ablock_n ?_
                          refine athen_n ?_
                          refine AW.weaken (s' := ⟨fr [(4, .bp 4 0), (9, .int .i64 (x0 % s.2.1)), (10, .int .i64 (y % s.2.1)), (16, .bool v0_7.1), (18, .own 90000), (20, .bool (decide (((s.2.2.2.getD (v0_8.1.getD st1.2.toNat 0).toNat []).getD (x0 % s.2.1).toNat 0) = ((s.2.2.2.getD 0 []).getD (x0 % s.2.1).toNat 0)))), (102, .own 90000), (103, .int .i64 (v0_8.1.length : Int)), (104, .int .i64 st1.2)], hpGet [(4, .box 24 [.int .i64 s.1, .int .i64 s.2.1, .sl (.sl (.int .i64)) s.2.2.1, .sl (.sl (.int .i64)) s.2.2.2]), (90000, .arr 3 (.int .i64) v0_8.1)], gt⟩) (Wk.to (by (simp only [go_sem, hb2, hb6, hb23, hb25, hb27, hb29, hb31, hb71, hb74, hb76, hb78]) <;> (repeat' with_reducible apply And.intro) <;> first | assumption | rfl | omega | (unfold maxLen; omega))) ?_
                          refine AW.ops ?_
                          obtain ⟨c89, h⟩ := ck_some.1 h
                          refine AO.allF tab_ok (by decide) [(4, .bp 4 0), (9, .int .i64 (x0 % s.2.1)), (10, .int .i64 (y % s.2.1)), (16, .bool v0_7.1), (18, .own 90000), (20, .bool (decide (((s.2.2.2.getD (v0_8.1.getD st1.2.toNat 0).toNat []).getD (x0 % s.2.1).toNat 0) = ((s.2.2.2.getD 0 []).getD (x0 % s.2.1).toNat 0)))), (102, .own 90000), (103, .int .i64 (v0_8.1.length : Int)), (104, .int .i64 (st1.2 + 1))] [(4, .box 24 [.int .i64 s.1, .int .i64 s.2.1, .sl (.sl (.int .i64)) s.2.2.1, .sl (.sl (.int .i64)) s.2.2.2]), (90000, .arr 3 (.int .i64) v0_8.1)] (by (simp only [go_sem, hb2, hb6, hb23, hb25, hb27, hb29, hb31, hb71, hb74, hb76, hb78]) <;> (repeat' with_reducible apply And.intro) <;> first | assumption | rfl | omega | (unfold maxLen; omega)) ?_
                          obtain rfl := Option.some.inj h
                          exact ⟨_, rfl, Wk.le [] [] [] rfl (by (simp only [go_sem, hb2, hb6, hb23, hb25, hb27, hb29, hb31, hb71, hb74, hb76, hb78]) <;> (repeat' with_reducible apply And.intro) <;> first | assumption | rfl | omega | (unfold maxLen; omega)) (by (simp only [go_sem, hb2, hb6, hb23, hb25, hb27, hb29, hb31, hb71, hb74, hb76, hb78]) <;> (repeat' with_reducible apply And.intro) <;> first | assumption | rfl | omega | (unfold maxLen; omega))⟩
                        · rw [if_neg (Bool.eq_false_iff.1 hb78)] at h
                          simp only [hb78]
                          refine adops_cut 4 (fun K' hK90 => ?_)
                          try dsimp only [List.drop_succ_cons, List.drop_zero, List.take_succ_cons, List.take_zero]
                          simp only [go_sem, hb2, hb6, hb23, hb25, hb27, hb29, hb31, hb71, hb74, hb76, hb78]
                          repeat (with_reducible refine And.intro (by first | assumption | rfl | omega | trivial | (unfold maxLen; omega)) ?_)
                          refine hK90 _ ?_
                          refine adops_cut 4 (fun K' hK91 => ?_)
                          try dsimp only [List.drop_succ_cons, List.drop_zero, List.take_succ_cons, List.take_zero]
                          simp only [go_sem, hb2, hb6, hb23, hb25, hb27, hb29, hb31, hb71, hb74, hb76, hb78]
                          repeat (with_reducible refine And.intro (by first | assumption | rfl | omega | trivial | (unfold maxLen; omega)) ?_)
                          refine hK91 _ ?_
                          refine adops_cut 4 (fun K' hK92 => ?_)
                          try dsimp only [List.drop_succ_cons, List.drop_zero, List.take_succ_cons, List.take_zero]
                          simp only [go_sem, hb2, hb6, hb23, hb25, hb27, hb29, hb31, hb71, hb74, hb76, hb78]
                          repeat (with_reducible refine And.intro (by first | assumption | rfl | omega | trivial | (unfold maxLen; omega)) ?_)
                          refine hK92 _ ?_
                          refine adops_cut 4 (fun K' hK93 => ?_)
                          try dsimp only [List.drop_succ_cons, List.drop_zero, List.take_succ_cons, List.take_zero]
                          simp only [go_sem, hb2, hb6, hb23, hb25, hb27, hb29, hb31, hb71, hb74, hb76, hb78]
                          repeat (with_reducible refine And.intro (by first | assumption | rfl | omega | trivial | (unfold maxLen; omega)) ?_)
                          refine hK93 _ ?_
                          refine adops_cut 2 (fun K' hK94 => ?_)
                          try dsimp only [List.drop_succ_cons, List.drop_zero, List.take_succ_cons, List.take_zero]
                          simp only [go_sem, hb2, hb6, hb23, hb25, hb27, hb29, hb31, hb71, hb74, hb76, hb78]
                          repeat (with_reducible refine And.intro (by first | assumption | rfl | omega | trivial | (unfold maxLen; omega)) ?_)
                          refine hK94 _ ?_
                          refine adops_nil ?_
                          refine ablock_n ?_
                          refine athen_n ?_
                          refine AW.weaken (s' := ⟨fr [(4, .bp 4 0), (9, .int .i64 (x0 % s.2.1)), (10, .int .i64 (y % s.2.1)), (16, .bool v0_7.1), (18, .own 90000), (20, .bool false), (102, .own 90000), (103, .int .i64 (v0_8.1.length : Int)), (104, .int .i64 st1.2)], hpGet [(4, .box 24 [.int .i64 s.1, .int .i64 s.2.1, .sl (.sl (.int .i64)) s.2.2.1, .sl (.sl (.int .i64)) s.2.2.2]), (90000, .arr 3 (.int .i64) v0_8.1)], gt⟩) (Wk.to (by (simp only [go_sem, hb2, hb6, hb23, hb25, hb27, hb29, hb31, hb71, hb74, hb76, hb78]) <;> (repeat' with_reducible apply And.intro) <;> first | assumption | rfl | omega | (unfold maxLen; omega))) ?_
                          refine AW.ops ?_
                          obtain ⟨c95, h⟩ := ck_some.1 h
                          refine AO.allF tab_ok (by decide) [(4, .bp 4 0), (9, .int .i64 (x0 % s.2.1)), (10, .int .i64 (y % s.2.1)), (16, .bool v0_7.1), (18, .own 90000), (20, .bool false), (102, .own 90000), (103, .int .i64 (v0_8.1.length : Int)), (104, .int .i64 (st1.2 + 1))] [(4, .box 24 [.int .i64 s.1, .int .i64 s.2.1, .sl (.sl (.int .i64)) s.2.2.1, .sl (.sl (.int .i64)) s.2.2.2]), (90000, .arr 3 (.int .i64) v0_8.1)] (by (simp only [go_sem, hb2, hb6, hb23, hb25, hb27, hb29, hb31, hb71, hb74, hb76, hb78]) <;> (repeat' with_reducible apply And.intro) <;> first | assumption | rfl | omega | (unfold maxLen; omega)) ?_
                          obtain rfl := Option.some.inj h
                          exact ⟨_, rfl, Wk.le [] [] [] rfl (by (simp only [go_sem, hb2, hb6, hb23, hb25, hb27, hb29, hb31, hb71, hb74, hb76, hb78]) <;> (repeat' with_reducible apply And.intro) <;> first | assumption | rfl | omega | (unfold maxLen; omega)) (by (simp only [go_sem, hb2, hb6, hb23, hb25, hb27, hb29, hb31, hb71, hb74, hb76, hb78]) <;> (repeat' with_reducible apply And.intro) <;> first | assumption | rfl | omega | (unfold maxLen; omega))⟩
                  · rw [if_neg (Bool.eq_false_iff.1 hb71)] at h
                    refine AW.exit ?_
                    refine athen_e ?_
                    obtain rfl := Option.some.inj h
                    rw [← hd68 _ rfl] at ho67
                    have h := ho67
                    try simp only at h
                    refine athen_e ?_
                    refine ablock_s ?_
                    refine athen_n ?_
                    exact AW.weaken (Wk.le [] [] [] rfl (by (simp only [go_sem, hb2, hb6, hb23, hb25, hb27, hb29, hb31, hb71]) <;> (repeat' with_reducible apply And.intro) <;> first | assumption | rfl | omega | (unfold maxLen; omega)) (by (simp only [go_sem, hb2, hb6, hb23, hb25, hb27, hb29, hb31, hb71]) <;> (repeat' with_reducible apply And.intro) <;> first | assumption | rfl | omega | (unfold maxLen; omega))) (hk_lineallaw01_SpecCommutes_k1 _ h)

end Go.Proofs.Ytmcgmlcfogdioaa
