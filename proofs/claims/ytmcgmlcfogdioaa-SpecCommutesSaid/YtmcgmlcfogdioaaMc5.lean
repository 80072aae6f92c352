/-
  Made by wip/tool/dc.py out of the print of the program: contracts.
-/
import Derived.Test.YtmcgmlcfogdioaaQp
import Derived.Test.YtmcgmlcfogdioaaTb
import Derived.Test.YtmcgmlcfogdioaaMc1
import Derived.Test.YtmcgmlcfogdioaaMc3
import Derived.Test.YtmcgmlcfogdioaaMc4
namespace Go.Proofs.Ytmcgmlcfogdioaa
open Go.RowKit

set_option linter.unusedSimpArgs false
set_option linter.unusedVariables false
set_option linter.constructorNameAsVariable false

set_option maxRecDepth 100000 in
set_option maxHeartbeats 2000000 in
theorem hc_spec_machine_overwrites (m : Int × Int × (List (List Int)) × (List (List Int))) (state : Int) (a : Int) (b : Int) {r : Bool} (h : spec_machine_overwrites m state a b = some r) : HC Try.prog 87 [] [.agg [.int .i64 m.1, .int .i64 m.2.1, .sl (.sl (.int .i64)) m.2.2.1, .sl (.sl (.int .i64)) m.2.2.2], .int .i64 state, .int .i64 a, .int .i64 b] [] (.bool r) := by
  unfold spec_machine_overwrites at h
  refine HC.of_body tab_ok (res := [.tmp 8]) Try.func87 rfl (by kernel_rfl) rfl (nt := 43) rfl (by decide) (by simp) ?_
  refine AW.seq ?_
  refine AW.ops ?_
  refine AO.allF tab_ok (by decide) [(1, .int .i64 state), (2, .int .i64 a), (3, .int .i64 b), (4, .bp 4 0)] [(4, .box 60 [.int .i64 m.1, .int .i64 m.2.1, .sl (.sl (.int .i64)) m.2.2.1, .sl (.sl (.int .i64)) m.2.2.2])] (by (simp only [go_sem]) <;> (repeat' with_reducible apply And.intro) <;> first | assumption | rfl | omega | (unfold maxLen; omega)) ?_
  refine athen_n ?_
  refine AW.seq ?_
  refine AW.ops ?_
  refine AO.segF tab_ok 5 (by decide) [(1, .int .i64 state), (3, .int .i64 b), (4, .bp 4 0), (14, .agg [.int .i64 m.1, .int .i64 m.2.1, .sl (.sl (.int .i64)) m.2.2.1, .sl (.sl (.int .i64)) m.2.2.2]), (15, .int .i64 state), (18, .own 18)] [(4, .box 60 [.int .i64 m.1, .int .i64 m.2.1, .sl (.sl (.int .i64)) m.2.2.1, .sl (.sl (.int .i64)) m.2.2.2]), (18, .arr 3 (.int .i64) [a, b])] (by (simp only [go_sem]) <;> (repeat' with_reducible apply And.intro) <;> first | assumption | rfl | omega | (unfold maxLen; omega)) ?_
  obtain ⟨v0, hv1, h⟩ := Option.bind_eq_some_iff.1 h
  refine AO.call tab_ok (by decide) rfl rfl rfl (fun _ h => h) [18] [] (hc_spec_machine_run m state [a, b] hv1) rfl (by (simp only [go_sem]) <;> (repeat' with_reducible apply And.intro) <;> first | assumption | rfl | omega | (unfold maxLen; omega)) (by (simp only [go_sem]) <;> (repeat' with_reducible apply And.intro) <;> first | assumption | rfl | omega | (unfold maxLen; omega)) [(1, .int .i64 state), (3, .int .i64 b), (4, .bp 4 0), (19, .tup [.own 29000, .int .i64 v0.2])] [(4, .box 60 [.int .i64 m.1, .int .i64 m.2.1, .sl (.sl (.int .i64)) m.2.2.1, .sl (.sl (.int .i64)) m.2.2.2]), (29000, .arr 3 (.int .i64) v0.1)] (by (simp only [go_sem]) <;> (repeat' with_reducible apply And.intro) <;> first | assumption | rfl | omega | (unfold maxLen; omega)) ?_
  refine AO.allF tab_ok (by decide) [(1, .int .i64 state), (3, .int .i64 b), (4, .bp 4 0), (9, .own 29000), (10, .int .i64 v0.2)] [(4, .box 60 [.int .i64 m.1, .int .i64 m.2.1, .sl (.sl (.int .i64)) m.2.2.1, .sl (.sl (.int .i64)) m.2.2.2]), (29000, .arr 3 (.int .i64) v0.1)] (by (simp only [go_sem]) <;> (repeat' with_reducible apply And.intro) <;> first | assumption | rfl | omega | (unfold maxLen; omega)) ?_
  refine athen_n ?_
  refine AW.seq ?_
  refine AW.ops ?_
  refine AO.segF tab_ok 4 (by decide) [(4, .bp 4 0), (9, .own 29000), (10, .int .i64 v0.2), (23, .agg [.int .i64 m.1, .int .i64 m.2.1, .sl (.sl (.int .i64)) m.2.2.1, .sl (.sl (.int .i64)) m.2.2.2]), (24, .int .i64 state), (26, .own 26)] [(4, .box 60 [.int .i64 m.1, .int .i64 m.2.1, .sl (.sl (.int .i64)) m.2.2.1, .sl (.sl (.int .i64)) m.2.2.2]), (26, .arr 3 (.int .i64) [b]), (29000, .arr 3 (.int .i64) v0.1)] (by (simp only [go_sem]) <;> (repeat' with_reducible apply And.intro) <;> first | assumption | rfl | omega | (unfold maxLen; omega)) ?_
  obtain ⟨v0_2, hv2, h⟩ := Option.bind_eq_some_iff.1 h
  refine AO.call tab_ok (by decide) rfl rfl rfl (fun _ h => h) [26] [] (hc_spec_machine_run m state [b] hv2) rfl (by (simp only [go_sem]) <;> (repeat' with_reducible apply And.intro) <;> first | assumption | rfl | omega | (unfold maxLen; omega)) (by (simp only [go_sem]) <;> (repeat' with_reducible apply And.intro) <;> first | assumption | rfl | omega | (unfold maxLen; omega)) [(4, .bp 4 0), (9, .own 29000), (10, .int .i64 v0.2), (27, .tup [.own 37000, .int .i64 v0_2.2])] [(4, .box 60 [.int .i64 m.1, .int .i64 m.2.1, .sl (.sl (.int .i64)) m.2.2.1, .sl (.sl (.int .i64)) m.2.2.2]), (29000, .arr 3 (.int .i64) v0.1), (37000, .arr 3 (.int .i64) v0_2.1)] (by (simp only [go_sem]) <;> (repeat' with_reducible apply And.intro) <;> first | assumption | rfl | omega | (unfold maxLen; omega)) ?_
  refine AO.allF tab_ok (by decide) [(4, .bp 4 0), (9, .own 29000), (10, .int .i64 v0.2), (11, .own 37000), (12, .int .i64 v0_2.2)] [(4, .box 60 [.int .i64 m.1, .int .i64 m.2.1, .sl (.sl (.int .i64)) m.2.2.1, .sl (.sl (.int .i64)) m.2.2.2]), (29000, .arr 3 (.int .i64) v0.1), (37000, .arr 3 (.int .i64) v0_2.1)] (by (simp only [go_sem]) <;> (repeat' with_reducible apply And.intro) <;> first | assumption | rfl | omega | (unfold maxLen; omega)) ?_
  refine athen_n ?_
  refine AW.seq ?_
  refine AW.draw tab_ok mixed_ok [] [] (by decide) (by kernel_rfl) ?_
  obtain ⟨c4, h⟩ := ck_some.1 h
  obtain ⟨c5, h⟩ := ck_some.1 h
  refine adops_cut 6 (fun K' hK3 => ?_)
  try dsimp only [List.drop_succ_cons, List.drop_zero, List.take_succ_cons, List.take_zero]
  simp only [go_sem]
  repeat (with_reducible refine And.intro (by first | assumption | rfl | omega | trivial | (unfold maxLen; omega)) ?_)
  refine hK3 _ ?_
  refine adops_cut 2 (fun K' hK6 => ?_)
  try dsimp only [List.drop_succ_cons, List.drop_zero, List.take_succ_cons, List.take_zero]
  simp only [go_sem]
  repeat (with_reducible refine And.intro (by first | assumption | rfl | omega | trivial | (unfold maxLen; omega)) ?_)
  refine hK6 _ ?_
  rcases Bool.eq_false_or_eq_true (decide ((v0.1.getD 1 0) = (v0_2.1.getD 0 0))) with hb7 | hb7
  · rw [if_pos hb7] at h
    simp only [hb7]
    refine adops_cut 3 (fun K' hK8 => ?_)
    try dsimp only [List.drop_succ_cons, List.drop_zero, List.take_succ_cons, List.take_zero]
    simp only [go_sem, hb7]
    repeat (with_reducible refine And.intro (by first | assumption | rfl | omega | trivial | (unfold maxLen; omega)) ?_)
    refine hK8 _ ?_
    obtain ⟨v0_3, hv9, h⟩ := Option.bind_eq_some_iff.1 h
    refine adops.call (by first | trivial | rfl) rfl rfl rfl (fun _ h => ⟨fun _ => h, fun hn => absurd rfl hn⟩) [] [] (hc_spec_machine_same m v0.2 v0_2.2 hv9) rfl (by (simp only [go_sem, hb7]) <;> (repeat' with_reducible apply And.intro) <;> first | assumption | rfl | omega | (unfold maxLen; omega)) (by (simp only [go_sem, hb7]) <;> (repeat' with_reducible apply And.intro) <;> first | assumption | rfl | omega | (unfold maxLen; omega)) rfl ?_
    refine adops_cut 2 (fun K' hK10 => ?_)
    try dsimp only [List.drop_succ_cons, List.drop_zero, List.take_succ_cons, List.take_zero]
    simp only [go_sem, hb7]
    repeat (with_reducible refine And.intro (by first | assumption | rfl | omega | trivial | (unfold maxLen; omega)) ?_)
    refine hK10 _ ?_
    refine adops_nil ?_
    refine athen_n ?_
    refine AW.weaken (s' := ⟨fr [(8, .bool v0_3)], hpGet [], gt⟩) (Wk.to (by (simp only [go_sem, hb7]) <;> (repeat' with_reducible apply And.intro) <;> first | assumption | rfl | omega | (unfold maxLen; omega))) ?_
    refine AW.ret ?_
    obtain rfl := Option.some.inj h
    exact ⟨rfl, [], [], [], rfl, (by (simp only [go_sem, hb7]) <;> (repeat' with_reducible apply And.intro) <;> first | assumption | rfl | omega | (unfold maxLen; omega))⟩
  · rw [if_neg (Bool.eq_false_iff.1 hb7)] at h
    simp only [hb7]
    refine adops_cut 4 (fun K' hK11 => ?_)
    try dsimp only [List.drop_succ_cons, List.drop_zero, List.take_succ_cons, List.take_zero]
    simp only [go_sem, hb7]
    repeat (with_reducible refine And.intro (by first | assumption | rfl | omega | trivial | (unfold maxLen; omega)) ?_)
    refine hK11 _ ?_
    refine adops_cut 2 (fun K' hK12 => ?_)
    try dsimp only [List.drop_succ_cons, List.drop_zero, List.take_succ_cons, List.take_zero]
    simp only [go_sem, hb7]
    repeat (with_reducible refine And.intro (by first | assumption | rfl | omega | trivial | (unfold maxLen; omega)) ?_)
    refine hK12 _ ?_
    refine adops_nil ?_
    refine athen_n ?_
    refine AW.weaken (s' := ⟨fr [(8, .bool false)], hpGet [], gt⟩) (Wk.to (by (simp only [go_sem, hb7]) <;> (repeat' with_reducible apply And.intro) <;> first | assumption | rfl | omega | (unfold maxLen; omega))) ?_
    refine AW.ret ?_
    obtain rfl := Option.some.inj h
    exact ⟨rfl, [], [], [], rfl, (by (simp only [go_sem, hb7]) <;> (repeat' with_reducible apply And.intro) <;> first | assumption | rfl | omega | (unfold maxLen; omega))⟩

set_option maxRecDepth 100000 in
set_option maxHeartbeats 2000000 in
theorem hc_spec_machine_meddle (m : Int × Int × (List (List Int)) × (List (List Int))) (state : Int) (a : Int) (b : Int) {r : Bool} (h : spec_machine_meddle m state a b = some r) : HC Try.prog 90 [] [.agg [.int .i64 m.1, .int .i64 m.2.1, .sl (.sl (.int .i64)) m.2.2.1, .sl (.sl (.int .i64)) m.2.2.2], .int .i64 state, .int .i64 a, .int .i64 b] [] (.bool r) := by
  unfold spec_machine_meddle at h
  refine HC.of_body tab_ok (res := [.tmp 8]) Try.func90 rfl (by kernel_rfl) rfl (nt := 31) rfl (by decide) (by simp) ?_
  refine AW.seq ?_
  refine AW.ops ?_
  refine AO.allF tab_ok (by decide) [(1, .int .i64 state), (2, .int .i64 a), (3, .int .i64 b), (4, .bp 4 0)] [(4, .box 60 [.int .i64 m.1, .int .i64 m.2.1, .sl (.sl (.int .i64)) m.2.2.1, .sl (.sl (.int .i64)) m.2.2.2])] (by (simp only [go_sem]) <;> (repeat' with_reducible apply And.intro) <;> first | assumption | rfl | omega | (unfold maxLen; omega)) ?_
  refine athen_n ?_
  refine AW.seq ?_
  refine AW.ops ?_
  refine AO.segF tab_ok 4 (by decide) [(1, .int .i64 state), (2, .int .i64 a), (3, .int .i64 b), (4, .bp 4 0), (9, .agg [.int .i64 m.1, .int .i64 m.2.1, .sl (.sl (.int .i64)) m.2.2.1, .sl (.sl (.int .i64)) m.2.2.2]), (10, .int .i64 state), (11, .int .i64 a), (12, .int .i64 b)] [(4, .box 60 [.int .i64 m.1, .int .i64 m.2.1, .sl (.sl (.int .i64)) m.2.2.1, .sl (.sl (.int .i64)) m.2.2.2])] (by (simp only [go_sem]) <;> (repeat' with_reducible apply And.intro) <;> first | assumption | rfl | omega | (unfold maxLen; omega)) ?_
  obtain ⟨v0, hv1, h⟩ := Option.bind_eq_some_iff.1 h
  refine AO.call tab_ok (by decide) rfl rfl rfl (fun _ h => h) [] [] (hc_spec_machine_commute m state a b hv1) rfl (by (simp only [go_sem]) <;> (repeat' with_reducible apply And.intro) <;> first | assumption | rfl | omega | (unfold maxLen; omega)) (by (simp only [go_sem]) <;> (repeat' with_reducible apply And.intro) <;> first | assumption | rfl | omega | (unfold maxLen; omega)) [(1, .int .i64 state), (2, .int .i64 a), (3, .int .i64 b), (4, .bp 4 0), (13, .bool v0)] [(4, .box 60 [.int .i64 m.1, .int .i64 m.2.1, .sl (.sl (.int .i64)) m.2.2.1, .sl (.sl (.int .i64)) m.2.2.2])] (by (simp only [go_sem]) <;> (repeat' with_reducible apply And.intro) <;> first | assumption | rfl | omega | (unfold maxLen; omega)) ?_
  refine AO.segF tab_ok 2 (by decide) [(1, .int .i64 state), (2, .int .i64 a), (3, .int .i64 b), (4, .bp 4 0), (15, .bool (!v0))] [(4, .box 60 [.int .i64 m.1, .int .i64 m.2.1, .sl (.sl (.int .i64)) m.2.2.1, .sl (.sl (.int .i64)) m.2.2.2])] (by (simp only [go_sem]) <;> (repeat' with_reducible apply And.intro) <;> first | assumption | rfl | omega | (unfold maxLen; omega)) ?_
  rcases Bool.eq_false_or_eq_true (!v0) with hb2 | hb2
  · rw [if_pos hb2] at h
    refine AO.weaken (s' := ⟨fr [(1, .int .i64 state), (2, .int .i64 a), (3, .int .i64 b), (4, .bp 4 0), (15, .bool true)], hpGet [(4, .box 60 [.int .i64 m.1, .int .i64 m.2.1, .sl (.sl (.int .i64)) m.2.2.1, .sl (.sl (.int .i64)) m.2.2.2])], gt⟩) (Wk.to (by (simp only [go_sem, hb2]) <;> (repeat' with_reducible apply And.intro) <;> first | assumption | rfl | omega | (unfold maxLen; omega))) ?_
    refine AO.segF tab_ok 4 (by decide) [(1, .int .i64 state), (2, .int .i64 a), (3, .int .i64 b), (4, .bp 4 0), (15, .bool true), (16, .agg [.int .i64 m.1, .int .i64 m.2.1, .sl (.sl (.int .i64)) m.2.2.1, .sl (.sl (.int .i64)) m.2.2.2]), (17, .int .i64 state), (18, .int .i64 a), (19, .int .i64 b)] [(4, .box 60 [.int .i64 m.1, .int .i64 m.2.1, .sl (.sl (.int .i64)) m.2.2.1, .sl (.sl (.int .i64)) m.2.2.2])] (by (simp only [go_sem, hb2]) <;> (repeat' with_reducible apply And.intro) <;> first | assumption | rfl | omega | (unfold maxLen; omega)) ?_
    obtain ⟨v0_2, hv3, h⟩ := Option.bind_eq_some_iff.1 h
    refine AO.call tab_ok (by decide) rfl rfl rfl (fun _ h => ⟨fun _ => h, fun hn => absurd rfl hn⟩) [] [] (hc_spec_machine_overwrites m state a b hv3) rfl (by (simp only [go_sem, hb2]) <;> (repeat' with_reducible apply And.intro) <;> first | assumption | rfl | omega | (unfold maxLen; omega)) (by (simp only [go_sem, hb2]) <;> (repeat' with_reducible apply And.intro) <;> first | assumption | rfl | omega | (unfold maxLen; omega)) [(1, .int .i64 state), (2, .int .i64 a), (3, .int .i64 b), (4, .bp 4 0), (15, .bool true), (20, .bool v0_2)] [(4, .box 60 [.int .i64 m.1, .int .i64 m.2.1, .sl (.sl (.int .i64)) m.2.2.1, .sl (.sl (.int .i64)) m.2.2.2])] (by (simp only [go_sem, hb2]) <;> (repeat' with_reducible apply And.intro) <;> first | assumption | rfl | omega | (unfold maxLen; omega)) ?_
    refine AO.segF tab_ok 3 (by decide) [(1, .int .i64 state), (2, .int .i64 a), (3, .int .i64 b), (4, .bp 4 0), (23, .bool (!v0_2))] [(4, .box 60 [.int .i64 m.1, .int .i64 m.2.1, .sl (.sl (.int .i64)) m.2.2.1, .sl (.sl (.int .i64)) m.2.2.2])] (by (simp only [go_sem, hb2]) <;> (repeat' with_reducible apply And.intro) <;> first | assumption | rfl | omega | (unfold maxLen; omega)) ?_
    rcases Bool.eq_false_or_eq_true (!v0_2) with hb4 | hb4
    · rw [if_pos hb4] at h
      refine AO.weaken (s' := ⟨fr [(1, .int .i64 state), (2, .int .i64 a), (3, .int .i64 b), (4, .bp 4 0), (23, .bool true)], hpGet [(4, .box 60 [.int .i64 m.1, .int .i64 m.2.1, .sl (.sl (.int .i64)) m.2.2.1, .sl (.sl (.int .i64)) m.2.2.2])], gt⟩) (Wk.to (by (simp only [go_sem, hb2, hb4]) <;> (repeat' with_reducible apply And.intro) <;> first | assumption | rfl | omega | (unfold maxLen; omega))) ?_
      refine AO.segF tab_ok 4 (by decide) [(23, .bool true), (24, .agg [.int .i64 m.1, .int .i64 m.2.1, .sl (.sl (.int .i64)) m.2.2.1, .sl (.sl (.int .i64)) m.2.2.2]), (25, .int .i64 state), (26, .int .i64 b), (27, .int .i64 a)] [] (by (simp only [go_sem, hb2, hb4]) <;> (repeat' with_reducible apply And.intro) <;> first | assumption | rfl | omega | (unfold maxLen; omega)) ?_
      obtain ⟨v0_3, hv5, h⟩ := Option.bind_eq_some_iff.1 h
      refine AO.call tab_ok (by decide) rfl rfl rfl (fun _ h => ⟨fun _ => h, fun hn => absurd rfl hn⟩) [] [] (hc_spec_machine_overwrites m state b a hv5) rfl (by (simp only [go_sem, hb2, hb4]) <;> (repeat' with_reducible apply And.intro) <;> first | assumption | rfl | omega | (unfold maxLen; omega)) (by (simp only [go_sem, hb2, hb4]) <;> (repeat' with_reducible apply And.intro) <;> first | assumption | rfl | omega | (unfold maxLen; omega)) [(23, .bool true), (28, .bool v0_3)] [] (by (simp only [go_sem, hb2, hb4]) <;> (repeat' with_reducible apply And.intro) <;> first | assumption | rfl | omega | (unfold maxLen; omega)) ?_
      refine AO.allF tab_ok (by decide) [(8, .bool (!v0_3))] [] (by (simp only [go_sem, hb2, hb4]) <;> (repeat' with_reducible apply And.intro) <;> first | assumption | rfl | omega | (unfold maxLen; omega)) ?_
      refine athen_n ?_
      refine AW.ret ?_
      obtain rfl := Option.some.inj h
      exact ⟨rfl, [], [], [], rfl, (by (simp only [go_sem, hb2, hb4]) <;> (repeat' with_reducible apply And.intro) <;> first | assumption | rfl | omega | (unfold maxLen; omega))⟩
    · rw [if_neg (Bool.eq_false_iff.1 hb4)] at h
      refine AO.weaken (s' := ⟨fr [(1, .int .i64 state), (2, .int .i64 a), (3, .int .i64 b), (4, .bp 4 0), (23, .bool false)], hpGet [(4, .box 60 [.int .i64 m.1, .int .i64 m.2.1, .sl (.sl (.int .i64)) m.2.2.1, .sl (.sl (.int .i64)) m.2.2.2])], gt⟩) (Wk.to (by (simp only [go_sem, hb2, hb4]) <;> (repeat' with_reducible apply And.intro) <;> first | assumption | rfl | omega | (unfold maxLen; omega))) ?_
      refine AO.segF tab_ok 4 (by decide) [(23, .bool false), (24, .cv (undef)), (25, .cv (undef)), (26, .cv (undef)), (27, .cv (undef))] [] (by (simp only [go_sem, hb2, hb4]) <;> (repeat' with_reducible apply And.intro) <;> first | assumption | rfl | omega | (unfold maxLen; omega)) ?_
      refine AO.allF tab_ok (by decide) [(8, .bool false)] [] (by (simp only [go_sem, hb2, hb4]) <;> (repeat' with_reducible apply And.intro) <;> first | assumption | rfl | omega | (unfold maxLen; omega)) ?_
      refine athen_n ?_
      refine AW.ret ?_
      obtain rfl := Option.some.inj h
      exact ⟨rfl, [], [], [], rfl, (by (simp only [go_sem, hb2, hb4]) <;> (repeat' with_reducible apply And.intro) <;> first | assumption | rfl | omega | (unfold maxLen; omega))⟩
  · rw [if_neg (Bool.eq_false_iff.1 hb2)] at h
    refine AO.weaken (s' := ⟨fr [(1, .int .i64 state), (2, .int .i64 a), (3, .int .i64 b), (4, .bp 4 0), (15, .bool false)], hpGet [(4, .box 60 [.int .i64 m.1, .int .i64 m.2.1, .sl (.sl (.int .i64)) m.2.2.1, .sl (.sl (.int .i64)) m.2.2.2])], gt⟩) (Wk.to (by (simp only [go_sem, hb2]) <;> (repeat' with_reducible apply And.intro) <;> first | assumption | rfl | omega | (unfold maxLen; omega))) ?_
    refine AO.segF tab_ok 4 (by decide) [(1, .int .i64 state), (2, .int .i64 a), (3, .int .i64 b), (4, .bp 4 0), (15, .bool false), (16, .cv (undef)), (17, .cv (undef)), (18, .cv (undef)), (19, .cv (undef))] [(4, .box 60 [.int .i64 m.1, .int .i64 m.2.1, .sl (.sl (.int .i64)) m.2.2.1, .sl (.sl (.int .i64)) m.2.2.2])] (by (simp only [go_sem, hb2]) <;> (repeat' with_reducible apply And.intro) <;> first | assumption | rfl | omega | (unfold maxLen; omega)) ?_
    refine AO.segF tab_ok 6 (by decide) [(2, .int .i64 a), (3, .int .i64 b), (23, .bool false), (24, .cv (undef)), (25, .cv (undef))] [] (by (simp only [go_sem, hb2]) <;> (repeat' with_reducible apply And.intro) <;> first | assumption | rfl | omega | (unfold maxLen; omega)) ?_
    refine AO.segF tab_ok 4 (by decide) [(23, .bool false), (29, .cv (undef))] [] (by (simp only [go_sem, hb2]) <;> (repeat' with_reducible apply And.intro) <;> first | assumption | rfl | omega | (unfold maxLen; omega)) ?_
    refine AO.allF tab_ok (by decide) [(8, .bool false)] [] (by (simp only [go_sem, hb2]) <;> (repeat' with_reducible apply And.intro) <;> first | assumption | rfl | omega | (unfold maxLen; omega)) ?_
    refine athen_n ?_
    refine AW.ret ?_
    obtain rfl := Option.some.inj h
    exact ⟨rfl, [], [], [], rfl, (by (simp only [go_sem, hb2]) <;> (repeat' with_reducible apply And.intro) <;> first | assumption | rfl | omega | (unfold maxLen; omega))⟩

set_option maxRecDepth 100000 in
set_option maxHeartbeats 2000000 in
theorem hc_spec_Meddles (s : Int × Int × (List (List Int)) × (List (List Int))) {r : Int × Int × Int × Int} (h : spec_Meddles s = some r) : HC Try.prog 49 [] [.agg [.int .i64 s.1, .int .i64 s.2.1, .sl (.sl (.int .i64)) s.2.2.1, .sl (.sl (.int .i64)) s.2.2.2]] [] (.tup [.int .i64 r.1, .int .i64 r.2.1, .int .i64 r.2.2.1, .int .i64 r.2.2.2]) := by
  unfold spec_Meddles at h
  refine HC.of_body tab_ok (res := [.tmp 2, .tmp 3, .tmp 4, .tmp 5]) Try.func49 rfl (by kernel_rfl) rfl (nt := 48) rfl (by decide) (by simp) ?_
  refine AW.seq ?_
  refine AW.ops ?_
  refine AO.allF tab_ok (by decide) [(1, .bp 1 0)] [(1, .box 24 [.int .i64 s.1, .int .i64 s.2.1, .sl (.sl (.int .i64)) s.2.2.1, .sl (.sl (.int .i64)) s.2.2.2])] (by (simp only [go_sem]) <;> (repeat' with_reducible apply And.intro) <;> first | assumption | rfl | omega | (unfold maxLen; omega)) ?_
  refine athen_n ?_
  refine AW.seq ?_
  refine AW.ops ?_
  refine AO.segF tab_ok 1 (by decide) [(12, .agg [.int .i64 s.1, .int .i64 s.2.1, .sl (.sl (.int .i64)) s.2.2.1, .sl (.sl (.int .i64)) s.2.2.2])] [] (by (simp only [go_sem]) <;> (repeat' with_reducible apply And.intro) <;> first | assumption | rfl | omega | (unfold maxLen; omega)) ?_
  obtain ⟨v0, hv1, h⟩ := Option.bind_eq_some_iff.1 h
  refine AO.call tab_ok (by decide) rfl rfl rfl (fun _ h => h) [] [] (hc_spec_checked s [] hv1) rfl (by (simp only [go_sem]) <;> (repeat' with_reducible apply And.intro) <;> first | assumption | rfl | omega | (unfold maxLen; omega)) (by (simp only [go_sem]) <;> (repeat' with_reducible apply And.intro) <;> first | assumption | rfl | omega | (unfold maxLen; omega)) [(13, .tup [.agg [.int .i64 v0.1, .int .i64 v0.2.1, .sl (.sl (.int .i64)) v0.2.2.1, .sl (.sl (.int .i64)) v0.2.2.2.1], .int .i64 v0.2.2.2.2])] [] (by (simp only [go_sem]) <;> (repeat' with_reducible apply And.intro) <;> first | assumption | rfl | omega | (unfold maxLen; omega)) ?_
  refine AO.allF tab_ok (by decide) [(5, .int .i64 v0.2.2.2.2), (6, .bp 6 0)] [(6, .box 60 [.int .i64 v0.1, .int .i64 v0.2.1, .sl (.sl (.int .i64)) v0.2.2.1, .sl (.sl (.int .i64)) v0.2.2.2.1])] (by (simp only [go_sem]) <;> (repeat' with_reducible apply And.intro) <;> first | assumption | rfl | omega | (unfold maxLen; omega)) ?_
  refine athen_n ?_
  refine AW.seq ?_
  refine AW.seq ?_
  refine AW.ops ?_
  refine AO.allF tab_ok (by decide) [(5, .int .i64 v0.2.2.2.2), (6, .bp 6 0), (17, .bool (!(decide (v0.2.2.2.2 = 0))))] [(6, .box 60 [.int .i64 v0.1, .int .i64 v0.2.1, .sl (.sl (.int .i64)) v0.2.2.1, .sl (.sl (.int .i64)) v0.2.2.2.1])] (by (simp only [go_sem]) <;> (repeat' with_reducible apply And.intro) <;> first | assumption | rfl | omega | (unfold maxLen; omega)) ?_
  refine athen_n ?_
  refine AW.cond (b := (!(decide (v0.2.2.2.2 = 0)))) rfl (fun hb2 => ?_) (fun hb2 => ?_)
  · rw [if_pos hb2] at h
    refine AW.seq ?_
    refine AW.ops ?_
    refine AO.allF tab_ok (by decide) [(2, .int .i64 0), (3, .int .i64 0), (4, .int .i64 0), (5, .int .i64 v0.2.2.2.2)] [] (by (simp only [go_sem, hb2]) <;> (repeat' with_reducible apply And.intro) <;> first | assumption | rfl | omega | (unfold maxLen; omega)) ?_
    refine athen_n ?_
    refine AW.ret ?_
    refine athen_r ?_
    obtain rfl := Option.some.inj h
    exact ⟨rfl, [], [], [], rfl, (by (simp only [go_sem, hb2]) <;> (repeat' with_reducible apply And.intro) <;> first | assumption | rfl | omega | (unfold maxLen; omega))⟩
  · rw [if_neg (Bool.eq_false_iff.1 hb2)] at h
    refine AW.skip ?_
    refine athen_n ?_
    refine AW.have1 (fun _ : Unit => spec_Meddles_k1 = some r) (fun _ => ⟨fr [], hpGet [], gt⟩) (fun _ h => ?_) (fun hk_spec_Meddles_k1 => ?_)
    · unfold spec_Meddles_k1 at h
      refine AW.seq ?_
      refine AW.ops ?_
      refine AO.allF tab_ok (by decide) [(2, .int .i64 0), (3, .int .i64 0), (4, .int .i64 0), (5, .int .i64 5)] [] (by (simp only [go_sem, hb2]) <;> (repeat' with_reducible apply And.intro) <;> first | assumption | rfl | omega | (unfold maxLen; omega)) ?_
      refine athen_n ?_
      refine AW.ret ?_
      obtain rfl := Option.some.inj h
      exact ⟨rfl, [], [], [], rfl, (by (simp only [go_sem, hb2]) <;> (repeat' with_reducible apply And.intro) <;> first | assumption | rfl | omega | (unfold maxLen; omega))⟩
    · refine AW.seq ?_
      refine AW.seq ?_
      refine AW.ops ?_
      refine AO.segF tab_ok 1 (by decide) [(6, .bp 6 0), (19, .agg [.int .i64 v0.1, .int .i64 v0.2.1, .sl (.sl (.int .i64)) v0.2.2.1, .sl (.sl (.int .i64)) v0.2.2.2.1])] [(6, .box 60 [.int .i64 v0.1, .int .i64 v0.2.1, .sl (.sl (.int .i64)) v0.2.2.1, .sl (.sl (.int .i64)) v0.2.2.2.1])] (by (simp only [go_sem, hb2]) <;> (repeat' with_reducible apply And.intro) <;> first | assumption | rfl | omega | (unfold maxLen; omega)) ?_
      obtain ⟨v0_2, hv3, h⟩ := Option.bind_eq_some_iff.1 h
      refine AO.call tab_ok (by decide) rfl rfl rfl (fun _ h => h) [] [] (hc_spec_machine_reached (v0.1, v0.2.1, v0.2.2.1, v0.2.2.2.1) hv3) rfl (by (simp only [go_sem, hb2]) <;> (repeat' with_reducible apply And.intro) <;> first | assumption | rfl | omega | (unfold maxLen; omega)) (by (simp only [go_sem, hb2]) <;> (repeat' with_reducible apply And.intro) <;> first | assumption | rfl | omega | (unfold maxLen; omega)) [(6, .bp 6 0), (20, .own 30000)] [(6, .box 60 [.int .i64 v0.1, .int .i64 v0.2.1, .sl (.sl (.int .i64)) v0.2.2.1, .sl (.sl (.int .i64)) v0.2.2.2.1]), (30000, .arr 3 (.int .i64) v0_2)] (by (simp only [go_sem, hb2]) <;> (repeat' with_reducible apply And.intro) <;> first | assumption | rfl | omega | (unfold maxLen; omega)) ?_
      refine AO.allF tab_ok (by decide) [(6, .bp 6 0), (20, .own 30000), (21, .int .i64 (v0_2.length : Int)), (22, .int .i64 0)] [(6, .box 60 [.int .i64 v0.1, .int .i64 v0.2.1, .sl (.sl (.int .i64)) v0.2.2.1, .sl (.sl (.int .i64)) v0.2.2.2.1]), (30000, .arr 3 (.int .i64) v0_2)] (by (simp only [go_sem, hb2]) <;> (repeat' with_reducible apply And.intro) <;> first | assumption | rfl | omega | (unfold maxLen; omega)) ?_
      refine athen_n ?_
      refine AW.block ?_
      obtain ⟨rv8, hw4, ho5⟩ := Option.bind_eq_some_iff.1 h
      refine AW.loopO (spec_Meddles_b1 v0 v0_2) (fun st1 => ⟨fr [(6, .bp 6 0), (20, .own 30000), (21, .int .i64 (v0_2.length : Int)), (22, .int .i64 st1)], hpGet [(6, .box 60 [.int .i64 v0.1, .int .i64 v0.2.1, .sl (.sl (.int .i64)) v0.2.2.1, .sl (.sl (.int .i64)) v0.2.2.2.1]), (30000, .arr 3 (.int .i64) v0_2)], gt⟩) 0 hw4 (Wk.le [] [] [] rfl (by (simp only [go_sem, hb2]) <;> (repeat' with_reducible apply And.intro) <;> first | assumption | rfl | omega | (unfold maxLen; omega)) (by (simp only [go_sem, hb2]) <;> (repeat' with_reducible apply And.intro) <;> first | assumption | rfl | omega | (unfold maxLen; omega))) ?_
      intro st1 x7 h hd6
      unfold spec_Meddles_b1 at h
      refine AW.seq ?_
      refine AW.ops ?_
      refine AO.allF tab_ok (by decide) [(6, .bp 6 0), (20, .own 30000), (21, .int .i64 (v0_2.length : Int)), (22, .int .i64 st1), (23, .bool (decide (st1 < (v0_2.length : Int))))] [(6, .box 60 [.int .i64 v0.1, .int .i64 v0.2.1, .sl (.sl (.int .i64)) v0.2.2.1, .sl (.sl (.int .i64)) v0.2.2.2.1]), (30000, .arr 3 (.int .i64) v0_2)] (by (simp only [go_sem, hb2]) <;> (repeat' with_reducible apply And.intro) <;> first | assumption | rfl | omega | (unfold maxLen; omega)) ?_
      refine athen_n ?_
      refine AW.seq ?_
      refine AW.cond (b := (decide (st1 < (v0_2.length : Int)))) rfl (fun hb9 => ?_) (fun hb9 => ?_)
      · rw [if_pos hb9] at h
        refine AW.skip ?_
        refine athen_n ?_
        refine AW.have1 (fun _ : Unit => spec_Meddles_k2 st1 = some x7) (fun _ => ⟨fr [(6, .bp 6 0), (20, .own 30000), (21, .int .i64 (v0_2.length : Int)), (22, .int .i64 st1)], hpGet [(6, .box 60 [.int .i64 v0.1, .int .i64 v0.2.1, .sl (.sl (.int .i64)) v0.2.2.1, .sl (.sl (.int .i64)) v0.2.2.2.1]), (30000, .arr 3 (.int .i64) v0_2)], gt⟩) (fun _ h => ?_) (fun hk_spec_Meddles_k2 => ?_)
        · unfold spec_Meddles_k2 at h
          refine AW.ops ?_
          obtain ⟨c10, h⟩ := ck_some.1 h
          refine AO.allF tab_ok (by decide) [(6, .bp 6 0), (20, .own 30000), (21, .int .i64 (v0_2.length : Int)), (22, .int .i64 (st1 + 1))] [(6, .box 60 [.int .i64 v0.1, .int .i64 v0.2.1, .sl (.sl (.int .i64)) v0.2.2.1, .sl (.sl (.int .i64)) v0.2.2.2.1]), (30000, .arr 3 (.int .i64) v0_2)] (by (simp only [go_sem, hb2, hb9]) <;> (repeat' with_reducible apply And.intro) <;> first | assumption | rfl | omega | (unfold maxLen; omega)) ?_
          obtain rfl := Option.some.inj h
          exact ⟨_, rfl, Wk.le [] [] [] rfl (by (simp only [go_sem, hb2, hb9]) <;> (repeat' with_reducible apply And.intro) <;> first | assumption | rfl | omega | (unfold maxLen; omega)) (by (simp only [go_sem, hb2, hb9]) <;> (repeat' with_reducible apply And.intro) <;> first | assumption | rfl | omega | (unfold maxLen; omega))⟩
        · refine AW.seq ?_
          refine AW.block ?_
          refine AW.seq ?_
          refine AW.ops ?_
          obtain ⟨c11, h⟩ := ck_some.1 h
          obtain ⟨c12, h⟩ := ck_some.1 h
          refine AO.allF tab_ok (by decide) [(6, .bp 6 0), (8, .int .i64 (v0_2.getD st1.toNat 0)), (20, .own 30000), (21, .int .i64 (v0_2.length : Int)), (22, .int .i64 st1)] [(6, .box 60 [.int .i64 v0.1, .int .i64 v0.2.1, .sl (.sl (.int .i64)) v0.2.2.1, .sl (.sl (.int .i64)) v0.2.2.2.1]), (30000, .arr 3 (.int .i64) v0_2)] (by (simp only [go_sem, hb2, hb9]) <;> (repeat' with_reducible apply And.intro) <;> first | assumption | rfl | omega | (unfold maxLen; omega)) ?_
          refine athen_n ?_
          refine AW.seq ?_
          refine AW.ops ?_
          refine AO.allF tab_ok (by decide) [(6, .bp 6 0), (8, .int .i64 (v0_2.getD st1.toNat 0)), (20, .own 30000), (21, .int .i64 (v0_2.length : Int)), (22, .int .i64 st1), (27, .int .i64 v0.2.1), (28, .int .i64 0)] [(6, .box 60 [.int .i64 v0.1, .int .i64 v0.2.1, .sl (.sl (.int .i64)) v0.2.2.1, .sl (.sl (.int .i64)) v0.2.2.2.1]), (30000, .arr 3 (.int .i64) v0_2)] (by (simp only [go_sem, hb2, hb9]) <;> (repeat' with_reducible apply And.intro) <;> first | assumption | rfl | omega | (unfold maxLen; omega)) ?_
          refine athen_n ?_
          refine AW.block ?_
          obtain ⟨rv17, hw13, ho14⟩ := Option.bind_eq_some_iff.1 h
          refine AW.loopO (spec_Meddles_b2 v0 v0_2 st1) (fun st2 => ⟨fr [(6, .bp 6 0), (8, .int .i64 (v0_2.getD st1.toNat 0)), (20, .own 30000), (21, .int .i64 (v0_2.length : Int)), (22, .int .i64 st1), (27, .int .i64 v0.2.1), (28, .int .i64 st2)], hpGet [(6, .box 60 [.int .i64 v0.1, .int .i64 v0.2.1, .sl (.sl (.int .i64)) v0.2.2.1, .sl (.sl (.int .i64)) v0.2.2.2.1]), (30000, .arr 3 (.int .i64) v0_2)], gt⟩) 0 hw13 (Wk.le [] [] [] rfl (by (simp only [go_sem, hb2, hb9]) <;> (repeat' with_reducible apply And.intro) <;> first | assumption | rfl | omega | (unfold maxLen; omega)) (by (simp only [go_sem, hb2, hb9]) <;> (repeat' with_reducible apply And.intro) <;> first | assumption | rfl | omega | (unfold maxLen; omega))) ?_
          intro st2 x16 h hd15
          unfold spec_Meddles_b2 at h
          refine AW.seq ?_
          refine AW.ops ?_
          refine AO.allF tab_ok (by decide) [(6, .bp 6 0), (8, .int .i64 (v0_2.getD st1.toNat 0)), (20, .own 30000), (21, .int .i64 (v0_2.length : Int)), (22, .int .i64 st1), (27, .int .i64 v0.2.1), (28, .int .i64 st2), (29, .bool (decide (st2 < v0.2.1)))] [(6, .box 60 [.int .i64 v0.1, .int .i64 v0.2.1, .sl (.sl (.int .i64)) v0.2.2.1, .sl (.sl (.int .i64)) v0.2.2.2.1]), (30000, .arr 3 (.int .i64) v0_2)] (by (simp only [go_sem, hb2, hb9]) <;> (repeat' with_reducible apply And.intro) <;> first | assumption | rfl | omega | (unfold maxLen; omega)) ?_
          refine athen_n ?_
          refine AW.seq ?_
          refine AW.cond (b := (decide (st2 < v0.2.1))) rfl (fun hb18 => ?_) (fun hb18 => ?_)
          · rw [if_pos hb18] at h
            refine AW.skip ?_
            refine athen_n ?_
            refine AW.have1 (fun _ : Unit => spec_Meddles_k3 st2 = some x16) (fun _ => ⟨fr [(6, .bp 6 0), (8, .int .i64 (v0_2.getD st1.toNat 0)), (20, .own 30000), (21, .int .i64 (v0_2.length : Int)), (22, .int .i64 st1), (27, .int .i64 v0.2.1), (28, .int .i64 st2)], hpGet [(6, .box 60 [.int .i64 v0.1, .int .i64 v0.2.1, .sl (.sl (.int .i64)) v0.2.2.1, .sl (.sl (.int .i64)) v0.2.2.2.1]), (30000, .arr 3 (.int .i64) v0_2)], gt⟩) (fun _ h => ?_) (fun hk_spec_Meddles_k3 => ?_)
            · unfold spec_Meddles_k3 at h
              refine AW.ops ?_
              obtain ⟨c19, h⟩ := ck_some.1 h
              refine AO.allF tab_ok (by decide) [(6, .bp 6 0), (8, .int .i64 (v0_2.getD st1.toNat 0)), (20, .own 30000), (21, .int .i64 (v0_2.length : Int)), (22, .int .i64 st1), (27, .int .i64 v0.2.1), (28, .int .i64 (st2 + 1))] [(6, .box 60 [.int .i64 v0.1, .int .i64 v0.2.1, .sl (.sl (.int .i64)) v0.2.2.1, .sl (.sl (.int .i64)) v0.2.2.2.1]), (30000, .arr 3 (.int .i64) v0_2)] (by (simp only [go_sem, hb2, hb9, hb18]) <;> (repeat' with_reducible apply And.intro) <;> first | assumption | rfl | omega | (unfold maxLen; omega)) ?_
              obtain rfl := Option.some.inj h
              exact ⟨_, rfl, Wk.le [] [] [] rfl (by (simp only [go_sem, hb2, hb9, hb18]) <;> (repeat' with_reducible apply And.intro) <;> first | assumption | rfl | omega | (unfold maxLen; omega)) (by (simp only [go_sem, hb2, hb9, hb18]) <;> (repeat' with_reducible apply And.intro) <;> first | assumption | rfl | omega | (unfold maxLen; omega))⟩
            · refine AW.seq ?_
              refine AW.block ?_
              refine AW.seq ?_
              refine AW.ops ?_
              refine AO.allF tab_ok (by decide) [(6, .bp 6 0), (8, .int .i64 (v0_2.getD st1.toNat 0)), (9, .int .i64 st2), (20, .own 30000), (21, .int .i64 (v0_2.length : Int)), (22, .int .i64 st1), (27, .int .i64 v0.2.1), (28, .int .i64 st2)] [(6, .box 60 [.int .i64 v0.1, .int .i64 v0.2.1, .sl (.sl (.int .i64)) v0.2.2.1, .sl (.sl (.int .i64)) v0.2.2.2.1]), (30000, .arr 3 (.int .i64) v0_2)] (by (simp only [go_sem, hb2, hb9, hb18]) <;> (repeat' with_reducible apply And.intro) <;> first | assumption | rfl | omega | (unfold maxLen; omega)) ?_
              refine athen_n ?_
              refine AW.seq ?_
              refine AW.ops ?_
              refine AO.allF tab_ok (by decide) [(6, .bp 6 0), (8, .int .i64 (v0_2.getD st1.toNat 0)), (9, .int .i64 st2), (10, .int .i64 st2), (20, .own 30000), (21, .int .i64 (v0_2.length : Int)), (22, .int .i64 st1), (27, .int .i64 v0.2.1), (28, .int .i64 st2)] [(6, .box 60 [.int .i64 v0.1, .int .i64 v0.2.1, .sl (.sl (.int .i64)) v0.2.2.1, .sl (.sl (.int .i64)) v0.2.2.2.1]), (30000, .arr 3 (.int .i64) v0_2)] (by (simp only [go_sem, hb2, hb9, hb18]) <;> (repeat' with_reducible apply And.intro) <;> first | assumption | rfl | omega | (unfold maxLen; omega)) ?_
              refine athen_n ?_
              refine AW.block ?_
              obtain ⟨rv24, hw20, ho21⟩ := Option.bind_eq_some_iff.1 h
              refine AW.loopO (spec_Meddles_b3 v0 v0_2 st1 st2) (fun st3 => ⟨fr [(6, .bp 6 0), (8, .int .i64 (v0_2.getD st1.toNat 0)), (9, .int .i64 st2), (10, .int .i64 st3), (20, .own 30000), (21, .int .i64 (v0_2.length : Int)), (22, .int .i64 st1), (27, .int .i64 v0.2.1), (28, .int .i64 st2)], hpGet [(6, .box 60 [.int .i64 v0.1, .int .i64 v0.2.1, .sl (.sl (.int .i64)) v0.2.2.1, .sl (.sl (.int .i64)) v0.2.2.2.1]), (30000, .arr 3 (.int .i64) v0_2)], gt⟩) st2 hw20 (Wk.le [] [] [] rfl (by (simp only [go_sem, hb2, hb9, hb18]) <;> (repeat' with_reducible apply And.intro) <;> first | assumption | rfl | omega | (unfold maxLen; omega)) (by (simp only [go_sem, hb2, hb9, hb18]) <;> (repeat' with_reducible apply And.intro) <;> first | assumption | rfl | omega | (unfold maxLen; omega))) ?_
              intro st3 x23 h hd22
              unfold spec_Meddles_b3 at h
              refine AW.seq ?_
              refine AW.seq ?_
              refine AW.ops ?_
              refine AO.allF tab_ok (by decide) [(6, .bp 6 0), (8, .int .i64 (v0_2.getD st1.toNat 0)), (9, .int .i64 st2), (10, .int .i64 st3), (20, .own 30000), (21, .int .i64 (v0_2.length : Int)), (22, .int .i64 st1), (27, .int .i64 v0.2.1), (28, .int .i64 st2), (35, .bool (decide (st3 < v0.2.1)))] [(6, .box 60 [.int .i64 v0.1, .int .i64 v0.2.1, .sl (.sl (.int .i64)) v0.2.2.1, .sl (.sl (.int .i64)) v0.2.2.2.1]), (30000, .arr 3 (.int .i64) v0_2)] (by (simp only [go_sem, hb2, hb9, hb18]) <;> (repeat' with_reducible apply And.intro) <;> first | assumption | rfl | omega | (unfold maxLen; omega)) ?_
              refine athen_n ?_
              refine AW.cond (b := (decide (st3 < v0.2.1))) rfl (fun hb25 => ?_) (fun hb25 => ?_)
              · rw [if_pos hb25] at h
                refine AW.skip ?_
                refine athen_n ?_
                refine AW.seq ?_
                refine AW.block ?_
                refine AW.seq ?_
                refine AW.ops ?_
                refine AO.segF tab_ok 4 (by decide) [(6, .bp 6 0), (8, .int .i64 (v0_2.getD st1.toNat 0)), (9, .int .i64 st2), (10, .int .i64 st3), (20, .own 30000), (21, .int .i64 (v0_2.length : Int)), (22, .int .i64 st1), (27, .int .i64 v0.2.1), (28, .int .i64 st2), (38, .agg [.int .i64 v0.1, .int .i64 v0.2.1, .sl (.sl (.int .i64)) v0.2.2.1, .sl (.sl (.int .i64)) v0.2.2.2.1]), (39, .int .i64 (v0_2.getD st1.toNat 0)), (40, .int .i64 st2), (41, .int .i64 st3)] [(6, .box 60 [.int .i64 v0.1, .int .i64 v0.2.1, .sl (.sl (.int .i64)) v0.2.2.1, .sl (.sl (.int .i64)) v0.2.2.2.1]), (30000, .arr 3 (.int .i64) v0_2)] (by (simp only [go_sem, hb2, hb9, hb18, hb25]) <;> (repeat' with_reducible apply And.intro) <;> first | assumption | rfl | omega | (unfold maxLen; omega)) ?_
                obtain ⟨v0_3, hv26, h⟩ := Option.bind_eq_some_iff.1 h
                refine AO.call tab_ok (by decide) rfl rfl rfl (fun _ h => h) [] [] (hc_spec_machine_meddle (v0.1, v0.2.1, v0.2.2.1, v0.2.2.2.1) (v0_2.getD st1.toNat 0) st2 st3 hv26) rfl (by (simp only [go_sem, hb2, hb9, hb18, hb25]) <;> (repeat' with_reducible apply And.intro) <;> first | assumption | rfl | omega | (unfold maxLen; omega)) (by (simp only [go_sem, hb2, hb9, hb18, hb25]) <;> (repeat' with_reducible apply And.intro) <;> first | assumption | rfl | omega | (unfold maxLen; omega)) [(6, .bp 6 0), (8, .int .i64 (v0_2.getD st1.toNat 0)), (9, .int .i64 st2), (10, .int .i64 st3), (20, .own 30000), (21, .int .i64 (v0_2.length : Int)), (22, .int .i64 st1), (27, .int .i64 v0.2.1), (28, .int .i64 st2), (42, .bool v0_3)] [(6, .box 60 [.int .i64 v0.1, .int .i64 v0.2.1, .sl (.sl (.int .i64)) v0.2.2.1, .sl (.sl (.int .i64)) v0.2.2.2.1]), (30000, .arr 3 (.int .i64) v0_2)] (by (simp only [go_sem, hb2, hb9, hb18, hb25]) <;> (repeat' with_reducible apply And.intro) <;> first | assumption | rfl | omega | (unfold maxLen; omega)) ?_
                refine AO.allF tab_ok (by decide) [(6, .bp 6 0), (8, .int .i64 (v0_2.getD st1.toNat 0)), (9, .int .i64 st2), (10, .int .i64 st3), (20, .own 30000), (21, .int .i64 (v0_2.length : Int)), (22, .int .i64 st1), (27, .int .i64 v0.2.1), (28, .int .i64 st2), (42, .bool v0_3)] [(6, .box 60 [.int .i64 v0.1, .int .i64 v0.2.1, .sl (.sl (.int .i64)) v0.2.2.1, .sl (.sl (.int .i64)) v0.2.2.2.1]), (30000, .arr 3 (.int .i64) v0_2)] (by (simp only [go_sem, hb2, hb9, hb18, hb25]) <;> (repeat' with_reducible apply And.intro) <;> first | assumption | rfl | omega | (unfold maxLen; omega)) ?_
                refine athen_n ?_
                refine AW.cond (b := v0_3) rfl (fun hb27 => ?_) (fun hb27 => ?_)
                · rw [if_pos hb27] at h
                  refine AW.seq ?_
                  refine AW.ops ?_
                  refine AO.allF tab_ok (by decide) [(2, .int .i64 (v0_2.getD st1.toNat 0)), (3, .int .i64 st2), (4, .int .i64 st3), (5, .int .i64 0)] [] (by (simp only [go_sem, hb2, hb9, hb18, hb25, hb27]) <;> (repeat' with_reducible apply And.intro) <;> first | assumption | rfl | omega | (unfold maxLen; omega)) ?_
                  refine athen_n ?_
                  refine AW.ret ?_
                  refine ablock_r ?_
                  refine athen_r ?_
                  obtain rfl := Option.some.inj h
                  rw [← hd22 _ rfl] at ho21
                  have h := ho21
                  try simp only at h
                  refine athen_r ?_
                  refine ablock_r ?_
                  refine ablock_r ?_
                  refine athen_r ?_
                  obtain rfl := Option.some.inj h
                  rw [← hd15 _ rfl] at ho14
                  have h := ho14
                  try simp only at h
                  refine athen_r ?_
                  refine ablock_r ?_
                  refine ablock_r ?_
                  refine athen_r ?_
                  obtain rfl := Option.some.inj h
                  rw [← hd6 _ rfl] at ho5
                  have h := ho5
                  try simp only at h
                  refine athen_r ?_
                  refine ablock_r ?_
                  refine athen_r ?_
                  obtain rfl := Option.some.inj h
                  exact ⟨rfl, [], [], [], rfl, (by (simp only [go_sem, hb2, hb9, hb18, hb25, hb27]) <;> (repeat' with_reducible apply And.intro) <;> first | assumption | rfl | omega | (unfold maxLen; omega))⟩
                · rw [if_neg (Bool.eq_false_iff.1 hb27)] at h
                  refine AW.skip ?_
                  refine ablock_n ?_
                  refine athen_n ?_
                  refine AW.ops ?_
                  obtain ⟨c28, h⟩ := ck_some.1 h
                  refine AO.allF tab_ok (by decide) [(6, .bp 6 0), (8, .int .i64 (v0_2.getD st1.toNat 0)), (9, .int .i64 st2), (10, .int .i64 (st3 + 1)), (20, .own 30000), (21, .int .i64 (v0_2.length : Int)), (22, .int .i64 st1), (27, .int .i64 v0.2.1), (28, .int .i64 st2)] [(6, .box 60 [.int .i64 v0.1, .int .i64 v0.2.1, .sl (.sl (.int .i64)) v0.2.2.1, .sl (.sl (.int .i64)) v0.2.2.2.1]), (30000, .arr 3 (.int .i64) v0_2)] (by (simp only [go_sem, hb2, hb9, hb18, hb25, hb27]) <;> (repeat' with_reducible apply And.intro) <;> first | assumption | rfl | omega | (unfold maxLen; omega)) ?_
                  obtain rfl := Option.some.inj h
                  exact ⟨_, rfl, Wk.le [] [] [] rfl (by (simp only [go_sem, hb2, hb9, hb18, hb25, hb27]) <;> (repeat' with_reducible apply And.intro) <;> first | assumption | rfl | omega | (unfold maxLen; omega)) (by (simp only [go_sem, hb2, hb9, hb18, hb25, hb27]) <;> (repeat' with_reducible apply And.intro) <;> first | assumption | rfl | omega | (unfold maxLen; omega))⟩
              · rw [if_neg (Bool.eq_false_iff.1 hb25)] at h
                refine AW.exit ?_
                refine athen_e ?_
                obtain rfl := Option.some.inj h
                rw [← hd22 _ rfl] at ho21
                have h := ho21
                try simp only at h
                refine athen_e ?_
                refine ablock_s ?_
                refine ablock_n ?_
                refine athen_n ?_
                exact AW.weaken (Wk.le [] [] [] rfl (by (simp only [go_sem, hb2, hb9, hb18, hb25]) <;> (repeat' with_reducible apply And.intro) <;> first | assumption | rfl | omega | (unfold maxLen; omega)) (by (simp only [go_sem, hb2, hb9, hb18, hb25]) <;> (repeat' with_reducible apply And.intro) <;> first | assumption | rfl | omega | (unfold maxLen; omega))) (hk_spec_Meddles_k3 () h)
          · rw [if_neg (Bool.eq_false_iff.1 hb18)] at h
            refine AW.exit ?_
            refine athen_e ?_
            obtain rfl := Option.some.inj h
            rw [← hd15 _ rfl] at ho14
            have h := ho14
            try simp only at h
            refine athen_e ?_
            refine ablock_s ?_
            refine ablock_n ?_
            refine athen_n ?_
            exact AW.weaken (Wk.le [] [] [] rfl (by (simp only [go_sem, hb2, hb9, hb18]) <;> (repeat' with_reducible apply And.intro) <;> first | assumption | rfl | omega | (unfold maxLen; omega)) (by (simp only [go_sem, hb2, hb9, hb18]) <;> (repeat' with_reducible apply And.intro) <;> first | assumption | rfl | omega | (unfold maxLen; omega))) (hk_spec_Meddles_k2 () h)
      · rw [if_neg (Bool.eq_false_iff.1 hb9)] at h
        refine AW.exit ?_
        refine athen_e ?_
        obtain rfl := Option.some.inj h
        rw [← hd6 _ rfl] at ho5
        have h := ho5
        try simp only at h
        refine athen_e ?_
        refine ablock_s ?_
        refine athen_n ?_
        exact AW.weaken (Wk.le [] [] [] rfl (by (simp only [go_sem, hb2, hb9]) <;> (repeat' with_reducible apply And.intro) <;> first | assumption | rfl | omega | (unfold maxLen; omega)) (by (simp only [go_sem, hb2, hb9]) <;> (repeat' with_reducible apply And.intro) <;> first | assumption | rfl | omega | (unfold maxLen; omega))) (hk_spec_Meddles_k1 () h)

set_option maxRecDepth 100000 in
set_option maxHeartbeats 2000000 in
theorem hc_spec_told_2 (s : Int × Int × (List (List Int)) × (List (List Int))) (state : Int) (a : Int) (b : Int) {r : Bool × Int} (h : spec_told_2 s state a b = some r) : HC Try.prog 83 [] [.agg [.int .i64 s.1, .int .i64 s.2.1, .sl (.sl (.int .i64)) s.2.2.1, .sl (.sl (.int .i64)) s.2.2.2], .fn (.func 87) [] [], .int .i64 state, .int .i64 a, .int .i64 b] [] (.tup [.bool r.1, .int .i64 r.2]) := by
  unfold spec_told_2 at h
  refine HC.of_body tab_ok (res := [.tmp 10, .tmp 11]) Try.func83 rfl (by kernel_rfl) rfl (nt := 37) rfl (by decide) (by simp) ?_
  refine AW.seq ?_
  refine AW.ops ?_
  refine AO.allF tab_ok (by decide) [(1, .fn (.func 87) [] []), (2, .int .i64 state), (3, .int .i64 a), (4, .int .i64 b), (5, .bp 5 0)] [(5, .box 24 [.int .i64 s.1, .int .i64 s.2.1, .sl (.sl (.int .i64)) s.2.2.1, .sl (.sl (.int .i64)) s.2.2.2])] (by (simp only [go_sem]) <;> (repeat' with_reducible apply And.intro) <;> first | assumption | rfl | omega | (unfold maxLen; omega)) ?_
  refine athen_n ?_
  refine AW.seq ?_
  refine AW.ops ?_
  refine AO.segF tab_ok 3 (by decide) [(1, .fn (.func 87) [] []), (2, .int .i64 state), (3, .int .i64 a), (4, .int .i64 b), (15, .agg [.int .i64 s.1, .int .i64 s.2.1, .sl (.sl (.int .i64)) s.2.2.1, .sl (.sl (.int .i64)) s.2.2.2]), (17, .own 17)] [(17, .arr 3 (.int .i64) [state])] (by (simp only [go_sem]) <;> (repeat' with_reducible apply And.intro) <;> first | assumption | rfl | omega | (unfold maxLen; omega)) ?_
  obtain ⟨v0, hv1, h⟩ := Option.bind_eq_some_iff.1 h
  refine AO.call tab_ok (by decide) rfl rfl rfl (fun _ h => h) [17] [] (hc_spec_checked s [state] hv1) rfl (by (simp only [go_sem]) <;> (repeat' with_reducible apply And.intro) <;> first | assumption | rfl | omega | (unfold maxLen; omega)) (by (simp only [go_sem]) <;> (repeat' with_reducible apply And.intro) <;> first | assumption | rfl | omega | (unfold maxLen; omega)) [(1, .fn (.func 87) [] []), (2, .int .i64 state), (3, .int .i64 a), (4, .int .i64 b), (18, .tup [.agg [.int .i64 v0.1, .int .i64 v0.2.1, .sl (.sl (.int .i64)) v0.2.2.1, .sl (.sl (.int .i64)) v0.2.2.2.1], .int .i64 v0.2.2.2.2])] [] (by (simp only [go_sem]) <;> (repeat' with_reducible apply And.intro) <;> first | assumption | rfl | omega | (unfold maxLen; omega)) ?_
  refine AO.allF tab_ok (by decide) [(1, .fn (.func 87) [] []), (2, .int .i64 state), (3, .int .i64 a), (4, .int .i64 b), (12, .bp 12 0), (13, .int .i64 v0.2.2.2.2)] [(12, .box 60 [.int .i64 v0.1, .int .i64 v0.2.1, .sl (.sl (.int .i64)) v0.2.2.1, .sl (.sl (.int .i64)) v0.2.2.2.1])] (by (simp only [go_sem]) <;> (repeat' with_reducible apply And.intro) <;> first | assumption | rfl | omega | (unfold maxLen; omega)) ?_
  refine athen_n ?_
  refine AW.seq ?_
  refine AW.seq ?_
  refine AW.ops ?_
  refine AO.allF tab_ok (by decide) [(1, .fn (.func 87) [] []), (2, .int .i64 state), (3, .int .i64 a), (4, .int .i64 b), (12, .bp 12 0), (13, .int .i64 v0.2.2.2.2), (22, .bool (!(decide (v0.2.2.2.2 = 0))))] [(12, .box 60 [.int .i64 v0.1, .int .i64 v0.2.1, .sl (.sl (.int .i64)) v0.2.2.1, .sl (.sl (.int .i64)) v0.2.2.2.1])] (by (simp only [go_sem]) <;> (repeat' with_reducible apply And.intro) <;> first | assumption | rfl | omega | (unfold maxLen; omega)) ?_
  refine athen_n ?_
  refine AW.cond (b := (!(decide (v0.2.2.2.2 = 0)))) rfl (fun hb2 => ?_) (fun hb2 => ?_)
  · rw [if_pos hb2] at h
    refine AW.seq ?_
    refine AW.ops ?_
    refine AO.allF tab_ok (by decide) [(10, .bool false), (11, .int .i64 v0.2.2.2.2)] [] (by (simp only [go_sem, hb2]) <;> (repeat' with_reducible apply And.intro) <;> first | assumption | rfl | omega | (unfold maxLen; omega)) ?_
    refine athen_n ?_
    refine AW.ret ?_
    refine athen_r ?_
    obtain rfl := Option.some.inj h
    exact ⟨rfl, [], [], [], rfl, (by (simp only [go_sem, hb2]) <;> (repeat' with_reducible apply And.intro) <;> first | assumption | rfl | omega | (unfold maxLen; omega))⟩
  · rw [if_neg (Bool.eq_false_iff.1 hb2)] at h
    refine AW.skip ?_
    refine athen_n ?_
    refine AW.seq ?_
    refine AW.seq ?_
    refine AW.ops ?_
    refine AO.segF tab_ok 5 (by decide) [(1, .fn (.func 87) [] []), (2, .int .i64 state), (3, .int .i64 a), (4, .int .i64 b), (12, .bp 12 0), (25, .fn (.func 89) [.agg [.int .i64 v0.1, .int .i64 v0.2.1, .sl (.sl (.int .i64)) v0.2.2.1, .sl (.sl (.int .i64)) v0.2.2.2.1]] []), (28, .own 28)] [(12, .box 60 [.int .i64 v0.1, .int .i64 v0.2.1, .sl (.sl (.int .i64)) v0.2.2.1, .sl (.sl (.int .i64)) v0.2.2.2.1]), (28, .arr 3 (.int .i64) [a, b])] (by (simp only [go_sem, hb2]) <;> (repeat' with_reducible apply And.intro) <;> first | assumption | rfl | omega | (unfold maxLen; omega)) ?_
    obtain ⟨v0_2, hv3, h⟩ := Option.bind_eq_some_iff.1 h
    refine AO.call tab_ok (by decide) rfl rfl rfl (fun _ h => h) [28] [] (hc_spec_all_3 (v0.1, v0.2.1, v0.2.2.1, v0.2.2.2.1) [a, b] hv3) rfl (by (simp only [go_sem, hb2]) <;> (repeat' with_reducible apply And.intro) <;> first | assumption | rfl | omega | (unfold maxLen; omega)) (by (simp only [go_sem, hb2]) <;> (repeat' with_reducible apply And.intro) <;> first | assumption | rfl | omega | (unfold maxLen; omega)) [(1, .fn (.func 87) [] []), (2, .int .i64 state), (3, .int .i64 a), (4, .int .i64 b), (12, .bp 12 0), (29, .bool v0_2)] [(12, .box 60 [.int .i64 v0.1, .int .i64 v0.2.1, .sl (.sl (.int .i64)) v0.2.2.1, .sl (.sl (.int .i64)) v0.2.2.2.1])] (by (simp only [go_sem, hb2]) <;> (repeat' with_reducible apply And.intro) <;> first | assumption | rfl | omega | (unfold maxLen; omega)) ?_
    refine AO.allF tab_ok (by decide) [(1, .fn (.func 87) [] []), (2, .int .i64 state), (3, .int .i64 a), (4, .int .i64 b), (12, .bp 12 0), (30, .bool (!v0_2))] [(12, .box 60 [.int .i64 v0.1, .int .i64 v0.2.1, .sl (.sl (.int .i64)) v0.2.2.1, .sl (.sl (.int .i64)) v0.2.2.2.1])] (by (simp only [go_sem, hb2]) <;> (repeat' with_reducible apply And.intro) <;> first | assumption | rfl | omega | (unfold maxLen; omega)) ?_
    refine athen_n ?_
    refine AW.cond (b := (!v0_2)) rfl (fun hb4 => ?_) (fun hb4 => ?_)
    · rw [if_pos hb4] at h
      refine AW.seq ?_
      refine AW.ops ?_
      refine AO.allF tab_ok (by decide) [(10, .bool false), (11, .int .i64 2)] [] (by (simp only [go_sem, hb2, hb4]) <;> (repeat' with_reducible apply And.intro) <;> first | assumption | rfl | omega | (unfold maxLen; omega)) ?_
      refine athen_n ?_
      refine AW.ret ?_
      refine athen_r ?_
      obtain rfl := Option.some.inj h
      exact ⟨rfl, [], [], [], rfl, (by (simp only [go_sem, hb2, hb4]) <;> (repeat' with_reducible apply And.intro) <;> first | assumption | rfl | omega | (unfold maxLen; omega))⟩
    · rw [if_neg (Bool.eq_false_iff.1 hb4)] at h
      refine AW.skip ?_
      refine athen_n ?_
      refine AW.seq ?_
      refine AW.ops ?_
      refine AO.segF tab_ok 5 (by decide) [(31, .fn (.func 87) [] []), (32, .agg [.int .i64 v0.1, .int .i64 v0.2.1, .sl (.sl (.int .i64)) v0.2.2.1, .sl (.sl (.int .i64)) v0.2.2.2.1]), (33, .int .i64 state), (34, .int .i64 a), (35, .int .i64 b)] [] (by (simp only [go_sem, hb2, hb4]) <;> (repeat' with_reducible apply And.intro) <;> first | assumption | rfl | omega | (unfold maxLen; omega)) ?_
      obtain ⟨v0_3, hv5, h⟩ := Option.bind_eq_some_iff.1 h
      refine AO.call tab_ok (by decide) rfl rfl rfl (fun _ h => h) [] [] (hc_spec_machine_overwrites (v0.1, v0.2.1, v0.2.2.1, v0.2.2.2.1) state a b hv5) rfl (by (simp only [go_sem, hb2, hb4]) <;> (repeat' with_reducible apply And.intro) <;> first | assumption | rfl | omega | (unfold maxLen; omega)) (by (simp only [go_sem, hb2, hb4]) <;> (repeat' with_reducible apply And.intro) <;> first | assumption | rfl | omega | (unfold maxLen; omega)) [(36, .bool v0_3)] [] (by (simp only [go_sem, hb2, hb4]) <;> (repeat' with_reducible apply And.intro) <;> first | assumption | rfl | omega | (unfold maxLen; omega)) ?_
      refine AO.allF tab_ok (by decide) [(10, .bool v0_3), (11, .int .i64 0)] [] (by (simp only [go_sem, hb2, hb4]) <;> (repeat' with_reducible apply And.intro) <;> first | assumption | rfl | omega | (unfold maxLen; omega)) ?_
      refine athen_n ?_
      refine AW.ret ?_
      obtain rfl := Option.some.inj h
      exact ⟨rfl, [], [], [], rfl, (by (simp only [go_sem, hb2, hb4]) <;> (repeat' with_reducible apply And.intro) <;> first | assumption | rfl | omega | (unfold maxLen; omega))⟩

set_option maxRecDepth 100000 in
set_option maxHeartbeats 2000000 in
theorem hc_spec_Overwrites (s : Int × Int × (List (List Int)) × (List (List Int))) (state : Int) (a : Int) (b : Int) {r : Bool × Int} (h : spec_Overwrites s state a b = some r) : HC Try.prog 45 [] [.agg [.int .i64 s.1, .int .i64 s.2.1, .sl (.sl (.int .i64)) s.2.2.1, .sl (.sl (.int .i64)) s.2.2.2], .int .i64 state, .int .i64 a, .int .i64 b] [] (.tup [.bool r.1, .int .i64 r.2]) := by
  unfold spec_Overwrites at h
  refine HC.of_body tab_ok (res := [.tmp 8, .tmp 9]) Try.func45 rfl (by kernel_rfl) rfl (nt := 17) rfl (by decide) (by simp) ?_
  refine AW.seq ?_
  refine AW.ops ?_
  refine AO.allF tab_ok (by decide) [(1, .int .i64 state), (2, .int .i64 a), (3, .int .i64 b), (4, .bp 4 0)] [(4, .box 24 [.int .i64 s.1, .int .i64 s.2.1, .sl (.sl (.int .i64)) s.2.2.1, .sl (.sl (.int .i64)) s.2.2.2])] (by (simp only [go_sem]) <;> (repeat' with_reducible apply And.intro) <;> first | assumption | rfl | omega | (unfold maxLen; omega)) ?_
  refine athen_n ?_
  refine AW.seq ?_
  refine AW.ops ?_
  refine AO.segF tab_ok 4 (by decide) [(10, .agg [.int .i64 s.1, .int .i64 s.2.1, .sl (.sl (.int .i64)) s.2.2.1, .sl (.sl (.int .i64)) s.2.2.2]), (11, .int .i64 state), (12, .int .i64 a), (13, .int .i64 b)] [] (by (simp only [go_sem]) <;> (repeat' with_reducible apply And.intro) <;> first | assumption | rfl | omega | (unfold maxLen; omega)) ?_
  obtain ⟨v0, hv1, h⟩ := Option.bind_eq_some_iff.1 h
  refine AO.call tab_ok (by decide) rfl rfl rfl (fun _ h => h) [] [] (hc_spec_told_2 s state a b hv1) rfl (by (simp only [go_sem]) <;> (repeat' with_reducible apply And.intro) <;> first | assumption | rfl | omega | (unfold maxLen; omega)) (by (simp only [go_sem]) <;> (repeat' with_reducible apply And.intro) <;> first | assumption | rfl | omega | (unfold maxLen; omega)) [(14, .tup [.bool v0.1, .int .i64 v0.2])] [] (by (simp only [go_sem]) <;> (repeat' with_reducible apply And.intro) <;> first | assumption | rfl | omega | (unfold maxLen; omega)) ?_
  refine AO.allF tab_ok (by decide) [(8, .bool v0.1), (9, .int .i64 v0.2)] [] (by (simp only [go_sem]) <;> (repeat' with_reducible apply And.intro) <;> first | assumption | rfl | omega | (unfold maxLen; omega)) ?_
  refine athen_n ?_
  refine AW.ret ?_
  obtain rfl := Option.some.inj h
  exact ⟨rfl, [], [], [], rfl, (by (simp only [go_sem]) <;> (repeat' with_reducible apply And.intro) <;> first | assumption | rfl | omega | (unfold maxLen; omega))⟩

end Go.Proofs.Ytmcgmlcfogdioaa
