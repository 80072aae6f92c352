/-
  Made by wip/tool/dc.py out of the print of the program: contracts.
-/
import Derived.Test.YtmcgmlcfogdioaaQp
import Derived.Test.YtmcgmlcfogdioaaTb
import Derived.Test.YtmcgmlcfogdioaaAv25
import Derived.Test.YtmcgmlcfogdioaaQc10
import Derived.Test.YtmcgmlcfogdioaaQc11
import Derived.Test.YtmcgmlcfogdioaaQc12
import Derived.Test.YtmcgmlcfogdioaaQc4
import Derived.Test.YtmcgmlcfogdioaaQc6
import Derived.Test.YtmcgmlcfogdioaaQc8
namespace Go.Proofs.Ytmcgmlcfogdioaa
open Go.RowKit

set_option linter.unusedSimpArgs false
set_option linter.unusedVariables false
set_option linter.constructorNameAsVariable false

set_option maxRecDepth 100000 in
set_option maxHeartbeats 2000000 in
theorem hc_lineallaw01_SpecTold (s : Int × Int × (List (List Int)) × (List (List Int))) (x0 : Int) (y : Int) (op0 : Int) (word : List Int) {r : Bool} (h : lineallaw01_SpecTold s x0 y op0 word = some r) : HC Try.prog 9 [] [.agg [.int .i64 s.1, .int .i64 s.2.1, .sl (.sl (.int .i64)) s.2.2.1, .sl (.sl (.int .i64)) s.2.2.2], .int .u8 x0, .int .u8 y, .int .u8 op0, .sl (.int .i64) word] [] (.bool r) := by
  unfold lineallaw01_SpecTold at h
  refine HC.of_body tab_ok (res := [.tmp 10]) Try.func9 rfl (by kernel_rfl) rfl (nt := 268) rfl (by decide) (by simp) ?_
  refine AW.seq ?_
  refine AW.ops ?_
  refine AO.allF tab_ok (by decide) [(1, .int .u8 x0), (2, .int .u8 y), (3, .int .u8 op0), (4, .sl (.int .i64) word), (5, .bp 5 0)] [(5, .box 24 [.int .i64 s.1, .int .i64 s.2.1, .sl (.sl (.int .i64)) s.2.2.1, .sl (.sl (.int .i64)) s.2.2.2])] (by (simp only [go_sem]) <;> (repeat' with_reducible apply And.intro) <;> first | assumption | rfl | omega | (unfold maxLen; omega)) ?_
  refine athen_n ?_
  refine AW.seq ?_
  refine AW.seq ?_
  refine AW.ops ?_
  refine AO.segF tab_ok 1 (by decide) [(1, .int .u8 x0), (2, .int .u8 y), (3, .int .u8 op0), (4, .sl (.int .i64) word), (5, .bp 5 0), (27, .agg [.int .i64 s.1, .int .i64 s.2.1, .sl (.sl (.int .i64)) s.2.2.1, .sl (.sl (.int .i64)) s.2.2.2])] [(5, .box 24 [.int .i64 s.1, .int .i64 s.2.1, .sl (.sl (.int .i64)) s.2.2.1, .sl (.sl (.int .i64)) s.2.2.2])] (by (simp only [go_sem]) <;> (repeat' with_reducible apply And.intro) <;> first | assumption | rfl | omega | (unfold maxLen; omega)) ?_
  obtain ⟨v0, hv1, h⟩ := Option.bind_eq_some_iff.1 h
  refine AO.call tab_ok (by decide) rfl rfl rfl (fun _ h => h) [] [] (hc_lineallaw01_Long s hv1) rfl (by (simp only [go_sem]) <;> (repeat' with_reducible apply And.intro) <;> first | assumption | rfl | omega | (unfold maxLen; omega)) (by (simp only [go_sem]) <;> (repeat' with_reducible apply And.intro) <;> first | assumption | rfl | omega | (unfold maxLen; omega)) [(1, .int .u8 x0), (2, .int .u8 y), (3, .int .u8 op0), (4, .sl (.int .i64) word), (5, .bp 5 0), (28, .bool v0)] [(5, .box 24 [.int .i64 s.1, .int .i64 s.2.1, .sl (.sl (.int .i64)) s.2.2.1, .sl (.sl (.int .i64)) s.2.2.2])] (by (simp only [go_sem]) <;> (repeat' with_reducible apply And.intro) <;> first | assumption | rfl | omega | (unfold maxLen; omega)) ?_
  refine AO.segF tab_ok 1 (by decide) [(1, .int .u8 x0), (2, .int .u8 y), (3, .int .u8 op0), (4, .sl (.int .i64) word), (5, .bp 5 0), (29, .bool v0)] [(5, .box 24 [.int .i64 s.1, .int .i64 s.2.1, .sl (.sl (.int .i64)) s.2.2.1, .sl (.sl (.int .i64)) s.2.2.2])] (by (simp only [go_sem]) <;> (repeat' with_reducible apply And.intro) <;> first | assumption | rfl | omega | (unfold maxLen; omega)) ?_
  rcases Bool.eq_false_or_eq_true v0 with hb2 | hb2
  · rw [if_pos hb2] at h
    refine AO.weaken (s' := ⟨fr [(1, .int .u8 x0), (2, .int .u8 y), (3, .int .u8 op0), (4, .sl (.int .i64) word), (5, .bp 5 0), (29, .bool true)], hpGet [(5, .box 24 [.int .i64 s.1, .int .i64 s.2.1, .sl (.sl (.int .i64)) s.2.2.1, .sl (.sl (.int .i64)) s.2.2.2])], gt⟩) (Wk.to (by (simp only [go_sem, hb2]) <;> (repeat' with_reducible apply And.intro) <;> first | assumption | rfl | omega | (unfold maxLen; omega))) ?_
    refine AO.segF tab_ok 6 (by decide) [(1, .int .u8 x0), (2, .int .u8 y), (3, .int .u8 op0), (4, .sl (.int .i64) word), (5, .bp 5 0), (34, .bool true), (35, .cv (undef))] [(5, .box 24 [.int .i64 s.1, .int .i64 s.2.1, .sl (.sl (.int .i64)) s.2.2.1, .sl (.sl (.int .i64)) s.2.2.2])] (by (simp only [go_sem, hb2]) <;> (repeat' with_reducible apply And.intro) <;> first | assumption | rfl | omega | (unfold maxLen; omega)) ?_
    refine AO.allF tab_ok (by decide) [(1, .int .u8 x0), (2, .int .u8 y), (3, .int .u8 op0), (4, .sl (.int .i64) word), (5, .bp 5 0), (39, .bool true)] [(5, .box 24 [.int .i64 s.1, .int .i64 s.2.1, .sl (.sl (.int .i64)) s.2.2.1, .sl (.sl (.int .i64)) s.2.2.2])] (by (simp only [go_sem, hb2]) <;> (repeat' with_reducible apply And.intro) <;> first | assumption | rfl | omega | (unfold maxLen; omega)) ?_
    refine athen_n ?_
    refine AW.cond (b := true) rfl (fun _ => ?_) (fun hb3 => by cases hb3)
    refine AW.seq ?_
    refine AW.ops ?_
    obtain ⟨v0_2, hv4, h⟩ := Option.bind_eq_some_iff.1 h
    refine AO.call tab_ok (by decide) rfl rfl rfl (fun _ h => h) [] [] (hc_lineallaw01_Awake hv4) rfl (by (simp only [go_sem, hb2]) <;> (repeat' with_reducible apply And.intro) <;> first | assumption | rfl | omega | (unfold maxLen; omega)) (by (simp only [go_sem, hb2]) <;> (repeat' with_reducible apply And.intro) <;> first | assumption | rfl | omega | (unfold maxLen; omega)) [(40, .bool v0_2)] [] (by (simp only [go_sem, hb2]) <;> (repeat' with_reducible apply And.intro) <;> first | assumption | rfl | omega | (unfold maxLen; omega)) ?_
    refine AO.allF tab_ok (by decide) [(10, .bool v0_2)] [] (by (simp only [go_sem, hb2]) <;> (repeat' with_reducible apply And.intro) <;> first | assumption | rfl | omega | (unfold maxLen; omega)) ?_
    refine athen_n ?_
    refine AW.ret ?_
    refine athen_r ?_
    obtain rfl := Option.some.inj h
    exact ⟨rfl, [], [], [], rfl, (by (simp only [go_sem, hb2]) <;> (repeat' with_reducible apply And.intro) <;> first | assumption | rfl | omega | (unfold maxLen; omega))⟩
  · rw [if_neg (Bool.eq_false_iff.1 hb2)] at h
    refine AO.weaken (s' := ⟨fr [(1, .int .u8 x0), (2, .int .u8 y), (3, .int .u8 op0), (4, .sl (.int .i64) word), (5, .bp 5 0), (29, .bool false)], hpGet [(5, .box 24 [.int .i64 s.1, .int .i64 s.2.1, .sl (.sl (.int .i64)) s.2.2.1, .sl (.sl (.int .i64)) s.2.2.2])], gt⟩) (Wk.to (by (simp only [go_sem, hb2]) <;> (repeat' with_reducible apply And.intro) <;> first | assumption | rfl | omega | (unfold maxLen; omega))) ?_
    refine AO.segF tab_ok 1 (by decide) [(1, .int .u8 x0), (2, .int .u8 y), (3, .int .u8 op0), (4, .sl (.int .i64) word), (5, .bp 5 0), (29, .bool false), (30, .agg [.int .i64 s.1, .int .i64 s.2.1, .sl (.sl (.int .i64)) s.2.2.1, .sl (.sl (.int .i64)) s.2.2.2])] [(5, .box 24 [.int .i64 s.1, .int .i64 s.2.1, .sl (.sl (.int .i64)) s.2.2.1, .sl (.sl (.int .i64)) s.2.2.2])] (by (simp only [go_sem, hb2]) <;> (repeat' with_reducible apply And.intro) <;> first | assumption | rfl | omega | (unfold maxLen; omega)) ?_
    obtain ⟨v0_3, hv5, h⟩ := Option.bind_eq_some_iff.1 h
    refine AO.call tab_ok (by decide) rfl rfl rfl (fun _ h => ⟨fun _ => h, fun hn => absurd rfl hn⟩) [] [] (hc_linealref01_Valid s hv5) rfl (by (simp only [go_sem, hb2]) <;> (repeat' with_reducible apply And.intro) <;> first | assumption | rfl | omega | (unfold maxLen; omega)) (by (simp only [go_sem, hb2]) <;> (repeat' with_reducible apply And.intro) <;> first | assumption | rfl | omega | (unfold maxLen; omega)) [(1, .int .u8 x0), (2, .int .u8 y), (3, .int .u8 op0), (4, .sl (.int .i64) word), (5, .bp 5 0), (29, .bool false), (31, .bool v0_3)] [(5, .box 24 [.int .i64 s.1, .int .i64 s.2.1, .sl (.sl (.int .i64)) s.2.2.1, .sl (.sl (.int .i64)) s.2.2.2])] (by (simp only [go_sem, hb2]) <;> (repeat' with_reducible apply And.intro) <;> first | assumption | rfl | omega | (unfold maxLen; omega)) ?_
    refine AO.segF tab_ok 3 (by decide) [(1, .int .u8 x0), (2, .int .u8 y), (3, .int .u8 op0), (4, .sl (.int .i64) word), (5, .bp 5 0), (34, .bool (!v0_3))] [(5, .box 24 [.int .i64 s.1, .int .i64 s.2.1, .sl (.sl (.int .i64)) s.2.2.1, .sl (.sl (.int .i64)) s.2.2.2])] (by (simp only [go_sem, hb2]) <;> (repeat' with_reducible apply And.intro) <;> first | assumption | rfl | omega | (unfold maxLen; omega)) ?_
    rcases Bool.eq_false_or_eq_true (!v0_3) with hb6 | hb6
    · rw [if_pos hb6] at h
      refine AO.weaken (s' := ⟨fr [(1, .int .u8 x0), (2, .int .u8 y), (3, .int .u8 op0), (4, .sl (.int .i64) word), (5, .bp 5 0), (34, .bool true)], hpGet [(5, .box 24 [.int .i64 s.1, .int .i64 s.2.1, .sl (.sl (.int .i64)) s.2.2.1, .sl (.sl (.int .i64)) s.2.2.2])], gt⟩) (Wk.to (by (simp only [go_sem, hb2, hb6]) <;> (repeat' with_reducible apply And.intro) <;> first | assumption | rfl | omega | (unfold maxLen; omega))) ?_
      refine AO.segF tab_ok 4 (by decide) [(1, .int .u8 x0), (2, .int .u8 y), (3, .int .u8 op0), (4, .sl (.int .i64) word), (5, .bp 5 0), (34, .bool true), (38, .cv (undef))] [(5, .box 24 [.int .i64 s.1, .int .i64 s.2.1, .sl (.sl (.int .i64)) s.2.2.1, .sl (.sl (.int .i64)) s.2.2.2])] (by (simp only [go_sem, hb2, hb6]) <;> (repeat' with_reducible apply And.intro) <;> first | assumption | rfl | omega | (unfold maxLen; omega)) ?_
      refine AO.allF tab_ok (by decide) [(1, .int .u8 x0), (2, .int .u8 y), (3, .int .u8 op0), (4, .sl (.int .i64) word), (5, .bp 5 0), (39, .bool true)] [(5, .box 24 [.int .i64 s.1, .int .i64 s.2.1, .sl (.sl (.int .i64)) s.2.2.1, .sl (.sl (.int .i64)) s.2.2.2])] (by (simp only [go_sem, hb2, hb6]) <;> (repeat' with_reducible apply And.intro) <;> first | assumption | rfl | omega | (unfold maxLen; omega)) ?_
      refine athen_n ?_
      refine AW.cond (b := true) rfl (fun _ => ?_) (fun hb7 => by cases hb7)
      refine AW.seq ?_
      refine AW.ops ?_
      obtain ⟨v0_4, hv8, h⟩ := Option.bind_eq_some_iff.1 h
      refine AO.call tab_ok (by decide) rfl rfl rfl (fun _ h => h) [] [] (hc_lineallaw01_Awake hv8) rfl (by (simp only [go_sem, hb2, hb6]) <;> (repeat' with_reducible apply And.intro) <;> first | assumption | rfl | omega | (unfold maxLen; omega)) (by (simp only [go_sem, hb2, hb6]) <;> (repeat' with_reducible apply And.intro) <;> first | assumption | rfl | omega | (unfold maxLen; omega)) [(40, .bool v0_4)] [] (by (simp only [go_sem, hb2, hb6]) <;> (repeat' with_reducible apply And.intro) <;> first | assumption | rfl | omega | (unfold maxLen; omega)) ?_
      refine AO.allF tab_ok (by decide) [(10, .bool v0_4)] [] (by (simp only [go_sem, hb2, hb6]) <;> (repeat' with_reducible apply And.intro) <;> first | assumption | rfl | omega | (unfold maxLen; omega)) ?_
      refine athen_n ?_
      refine AW.ret ?_
      refine athen_r ?_
      obtain rfl := Option.some.inj h
      exact ⟨rfl, [], [], [], rfl, (by (simp only [go_sem, hb2, hb6]) <;> (repeat' with_reducible apply And.intro) <;> first | assumption | rfl | omega | (unfold maxLen; omega))⟩
    · rw [if_neg (Bool.eq_false_iff.1 hb6)] at h
      refine AO.weaken (s' := ⟨fr [(1, .int .u8 x0), (2, .int .u8 y), (3, .int .u8 op0), (4, .sl (.int .i64) word), (5, .bp 5 0), (34, .bool false)], hpGet [(5, .box 24 [.int .i64 s.1, .int .i64 s.2.1, .sl (.sl (.int .i64)) s.2.2.1, .sl (.sl (.int .i64)) s.2.2.2])], gt⟩) (Wk.to (by (simp only [go_sem, hb2, hb6]) <;> (repeat' with_reducible apply And.intro) <;> first | assumption | rfl | omega | (unfold maxLen; omega))) ?_
      refine AO.segF tab_ok 2 (by decide) [(1, .int .u8 x0), (2, .int .u8 y), (3, .int .u8 op0), (4, .sl (.int .i64) word), (5, .bp 5 0), (34, .bool false), (35, .agg [.int .i64 s.1, .int .i64 s.2.1, .sl (.sl (.int .i64)) s.2.2.1, .sl (.sl (.int .i64)) s.2.2.2]), (36, .sl (.int .i64) word)] [(5, .box 24 [.int .i64 s.1, .int .i64 s.2.1, .sl (.sl (.int .i64)) s.2.2.1, .sl (.sl (.int .i64)) s.2.2.2])] (by (simp only [go_sem, hb2, hb6]) <;> (repeat' with_reducible apply And.intro) <;> first | assumption | rfl | omega | (unfold maxLen; omega)) ?_
      obtain ⟨v0_5, hv9, h⟩ := Option.bind_eq_some_iff.1 h
      refine AO.call tab_ok (by decide) rfl rfl rfl (fun _ h => ⟨fun _ => h, fun hn => absurd rfl hn⟩) [] [] (hc_linealref01_IsWord s word hv9) rfl (by (simp only [go_sem, hb2, hb6]) <;> (repeat' with_reducible apply And.intro) <;> first | assumption | rfl | omega | (unfold maxLen; omega)) (by (simp only [go_sem, hb2, hb6]) <;> (repeat' with_reducible apply And.intro) <;> first | assumption | rfl | omega | (unfold maxLen; omega)) [(1, .int .u8 x0), (2, .int .u8 y), (3, .int .u8 op0), (4, .sl (.int .i64) word), (5, .bp 5 0), (34, .bool false), (37, .bool v0_5)] [(5, .box 24 [.int .i64 s.1, .int .i64 s.2.1, .sl (.sl (.int .i64)) s.2.2.1, .sl (.sl (.int .i64)) s.2.2.2])] (by (simp only [go_sem, hb2, hb6]) <;> (repeat' with_reducible apply And.intro) <;> first | assumption | rfl | omega | (unfold maxLen; omega)) ?_
      refine AO.allF tab_ok (by decide) [(1, .int .u8 x0), (2, .int .u8 y), (3, .int .u8 op0), (4, .sl (.int .i64) word), (5, .bp 5 0), (39, .bool (!v0_5))] [(5, .box 24 [.int .i64 s.1, .int .i64 s.2.1, .sl (.sl (.int .i64)) s.2.2.1, .sl (.sl (.int .i64)) s.2.2.2])] (by (simp only [go_sem, hb2, hb6]) <;> (repeat' with_reducible apply And.intro) <;> first | assumption | rfl | omega | (unfold maxLen; omega)) ?_
      refine athen_n ?_
      refine AW.cond (b := (!v0_5)) rfl (fun hb10 => ?_) (fun hb10 => ?_)
      · rw [if_pos hb10] at h
        refine AW.seq ?_
        refine AW.ops ?_
        obtain ⟨v0_6, hv11, h⟩ := Option.bind_eq_some_iff.1 h
        refine AO.call tab_ok (by decide) rfl rfl rfl (fun _ h => h) [] [] (hc_lineallaw01_Awake hv11) rfl (by (simp only [go_sem, hb2, hb6, hb10]) <;> (repeat' with_reducible apply And.intro) <;> first | assumption | rfl | omega | (unfold maxLen; omega)) (by (simp only [go_sem, hb2, hb6, hb10]) <;> (repeat' with_reducible apply And.intro) <;> first | assumption | rfl | omega | (unfold maxLen; omega)) [(40, .bool v0_6)] [] (by (simp only [go_sem, hb2, hb6, hb10]) <;> (repeat' with_reducible apply And.intro) <;> first | assumption | rfl | omega | (unfold maxLen; omega)) ?_
        refine AO.allF tab_ok (by decide) [(10, .bool v0_6)] [] (by (simp only [go_sem, hb2, hb6, hb10]) <;> (repeat' with_reducible apply And.intro) <;> first | assumption | rfl | omega | (unfold maxLen; omega)) ?_
        refine athen_n ?_
        refine AW.ret ?_
        refine athen_r ?_
        obtain rfl := Option.some.inj h
        exact ⟨rfl, [], [], [], rfl, (by (simp only [go_sem, hb2, hb6, hb10]) <;> (repeat' with_reducible apply And.intro) <;> first | assumption | rfl | omega | (unfold maxLen; omega))⟩
      · rw [if_neg (Bool.eq_false_iff.1 hb10)] at h
        refine AW.skip ?_
        refine athen_n ?_
        refine AW.seq ?_
        refine AW.draw tab_ok mixed_ok [] [] (by decide) (by kernel_rfl) ?_
        obtain ⟨c13, h⟩ := ck_some.1 h
        obtain ⟨c14, h⟩ := ck_some.1 h
        obtain ⟨c15, h⟩ := ck_some.1 h
        refine adops_cut 6 (fun K' hK12 => ?_)
        try dsimp only [List.drop_succ_cons, List.drop_zero, List.take_succ_cons, List.take_zero]
        simp only [go_sem, hb2, hb6, hb10]
        repeat (with_reducible refine And.intro (by first | assumption | rfl | omega | trivial | (unfold maxLen; omega)) ?_)
        refine hK12 _ ?_
        obtain ⟨c17, h⟩ := ck_some.1 h
        obtain ⟨c18, h⟩ := ck_some.1 h
        obtain ⟨c19, h⟩ := ck_some.1 h
        obtain ⟨c20, h⟩ := ck_some.1 h
        refine adops_cut 6 (fun K' hK16 => ?_)
        try dsimp only [List.drop_succ_cons, List.drop_zero, List.take_succ_cons, List.take_zero]
        simp only [go_sem, hb2, hb6, hb10]
        repeat (with_reducible refine And.intro (by first | assumption | rfl | omega | trivial | (unfold maxLen; omega)) ?_)
        refine hK16 _ ?_
        obtain ⟨c22, h⟩ := ck_some.1 h
        obtain ⟨c23, h⟩ := ck_some.1 h
        refine adops_cut 6 (fun K' hK21 => ?_)
        try dsimp only [List.drop_succ_cons, List.drop_zero, List.take_succ_cons, List.take_zero]
        simp only [go_sem, hb2, hb6, hb10]
        repeat (with_reducible refine And.intro (by first | assumption | rfl | omega | trivial | (unfold maxLen; omega)) ?_)
        refine hK21 _ ?_
        refine adops_nil ?_
        refine athen_n ?_
        refine AW.weaken (s' := ⟨fr [(4, .sl (.int .i64) word), (5, .bp 5 0), (11, .int .i64 (x0 % s.1)), (12, .int .i64 (y % s.1)), (13, .int .i64 (op0 % s.2.1))], hpGet [(5, .box 24 [.int .i64 s.1, .int .i64 s.2.1, .sl (.sl (.int .i64)) s.2.2.1, .sl (.sl (.int .i64)) s.2.2.2])], gt⟩) (Wk.to (by (simp only [go_sem, hb2, hb6, hb10]) <;> (repeat' with_reducible apply And.intro) <;> first | assumption | rfl | omega | (unfold maxLen; omega))) ?_
        refine AW.seq ?_
        refine AW.ops ?_
        refine AO.segF tab_ok 3 (by decide) [(4, .sl (.int .i64) word), (5, .bp 5 0), (11, .int .i64 (x0 % s.1)), (12, .int .i64 (y % s.1)), (13, .int .i64 (op0 % s.2.1)), (57, .agg [.int .i64 s.1, .int .i64 s.2.1, .sl (.sl (.int .i64)) s.2.2.1, .sl (.sl (.int .i64)) s.2.2.2]), (58, .int .i64 (x0 % s.1)), (59, .int .i64 (y % s.1))] [(5, .box 24 [.int .i64 s.1, .int .i64 s.2.1, .sl (.sl (.int .i64)) s.2.2.1, .sl (.sl (.int .i64)) s.2.2.2])] (by (simp only [go_sem, hb2, hb6, hb10]) <;> (repeat' with_reducible apply And.intro) <;> first | assumption | rfl | omega | (unfold maxLen; omega)) ?_
        obtain ⟨v0_7, hv24, h⟩ := Option.bind_eq_some_iff.1 h
        refine AO.call tab_ok (by decide) rfl rfl rfl (fun _ h => h) [] [] (hc_spec_Same s (x0 % s.1) (y % s.1) hv24) rfl (by (simp only [go_sem, hb2, hb6, hb10]) <;> (repeat' with_reducible apply And.intro) <;> first | assumption | rfl | omega | (unfold maxLen; omega)) (by (simp only [go_sem, hb2, hb6, hb10]) <;> (repeat' with_reducible apply And.intro) <;> first | assumption | rfl | omega | (unfold maxLen; omega)) [(4, .sl (.int .i64) word), (5, .bp 5 0), (11, .int .i64 (x0 % s.1)), (12, .int .i64 (y % s.1)), (13, .int .i64 (op0 % s.2.1)), (60, .tup [.bool v0_7.1, .int .i64 v0_7.2])] [(5, .box 24 [.int .i64 s.1, .int .i64 s.2.1, .sl (.sl (.int .i64)) s.2.2.1, .sl (.sl (.int .i64)) s.2.2.2])] (by (simp only [go_sem, hb2, hb6, hb10]) <;> (repeat' with_reducible apply And.intro) <;> first | assumption | rfl | omega | (unfold maxLen; omega)) ?_
        refine AO.allF tab_ok (by decide) [(4, .sl (.int .i64) word), (5, .bp 5 0), (11, .int .i64 (x0 % s.1)), (12, .int .i64 (y % s.1)), (13, .int .i64 (op0 % s.2.1)), (14, .bool v0_7.1), (15, .int .i64 v0_7.2)] [(5, .box 24 [.int .i64 s.1, .int .i64 s.2.1, .sl (.sl (.int .i64)) s.2.2.1, .sl (.sl (.int .i64)) s.2.2.2])] (by (simp only [go_sem, hb2, hb6, hb10]) <;> (repeat' with_reducible apply And.intro) <;> first | assumption | rfl | omega | (unfold maxLen; omega)) ?_
        refine athen_n ?_
        refine AW.seq ?_
        refine AW.ops ?_
        refine AO.segF tab_ok 3 (by decide) [(4, .sl (.int .i64) word), (5, .bp 5 0), (11, .int .i64 (x0 % s.1)), (12, .int .i64 (y % s.1)), (13, .int .i64 (op0 % s.2.1)), (14, .bool v0_7.1), (15, .int .i64 v0_7.2), (64, .agg [.int .i64 s.1, .int .i64 s.2.1, .sl (.sl (.int .i64)) s.2.2.1, .sl (.sl (.int .i64)) s.2.2.2]), (65, .int .i64 (x0 % s.1)), (66, .int .i64 (y % s.1))] [(5, .box 24 [.int .i64 s.1, .int .i64 s.2.1, .sl (.sl (.int .i64)) s.2.2.1, .sl (.sl (.int .i64)) s.2.2.2])] (by (simp only [go_sem, hb2, hb6, hb10]) <;> (repeat' with_reducible apply And.intro) <;> first | assumption | rfl | omega | (unfold maxLen; omega)) ?_
        obtain ⟨v0_8, hv25, h⟩ := Option.bind_eq_some_iff.1 h
        refine AO.call tab_ok (by decide) rfl rfl rfl (fun _ h => h) [] [] (hc_spec_Word s (x0 % s.1) (y % s.1) hv25) rfl (by (simp only [go_sem, hb2, hb6, hb10]) <;> (repeat' with_reducible apply And.intro) <;> first | assumption | rfl | omega | (unfold maxLen; omega)) (by (simp only [go_sem, hb2, hb6, hb10]) <;> (repeat' with_reducible apply And.intro) <;> first | assumption | rfl | omega | (unfold maxLen; omega)) [(4, .sl (.int .i64) word), (5, .bp 5 0), (11, .int .i64 (x0 % s.1)), (12, .int .i64 (y % s.1)), (13, .int .i64 (op0 % s.2.1)), (14, .bool v0_7.1), (15, .int .i64 v0_7.2), (67, .tup [.own 77000, .int .i64 v0_8.2])] [(5, .box 24 [.int .i64 s.1, .int .i64 s.2.1, .sl (.sl (.int .i64)) s.2.2.1, .sl (.sl (.int .i64)) s.2.2.2]), (77000, .arr 3 (.int .i64) v0_8.1)] (by (simp only [go_sem, hb2, hb6, hb10]) <;> (repeat' with_reducible apply And.intro) <;> first | assumption | rfl | omega | (unfold maxLen; omega)) ?_
        refine AO.allF tab_ok (by decide) [(4, .sl (.int .i64) word), (5, .bp 5 0), (11, .int .i64 (x0 % s.1)), (12, .int .i64 (y % s.1)), (13, .int .i64 (op0 % s.2.1)), (14, .bool v0_7.1), (15, .int .i64 v0_7.2), (16, .own 77000), (17, .int .i64 v0_8.2)] [(5, .box 24 [.int .i64 s.1, .int .i64 s.2.1, .sl (.sl (.int .i64)) s.2.2.1, .sl (.sl (.int .i64)) s.2.2.2]), (77000, .arr 3 (.int .i64) v0_8.1)] (by (simp only [go_sem, hb2, hb6, hb10]) <;> (repeat' with_reducible apply And.intro) <;> first | assumption | rfl | omega | (unfold maxLen; omega)) ?_
        refine athen_n ?_
        refine AW.seq ?_
        refine AW.ops ?_
        refine AO.segF tab_ok 4 (by decide) [(4, .sl (.int .i64) word), (5, .bp 5 0), (11, .int .i64 (x0 % s.1)), (12, .int .i64 (y % s.1)), (13, .int .i64 (op0 % s.2.1)), (14, .bool v0_7.1), (15, .int .i64 v0_7.2), (16, .own 77000), (17, .int .i64 v0_8.2), (71, .agg [.int .i64 s.1, .int .i64 s.2.1, .sl (.sl (.int .i64)) s.2.2.1, .sl (.sl (.int .i64)) s.2.2.2]), (72, .int .i64 (x0 % s.1)), (73, .int .i64 (y % s.1)), (74, .sl (.int .i64) word)] [(5, .box 24 [.int .i64 s.1, .int .i64 s.2.1, .sl (.sl (.int .i64)) s.2.2.1, .sl (.sl (.int .i64)) s.2.2.2]), (77000, .arr 3 (.int .i64) v0_8.1)] (by (simp only [go_sem, hb2, hb6, hb10]) <;> (repeat' with_reducible apply And.intro) <;> first | assumption | rfl | omega | (unfold maxLen; omega)) ?_
        obtain ⟨v0_9, hv26, h⟩ := Option.bind_eq_some_iff.1 h
        refine AO.call tab_ok (by decide) rfl rfl rfl (fun _ h => h) [] [] (hc_spec_Tells s (x0 % s.1) (y % s.1) word hv26) rfl (by (simp only [go_sem, hb2, hb6, hb10]) <;> (repeat' with_reducible apply And.intro) <;> first | assumption | rfl | omega | (unfold maxLen; omega)) (by (simp only [go_sem, hb2, hb6, hb10]) <;> (repeat' with_reducible apply And.intro) <;> first | assumption | rfl | omega | (unfold maxLen; omega)) [(4, .sl (.int .i64) word), (5, .bp 5 0), (11, .int .i64 (x0 % s.1)), (12, .int .i64 (y % s.1)), (13, .int .i64 (op0 % s.2.1)), (14, .bool v0_7.1), (15, .int .i64 v0_7.2), (16, .own 77000), (17, .int .i64 v0_8.2), (75, .tup [.bool v0_9.1, .int .i64 v0_9.2])] [(5, .box 24 [.int .i64 s.1, .int .i64 s.2.1, .sl (.sl (.int .i64)) s.2.2.1, .sl (.sl (.int .i64)) s.2.2.2]), (77000, .arr 3 (.int .i64) v0_8.1)] (by (simp only [go_sem, hb2, hb6, hb10]) <;> (repeat' with_reducible apply And.intro) <;> first | assumption | rfl | omega | (unfold maxLen; omega)) ?_
        refine AO.allF tab_ok (by decide) [(4, .sl (.int .i64) word), (5, .bp 5 0), (11, .int .i64 (x0 % s.1)), (12, .int .i64 (y % s.1)), (13, .int .i64 (op0 % s.2.1)), (14, .bool v0_7.1), (15, .int .i64 v0_7.2), (16, .own 77000), (17, .int .i64 v0_8.2), (18, .bool v0_9.1), (19, .int .i64 v0_9.2)] [(5, .box 24 [.int .i64 s.1, .int .i64 s.2.1, .sl (.sl (.int .i64)) s.2.2.1, .sl (.sl (.int .i64)) s.2.2.2]), (77000, .arr 3 (.int .i64) v0_8.1)] (by (simp only [go_sem, hb2, hb6, hb10]) <;> (repeat' with_reducible apply And.intro) <;> first | assumption | rfl | omega | (unfold maxLen; omega)) ?_
        refine athen_n ?_
        refine AW.seq ?_
        refine AW.ops ?_
        refine AO.segF tab_ok 1 (by decide) [(4, .sl (.int .i64) word), (5, .bp 5 0), (11, .int .i64 (x0 % s.1)), (12, .int .i64 (y % s.1)), (13, .int .i64 (op0 % s.2.1)), (14, .bool v0_7.1), (15, .int .i64 v0_7.2), (16, .own 77000), (17, .int .i64 v0_8.2), (18, .bool v0_9.1), (19, .int .i64 v0_9.2), (79, .agg [.int .i64 s.1, .int .i64 s.2.1, .sl (.sl (.int .i64)) s.2.2.1, .sl (.sl (.int .i64)) s.2.2.2])] [(5, .box 24 [.int .i64 s.1, .int .i64 s.2.1, .sl (.sl (.int .i64)) s.2.2.1, .sl (.sl (.int .i64)) s.2.2.2]), (77000, .arr 3 (.int .i64) v0_8.1)] (by (simp only [go_sem, hb2, hb6, hb10]) <;> (repeat' with_reducible apply And.intro) <;> first | assumption | rfl | omega | (unfold maxLen; omega)) ?_
        obtain ⟨v0_10, hv27, h⟩ := Option.bind_eq_some_iff.1 h
        refine AO.call tab_ok (by decide) rfl rfl rfl (fun _ h => h) [] [] (hc_spec_Classes s hv27) rfl (by (simp only [go_sem, hb2, hb6, hb10]) <;> (repeat' with_reducible apply And.intro) <;> first | assumption | rfl | omega | (unfold maxLen; omega)) (by (simp only [go_sem, hb2, hb6, hb10]) <;> (repeat' with_reducible apply And.intro) <;> first | assumption | rfl | omega | (unfold maxLen; omega)) [(4, .sl (.int .i64) word), (5, .bp 5 0), (11, .int .i64 (x0 % s.1)), (12, .int .i64 (y % s.1)), (13, .int .i64 (op0 % s.2.1)), (14, .bool v0_7.1), (15, .int .i64 v0_7.2), (16, .own 77000), (17, .int .i64 v0_8.2), (18, .bool v0_9.1), (19, .int .i64 v0_9.2), (80, .tup [.own 90000, .int .i64 v0_10.2])] [(5, .box 24 [.int .i64 s.1, .int .i64 s.2.1, .sl (.sl (.int .i64)) s.2.2.1, .sl (.sl (.int .i64)) s.2.2.2]), (77000, .arr 3 (.int .i64) v0_8.1), (90000, .arr 3 (.int .i64) v0_10.1)] (by (simp only [go_sem, hb2, hb6, hb10]) <;> (repeat' with_reducible apply And.intro) <;> first | assumption | rfl | omega | (unfold maxLen; omega)) ?_
        refine AO.allF tab_ok (by decide) [(4, .sl (.int .i64) word), (5, .bp 5 0), (11, .int .i64 (x0 % s.1)), (12, .int .i64 (y % s.1)), (13, .int .i64 (op0 % s.2.1)), (14, .bool v0_7.1), (15, .int .i64 v0_7.2), (16, .own 77000), (17, .int .i64 v0_8.2), (18, .bool v0_9.1), (19, .int .i64 v0_9.2), (20, .own 90000), (21, .int .i64 v0_10.2)] [(5, .box 24 [.int .i64 s.1, .int .i64 s.2.1, .sl (.sl (.int .i64)) s.2.2.1, .sl (.sl (.int .i64)) s.2.2.2]), (77000, .arr 3 (.int .i64) v0_8.1), (90000, .arr 3 (.int .i64) v0_10.1)] (by (simp only [go_sem, hb2, hb6, hb10]) <;> (repeat' with_reducible apply And.intro) <;> first | assumption | rfl | omega | (unfold maxLen; omega)) ?_
        refine athen_n ?_
        refine AW.seq ?_
        refine AW.seq ?_
        refine AW.draw tab_ok mixed_ok [] [] (by decide) (lex_fast (by kernel_rfl)) ?_
        try simp only [List.append_eq, List.cons_append, List.nil_append]
        refine adops_cut 3 (fun K' hK28 => ?_)
        try dsimp only [List.drop_succ_cons, List.drop_zero, List.take_succ_cons, List.take_zero]
        simp only [go_sem, hb2, hb6, hb10]
        repeat (with_reducible refine And.intro (by first | assumption | rfl | omega | trivial | (unfold maxLen; omega)) ?_)
        refine hK28 _ ?_
        rcases Bool.eq_false_or_eq_true (!(decide (v0_7.2 = 0))) with hb29 | hb29
        · rw [if_pos hb29] at h
          simp only [hb29]
          refine adops_cut 6 (fun K' hK30 => ?_)
          try dsimp only [List.drop_succ_cons, List.drop_zero, List.take_succ_cons, List.take_zero]
          simp only [go_sem, hb2, hb6, hb10, hb29]
          repeat (with_reducible refine And.intro (by first | assumption | rfl | omega | trivial | (unfold maxLen; omega)) ?_)
          refine hK30 _ ?_
          refine adops_cut 6 (fun K' hK31 => ?_)
          try dsimp only [List.drop_succ_cons, List.drop_zero, List.take_succ_cons, List.take_zero]
          simp only [go_sem, hb2, hb6, hb10, hb29]
          repeat (with_reducible refine And.intro (by first | assumption | rfl | omega | trivial | (unfold maxLen; omega)) ?_)
          refine hK31 _ ?_
          refine adops_cut 6 (fun K' hK32 => ?_)
          try dsimp only [List.drop_succ_cons, List.drop_zero, List.take_succ_cons, List.take_zero]
          simp only [go_sem, hb2, hb6, hb10, hb29]
          repeat (with_reducible refine And.intro (by first | assumption | rfl | omega | trivial | (unfold maxLen; omega)) ?_)
          refine hK32 _ ?_
          refine adops_cut 6 (fun K' hK33 => ?_)
          try dsimp only [List.drop_succ_cons, List.drop_zero, List.take_succ_cons, List.take_zero]
          simp only [go_sem, hb2, hb6, hb10, hb29]
          repeat (with_reducible refine And.intro (by first | assumption | rfl | omega | trivial | (unfold maxLen; omega)) ?_)
          refine hK33 _ ?_
          refine adops_cut 4 (fun K' hK34 => ?_)
          try dsimp only [List.drop_succ_cons, List.drop_zero, List.take_succ_cons, List.take_zero]
          simp only [go_sem, hb2, hb6, hb10, hb29]
          repeat (with_reducible refine And.intro (by first | assumption | rfl | omega | trivial | (unfold maxLen; omega)) ?_)
          refine hK34 _ ?_
          refine adops_cut 4 (fun K' hK35 => ?_)
          try dsimp only [List.drop_succ_cons, List.drop_zero, List.take_succ_cons, List.take_zero]
          simp only [go_sem, hb2, hb6, hb10, hb29]
          repeat (with_reducible refine And.intro (by first | assumption | rfl | omega | trivial | (unfold maxLen; omega)) ?_)
          refine hK35 _ ?_
          refine adops_cut 6 (fun K' hK36 => ?_)
          try dsimp only [List.drop_succ_cons, List.drop_zero, List.take_succ_cons, List.take_zero]
          simp only [go_sem, hb2, hb6, hb10, hb29]
          repeat (with_reducible refine And.intro (by first | assumption | rfl | omega | trivial | (unfold maxLen; omega)) ?_)
          refine hK36 _ ?_
          refine adops_cut 6 (fun K' hK37 => ?_)
          try dsimp only [List.drop_succ_cons, List.drop_zero, List.take_succ_cons, List.take_zero]
          simp only [go_sem, hb2, hb6, hb10, hb29]
          repeat (with_reducible refine And.intro (by first | assumption | rfl | omega | trivial | (unfold maxLen; omega)) ?_)
          refine hK37 _ ?_
          refine adops_cut 6 (fun K' hK38 => ?_)
          try dsimp only [List.drop_succ_cons, List.drop_zero, List.take_succ_cons, List.take_zero]
          simp only [go_sem, hb2, hb6, hb10, hb29]
          repeat (with_reducible refine And.intro (by first | assumption | rfl | omega | trivial | (unfold maxLen; omega)) ?_)
          refine hK38 _ ?_
          refine adops_cut 4 (fun K' hK39 => ?_)
          try dsimp only [List.drop_succ_cons, List.drop_zero, List.take_succ_cons, List.take_zero]
          simp only [go_sem, hb2, hb6, hb10, hb29]
          repeat (with_reducible refine And.intro (by first | assumption | rfl | omega | trivial | (unfold maxLen; omega)) ?_)
          refine hK39 _ ?_
          refine adops_cut 4 (fun K' hK40 => ?_)
          try dsimp only [List.drop_succ_cons, List.drop_zero, List.take_succ_cons, List.take_zero]
          simp only [go_sem, hb2, hb6, hb10, hb29]
          repeat (with_reducible refine And.intro (by first | assumption | rfl | omega | trivial | (unfold maxLen; omega)) ?_)
          refine hK40 _ ?_
          refine adops_cut 4 (fun K' hK41 => ?_)
          try dsimp only [List.drop_succ_cons, List.drop_zero, List.take_succ_cons, List.take_zero]
          simp only [go_sem, hb2, hb6, hb10, hb29]
          repeat (with_reducible refine And.intro (by first | assumption | rfl | omega | trivial | (unfold maxLen; omega)) ?_)
          refine hK41 _ ?_
          refine adops_nil ?_
          refine athen_n ?_
          refine AW.weaken (s' := ⟨fr [(4, .sl (.int .i64) word), (5, .bp 5 0), (11, .int .i64 (x0 % s.1)), (12, .int .i64 (y % s.1)), (13, .int .i64 (op0 % s.2.1)), (14, .bool v0_7.1), (16, .own 77000), (17, .int .i64 v0_8.2), (18, .bool v0_9.1), (147, .bool true)], hpGet [(5, .box 24 [.int .i64 s.1, .int .i64 s.2.1, .sl (.sl (.int .i64)) s.2.2.1, .sl (.sl (.int .i64)) s.2.2.2]), (77000, .arr 3 (.int .i64) v0_8.1)], gt⟩) (Wk.to (by (simp only [go_sem, hb2, hb6, hb10, hb29]) <;> (repeat' with_reducible apply And.intro) <;> first | assumption | rfl | omega | (unfold maxLen; omega))) ?_
          refine AW.cond (b := true) rfl (fun _ => ?_) (fun hb42 => by cases hb42)
          refine AW.seq ?_
          refine AW.ops ?_
          refine AO.allF tab_ok (by decide) [(10, .bool false)] [] (by (simp only [go_sem, hb2, hb6, hb10, hb29]) <;> (repeat' with_reducible apply And.intro) <;> first | assumption | rfl | omega | (unfold maxLen; omega)) ?_
          refine athen_n ?_
          refine AW.ret ?_
          refine athen_r ?_
          obtain rfl := Option.some.inj h
          exact ⟨rfl, [], [], [], rfl, (by (simp only [go_sem, hb2, hb6, hb10, hb29]) <;> (repeat' with_reducible apply And.intro) <;> first | assumption | rfl | omega | (unfold maxLen; omega))⟩
        · rw [if_neg (Bool.eq_false_iff.1 hb29)] at h
          simp only [hb29]
          refine adops_cut 4 (fun K' hK43 => ?_)
          try dsimp only [List.drop_succ_cons, List.drop_zero, List.take_succ_cons, List.take_zero]
          simp only [go_sem, hb2, hb6, hb10, hb29]
          repeat (with_reducible refine And.intro (by first | assumption | rfl | omega | trivial | (unfold maxLen; omega)) ?_)
          refine hK43 _ ?_
          rcases Bool.eq_false_or_eq_true (!(decide (v0_9.2 = 0))) with hb44 | hb44
          · rw [if_pos hb44] at h
            simp only [hb44]
            refine adops_cut 6 (fun K' hK45 => ?_)
            try dsimp only [List.drop_succ_cons, List.drop_zero, List.take_succ_cons, List.take_zero]
            simp only [go_sem, hb2, hb6, hb10, hb29, hb44]
            repeat (with_reducible refine And.intro (by first | assumption | rfl | omega | trivial | (unfold maxLen; omega)) ?_)
            refine hK45 _ ?_
            refine adops_cut 6 (fun K' hK46 => ?_)
            try dsimp only [List.drop_succ_cons, List.drop_zero, List.take_succ_cons, List.take_zero]
            simp only [go_sem, hb2, hb6, hb10, hb29, hb44]
            repeat (with_reducible refine And.intro (by first | assumption | rfl | omega | trivial | (unfold maxLen; omega)) ?_)
            refine hK46 _ ?_
            refine adops_cut 6 (fun K' hK47 => ?_)
            try dsimp only [List.drop_succ_cons, List.drop_zero, List.take_succ_cons, List.take_zero]
            simp only [go_sem, hb2, hb6, hb10, hb29, hb44]
            repeat (with_reducible refine And.intro (by first | assumption | rfl | omega | trivial | (unfold maxLen; omega)) ?_)
            refine hK47 _ ?_
            refine adops_cut 4 (fun K' hK48 => ?_)
            try dsimp only [List.drop_succ_cons, List.drop_zero, List.take_succ_cons, List.take_zero]
            simp only [go_sem, hb2, hb6, hb10, hb29, hb44]
            repeat (with_reducible refine And.intro (by first | assumption | rfl | omega | trivial | (unfold maxLen; omega)) ?_)
            refine hK48 _ ?_
            refine adops_cut 4 (fun K' hK49 => ?_)
            try dsimp only [List.drop_succ_cons, List.drop_zero, List.take_succ_cons, List.take_zero]
            simp only [go_sem, hb2, hb6, hb10, hb29, hb44]
            repeat (with_reducible refine And.intro (by first | assumption | rfl | omega | trivial | (unfold maxLen; omega)) ?_)
            refine hK49 _ ?_
            refine adops_cut 6 (fun K' hK50 => ?_)
            try dsimp only [List.drop_succ_cons, List.drop_zero, List.take_succ_cons, List.take_zero]
            simp only [go_sem, hb2, hb6, hb10, hb29, hb44]
            repeat (with_reducible refine And.intro (by first | assumption | rfl | omega | trivial | (unfold maxLen; omega)) ?_)
            refine hK50 _ ?_
            refine adops_cut 6 (fun K' hK51 => ?_)
            try dsimp only [List.drop_succ_cons, List.drop_zero, List.take_succ_cons, List.take_zero]
            simp only [go_sem, hb2, hb6, hb10, hb29, hb44]
            repeat (with_reducible refine And.intro (by first | assumption | rfl | omega | trivial | (unfold maxLen; omega)) ?_)
            refine hK51 _ ?_
            refine adops_cut 4 (fun K' hK52 => ?_)
            try dsimp only [List.drop_succ_cons, List.drop_zero, List.take_succ_cons, List.take_zero]
            simp only [go_sem, hb2, hb6, hb10, hb29, hb44]
            repeat (with_reducible refine And.intro (by first | assumption | rfl | omega | trivial | (unfold maxLen; omega)) ?_)
            refine hK52 _ ?_
            refine adops_cut 6 (fun K' hK53 => ?_)
            try dsimp only [List.drop_succ_cons, List.drop_zero, List.take_succ_cons, List.take_zero]
            simp only [go_sem, hb2, hb6, hb10, hb29, hb44]
            repeat (with_reducible refine And.intro (by first | assumption | rfl | omega | trivial | (unfold maxLen; omega)) ?_)
            refine hK53 _ ?_
            refine adops_cut 4 (fun K' hK54 => ?_)
            try dsimp only [List.drop_succ_cons, List.drop_zero, List.take_succ_cons, List.take_zero]
            simp only [go_sem, hb2, hb6, hb10, hb29, hb44]
            repeat (with_reducible refine And.intro (by first | assumption | rfl | omega | trivial | (unfold maxLen; omega)) ?_)
            refine hK54 _ ?_
            refine adops_cut 4 (fun K' hK55 => ?_)
            try dsimp only [List.drop_succ_cons, List.drop_zero, List.take_succ_cons, List.take_zero]
            simp only [go_sem, hb2, hb6, hb10, hb29, hb44]
            repeat (with_reducible refine And.intro (by first | assumption | rfl | omega | trivial | (unfold maxLen; omega)) ?_)
            refine hK55 _ ?_
            refine adops_cut 2 (fun K' hK56 => ?_)
            try dsimp only [List.drop_succ_cons, List.drop_zero, List.take_succ_cons, List.take_zero]
            simp only [go_sem, hb2, hb6, hb10, hb29, hb44]
            repeat (with_reducible refine And.intro (by first | assumption | rfl | omega | trivial | (unfold maxLen; omega)) ?_)
            refine hK56 _ ?_
            refine adops_nil ?_
            refine athen_n ?_
            refine AW.weaken (s' := ⟨fr [(4, .sl (.int .i64) word), (5, .bp 5 0), (11, .int .i64 (x0 % s.1)), (12, .int .i64 (y % s.1)), (13, .int .i64 (op0 % s.2.1)), (14, .bool v0_7.1), (16, .own 77000), (17, .int .i64 v0_8.2), (18, .bool v0_9.1), (147, .bool true)], hpGet [(5, .box 24 [.int .i64 s.1, .int .i64 s.2.1, .sl (.sl (.int .i64)) s.2.2.1, .sl (.sl (.int .i64)) s.2.2.2]), (77000, .arr 3 (.int .i64) v0_8.1)], gt⟩) (Wk.to (by (simp only [go_sem, hb2, hb6, hb10, hb29, hb44]) <;> (repeat' with_reducible apply And.intro) <;> first | assumption | rfl | omega | (unfold maxLen; omega))) ?_
            refine AW.cond (b := true) rfl (fun _ => ?_) (fun hb57 => by cases hb57)
            refine AW.seq ?_
            refine AW.ops ?_
            refine AO.allF tab_ok (by decide) [(10, .bool false)] [] (by (simp only [go_sem, hb2, hb6, hb10, hb29, hb44]) <;> (repeat' with_reducible apply And.intro) <;> first | assumption | rfl | omega | (unfold maxLen; omega)) ?_
            refine athen_n ?_
            refine AW.ret ?_
            refine athen_r ?_
            obtain rfl := Option.some.inj h
            exact ⟨rfl, [], [], [], rfl, (by (simp only [go_sem, hb2, hb6, hb10, hb29, hb44]) <;> (repeat' with_reducible apply And.intro) <;> first | assumption | rfl | omega | (unfold maxLen; omega))⟩
          · rw [if_neg (Bool.eq_false_iff.1 hb44)] at h
            simp only [hb44]
            refine adops_cut 4 (fun K' hK58 => ?_)
            try dsimp only [List.drop_succ_cons, List.drop_zero, List.take_succ_cons, List.take_zero]
            simp only [go_sem, hb2, hb6, hb10, hb29, hb44]
            repeat (with_reducible refine And.intro (by first | assumption | rfl | omega | trivial | (unfold maxLen; omega)) ?_)
            refine hK58 _ ?_
            rcases Bool.eq_false_or_eq_true (!(decide (v0_10.2 = 0))) with hb59 | hb59
            · rw [if_pos hb59] at h
              simp only [hb59]
              refine adops_cut 4 (fun K' hK60 => ?_)
              try dsimp only [List.drop_succ_cons, List.drop_zero, List.take_succ_cons, List.take_zero]
              simp only [go_sem, hb2, hb6, hb10, hb29, hb44, hb59]
              repeat (with_reducible refine And.intro (by first | assumption | rfl | omega | trivial | (unfold maxLen; omega)) ?_)
              refine hK60 _ ?_
              refine adops_cut 6 (fun K' hK61 => ?_)
              try dsimp only [List.drop_succ_cons, List.drop_zero, List.take_succ_cons, List.take_zero]
              simp only [go_sem, hb2, hb6, hb10, hb29, hb44, hb59]
              repeat (with_reducible refine And.intro (by first | assumption | rfl | omega | trivial | (unfold maxLen; omega)) ?_)
              refine hK61 _ ?_
              refine adops_cut 6 (fun K' hK62 => ?_)
              try dsimp only [List.drop_succ_cons, List.drop_zero, List.take_succ_cons, List.take_zero]
              simp only [go_sem, hb2, hb6, hb10, hb29, hb44, hb59]
              repeat (with_reducible refine And.intro (by first | assumption | rfl | omega | trivial | (unfold maxLen; omega)) ?_)
              refine hK62 _ ?_
              refine adops_cut 4 (fun K' hK63 => ?_)
              try dsimp only [List.drop_succ_cons, List.drop_zero, List.take_succ_cons, List.take_zero]
              simp only [go_sem, hb2, hb6, hb10, hb29, hb44, hb59]
              repeat (with_reducible refine And.intro (by first | assumption | rfl | omega | trivial | (unfold maxLen; omega)) ?_)
              refine hK63 _ ?_
              refine adops_cut 4 (fun K' hK64 => ?_)
              try dsimp only [List.drop_succ_cons, List.drop_zero, List.take_succ_cons, List.take_zero]
              simp only [go_sem, hb2, hb6, hb10, hb29, hb44, hb59]
              repeat (with_reducible refine And.intro (by first | assumption | rfl | omega | trivial | (unfold maxLen; omega)) ?_)
              refine hK64 _ ?_
              refine adops_cut 6 (fun K' hK65 => ?_)
              try dsimp only [List.drop_succ_cons, List.drop_zero, List.take_succ_cons, List.take_zero]
              simp only [go_sem, hb2, hb6, hb10, hb29, hb44, hb59]
              repeat (with_reducible refine And.intro (by first | assumption | rfl | omega | trivial | (unfold maxLen; omega)) ?_)
              refine hK65 _ ?_
              refine adops_cut 6 (fun K' hK66 => ?_)
              try dsimp only [List.drop_succ_cons, List.drop_zero, List.take_succ_cons, List.take_zero]
              simp only [go_sem, hb2, hb6, hb10, hb29, hb44, hb59]
              repeat (with_reducible refine And.intro (by first | assumption | rfl | omega | trivial | (unfold maxLen; omega)) ?_)
              refine hK66 _ ?_
              refine adops_cut 6 (fun K' hK67 => ?_)
              try dsimp only [List.drop_succ_cons, List.drop_zero, List.take_succ_cons, List.take_zero]
              simp only [go_sem, hb2, hb6, hb10, hb29, hb44, hb59]
              repeat (with_reducible refine And.intro (by first | assumption | rfl | omega | trivial | (unfold maxLen; omega)) ?_)
              refine hK67 _ ?_
              refine adops_cut 4 (fun K' hK68 => ?_)
              try dsimp only [List.drop_succ_cons, List.drop_zero, List.take_succ_cons, List.take_zero]
              simp only [go_sem, hb2, hb6, hb10, hb29, hb44, hb59]
              repeat (with_reducible refine And.intro (by first | assumption | rfl | omega | trivial | (unfold maxLen; omega)) ?_)
              refine hK68 _ ?_
              refine adops_cut 4 (fun K' hK69 => ?_)
              try dsimp only [List.drop_succ_cons, List.drop_zero, List.take_succ_cons, List.take_zero]
              simp only [go_sem, hb2, hb6, hb10, hb29, hb44, hb59]
              repeat (with_reducible refine And.intro (by first | assumption | rfl | omega | trivial | (unfold maxLen; omega)) ?_)
              refine hK69 _ ?_
              refine adops_cut 4 (fun K' hK70 => ?_)
              try dsimp only [List.drop_succ_cons, List.drop_zero, List.take_succ_cons, List.take_zero]
              simp only [go_sem, hb2, hb6, hb10, hb29, hb44, hb59]
              repeat (with_reducible refine And.intro (by first | assumption | rfl | omega | trivial | (unfold maxLen; omega)) ?_)
              refine hK70 _ ?_
              refine adops_nil ?_
              refine athen_n ?_
              refine AW.weaken (s' := ⟨fr [(4, .sl (.int .i64) word), (5, .bp 5 0), (11, .int .i64 (x0 % s.1)), (12, .int .i64 (y % s.1)), (13, .int .i64 (op0 % s.2.1)), (14, .bool v0_7.1), (16, .own 77000), (17, .int .i64 v0_8.2), (18, .bool v0_9.1), (147, .bool true)], hpGet [(5, .box 24 [.int .i64 s.1, .int .i64 s.2.1, .sl (.sl (.int .i64)) s.2.2.1, .sl (.sl (.int .i64)) s.2.2.2]), (77000, .arr 3 (.int .i64) v0_8.1)], gt⟩) (Wk.to (by (simp only [go_sem, hb2, hb6, hb10, hb29, hb44, hb59]) <;> (repeat' with_reducible apply And.intro) <;> first | assumption | rfl | omega | (unfold maxLen; omega))) ?_
              refine AW.cond (b := true) rfl (fun _ => ?_) (fun hb71 => by cases hb71)
              refine AW.seq ?_
              refine AW.ops ?_
              refine AO.allF tab_ok (by decide) [(10, .bool false)] [] (by (simp only [go_sem, hb2, hb6, hb10, hb29, hb44, hb59]) <;> (repeat' with_reducible apply And.intro) <;> first | assumption | rfl | omega | (unfold maxLen; omega)) ?_
              refine athen_n ?_
              refine AW.ret ?_
              refine athen_r ?_
              obtain rfl := Option.some.inj h
              exact ⟨rfl, [], [], [], rfl, (by (simp only [go_sem, hb2, hb6, hb10, hb29, hb44, hb59]) <;> (repeat' with_reducible apply And.intro) <;> first | assumption | rfl | omega | (unfold maxLen; omega))⟩
            · rw [if_neg (Bool.eq_false_iff.1 hb59)] at h
              simp only [hb59]
              refine adops_cut 6 (fun K' hK72 => ?_)
              try dsimp only [List.drop_succ_cons, List.drop_zero, List.take_succ_cons, List.take_zero]
              simp only [go_sem, hb2, hb6, hb10, hb29, hb44, hb59]
              repeat (with_reducible refine And.intro (by first | assumption | rfl | omega | trivial | (unfold maxLen; omega)) ?_)
              refine hK72 _ ?_
              refine adops_cut 1 (fun K' hK73 => ?_)
              try dsimp only [List.drop_succ_cons, List.drop_zero, List.take_succ_cons, List.take_zero]
              simp only [go_sem, hb2, hb6, hb10, hb29, hb44, hb59]
              repeat (with_reducible refine And.intro (by first | assumption | rfl | omega | trivial | (unfold maxLen; omega)) ?_)
              refine hK73 _ ?_
              rcases Bool.eq_false_or_eq_true (!(decide ((v0_10.1.length : Int) = s.1))) with hb74 | hb74
              · rw [if_pos hb74] at h
                simp only [hb74]
                refine adops_cut 4 (fun K' hK75 => ?_)
                try dsimp only [List.drop_succ_cons, List.drop_zero, List.take_succ_cons, List.take_zero]
                simp only [go_sem, hb2, hb6, hb10, hb29, hb44, hb59, hb74]
                repeat (with_reducible refine And.intro (by first | assumption | rfl | omega | trivial | (unfold maxLen; omega)) ?_)
                refine hK75 _ ?_
                refine adops_cut 6 (fun K' hK76 => ?_)
                try dsimp only [List.drop_succ_cons, List.drop_zero, List.take_succ_cons, List.take_zero]
                simp only [go_sem, hb2, hb6, hb10, hb29, hb44, hb59, hb74]
                repeat (with_reducible refine And.intro (by first | assumption | rfl | omega | trivial | (unfold maxLen; omega)) ?_)
                refine hK76 _ ?_
                refine adops_cut 4 (fun K' hK77 => ?_)
                try dsimp only [List.drop_succ_cons, List.drop_zero, List.take_succ_cons, List.take_zero]
                simp only [go_sem, hb2, hb6, hb10, hb29, hb44, hb59, hb74]
                repeat (with_reducible refine And.intro (by first | assumption | rfl | omega | trivial | (unfold maxLen; omega)) ?_)
                refine hK77 _ ?_
                refine adops_cut 6 (fun K' hK78 => ?_)
                try dsimp only [List.drop_succ_cons, List.drop_zero, List.take_succ_cons, List.take_zero]
                simp only [go_sem, hb2, hb6, hb10, hb29, hb44, hb59, hb74]
                repeat (with_reducible refine And.intro (by first | assumption | rfl | omega | trivial | (unfold maxLen; omega)) ?_)
                refine hK78 _ ?_
                refine adops_cut 4 (fun K' hK79 => ?_)
                try dsimp only [List.drop_succ_cons, List.drop_zero, List.take_succ_cons, List.take_zero]
                simp only [go_sem, hb2, hb6, hb10, hb29, hb44, hb59, hb74]
                repeat (with_reducible refine And.intro (by first | assumption | rfl | omega | trivial | (unfold maxLen; omega)) ?_)
                refine hK79 _ ?_
                refine adops_cut 6 (fun K' hK80 => ?_)
                try dsimp only [List.drop_succ_cons, List.drop_zero, List.take_succ_cons, List.take_zero]
                simp only [go_sem, hb2, hb6, hb10, hb29, hb44, hb59, hb74]
                repeat (with_reducible refine And.intro (by first | assumption | rfl | omega | trivial | (unfold maxLen; omega)) ?_)
                refine hK80 _ ?_
                refine adops_cut 6 (fun K' hK81 => ?_)
                try dsimp only [List.drop_succ_cons, List.drop_zero, List.take_succ_cons, List.take_zero]
                simp only [go_sem, hb2, hb6, hb10, hb29, hb44, hb59, hb74]
                repeat (with_reducible refine And.intro (by first | assumption | rfl | omega | trivial | (unfold maxLen; omega)) ?_)
                refine hK81 _ ?_
                refine adops_cut 4 (fun K' hK82 => ?_)
                try dsimp only [List.drop_succ_cons, List.drop_zero, List.take_succ_cons, List.take_zero]
                simp only [go_sem, hb2, hb6, hb10, hb29, hb44, hb59, hb74]
                repeat (with_reducible refine And.intro (by first | assumption | rfl | omega | trivial | (unfold maxLen; omega)) ?_)
                refine hK82 _ ?_
                refine adops_cut 4 (fun K' hK83 => ?_)
                try dsimp only [List.drop_succ_cons, List.drop_zero, List.take_succ_cons, List.take_zero]
                simp only [go_sem, hb2, hb6, hb10, hb29, hb44, hb59, hb74]
                repeat (with_reducible refine And.intro (by first | assumption | rfl | omega | trivial | (unfold maxLen; omega)) ?_)
                refine hK83 _ ?_
                refine adops_cut 3 (fun K' hK84 => ?_)
                try dsimp only [List.drop_succ_cons, List.drop_zero, List.take_succ_cons, List.take_zero]
                simp only [go_sem, hb2, hb6, hb10, hb29, hb44, hb59, hb74]
                repeat (with_reducible refine And.intro (by first | assumption | rfl | omega | trivial | (unfold maxLen; omega)) ?_)
                refine hK84 _ ?_
                refine adops_nil ?_
                refine athen_n ?_
                refine AW.weaken (s' := ⟨fr [(4, .sl (.int .i64) word), (5, .bp 5 0), (11, .int .i64 (x0 % s.1)), (12, .int .i64 (y % s.1)), (13, .int .i64 (op0 % s.2.1)), (14, .bool v0_7.1), (16, .own 77000), (17, .int .i64 v0_8.2), (18, .bool v0_9.1), (147, .bool true)], hpGet [(5, .box 24 [.int .i64 s.1, .int .i64 s.2.1, .sl (.sl (.int .i64)) s.2.2.1, .sl (.sl (.int .i64)) s.2.2.2]), (77000, .arr 3 (.int .i64) v0_8.1)], gt⟩) (Wk.to (by (simp only [go_sem, hb2, hb6, hb10, hb29, hb44, hb59, hb74]) <;> (repeat' with_reducible apply And.intro) <;> first | assumption | rfl | omega | (unfold maxLen; omega))) ?_
                refine AW.cond (b := true) rfl (fun _ => ?_) (fun hb85 => by cases hb85)
                refine AW.seq ?_
                refine AW.ops ?_
                refine AO.allF tab_ok (by decide) [(10, .bool false)] [] (by (simp only [go_sem, hb2, hb6, hb10, hb29, hb44, hb59, hb74]) <;> (repeat' with_reducible apply And.intro) <;> first | assumption | rfl | omega | (unfold maxLen; omega)) ?_
                refine athen_n ?_
                refine AW.ret ?_
                refine athen_r ?_
                obtain rfl := Option.some.inj h
                exact ⟨rfl, [], [], [], rfl, (by (simp only [go_sem, hb2, hb6, hb10, hb29, hb44, hb59, hb74]) <;> (repeat' with_reducible apply And.intro) <;> first | assumption | rfl | omega | (unfold maxLen; omega))⟩
              · rw [if_neg (Bool.eq_false_iff.1 hb74)] at h
                simp only [hb74]
                refine adops_cut 6 (fun K' hK86 => ?_)
                try dsimp only [List.drop_succ_cons, List.drop_zero, List.take_succ_cons, List.take_zero]
                simp only [go_sem, hb2, hb6, hb10, hb29, hb44, hb59, hb74]
                repeat (with_reducible refine And.intro (by first | assumption | rfl | omega | trivial | (unfold maxLen; omega)) ?_)
                refine hK86 _ ?_
                rcases Bool.eq_false_or_eq_true ((v0_7.1 == (decide (v0_8.2 = 5))) != true) with hb87 | hb87
                · rw [if_pos hb87] at h
                  simp only [hb87]
                  refine adops_cut 4 (fun K' hK88 => ?_)
                  try dsimp only [List.drop_succ_cons, List.drop_zero, List.take_succ_cons, List.take_zero]
                  simp only [go_sem, hb2, hb6, hb10, hb29, hb44, hb59, hb74, hb87]
                  repeat (with_reducible refine And.intro (by first | assumption | rfl | omega | trivial | (unfold maxLen; omega)) ?_)
                  refine hK88 _ ?_
                  refine adops_cut 4 (fun K' hK89 => ?_)
                  try dsimp only [List.drop_succ_cons, List.drop_zero, List.take_succ_cons, List.take_zero]
                  simp only [go_sem, hb2, hb6, hb10, hb29, hb44, hb59, hb74, hb87]
                  repeat (with_reducible refine And.intro (by first | assumption | rfl | omega | trivial | (unfold maxLen; omega)) ?_)
                  refine hK89 _ ?_
                  refine adops_cut 6 (fun K' hK90 => ?_)
                  try dsimp only [List.drop_succ_cons, List.drop_zero, List.take_succ_cons, List.take_zero]
                  simp only [go_sem, hb2, hb6, hb10, hb29, hb44, hb59, hb74, hb87]
                  repeat (with_reducible refine And.intro (by first | assumption | rfl | omega | trivial | (unfold maxLen; omega)) ?_)
                  refine hK90 _ ?_
                  refine adops_cut 4 (fun K' hK91 => ?_)
                  try dsimp only [List.drop_succ_cons, List.drop_zero, List.take_succ_cons, List.take_zero]
                  simp only [go_sem, hb2, hb6, hb10, hb29, hb44, hb59, hb74, hb87]
                  repeat (with_reducible refine And.intro (by first | assumption | rfl | omega | trivial | (unfold maxLen; omega)) ?_)
                  refine hK91 _ ?_
                  refine adops_cut 6 (fun K' hK92 => ?_)
                  try dsimp only [List.drop_succ_cons, List.drop_zero, List.take_succ_cons, List.take_zero]
                  simp only [go_sem, hb2, hb6, hb10, hb29, hb44, hb59, hb74, hb87]
                  repeat (with_reducible refine And.intro (by first | assumption | rfl | omega | trivial | (unfold maxLen; omega)) ?_)
                  refine hK92 _ ?_
                  refine adops_cut 6 (fun K' hK93 => ?_)
                  try dsimp only [List.drop_succ_cons, List.drop_zero, List.take_succ_cons, List.take_zero]
                  simp only [go_sem, hb2, hb6, hb10, hb29, hb44, hb59, hb74, hb87]
                  repeat (with_reducible refine And.intro (by first | assumption | rfl | omega | trivial | (unfold maxLen; omega)) ?_)
                  refine hK93 _ ?_
                  refine adops_cut 4 (fun K' hK94 => ?_)
                  try dsimp only [List.drop_succ_cons, List.drop_zero, List.take_succ_cons, List.take_zero]
                  simp only [go_sem, hb2, hb6, hb10, hb29, hb44, hb59, hb74, hb87]
                  repeat (with_reducible refine And.intro (by first | assumption | rfl | omega | trivial | (unfold maxLen; omega)) ?_)
                  refine hK94 _ ?_
                  refine adops_cut 4 (fun K' hK95 => ?_)
                  try dsimp only [List.drop_succ_cons, List.drop_zero, List.take_succ_cons, List.take_zero]
                  simp only [go_sem, hb2, hb6, hb10, hb29, hb44, hb59, hb74, hb87]
                  repeat (with_reducible refine And.intro (by first | assumption | rfl | omega | trivial | (unfold maxLen; omega)) ?_)
                  refine hK95 _ ?_
                  refine adops_cut 3 (fun K' hK96 => ?_)
                  try dsimp only [List.drop_succ_cons, List.drop_zero, List.take_succ_cons, List.take_zero]
                  simp only [go_sem, hb2, hb6, hb10, hb29, hb44, hb59, hb74, hb87]
                  repeat (with_reducible refine And.intro (by first | assumption | rfl | omega | trivial | (unfold maxLen; omega)) ?_)
                  refine hK96 _ ?_
                  refine adops_nil ?_
                  refine athen_n ?_
                  refine AW.weaken (s' := ⟨fr [(4, .sl (.int .i64) word), (5, .bp 5 0), (11, .int .i64 (x0 % s.1)), (12, .int .i64 (y % s.1)), (13, .int .i64 (op0 % s.2.1)), (14, .bool v0_7.1), (16, .own 77000), (17, .int .i64 v0_8.2), (18, .bool v0_9.1), (147, .bool true)], hpGet [(5, .box 24 [.int .i64 s.1, .int .i64 s.2.1, .sl (.sl (.int .i64)) s.2.2.1, .sl (.sl (.int .i64)) s.2.2.2]), (77000, .arr 3 (.int .i64) v0_8.1)], gt⟩) (Wk.to (by (simp only [go_sem, hb2, hb6, hb10, hb29, hb44, hb59, hb74, hb87]) <;> (repeat' with_reducible apply And.intro) <;> first | assumption | rfl | omega | (unfold maxLen; omega))) ?_
                  refine AW.cond (b := true) rfl (fun _ => ?_) (fun hb97 => by cases hb97)
                  refine AW.seq ?_
                  refine AW.ops ?_
                  refine AO.allF tab_ok (by decide) [(10, .bool false)] [] (by (simp only [go_sem, hb2, hb6, hb10, hb29, hb44, hb59, hb74, hb87]) <;> (repeat' with_reducible apply And.intro) <;> first | assumption | rfl | omega | (unfold maxLen; omega)) ?_
                  refine athen_n ?_
                  refine AW.ret ?_
                  refine athen_r ?_
                  obtain rfl := Option.some.inj h
                  exact ⟨rfl, [], [], [], rfl, (by (simp only [go_sem, hb2, hb6, hb10, hb29, hb44, hb59, hb74, hb87]) <;> (repeat' with_reducible apply And.intro) <;> first | assumption | rfl | omega | (unfold maxLen; omega))⟩
                · rw [if_neg (Bool.eq_false_iff.1 hb87)] at h
                  simp only [hb87]
                  obtain ⟨c99, h⟩ := ck_some.1 h
                  obtain ⟨c100, h⟩ := ck_some.1 h
                  refine adops_cut 6 (fun K' hK98 => ?_)
                  try dsimp only [List.drop_succ_cons, List.drop_zero, List.take_succ_cons, List.take_zero]
                  simp only [go_sem, hb2, hb6, hb10, hb29, hb44, hb59, hb74, hb87]
                  repeat (with_reducible refine And.intro (by first | assumption | rfl | omega | trivial | (unfold maxLen; omega)) ?_)
                  refine hK98 _ ?_
                  obtain ⟨c102, h⟩ := ck_some.1 h
                  obtain ⟨c103, h⟩ := ck_some.1 h
                  refine adops_cut 6 (fun K' hK101 => ?_)
                  try dsimp only [List.drop_succ_cons, List.drop_zero, List.take_succ_cons, List.take_zero]
                  simp only [go_sem, hb2, hb6, hb10, hb29, hb44, hb59, hb74, hb87]
                  repeat (with_reducible refine And.intro (by first | assumption | rfl | omega | trivial | (unfold maxLen; omega)) ?_)
                  refine hK101 _ ?_
                  refine adops_cut 1 (fun K' hK104 => ?_)
                  try dsimp only [List.drop_succ_cons, List.drop_zero, List.take_succ_cons, List.take_zero]
                  simp only [go_sem, hb2, hb6, hb10, hb29, hb44, hb59, hb74, hb87]
                  repeat (with_reducible refine And.intro (by first | assumption | rfl | omega | trivial | (unfold maxLen; omega)) ?_)
                  refine hK104 _ ?_
                  rcases Bool.eq_false_or_eq_true ((v0_7.1 == (decide ((v0_10.1.getD (x0 % s.1).toNat 0) = (v0_10.1.getD (y % s.1).toNat 0)))) != true) with hb105 | hb105
                  · rw [if_pos hb105] at h
                    simp only [hb105]
                    refine adops_cut 4 (fun K' hK106 => ?_)
                    try dsimp only [List.drop_succ_cons, List.drop_zero, List.take_succ_cons, List.take_zero]
                    simp only [go_sem, hb2, hb6, hb10, hb29, hb44, hb59, hb74, hb87, hb105]
                    repeat (with_reducible refine And.intro (by first | assumption | rfl | omega | trivial | (unfold maxLen; omega)) ?_)
                    refine hK106 _ ?_
                    refine adops_cut 6 (fun K' hK107 => ?_)
                    try dsimp only [List.drop_succ_cons, List.drop_zero, List.take_succ_cons, List.take_zero]
                    simp only [go_sem, hb2, hb6, hb10, hb29, hb44, hb59, hb74, hb87, hb105]
                    repeat (with_reducible refine And.intro (by first | assumption | rfl | omega | trivial | (unfold maxLen; omega)) ?_)
                    refine hK107 _ ?_
                    refine adops_cut 6 (fun K' hK108 => ?_)
                    try dsimp only [List.drop_succ_cons, List.drop_zero, List.take_succ_cons, List.take_zero]
                    simp only [go_sem, hb2, hb6, hb10, hb29, hb44, hb59, hb74, hb87, hb105]
                    repeat (with_reducible refine And.intro (by first | assumption | rfl | omega | trivial | (unfold maxLen; omega)) ?_)
                    refine hK108 _ ?_
                    refine adops_cut 4 (fun K' hK109 => ?_)
                    try dsimp only [List.drop_succ_cons, List.drop_zero, List.take_succ_cons, List.take_zero]
                    simp only [go_sem, hb2, hb6, hb10, hb29, hb44, hb59, hb74, hb87, hb105]
                    repeat (with_reducible refine And.intro (by first | assumption | rfl | omega | trivial | (unfold maxLen; omega)) ?_)
                    refine hK109 _ ?_
                    refine adops_cut 4 (fun K' hK110 => ?_)
                    try dsimp only [List.drop_succ_cons, List.drop_zero, List.take_succ_cons, List.take_zero]
                    simp only [go_sem, hb2, hb6, hb10, hb29, hb44, hb59, hb74, hb87, hb105]
                    repeat (with_reducible refine And.intro (by first | assumption | rfl | omega | trivial | (unfold maxLen; omega)) ?_)
                    refine hK110 _ ?_
                    refine adops_cut 4 (fun K' hK111 => ?_)
                    try dsimp only [List.drop_succ_cons, List.drop_zero, List.take_succ_cons, List.take_zero]
                    simp only [go_sem, hb2, hb6, hb10, hb29, hb44, hb59, hb74, hb87, hb105]
                    repeat (with_reducible refine And.intro (by first | assumption | rfl | omega | trivial | (unfold maxLen; omega)) ?_)
                    refine hK111 _ ?_
                    refine adops_nil ?_
                    refine athen_n ?_
                    refine AW.weaken (s' := ⟨fr [(4, .sl (.int .i64) word), (5, .bp 5 0), (11, .int .i64 (x0 % s.1)), (12, .int .i64 (y % s.1)), (13, .int .i64 (op0 % s.2.1)), (14, .bool v0_7.1), (16, .own 77000), (17, .int .i64 v0_8.2), (18, .bool v0_9.1), (147, .bool true)], hpGet [(5, .box 24 [.int .i64 s.1, .int .i64 s.2.1, .sl (.sl (.int .i64)) s.2.2.1, .sl (.sl (.int .i64)) s.2.2.2]), (77000, .arr 3 (.int .i64) v0_8.1)], gt⟩) (Wk.to (by (simp only [go_sem, hb2, hb6, hb10, hb29, hb44, hb59, hb74, hb87, hb105]) <;> (repeat' with_reducible apply And.intro) <;> first | assumption | rfl | omega | (unfold maxLen; omega))) ?_
                    refine AW.cond (b := true) rfl (fun _ => ?_) (fun hb112 => by cases hb112)
                    refine AW.seq ?_
                    refine AW.ops ?_
                    refine AO.allF tab_ok (by decide) [(10, .bool false)] [] (by (simp only [go_sem, hb2, hb6, hb10, hb29, hb44, hb59, hb74, hb87, hb105]) <;> (repeat' with_reducible apply And.intro) <;> first | assumption | rfl | omega | (unfold maxLen; omega)) ?_
                    refine athen_n ?_
                    refine AW.ret ?_
                    refine athen_r ?_
                    obtain rfl := Option.some.inj h
                    exact ⟨rfl, [], [], [], rfl, (by (simp only [go_sem, hb2, hb6, hb10, hb29, hb44, hb59, hb74, hb87, hb105]) <;> (repeat' with_reducible apply And.intro) <;> first | assumption | rfl | omega | (unfold maxLen; omega))⟩
                  · rw [if_neg (Bool.eq_false_iff.1 hb105)] at h
                    simp only [hb105]
                    obtain ⟨c114, h⟩ := ck_some.1 h
                    obtain ⟨c115, h⟩ := ck_some.1 h
                    refine adops_cut 6 (fun K' hK113 => ?_)
                    try dsimp only [List.drop_succ_cons, List.drop_zero, List.take_succ_cons, List.take_zero]
                    simp only [go_sem, hb2, hb6, hb10, hb29, hb44, hb59, hb74, hb87, hb105]
                    repeat (with_reducible refine And.intro (by first | assumption | rfl | omega | trivial | (unfold maxLen; omega)) ?_)
                    refine hK113 _ ?_
                    refine adops_cut 1 (fun K' hK116 => ?_)
                    try dsimp only [List.drop_succ_cons, List.drop_zero, List.take_succ_cons, List.take_zero]
                    simp only [go_sem, hb2, hb6, hb10, hb29, hb44, hb59, hb74, hb87, hb105]
                    repeat (with_reducible refine And.intro (by first | assumption | rfl | omega | trivial | (unfold maxLen; omega)) ?_)
                    refine hK116 _ ?_
                    rcases Bool.eq_false_or_eq_true (decide ((v0_10.1.getD (x0 % s.1).toNat 0) < 0)) with hb117 | hb117
                    · rw [if_pos hb117] at h
                      simp only [hb117]
                      refine adops_cut 4 (fun K' hK118 => ?_)
                      try dsimp only [List.drop_succ_cons, List.drop_zero, List.take_succ_cons, List.take_zero]
                      simp only [go_sem, hb2, hb6, hb10, hb29, hb44, hb59, hb74, hb87, hb105, hb117]
                      repeat (with_reducible refine And.intro (by first | assumption | rfl | omega | trivial | (unfold maxLen; omega)) ?_)
                      refine hK118 _ ?_
                      refine adops_cut 6 (fun K' hK119 => ?_)
                      try dsimp only [List.drop_succ_cons, List.drop_zero, List.take_succ_cons, List.take_zero]
                      simp only [go_sem, hb2, hb6, hb10, hb29, hb44, hb59, hb74, hb87, hb105, hb117]
                      repeat (with_reducible refine And.intro (by first | assumption | rfl | omega | trivial | (unfold maxLen; omega)) ?_)
                      refine hK119 _ ?_
                      refine adops_cut 4 (fun K' hK120 => ?_)
                      try dsimp only [List.drop_succ_cons, List.drop_zero, List.take_succ_cons, List.take_zero]
                      simp only [go_sem, hb2, hb6, hb10, hb29, hb44, hb59, hb74, hb87, hb105, hb117]
                      repeat (with_reducible refine And.intro (by first | assumption | rfl | omega | trivial | (unfold maxLen; omega)) ?_)
                      refine hK120 _ ?_
                      refine adops_cut 4 (fun K' hK121 => ?_)
                      try dsimp only [List.drop_succ_cons, List.drop_zero, List.take_succ_cons, List.take_zero]
                      simp only [go_sem, hb2, hb6, hb10, hb29, hb44, hb59, hb74, hb87, hb105, hb117]
                      repeat (with_reducible refine And.intro (by first | assumption | rfl | omega | trivial | (unfold maxLen; omega)) ?_)
                      refine hK121 _ ?_
                      refine adops_cut 3 (fun K' hK122 => ?_)
                      try dsimp only [List.drop_succ_cons, List.drop_zero, List.take_succ_cons, List.take_zero]
                      simp only [go_sem, hb2, hb6, hb10, hb29, hb44, hb59, hb74, hb87, hb105, hb117]
                      repeat (with_reducible refine And.intro (by first | assumption | rfl | omega | trivial | (unfold maxLen; omega)) ?_)
                      refine hK122 _ ?_
                      refine adops_nil ?_
                      refine athen_n ?_
                      refine AW.weaken (s' := ⟨fr [(4, .sl (.int .i64) word), (5, .bp 5 0), (11, .int .i64 (x0 % s.1)), (12, .int .i64 (y % s.1)), (13, .int .i64 (op0 % s.2.1)), (14, .bool v0_7.1), (16, .own 77000), (17, .int .i64 v0_8.2), (18, .bool v0_9.1), (147, .bool true)], hpGet [(5, .box 24 [.int .i64 s.1, .int .i64 s.2.1, .sl (.sl (.int .i64)) s.2.2.1, .sl (.sl (.int .i64)) s.2.2.2]), (77000, .arr 3 (.int .i64) v0_8.1)], gt⟩) (Wk.to (by (simp only [go_sem, hb2, hb6, hb10, hb29, hb44, hb59, hb74, hb87, hb105, hb117]) <;> (repeat' with_reducible apply And.intro) <;> first | assumption | rfl | omega | (unfold maxLen; omega))) ?_
                      refine AW.cond (b := true) rfl (fun _ => ?_) (fun hb123 => by cases hb123)
                      refine AW.seq ?_
                      refine AW.ops ?_
                      refine AO.allF tab_ok (by decide) [(10, .bool false)] [] (by (simp only [go_sem, hb2, hb6, hb10, hb29, hb44, hb59, hb74, hb87, hb105, hb117]) <;> (repeat' with_reducible apply And.intro) <;> first | assumption | rfl | omega | (unfold maxLen; omega)) ?_
                      refine athen_n ?_
                      refine AW.ret ?_
                      refine athen_r ?_
                      obtain rfl := Option.some.inj h
                      exact ⟨rfl, [], [], [], rfl, (by (simp only [go_sem, hb2, hb6, hb10, hb29, hb44, hb59, hb74, hb87, hb105, hb117]) <;> (repeat' with_reducible apply And.intro) <;> first | assumption | rfl | omega | (unfold maxLen; omega))⟩
                    · rw [if_neg (Bool.eq_false_iff.1 hb117)] at h
                      simp only [hb117]
                      obtain ⟨c125, h⟩ := ck_some.1 h
                      obtain ⟨c126, h⟩ := ck_some.1 h
                      refine adops_cut 6 (fun K' hK124 => ?_)
                      try dsimp only [List.drop_succ_cons, List.drop_zero, List.take_succ_cons, List.take_zero]
                      simp only [go_sem, hb2, hb6, hb10, hb29, hb44, hb59, hb74, hb87, hb105, hb117]
                      repeat (with_reducible refine And.intro (by first | assumption | rfl | omega | trivial | (unfold maxLen; omega)) ?_)
                      refine hK124 _ ?_
                      refine adops_cut 2 (fun K' hK127 => ?_)
                      try dsimp only [List.drop_succ_cons, List.drop_zero, List.take_succ_cons, List.take_zero]
                      simp only [go_sem, hb2, hb6, hb10, hb29, hb44, hb59, hb74, hb87, hb105, hb117]
                      repeat (with_reducible refine And.intro (by first | assumption | rfl | omega | trivial | (unfold maxLen; omega)) ?_)
                      refine hK127 _ ?_
                      rcases Bool.eq_false_or_eq_true (decide ((x0 % s.1) < (v0_10.1.getD (x0 % s.1).toNat 0))) with hb128 | hb128
                      · rw [if_pos hb128] at h
                        simp only [hb128]
                        refine adops_cut 4 (fun K' hK129 => ?_)
                        try dsimp only [List.drop_succ_cons, List.drop_zero, List.take_succ_cons, List.take_zero]
                        simp only [go_sem, hb2, hb6, hb10, hb29, hb44, hb59, hb74, hb87, hb105, hb117, hb128]
                        repeat (with_reducible refine And.intro (by first | assumption | rfl | omega | trivial | (unfold maxLen; omega)) ?_)
                        refine hK129 _ ?_
                        refine adops_cut 4 (fun K' hK130 => ?_)
                        try dsimp only [List.drop_succ_cons, List.drop_zero, List.take_succ_cons, List.take_zero]
                        simp only [go_sem, hb2, hb6, hb10, hb29, hb44, hb59, hb74, hb87, hb105, hb117, hb128]
                        repeat (with_reducible refine And.intro (by first | assumption | rfl | omega | trivial | (unfold maxLen; omega)) ?_)
                        refine hK130 _ ?_
                        refine adops_cut 4 (fun K' hK131 => ?_)
                        try dsimp only [List.drop_succ_cons, List.drop_zero, List.take_succ_cons, List.take_zero]
                        simp only [go_sem, hb2, hb6, hb10, hb29, hb44, hb59, hb74, hb87, hb105, hb117, hb128]
                        repeat (with_reducible refine And.intro (by first | assumption | rfl | omega | trivial | (unfold maxLen; omega)) ?_)
                        refine hK131 _ ?_
                        refine adops_cut 1 (fun K' hK132 => ?_)
                        try dsimp only [List.drop_succ_cons, List.drop_zero, List.take_succ_cons, List.take_zero]
                        simp only [go_sem, hb2, hb6, hb10, hb29, hb44, hb59, hb74, hb87, hb105, hb117, hb128]
                        repeat (with_reducible refine And.intro (by first | assumption | rfl | omega | trivial | (unfold maxLen; omega)) ?_)
                        refine hK132 _ ?_
                        refine adops_nil ?_
                        refine athen_n ?_
                        refine AW.weaken (s' := ⟨fr [(4, .sl (.int .i64) word), (5, .bp 5 0), (11, .int .i64 (x0 % s.1)), (12, .int .i64 (y % s.1)), (13, .int .i64 (op0 % s.2.1)), (14, .bool v0_7.1), (16, .own 77000), (17, .int .i64 v0_8.2), (18, .bool v0_9.1), (147, .bool true)], hpGet [(5, .box 24 [.int .i64 s.1, .int .i64 s.2.1, .sl (.sl (.int .i64)) s.2.2.1, .sl (.sl (.int .i64)) s.2.2.2]), (77000, .arr 3 (.int .i64) v0_8.1)], gt⟩) (Wk.to (by (simp only [go_sem, hb2, hb6, hb10, hb29, hb44, hb59, hb74, hb87, hb105, hb117, hb128]) <;> (repeat' with_reducible apply And.intro) <;> first | assumption | rfl | omega | (unfold maxLen; omega))) ?_
                        refine AW.cond (b := true) rfl (fun _ => ?_) (fun hb133 => by cases hb133)
                        refine AW.seq ?_
                        refine AW.ops ?_
                        refine AO.allF tab_ok (by decide) [(10, .bool false)] [] (by (simp only [go_sem, hb2, hb6, hb10, hb29, hb44, hb59, hb74, hb87, hb105, hb117, hb128]) <;> (repeat' with_reducible apply And.intro) <;> first | assumption | rfl | omega | (unfold maxLen; omega)) ?_
                        refine athen_n ?_
                        refine AW.ret ?_
                        refine athen_r ?_
                        obtain rfl := Option.some.inj h
                        exact ⟨rfl, [], [], [], rfl, (by (simp only [go_sem, hb2, hb6, hb10, hb29, hb44, hb59, hb74, hb87, hb105, hb117, hb128]) <;> (repeat' with_reducible apply And.intro) <;> first | assumption | rfl | omega | (unfold maxLen; omega))⟩
                      · rw [if_neg (Bool.eq_false_iff.1 hb128)] at h
                        simp only [hb128]
                        obtain ⟨c135, h⟩ := ck_some.1 h
                        obtain ⟨c136, h⟩ := ck_some.1 h
                        obtain ⟨c137, h⟩ := ck_some.1 h
                        obtain ⟨c138, h⟩ := ck_some.1 h
                        refine adops_cut 6 (fun K' hK134 => ?_)
                        try dsimp only [List.drop_succ_cons, List.drop_zero, List.take_succ_cons, List.take_zero]
                        simp only [go_sem, hb2, hb6, hb10, hb29, hb44, hb59, hb74, hb87, hb105, hb117, hb128]
                        repeat (with_reducible refine And.intro (by first | assumption | rfl | omega | trivial | (unfold maxLen; omega)) ?_)
                        refine hK134 _ ?_
                        obtain ⟨c140, h⟩ := ck_some.1 h
                        obtain ⟨c141, h⟩ := ck_some.1 h
                        refine adops_cut 6 (fun K' hK139 => ?_)
                        try dsimp only [List.drop_succ_cons, List.drop_zero, List.take_succ_cons, List.take_zero]
                        simp only [go_sem, hb2, hb6, hb10, hb29, hb44, hb59, hb74, hb87, hb105, hb117, hb128]
                        repeat (with_reducible refine And.intro (by first | assumption | rfl | omega | trivial | (unfold maxLen; omega)) ?_)
                        refine hK139 _ ?_
                        refine adops_cut 1 (fun K' hK142 => ?_)
                        try dsimp only [List.drop_succ_cons, List.drop_zero, List.take_succ_cons, List.take_zero]
                        simp only [go_sem, hb2, hb6, hb10, hb29, hb44, hb59, hb74, hb87, hb105, hb117, hb128]
                        repeat (with_reducible refine And.intro (by first | assumption | rfl | omega | trivial | (unfold maxLen; omega)) ?_)
                        refine hK142 _ ?_
                        refine adops_nil ?_
                        refine athen_n ?_
                        refine AW.weaken (s' := ⟨fr [(4, .sl (.int .i64) word), (5, .bp 5 0), (11, .int .i64 (x0 % s.1)), (12, .int .i64 (y % s.1)), (13, .int .i64 (op0 % s.2.1)), (14, .bool v0_7.1), (16, .own 77000), (17, .int .i64 v0_8.2), (18, .bool v0_9.1), (147, .bool (!(decide ((v0_10.1.getD (v0_10.1.getD (x0 % s.1).toNat 0).toNat 0) = (v0_10.1.getD (x0 % s.1).toNat 0)))))], hpGet [(5, .box 24 [.int .i64 s.1, .int .i64 s.2.1, .sl (.sl (.int .i64)) s.2.2.1, .sl (.sl (.int .i64)) s.2.2.2]), (77000, .arr 3 (.int .i64) v0_8.1)], gt⟩) (Wk.to (by (simp only [go_sem, hb2, hb6, hb10, hb29, hb44, hb59, hb74, hb87, hb105, hb117, hb128]) <;> (repeat' with_reducible apply And.intro) <;> first | assumption | rfl | omega | (unfold maxLen; omega))) ?_
                        refine AW.cond (b := (!(decide ((v0_10.1.getD (v0_10.1.getD (x0 % s.1).toNat 0).toNat 0) = (v0_10.1.getD (x0 % s.1).toNat 0))))) rfl (fun hb143 => ?_) (fun hb143 => ?_)
                        · rw [if_pos hb143] at h
                          refine AW.seq ?_
                          refine AW.ops ?_
                          refine AO.allF tab_ok (by decide) [(10, .bool false)] [] (by (simp only [go_sem, hb2, hb6, hb10, hb29, hb44, hb59, hb74, hb87, hb105, hb117, hb128, hb143]) <;> (repeat' with_reducible apply And.intro) <;> first | assumption | rfl | omega | (unfold maxLen; omega)) ?_
                          refine athen_n ?_
                          refine AW.ret ?_
                          refine athen_r ?_
                          obtain rfl := Option.some.inj h
                          exact ⟨rfl, [], [], [], rfl, (by (simp only [go_sem, hb2, hb6, hb10, hb29, hb44, hb59, hb74, hb87, hb105, hb117, hb128, hb143]) <;> (repeat' with_reducible apply And.intro) <;> first | assumption | rfl | omega | (unfold maxLen; omega))⟩
                        · rw [if_neg (Bool.eq_false_iff.1 hb143)] at h
                          refine AW.skip ?_
                          refine athen_n ?_
                          refine AW.seq ?_
                          refine AW.seq ?_
                          refine AW.ops ?_
                          refine AO.allF tab_ok (by decide) [(4, .sl (.int .i64) word), (5, .bp 5 0), (11, .int .i64 (x0 % s.1)), (12, .int .i64 (y % s.1)), (13, .int .i64 (op0 % s.2.1)), (16, .own 77000), (17, .int .i64 v0_8.2), (18, .bool v0_9.1), (148, .bool v0_7.1)] [(5, .box 24 [.int .i64 s.1, .int .i64 s.2.1, .sl (.sl (.int .i64)) s.2.2.1, .sl (.sl (.int .i64)) s.2.2.2]), (77000, .arr 3 (.int .i64) v0_8.1)] (by (simp only [go_sem, hb2, hb6, hb10, hb29, hb44, hb59, hb74, hb87, hb105, hb117, hb128, hb143]) <;> (repeat' with_reducible apply And.intro) <;> first | assumption | rfl | omega | (unfold maxLen; omega)) ?_
                          refine athen_n ?_
                          refine AW.cond (b := v0_7.1) rfl (fun hb144 => ?_) (fun hb144 => ?_)
                          · rw [if_pos hb144] at h
                            refine AW.seq ?_
                            refine AW.draw tab_ok mixed_ok [] [] (by decide) (by kernel_rfl) ?_
                            obtain ⟨c146, h⟩ := ck_some.1 h
                            obtain ⟨c147, h⟩ := ck_some.1 h
                            refine adops_cut 6 (fun K' hK145 => ?_)
                            try dsimp only [List.drop_succ_cons, List.drop_zero, List.take_succ_cons, List.take_zero]
                            simp only [go_sem, hb2, hb6, hb10, hb29, hb44, hb59, hb74, hb87, hb105, hb117, hb128, hb143, hb144]
                            repeat (with_reducible refine And.intro (by first | assumption | rfl | omega | trivial | (unfold maxLen; omega)) ?_)
                            refine hK145 _ ?_
                            obtain ⟨c149, h⟩ := ck_some.1 h
                            obtain ⟨c150, h⟩ := ck_some.1 h
                            refine adops_cut 6 (fun K' hK148 => ?_)
                            try dsimp only [List.drop_succ_cons, List.drop_zero, List.take_succ_cons, List.take_zero]
                            simp only [go_sem, hb2, hb6, hb10, hb29, hb44, hb59, hb74, hb87, hb105, hb117, hb128, hb143, hb144]
                            repeat (with_reducible refine And.intro (by first | assumption | rfl | omega | trivial | (unfold maxLen; omega)) ?_)
                            refine hK148 _ ?_
                            obtain ⟨c152, h⟩ := ck_some.1 h
                            obtain ⟨c153, h⟩ := ck_some.1 h
                            obtain ⟨c154, h⟩ := ck_some.1 h
                            obtain ⟨c155, h⟩ := ck_some.1 h
                            refine adops_cut 5 (fun K' hK151 => ?_)
                            try dsimp only [List.drop_succ_cons, List.drop_zero, List.take_succ_cons, List.take_zero]
                            simp only [go_sem, hb2, hb6, hb10, hb29, hb44, hb59, hb74, hb87, hb105, hb117, hb128, hb143, hb144]
                            repeat (with_reducible refine And.intro (by first | assumption | rfl | omega | trivial | (unfold maxLen; omega)) ?_)
                            refine hK151 _ ?_
                            obtain ⟨v0_11, hv156, h⟩ := Option.bind_eq_some_iff.1 h
                            refine adops.call (by first | trivial | rfl) rfl rfl rfl (fun _ h => h) [] [] (hc_spec_Same s ((s.2.2.1.getD (x0 % s.1).toNat []).getD (op0 % s.2.1).toNat 0) ((s.2.2.1.getD (y % s.1).toNat []).getD (op0 % s.2.1).toNat 0) hv156) rfl (by (simp only [go_sem, hb2, hb6, hb10, hb29, hb44, hb59, hb74, hb87, hb105, hb117, hb128, hb143, hb144]) <;> (repeat' with_reducible apply And.intro) <;> first | assumption | rfl | omega | (unfold maxLen; omega)) (by (simp only [go_sem, hb2, hb6, hb10, hb29, hb44, hb59, hb74, hb87, hb105, hb117, hb128, hb143, hb144]) <;> (repeat' with_reducible apply And.intro) <;> first | assumption | rfl | omega | (unfold maxLen; omega)) rfl ?_
                            refine adops_cut 5 (fun K' hK157 => ?_)
                            try dsimp only [List.drop_succ_cons, List.drop_zero, List.take_succ_cons, List.take_zero]
                            simp only [go_sem, hb2, hb6, hb10, hb29, hb44, hb59, hb74, hb87, hb105, hb117, hb128, hb143, hb144]
                            repeat (with_reducible refine And.intro (by first | assumption | rfl | omega | trivial | (unfold maxLen; omega)) ?_)
                            refine hK157 _ ?_
                            refine adops_nil ?_
                            refine athen_n ?_
                            refine AW.weaken (s' := ⟨fr [(5, .bp 5 0), (11, .int .i64 (x0 % s.1)), (12, .int .i64 (y % s.1)), (13, .int .i64 (op0 % s.2.1)), (16, .own 77000), (18, .bool v0_9.1), (22, .bool v0_11.1), (23, .int .i64 v0_11.2)], hpGet [(5, .box 24 [.int .i64 s.1, .int .i64 s.2.1, .sl (.sl (.int .i64)) s.2.2.1, .sl (.sl (.int .i64)) s.2.2.2]), (77000, .arr 3 (.int .i64) v0_8.1)], gt⟩) (Wk.to (by (simp only [go_sem, hb2, hb6, hb10, hb29, hb44, hb59, hb74, hb87, hb105, hb117, hb128, hb143, hb144]) <;> (repeat' with_reducible apply And.intro) <;> first | assumption | rfl | omega | (unfold maxLen; omega))) ?_
                            refine AW.seq ?_
                            refine AW.draw tab_ok mixed_ok [] [] (by decide) (lex_fast (by kernel_rfl)) ?_
                            refine adops_cut 3 (fun K' hK158 => ?_)
                            try dsimp only [List.drop_succ_cons, List.drop_zero, List.take_succ_cons, List.take_zero]
                            simp only [go_sem, hb2, hb6, hb10, hb29, hb44, hb59, hb74, hb87, hb105, hb117, hb128, hb143, hb144]
                            repeat (with_reducible refine And.intro (by first | assumption | rfl | omega | trivial | (unfold maxLen; omega)) ?_)
                            refine hK158 _ ?_
                            rcases Bool.eq_false_or_eq_true (!v0_9.1) with hb159 | hb159
                            · rw [if_pos hb159] at h
                              simp only [hb159]
                              refine adops_cut 5 (fun K' hK160 => ?_)
                              try dsimp only [List.drop_succ_cons, List.drop_zero, List.take_succ_cons, List.take_zero]
                              simp only [go_sem, hb2, hb6, hb10, hb29, hb44, hb59, hb74, hb87, hb105, hb117, hb128, hb143, hb144, hb159]
                              repeat (with_reducible refine And.intro (by first | assumption | rfl | omega | trivial | (unfold maxLen; omega)) ?_)
                              refine hK160 _ ?_
                              rcases Bool.eq_false_or_eq_true (decide ((v0_8.1.length : Int) = 0)) with hb161 | hb161
                              · rw [if_pos hb161] at h
                                simp only [hb161]
                                refine adops_cut 4 (fun K' hK162 => ?_)
                                try dsimp only [List.drop_succ_cons, List.drop_zero, List.take_succ_cons, List.take_zero]
                                simp only [go_sem, hb2, hb6, hb10, hb29, hb44, hb59, hb74, hb87, hb105, hb117, hb128, hb143, hb144, hb159, hb161]
                                repeat (with_reducible refine And.intro (by first | assumption | rfl | omega | trivial | (unfold maxLen; omega)) ?_)
                                refine hK162 _ ?_
                                rcases Bool.eq_false_or_eq_true (decide (v0_11.2 = 0)) with hb163 | hb163
                                · rw [if_pos hb163] at h
                                  simp only [hb163]
                                  refine adops_cut 3 (fun K' hK164 => ?_)
                                  try dsimp only [List.drop_succ_cons, List.drop_zero, List.take_succ_cons, List.take_zero]
                                  simp only [go_sem, hb2, hb6, hb10, hb29, hb44, hb59, hb74, hb87, hb105, hb117, hb128, hb143, hb144, hb159, hb161, hb163]
                                  repeat (with_reducible refine And.intro (by first | assumption | rfl | omega | trivial | (unfold maxLen; omega)) ?_)
                                  refine hK164 _ ?_
                                  rcases Bool.eq_false_or_eq_true v0_11.1 with hb165 | hb165
                                  · rw [if_pos hb165] at h
                                    simp only [hb165]
                                    obtain ⟨c167, h⟩ := ck_some.1 h
                                    obtain ⟨c168, h⟩ := ck_some.1 h
                                    refine adops_cut 6 (fun K' hK166 => ?_)
                                    try dsimp only [List.drop_succ_cons, List.drop_zero, List.take_succ_cons, List.take_zero]
                                    simp only [go_sem, hb2, hb6, hb10, hb29, hb44, hb59, hb74, hb87, hb105, hb117, hb128, hb143, hb144, hb159, hb161, hb163, hb165]
                                    repeat (with_reducible refine And.intro (by first | assumption | rfl | omega | trivial | (unfold maxLen; omega)) ?_)
                                    refine hK166 _ ?_
                                    obtain ⟨c170, h⟩ := ck_some.1 h
                                    obtain ⟨c171, h⟩ := ck_some.1 h
                                    obtain ⟨c172, h⟩ := ck_some.1 h
                                    obtain ⟨c173, h⟩ := ck_some.1 h
                                    refine adops_cut 6 (fun K' hK169 => ?_)
                                    try dsimp only [List.drop_succ_cons, List.drop_zero, List.take_succ_cons, List.take_zero]
                                    simp only [go_sem, hb2, hb6, hb10, hb29, hb44, hb59, hb74, hb87, hb105, hb117, hb128, hb143, hb144, hb159, hb161, hb163, hb165]
                                    repeat (with_reducible refine And.intro (by first | assumption | rfl | omega | trivial | (unfold maxLen; omega)) ?_)
                                    refine hK169 _ ?_
                                    obtain ⟨c175, h⟩ := ck_some.1 h
                                    obtain ⟨c176, h⟩ := ck_some.1 h
                                    refine adops_cut 6 (fun K' hK174 => ?_)
                                    try dsimp only [List.drop_succ_cons, List.drop_zero, List.take_succ_cons, List.take_zero]
                                    simp only [go_sem, hb2, hb6, hb10, hb29, hb44, hb59, hb74, hb87, hb105, hb117, hb128, hb143, hb144, hb159, hb161, hb163, hb165]
                                    repeat (with_reducible refine And.intro (by first | assumption | rfl | omega | trivial | (unfold maxLen; omega)) ?_)
                                    refine hK174 _ ?_
                                    refine adops_cut 1 (fun K' hK177 => ?_)
                                    try dsimp only [List.drop_succ_cons, List.drop_zero, List.take_succ_cons, List.take_zero]
                                    simp only [go_sem, hb2, hb6, hb10, hb29, hb44, hb59, hb74, hb87, hb105, hb117, hb128, hb143, hb144, hb159, hb161, hb163, hb165]
                                    repeat (with_reducible refine And.intro (by first | assumption | rfl | omega | trivial | (unfold maxLen; omega)) ?_)
                                    refine hK177 _ ?_
                                    rcases Bool.eq_false_or_eq_true (decide (((s.2.2.2.getD (x0 % s.1).toNat []).getD (op0 % s.2.1).toNat 0) = ((s.2.2.2.getD (y % s.1).toNat []).getD (op0 % s.2.1).toNat 0))) with hb178 | hb178
                                    · rw [if_pos hb178] at h
                                      simp only [hb178]
                                      obtain ⟨v0_12, hv179, h⟩ := Option.bind_eq_some_iff.1 h
                                      refine adops.call (by first | trivial | rfl) rfl rfl rfl (fun _ h => ⟨fun _ => h, fun hn => absurd rfl hn⟩) [] [] (hc_lineallaw01_Awake hv179) rfl (by (simp only [go_sem, hb2, hb6, hb10, hb29, hb44, hb59, hb74, hb87, hb105, hb117, hb128, hb143, hb144, hb159, hb161, hb163, hb165, hb178]) <;> (repeat' with_reducible apply And.intro) <;> first | assumption | rfl | omega | (unfold maxLen; omega)) (by (simp only [go_sem, hb2, hb6, hb10, hb29, hb44, hb59, hb74, hb87, hb105, hb117, hb128, hb143, hb144, hb159, hb161, hb163, hb165, hb178]) <;> (repeat' with_reducible apply And.intro) <;> first | assumption | rfl | omega | (unfold maxLen; omega)) rfl ?_
                                      refine adops_cut 2 (fun K' hK180 => ?_)
                                      try dsimp only [List.drop_succ_cons, List.drop_zero, List.take_succ_cons, List.take_zero]
                                      simp only [go_sem, hb2, hb6, hb10, hb29, hb44, hb59, hb74, hb87, hb105, hb117, hb128, hb143, hb144, hb159, hb161, hb163, hb165, hb178]
                                      repeat (with_reducible refine And.intro (by first | assumption | rfl | omega | trivial | (unfold maxLen; omega)) ?_)
                                      refine hK180 _ ?_
                                      refine adops_nil ?_
                                      refine athen_n ?_
                                      refine AW.weaken (s' := ⟨fr [(10, .bool v0_12)], hpGet [], gt⟩) (Wk.to (by (simp only [go_sem, hb2, hb6, hb10, hb29, hb44, hb59, hb74, hb87, hb105, hb117, hb128, hb143, hb144, hb159, hb161, hb163, hb165, hb178]) <;> (repeat' with_reducible apply And.intro) <;> first | assumption | rfl | omega | (unfold maxLen; omega))) ?_
                                      refine AW.ret ?_
                                      refine athen_r ?_
                                      obtain rfl := Option.some.inj h
                                      exact ⟨rfl, [], [], [], rfl, (by (simp only [go_sem, hb2, hb6, hb10, hb29, hb44, hb59, hb74, hb87, hb105, hb117, hb128, hb143, hb144, hb159, hb161, hb163, hb165, hb178]) <;> (repeat' with_reducible apply And.intro) <;> first | assumption | rfl | omega | (unfold maxLen; omega))⟩
                                    · rw [if_neg (Bool.eq_false_iff.1 hb178)] at h
                                      simp only [hb178]
                                      refine adops_cut 3 (fun K' hK181 => ?_)
                                      try dsimp only [List.drop_succ_cons, List.drop_zero, List.take_succ_cons, List.take_zero]
                                      simp only [go_sem, hb2, hb6, hb10, hb29, hb44, hb59, hb74, hb87, hb105, hb117, hb128, hb143, hb144, hb159, hb161, hb163, hb165, hb178]
                                      repeat (with_reducible refine And.intro (by first | assumption | rfl | omega | trivial | (unfold maxLen; omega)) ?_)
                                      refine hK181 _ ?_
                                      refine adops_nil ?_
                                      refine athen_n ?_
                                      refine AW.weaken (s' := ⟨fr [(10, .bool false)], hpGet [], gt⟩) (Wk.to (by (simp only [go_sem, hb2, hb6, hb10, hb29, hb44, hb59, hb74, hb87, hb105, hb117, hb128, hb143, hb144, hb159, hb161, hb163, hb165, hb178]) <;> (repeat' with_reducible apply And.intro) <;> first | assumption | rfl | omega | (unfold maxLen; omega))) ?_
                                      refine AW.ret ?_
                                      refine athen_r ?_
                                      obtain rfl := Option.some.inj h
                                      exact ⟨rfl, [], [], [], rfl, (by (simp only [go_sem, hb2, hb6, hb10, hb29, hb44, hb59, hb74, hb87, hb105, hb117, hb128, hb143, hb144, hb159, hb161, hb163, hb165, hb178]) <;> (repeat' with_reducible apply And.intro) <;> first | assumption | rfl | omega | (unfold maxLen; omega))⟩
                                  · rw [if_neg (Bool.eq_false_iff.1 hb165)] at h
                                    simp only [hb165]
                                    refine adops_cut 4 (fun K' hK182 => ?_)
                                    try dsimp only [List.drop_succ_cons, List.drop_zero, List.take_succ_cons, List.take_zero]
                                    simp only [go_sem, hb2, hb6, hb10, hb29, hb44, hb59, hb74, hb87, hb105, hb117, hb128, hb143, hb144, hb159, hb161, hb163, hb165]
                                    repeat (with_reducible refine And.intro (by first | assumption | rfl | omega | trivial | (unfold maxLen; omega)) ?_)
                                    refine hK182 _ ?_
                                    refine adops_cut 4 (fun K' hK183 => ?_)
                                    try dsimp only [List.drop_succ_cons, List.drop_zero, List.take_succ_cons, List.take_zero]
                                    simp only [go_sem, hb2, hb6, hb10, hb29, hb44, hb59, hb74, hb87, hb105, hb117, hb128, hb143, hb144, hb159, hb161, hb163, hb165]
                                    repeat (with_reducible refine And.intro (by first | assumption | rfl | omega | trivial | (unfold maxLen; omega)) ?_)
                                    refine hK183 _ ?_
                                    refine adops_cut 4 (fun K' hK184 => ?_)
                                    try dsimp only [List.drop_succ_cons, List.drop_zero, List.take_succ_cons, List.take_zero]
                                    simp only [go_sem, hb2, hb6, hb10, hb29, hb44, hb59, hb74, hb87, hb105, hb117, hb128, hb143, hb144, hb159, hb161, hb163, hb165]
                                    repeat (with_reducible refine And.intro (by first | assumption | rfl | omega | trivial | (unfold maxLen; omega)) ?_)
                                    refine hK184 _ ?_
                                    refine adops_cut 4 (fun K' hK185 => ?_)
                                    try dsimp only [List.drop_succ_cons, List.drop_zero, List.take_succ_cons, List.take_zero]
                                    simp only [go_sem, hb2, hb6, hb10, hb29, hb44, hb59, hb74, hb87, hb105, hb117, hb128, hb143, hb144, hb159, hb161, hb163, hb165]
                                    repeat (with_reducible refine And.intro (by first | assumption | rfl | omega | trivial | (unfold maxLen; omega)) ?_)
                                    refine hK185 _ ?_
                                    refine adops_cut 6 (fun K' hK186 => ?_)
                                    try dsimp only [List.drop_succ_cons, List.drop_zero, List.take_succ_cons, List.take_zero]
                                    simp only [go_sem, hb2, hb6, hb10, hb29, hb44, hb59, hb74, hb87, hb105, hb117, hb128, hb143, hb144, hb159, hb161, hb163, hb165]
                                    repeat (with_reducible refine And.intro (by first | assumption | rfl | omega | trivial | (unfold maxLen; omega)) ?_)
                                    refine hK186 _ ?_
                                    refine adops_nil ?_
                                    refine athen_n ?_
                                    refine AW.weaken (s' := ⟨fr [(10, .bool false)], hpGet [], gt⟩) (Wk.to (by (simp only [go_sem, hb2, hb6, hb10, hb29, hb44, hb59, hb74, hb87, hb105, hb117, hb128, hb143, hb144, hb159, hb161, hb163, hb165]) <;> (repeat' with_reducible apply And.intro) <;> first | assumption | rfl | omega | (unfold maxLen; omega))) ?_
                                    refine AW.ret ?_
                                    refine athen_r ?_
                                    obtain rfl := Option.some.inj h
                                    exact ⟨rfl, [], [], [], rfl, (by (simp only [go_sem, hb2, hb6, hb10, hb29, hb44, hb59, hb74, hb87, hb105, hb117, hb128, hb143, hb144, hb159, hb161, hb163, hb165]) <;> (repeat' with_reducible apply And.intro) <;> first | assumption | rfl | omega | (unfold maxLen; omega))⟩
                                · rw [if_neg (Bool.eq_false_iff.1 hb163)] at h
                                  simp only [hb163]
                                  refine adops_cut 6 (fun K' hK187 => ?_)
                                  try dsimp only [List.drop_succ_cons, List.drop_zero, List.take_succ_cons, List.take_zero]
                                  simp only [go_sem, hb2, hb6, hb10, hb29, hb44, hb59, hb74, hb87, hb105, hb117, hb128, hb143, hb144, hb159, hb161, hb163]
                                  repeat (with_reducible refine And.intro (by first | assumption | rfl | omega | trivial | (unfold maxLen; omega)) ?_)
                                  refine hK187 _ ?_
                                  refine adops_cut 4 (fun K' hK188 => ?_)
                                  try dsimp only [List.drop_succ_cons, List.drop_zero, List.take_succ_cons, List.take_zero]
                                  simp only [go_sem, hb2, hb6, hb10, hb29, hb44, hb59, hb74, hb87, hb105, hb117, hb128, hb143, hb144, hb159, hb161, hb163]
                                  repeat (with_reducible refine And.intro (by first | assumption | rfl | omega | trivial | (unfold maxLen; omega)) ?_)
                                  refine hK188 _ ?_
                                  refine adops_cut 4 (fun K' hK189 => ?_)
                                  try dsimp only [List.drop_succ_cons, List.drop_zero, List.take_succ_cons, List.take_zero]
                                  simp only [go_sem, hb2, hb6, hb10, hb29, hb44, hb59, hb74, hb87, hb105, hb117, hb128, hb143, hb144, hb159, hb161, hb163]
                                  repeat (with_reducible refine And.intro (by first | assumption | rfl | omega | trivial | (unfold maxLen; omega)) ?_)
                                  refine hK189 _ ?_
                                  refine adops_cut 4 (fun K' hK190 => ?_)
                                  try dsimp only [List.drop_succ_cons, List.drop_zero, List.take_succ_cons, List.take_zero]
                                  simp only [go_sem, hb2, hb6, hb10, hb29, hb44, hb59, hb74, hb87, hb105, hb117, hb128, hb143, hb144, hb159, hb161, hb163]
                                  repeat (with_reducible refine And.intro (by first | assumption | rfl | omega | trivial | (unfold maxLen; omega)) ?_)
                                  refine hK190 _ ?_
                                  refine adops_cut 6 (fun K' hK191 => ?_)
                                  try dsimp only [List.drop_succ_cons, List.drop_zero, List.take_succ_cons, List.take_zero]
                                  simp only [go_sem, hb2, hb6, hb10, hb29, hb44, hb59, hb74, hb87, hb105, hb117, hb128, hb143, hb144, hb159, hb161, hb163]
                                  repeat (with_reducible refine And.intro (by first | assumption | rfl | omega | trivial | (unfold maxLen; omega)) ?_)
                                  refine hK191 _ ?_
                                  refine adops_cut 1 (fun K' hK192 => ?_)
                                  try dsimp only [List.drop_succ_cons, List.drop_zero, List.take_succ_cons, List.take_zero]
                                  simp only [go_sem, hb2, hb6, hb10, hb29, hb44, hb59, hb74, hb87, hb105, hb117, hb128, hb143, hb144, hb159, hb161, hb163]
                                  repeat (with_reducible refine And.intro (by first | assumption | rfl | omega | trivial | (unfold maxLen; omega)) ?_)
                                  refine hK192 _ ?_
                                  refine adops_nil ?_
                                  refine athen_n ?_
                                  refine AW.weaken (s' := ⟨fr [(10, .bool false)], hpGet [], gt⟩) (Wk.to (by (simp only [go_sem, hb2, hb6, hb10, hb29, hb44, hb59, hb74, hb87, hb105, hb117, hb128, hb143, hb144, hb159, hb161, hb163]) <;> (repeat' with_reducible apply And.intro) <;> first | assumption | rfl | omega | (unfold maxLen; omega))) ?_
                                  refine AW.ret ?_
                                  refine athen_r ?_
                                  obtain rfl := Option.some.inj h
                                  exact ⟨rfl, [], [], [], rfl, (by (simp only [go_sem, hb2, hb6, hb10, hb29, hb44, hb59, hb74, hb87, hb105, hb117, hb128, hb143, hb144, hb159, hb161, hb163]) <;> (repeat' with_reducible apply And.intro) <;> first | assumption | rfl | omega | (unfold maxLen; omega))⟩
                              · rw [if_neg (Bool.eq_false_iff.1 hb161)] at h
                                simp only [hb161]
                                refine adops_cut 6 (fun K' hK193 => ?_)
                                try dsimp only [List.drop_succ_cons, List.drop_zero, List.take_succ_cons, List.take_zero]
                                simp only [go_sem, hb2, hb6, hb10, hb29, hb44, hb59, hb74, hb87, hb105, hb117, hb128, hb143, hb144, hb159, hb161]
                                repeat (with_reducible refine And.intro (by first | assumption | rfl | omega | trivial | (unfold maxLen; omega)) ?_)
                                refine hK193 _ ?_
                                refine adops_cut 5 (fun K' hK194 => ?_)
                                try dsimp only [List.drop_succ_cons, List.drop_zero, List.take_succ_cons, List.take_zero]
                                simp only [go_sem, hb2, hb6, hb10, hb29, hb44, hb59, hb74, hb87, hb105, hb117, hb128, hb143, hb144, hb159, hb161]
                                repeat (with_reducible refine And.intro (by first | assumption | rfl | omega | trivial | (unfold maxLen; omega)) ?_)
                                refine hK194 _ ?_
                                refine adops_cut 4 (fun K' hK195 => ?_)
                                try dsimp only [List.drop_succ_cons, List.drop_zero, List.take_succ_cons, List.take_zero]
                                simp only [go_sem, hb2, hb6, hb10, hb29, hb44, hb59, hb74, hb87, hb105, hb117, hb128, hb143, hb144, hb159, hb161]
                                repeat (with_reducible refine And.intro (by first | assumption | rfl | omega | trivial | (unfold maxLen; omega)) ?_)
                                refine hK195 _ ?_
                                refine adops_cut 4 (fun K' hK196 => ?_)
                                try dsimp only [List.drop_succ_cons, List.drop_zero, List.take_succ_cons, List.take_zero]
                                simp only [go_sem, hb2, hb6, hb10, hb29, hb44, hb59, hb74, hb87, hb105, hb117, hb128, hb143, hb144, hb159, hb161]
                                repeat (with_reducible refine And.intro (by first | assumption | rfl | omega | trivial | (unfold maxLen; omega)) ?_)
                                refine hK196 _ ?_
                                refine adops_cut 4 (fun K' hK197 => ?_)
                                try dsimp only [List.drop_succ_cons, List.drop_zero, List.take_succ_cons, List.take_zero]
                                simp only [go_sem, hb2, hb6, hb10, hb29, hb44, hb59, hb74, hb87, hb105, hb117, hb128, hb143, hb144, hb159, hb161]
                                repeat (with_reducible refine And.intro (by first | assumption | rfl | omega | trivial | (unfold maxLen; omega)) ?_)
                                refine hK197 _ ?_
                                refine adops_cut 6 (fun K' hK198 => ?_)
                                try dsimp only [List.drop_succ_cons, List.drop_zero, List.take_succ_cons, List.take_zero]
                                simp only [go_sem, hb2, hb6, hb10, hb29, hb44, hb59, hb74, hb87, hb105, hb117, hb128, hb143, hb144, hb159, hb161]
                                repeat (with_reducible refine And.intro (by first | assumption | rfl | omega | trivial | (unfold maxLen; omega)) ?_)
                                refine hK198 _ ?_
                                refine adops_nil ?_
                                refine athen_n ?_
                                refine AW.weaken (s' := ⟨fr [(10, .bool false)], hpGet [], gt⟩) (Wk.to (by (simp only [go_sem, hb2, hb6, hb10, hb29, hb44, hb59, hb74, hb87, hb105, hb117, hb128, hb143, hb144, hb159, hb161]) <;> (repeat' with_reducible apply And.intro) <;> first | assumption | rfl | omega | (unfold maxLen; omega))) ?_
                                refine AW.ret ?_
                                refine athen_r ?_
                                obtain rfl := Option.some.inj h
                                exact ⟨rfl, [], [], [], rfl, (by (simp only [go_sem, hb2, hb6, hb10, hb29, hb44, hb59, hb74, hb87, hb105, hb117, hb128, hb143, hb144, hb159, hb161]) <;> (repeat' with_reducible apply And.intro) <;> first | assumption | rfl | omega | (unfold maxLen; omega))⟩
                            · rw [if_neg (Bool.eq_false_iff.1 hb159)] at h
                              simp only [hb159]
                              refine adops_cut 6 (fun K' hK199 => ?_)
                              try dsimp only [List.drop_succ_cons, List.drop_zero, List.take_succ_cons, List.take_zero]
                              simp only [go_sem, hb2, hb6, hb10, hb29, hb44, hb59, hb74, hb87, hb105, hb117, hb128, hb143, hb144, hb159]
                              repeat (with_reducible refine And.intro (by first | assumption | rfl | omega | trivial | (unfold maxLen; omega)) ?_)
                              refine hK199 _ ?_
                              refine adops_cut 6 (fun K' hK200 => ?_)
                              try dsimp only [List.drop_succ_cons, List.drop_zero, List.take_succ_cons, List.take_zero]
                              simp only [go_sem, hb2, hb6, hb10, hb29, hb44, hb59, hb74, hb87, hb105, hb117, hb128, hb143, hb144, hb159]
                              repeat (with_reducible refine And.intro (by first | assumption | rfl | omega | trivial | (unfold maxLen; omega)) ?_)
                              refine hK200 _ ?_
                              refine adops_cut 4 (fun K' hK201 => ?_)
                              try dsimp only [List.drop_succ_cons, List.drop_zero, List.take_succ_cons, List.take_zero]
                              simp only [go_sem, hb2, hb6, hb10, hb29, hb44, hb59, hb74, hb87, hb105, hb117, hb128, hb143, hb144, hb159]
                              repeat (with_reducible refine And.intro (by first | assumption | rfl | omega | trivial | (unfold maxLen; omega)) ?_)
                              refine hK201 _ ?_
                              refine adops_cut 4 (fun K' hK202 => ?_)
                              try dsimp only [List.drop_succ_cons, List.drop_zero, List.take_succ_cons, List.take_zero]
                              simp only [go_sem, hb2, hb6, hb10, hb29, hb44, hb59, hb74, hb87, hb105, hb117, hb128, hb143, hb144, hb159]
                              repeat (with_reducible refine And.intro (by first | assumption | rfl | omega | trivial | (unfold maxLen; omega)) ?_)
                              refine hK202 _ ?_
                              refine adops_cut 4 (fun K' hK203 => ?_)
                              try dsimp only [List.drop_succ_cons, List.drop_zero, List.take_succ_cons, List.take_zero]
                              simp only [go_sem, hb2, hb6, hb10, hb29, hb44, hb59, hb74, hb87, hb105, hb117, hb128, hb143, hb144, hb159]
                              repeat (with_reducible refine And.intro (by first | assumption | rfl | omega | trivial | (unfold maxLen; omega)) ?_)
                              refine hK203 _ ?_
                              refine adops_cut 4 (fun K' hK204 => ?_)
                              try dsimp only [List.drop_succ_cons, List.drop_zero, List.take_succ_cons, List.take_zero]
                              simp only [go_sem, hb2, hb6, hb10, hb29, hb44, hb59, hb74, hb87, hb105, hb117, hb128, hb143, hb144, hb159]
                              repeat (with_reducible refine And.intro (by first | assumption | rfl | omega | trivial | (unfold maxLen; omega)) ?_)
                              refine hK204 _ ?_
                              refine adops_cut 6 (fun K' hK205 => ?_)
                              try dsimp only [List.drop_succ_cons, List.drop_zero, List.take_succ_cons, List.take_zero]
                              simp only [go_sem, hb2, hb6, hb10, hb29, hb44, hb59, hb74, hb87, hb105, hb117, hb128, hb143, hb144, hb159]
                              repeat (with_reducible refine And.intro (by first | assumption | rfl | omega | trivial | (unfold maxLen; omega)) ?_)
                              refine hK205 _ ?_
                              refine adops_nil ?_
                              refine athen_n ?_
                              refine AW.weaken (s' := ⟨fr [(10, .bool false)], hpGet [], gt⟩) (Wk.to (by (simp only [go_sem, hb2, hb6, hb10, hb29, hb44, hb59, hb74, hb87, hb105, hb117, hb128, hb143, hb144, hb159]) <;> (repeat' with_reducible apply And.intro) <;> first | assumption | rfl | omega | (unfold maxLen; omega))) ?_
                              refine AW.ret ?_
                              refine athen_r ?_
                              obtain rfl := Option.some.inj h
                              exact ⟨rfl, [], [], [], rfl, (by (simp only [go_sem, hb2, hb6, hb10, hb29, hb44, hb59, hb74, hb87, hb105, hb117, hb128, hb143, hb144, hb159]) <;> (repeat' with_reducible apply And.intro) <;> first | assumption | rfl | omega | (unfold maxLen; omega))⟩
                          · rw [if_neg (Bool.eq_false_iff.1 hb144)] at h
                            refine AW.skip ?_
                            refine athen_n ?_
                            refine AW.seq ?_
                            refine AW.ops ?_
                            refine AO.segF tab_ok 4 (by decide) [(4, .sl (.int .i64) word), (5, .bp 5 0), (11, .int .i64 (x0 % s.1)), (12, .int .i64 (y % s.1)), (16, .own 77000), (17, .int .i64 v0_8.2), (18, .bool v0_9.1), (207, .agg [.int .i64 s.1, .int .i64 s.2.1, .sl (.sl (.int .i64)) s.2.2.1, .sl (.sl (.int .i64)) s.2.2.2]), (208, .int .i64 (x0 % s.1)), (209, .int .i64 (y % s.1)), (210, .own 77000)] [(5, .box 24 [.int .i64 s.1, .int .i64 s.2.1, .sl (.sl (.int .i64)) s.2.2.1, .sl (.sl (.int .i64)) s.2.2.2]), (77000, .arr 3 (.int .i64) v0_8.1)] (by (simp only [go_sem, hb2, hb6, hb10, hb29, hb44, hb59, hb74, hb87, hb105, hb117, hb128, hb143, hb144]) <;> (repeat' with_reducible apply And.intro) <;> first | assumption | rfl | omega | (unfold maxLen; omega)) ?_
                            obtain ⟨v0_13, hv206, h⟩ := Option.bind_eq_some_iff.1 h
                            refine AO.call tab_ok (by decide) rfl rfl rfl (fun _ h => h) [77000] [] (hc_spec_Tells s (x0 % s.1) (y % s.1) v0_8.1 hv206) rfl (by (simp only [go_sem, hb2, hb6, hb10, hb29, hb44, hb59, hb74, hb87, hb105, hb117, hb128, hb143, hb144]) <;> (repeat' with_reducible apply And.intro) <;> first | assumption | rfl | omega | (unfold maxLen; omega)) (by (simp only [go_sem, hb2, hb6, hb10, hb29, hb44, hb59, hb74, hb87, hb105, hb117, hb128, hb143, hb144]) <;> (repeat' with_reducible apply And.intro) <;> first | assumption | rfl | omega | (unfold maxLen; omega)) [(4, .sl (.int .i64) word), (5, .bp 5 0), (11, .int .i64 (x0 % s.1)), (12, .int .i64 (y % s.1)), (16, .own 77000), (17, .int .i64 v0_8.2), (18, .bool v0_9.1), (211, .tup [.bool v0_13.1, .int .i64 v0_13.2])] [(5, .box 24 [.int .i64 s.1, .int .i64 s.2.1, .sl (.sl (.int .i64)) s.2.2.1, .sl (.sl (.int .i64)) s.2.2.2]), (77000, .arr 3 (.int .i64) v0_8.1)] (by (simp only [go_sem, hb2, hb6, hb10, hb29, hb44, hb59, hb74, hb87, hb105, hb117, hb128, hb143, hb144]) <;> (repeat' with_reducible apply And.intro) <;> first | assumption | rfl | omega | (unfold maxLen; omega)) ?_
                            refine AO.allF tab_ok (by decide) [(4, .sl (.int .i64) word), (5, .bp 5 0), (11, .int .i64 (x0 % s.1)), (12, .int .i64 (y % s.1)), (16, .own 77000), (17, .int .i64 v0_8.2), (18, .bool v0_9.1), (24, .bool v0_13.1), (25, .int .i64 v0_13.2)] [(5, .box 24 [.int .i64 s.1, .int .i64 s.2.1, .sl (.sl (.int .i64)) s.2.2.1, .sl (.sl (.int .i64)) s.2.2.2]), (77000, .arr 3 (.int .i64) v0_8.1)] (by (simp only [go_sem, hb2, hb6, hb10, hb29, hb44, hb59, hb74, hb87, hb105, hb117, hb128, hb143, hb144]) <;> (repeat' with_reducible apply And.intro) <;> first | assumption | rfl | omega | (unfold maxLen; omega)) ?_
                            refine athen_n ?_
                            refine AW.have1 (fun _ : Unit => lineallaw01_SpecTold_k1 s x0 y v0_8 = some r) (fun _ => ⟨fr [(5, .bp 5 0), (11, .int .i64 (x0 % s.1)), (12, .int .i64 (y % s.1)), (16, .own 77000)], hpGet [(5, .box 24 [.int .i64 s.1, .int .i64 s.2.1, .sl (.sl (.int .i64)) s.2.2.1, .sl (.sl (.int .i64)) s.2.2.2]), (77000, .arr 3 (.int .i64) v0_8.1)], gt⟩) (fun _ h => ?_) (fun hk_lineallaw01_SpecTold_k1 => ?_)
                            · unfold lineallaw01_SpecTold_k1 at h
                              refine AW.seq ?_
                              refine AW.draw tab_ok mixed_ok [(7, [77000])] [(0, [5]), (1, []), (2, [])] (by decide) (by kernel_rfl) ?_
                              refine adops_cut 6 (fun K' hK207 => ?_)
                              try dsimp only [List.drop_succ_cons, List.drop_zero, List.take_succ_cons, List.take_zero]
                              simp only [go_sem, hb2, hb6, hb10, hb29, hb44, hb59, hb74, hb87, hb105, hb117, hb128, hb143, hb144]
                              repeat (with_reducible refine And.intro (by first | assumption | rfl | omega | trivial | (unfold maxLen; omega)) ?_)
                              refine hK207 _ ?_
                              obtain ⟨c209, h⟩ := ck_some.1 h
                              obtain ⟨c210, h⟩ := ck_some.1 h
                              obtain ⟨c211, h⟩ := ck_some.1 h
                              refine adops_cut 2 (fun K' hK208 => ?_)
                              try dsimp only [List.drop_succ_cons, List.drop_zero, List.take_succ_cons, List.take_zero]
                              simp only [go_sem, hb2, hb6, hb10, hb29, hb44, hb59, hb74, hb87, hb105, hb117, hb128, hb143, hb144]
                              repeat (with_reducible refine And.intro (by first | assumption | rfl | omega | trivial | (unfold maxLen; omega)) ?_)
                              refine hK208 _ ?_
                              obtain ⟨v0_14, hv212, h⟩ := Option.bind_eq_some_iff.1 h
                              refine adops.call (by first | trivial | rfl) rfl rfl rfl (fun _ h => h) [] [] (hc_spec_Tells s (x0 % s.1) (y % s.1) (v0_8.1.take ((v0_8.1.length : Int) - 1).toNat) hv212) rfl (by (simp only [go_sem, hb2, hb6, hb10, hb29, hb44, hb59, hb74, hb87, hb105, hb117, hb128, hb143, hb144]) <;> (repeat' with_reducible apply And.intro) <;> first | assumption | rfl | omega | (unfold maxLen; omega)) (by (simp only [go_sem, hb2, hb6, hb10, hb29, hb44, hb59, hb74, hb87, hb105, hb117, hb128, hb143, hb144]) <;> (repeat' with_reducible apply And.intro) <;> first | assumption | rfl | omega | (unfold maxLen; omega)) rfl ?_
                              refine adops_cut 5 (fun K' hK213 => ?_)
                              try dsimp only [List.drop_succ_cons, List.drop_zero, List.take_succ_cons, List.take_zero]
                              simp only [go_sem, hb2, hb6, hb10, hb29, hb44, hb59, hb74, hb87, hb105, hb117, hb128, hb143, hb144]
                              repeat (with_reducible refine And.intro (by first | assumption | rfl | omega | trivial | (unfold maxLen; omega)) ?_)
                              refine hK213 _ ?_
                              refine adops_nil ?_
                              refine athen_n ?_
                              refine AW.weaken (s' := ⟨fr [(25, .int .i64 v0_14.2), (26, .bool v0_14.1)], hpGet [], gt⟩) (Wk.to (by (simp only [go_sem, hb2, hb6, hb10, hb29, hb44, hb59, hb74, hb87, hb105, hb117, hb128, hb143, hb144]) <;> (repeat' with_reducible apply And.intro) <;> first | assumption | rfl | omega | (unfold maxLen; omega))) ?_
                              refine AW.seq ?_
                              refine AW.ops ?_
                              refine AO.segF tab_ok 3 (by decide) [(26, .bool v0_14.1), (261, .bool (decide (v0_14.2 = 0)))] [] (by (simp only [go_sem, hb2, hb6, hb10, hb29, hb44, hb59, hb74, hb87, hb105, hb117, hb128, hb143, hb144]) <;> (repeat' with_reducible apply And.intro) <;> first | assumption | rfl | omega | (unfold maxLen; omega)) ?_
                              rcases Bool.eq_false_or_eq_true (decide (v0_14.2 = 0)) with hb214 | hb214
                              · rw [if_pos hb214] at h
                                refine AO.weaken (s' := ⟨fr [(26, .bool v0_14.1), (261, .bool true)], hpGet [], gt⟩) (Wk.to (by (simp only [go_sem, hb2, hb6, hb10, hb29, hb44, hb59, hb74, hb87, hb105, hb117, hb128, hb143, hb144, hb214]) <;> (repeat' with_reducible apply And.intro) <;> first | assumption | rfl | omega | (unfold maxLen; omega))) ?_
                                refine AO.segF tab_ok 4 (by decide) [(265, .bool (!v0_14.1))] [] (by (simp only [go_sem, hb2, hb6, hb10, hb29, hb44, hb59, hb74, hb87, hb105, hb117, hb128, hb143, hb144, hb214]) <;> (repeat' with_reducible apply And.intro) <;> first | assumption | rfl | omega | (unfold maxLen; omega)) ?_
                                rcases Bool.eq_false_or_eq_true (!v0_14.1) with hb215 | hb215
                                · rw [if_pos hb215] at h
                                  refine AO.weaken (s' := ⟨fr [(265, .bool true)], hpGet [], gt⟩) (Wk.to (by (simp only [go_sem, hb2, hb6, hb10, hb29, hb44, hb59, hb74, hb87, hb105, hb117, hb128, hb143, hb144, hb214, hb215]) <;> (repeat' with_reducible apply And.intro) <;> first | assumption | rfl | omega | (unfold maxLen; omega))) ?_
                                  obtain ⟨v0_15, hv216, h⟩ := Option.bind_eq_some_iff.1 h
                                  refine AO.call tab_ok (by decide) rfl rfl rfl (fun _ h => ⟨fun _ => h, fun hn => absurd rfl hn⟩) [] [] (hc_lineallaw01_Awake hv216) rfl (by (simp only [go_sem, hb2, hb6, hb10, hb29, hb44, hb59, hb74, hb87, hb105, hb117, hb128, hb143, hb144, hb214, hb215]) <;> (repeat' with_reducible apply And.intro) <;> first | assumption | rfl | omega | (unfold maxLen; omega)) (by (simp only [go_sem, hb2, hb6, hb10, hb29, hb44, hb59, hb74, hb87, hb105, hb117, hb128, hb143, hb144, hb214, hb215]) <;> (repeat' with_reducible apply And.intro) <;> first | assumption | rfl | omega | (unfold maxLen; omega)) [(265, .bool true), (266, .bool v0_15)] [] (by (simp only [go_sem, hb2, hb6, hb10, hb29, hb44, hb59, hb74, hb87, hb105, hb117, hb128, hb143, hb144, hb214, hb215]) <;> (repeat' with_reducible apply And.intro) <;> first | assumption | rfl | omega | (unfold maxLen; omega)) ?_
                                  refine AO.allF tab_ok (by decide) [(10, .bool v0_15)] [] (by (simp only [go_sem, hb2, hb6, hb10, hb29, hb44, hb59, hb74, hb87, hb105, hb117, hb128, hb143, hb144, hb214, hb215]) <;> (repeat' with_reducible apply And.intro) <;> first | assumption | rfl | omega | (unfold maxLen; omega)) ?_
                                  refine athen_n ?_
                                  refine AW.ret ?_
                                  obtain rfl := Option.some.inj h
                                  exact ⟨rfl, [], [], [], rfl, (by (simp only [go_sem, hb2, hb6, hb10, hb29, hb44, hb59, hb74, hb87, hb105, hb117, hb128, hb143, hb144, hb214, hb215]) <;> (repeat' with_reducible apply And.intro) <;> first | assumption | rfl | omega | (unfold maxLen; omega))⟩
                                · rw [if_neg (Bool.eq_false_iff.1 hb215)] at h
                                  refine AO.weaken (s' := ⟨fr [(265, .bool false)], hpGet [], gt⟩) (Wk.to (by (simp only [go_sem, hb2, hb6, hb10, hb29, hb44, hb59, hb74, hb87, hb105, hb117, hb128, hb143, hb144, hb214, hb215]) <;> (repeat' with_reducible apply And.intro) <;> first | assumption | rfl | omega | (unfold maxLen; omega))) ?_
                                  refine AO.allF tab_ok (by decide) [(10, .bool false)] [] (by (simp only [go_sem, hb2, hb6, hb10, hb29, hb44, hb59, hb74, hb87, hb105, hb117, hb128, hb143, hb144, hb214, hb215]) <;> (repeat' with_reducible apply And.intro) <;> first | assumption | rfl | omega | (unfold maxLen; omega)) ?_
                                  refine athen_n ?_
                                  refine AW.ret ?_
                                  obtain rfl := Option.some.inj h
                                  exact ⟨rfl, [], [], [], rfl, (by (simp only [go_sem, hb2, hb6, hb10, hb29, hb44, hb59, hb74, hb87, hb105, hb117, hb128, hb143, hb144, hb214, hb215]) <;> (repeat' with_reducible apply And.intro) <;> first | assumption | rfl | omega | (unfold maxLen; omega))⟩
                              · rw [if_neg (Bool.eq_false_iff.1 hb214)] at h
                                refine AO.weaken (s' := ⟨fr [(26, .bool v0_14.1), (261, .bool false)], hpGet [], gt⟩) (Wk.to (by (simp only [go_sem, hb2, hb6, hb10, hb29, hb44, hb59, hb74, hb87, hb105, hb117, hb128, hb143, hb144, hb214]) <;> (repeat' with_reducible apply And.intro) <;> first | assumption | rfl | omega | (unfold maxLen; omega))) ?_
                                refine AO.allF tab_ok (by decide) [(10, .bool false)] [] (by (simp only [go_sem, hb2, hb6, hb10, hb29, hb44, hb59, hb74, hb87, hb105, hb117, hb128, hb143, hb144, hb214]) <;> (repeat' with_reducible apply And.intro) <;> first | assumption | rfl | omega | (unfold maxLen; omega)) ?_
                                refine athen_n ?_
                                refine AW.ret ?_
                                obtain rfl := Option.some.inj h
                                exact ⟨rfl, [], [], [], rfl, (by (simp only [go_sem, hb2, hb6, hb10, hb29, hb44, hb59, hb74, hb87, hb105, hb117, hb128, hb143, hb144, hb214]) <;> (repeat' with_reducible apply And.intro) <;> first | assumption | rfl | omega | (unfold maxLen; omega))⟩
                            · refine AW.seq ?_
                              refine AW.seq ?_
                              refine AW.ops ?_
                              refine AO.segF tab_ok 3 (by decide) [(4, .sl (.int .i64) word), (5, .bp 5 0), (11, .int .i64 (x0 % s.1)), (12, .int .i64 (y % s.1)), (16, .own 77000), (18, .bool v0_9.1), (24, .bool v0_13.1), (25, .int .i64 v0_13.2), (216, .bool (!(decide (v0_8.2 = 0))))] [(5, .box 24 [.int .i64 s.1, .int .i64 s.2.1, .sl (.sl (.int .i64)) s.2.2.1, .sl (.sl (.int .i64)) s.2.2.2]), (77000, .arr 3 (.int .i64) v0_8.1)] (by (simp only [go_sem, hb2, hb6, hb10, hb29, hb44, hb59, hb74, hb87, hb105, hb117, hb128, hb143, hb144]) <;> (repeat' with_reducible apply And.intro) <;> first | assumption | rfl | omega | (unfold maxLen; omega)) ?_
                              rcases Bool.eq_false_or_eq_true (!(decide (v0_8.2 = 0))) with hb217 | hb217
                              · rw [if_pos hb217] at h
                                refine AO.weaken (s' := ⟨fr [(4, .sl (.int .i64) word), (5, .bp 5 0), (11, .int .i64 (x0 % s.1)), (12, .int .i64 (y % s.1)), (16, .own 77000), (18, .bool v0_9.1), (24, .bool v0_13.1), (25, .int .i64 v0_13.2), (216, .bool true)], hpGet [(5, .box 24 [.int .i64 s.1, .int .i64 s.2.1, .sl (.sl (.int .i64)) s.2.2.1, .sl (.sl (.int .i64)) s.2.2.2]), (77000, .arr 3 (.int .i64) v0_8.1)], gt⟩) (Wk.to (by (simp only [go_sem, hb2, hb6, hb10, hb29, hb44, hb59, hb74, hb87, hb105, hb117, hb128, hb143, hb144, hb217]) <;> (repeat' with_reducible apply And.intro) <;> first | assumption | rfl | omega | (unfold maxLen; omega))) ?_
                                refine AO.segF tab_ok 6 (by decide) [(4, .sl (.int .i64) word), (5, .bp 5 0), (11, .int .i64 (x0 % s.1)), (12, .int .i64 (y % s.1)), (16, .own 77000), (18, .bool v0_9.1), (220, .bool true), (222, .cv (undef))] [(5, .box 24 [.int .i64 s.1, .int .i64 s.2.1, .sl (.sl (.int .i64)) s.2.2.1, .sl (.sl (.int .i64)) s.2.2.2]), (77000, .arr 3 (.int .i64) v0_8.1)] (by (simp only [go_sem, hb2, hb6, hb10, hb29, hb44, hb59, hb74, hb87, hb105, hb117, hb128, hb143, hb144, hb217]) <;> (repeat' with_reducible apply And.intro) <;> first | assumption | rfl | omega | (unfold maxLen; omega)) ?_
                                refine AO.segF tab_ok 8 (by decide) [(4, .sl (.int .i64) word), (5, .bp 5 0), (11, .int .i64 (x0 % s.1)), (12, .int .i64 (y % s.1)), (16, .own 77000), (18, .bool v0_9.1), (229, .bool true), (230, .cv (undef))] [(5, .box 24 [.int .i64 s.1, .int .i64 s.2.1, .sl (.sl (.int .i64)) s.2.2.1, .sl (.sl (.int .i64)) s.2.2.2]), (77000, .arr 3 (.int .i64) v0_8.1)] (by (simp only [go_sem, hb2, hb6, hb10, hb29, hb44, hb59, hb74, hb87, hb105, hb117, hb128, hb143, hb144, hb217]) <;> (repeat' with_reducible apply And.intro) <;> first | assumption | rfl | omega | (unfold maxLen; omega)) ?_
                                refine AO.segF tab_ok 4 (by decide) [(4, .sl (.int .i64) word), (5, .bp 5 0), (11, .int .i64 (x0 % s.1)), (12, .int .i64 (y % s.1)), (16, .own 77000), (18, .bool v0_9.1), (229, .bool true), (231, .cv (undef)), (234, .cv (undef))] [(5, .box 24 [.int .i64 s.1, .int .i64 s.2.1, .sl (.sl (.int .i64)) s.2.2.1, .sl (.sl (.int .i64)) s.2.2.2]), (77000, .arr 3 (.int .i64) v0_8.1)] (by (simp only [go_sem, hb2, hb6, hb10, hb29, hb44, hb59, hb74, hb87, hb105, hb117, hb128, hb143, hb144, hb217]) <;> (repeat' with_reducible apply And.intro) <;> first | assumption | rfl | omega | (unfold maxLen; omega)) ?_
                                refine AO.segF tab_ok 6 (by decide) [(5, .bp 5 0), (11, .int .i64 (x0 % s.1)), (12, .int .i64 (y % s.1)), (16, .own 77000), (237, .bool true), (239, .cv (undef)), (240, .cv (undef))] [(5, .box 24 [.int .i64 s.1, .int .i64 s.2.1, .sl (.sl (.int .i64)) s.2.2.1, .sl (.sl (.int .i64)) s.2.2.2]), (77000, .arr 3 (.int .i64) v0_8.1)] (by (simp only [go_sem, hb2, hb6, hb10, hb29, hb44, hb59, hb74, hb87, hb105, hb117, hb128, hb143, hb144, hb217]) <;> (repeat' with_reducible apply And.intro) <;> first | assumption | rfl | omega | (unfold maxLen; omega)) ?_
                                refine AO.segF tab_ok 4 (by decide) [(5, .bp 5 0), (11, .int .i64 (x0 % s.1)), (12, .int .i64 (y % s.1)), (16, .own 77000), (237, .bool true), (239, .cv (undef)), (244, .cv (undef))] [(5, .box 24 [.int .i64 s.1, .int .i64 s.2.1, .sl (.sl (.int .i64)) s.2.2.1, .sl (.sl (.int .i64)) s.2.2.2]), (77000, .arr 3 (.int .i64) v0_8.1)] (by (simp only [go_sem, hb2, hb6, hb10, hb29, hb44, hb59, hb74, hb87, hb105, hb117, hb128, hb143, hb144, hb217]) <;> (repeat' with_reducible apply And.intro) <;> first | assumption | rfl | omega | (unfold maxLen; omega)) ?_
                                refine AO.allF tab_ok (by decide) [(5, .bp 5 0), (11, .int .i64 (x0 % s.1)), (12, .int .i64 (y % s.1)), (16, .own 77000), (246, .bool true)] [(5, .box 24 [.int .i64 s.1, .int .i64 s.2.1, .sl (.sl (.int .i64)) s.2.2.1, .sl (.sl (.int .i64)) s.2.2.2]), (77000, .arr 3 (.int .i64) v0_8.1)] (by (simp only [go_sem, hb2, hb6, hb10, hb29, hb44, hb59, hb74, hb87, hb105, hb117, hb128, hb143, hb144, hb217]) <;> (repeat' with_reducible apply And.intro) <;> first | assumption | rfl | omega | (unfold maxLen; omega)) ?_
                                refine athen_n ?_
                                refine AW.cond (b := true) rfl (fun _ => ?_) (fun hb218 => by cases hb218)
                                refine AW.seq ?_
                                refine AW.ops ?_
                                refine AO.allF tab_ok (by decide) [(10, .bool false)] [] (by (simp only [go_sem, hb2, hb6, hb10, hb29, hb44, hb59, hb74, hb87, hb105, hb117, hb128, hb143, hb144, hb217]) <;> (repeat' with_reducible apply And.intro) <;> first | assumption | rfl | omega | (unfold maxLen; omega)) ?_
                                refine athen_n ?_
                                refine AW.ret ?_
                                refine athen_r ?_
                                obtain rfl := Option.some.inj h
                                exact ⟨rfl, [], [], [], rfl, (by (simp only [go_sem, hb2, hb6, hb10, hb29, hb44, hb59, hb74, hb87, hb105, hb117, hb128, hb143, hb144, hb217]) <;> (repeat' with_reducible apply And.intro) <;> first | assumption | rfl | omega | (unfold maxLen; omega))⟩
                              · rw [if_neg (Bool.eq_false_iff.1 hb217)] at h
                                refine AO.weaken (s' := ⟨fr [(4, .sl (.int .i64) word), (5, .bp 5 0), (11, .int .i64 (x0 % s.1)), (12, .int .i64 (y % s.1)), (16, .own 77000), (18, .bool v0_9.1), (24, .bool v0_13.1), (25, .int .i64 v0_13.2), (216, .bool false)], hpGet [(5, .box 24 [.int .i64 s.1, .int .i64 s.2.1, .sl (.sl (.int .i64)) s.2.2.1, .sl (.sl (.int .i64)) s.2.2.2]), (77000, .arr 3 (.int .i64) v0_8.1)], gt⟩) (Wk.to (by (simp only [go_sem, hb2, hb6, hb10, hb29, hb44, hb59, hb74, hb87, hb105, hb117, hb128, hb143, hb144, hb217]) <;> (repeat' with_reducible apply And.intro) <;> first | assumption | rfl | omega | (unfold maxLen; omega))) ?_
                                refine AO.segF tab_ok 4 (by decide) [(4, .sl (.int .i64) word), (5, .bp 5 0), (11, .int .i64 (x0 % s.1)), (12, .int .i64 (y % s.1)), (16, .own 77000), (18, .bool v0_9.1), (24, .bool v0_13.1), (220, .bool (!(decide (v0_13.2 = 0))))] [(5, .box 24 [.int .i64 s.1, .int .i64 s.2.1, .sl (.sl (.int .i64)) s.2.2.1, .sl (.sl (.int .i64)) s.2.2.2]), (77000, .arr 3 (.int .i64) v0_8.1)] (by (simp only [go_sem, hb2, hb6, hb10, hb29, hb44, hb59, hb74, hb87, hb105, hb117, hb128, hb143, hb144, hb217]) <;> (repeat' with_reducible apply And.intro) <;> first | assumption | rfl | omega | (unfold maxLen; omega)) ?_
                                rcases Bool.eq_false_or_eq_true (!(decide (v0_13.2 = 0))) with hb219 | hb219
                                · rw [if_pos hb219] at h
                                  refine AO.weaken (s' := ⟨fr [(4, .sl (.int .i64) word), (5, .bp 5 0), (11, .int .i64 (x0 % s.1)), (12, .int .i64 (y % s.1)), (16, .own 77000), (18, .bool v0_9.1), (24, .bool v0_13.1), (220, .bool true)], hpGet [(5, .box 24 [.int .i64 s.1, .int .i64 s.2.1, .sl (.sl (.int .i64)) s.2.2.1, .sl (.sl (.int .i64)) s.2.2.2]), (77000, .arr 3 (.int .i64) v0_8.1)], gt⟩) (Wk.to (by (simp only [go_sem, hb2, hb6, hb10, hb29, hb44, hb59, hb74, hb87, hb105, hb117, hb128, hb143, hb144, hb217, hb219]) <;> (repeat' with_reducible apply And.intro) <;> first | assumption | rfl | omega | (unfold maxLen; omega))) ?_
                                  refine AO.segF tab_ok 6 (by decide) [(4, .sl (.int .i64) word), (5, .bp 5 0), (11, .int .i64 (x0 % s.1)), (12, .int .i64 (y % s.1)), (16, .own 77000), (18, .bool v0_9.1), (224, .bool true), (226, .cv (undef))] [(5, .box 24 [.int .i64 s.1, .int .i64 s.2.1, .sl (.sl (.int .i64)) s.2.2.1, .sl (.sl (.int .i64)) s.2.2.2]), (77000, .arr 3 (.int .i64) v0_8.1)] (by (simp only [go_sem, hb2, hb6, hb10, hb29, hb44, hb59, hb74, hb87, hb105, hb117, hb128, hb143, hb144, hb217, hb219]) <;> (repeat' with_reducible apply And.intro) <;> first | assumption | rfl | omega | (unfold maxLen; omega)) ?_
                                  refine AO.segF tab_ok 6 (by decide) [(4, .sl (.int .i64) word), (5, .bp 5 0), (11, .int .i64 (x0 % s.1)), (12, .int .i64 (y % s.1)), (16, .own 77000), (18, .bool v0_9.1), (229, .bool true), (231, .cv (undef)), (232, .cv (undef))] [(5, .box 24 [.int .i64 s.1, .int .i64 s.2.1, .sl (.sl (.int .i64)) s.2.2.1, .sl (.sl (.int .i64)) s.2.2.2]), (77000, .arr 3 (.int .i64) v0_8.1)] (by (simp only [go_sem, hb2, hb6, hb10, hb29, hb44, hb59, hb74, hb87, hb105, hb117, hb128, hb143, hb144, hb217, hb219]) <;> (repeat' with_reducible apply And.intro) <;> first | assumption | rfl | omega | (unfold maxLen; omega)) ?_
                                  refine AO.segF tab_ok 6 (by decide) [(4, .sl (.int .i64) word), (5, .bp 5 0), (11, .int .i64 (x0 % s.1)), (12, .int .i64 (y % s.1)), (16, .own 77000), (237, .bool true), (238, .cv (undef))] [(5, .box 24 [.int .i64 s.1, .int .i64 s.2.1, .sl (.sl (.int .i64)) s.2.2.1, .sl (.sl (.int .i64)) s.2.2.2]), (77000, .arr 3 (.int .i64) v0_8.1)] (by (simp only [go_sem, hb2, hb6, hb10, hb29, hb44, hb59, hb74, hb87, hb105, hb117, hb128, hb143, hb144, hb217, hb219]) <;> (repeat' with_reducible apply And.intro) <;> first | assumption | rfl | omega | (unfold maxLen; omega)) ?_
                                  refine AO.segF tab_ok 4 (by decide) [(5, .bp 5 0), (11, .int .i64 (x0 % s.1)), (12, .int .i64 (y % s.1)), (16, .own 77000), (237, .bool true), (239, .cv (undef)), (241, .cv (undef)), (242, .cv (undef))] [(5, .box 24 [.int .i64 s.1, .int .i64 s.2.1, .sl (.sl (.int .i64)) s.2.2.1, .sl (.sl (.int .i64)) s.2.2.2]), (77000, .arr 3 (.int .i64) v0_8.1)] (by (simp only [go_sem, hb2, hb6, hb10, hb29, hb44, hb59, hb74, hb87, hb105, hb117, hb128, hb143, hb144, hb217, hb219]) <;> (repeat' with_reducible apply And.intro) <;> first | assumption | rfl | omega | (unfold maxLen; omega)) ?_
                                  refine AO.allF tab_ok (by decide) [(5, .bp 5 0), (11, .int .i64 (x0 % s.1)), (12, .int .i64 (y % s.1)), (16, .own 77000), (246, .bool true)] [(5, .box 24 [.int .i64 s.1, .int .i64 s.2.1, .sl (.sl (.int .i64)) s.2.2.1, .sl (.sl (.int .i64)) s.2.2.2]), (77000, .arr 3 (.int .i64) v0_8.1)] (by (simp only [go_sem, hb2, hb6, hb10, hb29, hb44, hb59, hb74, hb87, hb105, hb117, hb128, hb143, hb144, hb217, hb219]) <;> (repeat' with_reducible apply And.intro) <;> first | assumption | rfl | omega | (unfold maxLen; omega)) ?_
                                  refine athen_n ?_
                                  refine AW.cond (b := true) rfl (fun _ => ?_) (fun hb220 => by cases hb220)
                                  refine AW.seq ?_
                                  refine AW.ops ?_
                                  refine AO.allF tab_ok (by decide) [(10, .bool false)] [] (by (simp only [go_sem, hb2, hb6, hb10, hb29, hb44, hb59, hb74, hb87, hb105, hb117, hb128, hb143, hb144, hb217, hb219]) <;> (repeat' with_reducible apply And.intro) <;> first | assumption | rfl | omega | (unfold maxLen; omega)) ?_
                                  refine athen_n ?_
                                  refine AW.ret ?_
                                  refine athen_r ?_
                                  obtain rfl := Option.some.inj h
                                  exact ⟨rfl, [], [], [], rfl, (by (simp only [go_sem, hb2, hb6, hb10, hb29, hb44, hb59, hb74, hb87, hb105, hb117, hb128, hb143, hb144, hb217, hb219]) <;> (repeat' with_reducible apply And.intro) <;> first | assumption | rfl | omega | (unfold maxLen; omega))⟩
                                · rw [if_neg (Bool.eq_false_iff.1 hb219)] at h
                                  refine AO.weaken (s' := ⟨fr [(4, .sl (.int .i64) word), (5, .bp 5 0), (11, .int .i64 (x0 % s.1)), (12, .int .i64 (y % s.1)), (16, .own 77000), (18, .bool v0_9.1), (24, .bool v0_13.1), (220, .bool false)], hpGet [(5, .box 24 [.int .i64 s.1, .int .i64 s.2.1, .sl (.sl (.int .i64)) s.2.2.1, .sl (.sl (.int .i64)) s.2.2.2]), (77000, .arr 3 (.int .i64) v0_8.1)], gt⟩) (Wk.to (by (simp only [go_sem, hb2, hb6, hb10, hb29, hb44, hb59, hb74, hb87, hb105, hb117, hb128, hb143, hb144, hb217, hb219]) <;> (repeat' with_reducible apply And.intro) <;> first | assumption | rfl | omega | (unfold maxLen; omega))) ?_
                                  refine AO.segF tab_ok 4 (by decide) [(4, .sl (.int .i64) word), (5, .bp 5 0), (11, .int .i64 (x0 % s.1)), (12, .int .i64 (y % s.1)), (16, .own 77000), (18, .bool v0_9.1), (224, .bool (!v0_13.1))] [(5, .box 24 [.int .i64 s.1, .int .i64 s.2.1, .sl (.sl (.int .i64)) s.2.2.1, .sl (.sl (.int .i64)) s.2.2.2]), (77000, .arr 3 (.int .i64) v0_8.1)] (by (simp only [go_sem, hb2, hb6, hb10, hb29, hb44, hb59, hb74, hb87, hb105, hb117, hb128, hb143, hb144, hb217, hb219]) <;> (repeat' with_reducible apply And.intro) <;> first | assumption | rfl | omega | (unfold maxLen; omega)) ?_
                                  rcases Bool.eq_false_or_eq_true (!v0_13.1) with hb221 | hb221
                                  · rw [if_pos hb221] at h
                                    refine AO.weaken (s' := ⟨fr [(4, .sl (.int .i64) word), (5, .bp 5 0), (11, .int .i64 (x0 % s.1)), (12, .int .i64 (y % s.1)), (16, .own 77000), (18, .bool v0_9.1), (224, .bool true)], hpGet [(5, .box 24 [.int .i64 s.1, .int .i64 s.2.1, .sl (.sl (.int .i64)) s.2.2.1, .sl (.sl (.int .i64)) s.2.2.2]), (77000, .arr 3 (.int .i64) v0_8.1)], gt⟩) (Wk.to (by (simp only [go_sem, hb2, hb6, hb10, hb29, hb44, hb59, hb74, hb87, hb105, hb117, hb128, hb143, hb144, hb217, hb219, hb221]) <;> (repeat' with_reducible apply And.intro) <;> first | assumption | rfl | omega | (unfold maxLen; omega))) ?_
                                    refine AO.segF tab_ok 6 (by decide) [(4, .sl (.int .i64) word), (5, .bp 5 0), (11, .int .i64 (x0 % s.1)), (12, .int .i64 (y % s.1)), (16, .own 77000), (18, .bool v0_9.1), (229, .bool true), (230, .cv (undef))] [(5, .box 24 [.int .i64 s.1, .int .i64 s.2.1, .sl (.sl (.int .i64)) s.2.2.1, .sl (.sl (.int .i64)) s.2.2.2]), (77000, .arr 3 (.int .i64) v0_8.1)] (by (simp only [go_sem, hb2, hb6, hb10, hb29, hb44, hb59, hb74, hb87, hb105, hb117, hb128, hb143, hb144, hb217, hb219, hb221]) <;> (repeat' with_reducible apply And.intro) <;> first | assumption | rfl | omega | (unfold maxLen; omega)) ?_
                                    refine AO.segF tab_ok 4 (by decide) [(4, .sl (.int .i64) word), (5, .bp 5 0), (11, .int .i64 (x0 % s.1)), (12, .int .i64 (y % s.1)), (16, .own 77000), (18, .bool v0_9.1), (229, .bool true), (231, .cv (undef)), (234, .cv (undef))] [(5, .box 24 [.int .i64 s.1, .int .i64 s.2.1, .sl (.sl (.int .i64)) s.2.2.1, .sl (.sl (.int .i64)) s.2.2.2]), (77000, .arr 3 (.int .i64) v0_8.1)] (by (simp only [go_sem, hb2, hb6, hb10, hb29, hb44, hb59, hb74, hb87, hb105, hb117, hb128, hb143, hb144, hb217, hb219, hb221]) <;> (repeat' with_reducible apply And.intro) <;> first | assumption | rfl | omega | (unfold maxLen; omega)) ?_
                                    refine AO.segF tab_ok 6 (by decide) [(5, .bp 5 0), (11, .int .i64 (x0 % s.1)), (12, .int .i64 (y % s.1)), (16, .own 77000), (237, .bool true), (239, .cv (undef)), (240, .cv (undef))] [(5, .box 24 [.int .i64 s.1, .int .i64 s.2.1, .sl (.sl (.int .i64)) s.2.2.1, .sl (.sl (.int .i64)) s.2.2.2]), (77000, .arr 3 (.int .i64) v0_8.1)] (by (simp only [go_sem, hb2, hb6, hb10, hb29, hb44, hb59, hb74, hb87, hb105, hb117, hb128, hb143, hb144, hb217, hb219, hb221]) <;> (repeat' with_reducible apply And.intro) <;> first | assumption | rfl | omega | (unfold maxLen; omega)) ?_
                                    refine AO.segF tab_ok 4 (by decide) [(5, .bp 5 0), (11, .int .i64 (x0 % s.1)), (12, .int .i64 (y % s.1)), (16, .own 77000), (237, .bool true), (239, .cv (undef)), (244, .cv (undef))] [(5, .box 24 [.int .i64 s.1, .int .i64 s.2.1, .sl (.sl (.int .i64)) s.2.2.1, .sl (.sl (.int .i64)) s.2.2.2]), (77000, .arr 3 (.int .i64) v0_8.1)] (by (simp only [go_sem, hb2, hb6, hb10, hb29, hb44, hb59, hb74, hb87, hb105, hb117, hb128, hb143, hb144, hb217, hb219, hb221]) <;> (repeat' with_reducible apply And.intro) <;> first | assumption | rfl | omega | (unfold maxLen; omega)) ?_
                                    refine AO.allF tab_ok (by decide) [(5, .bp 5 0), (11, .int .i64 (x0 % s.1)), (12, .int .i64 (y % s.1)), (16, .own 77000), (246, .bool true)] [(5, .box 24 [.int .i64 s.1, .int .i64 s.2.1, .sl (.sl (.int .i64)) s.2.2.1, .sl (.sl (.int .i64)) s.2.2.2]), (77000, .arr 3 (.int .i64) v0_8.1)] (by (simp only [go_sem, hb2, hb6, hb10, hb29, hb44, hb59, hb74, hb87, hb105, hb117, hb128, hb143, hb144, hb217, hb219, hb221]) <;> (repeat' with_reducible apply And.intro) <;> first | assumption | rfl | omega | (unfold maxLen; omega)) ?_
                                    refine athen_n ?_
                                    refine AW.cond (b := true) rfl (fun _ => ?_) (fun hb222 => by cases hb222)
                                    refine AW.seq ?_
                                    refine AW.ops ?_
                                    refine AO.allF tab_ok (by decide) [(10, .bool false)] [] (by (simp only [go_sem, hb2, hb6, hb10, hb29, hb44, hb59, hb74, hb87, hb105, hb117, hb128, hb143, hb144, hb217, hb219, hb221]) <;> (repeat' with_reducible apply And.intro) <;> first | assumption | rfl | omega | (unfold maxLen; omega)) ?_
                                    refine athen_n ?_
                                    refine AW.ret ?_
                                    refine athen_r ?_
                                    obtain rfl := Option.some.inj h
                                    exact ⟨rfl, [], [], [], rfl, (by (simp only [go_sem, hb2, hb6, hb10, hb29, hb44, hb59, hb74, hb87, hb105, hb117, hb128, hb143, hb144, hb217, hb219, hb221]) <;> (repeat' with_reducible apply And.intro) <;> first | assumption | rfl | omega | (unfold maxLen; omega))⟩
                                  · rw [if_neg (Bool.eq_false_iff.1 hb221)] at h
                                    refine AO.weaken (s' := ⟨fr [(4, .sl (.int .i64) word), (5, .bp 5 0), (11, .int .i64 (x0 % s.1)), (12, .int .i64 (y % s.1)), (16, .own 77000), (18, .bool v0_9.1), (224, .bool false)], hpGet [(5, .box 24 [.int .i64 s.1, .int .i64 s.2.1, .sl (.sl (.int .i64)) s.2.2.1, .sl (.sl (.int .i64)) s.2.2.2]), (77000, .arr 3 (.int .i64) v0_8.1)], gt⟩) (Wk.to (by (simp only [go_sem, hb2, hb6, hb10, hb29, hb44, hb59, hb74, hb87, hb105, hb117, hb128, hb143, hb144, hb217, hb219, hb221]) <;> (repeat' with_reducible apply And.intro) <;> first | assumption | rfl | omega | (unfold maxLen; omega))) ?_
                                    refine AO.segF tab_ok 5 (by decide) [(4, .sl (.int .i64) word), (5, .bp 5 0), (11, .int .i64 (x0 % s.1)), (12, .int .i64 (y % s.1)), (16, .own 77000), (18, .bool v0_9.1), (229, .bool (decide ((v0_8.1.length : Int) = 0)))] [(5, .box 24 [.int .i64 s.1, .int .i64 s.2.1, .sl (.sl (.int .i64)) s.2.2.1, .sl (.sl (.int .i64)) s.2.2.2]), (77000, .arr 3 (.int .i64) v0_8.1)] (by (simp only [go_sem, hb2, hb6, hb10, hb29, hb44, hb59, hb74, hb87, hb105, hb117, hb128, hb143, hb144, hb217, hb219, hb221]) <;> (repeat' with_reducible apply And.intro) <;> first | assumption | rfl | omega | (unfold maxLen; omega)) ?_
                                    rcases Bool.eq_false_or_eq_true (decide ((v0_8.1.length : Int) = 0)) with hb223 | hb223
                                    · rw [if_pos hb223] at h
                                      refine AO.weaken (s' := ⟨fr [(4, .sl (.int .i64) word), (5, .bp 5 0), (11, .int .i64 (x0 % s.1)), (12, .int .i64 (y % s.1)), (16, .own 77000), (18, .bool v0_9.1), (229, .bool true)], hpGet [(5, .box 24 [.int .i64 s.1, .int .i64 s.2.1, .sl (.sl (.int .i64)) s.2.2.1, .sl (.sl (.int .i64)) s.2.2.2]), (77000, .arr 3 (.int .i64) v0_8.1)], gt⟩) (Wk.to (by (simp only [go_sem, hb2, hb6, hb10, hb29, hb44, hb59, hb74, hb87, hb105, hb117, hb128, hb143, hb144, hb217, hb219, hb221, hb223]) <;> (repeat' with_reducible apply And.intro) <;> first | assumption | rfl | omega | (unfold maxLen; omega))) ?_
                                      refine AO.segF tab_ok 4 (by decide) [(4, .sl (.int .i64) word), (5, .bp 5 0), (11, .int .i64 (x0 % s.1)), (12, .int .i64 (y % s.1)), (16, .own 77000), (18, .bool v0_9.1), (229, .bool true), (231, .cv (undef)), (233, .cv (undef))] [(5, .box 24 [.int .i64 s.1, .int .i64 s.2.1, .sl (.sl (.int .i64)) s.2.2.1, .sl (.sl (.int .i64)) s.2.2.2]), (77000, .arr 3 (.int .i64) v0_8.1)] (by (simp only [go_sem, hb2, hb6, hb10, hb29, hb44, hb59, hb74, hb87, hb105, hb117, hb128, hb143, hb144, hb217, hb219, hb221, hb223]) <;> (repeat' with_reducible apply And.intro) <;> first | assumption | rfl | omega | (unfold maxLen; omega)) ?_
                                      refine AO.segF tab_ok 6 (by decide) [(4, .sl (.int .i64) word), (5, .bp 5 0), (11, .int .i64 (x0 % s.1)), (12, .int .i64 (y % s.1)), (16, .own 77000), (237, .bool true), (239, .cv (undef))] [(5, .box 24 [.int .i64 s.1, .int .i64 s.2.1, .sl (.sl (.int .i64)) s.2.2.1, .sl (.sl (.int .i64)) s.2.2.2]), (77000, .arr 3 (.int .i64) v0_8.1)] (by (simp only [go_sem, hb2, hb6, hb10, hb29, hb44, hb59, hb74, hb87, hb105, hb117, hb128, hb143, hb144, hb217, hb219, hb221, hb223]) <;> (repeat' with_reducible apply And.intro) <;> first | assumption | rfl | omega | (unfold maxLen; omega)) ?_
                                      refine AO.segF tab_ok 4 (by decide) [(5, .bp 5 0), (11, .int .i64 (x0 % s.1)), (12, .int .i64 (y % s.1)), (16, .own 77000), (237, .bool true), (239, .cv (undef)), (241, .cv (undef)), (243, .cv (undef))] [(5, .box 24 [.int .i64 s.1, .int .i64 s.2.1, .sl (.sl (.int .i64)) s.2.2.1, .sl (.sl (.int .i64)) s.2.2.2]), (77000, .arr 3 (.int .i64) v0_8.1)] (by (simp only [go_sem, hb2, hb6, hb10, hb29, hb44, hb59, hb74, hb87, hb105, hb117, hb128, hb143, hb144, hb217, hb219, hb221, hb223]) <;> (repeat' with_reducible apply And.intro) <;> first | assumption | rfl | omega | (unfold maxLen; omega)) ?_
                                      refine AO.allF tab_ok (by decide) [(5, .bp 5 0), (11, .int .i64 (x0 % s.1)), (12, .int .i64 (y % s.1)), (16, .own 77000), (246, .bool true)] [(5, .box 24 [.int .i64 s.1, .int .i64 s.2.1, .sl (.sl (.int .i64)) s.2.2.1, .sl (.sl (.int .i64)) s.2.2.2]), (77000, .arr 3 (.int .i64) v0_8.1)] (by (simp only [go_sem, hb2, hb6, hb10, hb29, hb44, hb59, hb74, hb87, hb105, hb117, hb128, hb143, hb144, hb217, hb219, hb221, hb223]) <;> (repeat' with_reducible apply And.intro) <;> first | assumption | rfl | omega | (unfold maxLen; omega)) ?_
                                      refine athen_n ?_
                                      refine AW.cond (b := true) rfl (fun _ => ?_) (fun hb224 => by cases hb224)
                                      refine AW.seq ?_
                                      refine AW.ops ?_
                                      refine AO.allF tab_ok (by decide) [(10, .bool false)] [] (by (simp only [go_sem, hb2, hb6, hb10, hb29, hb44, hb59, hb74, hb87, hb105, hb117, hb128, hb143, hb144, hb217, hb219, hb221, hb223]) <;> (repeat' with_reducible apply And.intro) <;> first | assumption | rfl | omega | (unfold maxLen; omega)) ?_
                                      refine athen_n ?_
                                      refine AW.ret ?_
                                      refine athen_r ?_
                                      obtain rfl := Option.some.inj h
                                      exact ⟨rfl, [], [], [], rfl, (by (simp only [go_sem, hb2, hb6, hb10, hb29, hb44, hb59, hb74, hb87, hb105, hb117, hb128, hb143, hb144, hb217, hb219, hb221, hb223]) <;> (repeat' with_reducible apply And.intro) <;> first | assumption | rfl | omega | (unfold maxLen; omega))⟩
                                    · rw [if_neg (Bool.eq_false_iff.1 hb223)] at h
                                      refine AO.weaken (s' := ⟨fr [(4, .sl (.int .i64) word), (5, .bp 5 0), (11, .int .i64 (x0 % s.1)), (12, .int .i64 (y % s.1)), (16, .own 77000), (18, .bool v0_9.1), (229, .bool false)], hpGet [(5, .box 24 [.int .i64 s.1, .int .i64 s.2.1, .sl (.sl (.int .i64)) s.2.2.1, .sl (.sl (.int .i64)) s.2.2.2]), (77000, .arr 3 (.int .i64) v0_8.1)], gt⟩) (Wk.to (by (simp only [go_sem, hb2, hb6, hb10, hb29, hb44, hb59, hb74, hb87, hb105, hb117, hb128, hb143, hb144, hb217, hb219, hb221, hb223]) <;> (repeat' with_reducible apply And.intro) <;> first | assumption | rfl | omega | (unfold maxLen; omega))) ?_
                                      obtain ⟨c225, h⟩ := ck_some.1 h
                                      refine AO.segF tab_ok 8 (by decide) [(4, .sl (.int .i64) word), (5, .bp 5 0), (11, .int .i64 (x0 % s.1)), (12, .int .i64 (y % s.1)), (16, .own 77000), (18, .bool v0_9.1), (237, .bool (decide ((s.1 - 1) < (v0_8.1.length : Int))))] [(5, .box 24 [.int .i64 s.1, .int .i64 s.2.1, .sl (.sl (.int .i64)) s.2.2.1, .sl (.sl (.int .i64)) s.2.2.2]), (77000, .arr 3 (.int .i64) v0_8.1)] (by (simp only [go_sem, hb2, hb6, hb10, hb29, hb44, hb59, hb74, hb87, hb105, hb117, hb128, hb143, hb144, hb217, hb219, hb221, hb223]) <;> (repeat' with_reducible apply And.intro) <;> first | assumption | rfl | omega | (unfold maxLen; omega)) ?_
                                      rcases Bool.eq_false_or_eq_true (decide ((s.1 - 1) < (v0_8.1.length : Int))) with hb226 | hb226
                                      · rw [if_pos hb226] at h
                                        refine AO.weaken (s' := ⟨fr [(4, .sl (.int .i64) word), (5, .bp 5 0), (11, .int .i64 (x0 % s.1)), (12, .int .i64 (y % s.1)), (16, .own 77000), (18, .bool v0_9.1), (237, .bool true)], hpGet [(5, .box 24 [.int .i64 s.1, .int .i64 s.2.1, .sl (.sl (.int .i64)) s.2.2.1, .sl (.sl (.int .i64)) s.2.2.2]), (77000, .arr 3 (.int .i64) v0_8.1)], gt⟩) (Wk.to (by (simp only [go_sem, hb2, hb6, hb10, hb29, hb44, hb59, hb74, hb87, hb105, hb117, hb128, hb143, hb144, hb217, hb219, hb221, hb223, hb226]) <;> (repeat' with_reducible apply And.intro) <;> first | assumption | rfl | omega | (unfold maxLen; omega))) ?_
                                        refine AO.segF tab_ok 4 (by decide) [(5, .bp 5 0), (11, .int .i64 (x0 % s.1)), (12, .int .i64 (y % s.1)), (16, .own 77000), (237, .bool true), (239, .cv (undef)), (241, .cv (undef))] [(5, .box 24 [.int .i64 s.1, .int .i64 s.2.1, .sl (.sl (.int .i64)) s.2.2.1, .sl (.sl (.int .i64)) s.2.2.2]), (77000, .arr 3 (.int .i64) v0_8.1)] (by (simp only [go_sem, hb2, hb6, hb10, hb29, hb44, hb59, hb74, hb87, hb105, hb117, hb128, hb143, hb144, hb217, hb219, hb221, hb223, hb226]) <;> (repeat' with_reducible apply And.intro) <;> first | assumption | rfl | omega | (unfold maxLen; omega)) ?_
                                        refine AO.segF tab_ok 4 (by decide) [(5, .bp 5 0), (11, .int .i64 (x0 % s.1)), (12, .int .i64 (y % s.1)), (16, .own 77000), (237, .bool true), (245, .cv (undef))] [(5, .box 24 [.int .i64 s.1, .int .i64 s.2.1, .sl (.sl (.int .i64)) s.2.2.1, .sl (.sl (.int .i64)) s.2.2.2]), (77000, .arr 3 (.int .i64) v0_8.1)] (by (simp only [go_sem, hb2, hb6, hb10, hb29, hb44, hb59, hb74, hb87, hb105, hb117, hb128, hb143, hb144, hb217, hb219, hb221, hb223, hb226]) <;> (repeat' with_reducible apply And.intro) <;> first | assumption | rfl | omega | (unfold maxLen; omega)) ?_
                                        refine AO.allF tab_ok (by decide) [(5, .bp 5 0), (11, .int .i64 (x0 % s.1)), (12, .int .i64 (y % s.1)), (16, .own 77000), (246, .bool true)] [(5, .box 24 [.int .i64 s.1, .int .i64 s.2.1, .sl (.sl (.int .i64)) s.2.2.1, .sl (.sl (.int .i64)) s.2.2.2]), (77000, .arr 3 (.int .i64) v0_8.1)] (by (simp only [go_sem, hb2, hb6, hb10, hb29, hb44, hb59, hb74, hb87, hb105, hb117, hb128, hb143, hb144, hb217, hb219, hb221, hb223, hb226]) <;> (repeat' with_reducible apply And.intro) <;> first | assumption | rfl | omega | (unfold maxLen; omega)) ?_
                                        refine athen_n ?_
                                        refine AW.cond (b := true) rfl (fun _ => ?_) (fun hb227 => by cases hb227)
                                        refine AW.seq ?_
                                        refine AW.ops ?_
                                        refine AO.allF tab_ok (by decide) [(10, .bool false)] [] (by (simp only [go_sem, hb2, hb6, hb10, hb29, hb44, hb59, hb74, hb87, hb105, hb117, hb128, hb143, hb144, hb217, hb219, hb221, hb223, hb226]) <;> (repeat' with_reducible apply And.intro) <;> first | assumption | rfl | omega | (unfold maxLen; omega)) ?_
                                        refine athen_n ?_
                                        refine AW.ret ?_
                                        refine athen_r ?_
                                        obtain rfl := Option.some.inj h
                                        exact ⟨rfl, [], [], [], rfl, (by (simp only [go_sem, hb2, hb6, hb10, hb29, hb44, hb59, hb74, hb87, hb105, hb117, hb128, hb143, hb144, hb217, hb219, hb221, hb223, hb226]) <;> (repeat' with_reducible apply And.intro) <;> first | assumption | rfl | omega | (unfold maxLen; omega))⟩
                                      · rw [if_neg (Bool.eq_false_iff.1 hb226)] at h
                                        refine AO.weaken (s' := ⟨fr [(4, .sl (.int .i64) word), (5, .bp 5 0), (11, .int .i64 (x0 % s.1)), (12, .int .i64 (y % s.1)), (16, .own 77000), (18, .bool v0_9.1), (237, .bool false)], hpGet [(5, .box 24 [.int .i64 s.1, .int .i64 s.2.1, .sl (.sl (.int .i64)) s.2.2.1, .sl (.sl (.int .i64)) s.2.2.2]), (77000, .arr 3 (.int .i64) v0_8.1)], gt⟩) (Wk.to (by (simp only [go_sem, hb2, hb6, hb10, hb29, hb44, hb59, hb74, hb87, hb105, hb117, hb128, hb143, hb144, hb217, hb219, hb221, hb223, hb226]) <;> (repeat' with_reducible apply And.intro) <;> first | assumption | rfl | omega | (unfold maxLen; omega))) ?_
                                        refine AO.segF tab_ok 2 (by decide) [(4, .sl (.int .i64) word), (5, .bp 5 0), (11, .int .i64 (x0 % s.1)), (12, .int .i64 (y % s.1)), (16, .own 77000), (237, .bool false), (239, .bool v0_9.1)] [(5, .box 24 [.int .i64 s.1, .int .i64 s.2.1, .sl (.sl (.int .i64)) s.2.2.1, .sl (.sl (.int .i64)) s.2.2.2]), (77000, .arr 3 (.int .i64) v0_8.1)] (by (simp only [go_sem, hb2, hb6, hb10, hb29, hb44, hb59, hb74, hb87, hb105, hb117, hb128, hb143, hb144, hb217, hb219, hb221, hb223, hb226]) <;> (repeat' with_reducible apply And.intro) <;> first | assumption | rfl | omega | (unfold maxLen; omega)) ?_
                                        rcases Bool.eq_false_or_eq_true v0_9.1 with hb228 | hb228
                                        · rw [if_pos hb228] at h
                                          refine AO.weaken (s' := ⟨fr [(4, .sl (.int .i64) word), (5, .bp 5 0), (11, .int .i64 (x0 % s.1)), (12, .int .i64 (y % s.1)), (16, .own 77000), (237, .bool false), (239, .bool true)], hpGet [(5, .box 24 [.int .i64 s.1, .int .i64 s.2.1, .sl (.sl (.int .i64)) s.2.2.1, .sl (.sl (.int .i64)) s.2.2.2]), (77000, .arr 3 (.int .i64) v0_8.1)], gt⟩) (Wk.to (by (simp only [go_sem, hb2, hb6, hb10, hb29, hb44, hb59, hb74, hb87, hb105, hb117, hb128, hb143, hb144, hb217, hb219, hb221, hb223, hb226, hb228]) <;> (repeat' with_reducible apply And.intro) <;> first | assumption | rfl | omega | (unfold maxLen; omega))) ?_
                                          refine AO.allF tab_ok (by decide) [(5, .bp 5 0), (11, .int .i64 (x0 % s.1)), (12, .int .i64 (y % s.1)), (16, .own 77000), (246, .bool (decide ((word.length : Int) < (v0_8.1.length : Int))))] [(5, .box 24 [.int .i64 s.1, .int .i64 s.2.1, .sl (.sl (.int .i64)) s.2.2.1, .sl (.sl (.int .i64)) s.2.2.2]), (77000, .arr 3 (.int .i64) v0_8.1)] (by (simp only [go_sem, hb2, hb6, hb10, hb29, hb44, hb59, hb74, hb87, hb105, hb117, hb128, hb143, hb144, hb217, hb219, hb221, hb223, hb226, hb228]) <;> (repeat' with_reducible apply And.intro) <;> first | assumption | rfl | omega | (unfold maxLen; omega)) ?_
                                          refine athen_n ?_
                                          refine AW.cond (b := (decide ((word.length : Int) < (v0_8.1.length : Int)))) rfl (fun hb229 => ?_) (fun hb229 => ?_)
                                          · rw [if_pos hb229] at h
                                            refine AW.seq ?_
                                            refine AW.ops ?_
                                            refine AO.allF tab_ok (by decide) [(10, .bool false)] [] (by (simp only [go_sem, hb2, hb6, hb10, hb29, hb44, hb59, hb74, hb87, hb105, hb117, hb128, hb143, hb144, hb217, hb219, hb221, hb223, hb226, hb228, hb229]) <;> (repeat' with_reducible apply And.intro) <;> first | assumption | rfl | omega | (unfold maxLen; omega)) ?_
                                            refine athen_n ?_
                                            refine AW.ret ?_
                                            refine athen_r ?_
                                            obtain rfl := Option.some.inj h
                                            exact ⟨rfl, [], [], [], rfl, (by (simp only [go_sem, hb2, hb6, hb10, hb29, hb44, hb59, hb74, hb87, hb105, hb117, hb128, hb143, hb144, hb217, hb219, hb221, hb223, hb226, hb228, hb229]) <;> (repeat' with_reducible apply And.intro) <;> first | assumption | rfl | omega | (unfold maxLen; omega))⟩
                                          · rw [if_neg (Bool.eq_false_iff.1 hb229)] at h
                                            refine AW.skip ?_
                                            refine athen_n ?_
                                            exact AW.weaken (Wk.le [] [] [] rfl (by (simp only [go_sem, hb2, hb6, hb10, hb29, hb44, hb59, hb74, hb87, hb105, hb117, hb128, hb143, hb144, hb217, hb219, hb221, hb223, hb226, hb228, hb229]) <;> (repeat' with_reducible apply And.intro) <;> first | assumption | rfl | omega | (unfold maxLen; omega)) (by (simp only [go_sem, hb2, hb6, hb10, hb29, hb44, hb59, hb74, hb87, hb105, hb117, hb128, hb143, hb144, hb217, hb219, hb221, hb223, hb226, hb228, hb229]) <;> (repeat' with_reducible apply And.intro) <;> first | assumption | rfl | omega | (unfold maxLen; omega))) (hk_lineallaw01_SpecTold_k1 () h)
                                        · rw [if_neg (Bool.eq_false_iff.1 hb228)] at h
                                          refine AO.weaken (s' := ⟨fr [(4, .sl (.int .i64) word), (5, .bp 5 0), (11, .int .i64 (x0 % s.1)), (12, .int .i64 (y % s.1)), (16, .own 77000), (237, .bool false), (239, .bool false)], hpGet [(5, .box 24 [.int .i64 s.1, .int .i64 s.2.1, .sl (.sl (.int .i64)) s.2.2.1, .sl (.sl (.int .i64)) s.2.2.2]), (77000, .arr 3 (.int .i64) v0_8.1)], gt⟩) (Wk.to (by (simp only [go_sem, hb2, hb6, hb10, hb29, hb44, hb59, hb74, hb87, hb105, hb117, hb128, hb143, hb144, hb217, hb219, hb221, hb223, hb226, hb228]) <;> (repeat' with_reducible apply And.intro) <;> first | assumption | rfl | omega | (unfold maxLen; omega))) ?_
                                          refine AO.segF tab_ok 4 (by decide) [(5, .bp 5 0), (11, .int .i64 (x0 % s.1)), (12, .int .i64 (y % s.1)), (16, .own 77000), (237, .bool false), (239, .bool false), (241, .cv (undef)), (243, .cv (undef))] [(5, .box 24 [.int .i64 s.1, .int .i64 s.2.1, .sl (.sl (.int .i64)) s.2.2.1, .sl (.sl (.int .i64)) s.2.2.2]), (77000, .arr 3 (.int .i64) v0_8.1)] (by (simp only [go_sem, hb2, hb6, hb10, hb29, hb44, hb59, hb74, hb87, hb105, hb117, hb128, hb143, hb144, hb217, hb219, hb221, hb223, hb226, hb228]) <;> (repeat' with_reducible apply And.intro) <;> first | assumption | rfl | omega | (unfold maxLen; omega)) ?_
                                          refine AO.allF tab_ok (by decide) [(5, .bp 5 0), (11, .int .i64 (x0 % s.1)), (12, .int .i64 (y % s.1)), (16, .own 77000), (246, .bool false)] [(5, .box 24 [.int .i64 s.1, .int .i64 s.2.1, .sl (.sl (.int .i64)) s.2.2.1, .sl (.sl (.int .i64)) s.2.2.2]), (77000, .arr 3 (.int .i64) v0_8.1)] (by (simp only [go_sem, hb2, hb6, hb10, hb29, hb44, hb59, hb74, hb87, hb105, hb117, hb128, hb143, hb144, hb217, hb219, hb221, hb223, hb226, hb228]) <;> (repeat' with_reducible apply And.intro) <;> first | assumption | rfl | omega | (unfold maxLen; omega)) ?_
                                          refine athen_n ?_
                                          refine AW.cond (b := false) rfl (fun hb230 => by cases hb230) (fun _ => ?_)
                                          refine AW.skip ?_
                                          refine athen_n ?_
                                          exact AW.weaken (Wk.le [] [] [] rfl (by (simp only [go_sem, hb2, hb6, hb10, hb29, hb44, hb59, hb74, hb87, hb105, hb117, hb128, hb143, hb144, hb217, hb219, hb221, hb223, hb226, hb228]) <;> (repeat' with_reducible apply And.intro) <;> first | assumption | rfl | omega | (unfold maxLen; omega)) (by (simp only [go_sem, hb2, hb6, hb10, hb29, hb44, hb59, hb74, hb87, hb105, hb117, hb128, hb143, hb144, hb217, hb219, hb221, hb223, hb226, hb228]) <;> (repeat' with_reducible apply And.intro) <;> first | assumption | rfl | omega | (unfold maxLen; omega))) (hk_lineallaw01_SpecTold_k1 () h)

end Go.Proofs.Ytmcgmlcfogdioaa
