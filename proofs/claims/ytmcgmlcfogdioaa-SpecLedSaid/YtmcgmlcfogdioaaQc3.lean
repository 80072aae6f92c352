/-
  Made by wip/tool/dc.py out of the print of the program: contracts.
-/
import Derived.Test.YtmcgmlcfogdioaaQp
import Derived.Test.YtmcgmlcfogdioaaTb
import Derived.Test.YtmcgmlcfogdioaaQc1
import Derived.Test.YtmcgmlcfogdioaaQc2
namespace Go.Proofs.Ytmcgmlcfogdioaa
open Go.RowKit

set_option linter.unusedSimpArgs false
set_option linter.unusedVariables false
set_option linter.constructorNameAsVariable false

set_option maxRecDepth 100000 in
set_option maxHeartbeats 2000000 in
theorem hc_lineallaw01_Awake {r : Bool} (h : lineallaw01_Awake = some r) : HC Try.prog 16 [] [] [] (.bool r) := by
  unfold lineallaw01_Awake at h
  refine HC.of_body tab_ok (res := [.tmp 0]) Try.func16 rfl (by kernel_rfl) rfl (nt := 23) rfl (by decide) (by simp) ?_
  refine AW.seq ?_
  refine AW.ops ?_
  refine AO.allF tab_ok (by decide) [] [] (by (simp only [go_sem]) <;> (repeat' with_reducible apply And.intro) <;> first | assumption | rfl | omega | (unfold maxLen; omega)) ?_
  refine athen_n ?_
  refine AW.seq ?_
  refine AW.ops ?_
  refine AO.allF tab_ok (by decide) [(1, .bp 1 0)] [(1, .box 24 [.int .i64 2, .int .i64 2, .own 6, .own 9]), (6, .arr 25 (.sl (.int .i64)) [[1, 0], [1, 1]]), (9, .arr 25 (.sl (.int .i64)) [[0, 0], [0, 1]])] (by (simp only [go_sem]) <;> (repeat' with_reducible apply And.intro) <;> first | assumption | rfl | omega | (unfold maxLen; omega)) ?_
  refine athen_n ?_
  refine AW.seq ?_
  refine AW.ops ?_
  refine AO.segF tab_ok 1 (by decide) [(12, .agg [.int .i64 2, .int .i64 2, .own 6, .own 9])] [(6, .arr 25 (.sl (.int .i64)) [[1, 0], [1, 1]]), (9, .arr 25 (.sl (.int .i64)) [[0, 0], [0, 1]])] (by (simp only [go_sem]) <;> (repeat' with_reducible apply And.intro) <;> first | assumption | rfl | omega | (unfold maxLen; omega)) ?_
  obtain ⟨v0, hv1, h⟩ := Option.bind_eq_some_iff.1 h
  refine AO.call tab_ok (by decide) rfl rfl rfl (fun _ h => h) [6, 9] [] (hc_spec_Word (2, 2, [[1, 0], [1, 1]], [[0, 0], [0, 1]]) 0 1 hv1) rfl (by (simp only [go_sem]) <;> (repeat' with_reducible apply And.intro) <;> first | assumption | rfl | omega | (unfold maxLen; omega)) (by (simp only [go_sem]) <;> (repeat' with_reducible apply And.intro) <;> first | assumption | rfl | omega | (unfold maxLen; omega)) [(13, .tup [.own 23000, .int .i64 v0.2])] [(23000, .arr 3 (.int .i64) v0.1)] (by (simp only [go_sem]) <;> (repeat' with_reducible apply And.intro) <;> first | assumption | rfl | omega | (unfold maxLen; omega)) ?_
  refine AO.allF tab_ok (by decide) [(2, .own 23000), (3, .int .i64 v0.2)] [(23000, .arr 3 (.int .i64) v0.1)] (by (simp only [go_sem]) <;> (repeat' with_reducible apply And.intro) <;> first | assumption | rfl | omega | (unfold maxLen; omega)) ?_
  refine athen_n ?_
  refine AW.seq ?_
  refine AW.ops ?_
  refine AO.segF tab_ok 3 (by decide) [(2, .own 23000), (18, .bool (decide (v0.2 = 0)))] [(23000, .arr 3 (.int .i64) v0.1)] (by (simp only [go_sem]) <;> (repeat' with_reducible apply And.intro) <;> first | assumption | rfl | omega | (unfold maxLen; omega)) ?_
  rcases Bool.eq_false_or_eq_true (decide (v0.2 = 0)) with hb2 | hb2
  · rw [if_pos hb2] at h
    refine AO.weaken (s' := ⟨fr [(2, .own 23000), (18, .bool true)], hpGet [(23000, .arr 3 (.int .i64) v0.1)], gt⟩) (Wk.to (by (simp only [go_sem, hb2]) <;> (repeat' with_reducible apply And.intro) <;> first | assumption | rfl | omega | (unfold maxLen; omega))) ?_
    refine AO.segF tab_ok 2 (by decide) [(18, .bool true), (19, .own 23000), (20, .own 20)] [(20, .arr 3 (.int .i64) [1]), (23000, .arr 3 (.int .i64) v0.1)] (by (simp only [go_sem, hb2]) <;> (repeat' with_reducible apply And.intro) <;> first | assumption | rfl | omega | (unfold maxLen; omega)) ?_
    obtain ⟨v0_2, hv3, h⟩ := Option.bind_eq_some_iff.1 h
    refine AO.call tab_ok (by decide) rfl rfl rfl (fun _ h => ⟨fun _ => h, fun hn => absurd rfl hn⟩) [20, 23000] [] (hc_linealref01_SameInts v0.1 [1] hv3) rfl (by (simp only [go_sem, hb2]) <;> (repeat' with_reducible apply And.intro) <;> first | assumption | rfl | omega | (unfold maxLen; omega)) (by (simp only [go_sem, hb2]) <;> (repeat' with_reducible apply And.intro) <;> first | assumption | rfl | omega | (unfold maxLen; omega)) [(18, .bool true), (21, .bool v0_2)] [] (by (simp only [go_sem, hb2]) <;> (repeat' with_reducible apply And.intro) <;> first | assumption | rfl | omega | (unfold maxLen; omega)) ?_
    refine AO.allF tab_ok (by decide) [(0, .bool v0_2)] [] (by (simp only [go_sem, hb2]) <;> (repeat' with_reducible apply And.intro) <;> first | assumption | rfl | omega | (unfold maxLen; omega)) ?_
    refine athen_n ?_
    refine AW.ret ?_
    obtain rfl := Option.some.inj h
    exact ⟨rfl, [], [], [], rfl, (by (simp only [go_sem, hb2]) <;> (repeat' with_reducible apply And.intro) <;> first | assumption | rfl | omega | (unfold maxLen; omega))⟩
  · rw [if_neg (Bool.eq_false_iff.1 hb2)] at h
    refine AO.weaken (s' := ⟨fr [(2, .own 23000), (18, .bool false)], hpGet [(23000, .arr 3 (.int .i64) v0.1)], gt⟩) (Wk.to (by (simp only [go_sem, hb2]) <;> (repeat' with_reducible apply And.intro) <;> first | assumption | rfl | omega | (unfold maxLen; omega))) ?_
    refine AO.allF tab_ok (by decide) [(0, .bool false)] [] (by (simp only [go_sem, hb2]) <;> (repeat' with_reducible apply And.intro) <;> first | assumption | rfl | omega | (unfold maxLen; omega)) ?_
    refine athen_n ?_
    refine AW.ret ?_
    obtain rfl := Option.some.inj h
    exact ⟨rfl, [], [], [], rfl, (by (simp only [go_sem, hb2]) <;> (repeat' with_reducible apply And.intro) <;> first | assumption | rfl | omega | (unfold maxLen; omega))⟩

set_option maxRecDepth 100000 in
set_option maxHeartbeats 2000000 in
theorem hc_lineallaw01_wide (l : List (List Int)) {r : Bool} (h : lineallaw01_wide l = some r) : HC Try.prog 54 [] [.sl (.sl (.int .i64)) l] [] (.bool r) := by
  unfold lineallaw01_wide at h
  refine HC.of_body tab_ok (res := [.tmp 2]) Try.func54 rfl (by kernel_rfl) rfl (nt := 18) rfl (by decide) (by simp) ?_
  refine AW.seq ?_
  refine AW.ops ?_
  refine AO.allF tab_ok (by decide) [(0, .sl (.sl (.int .i64)) l)] [] (by (simp only [go_sem]) <;> (repeat' with_reducible apply And.intro) <;> first | assumption | rfl | omega | (unfold maxLen; omega)) ?_
  refine athen_n ?_
  refine AW.have1 (fun _ : Unit => lineallaw01_wide_k1 l = some r) (fun _ => ⟨fr [(0, .sl (.sl (.int .i64)) l)], hpGet [], gt⟩) (fun _ h => ?_) (fun hk_lineallaw01_wide_k1 => ?_)
  · unfold lineallaw01_wide_k1 at h
    refine AW.seq ?_
    refine AW.ops ?_
    refine AO.allF tab_ok (by decide) [(2, .bool (decide (40 < (l.length : Int))))] [] (by (simp only [go_sem]) <;> (repeat' with_reducible apply And.intro) <;> first | assumption | rfl | omega | (unfold maxLen; omega)) ?_
    refine athen_n ?_
    refine AW.ret ?_
    obtain rfl := Option.some.inj h
    exact ⟨rfl, [], [], [], rfl, (by (simp only [go_sem]) <;> (repeat' with_reducible apply And.intro) <;> first | assumption | rfl | omega | (unfold maxLen; omega))⟩
  · refine AW.seq ?_
    refine AW.seq ?_
    refine AW.ops ?_
    refine AO.allF tab_ok (by decide) [(0, .sl (.sl (.int .i64)) l), (5, .sl (.sl (.int .i64)) l), (6, .int .i64 (l.length : Int)), (7, .int .i64 0)] [] (by (simp only [go_sem]) <;> (repeat' with_reducible apply And.intro) <;> first | assumption | rfl | omega | (unfold maxLen; omega)) ?_
    refine athen_n ?_
    refine AW.block ?_
    obtain ⟨rv5, hw1, ho2⟩ := Option.bind_eq_some_iff.1 h
    refine AW.loopO (lineallaw01_wide_b1 l) (fun st1 => ⟨fr [(0, .sl (.sl (.int .i64)) l), (5, .sl (.sl (.int .i64)) l), (6, .int .i64 (l.length : Int)), (7, .int .i64 st1)], hpGet [], gt⟩) 0 hw1 (Wk.le [] [] [] rfl (by (simp only [go_sem]) <;> (repeat' with_reducible apply And.intro) <;> first | assumption | rfl | omega | (unfold maxLen; omega)) (by (simp only [go_sem]) <;> (repeat' with_reducible apply And.intro) <;> first | assumption | rfl | omega | (unfold maxLen; omega))) ?_
    intro st1 x4 h hd3
    unfold lineallaw01_wide_b1 at h
    refine AW.seq ?_
    refine AW.ops ?_
    refine AO.allF tab_ok (by decide) [(0, .sl (.sl (.int .i64)) l), (5, .sl (.sl (.int .i64)) l), (6, .int .i64 (l.length : Int)), (7, .int .i64 st1), (8, .bool (decide (st1 < (l.length : Int))))] [] (by (simp only [go_sem]) <;> (repeat' with_reducible apply And.intro) <;> first | assumption | rfl | omega | (unfold maxLen; omega)) ?_
    refine athen_n ?_
    refine AW.seq ?_
    refine AW.cond (b := (decide (st1 < (l.length : Int)))) rfl (fun hb6 => ?_) (fun hb6 => ?_)
    · rw [if_pos hb6] at h
      refine AW.skip ?_
      refine athen_n ?_
      refine AW.seq ?_
      refine AW.block ?_
      refine AW.seq ?_
      refine AW.ops ?_
      obtain ⟨c7, h⟩ := ck_some.1 h
      obtain ⟨c8, h⟩ := ck_some.1 h
      refine AO.allF tab_ok (by decide) [(0, .sl (.sl (.int .i64)) l), (4, .sl (.int .i64) (l.getD st1.toNat [])), (5, .sl (.sl (.int .i64)) l), (6, .int .i64 (l.length : Int)), (7, .int .i64 st1)] [] (by (simp only [go_sem, hb6]) <;> (repeat' with_reducible apply And.intro) <;> first | assumption | rfl | omega | (unfold maxLen; omega)) ?_
      refine athen_n ?_
      refine AW.seq ?_
      refine AW.ops ?_
      refine AO.allF tab_ok (by decide) [(0, .sl (.sl (.int .i64)) l), (5, .sl (.sl (.int .i64)) l), (6, .int .i64 (l.length : Int)), (7, .int .i64 st1), (13, .bool (decide (40 < ((l.getD st1.toNat []).length : Int))))] [] (by (simp only [go_sem, hb6]) <;> (repeat' with_reducible apply And.intro) <;> first | assumption | rfl | omega | (unfold maxLen; omega)) ?_
      refine athen_n ?_
      refine AW.cond (b := (decide (40 < ((l.getD st1.toNat []).length : Int)))) rfl (fun hb9 => ?_) (fun hb9 => ?_)
      · rw [if_pos hb9] at h
        refine AW.seq ?_
        refine AW.ops ?_
        refine AO.allF tab_ok (by decide) [(2, .bool true)] [] (by (simp only [go_sem, hb6, hb9]) <;> (repeat' with_reducible apply And.intro) <;> first | assumption | rfl | omega | (unfold maxLen; omega)) ?_
        refine athen_n ?_
        refine AW.ret ?_
        refine ablock_r ?_
        refine athen_r ?_
        obtain rfl := Option.some.inj h
        rw [← hd3 _ rfl] at ho2
        have h := ho2
        try simp only at h
        refine athen_r ?_
        refine ablock_r ?_
        refine athen_r ?_
        obtain rfl := Option.some.inj h
        exact ⟨rfl, [], [], [], rfl, (by (simp only [go_sem, hb6, hb9]) <;> (repeat' with_reducible apply And.intro) <;> first | assumption | rfl | omega | (unfold maxLen; omega))⟩
      · rw [if_neg (Bool.eq_false_iff.1 hb9)] at h
        refine AW.skip ?_
        refine ablock_n ?_
        refine athen_n ?_
        refine AW.ops ?_
        obtain ⟨c10, h⟩ := ck_some.1 h
        refine AO.allF tab_ok (by decide) [(0, .sl (.sl (.int .i64)) l), (5, .sl (.sl (.int .i64)) l), (6, .int .i64 (l.length : Int)), (7, .int .i64 (st1 + 1))] [] (by (simp only [go_sem, hb6, hb9]) <;> (repeat' with_reducible apply And.intro) <;> first | assumption | rfl | omega | (unfold maxLen; omega)) ?_
        obtain rfl := Option.some.inj h
        exact ⟨_, rfl, Wk.le [] [] [] rfl (by (simp only [go_sem, hb6, hb9]) <;> (repeat' with_reducible apply And.intro) <;> first | assumption | rfl | omega | (unfold maxLen; omega)) (by (simp only [go_sem, hb6, hb9]) <;> (repeat' with_reducible apply And.intro) <;> first | assumption | rfl | omega | (unfold maxLen; omega))⟩
    · rw [if_neg (Bool.eq_false_iff.1 hb6)] at h
      refine AW.exit ?_
      refine athen_e ?_
      obtain rfl := Option.some.inj h
      rw [← hd3 _ rfl] at ho2
      have h := ho2
      try simp only at h
      refine athen_e ?_
      refine ablock_s ?_
      refine athen_n ?_
      exact AW.weaken (Wk.le [] [] [] rfl (by (simp only [go_sem, hb6]) <;> (repeat' with_reducible apply And.intro) <;> first | assumption | rfl | omega | (unfold maxLen; omega)) (by (simp only [go_sem, hb6]) <;> (repeat' with_reducible apply And.intro) <;> first | assumption | rfl | omega | (unfold maxLen; omega))) (hk_lineallaw01_wide_k1 () h)

set_option maxRecDepth 100000 in
set_option maxHeartbeats 2000000 in
theorem hc_lineallaw01_Long (s : Int × Int × (List (List Int)) × (List (List Int))) {r : Bool} (h : lineallaw01_Long s = some r) : HC Try.prog 15 [] [.agg [.int .i64 s.1, .int .i64 s.2.1, .sl (.sl (.int .i64)) s.2.2.1, .sl (.sl (.int .i64)) s.2.2.2]] [] (.bool r) := by
  unfold lineallaw01_Long at h
  refine HC.of_body tab_ok (res := [.tmp 2]) Try.func15 rfl (by kernel_rfl) rfl (nt := 11) rfl (by decide) (by simp) ?_
  refine AW.seq ?_
  refine AW.ops ?_
  refine AO.allF tab_ok (by decide) [(1, .bp 1 0)] [(1, .box 24 [.int .i64 s.1, .int .i64 s.2.1, .sl (.sl (.int .i64)) s.2.2.1, .sl (.sl (.int .i64)) s.2.2.2])] (by (simp only [go_sem]) <;> (repeat' with_reducible apply And.intro) <;> first | assumption | rfl | omega | (unfold maxLen; omega)) ?_
  refine athen_n ?_
  refine AW.seq ?_
  refine AW.ops ?_
  refine AO.segF tab_ok 2 (by decide) [(1, .bp 1 0), (4, .sl (.sl (.int .i64)) s.2.2.1)] [(1, .box 24 [.int .i64 s.1, .int .i64 s.2.1, .sl (.sl (.int .i64)) s.2.2.1, .sl (.sl (.int .i64)) s.2.2.2])] (by (simp only [go_sem]) <;> (repeat' with_reducible apply And.intro) <;> first | assumption | rfl | omega | (unfold maxLen; omega)) ?_
  obtain ⟨v0, hv1, h⟩ := Option.bind_eq_some_iff.1 h
  refine AO.call tab_ok (by decide) rfl rfl rfl (fun _ h => h) [] [] (hc_lineallaw01_wide s.2.2.1 hv1) rfl (by (simp only [go_sem]) <;> (repeat' with_reducible apply And.intro) <;> first | assumption | rfl | omega | (unfold maxLen; omega)) (by (simp only [go_sem]) <;> (repeat' with_reducible apply And.intro) <;> first | assumption | rfl | omega | (unfold maxLen; omega)) [(1, .bp 1 0), (5, .bool v0)] [(1, .box 24 [.int .i64 s.1, .int .i64 s.2.1, .sl (.sl (.int .i64)) s.2.2.1, .sl (.sl (.int .i64)) s.2.2.2])] (by (simp only [go_sem]) <;> (repeat' with_reducible apply And.intro) <;> first | assumption | rfl | omega | (unfold maxLen; omega)) ?_
  refine AO.segF tab_ok 1 (by decide) [(1, .bp 1 0), (6, .bool v0)] [(1, .box 24 [.int .i64 s.1, .int .i64 s.2.1, .sl (.sl (.int .i64)) s.2.2.1, .sl (.sl (.int .i64)) s.2.2.2])] (by (simp only [go_sem]) <;> (repeat' with_reducible apply And.intro) <;> first | assumption | rfl | omega | (unfold maxLen; omega)) ?_
  rcases Bool.eq_false_or_eq_true v0 with hb2 | hb2
  · rw [if_pos hb2] at h
    refine AO.weaken (s' := ⟨fr [(1, .bp 1 0), (6, .bool true)], hpGet [(1, .box 24 [.int .i64 s.1, .int .i64 s.2.1, .sl (.sl (.int .i64)) s.2.2.1, .sl (.sl (.int .i64)) s.2.2.2])], gt⟩) (Wk.to (by (simp only [go_sem, hb2]) <;> (repeat' with_reducible apply And.intro) <;> first | assumption | rfl | omega | (unfold maxLen; omega))) ?_
    refine AO.allF tab_ok (by decide) [(2, .bool true)] [] (by (simp only [go_sem, hb2]) <;> (repeat' with_reducible apply And.intro) <;> first | assumption | rfl | omega | (unfold maxLen; omega)) ?_
    refine athen_n ?_
    refine AW.ret ?_
    obtain rfl := Option.some.inj h
    exact ⟨rfl, [], [], [], rfl, (by (simp only [go_sem, hb2]) <;> (repeat' with_reducible apply And.intro) <;> first | assumption | rfl | omega | (unfold maxLen; omega))⟩
  · rw [if_neg (Bool.eq_false_iff.1 hb2)] at h
    refine AO.weaken (s' := ⟨fr [(1, .bp 1 0), (6, .bool false)], hpGet [(1, .box 24 [.int .i64 s.1, .int .i64 s.2.1, .sl (.sl (.int .i64)) s.2.2.1, .sl (.sl (.int .i64)) s.2.2.2])], gt⟩) (Wk.to (by (simp only [go_sem, hb2]) <;> (repeat' with_reducible apply And.intro) <;> first | assumption | rfl | omega | (unfold maxLen; omega))) ?_
    refine AO.segF tab_ok 2 (by decide) [(6, .bool false), (8, .sl (.sl (.int .i64)) s.2.2.2)] [] (by (simp only [go_sem, hb2]) <;> (repeat' with_reducible apply And.intro) <;> first | assumption | rfl | omega | (unfold maxLen; omega)) ?_
    obtain ⟨v0_2, hv3, h⟩ := Option.bind_eq_some_iff.1 h
    refine AO.call tab_ok (by decide) rfl rfl rfl (fun _ h => ⟨fun _ => h, fun hn => absurd rfl hn⟩) [] [] (hc_lineallaw01_wide s.2.2.2 hv3) rfl (by (simp only [go_sem, hb2]) <;> (repeat' with_reducible apply And.intro) <;> first | assumption | rfl | omega | (unfold maxLen; omega)) (by (simp only [go_sem, hb2]) <;> (repeat' with_reducible apply And.intro) <;> first | assumption | rfl | omega | (unfold maxLen; omega)) [(6, .bool false), (9, .bool v0_2)] [] (by (simp only [go_sem, hb2]) <;> (repeat' with_reducible apply And.intro) <;> first | assumption | rfl | omega | (unfold maxLen; omega)) ?_
    refine AO.allF tab_ok (by decide) [(2, .bool v0_2)] [] (by (simp only [go_sem, hb2]) <;> (repeat' with_reducible apply And.intro) <;> first | assumption | rfl | omega | (unfold maxLen; omega)) ?_
    refine athen_n ?_
    refine AW.ret ?_
    obtain rfl := Option.some.inj h
    exact ⟨rfl, [], [], [], rfl, (by (simp only [go_sem, hb2]) <;> (repeat' with_reducible apply And.intro) <;> first | assumption | rfl | omega | (unfold maxLen; omega))⟩

set_option maxRecDepth 100000 in
set_option maxHeartbeats 2000000 in
theorem hc_spec_Begun (s : Int × Int × (List (List Int)) × (List (List Int))) (state : Int) {r : Int × Int × (List (List Int)) × (List (List Int)) × Int} (h : spec_Begun s state = some r) : HC Try.prog 51 [] [.agg [.int .i64 s.1, .int .i64 s.2.1, .sl (.sl (.int .i64)) s.2.2.1, .sl (.sl (.int .i64)) s.2.2.2], .int .i64 state] [(2000, .arr 25 (.sl (.int .i64)) r.2.2.1), (2001, .arr 25 (.sl (.int .i64)) r.2.2.2.1)] (.tup [.agg [.int .i64 r.1, .int .i64 r.2.1, .own 2000, .own 2001], .int .i64 r.2.2.2.2]) := by
  unfold spec_Begun at h
  refine HC.of_body tab_ok (res := [.cell 4 24, .tmp 5]) Try.func51 rfl (by kernel_rfl) rfl (nt := 98) rfl (by decide) (by simp) ?_
  refine AW.seq ?_
  refine AW.ops ?_
  refine AO.allF tab_ok (by decide) [(1, .int .i64 state), (2, .bp 2 0), (4, .bp 4 0)] [(2, .box 24 [.int .i64 s.1, .int .i64 s.2.1, .sl (.sl (.int .i64)) s.2.2.1, .sl (.sl (.int .i64)) s.2.2.2]), (4, .box 24 [.int .i64 0, .int .i64 0, .cv (.slice none 0 0), .cv (.slice none 0 0)])] (by (simp only [go_sem]) <;> (repeat' with_reducible apply And.intro) <;> first | assumption | rfl | omega | (unfold maxLen; omega)) ?_
  refine athen_n ?_
  refine AW.seq ?_
  refine AW.seq ?_
  refine AW.ops ?_
  refine AO.segF tab_ok 3 (by decide) [(1, .int .i64 state), (2, .bp 2 0), (4, .bp 4 0), (17, .agg [.int .i64 s.1, .int .i64 s.2.1, .sl (.sl (.int .i64)) s.2.2.1, .sl (.sl (.int .i64)) s.2.2.2]), (19, .own 19)] [(2, .box 24 [.int .i64 s.1, .int .i64 s.2.1, .sl (.sl (.int .i64)) s.2.2.1, .sl (.sl (.int .i64)) s.2.2.2]), (4, .box 24 [.int .i64 0, .int .i64 0, .cv (.slice none 0 0), .cv (.slice none 0 0)]), (19, .arr 3 (.int .i64) [state])] (by (simp only [go_sem]) <;> (repeat' with_reducible apply And.intro) <;> first | assumption | rfl | omega | (unfold maxLen; omega)) ?_
  obtain ⟨v0, hv1, h⟩ := Option.bind_eq_some_iff.1 h
  refine AO.call tab_ok (by decide) rfl rfl rfl (fun _ h => h) [19] [] (hc_spec_checked s [state] hv1) rfl (by (simp only [go_sem]) <;> (repeat' with_reducible apply And.intro) <;> first | assumption | rfl | omega | (unfold maxLen; omega)) (by (simp only [go_sem]) <;> (repeat' with_reducible apply And.intro) <;> first | assumption | rfl | omega | (unfold maxLen; omega)) [(1, .int .i64 state), (2, .bp 2 0), (4, .bp 4 0), (20, .tup [.agg [.int .i64 v0.1, .int .i64 v0.2.1, .sl (.sl (.int .i64)) v0.2.2.1, .sl (.sl (.int .i64)) v0.2.2.2.1], .int .i64 v0.2.2.2.2])] [(2, .box 24 [.int .i64 s.1, .int .i64 s.2.1, .sl (.sl (.int .i64)) s.2.2.1, .sl (.sl (.int .i64)) s.2.2.2]), (4, .box 24 [.int .i64 0, .int .i64 0, .cv (.slice none 0 0), .cv (.slice none 0 0)])] (by (simp only [go_sem]) <;> (repeat' with_reducible apply And.intro) <;> first | assumption | rfl | omega | (unfold maxLen; omega)) ?_
  refine AO.allF tab_ok (by decide) [(1, .int .i64 state), (2, .bp 2 0), (4, .bp 4 0), (7, .int .i64 v0.2.2.2.2)] [(2, .box 24 [.int .i64 s.1, .int .i64 s.2.1, .sl (.sl (.int .i64)) s.2.2.1, .sl (.sl (.int .i64)) s.2.2.2]), (4, .box 24 [.int .i64 0, .int .i64 0, .cv (.slice none 0 0), .cv (.slice none 0 0)])] (by (simp only [go_sem]) <;> (repeat' with_reducible apply And.intro) <;> first | assumption | rfl | omega | (unfold maxLen; omega)) ?_
  refine athen_n ?_
  refine AW.seq ?_
  refine AW.ops ?_
  refine AO.allF tab_ok (by decide) [(1, .int .i64 state), (2, .bp 2 0), (4, .bp 4 0), (7, .int .i64 v0.2.2.2.2), (24, .bool (!(decide (v0.2.2.2.2 = 0))))] [(2, .box 24 [.int .i64 s.1, .int .i64 s.2.1, .sl (.sl (.int .i64)) s.2.2.1, .sl (.sl (.int .i64)) s.2.2.2]), (4, .box 24 [.int .i64 0, .int .i64 0, .cv (.slice none 0 0), .cv (.slice none 0 0)])] (by (simp only [go_sem]) <;> (repeat' with_reducible apply And.intro) <;> first | assumption | rfl | omega | (unfold maxLen; omega)) ?_
  refine athen_n ?_
  refine AW.cond (b := (!(decide (v0.2.2.2.2 = 0)))) rfl (fun hb2 => ?_) (fun hb2 => ?_)
  · rw [if_pos hb2] at h
    refine AW.seq ?_
    refine AW.ops ?_
    refine AO.allF tab_ok (by decide) [(4, .bp 4 0), (5, .int .i64 v0.2.2.2.2)] [(4, .box 24 [.int .i64 0, .int .i64 0, .cv (.slice none 0 0), .cv (.slice none 0 0)])] (by (simp only [go_sem, hb2]) <;> (repeat' with_reducible apply And.intro) <;> first | assumption | rfl | omega | (unfold maxLen; omega)) ?_
    refine athen_n ?_
    refine AW.ret ?_
    refine athen_r ?_
    obtain rfl := Option.some.inj h
    exact ⟨rfl, [], [2000, 2001], [], rfl, (by (simp only [go_sem, hb2]) <;> (repeat' with_reducible apply And.intro) <;> first | assumption | rfl | omega | (unfold maxLen; omega))⟩
  · rw [if_neg (Bool.eq_false_iff.1 hb2)] at h
    refine AW.skip ?_
    refine athen_n ?_
    refine AW.seq ?_
    refine AW.ops ?_
    obtain ⟨c3, h⟩ := ck_some.1 h
    obtain ⟨c4, h⟩ := ck_some.1 h
    refine AO.allF tab_ok (by decide) [(1, .int .i64 state), (2, .bp 2 0), (4, .bp 4 0), (8, .own 29)] [(2, .box 24 [.int .i64 s.1, .int .i64 s.2.1, .sl (.sl (.int .i64)) s.2.2.1, .sl (.sl (.int .i64)) s.2.2.2]), (4, .box 24 [.int .i64 0, .int .i64 0, .cv (.slice none 0 0), .cv (.slice none 0 0)]), (29, .arr 3 (.int .i64) (List.replicate s.1.toNat (0 : Int)))] (by (simp only [go_sem, hb2]) <;> (repeat' with_reducible apply And.intro) <;> first | assumption | rfl | omega | (unfold maxLen; omega)) ?_
    refine athen_n ?_
    refine AW.have1 (fun b1 : (List Int) => spec_Begun_k1 s state b1 = some r) (fun b1 => ⟨fr [(1, .int .i64 state), (2, .bp 2 0), (4, .bp 4 0), (8, .own 29)], hpGet [(2, .box 24 [.int .i64 s.1, .int .i64 s.2.1, .sl (.sl (.int .i64)) s.2.2.1, .sl (.sl (.int .i64)) s.2.2.2]), (4, .box 24 [.int .i64 0, .int .i64 0, .cv (.slice none 0 0), .cv (.slice none 0 0)]), (29, .arr 3 (.int .i64) b1)], gt⟩) (fun b1 h => ?_) (fun hk_spec_Begun_k1 => ?_)
    · unfold spec_Begun_k1 at h
      refine AW.seq ?_
      refine AW.ops ?_
      obtain ⟨c5, h⟩ := ck_some.1 h
      obtain ⟨c6, h⟩ := ck_some.1 h
      obtain ⟨c7, h⟩ := ck_some.1 h
      refine AO.allF tab_ok (by decide) [(2, .bp 2 0), (4, .bp 4 0), (8, .own 29)] [(2, .box 24 [.int .i64 s.1, .int .i64 s.2.1, .sl (.sl (.int .i64)) s.2.2.1, .sl (.sl (.int .i64)) s.2.2.2]), (4, .box 24 [.int .i64 0, .int .i64 0, .cv (.slice none 0 0), .cv (.slice none 0 0)]), (29, .arr 3 (.int .i64) ((b1.set 0 state).set state.toNat 0))] (by (simp only [go_sem, hb2]) <;> (repeat' with_reducible apply And.intro) <;> first | assumption | rfl | omega | (unfold maxLen; omega)) ?_
      refine athen_n ?_
      refine AW.seq ?_
      refine AW.ops ?_
      refine AO.allF tab_ok (by decide) [(2, .bp 2 0), (4, .bp 4 0), (8, .own 29), (10, .bp 10 0)] [(2, .box 24 [.int .i64 s.1, .int .i64 s.2.1, .sl (.sl (.int .i64)) s.2.2.1, .sl (.sl (.int .i64)) s.2.2.2]), (4, .box 24 [.int .i64 0, .int .i64 0, .cv (.slice none 0 0), .cv (.slice none 0 0)]), (10, .box 24 [.int .i64 s.1, .int .i64 s.2.1, .cv (.slice none 0 0), .cv (.slice none 0 0)]), (29, .arr 3 (.int .i64) ((b1.set 0 state).set state.toNat 0))] (by (simp only [go_sem, hb2]) <;> (repeat' with_reducible apply And.intro) <;> first | assumption | rfl | omega | (unfold maxLen; omega)) ?_
      refine athen_n ?_
      refine AW.have1 (fun b4_3 : (List (List Int)) × (List (List Int)) => spec_Begun_k2 s b4_3 = some r) (fun b4_3 => ⟨fr [(4, .bp 4 0), (10, .bp 10 0)], hpGet [(4, .box 24 [.int .i64 0, .int .i64 0, .cv (.slice none 0 0), .cv (.slice none 0 0)]), (10, .box 24 [.int .i64 s.1, .int .i64 s.2.1, .own 83, .own 94]), (83, .arr 25 (.sl (.int .i64)) b4_3.1), (94, .arr 25 (.sl (.int .i64)) b4_3.2)], gt⟩) (fun b4_3 h => ?_) (fun hk_spec_Begun_k2 => ?_)
      · unfold spec_Begun_k2 at h
        refine AW.seq ?_
        refine AW.ops ?_
        refine AO.allF tab_ok (by decide) [(4, .bp 4 0), (5, .int .i64 0)] [(4, .box 24 [.int .i64 s.1, .int .i64 s.2.1, .own 83, .own 94]), (83, .arr 25 (.sl (.int .i64)) b4_3.1), (94, .arr 25 (.sl (.int .i64)) b4_3.2)] (by (simp only [go_sem, hb2]) <;> (repeat' with_reducible apply And.intro) <;> first | assumption | rfl | omega | (unfold maxLen; omega)) ?_
        refine athen_n ?_
        refine AW.ret ?_
        obtain rfl := Option.some.inj h
        exact ⟨rfl, [], [], [(2000, 83), (2001, 94)], rfl, (by (simp only [go_sem, hb2]) <;> (repeat' with_reducible apply And.intro) <;> first | assumption | rfl | omega | (unfold maxLen; omega))⟩
      · refine AW.seq ?_
        refine AW.seq ?_
        refine AW.ops ?_
        refine AO.allF tab_ok (by decide) [(2, .bp 2 0), (4, .bp 4 0), (8, .own 29), (10, .bp 10 0), (51, .own 29), (52, .int .i64 (((b1.set 0 state).set state.toNat 0).length : Int)), (53, .int .i64 0)] [(2, .box 24 [.int .i64 s.1, .int .i64 s.2.1, .sl (.sl (.int .i64)) s.2.2.1, .sl (.sl (.int .i64)) s.2.2.2]), (4, .box 24 [.int .i64 0, .int .i64 0, .cv (.slice none 0 0), .cv (.slice none 0 0)]), (10, .box 24 [.int .i64 s.1, .int .i64 s.2.1, .cv (.slice none 0 0), .cv (.slice none 0 0)]), (29, .arr 3 (.int .i64) ((b1.set 0 state).set state.toNat 0))] (by (simp only [go_sem, hb2]) <;> (repeat' with_reducible apply And.intro) <;> first | assumption | rfl | omega | (unfold maxLen; omega)) ?_
        refine athen_n ?_
        refine AW.block ?_
        obtain ⟨rv12, hw8, ho9⟩ := Option.bind_eq_some_iff.1 h
        refine AW.loopO (spec_Begun_b2 s state b1) (fun st2 => ⟨fr [(2, .bp 2 0), (4, .bp 4 0), (8, .own 29), (10, .bp 10 0), (51, .own 29), (52, .int .i64 (((b1.set 0 state).set state.toNat 0).length : Int)), (53, .int .i64 st2.2.2)], hpGet [(2, .box 24 [.int .i64 s.1, .int .i64 s.2.1, .sl (.sl (.int .i64)) s.2.2.1, .sl (.sl (.int .i64)) s.2.2.2]), (4, .box 24 [.int .i64 0, .int .i64 0, .cv (.slice none 0 0), .cv (.slice none 0 0)]), (10, .box 24 [.int .i64 s.1, .int .i64 s.2.1, .own 83, .own 94]), (29, .arr 3 (.int .i64) ((b1.set 0 state).set state.toNat 0)), (83, .arr 25 (.sl (.int .i64)) st2.1), (94, .arr 25 (.sl (.int .i64)) st2.2.1)], gt⟩) ([], [], 0) hw8 (Wk.le [] [83, 94] [] rfl (by (simp only [go_sem, hb2]) <;> (repeat' with_reducible apply And.intro) <;> first | assumption | rfl | omega | (unfold maxLen; omega)) (by (simp only [go_sem, hb2]) <;> (repeat' with_reducible apply And.intro) <;> first | assumption | rfl | omega | (unfold maxLen; omega))) ?_
        intro st2 x11 h hd10
        unfold spec_Begun_b2 at h
        refine AW.seq ?_
        refine AW.ops ?_
        refine AO.allF tab_ok (by decide) [(2, .bp 2 0), (4, .bp 4 0), (8, .own 29), (10, .bp 10 0), (51, .own 29), (52, .int .i64 (((b1.set 0 state).set state.toNat 0).length : Int)), (53, .int .i64 st2.2.2), (54, .bool (decide (st2.2.2 < (((b1.set 0 state).set state.toNat 0).length : Int))))] [(2, .box 24 [.int .i64 s.1, .int .i64 s.2.1, .sl (.sl (.int .i64)) s.2.2.1, .sl (.sl (.int .i64)) s.2.2.2]), (4, .box 24 [.int .i64 0, .int .i64 0, .cv (.slice none 0 0), .cv (.slice none 0 0)]), (10, .box 24 [.int .i64 s.1, .int .i64 s.2.1, .own 83, .own 94]), (29, .arr 3 (.int .i64) ((b1.set 0 state).set state.toNat 0)), (83, .arr 25 (.sl (.int .i64)) st2.1), (94, .arr 25 (.sl (.int .i64)) st2.2.1)] (by (simp only [go_sem, hb2]) <;> (repeat' with_reducible apply And.intro) <;> first | assumption | rfl | omega | (unfold maxLen; omega)) ?_
        refine athen_n ?_
        refine AW.seq ?_
        refine AW.cond (b := (decide (st2.2.2 < (((b1.set 0 state).set state.toNat 0).length : Int)))) rfl (fun hb13 => ?_) (fun hb13 => ?_)
        · rw [if_pos hb13] at h
          refine AW.skip ?_
          refine athen_n ?_
          refine AW.have1 (fun b4_2 : (List (List Int)) × (List (List Int)) => spec_Begun_k3 st2 b4_2 = some x11) (fun b4_2 => ⟨fr [(2, .bp 2 0), (4, .bp 4 0), (8, .own 29), (10, .bp 10 0), (51, .own 29), (52, .int .i64 (((b1.set 0 state).set state.toNat 0).length : Int)), (53, .int .i64 st2.2.2)], hpGet [(2, .box 24 [.int .i64 s.1, .int .i64 s.2.1, .sl (.sl (.int .i64)) s.2.2.1, .sl (.sl (.int .i64)) s.2.2.2]), (4, .box 24 [.int .i64 0, .int .i64 0, .cv (.slice none 0 0), .cv (.slice none 0 0)]), (10, .box 24 [.int .i64 s.1, .int .i64 s.2.1, .own 83, .own 94]), (29, .arr 3 (.int .i64) ((b1.set 0 state).set state.toNat 0)), (83, .arr 25 (.sl (.int .i64)) b4_2.1), (94, .arr 25 (.sl (.int .i64)) b4_2.2)], gt⟩) (fun b4_2 h => ?_) (fun hk_spec_Begun_k3 => ?_)
          · unfold spec_Begun_k3 at h
            refine AW.ops ?_
            obtain ⟨c14, h⟩ := ck_some.1 h
            refine AO.allF tab_ok (by decide) [(2, .bp 2 0), (4, .bp 4 0), (8, .own 29), (10, .bp 10 0), (51, .own 29), (52, .int .i64 (((b1.set 0 state).set state.toNat 0).length : Int)), (53, .int .i64 (st2.2.2 + 1))] [(2, .box 24 [.int .i64 s.1, .int .i64 s.2.1, .sl (.sl (.int .i64)) s.2.2.1, .sl (.sl (.int .i64)) s.2.2.2]), (4, .box 24 [.int .i64 0, .int .i64 0, .cv (.slice none 0 0), .cv (.slice none 0 0)]), (10, .box 24 [.int .i64 s.1, .int .i64 s.2.1, .own 83, .own 94]), (29, .arr 3 (.int .i64) ((b1.set 0 state).set state.toNat 0)), (83, .arr 25 (.sl (.int .i64)) b4_2.1), (94, .arr 25 (.sl (.int .i64)) b4_2.2)] (by (simp only [go_sem, hb2, hb13]) <;> (repeat' with_reducible apply And.intro) <;> first | assumption | rfl | omega | (unfold maxLen; omega)) ?_
            obtain rfl := Option.some.inj h
            exact ⟨_, rfl, Wk.le [] [] [] rfl (by (simp only [go_sem, hb2, hb13]) <;> (repeat' with_reducible apply And.intro) <;> first | assumption | rfl | omega | (unfold maxLen; omega)) (by (simp only [go_sem, hb2, hb13]) <;> (repeat' with_reducible apply And.intro) <;> first | assumption | rfl | omega | (unfold maxLen; omega))⟩
          · refine AW.seq ?_
            refine AW.block ?_
            refine AW.seq ?_
            refine AW.ops ?_
            obtain ⟨c15, h⟩ := ck_some.1 h
            obtain ⟨c16, h⟩ := ck_some.1 h
            refine AO.allF tab_ok (by decide) [(2, .bp 2 0), (4, .bp 4 0), (8, .own 29), (10, .bp 10 0), (12, .int .i64 (((b1.set 0 state).set state.toNat 0).getD st2.2.2.toNat 0)), (51, .own 29), (52, .int .i64 (((b1.set 0 state).set state.toNat 0).length : Int)), (53, .int .i64 st2.2.2)] [(2, .box 24 [.int .i64 s.1, .int .i64 s.2.1, .sl (.sl (.int .i64)) s.2.2.1, .sl (.sl (.int .i64)) s.2.2.2]), (4, .box 24 [.int .i64 0, .int .i64 0, .cv (.slice none 0 0), .cv (.slice none 0 0)]), (10, .box 24 [.int .i64 s.1, .int .i64 s.2.1, .own 83, .own 94]), (29, .arr 3 (.int .i64) ((b1.set 0 state).set state.toNat 0)), (83, .arr 25 (.sl (.int .i64)) st2.1), (94, .arr 25 (.sl (.int .i64)) st2.2.1)] (by (simp only [go_sem, hb2, hb13]) <;> (repeat' with_reducible apply And.intro) <;> first | assumption | rfl | omega | (unfold maxLen; omega)) ?_
            refine athen_n ?_
            refine AW.seq ?_
            refine AW.ops ?_
            obtain ⟨c17, h⟩ := ck_some.1 h
            obtain ⟨c18, h⟩ := ck_some.1 h
            refine AO.allF tab_ok (by decide) [(2, .bp 2 0), (4, .bp 4 0), (8, .own 29), (10, .bp 10 0), (12, .int .i64 (((b1.set 0 state).set state.toNat 0).getD st2.2.2.toNat 0)), (13, .own 59), (51, .own 29), (52, .int .i64 (((b1.set 0 state).set state.toNat 0).length : Int)), (53, .int .i64 st2.2.2)] [(2, .box 24 [.int .i64 s.1, .int .i64 s.2.1, .sl (.sl (.int .i64)) s.2.2.1, .sl (.sl (.int .i64)) s.2.2.2]), (4, .box 24 [.int .i64 0, .int .i64 0, .cv (.slice none 0 0), .cv (.slice none 0 0)]), (10, .box 24 [.int .i64 s.1, .int .i64 s.2.1, .own 83, .own 94]), (29, .arr 3 (.int .i64) ((b1.set 0 state).set state.toNat 0)), (59, .arr 3 (.int .i64) (List.replicate s.2.1.toNat (0 : Int))), (83, .arr 25 (.sl (.int .i64)) st2.1), (94, .arr 25 (.sl (.int .i64)) st2.2.1)] (by (simp only [go_sem, hb2, hb13]) <;> (repeat' with_reducible apply And.intro) <;> first | assumption | rfl | omega | (unfold maxLen; omega)) ?_
            refine athen_n ?_
            refine AW.have1 (fun b4 : (List Int) => spec_Begun_k4 s state b1 st2 b4 = some x11) (fun b4 => ⟨fr [(2, .bp 2 0), (4, .bp 4 0), (8, .own 29), (10, .bp 10 0), (12, .int .i64 (((b1.set 0 state).set state.toNat 0).getD st2.2.2.toNat 0)), (13, .own 59), (51, .own 29), (52, .int .i64 (((b1.set 0 state).set state.toNat 0).length : Int)), (53, .int .i64 st2.2.2)], hpGet [(2, .box 24 [.int .i64 s.1, .int .i64 s.2.1, .sl (.sl (.int .i64)) s.2.2.1, .sl (.sl (.int .i64)) s.2.2.2]), (4, .box 24 [.int .i64 0, .int .i64 0, .cv (.slice none 0 0), .cv (.slice none 0 0)]), (10, .box 24 [.int .i64 s.1, .int .i64 s.2.1, .own 83, .own 94]), (29, .arr 3 (.int .i64) ((b1.set 0 state).set state.toNat 0)), (59, .arr 3 (.int .i64) b4), (83, .arr 25 (.sl (.int .i64)) st2.1), (94, .arr 25 (.sl (.int .i64)) st2.2.1)], gt⟩) (fun b4 h => ?_) (fun hk_spec_Begun_k4 => ?_)
            · unfold spec_Begun_k4 at h
              refine AW.seq ?_
              refine AW.ops ?_
              obtain ⟨c19, h⟩ := ck_some.1 h
              refine AO.allF tab_ok (by decide) [(2, .bp 2 0), (4, .bp 4 0), (8, .own 29), (10, .bp 10 0), (12, .int .i64 (((b1.set 0 state).set state.toNat 0).getD st2.2.2.toNat 0)), (51, .own 29), (52, .int .i64 (((b1.set 0 state).set state.toNat 0).length : Int)), (53, .int .i64 st2.2.2)] [(2, .box 24 [.int .i64 s.1, .int .i64 s.2.1, .sl (.sl (.int .i64)) s.2.2.1, .sl (.sl (.int .i64)) s.2.2.2]), (4, .box 24 [.int .i64 0, .int .i64 0, .cv (.slice none 0 0), .cv (.slice none 0 0)]), (10, .box 24 [.int .i64 s.1, .int .i64 s.2.1, .own 83, .own 94]), (29, .arr 3 (.int .i64) ((b1.set 0 state).set state.toNat 0)), (83, .arr 25 (.sl (.int .i64)) (st2.1 ++ [b4])), (94, .arr 25 (.sl (.int .i64)) st2.2.1)] (by (simp only [go_sem, hb2, hb13]) <;> (repeat' with_reducible apply And.intro) <;> first | assumption | rfl | omega | (unfold maxLen; omega)) ?_
              refine athen_n ?_
              refine AW.draw tab_ok mixed_ok [(7, [102000]), (8, [93, 102000]), (9, [94]), (11, [10])] [(0, [10, 83, 94]), (1, [10, 83, 94]), (100011, [])] (by decide) (by kernel_rfl) ?_
              obtain ⟨c21, h⟩ := ck_some.1 h
              obtain ⟨c22, h⟩ := ck_some.1 h
              refine adops_cut 6 (fun K' hK20 => ?_)
              try dsimp only [List.drop_succ_cons, List.drop_zero, List.take_succ_cons, List.take_zero]
              simp only [go_sem, hb2, hb13]
              repeat (with_reducible refine And.intro (by first | assumption | rfl | omega | trivial | (unfold maxLen; omega)) ?_)
              refine hK20 _ ?_
              refine adops_cut 1 (fun K' hK23 => ?_)
              try dsimp only [List.drop_succ_cons, List.drop_zero, List.take_succ_cons, List.take_zero]
              simp only [go_sem, hb2, hb13]
              repeat (with_reducible refine And.intro (by first | assumption | rfl | omega | trivial | (unfold maxLen; omega)) ?_)
              refine hK23 _ ?_
              obtain ⟨v0_2, hv24, h⟩ := Option.bind_eq_some_iff.1 h
              refine adops.call (by first | trivial | rfl) rfl rfl rfl (fun _ h => h) [] [] (hc_slices_Clone (s.2.2.2.getD (((b1.set 0 state).set state.toNat 0).getD st2.2.2.toNat 0).toNat []) hv24) rfl (by (simp only [go_sem, hb2, hb13]) <;> (repeat' with_reducible apply And.intro) <;> first | assumption | rfl | omega | (unfold maxLen; omega)) (by (simp only [go_sem, hb2, hb13]) <;> (repeat' with_reducible apply And.intro) <;> first | assumption | rfl | omega | (unfold maxLen; omega)) rfl ?_
              obtain ⟨c26, h⟩ := ck_some.1 h
              refine adops_cut 4 (fun K' hK25 => ?_)
              try dsimp only [List.drop_succ_cons, List.drop_zero, List.take_succ_cons, List.take_zero]
              simp only [go_sem, hb2, hb13]
              repeat (with_reducible refine And.intro (by first | assumption | rfl | omega | trivial | (unfold maxLen; omega)) ?_)
              refine hK25 _ ?_
              refine adops_nil ?_
              refine ablock_n ?_
              refine athen_n ?_
              refine AW.weaken (s' := ⟨fr [(2, .bp 2 0), (4, .bp 4 0), (8, .own 29), (10, .bp 10 0), (51, .own 29), (52, .int .i64 (((b1.set 0 state).set state.toNat 0).length : Int)), (53, .int .i64 st2.2.2)], hpGet [(2, .box 24 [.int .i64 s.1, .int .i64 s.2.1, .sl (.sl (.int .i64)) s.2.2.1, .sl (.sl (.int .i64)) s.2.2.2]), (4, .box 24 [.int .i64 0, .int .i64 0, .cv (.slice none 0 0), .cv (.slice none 0 0)]), (10, .box 24 [.int .i64 s.1, .int .i64 s.2.1, .own 83, .own 94]), (29, .arr 3 (.int .i64) ((b1.set 0 state).set state.toNat 0)), (83, .arr 25 (.sl (.int .i64)) (st2.1 ++ [b4])), (94, .arr 25 (.sl (.int .i64)) (st2.2.1 ++ [v0_2]))], gt⟩) (Wk.to (by (simp only [go_sem, hb2, hb13]) <;> (repeat' with_reducible apply And.intro) <;> first | assumption | rfl | omega | (unfold maxLen; omega))) ?_
              exact AW.weaken (Wk.le [] [] [] rfl (by (simp only [go_sem, hb2, hb13]) <;> (repeat' with_reducible apply And.intro) <;> first | assumption | rfl | omega | (unfold maxLen; omega)) (by (simp only [go_sem, hb2, hb13]) <;> (repeat' with_reducible apply And.intro) <;> first | assumption | rfl | omega | (unfold maxLen; omega))) (hk_spec_Begun_k3 _ h)
            · refine AW.seq ?_
              refine AW.seq ?_
              refine AW.ops ?_
              obtain ⟨c27, h⟩ := ck_some.1 h
              obtain ⟨c28, h⟩ := ck_some.1 h
              refine AO.allF tab_ok (by decide) [(2, .bp 2 0), (4, .bp 4 0), (8, .own 29), (10, .bp 10 0), (12, .int .i64 (((b1.set 0 state).set state.toNat 0).getD st2.2.2.toNat 0)), (13, .own 59), (51, .own 29), (52, .int .i64 (((b1.set 0 state).set state.toNat 0).length : Int)), (53, .int .i64 st2.2.2), (64, .sl (.int .i64) (s.2.2.1.getD (((b1.set 0 state).set state.toNat 0).getD st2.2.2.toNat 0).toNat [])), (65, .int .i64 ((s.2.2.1.getD (((b1.set 0 state).set state.toNat 0).getD st2.2.2.toNat 0).toNat []).length : Int)), (66, .int .i64 0)] [(2, .box 24 [.int .i64 s.1, .int .i64 s.2.1, .sl (.sl (.int .i64)) s.2.2.1, .sl (.sl (.int .i64)) s.2.2.2]), (4, .box 24 [.int .i64 0, .int .i64 0, .cv (.slice none 0 0), .cv (.slice none 0 0)]), (10, .box 24 [.int .i64 s.1, .int .i64 s.2.1, .own 83, .own 94]), (29, .arr 3 (.int .i64) ((b1.set 0 state).set state.toNat 0)), (59, .arr 3 (.int .i64) (List.replicate s.2.1.toNat (0 : Int))), (83, .arr 25 (.sl (.int .i64)) st2.1), (94, .arr 25 (.sl (.int .i64)) st2.2.1)] (by (simp only [go_sem, hb2, hb13]) <;> (repeat' with_reducible apply And.intro) <;> first | assumption | rfl | omega | (unfold maxLen; omega)) ?_
              refine athen_n ?_
              refine AW.block ?_
              obtain ⟨rv33, hw29, ho30⟩ := Option.bind_eq_some_iff.1 h
              refine AW.loopO (spec_Begun_b3 s state b1 st2) (fun st3 => ⟨fr [(2, .bp 2 0), (4, .bp 4 0), (8, .own 29), (10, .bp 10 0), (12, .int .i64 (((b1.set 0 state).set state.toNat 0).getD st2.2.2.toNat 0)), (13, .own 59), (51, .own 29), (52, .int .i64 (((b1.set 0 state).set state.toNat 0).length : Int)), (53, .int .i64 st2.2.2), (64, .sl (.int .i64) (s.2.2.1.getD (((b1.set 0 state).set state.toNat 0).getD st2.2.2.toNat 0).toNat [])), (65, .int .i64 ((s.2.2.1.getD (((b1.set 0 state).set state.toNat 0).getD st2.2.2.toNat 0).toNat []).length : Int)), (66, .int .i64 st3.2)], hpGet [(2, .box 24 [.int .i64 s.1, .int .i64 s.2.1, .sl (.sl (.int .i64)) s.2.2.1, .sl (.sl (.int .i64)) s.2.2.2]), (4, .box 24 [.int .i64 0, .int .i64 0, .cv (.slice none 0 0), .cv (.slice none 0 0)]), (10, .box 24 [.int .i64 s.1, .int .i64 s.2.1, .own 83, .own 94]), (29, .arr 3 (.int .i64) ((b1.set 0 state).set state.toNat 0)), (59, .arr 3 (.int .i64) st3.1), (83, .arr 25 (.sl (.int .i64)) st2.1), (94, .arr 25 (.sl (.int .i64)) st2.2.1)], gt⟩) ((List.replicate s.2.1.toNat (0 : Int)), 0) hw29 (Wk.le [] [] [] rfl (by (simp only [go_sem, hb2, hb13]) <;> (repeat' with_reducible apply And.intro) <;> first | assumption | rfl | omega | (unfold maxLen; omega)) (by (simp only [go_sem, hb2, hb13]) <;> (repeat' with_reducible apply And.intro) <;> first | assumption | rfl | omega | (unfold maxLen; omega))) ?_
              intro st3 x32 h hd31
              unfold spec_Begun_b3 at h
              refine AW.seq ?_
              refine AW.ops ?_
              refine AO.allF tab_ok (by decide) [(2, .bp 2 0), (4, .bp 4 0), (8, .own 29), (10, .bp 10 0), (12, .int .i64 (((b1.set 0 state).set state.toNat 0).getD st2.2.2.toNat 0)), (13, .own 59), (51, .own 29), (52, .int .i64 (((b1.set 0 state).set state.toNat 0).length : Int)), (53, .int .i64 st2.2.2), (64, .sl (.int .i64) (s.2.2.1.getD (((b1.set 0 state).set state.toNat 0).getD st2.2.2.toNat 0).toNat [])), (65, .int .i64 ((s.2.2.1.getD (((b1.set 0 state).set state.toNat 0).getD st2.2.2.toNat 0).toNat []).length : Int)), (66, .int .i64 st3.2), (67, .bool (decide (st3.2 < ((s.2.2.1.getD (((b1.set 0 state).set state.toNat 0).getD st2.2.2.toNat 0).toNat []).length : Int))))] [(2, .box 24 [.int .i64 s.1, .int .i64 s.2.1, .sl (.sl (.int .i64)) s.2.2.1, .sl (.sl (.int .i64)) s.2.2.2]), (4, .box 24 [.int .i64 0, .int .i64 0, .cv (.slice none 0 0), .cv (.slice none 0 0)]), (10, .box 24 [.int .i64 s.1, .int .i64 s.2.1, .own 83, .own 94]), (29, .arr 3 (.int .i64) ((b1.set 0 state).set state.toNat 0)), (59, .arr 3 (.int .i64) st3.1), (83, .arr 25 (.sl (.int .i64)) st2.1), (94, .arr 25 (.sl (.int .i64)) st2.2.1)] (by (simp only [go_sem, hb2, hb13]) <;> (repeat' with_reducible apply And.intro) <;> first | assumption | rfl | omega | (unfold maxLen; omega)) ?_
              refine athen_n ?_
              refine AW.seq ?_
              refine AW.cond (b := (decide (st3.2 < ((s.2.2.1.getD (((b1.set 0 state).set state.toNat 0).getD st2.2.2.toNat 0).toNat []).length : Int)))) rfl (fun hb34 => ?_) (fun hb34 => ?_)
              · rw [if_pos hb34] at h
                refine AW.skip ?_
                refine athen_n ?_
                refine AW.seq ?_
                refine AW.block ?_
                refine AW.seq ?_
                refine AW.ops ?_
                obtain ⟨c35, h⟩ := ck_some.1 h
                obtain ⟨c36, h⟩ := ck_some.1 h
                refine AO.allF tab_ok (by decide) [(2, .bp 2 0), (4, .bp 4 0), (8, .own 29), (10, .bp 10 0), (12, .int .i64 (((b1.set 0 state).set state.toNat 0).getD st2.2.2.toNat 0)), (13, .own 59), (14, .int .i64 st3.2), (15, .int .i64 ((s.2.2.1.getD (((b1.set 0 state).set state.toNat 0).getD st2.2.2.toNat 0).toNat []).getD st3.2.toNat 0)), (51, .own 29), (52, .int .i64 (((b1.set 0 state).set state.toNat 0).length : Int)), (53, .int .i64 st2.2.2), (64, .sl (.int .i64) (s.2.2.1.getD (((b1.set 0 state).set state.toNat 0).getD st2.2.2.toNat 0).toNat [])), (65, .int .i64 ((s.2.2.1.getD (((b1.set 0 state).set state.toNat 0).getD st2.2.2.toNat 0).toNat []).length : Int)), (66, .int .i64 st3.2)] [(2, .box 24 [.int .i64 s.1, .int .i64 s.2.1, .sl (.sl (.int .i64)) s.2.2.1, .sl (.sl (.int .i64)) s.2.2.2]), (4, .box 24 [.int .i64 0, .int .i64 0, .cv (.slice none 0 0), .cv (.slice none 0 0)]), (10, .box 24 [.int .i64 s.1, .int .i64 s.2.1, .own 83, .own 94]), (29, .arr 3 (.int .i64) ((b1.set 0 state).set state.toNat 0)), (59, .arr 3 (.int .i64) st3.1), (83, .arr 25 (.sl (.int .i64)) st2.1), (94, .arr 25 (.sl (.int .i64)) st2.2.1)] (by (simp only [go_sem, hb2, hb13, hb34]) <;> (repeat' with_reducible apply And.intro) <;> first | assumption | rfl | omega | (unfold maxLen; omega)) ?_
                refine athen_n ?_
                refine AW.ops ?_
                obtain ⟨c37, h⟩ := ck_some.1 h
                obtain ⟨c38, h⟩ := ck_some.1 h
                obtain ⟨c39, h⟩ := ck_some.1 h
                obtain ⟨c40, h⟩ := ck_some.1 h
                refine AO.allF tab_ok (by decide) [(2, .bp 2 0), (4, .bp 4 0), (8, .own 29), (10, .bp 10 0), (12, .int .i64 (((b1.set 0 state).set state.toNat 0).getD st2.2.2.toNat 0)), (13, .own 59), (51, .own 29), (52, .int .i64 (((b1.set 0 state).set state.toNat 0).length : Int)), (53, .int .i64 st2.2.2), (64, .sl (.int .i64) (s.2.2.1.getD (((b1.set 0 state).set state.toNat 0).getD st2.2.2.toNat 0).toNat [])), (65, .int .i64 ((s.2.2.1.getD (((b1.set 0 state).set state.toNat 0).getD st2.2.2.toNat 0).toNat []).length : Int)), (66, .int .i64 st3.2)] [(2, .box 24 [.int .i64 s.1, .int .i64 s.2.1, .sl (.sl (.int .i64)) s.2.2.1, .sl (.sl (.int .i64)) s.2.2.2]), (4, .box 24 [.int .i64 0, .int .i64 0, .cv (.slice none 0 0), .cv (.slice none 0 0)]), (10, .box 24 [.int .i64 s.1, .int .i64 s.2.1, .own 83, .own 94]), (29, .arr 3 (.int .i64) ((b1.set 0 state).set state.toNat 0)), (59, .arr 3 (.int .i64) (st3.1.set st3.2.toNat (((b1.set 0 state).set state.toNat 0).getD ((s.2.2.1.getD (((b1.set 0 state).set state.toNat 0).getD st2.2.2.toNat 0).toNat []).getD st3.2.toNat 0).toNat 0))), (83, .arr 25 (.sl (.int .i64)) st2.1), (94, .arr 25 (.sl (.int .i64)) st2.2.1)] (by (simp only [go_sem, hb2, hb13, hb34]) <;> (repeat' with_reducible apply And.intro) <;> first | assumption | rfl | omega | (unfold maxLen; omega)) ?_
                refine ablock_n ?_
                refine athen_n ?_
                refine AW.ops ?_
                obtain ⟨c41, h⟩ := ck_some.1 h
                refine AO.allF tab_ok (by decide) [(2, .bp 2 0), (4, .bp 4 0), (8, .own 29), (10, .bp 10 0), (12, .int .i64 (((b1.set 0 state).set state.toNat 0).getD st2.2.2.toNat 0)), (13, .own 59), (51, .own 29), (52, .int .i64 (((b1.set 0 state).set state.toNat 0).length : Int)), (53, .int .i64 st2.2.2), (64, .sl (.int .i64) (s.2.2.1.getD (((b1.set 0 state).set state.toNat 0).getD st2.2.2.toNat 0).toNat [])), (65, .int .i64 ((s.2.2.1.getD (((b1.set 0 state).set state.toNat 0).getD st2.2.2.toNat 0).toNat []).length : Int)), (66, .int .i64 (st3.2 + 1))] [(2, .box 24 [.int .i64 s.1, .int .i64 s.2.1, .sl (.sl (.int .i64)) s.2.2.1, .sl (.sl (.int .i64)) s.2.2.2]), (4, .box 24 [.int .i64 0, .int .i64 0, .cv (.slice none 0 0), .cv (.slice none 0 0)]), (10, .box 24 [.int .i64 s.1, .int .i64 s.2.1, .own 83, .own 94]), (29, .arr 3 (.int .i64) ((b1.set 0 state).set state.toNat 0)), (59, .arr 3 (.int .i64) (st3.1.set st3.2.toNat (((b1.set 0 state).set state.toNat 0).getD ((s.2.2.1.getD (((b1.set 0 state).set state.toNat 0).getD st2.2.2.toNat 0).toNat []).getD st3.2.toNat 0).toNat 0))), (83, .arr 25 (.sl (.int .i64)) st2.1), (94, .arr 25 (.sl (.int .i64)) st2.2.1)] (by (simp only [go_sem, hb2, hb13, hb34]) <;> (repeat' with_reducible apply And.intro) <;> first | assumption | rfl | omega | (unfold maxLen; omega)) ?_
                obtain rfl := Option.some.inj h
                exact ⟨_, rfl, Wk.le [] [] [] rfl (by (simp only [go_sem, hb2, hb13, hb34]) <;> (repeat' with_reducible apply And.intro) <;> first | assumption | rfl | omega | (unfold maxLen; omega)) (by (simp only [go_sem, hb2, hb13, hb34]) <;> (repeat' with_reducible apply And.intro) <;> first | assumption | rfl | omega | (unfold maxLen; omega))⟩
              · rw [if_neg (Bool.eq_false_iff.1 hb34)] at h
                refine AW.exit ?_
                refine athen_e ?_
                obtain rfl := Option.some.inj h
                rw [← hd31 _ rfl] at ho30
                have h := ho30
                refine athen_e ?_
                refine ablock_s ?_
                refine athen_n ?_
                exact AW.weaken (Wk.le [] [] [] rfl (by (simp only [go_sem, hb2, hb13, hb34]) <;> (repeat' with_reducible apply And.intro) <;> first | assumption | rfl | omega | (unfold maxLen; omega)) (by (simp only [go_sem, hb2, hb13, hb34]) <;> (repeat' with_reducible apply And.intro) <;> first | assumption | rfl | omega | (unfold maxLen; omega))) (hk_spec_Begun_k4 _ h)
        · rw [if_neg (Bool.eq_false_iff.1 hb13)] at h
          refine AW.exit ?_
          refine athen_e ?_
          obtain rfl := Option.some.inj h
          rw [← hd10 _ rfl] at ho9
          have h := ho9
          refine athen_e ?_
          refine ablock_s ?_
          refine athen_n ?_
          exact AW.weaken (Wk.le [] [] [] rfl (by (simp only [go_sem, hb2, hb13]) <;> (repeat' with_reducible apply And.intro) <;> first | assumption | rfl | omega | (unfold maxLen; omega)) (by (simp only [go_sem, hb2, hb13]) <;> (repeat' with_reducible apply And.intro) <;> first | assumption | rfl | omega | (unfold maxLen; omega))) (hk_spec_Begun_k2 _ h)
    · refine AW.seq ?_
      refine AW.seq ?_
      refine AW.ops ?_
      refine AO.allF tab_ok (by decide) [(1, .int .i64 state), (2, .bp 2 0), (4, .bp 4 0), (8, .own 29), (31, .int .i64 ((List.replicate s.1.toNat (0 : Int)).length : Int)), (32, .int .i64 0)] [(2, .box 24 [.int .i64 s.1, .int .i64 s.2.1, .sl (.sl (.int .i64)) s.2.2.1, .sl (.sl (.int .i64)) s.2.2.2]), (4, .box 24 [.int .i64 0, .int .i64 0, .cv (.slice none 0 0), .cv (.slice none 0 0)]), (29, .arr 3 (.int .i64) (List.replicate s.1.toNat (0 : Int)))] (by (simp only [go_sem, hb2]) <;> (repeat' with_reducible apply And.intro) <;> first | assumption | rfl | omega | (unfold maxLen; omega)) ?_
      refine athen_n ?_
      refine AW.block ?_
      obtain ⟨rv46, hw42, ho43⟩ := Option.bind_eq_some_iff.1 h
      refine AW.loopO (spec_Begun_b1 s) (fun st1 => ⟨fr [(1, .int .i64 state), (2, .bp 2 0), (4, .bp 4 0), (8, .own 29), (31, .int .i64 ((List.replicate s.1.toNat (0 : Int)).length : Int)), (32, .int .i64 st1.2)], hpGet [(2, .box 24 [.int .i64 s.1, .int .i64 s.2.1, .sl (.sl (.int .i64)) s.2.2.1, .sl (.sl (.int .i64)) s.2.2.2]), (4, .box 24 [.int .i64 0, .int .i64 0, .cv (.slice none 0 0), .cv (.slice none 0 0)]), (29, .arr 3 (.int .i64) st1.1)], gt⟩) ((List.replicate s.1.toNat (0 : Int)), 0) hw42 (Wk.le [] [] [] rfl (by (simp only [go_sem, hb2]) <;> (repeat' with_reducible apply And.intro) <;> first | assumption | rfl | omega | (unfold maxLen; omega)) (by (simp only [go_sem, hb2]) <;> (repeat' with_reducible apply And.intro) <;> first | assumption | rfl | omega | (unfold maxLen; omega))) ?_
      intro st1 x45 h hd44
      unfold spec_Begun_b1 at h
      refine AW.seq ?_
      refine AW.ops ?_
      refine AO.allF tab_ok (by decide) [(1, .int .i64 state), (2, .bp 2 0), (4, .bp 4 0), (8, .own 29), (31, .int .i64 ((List.replicate s.1.toNat (0 : Int)).length : Int)), (32, .int .i64 st1.2), (33, .bool (decide (st1.2 < ((List.replicate s.1.toNat (0 : Int)).length : Int))))] [(2, .box 24 [.int .i64 s.1, .int .i64 s.2.1, .sl (.sl (.int .i64)) s.2.2.1, .sl (.sl (.int .i64)) s.2.2.2]), (4, .box 24 [.int .i64 0, .int .i64 0, .cv (.slice none 0 0), .cv (.slice none 0 0)]), (29, .arr 3 (.int .i64) st1.1)] (by (simp only [go_sem, hb2]) <;> (repeat' with_reducible apply And.intro) <;> first | assumption | rfl | omega | (unfold maxLen; omega)) ?_
      refine athen_n ?_
      refine AW.seq ?_
      refine AW.cond (b := (decide (st1.2 < ((List.replicate s.1.toNat (0 : Int)).length : Int)))) rfl (fun hb47 => ?_) (fun hb47 => ?_)
      · rw [if_pos hb47] at h
        refine AW.skip ?_
        refine athen_n ?_
        refine AW.seq ?_
        refine AW.block ?_
        refine AW.seq ?_
        refine AW.ops ?_
        refine AO.allF tab_ok (by decide) [(1, .int .i64 state), (2, .bp 2 0), (4, .bp 4 0), (8, .own 29), (9, .int .i64 st1.2), (31, .int .i64 ((List.replicate s.1.toNat (0 : Int)).length : Int)), (32, .int .i64 st1.2)] [(2, .box 24 [.int .i64 s.1, .int .i64 s.2.1, .sl (.sl (.int .i64)) s.2.2.1, .sl (.sl (.int .i64)) s.2.2.2]), (4, .box 24 [.int .i64 0, .int .i64 0, .cv (.slice none 0 0), .cv (.slice none 0 0)]), (29, .arr 3 (.int .i64) st1.1)] (by (simp only [go_sem, hb2, hb47]) <;> (repeat' with_reducible apply And.intro) <;> first | assumption | rfl | omega | (unfold maxLen; omega)) ?_
        refine athen_n ?_
        refine AW.ops ?_
        obtain ⟨c48, h⟩ := ck_some.1 h
        obtain ⟨c49, h⟩ := ck_some.1 h
        refine AO.allF tab_ok (by decide) [(1, .int .i64 state), (2, .bp 2 0), (4, .bp 4 0), (8, .own 29), (31, .int .i64 ((List.replicate s.1.toNat (0 : Int)).length : Int)), (32, .int .i64 st1.2)] [(2, .box 24 [.int .i64 s.1, .int .i64 s.2.1, .sl (.sl (.int .i64)) s.2.2.1, .sl (.sl (.int .i64)) s.2.2.2]), (4, .box 24 [.int .i64 0, .int .i64 0, .cv (.slice none 0 0), .cv (.slice none 0 0)]), (29, .arr 3 (.int .i64) (st1.1.set st1.2.toNat st1.2))] (by (simp only [go_sem, hb2, hb47]) <;> (repeat' with_reducible apply And.intro) <;> first | assumption | rfl | omega | (unfold maxLen; omega)) ?_
        refine ablock_n ?_
        refine athen_n ?_
        refine AW.ops ?_
        obtain ⟨c50, h⟩ := ck_some.1 h
        refine AO.allF tab_ok (by decide) [(1, .int .i64 state), (2, .bp 2 0), (4, .bp 4 0), (8, .own 29), (31, .int .i64 ((List.replicate s.1.toNat (0 : Int)).length : Int)), (32, .int .i64 (st1.2 + 1))] [(2, .box 24 [.int .i64 s.1, .int .i64 s.2.1, .sl (.sl (.int .i64)) s.2.2.1, .sl (.sl (.int .i64)) s.2.2.2]), (4, .box 24 [.int .i64 0, .int .i64 0, .cv (.slice none 0 0), .cv (.slice none 0 0)]), (29, .arr 3 (.int .i64) (st1.1.set st1.2.toNat st1.2))] (by (simp only [go_sem, hb2, hb47]) <;> (repeat' with_reducible apply And.intro) <;> first | assumption | rfl | omega | (unfold maxLen; omega)) ?_
        obtain rfl := Option.some.inj h
        exact ⟨_, rfl, Wk.le [] [] [] rfl (by (simp only [go_sem, hb2, hb47]) <;> (repeat' with_reducible apply And.intro) <;> first | assumption | rfl | omega | (unfold maxLen; omega)) (by (simp only [go_sem, hb2, hb47]) <;> (repeat' with_reducible apply And.intro) <;> first | assumption | rfl | omega | (unfold maxLen; omega))⟩
      · rw [if_neg (Bool.eq_false_iff.1 hb47)] at h
        refine AW.exit ?_
        refine athen_e ?_
        obtain rfl := Option.some.inj h
        rw [← hd44 _ rfl] at ho43
        have h := ho43
        refine athen_e ?_
        refine ablock_s ?_
        refine athen_n ?_
        exact AW.weaken (Wk.le [] [] [] rfl (by (simp only [go_sem, hb2, hb47]) <;> (repeat' with_reducible apply And.intro) <;> first | assumption | rfl | omega | (unfold maxLen; omega)) (by (simp only [go_sem, hb2, hb47]) <;> (repeat' with_reducible apply And.intro) <;> first | assumption | rfl | omega | (unfold maxLen; omega))) (hk_spec_Begun_k1 _ h)

set_option maxRecDepth 100000 in
set_option maxHeartbeats 2000000 in
theorem hc_linealref01_isTable (s : Int × Int × (List (List Int)) × (List (List Int))) (l : List (List Int)) (limit : Int) {r : Bool} (h : linealref01_isTable s l limit = some r) : HC Try.prog 65 [] [.agg [.int .i64 s.1, .int .i64 s.2.1, .sl (.sl (.int .i64)) s.2.2.1, .sl (.sl (.int .i64)) s.2.2.2], .sl (.sl (.int .i64)) l, .int .i64 limit] [] (.bool r) := by
  unfold linealref01_isTable at h
  refine HC.of_body tab_ok (res := [.tmp 6]) Try.func65 rfl (by kernel_rfl) rfl (nt := 42) rfl (by decide) (by simp) ?_
  refine AW.seq ?_
  refine AW.ops ?_
  refine AO.allF tab_ok (by decide) [(1, .sl (.sl (.int .i64)) l), (2, .int .i64 limit), (3, .bp 3 0)] [(3, .box 24 [.int .i64 s.1, .int .i64 s.2.1, .sl (.sl (.int .i64)) s.2.2.1, .sl (.sl (.int .i64)) s.2.2.2])] (by (simp only [go_sem]) <;> (repeat' with_reducible apply And.intro) <;> first | assumption | rfl | omega | (unfold maxLen; omega)) ?_
  refine athen_n ?_
  refine AW.seq ?_
  refine AW.seq ?_
  refine AW.ops ?_
  refine AO.allF tab_ok (by decide) [(1, .sl (.sl (.int .i64)) l), (2, .int .i64 limit), (3, .bp 3 0), (15, .bool (!(decide ((l.length : Int) = s.1))))] [(3, .box 24 [.int .i64 s.1, .int .i64 s.2.1, .sl (.sl (.int .i64)) s.2.2.1, .sl (.sl (.int .i64)) s.2.2.2])] (by (simp only [go_sem]) <;> (repeat' with_reducible apply And.intro) <;> first | assumption | rfl | omega | (unfold maxLen; omega)) ?_
  refine athen_n ?_
  refine AW.cond (b := (!(decide ((l.length : Int) = s.1)))) rfl (fun hb1 => ?_) (fun hb1 => ?_)
  · rw [if_pos hb1] at h
    refine AW.seq ?_
    refine AW.ops ?_
    refine AO.allF tab_ok (by decide) [(6, .bool false)] [] (by (simp only [go_sem, hb1]) <;> (repeat' with_reducible apply And.intro) <;> first | assumption | rfl | omega | (unfold maxLen; omega)) ?_
    refine athen_n ?_
    refine AW.ret ?_
    refine athen_r ?_
    obtain rfl := Option.some.inj h
    exact ⟨rfl, [], [], [], rfl, (by (simp only [go_sem, hb1]) <;> (repeat' with_reducible apply And.intro) <;> first | assumption | rfl | omega | (unfold maxLen; omega))⟩
  · rw [if_neg (Bool.eq_false_iff.1 hb1)] at h
    refine AW.skip ?_
    refine athen_n ?_
    refine AW.have1 (fun _ : Unit => linealref01_isTable_k1 = some r) (fun _ => ⟨fr [], hpGet [], gt⟩) (fun _ h => ?_) (fun hk_linealref01_isTable_k1 => ?_)
    · unfold linealref01_isTable_k1 at h
      refine AW.seq ?_
      refine AW.ops ?_
      refine AO.allF tab_ok (by decide) [(6, .bool true)] [] (by (simp only [go_sem, hb1]) <;> (repeat' with_reducible apply And.intro) <;> first | assumption | rfl | omega | (unfold maxLen; omega)) ?_
      refine athen_n ?_
      refine AW.ret ?_
      obtain rfl := Option.some.inj h
      exact ⟨rfl, [], [], [], rfl, (by (simp only [go_sem, hb1]) <;> (repeat' with_reducible apply And.intro) <;> first | assumption | rfl | omega | (unfold maxLen; omega))⟩
    · refine AW.seq ?_
      refine AW.seq ?_
      refine AW.ops ?_
      refine AO.allF tab_ok (by decide) [(2, .int .i64 limit), (3, .bp 3 0), (16, .sl (.sl (.int .i64)) l), (17, .int .i64 (l.length : Int)), (18, .int .i64 0)] [(3, .box 24 [.int .i64 s.1, .int .i64 s.2.1, .sl (.sl (.int .i64)) s.2.2.1, .sl (.sl (.int .i64)) s.2.2.2])] (by (simp only [go_sem, hb1]) <;> (repeat' with_reducible apply And.intro) <;> first | assumption | rfl | omega | (unfold maxLen; omega)) ?_
      refine athen_n ?_
      refine AW.block ?_
      obtain ⟨rv6, hw2, ho3⟩ := Option.bind_eq_some_iff.1 h
      refine AW.loopO (linealref01_isTable_b1 s l limit) (fun st1 => ⟨fr [(2, .int .i64 limit), (3, .bp 3 0), (16, .sl (.sl (.int .i64)) l), (17, .int .i64 (l.length : Int)), (18, .int .i64 st1)], hpGet [(3, .box 24 [.int .i64 s.1, .int .i64 s.2.1, .sl (.sl (.int .i64)) s.2.2.1, .sl (.sl (.int .i64)) s.2.2.2])], gt⟩) 0 hw2 (Wk.le [] [] [] rfl (by (simp only [go_sem, hb1]) <;> (repeat' with_reducible apply And.intro) <;> first | assumption | rfl | omega | (unfold maxLen; omega)) (by (simp only [go_sem, hb1]) <;> (repeat' with_reducible apply And.intro) <;> first | assumption | rfl | omega | (unfold maxLen; omega))) ?_
      intro st1 x5 h hd4
      unfold linealref01_isTable_b1 at h
      refine AW.seq ?_
      refine AW.ops ?_
      refine AO.allF tab_ok (by decide) [(2, .int .i64 limit), (3, .bp 3 0), (16, .sl (.sl (.int .i64)) l), (17, .int .i64 (l.length : Int)), (18, .int .i64 st1), (19, .bool (decide (st1 < (l.length : Int))))] [(3, .box 24 [.int .i64 s.1, .int .i64 s.2.1, .sl (.sl (.int .i64)) s.2.2.1, .sl (.sl (.int .i64)) s.2.2.2])] (by (simp only [go_sem, hb1]) <;> (repeat' with_reducible apply And.intro) <;> first | assumption | rfl | omega | (unfold maxLen; omega)) ?_
      refine athen_n ?_
      refine AW.seq ?_
      refine AW.cond (b := (decide (st1 < (l.length : Int)))) rfl (fun hb7 => ?_) (fun hb7 => ?_)
      · rw [if_pos hb7] at h
        refine AW.skip ?_
        refine athen_n ?_
        refine AW.have1 (fun _ : Unit => linealref01_isTable_k2 st1 = some x5) (fun _ => ⟨fr [(2, .int .i64 limit), (3, .bp 3 0), (16, .sl (.sl (.int .i64)) l), (17, .int .i64 (l.length : Int)), (18, .int .i64 st1)], hpGet [(3, .box 24 [.int .i64 s.1, .int .i64 s.2.1, .sl (.sl (.int .i64)) s.2.2.1, .sl (.sl (.int .i64)) s.2.2.2])], gt⟩) (fun _ h => ?_) (fun hk_linealref01_isTable_k2 => ?_)
        · unfold linealref01_isTable_k2 at h
          refine AW.ops ?_
          obtain ⟨c8, h⟩ := ck_some.1 h
          refine AO.allF tab_ok (by decide) [(2, .int .i64 limit), (3, .bp 3 0), (16, .sl (.sl (.int .i64)) l), (17, .int .i64 (l.length : Int)), (18, .int .i64 (st1 + 1))] [(3, .box 24 [.int .i64 s.1, .int .i64 s.2.1, .sl (.sl (.int .i64)) s.2.2.1, .sl (.sl (.int .i64)) s.2.2.2])] (by (simp only [go_sem, hb1, hb7]) <;> (repeat' with_reducible apply And.intro) <;> first | assumption | rfl | omega | (unfold maxLen; omega)) ?_
          obtain rfl := Option.some.inj h
          exact ⟨_, rfl, Wk.le [] [] [] rfl (by (simp only [go_sem, hb1, hb7]) <;> (repeat' with_reducible apply And.intro) <;> first | assumption | rfl | omega | (unfold maxLen; omega)) (by (simp only [go_sem, hb1, hb7]) <;> (repeat' with_reducible apply And.intro) <;> first | assumption | rfl | omega | (unfold maxLen; omega))⟩
        · refine AW.seq ?_
          refine AW.block ?_
          refine AW.seq ?_
          refine AW.ops ?_
          obtain ⟨c9, h⟩ := ck_some.1 h
          obtain ⟨c10, h⟩ := ck_some.1 h
          refine AO.allF tab_ok (by decide) [(2, .int .i64 limit), (3, .bp 3 0), (8, .sl (.int .i64) (l.getD st1.toNat [])), (16, .sl (.sl (.int .i64)) l), (17, .int .i64 (l.length : Int)), (18, .int .i64 st1)] [(3, .box 24 [.int .i64 s.1, .int .i64 s.2.1, .sl (.sl (.int .i64)) s.2.2.1, .sl (.sl (.int .i64)) s.2.2.2])] (by (simp only [go_sem, hb1, hb7]) <;> (repeat' with_reducible apply And.intro) <;> first | assumption | rfl | omega | (unfold maxLen; omega)) ?_
          refine athen_n ?_
          refine AW.seq ?_
          refine AW.seq ?_
          refine AW.ops ?_
          refine AO.allF tab_ok (by decide) [(2, .int .i64 limit), (3, .bp 3 0), (8, .sl (.int .i64) (l.getD st1.toNat [])), (16, .sl (.sl (.int .i64)) l), (17, .int .i64 (l.length : Int)), (18, .int .i64 st1), (26, .bool (!(decide (((l.getD st1.toNat []).length : Int) = s.2.1))))] [(3, .box 24 [.int .i64 s.1, .int .i64 s.2.1, .sl (.sl (.int .i64)) s.2.2.1, .sl (.sl (.int .i64)) s.2.2.2])] (by (simp only [go_sem, hb1, hb7]) <;> (repeat' with_reducible apply And.intro) <;> first | assumption | rfl | omega | (unfold maxLen; omega)) ?_
          refine athen_n ?_
          refine AW.cond (b := (!(decide (((l.getD st1.toNat []).length : Int) = s.2.1)))) rfl (fun hb11 => ?_) (fun hb11 => ?_)
          · rw [if_pos hb11] at h
            refine AW.seq ?_
            refine AW.ops ?_
            refine AO.allF tab_ok (by decide) [(6, .bool false)] [] (by (simp only [go_sem, hb1, hb7, hb11]) <;> (repeat' with_reducible apply And.intro) <;> first | assumption | rfl | omega | (unfold maxLen; omega)) ?_
            refine athen_n ?_
            refine AW.ret ?_
            refine athen_r ?_
            refine ablock_r ?_
            refine athen_r ?_
            obtain rfl := Option.some.inj h
            rw [← hd4 _ rfl] at ho3
            have h := ho3
            try simp only at h
            refine athen_r ?_
            refine ablock_r ?_
            refine athen_r ?_
            obtain rfl := Option.some.inj h
            exact ⟨rfl, [], [], [], rfl, (by (simp only [go_sem, hb1, hb7, hb11]) <;> (repeat' with_reducible apply And.intro) <;> first | assumption | rfl | omega | (unfold maxLen; omega))⟩
          · rw [if_neg (Bool.eq_false_iff.1 hb11)] at h
            refine AW.skip ?_
            refine athen_n ?_
            refine AW.seq ?_
            refine AW.ops ?_
            refine AO.allF tab_ok (by decide) [(2, .int .i64 limit), (3, .bp 3 0), (16, .sl (.sl (.int .i64)) l), (17, .int .i64 (l.length : Int)), (18, .int .i64 st1), (27, .sl (.int .i64) (l.getD st1.toNat [])), (28, .int .i64 ((l.getD st1.toNat []).length : Int)), (29, .int .i64 0)] [(3, .box 24 [.int .i64 s.1, .int .i64 s.2.1, .sl (.sl (.int .i64)) s.2.2.1, .sl (.sl (.int .i64)) s.2.2.2])] (by (simp only [go_sem, hb1, hb7, hb11]) <;> (repeat' with_reducible apply And.intro) <;> first | assumption | rfl | omega | (unfold maxLen; omega)) ?_
            refine athen_n ?_
            refine AW.block ?_
            obtain ⟨rv16, hw12, ho13⟩ := Option.bind_eq_some_iff.1 h
            refine AW.loopO (linealref01_isTable_b2 l limit st1) (fun st2 => ⟨fr [(2, .int .i64 limit), (3, .bp 3 0), (16, .sl (.sl (.int .i64)) l), (17, .int .i64 (l.length : Int)), (18, .int .i64 st1), (27, .sl (.int .i64) (l.getD st1.toNat [])), (28, .int .i64 ((l.getD st1.toNat []).length : Int)), (29, .int .i64 st2)], hpGet [(3, .box 24 [.int .i64 s.1, .int .i64 s.2.1, .sl (.sl (.int .i64)) s.2.2.1, .sl (.sl (.int .i64)) s.2.2.2])], gt⟩) 0 hw12 (Wk.le [] [] [] rfl (by (simp only [go_sem, hb1, hb7, hb11]) <;> (repeat' with_reducible apply And.intro) <;> first | assumption | rfl | omega | (unfold maxLen; omega)) (by (simp only [go_sem, hb1, hb7, hb11]) <;> (repeat' with_reducible apply And.intro) <;> first | assumption | rfl | omega | (unfold maxLen; omega))) ?_
            intro st2 x15 h hd14
            unfold linealref01_isTable_b2 at h
            refine AW.seq ?_
            refine AW.ops ?_
            refine AO.allF tab_ok (by decide) [(2, .int .i64 limit), (3, .bp 3 0), (16, .sl (.sl (.int .i64)) l), (17, .int .i64 (l.length : Int)), (18, .int .i64 st1), (27, .sl (.int .i64) (l.getD st1.toNat [])), (28, .int .i64 ((l.getD st1.toNat []).length : Int)), (29, .int .i64 st2), (30, .bool (decide (st2 < ((l.getD st1.toNat []).length : Int))))] [(3, .box 24 [.int .i64 s.1, .int .i64 s.2.1, .sl (.sl (.int .i64)) s.2.2.1, .sl (.sl (.int .i64)) s.2.2.2])] (by (simp only [go_sem, hb1, hb7, hb11]) <;> (repeat' with_reducible apply And.intro) <;> first | assumption | rfl | omega | (unfold maxLen; omega)) ?_
            refine athen_n ?_
            refine AW.seq ?_
            refine AW.cond (b := (decide (st2 < ((l.getD st1.toNat []).length : Int)))) rfl (fun hb17 => ?_) (fun hb17 => ?_)
            · rw [if_pos hb17] at h
              refine AW.skip ?_
              refine athen_n ?_
              refine AW.seq ?_
              refine AW.block ?_
              refine AW.seq ?_
              refine AW.ops ?_
              obtain ⟨c18, h⟩ := ck_some.1 h
              obtain ⟨c19, h⟩ := ck_some.1 h
              refine AO.allF tab_ok (by decide) [(2, .int .i64 limit), (3, .bp 3 0), (10, .int .i64 ((l.getD st1.toNat []).getD st2.toNat 0)), (16, .sl (.sl (.int .i64)) l), (17, .int .i64 (l.length : Int)), (18, .int .i64 st1), (27, .sl (.int .i64) (l.getD st1.toNat [])), (28, .int .i64 ((l.getD st1.toNat []).length : Int)), (29, .int .i64 st2)] [(3, .box 24 [.int .i64 s.1, .int .i64 s.2.1, .sl (.sl (.int .i64)) s.2.2.1, .sl (.sl (.int .i64)) s.2.2.2])] (by (simp only [go_sem, hb1, hb7, hb11, hb17]) <;> (repeat' with_reducible apply And.intro) <;> first | assumption | rfl | omega | (unfold maxLen; omega)) ?_
              refine athen_n ?_
              refine AW.seq ?_
              refine AW.ops ?_
              refine AO.segF tab_ok 3 (by decide) [(2, .int .i64 limit), (3, .bp 3 0), (10, .int .i64 ((l.getD st1.toNat []).getD st2.toNat 0)), (16, .sl (.sl (.int .i64)) l), (17, .int .i64 (l.length : Int)), (18, .int .i64 st1), (27, .sl (.int .i64) (l.getD st1.toNat [])), (28, .int .i64 ((l.getD st1.toNat []).length : Int)), (29, .int .i64 st2), (35, .bool (decide (((l.getD st1.toNat []).getD st2.toNat 0) < 0)))] [(3, .box 24 [.int .i64 s.1, .int .i64 s.2.1, .sl (.sl (.int .i64)) s.2.2.1, .sl (.sl (.int .i64)) s.2.2.2])] (by (simp only [go_sem, hb1, hb7, hb11, hb17]) <;> (repeat' with_reducible apply And.intro) <;> first | assumption | rfl | omega | (unfold maxLen; omega)) ?_
              rcases Bool.eq_false_or_eq_true (decide (((l.getD st1.toNat []).getD st2.toNat 0) < 0)) with hb20 | hb20
              · rw [if_pos hb20] at h
                refine AO.weaken (s' := ⟨fr [(2, .int .i64 limit), (3, .bp 3 0), (10, .int .i64 ((l.getD st1.toNat []).getD st2.toNat 0)), (16, .sl (.sl (.int .i64)) l), (17, .int .i64 (l.length : Int)), (18, .int .i64 st1), (27, .sl (.int .i64) (l.getD st1.toNat [])), (28, .int .i64 ((l.getD st1.toNat []).length : Int)), (29, .int .i64 st2), (35, .bool true)], hpGet [(3, .box 24 [.int .i64 s.1, .int .i64 s.2.1, .sl (.sl (.int .i64)) s.2.2.1, .sl (.sl (.int .i64)) s.2.2.2])], gt⟩) (Wk.to (by (simp only [go_sem, hb1, hb7, hb11, hb17, hb20]) <;> (repeat' with_reducible apply And.intro) <;> first | assumption | rfl | omega | (unfold maxLen; omega))) ?_
                refine AO.allF tab_ok (by decide) [(2, .int .i64 limit), (3, .bp 3 0), (16, .sl (.sl (.int .i64)) l), (17, .int .i64 (l.length : Int)), (18, .int .i64 st1), (27, .sl (.int .i64) (l.getD st1.toNat [])), (28, .int .i64 ((l.getD st1.toNat []).length : Int)), (29, .int .i64 st2), (39, .bool true)] [(3, .box 24 [.int .i64 s.1, .int .i64 s.2.1, .sl (.sl (.int .i64)) s.2.2.1, .sl (.sl (.int .i64)) s.2.2.2])] (by (simp only [go_sem, hb1, hb7, hb11, hb17, hb20]) <;> (repeat' with_reducible apply And.intro) <;> first | assumption | rfl | omega | (unfold maxLen; omega)) ?_
                refine athen_n ?_
                refine AW.cond (b := true) rfl (fun _ => ?_) (fun hb21 => by cases hb21)
                refine AW.seq ?_
                refine AW.ops ?_
                refine AO.allF tab_ok (by decide) [(6, .bool false)] [] (by (simp only [go_sem, hb1, hb7, hb11, hb17, hb20]) <;> (repeat' with_reducible apply And.intro) <;> first | assumption | rfl | omega | (unfold maxLen; omega)) ?_
                refine athen_n ?_
                refine AW.ret ?_
                refine ablock_r ?_
                refine athen_r ?_
                obtain rfl := Option.some.inj h
                rw [← hd14 _ rfl] at ho13
                have h := ho13
                try simp only at h
                refine athen_r ?_
                refine ablock_r ?_
                refine ablock_r ?_
                refine athen_r ?_
                obtain rfl := Option.some.inj h
                rw [← hd4 _ rfl] at ho3
                have h := ho3
                try simp only at h
                refine athen_r ?_
                refine ablock_r ?_
                refine athen_r ?_
                obtain rfl := Option.some.inj h
                exact ⟨rfl, [], [], [], rfl, (by (simp only [go_sem, hb1, hb7, hb11, hb17, hb20]) <;> (repeat' with_reducible apply And.intro) <;> first | assumption | rfl | omega | (unfold maxLen; omega))⟩
              · rw [if_neg (Bool.eq_false_iff.1 hb20)] at h
                refine AO.weaken (s' := ⟨fr [(2, .int .i64 limit), (3, .bp 3 0), (10, .int .i64 ((l.getD st1.toNat []).getD st2.toNat 0)), (16, .sl (.sl (.int .i64)) l), (17, .int .i64 (l.length : Int)), (18, .int .i64 st1), (27, .sl (.int .i64) (l.getD st1.toNat [])), (28, .int .i64 ((l.getD st1.toNat []).length : Int)), (29, .int .i64 st2), (35, .bool false)], hpGet [(3, .box 24 [.int .i64 s.1, .int .i64 s.2.1, .sl (.sl (.int .i64)) s.2.2.1, .sl (.sl (.int .i64)) s.2.2.2])], gt⟩) (Wk.to (by (simp only [go_sem, hb1, hb7, hb11, hb17, hb20]) <;> (repeat' with_reducible apply And.intro) <;> first | assumption | rfl | omega | (unfold maxLen; omega))) ?_
                refine AO.allF tab_ok (by decide) [(2, .int .i64 limit), (3, .bp 3 0), (16, .sl (.sl (.int .i64)) l), (17, .int .i64 (l.length : Int)), (18, .int .i64 st1), (27, .sl (.int .i64) (l.getD st1.toNat [])), (28, .int .i64 ((l.getD st1.toNat []).length : Int)), (29, .int .i64 st2), (39, .bool (decide (limit ≤ ((l.getD st1.toNat []).getD st2.toNat 0))))] [(3, .box 24 [.int .i64 s.1, .int .i64 s.2.1, .sl (.sl (.int .i64)) s.2.2.1, .sl (.sl (.int .i64)) s.2.2.2])] (by (simp only [go_sem, hb1, hb7, hb11, hb17, hb20]) <;> (repeat' with_reducible apply And.intro) <;> first | assumption | rfl | omega | (unfold maxLen; omega)) ?_
                refine athen_n ?_
                refine AW.cond (b := (decide (limit ≤ ((l.getD st1.toNat []).getD st2.toNat 0)))) rfl (fun hb22 => ?_) (fun hb22 => ?_)
                · rw [if_pos hb22] at h
                  refine AW.seq ?_
                  refine AW.ops ?_
                  refine AO.allF tab_ok (by decide) [(6, .bool false)] [] (by (simp only [go_sem, hb1, hb7, hb11, hb17, hb20, hb22]) <;> (repeat' with_reducible apply And.intro) <;> first | assumption | rfl | omega | (unfold maxLen; omega)) ?_
                  refine athen_n ?_
                  refine AW.ret ?_
                  refine ablock_r ?_
                  refine athen_r ?_
                  obtain rfl := Option.some.inj h
                  rw [← hd14 _ rfl] at ho13
                  have h := ho13
                  try simp only at h
                  refine athen_r ?_
                  refine ablock_r ?_
                  refine ablock_r ?_
                  refine athen_r ?_
                  obtain rfl := Option.some.inj h
                  rw [← hd4 _ rfl] at ho3
                  have h := ho3
                  try simp only at h
                  refine athen_r ?_
                  refine ablock_r ?_
                  refine athen_r ?_
                  obtain rfl := Option.some.inj h
                  exact ⟨rfl, [], [], [], rfl, (by (simp only [go_sem, hb1, hb7, hb11, hb17, hb20, hb22]) <;> (repeat' with_reducible apply And.intro) <;> first | assumption | rfl | omega | (unfold maxLen; omega))⟩
                · rw [if_neg (Bool.eq_false_iff.1 hb22)] at h
                  refine AW.skip ?_
                  refine ablock_n ?_
                  refine athen_n ?_
                  refine AW.ops ?_
                  obtain ⟨c23, h⟩ := ck_some.1 h
                  refine AO.allF tab_ok (by decide) [(2, .int .i64 limit), (3, .bp 3 0), (16, .sl (.sl (.int .i64)) l), (17, .int .i64 (l.length : Int)), (18, .int .i64 st1), (27, .sl (.int .i64) (l.getD st1.toNat [])), (28, .int .i64 ((l.getD st1.toNat []).length : Int)), (29, .int .i64 (st2 + 1))] [(3, .box 24 [.int .i64 s.1, .int .i64 s.2.1, .sl (.sl (.int .i64)) s.2.2.1, .sl (.sl (.int .i64)) s.2.2.2])] (by (simp only [go_sem, hb1, hb7, hb11, hb17, hb20, hb22]) <;> (repeat' with_reducible apply And.intro) <;> first | assumption | rfl | omega | (unfold maxLen; omega)) ?_
                  obtain rfl := Option.some.inj h
                  exact ⟨_, rfl, Wk.le [] [] [] rfl (by (simp only [go_sem, hb1, hb7, hb11, hb17, hb20, hb22]) <;> (repeat' with_reducible apply And.intro) <;> first | assumption | rfl | omega | (unfold maxLen; omega)) (by (simp only [go_sem, hb1, hb7, hb11, hb17, hb20, hb22]) <;> (repeat' with_reducible apply And.intro) <;> first | assumption | rfl | omega | (unfold maxLen; omega))⟩
            · rw [if_neg (Bool.eq_false_iff.1 hb17)] at h
              refine AW.exit ?_
              refine athen_e ?_
              obtain rfl := Option.some.inj h
              rw [← hd14 _ rfl] at ho13
              have h := ho13
              try simp only at h
              refine athen_e ?_
              refine ablock_s ?_
              refine ablock_n ?_
              refine athen_n ?_
              exact AW.weaken (Wk.le [] [] [] rfl (by (simp only [go_sem, hb1, hb7, hb11, hb17]) <;> (repeat' with_reducible apply And.intro) <;> first | assumption | rfl | omega | (unfold maxLen; omega)) (by (simp only [go_sem, hb1, hb7, hb11, hb17]) <;> (repeat' with_reducible apply And.intro) <;> first | assumption | rfl | omega | (unfold maxLen; omega))) (hk_linealref01_isTable_k2 () h)
      · rw [if_neg (Bool.eq_false_iff.1 hb7)] at h
        refine AW.exit ?_
        refine athen_e ?_
        obtain rfl := Option.some.inj h
        rw [← hd4 _ rfl] at ho3
        have h := ho3
        try simp only at h
        refine athen_e ?_
        refine ablock_s ?_
        refine athen_n ?_
        exact AW.weaken (Wk.le [] [] [] rfl (by (simp only [go_sem, hb1, hb7]) <;> (repeat' with_reducible apply And.intro) <;> first | assumption | rfl | omega | (unfold maxLen; omega)) (by (simp only [go_sem, hb1, hb7]) <;> (repeat' with_reducible apply And.intro) <;> first | assumption | rfl | omega | (unfold maxLen; omega))) (hk_linealref01_isTable_k1 () h)

end Go.Proofs.Ytmcgmlcfogdioaa
