/-
  Made by wip/tool/dc.py out of the print of the program: contracts.
-/
import Derived.Test.YtdkdkpenmgkdcaaHp
import Derived.Test.YtdkdkpenmgkdcaaTbh
import Derived.Test.YtdkdkpenmgkdcaaKdc1
import Derived.Test.YtdkdkpenmgkdcaaKdc2
import Derived.Test.YtdkdkpenmgkdcaaKdc4
namespace Go.Proofs.Ytdkdkpenmgkdcaa
open Go.RowKit

set_option linter.unusedSimpArgs false
set_option linter.unusedVariables false
set_option linter.constructorNameAsVariable false

set_option maxRecDepth 100000 in
set_option maxHeartbeats 2000000 in
theorem hc_lineallaw02_Sane {r : Bool} (h : lineallaw02_Sane = some r) : HC Try.prog 19 [] [] [] (.bool r) := by
  unfold lineallaw02_Sane at h
  refine HC.of_body tab_ok (res := [.tmp 0]) Try.func19 rfl (by kernel_rfl) rfl (nt := 27) rfl (by decide) (by simp) ?_
  refine AW.seq ?_
  refine AW.ops ?_
  refine AO.allF tab_ok (by decide) [] [] (by (simp only [go_sem]) <;> (repeat' with_reducible apply And.intro) <;> first | assumption | rfl | omega | (unfold maxLen; omega)) ?_
  refine athen_n ?_
  refine AW.seq ?_
  refine AW.ops ?_
  refine AO.allF tab_ok (by decide) [(1, .bp 1 0)] [(1, .box 64 [.int .i64 2, .int .i64 2, .own 6, .own 9]), (6, .arr 33 (.sl (.int .i64)) [[1, 0], [1, 0]]), (9, .arr 33 (.sl (.int .i64)) [[1, 0], [0, 1]])] (by (simp only [go_sem]) <;> (repeat' with_reducible apply And.intro) <;> first | assumption | rfl | omega | (unfold maxLen; omega)) ?_
  refine athen_n ?_
  refine AW.seq ?_
  refine AW.ops ?_
  refine AO.segF tab_ok 5 (by decide) [(13, .own 13), (16, .own 16)] [(13, .arr 64 Y0 [(2, 2, [[1, 0], [1, 0]], [[1, 0], [0, 1]])]), (16, .arr 55 Y1 [(0, 0, 0, 1, 1, 6), (1, 0, 1, 0, 2, 5)])] (by (simp only [go_sem]) <;> (repeat' with_reducible apply And.intro) <;> first | assumption | rfl | omega | (unfold maxLen; omega)) ?_
  obtain ⟨v0, hv1, h⟩ := Option.bind_eq_some_iff.1 h
  refine AO.call tab_ok (by decide) rfl rfl rfl (fun _ h => h) [13, 16] [] (hc_history_Order [(2, 2, [[1, 0], [1, 0]], [[1, 0], [0, 1]])] [(0, 0, 0, 1, 1, 6), (1, 0, 1, 0, 2, 5)] hv1) rfl (by (simp only [go_sem]) <;> (repeat' with_reducible apply And.intro) <;> first | assumption | rfl | omega | (unfold maxLen; omega)) (by (simp only [go_sem]) <;> (repeat' with_reducible apply And.intro) <;> first | assumption | rfl | omega | (unfold maxLen; omega)) [(17, .tup [.own 27000, .int .i64 v0.2])] [(27000, .arr 3 (.int .i64) v0.1)] (by (simp only [go_sem]) <;> (repeat' with_reducible apply And.intro) <;> first | assumption | rfl | omega | (unfold maxLen; omega)) ?_
  refine AO.allF tab_ok (by decide) [(2, .own 27000), (3, .int .i64 v0.2)] [(27000, .arr 3 (.int .i64) v0.1)] (by (simp only [go_sem]) <;> (repeat' with_reducible apply And.intro) <;> first | assumption | rfl | omega | (unfold maxLen; omega)) ?_
  refine athen_n ?_
  refine AW.seq ?_
  refine AW.ops ?_
  refine AO.segF tab_ok 3 (by decide) [(2, .own 27000), (22, .bool (decide (v0.2 = 0)))] [(27000, .arr 3 (.int .i64) v0.1)] (by (simp only [go_sem]) <;> (repeat' with_reducible apply And.intro) <;> first | assumption | rfl | omega | (unfold maxLen; omega)) ?_
  rcases Bool.eq_false_or_eq_true (decide (v0.2 = 0)) with hb2 | hb2
  · rw [if_pos hb2] at h
    refine AO.weaken (s' := ⟨fr [(2, .own 27000), (22, .bool true)], hpGet [(27000, .arr 3 (.int .i64) v0.1)], gt⟩) (Wk.to (by (simp only [go_sem, hb2]) <;> (repeat' with_reducible apply And.intro) <;> first | assumption | rfl | omega | (unfold maxLen; omega))) ?_
    refine AO.segF tab_ok 2 (by decide) [(22, .bool true), (23, .own 27000), (24, .own 24)] [(24, .arr 3 (.int .i64) [1, 0]), (27000, .arr 3 (.int .i64) v0.1)] (by (simp only [go_sem, hb2]) <;> (repeat' with_reducible apply And.intro) <;> first | assumption | rfl | omega | (unfold maxLen; omega)) ?_
    obtain ⟨v0_2, hv3, h⟩ := Option.bind_eq_some_iff.1 h
    refine AO.call tab_ok (by decide) rfl rfl rfl (fun _ h => ⟨fun _ => h, fun hn => absurd rfl hn⟩) [24, 27000] [] (hc_linealref02_SameInts v0.1 [1, 0] hv3) rfl (by (simp only [go_sem, hb2]) <;> (repeat' with_reducible apply And.intro) <;> first | assumption | rfl | omega | (unfold maxLen; omega)) (by (simp only [go_sem, hb2]) <;> (repeat' with_reducible apply And.intro) <;> first | assumption | rfl | omega | (unfold maxLen; omega)) [(22, .bool true), (25, .bool v0_2)] [] (by (simp only [go_sem, hb2]) <;> (repeat' with_reducible apply And.intro) <;> first | assumption | rfl | omega | (unfold maxLen; omega)) ?_
    refine AO.allF tab_ok (by decide) [(0, .bool v0_2)] [] (by (simp only [go_sem, hb2]) <;> (repeat' with_reducible apply And.intro) <;> first | assumption | rfl | omega | (unfold maxLen; omega)) ?_
    refine athen_n ?_
    refine AW.ret ?_
    obtain rfl := Option.some.inj h
    exact ⟨rfl, [], [], [], rfl, (by (simp only [go_sem, hb2]) <;> (repeat' with_reducible apply And.intro) <;> first | assumption | rfl | omega | (unfold maxLen; omega))⟩
  · rw [if_neg (Bool.eq_false_iff.1 hb2)] at h
    refine AO.weaken (s' := ⟨fr [(2, .own 27000), (22, .bool false)], hpGet [(27000, .arr 3 (.int .i64) v0.1)], gt⟩) (Wk.to (by (simp only [go_sem, hb2]) <;> (repeat' with_reducible apply And.intro) <;> first | assumption | rfl | omega | (unfold maxLen; omega))) ?_
    refine AO.allF tab_ok (by decide) [(0, .bool false)] [] (by (simp only [go_sem, hb2]) <;> (repeat' with_reducible apply And.intro) <;> first | assumption | rfl | omega | (unfold maxLen; omega)) ?_
    refine athen_n ?_
    refine AW.ret ?_
    obtain rfl := Option.some.inj h
    exact ⟨rfl, [], [], [], rfl, (by (simp only [go_sem, hb2]) <;> (repeat' with_reducible apply And.intro) <;> first | assumption | rfl | omega | (unfold maxLen; omega))⟩

set_option maxRecDepth 100000 in
set_option maxHeartbeats 2000000 in
theorem hc_lineallaw02_Long (h0 : List (Int × Int × Int × Int × Int × Int)) {r : Unit} (h : lineallaw02_Long h0 = some r) : HC Try.prog 18 [] [.sl Y1 h0] [] (.bool (decide (40 < (h0.length : Int)))) := by
  unfold lineallaw02_Long at h
  refine HC.of_body tab_ok (res := [.tmp 2]) Try.func18 rfl (by kernel_rfl) rfl (nt := 6) rfl (by decide) (by simp) ?_
  refine AW.seq ?_
  refine AW.ops ?_
  refine AO.allF tab_ok (by decide) [(0, .sl Y1 h0)] [] (by (simp only [go_sem]) <;> (repeat' with_reducible apply And.intro) <;> first | assumption | rfl | omega | (unfold maxLen; omega)) ?_
  refine athen_n ?_
  refine AW.seq ?_
  refine AW.ops ?_
  refine AO.allF tab_ok (by decide) [(2, .bool (decide (40 < (h0.length : Int))))] [] (by (simp only [go_sem]) <;> (repeat' with_reducible apply And.intro) <;> first | assumption | rfl | omega | (unfold maxLen; omega)) ?_
  refine athen_n ?_
  refine AW.ret ?_
  obtain rfl := Option.some.inj h
  exact ⟨rfl, [], [], [], rfl, (by (simp only [go_sem]) <;> (repeat' with_reducible apply And.intro) <;> first | assumption | rfl | omega | (unfold maxLen; omega))⟩

set_option maxRecDepth 100000 in
set_option maxHeartbeats 2000000 in
theorem hc_history_check (h0 : List (Int × Int × Int × Int × Int × Int)) (arguments : Bool) {r : Int} (h : history_check h0 arguments = some r) : HC Try.prog 65 [] [.sl Y1 h0, .bool arguments] [] (.int .i64 r) := by
  unfold history_check at h
  refine HC.of_body tab_ok (res := [.tmp 4]) Try.func65 rfl (by kernel_rfl) rfl (nt := 10) rfl (by decide) (by simp) ?_
  refine AW.seq ?_
  refine AW.ops ?_
  refine AO.allF tab_ok (by decide) [(0, .sl Y1 h0), (1, .bool arguments)] [] (by (simp only [go_sem]) <;> (repeat' with_reducible apply And.intro) <;> first | assumption | rfl | omega | (unfold maxLen; omega)) ?_
  refine athen_n ?_
  refine AW.seq ?_
  refine AW.seq ?_
  refine AW.ops ?_
  refine AO.segF tab_ok 1 (by decide) [(1, .bool arguments), (5, .sl Y1 h0)] [] (by (simp only [go_sem]) <;> (repeat' with_reducible apply And.intro) <;> first | assumption | rfl | omega | (unfold maxLen; omega)) ?_
  obtain ⟨v0, hv1, h⟩ := Option.bind_eq_some_iff.1 h
  refine AO.call tab_ok (by decide) rfl rfl rfl (fun _ h => h) [] [] (hc_history_Valid h0 hv1) rfl (by (simp only [go_sem]) <;> (repeat' with_reducible apply And.intro) <;> first | assumption | rfl | omega | (unfold maxLen; omega)) (by (simp only [go_sem]) <;> (repeat' with_reducible apply And.intro) <;> first | assumption | rfl | omega | (unfold maxLen; omega)) [(1, .bool arguments), (6, .bool v0)] [] (by (simp only [go_sem]) <;> (repeat' with_reducible apply And.intro) <;> first | assumption | rfl | omega | (unfold maxLen; omega)) ?_
  refine AO.allF tab_ok (by decide) [(1, .bool arguments), (7, .bool (!v0))] [] (by (simp only [go_sem]) <;> (repeat' with_reducible apply And.intro) <;> first | assumption | rfl | omega | (unfold maxLen; omega)) ?_
  refine athen_n ?_
  refine AW.cond (b := (!v0)) rfl (fun hb2 => ?_) (fun hb2 => ?_)
  · rw [if_pos hb2] at h
    refine AW.seq ?_
    refine AW.ops ?_
    refine AO.allF tab_ok (by decide) [(4, .int .i64 20)] [] (by (simp only [go_sem, hb2]) <;> (repeat' with_reducible apply And.intro) <;> first | assumption | rfl | omega | (unfold maxLen; omega)) ?_
    refine athen_n ?_
    refine AW.ret ?_
    refine athen_r ?_
    obtain rfl := Option.some.inj h
    exact ⟨rfl, [], [], [], rfl, (by (simp only [go_sem, hb2]) <;> (repeat' with_reducible apply And.intro) <;> first | assumption | rfl | omega | (unfold maxLen; omega))⟩
  · rw [if_neg (Bool.eq_false_iff.1 hb2)] at h
    refine AW.skip ?_
    refine athen_n ?_
    refine AW.seq ?_
    refine AW.seq ?_
    refine AW.ops ?_
    refine AO.allF tab_ok (by decide) [(9, .bool (!arguments))] [] (by (simp only [go_sem, hb2]) <;> (repeat' with_reducible apply And.intro) <;> first | assumption | rfl | omega | (unfold maxLen; omega)) ?_
    refine athen_n ?_
    refine AW.cond (b := (!arguments)) rfl (fun hb3 => ?_) (fun hb3 => ?_)
    · rw [if_pos hb3] at h
      refine AW.seq ?_
      refine AW.ops ?_
      refine AO.allF tab_ok (by decide) [(4, .int .i64 2)] [] (by (simp only [go_sem, hb2, hb3]) <;> (repeat' with_reducible apply And.intro) <;> first | assumption | rfl | omega | (unfold maxLen; omega)) ?_
      refine athen_n ?_
      refine AW.ret ?_
      refine athen_r ?_
      obtain rfl := Option.some.inj h
      exact ⟨rfl, [], [], [], rfl, (by (simp only [go_sem, hb2, hb3]) <;> (repeat' with_reducible apply And.intro) <;> first | assumption | rfl | omega | (unfold maxLen; omega))⟩
    · rw [if_neg (Bool.eq_false_iff.1 hb3)] at h
      refine AW.skip ?_
      refine athen_n ?_
      refine AW.seq ?_
      refine AW.ops ?_
      refine AO.allF tab_ok (by decide) [(4, .int .i64 0)] [] (by (simp only [go_sem, hb2, hb3]) <;> (repeat' with_reducible apply And.intro) <;> first | assumption | rfl | omega | (unfold maxLen; omega)) ?_
      refine athen_n ?_
      refine AW.ret ?_
      obtain rfl := Option.some.inj h
      exact ⟨rfl, [], [], [], rfl, (by (simp only [go_sem, hb2, hb3]) <;> (repeat' with_reducible apply And.intro) <;> first | assumption | rfl | omega | (unfold maxLen; omega))⟩

set_option maxRecDepth 100000 in
set_option maxHeartbeats 2000000 in
theorem hc_lineallaw02_Large (specs : List (Int × Int × (List (List Int)) × (List (List Int)))) {r : Bool} (h : lineallaw02_Large specs = some r) : HC Try.prog 17 [] [.sl Y0 specs] [] (.bool r) := by
  unfold lineallaw02_Large at h
  refine HC.of_body tab_ok (res := [.tmp 2]) Try.func17 rfl (by kernel_rfl) rfl (nt := 58) rfl (by decide) (by simp) ?_
  refine AW.seq ?_
  refine AW.ops ?_
  refine AO.allF tab_ok (by decide) [(0, .sl Y0 specs)] [] (by (simp only [go_sem]) <;> (repeat' with_reducible apply And.intro) <;> first | assumption | rfl | omega | (unfold maxLen; omega)) ?_
  refine athen_n ?_
  refine AW.have1 (fun _ : Unit => lineallaw02_Large_k1 specs = some r) (fun _ => ⟨fr [(0, .sl Y0 specs)], hpGet [], gt⟩) (fun _ h => ?_) (fun hk_lineallaw02_Large_k1 => ?_)
  · unfold lineallaw02_Large_k1 at h
    refine AW.seq ?_
    refine AW.ops ?_
    refine AO.allF tab_ok (by decide) [(2, .bool (decide (5 < (specs.length : Int))))] [] (by (simp only [go_sem]) <;> (repeat' with_reducible apply And.intro) <;> first | assumption | rfl | omega | (unfold maxLen; omega)) ?_
    refine athen_n ?_
    refine AW.ret ?_
    obtain rfl := Option.some.inj h
    exact ⟨rfl, [], [], [], rfl, (by (simp only [go_sem]) <;> (repeat' with_reducible apply And.intro) <;> first | assumption | rfl | omega | (unfold maxLen; omega))⟩
  · refine AW.seq ?_
    refine AW.seq ?_
    refine AW.ops ?_
    refine AO.allF tab_ok (by decide) [(0, .sl Y0 specs), (3, .int .i64 0)] [] (by (simp only [go_sem]) <;> (repeat' with_reducible apply And.intro) <;> first | assumption | rfl | omega | (unfold maxLen; omega)) ?_
    refine athen_n ?_
    refine AW.block ?_
    obtain ⟨rv5, hw1, ho2⟩ := Option.bind_eq_some_iff.1 h
    refine AW.loopO (lineallaw02_Large_b1 specs) (fun st1 => ⟨fr [(0, .sl Y0 specs), (3, .int .i64 st1)], hpGet [], gt⟩) 0 hw1 (Wk.le [] [] [] rfl (by (simp only [go_sem]) <;> (repeat' with_reducible apply And.intro) <;> first | assumption | rfl | omega | (unfold maxLen; omega)) (by (simp only [go_sem]) <;> (repeat' with_reducible apply And.intro) <;> first | assumption | rfl | omega | (unfold maxLen; omega))) ?_
    intro st1 x4 h hd3
    unfold lineallaw02_Large_b1 at h
    refine AW.seq ?_
    refine AW.seq ?_
    refine AW.ops ?_
    refine AO.allF tab_ok (by decide) [(0, .sl Y0 specs), (3, .int .i64 st1), (10, .bool (decide (st1 < (specs.length : Int))))] [] (by (simp only [go_sem]) <;> (repeat' with_reducible apply And.intro) <;> first | assumption | rfl | omega | (unfold maxLen; omega)) ?_
    refine athen_n ?_
    refine AW.cond (b := (decide (st1 < (specs.length : Int)))) rfl (fun hb6 => ?_) (fun hb6 => ?_)
    · rw [if_pos hb6] at h
      refine AW.skip ?_
      refine athen_n ?_
      refine AW.have1 (fun _ : Unit => lineallaw02_Large_k2 st1 = some x4) (fun _ => ⟨fr [(0, .sl Y0 specs), (3, .int .i64 st1)], hpGet [], gt⟩) (fun _ h => ?_) (fun hk_lineallaw02_Large_k2 => ?_)
      · unfold lineallaw02_Large_k2 at h
        refine AW.ops ?_
        obtain ⟨c7, h⟩ := ck_some.1 h
        refine AO.allF tab_ok (by decide) [(0, .sl Y0 specs), (3, .int .i64 (st1 + 1))] [] (by (simp only [go_sem, hb6]) <;> (repeat' with_reducible apply And.intro) <;> first | assumption | rfl | omega | (unfold maxLen; omega)) ?_
        obtain rfl := Option.some.inj h
        exact ⟨_, rfl, Wk.le [] [] [] rfl (by (simp only [go_sem, hb6]) <;> (repeat' with_reducible apply And.intro) <;> first | assumption | rfl | omega | (unfold maxLen; omega)) (by (simp only [go_sem, hb6]) <;> (repeat' with_reducible apply And.intro) <;> first | assumption | rfl | omega | (unfold maxLen; omega))⟩
      · refine AW.seq ?_
        refine AW.block ?_
        refine AW.seq ?_
        refine AW.ops ?_
        obtain ⟨c8, h⟩ := ck_some.1 h
        obtain ⟨c9, h⟩ := ck_some.1 h
        refine AO.allF tab_ok (by decide) [(0, .sl Y0 specs), (3, .int .i64 st1), (4, .bp 4 0)] [(4, .box 64 [.int .i64 (specs.getD st1.toNat (0, 0, [], [])).1, .int .i64 (specs.getD st1.toNat (0, 0, [], [])).2.1, .sl (.sl (.int .i64)) (specs.getD st1.toNat (0, 0, [], [])).2.2.1, .sl (.sl (.int .i64)) (specs.getD st1.toNat (0, 0, [], [])).2.2.2])] (by (simp only [go_sem, hb6]) <;> (repeat' with_reducible apply And.intro) <;> first | assumption | rfl | omega | (unfold maxLen; omega)) ?_
        refine athen_n ?_
        refine AW.seq ?_
        refine AW.seq ?_
        refine AW.ops ?_
        refine AO.segF tab_ok 5 (by decide) [(0, .sl Y0 specs), (3, .int .i64 st1), (4, .bp 4 0), (21, .bool (decide (20 < ((specs.getD st1.toNat (0, 0, [], [])).2.2.1.length : Int))))] [(4, .box 64 [.int .i64 (specs.getD st1.toNat (0, 0, [], [])).1, .int .i64 (specs.getD st1.toNat (0, 0, [], [])).2.1, .sl (.sl (.int .i64)) (specs.getD st1.toNat (0, 0, [], [])).2.2.1, .sl (.sl (.int .i64)) (specs.getD st1.toNat (0, 0, [], [])).2.2.2])] (by (simp only [go_sem, hb6]) <;> (repeat' with_reducible apply And.intro) <;> first | assumption | rfl | omega | (unfold maxLen; omega)) ?_
        rcases Bool.eq_false_or_eq_true (decide (20 < ((specs.getD st1.toNat (0, 0, [], [])).2.2.1.length : Int))) with hb10 | hb10
        · rw [if_pos hb10] at h
          refine AO.weaken (s' := ⟨fr [(0, .sl Y0 specs), (3, .int .i64 st1), (4, .bp 4 0), (21, .bool true)], hpGet [(4, .box 64 [.int .i64 (specs.getD st1.toNat (0, 0, [], [])).1, .int .i64 (specs.getD st1.toNat (0, 0, [], [])).2.1, .sl (.sl (.int .i64)) (specs.getD st1.toNat (0, 0, [], [])).2.2.1, .sl (.sl (.int .i64)) (specs.getD st1.toNat (0, 0, [], [])).2.2.2])], gt⟩) (Wk.to (by (simp only [go_sem, hb6, hb10]) <;> (repeat' with_reducible apply And.intro) <;> first | assumption | rfl | omega | (unfold maxLen; omega))) ?_
          refine AO.segF tab_ok 4 (by decide) [(0, .sl Y0 specs), (3, .int .i64 st1), (4, .bp 4 0), (21, .bool true), (25, .cv (undef))] [(4, .box 64 [.int .i64 (specs.getD st1.toNat (0, 0, [], [])).1, .int .i64 (specs.getD st1.toNat (0, 0, [], [])).2.1, .sl (.sl (.int .i64)) (specs.getD st1.toNat (0, 0, [], [])).2.2.1, .sl (.sl (.int .i64)) (specs.getD st1.toNat (0, 0, [], [])).2.2.2])] (by (simp only [go_sem, hb6, hb10]) <;> (repeat' with_reducible apply And.intro) <;> first | assumption | rfl | omega | (unfold maxLen; omega)) ?_
          refine AO.allF tab_ok (by decide) [(0, .sl Y0 specs), (3, .int .i64 st1), (4, .bp 4 0), (26, .bool true)] [(4, .box 64 [.int .i64 (specs.getD st1.toNat (0, 0, [], [])).1, .int .i64 (specs.getD st1.toNat (0, 0, [], [])).2.1, .sl (.sl (.int .i64)) (specs.getD st1.toNat (0, 0, [], [])).2.2.1, .sl (.sl (.int .i64)) (specs.getD st1.toNat (0, 0, [], [])).2.2.2])] (by (simp only [go_sem, hb6, hb10]) <;> (repeat' with_reducible apply And.intro) <;> first | assumption | rfl | omega | (unfold maxLen; omega)) ?_
          refine athen_n ?_
          refine AW.cond (b := true) rfl (fun _ => ?_) (fun hb11 => by cases hb11)
          refine AW.seq ?_
          refine AW.ops ?_
          refine AO.allF tab_ok (by decide) [(2, .bool true)] [] (by (simp only [go_sem, hb6, hb10]) <;> (repeat' with_reducible apply And.intro) <;> first | assumption | rfl | omega | (unfold maxLen; omega)) ?_
          refine athen_n ?_
          refine AW.ret ?_
          refine athen_r ?_
          refine ablock_r ?_
          refine athen_r ?_
          obtain rfl := Option.some.inj h
          rw [← hd3 _ rfl] at ho2
          have h := ho2
          try simp only at h
          refine athen_r ?_
          refine ablock_r ?_
          refine athen_r ?_
          obtain rfl := Option.some.inj h
          exact ⟨rfl, [], [], [], rfl, (by (simp only [go_sem, hb6, hb10]) <;> (repeat' with_reducible apply And.intro) <;> first | assumption | rfl | omega | (unfold maxLen; omega))⟩
        · rw [if_neg (Bool.eq_false_iff.1 hb10)] at h
          refine AO.weaken (s' := ⟨fr [(0, .sl Y0 specs), (3, .int .i64 st1), (4, .bp 4 0), (21, .bool false)], hpGet [(4, .box 64 [.int .i64 (specs.getD st1.toNat (0, 0, [], [])).1, .int .i64 (specs.getD st1.toNat (0, 0, [], [])).2.1, .sl (.sl (.int .i64)) (specs.getD st1.toNat (0, 0, [], [])).2.2.1, .sl (.sl (.int .i64)) (specs.getD st1.toNat (0, 0, [], [])).2.2.2])], gt⟩) (Wk.to (by (simp only [go_sem, hb6, hb10]) <;> (repeat' with_reducible apply And.intro) <;> first | assumption | rfl | omega | (unfold maxLen; omega))) ?_
          refine AO.allF tab_ok (by decide) [(0, .sl Y0 specs), (3, .int .i64 st1), (4, .bp 4 0), (26, .bool (decide (20 < ((specs.getD st1.toNat (0, 0, [], [])).2.2.2.length : Int))))] [(4, .box 64 [.int .i64 (specs.getD st1.toNat (0, 0, [], [])).1, .int .i64 (specs.getD st1.toNat (0, 0, [], [])).2.1, .sl (.sl (.int .i64)) (specs.getD st1.toNat (0, 0, [], [])).2.2.1, .sl (.sl (.int .i64)) (specs.getD st1.toNat (0, 0, [], [])).2.2.2])] (by (simp only [go_sem, hb6, hb10]) <;> (repeat' with_reducible apply And.intro) <;> first | assumption | rfl | omega | (unfold maxLen; omega)) ?_
          refine athen_n ?_
          refine AW.cond (b := (decide (20 < ((specs.getD st1.toNat (0, 0, [], [])).2.2.2.length : Int)))) rfl (fun hb12 => ?_) (fun hb12 => ?_)
          · rw [if_pos hb12] at h
            refine AW.seq ?_
            refine AW.ops ?_
            refine AO.allF tab_ok (by decide) [(2, .bool true)] [] (by (simp only [go_sem, hb6, hb10, hb12]) <;> (repeat' with_reducible apply And.intro) <;> first | assumption | rfl | omega | (unfold maxLen; omega)) ?_
            refine athen_n ?_
            refine AW.ret ?_
            refine athen_r ?_
            refine ablock_r ?_
            refine athen_r ?_
            obtain rfl := Option.some.inj h
            rw [← hd3 _ rfl] at ho2
            have h := ho2
            try simp only at h
            refine athen_r ?_
            refine ablock_r ?_
            refine athen_r ?_
            obtain rfl := Option.some.inj h
            exact ⟨rfl, [], [], [], rfl, (by (simp only [go_sem, hb6, hb10, hb12]) <;> (repeat' with_reducible apply And.intro) <;> first | assumption | rfl | omega | (unfold maxLen; omega))⟩
          · rw [if_neg (Bool.eq_false_iff.1 hb12)] at h
            refine AW.skip ?_
            refine athen_n ?_
            refine AW.have1 (fun _ : Unit => lineallaw02_Large_k3 specs st1 = some x4) (fun _ => ⟨fr [(0, .sl Y0 specs), (3, .int .i64 st1), (4, .bp 4 0)], hpGet [(4, .box 64 [.int .i64 (specs.getD st1.toNat (0, 0, [], [])).1, .int .i64 (specs.getD st1.toNat (0, 0, [], [])).2.1, .sl (.sl (.int .i64)) (specs.getD st1.toNat (0, 0, [], [])).2.2.1, .sl (.sl (.int .i64)) (specs.getD st1.toNat (0, 0, [], [])).2.2.2])], gt⟩) (fun _ h => ?_) (fun hk_lineallaw02_Large_k3 => ?_)
            · unfold lineallaw02_Large_k3 at h
              refine AW.seq ?_
              refine AW.ops ?_
              refine AO.allF tab_ok (by decide) [(0, .sl Y0 specs), (3, .int .i64 st1), (4, .bp 4 0), (6, .int .i64 0)] [(4, .box 64 [.int .i64 (specs.getD st1.toNat (0, 0, [], [])).1, .int .i64 (specs.getD st1.toNat (0, 0, [], [])).2.1, .sl (.sl (.int .i64)) (specs.getD st1.toNat (0, 0, [], [])).2.2.1, .sl (.sl (.int .i64)) (specs.getD st1.toNat (0, 0, [], [])).2.2.2])] (by (simp only [go_sem, hb6, hb10, hb12]) <;> (repeat' with_reducible apply And.intro) <;> first | assumption | rfl | omega | (unfold maxLen; omega)) ?_
              refine athen_n ?_
              refine AW.block ?_
              obtain ⟨rv17, hw13, ho14⟩ := Option.bind_eq_some_iff.1 h
              refine AW.loopO (lineallaw02_Large_b3 specs st1) (fun st3 => ⟨fr [(0, .sl Y0 specs), (3, .int .i64 st1), (4, .bp 4 0), (6, .int .i64 st3)], hpGet [(4, .box 64 [.int .i64 (specs.getD st1.toNat (0, 0, [], [])).1, .int .i64 (specs.getD st1.toNat (0, 0, [], [])).2.1, .sl (.sl (.int .i64)) (specs.getD st1.toNat (0, 0, [], [])).2.2.1, .sl (.sl (.int .i64)) (specs.getD st1.toNat (0, 0, [], [])).2.2.2])], gt⟩) 0 hw13 (Wk.le [] [] [] rfl (by (simp only [go_sem, hb6, hb10, hb12]) <;> (repeat' with_reducible apply And.intro) <;> first | assumption | rfl | omega | (unfold maxLen; omega)) (by (simp only [go_sem, hb6, hb10, hb12]) <;> (repeat' with_reducible apply And.intro) <;> first | assumption | rfl | omega | (unfold maxLen; omega))) ?_
              intro st3 x16 h hd15
              unfold lineallaw02_Large_b3 at h
              refine AW.seq ?_
              refine AW.seq ?_
              refine AW.ops ?_
              refine AO.allF tab_ok (by decide) [(0, .sl Y0 specs), (3, .int .i64 st1), (4, .bp 4 0), (6, .int .i64 st3), (45, .bool (decide (st3 < ((specs.getD st1.toNat (0, 0, [], [])).2.2.2.length : Int))))] [(4, .box 64 [.int .i64 (specs.getD st1.toNat (0, 0, [], [])).1, .int .i64 (specs.getD st1.toNat (0, 0, [], [])).2.1, .sl (.sl (.int .i64)) (specs.getD st1.toNat (0, 0, [], [])).2.2.1, .sl (.sl (.int .i64)) (specs.getD st1.toNat (0, 0, [], [])).2.2.2])] (by (simp only [go_sem, hb6, hb10, hb12]) <;> (repeat' with_reducible apply And.intro) <;> first | assumption | rfl | omega | (unfold maxLen; omega)) ?_
              refine athen_n ?_
              refine AW.cond (b := (decide (st3 < ((specs.getD st1.toNat (0, 0, [], [])).2.2.2.length : Int)))) rfl (fun hb18 => ?_) (fun hb18 => ?_)
              · rw [if_pos hb18] at h
                refine AW.skip ?_
                refine athen_n ?_
                refine AW.seq ?_
                refine AW.block ?_
                refine AW.seq ?_
                refine AW.ops ?_
                obtain ⟨c19, h⟩ := ck_some.1 h
                obtain ⟨c20, h⟩ := ck_some.1 h
                refine AO.allF tab_ok (by decide) [(0, .sl Y0 specs), (3, .int .i64 st1), (4, .bp 4 0), (6, .int .i64 st3), (54, .bool (decide (20 < (((specs.getD st1.toNat (0, 0, [], [])).2.2.2.getD st3.toNat []).length : Int))))] [(4, .box 64 [.int .i64 (specs.getD st1.toNat (0, 0, [], [])).1, .int .i64 (specs.getD st1.toNat (0, 0, [], [])).2.1, .sl (.sl (.int .i64)) (specs.getD st1.toNat (0, 0, [], [])).2.2.1, .sl (.sl (.int .i64)) (specs.getD st1.toNat (0, 0, [], [])).2.2.2])] (by (simp only [go_sem, hb6, hb10, hb12, hb18]) <;> (repeat' with_reducible apply And.intro) <;> first | assumption | rfl | omega | (unfold maxLen; omega)) ?_
                refine athen_n ?_
                refine AW.cond (b := (decide (20 < (((specs.getD st1.toNat (0, 0, [], [])).2.2.2.getD st3.toNat []).length : Int)))) rfl (fun hb21 => ?_) (fun hb21 => ?_)
                · rw [if_pos hb21] at h
                  refine AW.seq ?_
                  refine AW.ops ?_
                  refine AO.allF tab_ok (by decide) [(2, .bool true)] [] (by (simp only [go_sem, hb6, hb10, hb12, hb18, hb21]) <;> (repeat' with_reducible apply And.intro) <;> first | assumption | rfl | omega | (unfold maxLen; omega)) ?_
                  refine athen_n ?_
                  refine AW.ret ?_
                  refine ablock_r ?_
                  refine athen_r ?_
                  obtain rfl := Option.some.inj h
                  rw [← hd15 _ rfl] at ho14
                  have h := ho14
                  try simp only at h
                  refine athen_r ?_
                  refine ablock_r ?_
                  refine ablock_r ?_
                  refine athen_r ?_
                  obtain rfl := Option.some.inj h
                  rw [← hd3 _ rfl] at ho2
                  have h := ho2
                  try simp only at h
                  refine athen_r ?_
                  refine ablock_r ?_
                  refine athen_r ?_
                  obtain rfl := Option.some.inj h
                  exact ⟨rfl, [], [], [], rfl, (by (simp only [go_sem, hb6, hb10, hb12, hb18, hb21]) <;> (repeat' with_reducible apply And.intro) <;> first | assumption | rfl | omega | (unfold maxLen; omega))⟩
                · rw [if_neg (Bool.eq_false_iff.1 hb21)] at h
                  refine AW.skip ?_
                  refine ablock_n ?_
                  refine athen_n ?_
                  refine AW.ops ?_
                  obtain ⟨c22, h⟩ := ck_some.1 h
                  refine AO.allF tab_ok (by decide) [(0, .sl Y0 specs), (3, .int .i64 st1), (4, .bp 4 0), (6, .int .i64 (st3 + 1))] [(4, .box 64 [.int .i64 (specs.getD st1.toNat (0, 0, [], [])).1, .int .i64 (specs.getD st1.toNat (0, 0, [], [])).2.1, .sl (.sl (.int .i64)) (specs.getD st1.toNat (0, 0, [], [])).2.2.1, .sl (.sl (.int .i64)) (specs.getD st1.toNat (0, 0, [], [])).2.2.2])] (by (simp only [go_sem, hb6, hb10, hb12, hb18, hb21]) <;> (repeat' with_reducible apply And.intro) <;> first | assumption | rfl | omega | (unfold maxLen; omega)) ?_
                  obtain rfl := Option.some.inj h
                  exact ⟨_, rfl, Wk.le [] [] [] rfl (by (simp only [go_sem, hb6, hb10, hb12, hb18, hb21]) <;> (repeat' with_reducible apply And.intro) <;> first | assumption | rfl | omega | (unfold maxLen; omega)) (by (simp only [go_sem, hb6, hb10, hb12, hb18, hb21]) <;> (repeat' with_reducible apply And.intro) <;> first | assumption | rfl | omega | (unfold maxLen; omega))⟩
              · rw [if_neg (Bool.eq_false_iff.1 hb18)] at h
                refine AW.exit ?_
                refine athen_e ?_
                obtain rfl := Option.some.inj h
                rw [← hd15 _ rfl] at ho14
                have h := ho14
                try simp only at h
                refine athen_e ?_
                refine ablock_s ?_
                refine ablock_n ?_
                refine athen_n ?_
                exact AW.weaken (Wk.le [] [] [] rfl (by (simp only [go_sem, hb6, hb10, hb12, hb18]) <;> (repeat' with_reducible apply And.intro) <;> first | assumption | rfl | omega | (unfold maxLen; omega)) (by (simp only [go_sem, hb6, hb10, hb12, hb18]) <;> (repeat' with_reducible apply And.intro) <;> first | assumption | rfl | omega | (unfold maxLen; omega))) (hk_lineallaw02_Large_k2 () h)
            · refine AW.seq ?_
              refine AW.seq ?_
              refine AW.ops ?_
              refine AO.allF tab_ok (by decide) [(0, .sl Y0 specs), (3, .int .i64 st1), (4, .bp 4 0), (5, .int .i64 0)] [(4, .box 64 [.int .i64 (specs.getD st1.toNat (0, 0, [], [])).1, .int .i64 (specs.getD st1.toNat (0, 0, [], [])).2.1, .sl (.sl (.int .i64)) (specs.getD st1.toNat (0, 0, [], [])).2.2.1, .sl (.sl (.int .i64)) (specs.getD st1.toNat (0, 0, [], [])).2.2.2])] (by (simp only [go_sem, hb6, hb10, hb12]) <;> (repeat' with_reducible apply And.intro) <;> first | assumption | rfl | omega | (unfold maxLen; omega)) ?_
              refine athen_n ?_
              refine AW.block ?_
              obtain ⟨rv27, hw23, ho24⟩ := Option.bind_eq_some_iff.1 h
              refine AW.loopO (lineallaw02_Large_b2 specs st1) (fun st2 => ⟨fr [(0, .sl Y0 specs), (3, .int .i64 st1), (4, .bp 4 0), (5, .int .i64 st2)], hpGet [(4, .box 64 [.int .i64 (specs.getD st1.toNat (0, 0, [], [])).1, .int .i64 (specs.getD st1.toNat (0, 0, [], [])).2.1, .sl (.sl (.int .i64)) (specs.getD st1.toNat (0, 0, [], [])).2.2.1, .sl (.sl (.int .i64)) (specs.getD st1.toNat (0, 0, [], [])).2.2.2])], gt⟩) 0 hw23 (Wk.le [] [] [] rfl (by (simp only [go_sem, hb6, hb10, hb12]) <;> (repeat' with_reducible apply And.intro) <;> first | assumption | rfl | omega | (unfold maxLen; omega)) (by (simp only [go_sem, hb6, hb10, hb12]) <;> (repeat' with_reducible apply And.intro) <;> first | assumption | rfl | omega | (unfold maxLen; omega))) ?_
              intro st2 x26 h hd25
              unfold lineallaw02_Large_b2 at h
              refine AW.seq ?_
              refine AW.seq ?_
              refine AW.ops ?_
              refine AO.allF tab_ok (by decide) [(0, .sl Y0 specs), (3, .int .i64 st1), (4, .bp 4 0), (5, .int .i64 st2), (31, .bool (decide (st2 < ((specs.getD st1.toNat (0, 0, [], [])).2.2.1.length : Int))))] [(4, .box 64 [.int .i64 (specs.getD st1.toNat (0, 0, [], [])).1, .int .i64 (specs.getD st1.toNat (0, 0, [], [])).2.1, .sl (.sl (.int .i64)) (specs.getD st1.toNat (0, 0, [], [])).2.2.1, .sl (.sl (.int .i64)) (specs.getD st1.toNat (0, 0, [], [])).2.2.2])] (by (simp only [go_sem, hb6, hb10, hb12]) <;> (repeat' with_reducible apply And.intro) <;> first | assumption | rfl | omega | (unfold maxLen; omega)) ?_
              refine athen_n ?_
              refine AW.cond (b := (decide (st2 < ((specs.getD st1.toNat (0, 0, [], [])).2.2.1.length : Int)))) rfl (fun hb28 => ?_) (fun hb28 => ?_)
              · rw [if_pos hb28] at h
                refine AW.skip ?_
                refine athen_n ?_
                refine AW.seq ?_
                refine AW.block ?_
                refine AW.seq ?_
                refine AW.ops ?_
                obtain ⟨c29, h⟩ := ck_some.1 h
                obtain ⟨c30, h⟩ := ck_some.1 h
                refine AO.allF tab_ok (by decide) [(0, .sl Y0 specs), (3, .int .i64 st1), (4, .bp 4 0), (5, .int .i64 st2), (40, .bool (decide (20 < (((specs.getD st1.toNat (0, 0, [], [])).2.2.1.getD st2.toNat []).length : Int))))] [(4, .box 64 [.int .i64 (specs.getD st1.toNat (0, 0, [], [])).1, .int .i64 (specs.getD st1.toNat (0, 0, [], [])).2.1, .sl (.sl (.int .i64)) (specs.getD st1.toNat (0, 0, [], [])).2.2.1, .sl (.sl (.int .i64)) (specs.getD st1.toNat (0, 0, [], [])).2.2.2])] (by (simp only [go_sem, hb6, hb10, hb12, hb28]) <;> (repeat' with_reducible apply And.intro) <;> first | assumption | rfl | omega | (unfold maxLen; omega)) ?_
                refine athen_n ?_
                refine AW.cond (b := (decide (20 < (((specs.getD st1.toNat (0, 0, [], [])).2.2.1.getD st2.toNat []).length : Int)))) rfl (fun hb31 => ?_) (fun hb31 => ?_)
                · rw [if_pos hb31] at h
                  refine AW.seq ?_
                  refine AW.ops ?_
                  refine AO.allF tab_ok (by decide) [(2, .bool true)] [] (by (simp only [go_sem, hb6, hb10, hb12, hb28, hb31]) <;> (repeat' with_reducible apply And.intro) <;> first | assumption | rfl | omega | (unfold maxLen; omega)) ?_
                  refine athen_n ?_
                  refine AW.ret ?_
                  refine ablock_r ?_
                  refine athen_r ?_
                  obtain rfl := Option.some.inj h
                  rw [← hd25 _ rfl] at ho24
                  have h := ho24
                  try simp only at h
                  refine athen_r ?_
                  refine ablock_r ?_
                  refine athen_r ?_
                  refine ablock_r ?_
                  refine athen_r ?_
                  obtain rfl := Option.some.inj h
                  rw [← hd3 _ rfl] at ho2
                  have h := ho2
                  try simp only at h
                  refine athen_r ?_
                  refine ablock_r ?_
                  refine athen_r ?_
                  obtain rfl := Option.some.inj h
                  exact ⟨rfl, [], [], [], rfl, (by (simp only [go_sem, hb6, hb10, hb12, hb28, hb31]) <;> (repeat' with_reducible apply And.intro) <;> first | assumption | rfl | omega | (unfold maxLen; omega))⟩
                · rw [if_neg (Bool.eq_false_iff.1 hb31)] at h
                  refine AW.skip ?_
                  refine ablock_n ?_
                  refine athen_n ?_
                  refine AW.ops ?_
                  obtain ⟨c32, h⟩ := ck_some.1 h
                  refine AO.allF tab_ok (by decide) [(0, .sl Y0 specs), (3, .int .i64 st1), (4, .bp 4 0), (5, .int .i64 (st2 + 1))] [(4, .box 64 [.int .i64 (specs.getD st1.toNat (0, 0, [], [])).1, .int .i64 (specs.getD st1.toNat (0, 0, [], [])).2.1, .sl (.sl (.int .i64)) (specs.getD st1.toNat (0, 0, [], [])).2.2.1, .sl (.sl (.int .i64)) (specs.getD st1.toNat (0, 0, [], [])).2.2.2])] (by (simp only [go_sem, hb6, hb10, hb12, hb28, hb31]) <;> (repeat' with_reducible apply And.intro) <;> first | assumption | rfl | omega | (unfold maxLen; omega)) ?_
                  obtain rfl := Option.some.inj h
                  exact ⟨_, rfl, Wk.le [] [] [] rfl (by (simp only [go_sem, hb6, hb10, hb12, hb28, hb31]) <;> (repeat' with_reducible apply And.intro) <;> first | assumption | rfl | omega | (unfold maxLen; omega)) (by (simp only [go_sem, hb6, hb10, hb12, hb28, hb31]) <;> (repeat' with_reducible apply And.intro) <;> first | assumption | rfl | omega | (unfold maxLen; omega))⟩
              · rw [if_neg (Bool.eq_false_iff.1 hb28)] at h
                refine AW.exit ?_
                refine athen_e ?_
                obtain rfl := Option.some.inj h
                rw [← hd25 _ rfl] at ho24
                have h := ho24
                try simp only at h
                refine athen_e ?_
                refine ablock_s ?_
                refine athen_n ?_
                exact AW.weaken (Wk.le [] [] [] rfl (by (simp only [go_sem, hb6, hb10, hb12, hb28]) <;> (repeat' with_reducible apply And.intro) <;> first | assumption | rfl | omega | (unfold maxLen; omega)) (by (simp only [go_sem, hb6, hb10, hb12, hb28]) <;> (repeat' with_reducible apply And.intro) <;> first | assumption | rfl | omega | (unfold maxLen; omega))) (hk_lineallaw02_Large_k3 () h)
    · rw [if_neg (Bool.eq_false_iff.1 hb6)] at h
      refine AW.exit ?_
      refine athen_e ?_
      obtain rfl := Option.some.inj h
      rw [← hd3 _ rfl] at ho2
      have h := ho2
      try simp only at h
      refine athen_e ?_
      refine ablock_s ?_
      refine athen_n ?_
      exact AW.weaken (Wk.le [] [] [] rfl (by (simp only [go_sem, hb6]) <;> (repeat' with_reducible apply And.intro) <;> first | assumption | rfl | omega | (unfold maxLen; omega)) (by (simp only [go_sem, hb6]) <;> (repeat' with_reducible apply And.intro) <;> first | assumption | rfl | omega | (unfold maxLen; omega))) (hk_lineallaw02_Large_k1 () h)

set_option maxRecDepth 100000 in
set_option maxHeartbeats 2000000 in
theorem hc_history_For_1 (a0 : List (Int × Int × Int × Int × Int × Int)) (a1 : List (Int × Int × (List (List Int)) × (List (List Int)))) {r : Bool} (h : history_For_1 a0 a1 = some r) : HC Try.prog 60 [(1000, .box 23 [.sl Y1 a0]), (1001, .box 22 [.sl Y0 a1])] [.bp 1000 0, .bp 1001 0] [(1000, .box 23 [.sl Y1 a0]), (1001, .box 22 [.sl Y0 a1])] (.bool r) := by
  unfold history_For_1 at h
  refine HC.of_body tab_ok (res := [.tmp 2]) Try.func60 rfl (by kernel_rfl) rfl (nt := 10) rfl (by decide) (by simp) ?_
  refine AW.seq ?_
  refine AW.ops ?_
  refine AO.allF tab_ok (by decide) [(0, .bp 1000 0), (1, .bp 1001 0)] [(1000, .box 23 [.sl Y1 a0]), (1001, .box 22 [.sl Y0 a1])] (by (simp only [go_sem]) <;> (repeat' with_reducible apply And.intro) <;> first | assumption | rfl | omega | (unfold maxLen; omega)) ?_
  refine athen_n ?_
  refine AW.seq ?_
  refine AW.ops ?_
  refine AO.segF tab_ok 1 (by decide) [(0, .bp 1000 0), (1, .bp 1001 0), (3, .sl Y1 a0)] [(1000, .box 23 [.sl Y1 a0]), (1001, .box 22 [.sl Y0 a1])] (by (simp only [go_sem]) <;> (repeat' with_reducible apply And.intro) <;> first | assumption | rfl | omega | (unfold maxLen; omega)) ?_
  obtain ⟨v0, hv1, h⟩ := Option.bind_eq_some_iff.1 h
  refine AO.call tab_ok (by decide) rfl rfl rfl (fun _ h => h) [] [] (hc_history_Valid a0 hv1) rfl (by (simp only [go_sem]) <;> (repeat' with_reducible apply And.intro) <;> first | assumption | rfl | omega | (unfold maxLen; omega)) (by (simp only [go_sem]) <;> (repeat' with_reducible apply And.intro) <;> first | assumption | rfl | omega | (unfold maxLen; omega)) [(0, .bp 1000 0), (1, .bp 1001 0), (4, .bool v0)] [(1000, .box 23 [.sl Y1 a0]), (1001, .box 22 [.sl Y0 a1])] (by (simp only [go_sem]) <;> (repeat' with_reducible apply And.intro) <;> first | assumption | rfl | omega | (unfold maxLen; omega)) ?_
  refine AO.segF tab_ok 1 (by decide) [(0, .bp 1000 0), (1, .bp 1001 0), (5, .bool v0)] [(1000, .box 23 [.sl Y1 a0]), (1001, .box 22 [.sl Y0 a1])] (by (simp only [go_sem]) <;> (repeat' with_reducible apply And.intro) <;> first | assumption | rfl | omega | (unfold maxLen; omega)) ?_
  rcases Bool.eq_false_or_eq_true v0 with hb2 | hb2
  · rw [if_pos hb2] at h
    refine AO.weaken (s' := ⟨fr [(0, .bp 1000 0), (1, .bp 1001 0), (5, .bool true)], hpGet [(1000, .box 23 [.sl Y1 a0]), (1001, .box 22 [.sl Y0 a1])], gt⟩) (Wk.to (by (simp only [go_sem, hb2]) <;> (repeat' with_reducible apply And.intro) <;> first | assumption | rfl | omega | (unfold maxLen; omega))) ?_
    refine AO.segF tab_ok 2 (by decide) [(5, .bool true), (6, .sl Y0 a1), (7, .sl Y1 a0)] [(1000, .box 23 [.sl Y1 a0]), (1001, .box 22 [.sl Y0 a1])] (by (simp only [go_sem, hb2]) <;> (repeat' with_reducible apply And.intro) <;> first | assumption | rfl | omega | (unfold maxLen; omega)) ?_
    obtain ⟨v0_2, hv3, h⟩ := Option.bind_eq_some_iff.1 h
    refine AO.call tab_ok (by decide) rfl rfl rfl (fun _ h => ⟨fun _ => h, fun hn => absurd rfl hn⟩) [] [] (hc_history_fits a1 a0 hv3) rfl (by (simp only [go_sem, hb2]) <;> (repeat' with_reducible apply And.intro) <;> first | assumption | rfl | omega | (unfold maxLen; omega)) (by (simp only [go_sem, hb2]) <;> (repeat' with_reducible apply And.intro) <;> first | assumption | rfl | omega | (unfold maxLen; omega)) [(5, .bool true), (8, .bool v0_2)] [(1000, .box 23 [.sl Y1 a0]), (1001, .box 22 [.sl Y0 a1])] (by (simp only [go_sem, hb2]) <;> (repeat' with_reducible apply And.intro) <;> first | assumption | rfl | omega | (unfold maxLen; omega)) ?_
    refine AO.allF tab_ok (by decide) [(2, .bool v0_2)] [(1000, .box 23 [.sl Y1 a0]), (1001, .box 22 [.sl Y0 a1])] (by (simp only [go_sem, hb2]) <;> (repeat' with_reducible apply And.intro) <;> first | assumption | rfl | omega | (unfold maxLen; omega)) ?_
    refine athen_n ?_
    refine AW.ret ?_
    obtain rfl := Option.some.inj h
    exact ⟨rfl, [], [], [], rfl, (by (simp only [go_sem, hb2]) <;> (repeat' with_reducible apply And.intro) <;> first | assumption | rfl | omega | (unfold maxLen; omega))⟩
  · rw [if_neg (Bool.eq_false_iff.1 hb2)] at h
    refine AO.weaken (s' := ⟨fr [(0, .bp 1000 0), (1, .bp 1001 0), (5, .bool false)], hpGet [(1000, .box 23 [.sl Y1 a0]), (1001, .box 22 [.sl Y0 a1])], gt⟩) (Wk.to (by (simp only [go_sem, hb2]) <;> (repeat' with_reducible apply And.intro) <;> first | assumption | rfl | omega | (unfold maxLen; omega))) ?_
    refine AO.allF tab_ok (by decide) [(2, .bool false)] [(1000, .box 23 [.sl Y1 a0]), (1001, .box 22 [.sl Y0 a1])] (by (simp only [go_sem, hb2]) <;> (repeat' with_reducible apply And.intro) <;> first | assumption | rfl | omega | (unfold maxLen; omega)) ?_
    refine athen_n ?_
    refine AW.ret ?_
    obtain rfl := Option.some.inj h
    exact ⟨rfl, [], [], [], rfl, (by (simp only [go_sem, hb2]) <;> (repeat' with_reducible apply And.intro) <;> first | assumption | rfl | omega | (unfold maxLen; omega))⟩

set_option maxRecDepth 100000 in
set_option maxHeartbeats 2000000 in
theorem hc_history_told_4 (c0 : List (Int × Int × Int × Int × Int × Int)) (c1 : List (Int × Int × (List (List Int)) × (List (List Int)))) {r : Bool} (h : history_told_4 c0 c1 = some r) : HC Try.prog 58 [(1000, .box 23 [.sl Y1 c0]), (1001, .box 22 [.sl Y0 c1])] [.int .i64 0, .fn (.func 60) [] [.bp 1000 0, .bp 1001 0]] [(1000, .box 23 [.sl Y1 c0]), (1001, .box 22 [.sl Y0 c1])] (.tup [.bool r, .int .i64 0]) := by
  unfold history_told_4 at h
  refine HC.of_body tab_ok (res := [.tmp 4, .tmp 5]) Try.func58 rfl (by kernel_rfl) rfl (nt := 13) rfl (by decide) (by simp) ?_
  refine AW.seq ?_
  refine AW.ops ?_
  refine AO.allF tab_ok (by decide) [(0, .int .i64 0), (1, .fn (.func 60) [] [.bp 1000 0, .bp 1001 0])] [(1000, .box 23 [.sl Y1 c0]), (1001, .box 22 [.sl Y0 c1])] (by (simp only [go_sem]) <;> (repeat' with_reducible apply And.intro) <;> first | assumption | rfl | omega | (unfold maxLen; omega)) ?_
  refine athen_n ?_
  refine AW.seq ?_
  refine AW.seq ?_
  refine AW.ops ?_
  refine AO.allF tab_ok (by decide) [(0, .int .i64 0), (1, .fn (.func 60) [] [.bp 1000 0, .bp 1001 0]), (8, .bool false)] [(1000, .box 23 [.sl Y1 c0]), (1001, .box 22 [.sl Y0 c1])] (by (simp only [go_sem]) <;> (repeat' with_reducible apply And.intro) <;> first | assumption | rfl | omega | (unfold maxLen; omega)) ?_
  refine athen_n ?_
  refine AW.cond (b := false) rfl (fun hb1 => by cases hb1) (fun _ => ?_)
  refine AW.skip ?_
  refine athen_n ?_
  refine AW.seq ?_
  refine AW.ops ?_
  refine AO.segF tab_ok 1 (by decide) [(11, .fn (.func 60) [] [.bp 1000 0, .bp 1001 0])] [(1000, .box 23 [.sl Y1 c0]), (1001, .box 22 [.sl Y0 c1])] (by (simp only [go_sem]) <;> (repeat' with_reducible apply And.intro) <;> first | assumption | rfl | omega | (unfold maxLen; omega)) ?_
  obtain ⟨v0, hv2, h⟩ := Option.bind_eq_some_iff.1 h
  refine AO.call tab_ok (by decide) rfl rfl rfl (fun _ h => h) [] [(1000, 1000), (1001, 1001)] (hc_history_For_1 c0 c1 hv2) rfl (by (simp only [go_sem]) <;> (repeat' with_reducible apply And.intro) <;> first | assumption | rfl | omega | (unfold maxLen; omega)) (by (simp only [go_sem]) <;> (repeat' with_reducible apply And.intro) <;> first | assumption | rfl | omega | (unfold maxLen; omega)) [(12, .bool v0)] [(1000, .box 23 [.sl Y1 c0]), (1001, .box 22 [.sl Y0 c1])] (by (simp only [go_sem]) <;> (repeat' with_reducible apply And.intro) <;> first | assumption | rfl | omega | (unfold maxLen; omega)) ?_
  refine AO.allF tab_ok (by decide) [(4, .bool v0), (5, .int .i64 0)] [(1000, .box 23 [.sl Y1 c0]), (1001, .box 22 [.sl Y0 c1])] (by (simp only [go_sem]) <;> (repeat' with_reducible apply And.intro) <;> first | assumption | rfl | omega | (unfold maxLen; omega)) ?_
  refine athen_n ?_
  refine AW.ret ?_
  obtain rfl := Option.some.inj h
  exact ⟨rfl, [], [], [], rfl, (by (simp only [go_sem]) <;> (repeat' with_reducible apply And.intro) <;> first | assumption | rfl | omega | (unfold maxLen; omega))⟩

set_option maxRecDepth 100000 in
set_option maxHeartbeats 2000000 in
theorem hc_history_told_5 (err : Int) (c0 : List (Int × Int × Int × Int × Int × Int)) (c1 : List (Int × Int × (List (List Int)) × (List (List Int)))) (hnz_err : decide (err = 0) = false) {r : Unit} (h : history_told_5 err c0 c1 = some r) : HC Try.prog 58 [(1000, .box 23 [.sl Y1 c0]), (1001, .box 22 [.sl Y0 c1])] [.int .i64 err, .fn (.func 60) [] [.bp 1000 0, .bp 1001 0]] [(1000, .box 23 [.sl Y1 c0]), (1001, .box 22 [.sl Y0 c1])] (.tup [.bool false, .int .i64 err]) := by
  unfold history_told_5 at h
  refine HC.of_body tab_ok (res := [.tmp 4, .tmp 5]) Try.func58 rfl (by kernel_rfl) rfl (nt := 13) rfl (by decide) (by simp) ?_
  refine AW.seq ?_
  refine AW.ops ?_
  refine AO.allF tab_ok (by decide) [(0, .int .i64 err), (1, .fn (.func 60) [] [.bp 1000 0, .bp 1001 0])] [(1000, .box 23 [.sl Y1 c0]), (1001, .box 22 [.sl Y0 c1])] (by (simp only [go_sem, hnz_err]) <;> (repeat' with_reducible apply And.intro) <;> first | assumption | rfl | omega | (unfold maxLen; omega)) ?_
  refine athen_n ?_
  refine AW.seq ?_
  refine AW.seq ?_
  refine AW.ops ?_
  refine AO.allF tab_ok (by decide) [(0, .int .i64 err), (1, .fn (.func 60) [] [.bp 1000 0, .bp 1001 0]), (8, .bool true)] [(1000, .box 23 [.sl Y1 c0]), (1001, .box 22 [.sl Y0 c1])] (by (simp only [go_sem, hnz_err]) <;> (repeat' with_reducible apply And.intro) <;> first | assumption | rfl | omega | (unfold maxLen; omega)) ?_
  refine athen_n ?_
  refine AW.cond (b := true) rfl (fun _ => ?_) (fun hb1 => by cases hb1)
  refine AW.seq ?_
  refine AW.ops ?_
  refine AO.allF tab_ok (by decide) [(0, .int .i64 err), (6, .bool false)] [(1000, .box 23 [.sl Y1 c0]), (1001, .box 22 [.sl Y0 c1])] (by (simp only [go_sem, hnz_err]) <;> (repeat' with_reducible apply And.intro) <;> first | assumption | rfl | omega | (unfold maxLen; omega)) ?_
  refine athen_n ?_
  refine AW.seq ?_
  refine AW.ops ?_
  refine AO.allF tab_ok (by decide) [(4, .bool false), (5, .int .i64 err)] [(1000, .box 23 [.sl Y1 c0]), (1001, .box 22 [.sl Y0 c1])] (by (simp only [go_sem, hnz_err]) <;> (repeat' with_reducible apply And.intro) <;> first | assumption | rfl | omega | (unfold maxLen; omega)) ?_
  refine athen_n ?_
  refine AW.ret ?_
  refine athen_r ?_
  obtain rfl := Option.some.inj h
  exact ⟨rfl, [], [], [], rfl, (by (simp only [go_sem, hnz_err]) <;> (repeat' with_reducible apply And.intro) <;> first | assumption | rfl | omega | (unfold maxLen; omega))⟩

set_option maxRecDepth 100000 in
set_option maxHeartbeats 2000000 in
theorem hc_history_For (specs : List (Int × Int × (List (List Int)) × (List (List Int)))) (h0 : List (Int × Int × Int × Int × Int × Int)) {r : Bool × Int} (h : history_For specs h0 = some r) : HC Try.prog 20 [] [.sl Y0 specs, .sl Y1 h0] [] (.tup [.bool r.1, .int .i64 r.2]) := by
  unfold history_For at h
  refine HC.of_body tab_ok (res := [.tmp 4, .tmp 5]) Try.func20 rfl (by kernel_rfl) rfl (nt := 12) rfl (by decide) (by simp) ?_
  refine AW.seq ?_
  refine AW.ops ?_
  refine AO.allF tab_ok (by decide) [(2, .bp 2 0), (3, .bp 3 0)] [(2, .box 22 [.sl Y0 specs]), (3, .box 23 [.sl Y1 h0])] (by (simp only [go_sem]) <;> (repeat' with_reducible apply And.intro) <;> first | assumption | rfl | omega | (unfold maxLen; omega)) ?_
  refine athen_n ?_
  refine AW.seq ?_
  refine AW.ops ?_
  refine AO.segF tab_ok 1 (by decide) [(2, .bp 2 0), (3, .bp 3 0), (6, .sl Y0 specs)] [(2, .box 22 [.sl Y0 specs]), (3, .box 23 [.sl Y1 h0])] (by (simp only [go_sem]) <;> (repeat' with_reducible apply And.intro) <;> first | assumption | rfl | omega | (unfold maxLen; omega)) ?_
  obtain ⟨v0, hv1, h⟩ := Option.bind_eq_some_iff.1 h
  refine AO.call tab_ok (by decide) rfl rfl rfl (fun _ h => h) [] [] (hc_history_checkSpecs specs hv1) rfl (by (simp only [go_sem]) <;> (repeat' with_reducible apply And.intro) <;> first | assumption | rfl | omega | (unfold maxLen; omega)) (by (simp only [go_sem]) <;> (repeat' with_reducible apply And.intro) <;> first | assumption | rfl | omega | (unfold maxLen; omega)) [(2, .bp 2 0), (3, .bp 3 0), (7, .int .i64 v0)] [(2, .box 22 [.sl Y0 specs]), (3, .box 23 [.sl Y1 h0])] (by (simp only [go_sem]) <;> (repeat' with_reducible apply And.intro) <;> first | assumption | rfl | omega | (unfold maxLen; omega)) ?_
  refine AO.segF tab_ok 1 (by decide) [(7, .int .i64 v0), (8, .fn (.func 60) [] [.bp 3 0, .bp 2 0])] [(2, .box 22 [.sl Y0 specs]), (3, .box 23 [.sl Y1 h0])] (by (simp only [go_sem]) <;> (repeat' with_reducible apply And.intro) <;> first | assumption | rfl | omega | (unfold maxLen; omega)) ?_
  rcases Bool.eq_false_or_eq_true (decide (v0 = 0)) with hb2 | hb2
  · rw [if_pos hb2] at h
    have hz3 : v0 = 0 := by simpa using hb2
    refine AO.weaken (s' := ⟨fr [(7, .int .i64 0), (8, .fn (.func 60) [] [.bp 3 0, .bp 2 0])], hpGet [(2, .box 22 [.sl Y0 specs]), (3, .box 23 [.sl Y1 h0])], gt⟩) (Wk.to (by (simp only [go_sem, hb2, hz3]) <;> (repeat' with_reducible apply And.intro) <;> first | assumption | rfl | omega | (unfold maxLen; omega))) ?_
    obtain ⟨v0_2, hv4, h⟩ := Option.bind_eq_some_iff.1 h
    refine AO.call tab_ok (by decide) rfl rfl rfl (fun _ h => h) [] [(1000, 3), (1001, 2)] (hc_history_told_4 h0 specs hv4) rfl (by (simp only [go_sem, hb2, hz3]) <;> (repeat' with_reducible apply And.intro) <;> first | assumption | rfl | omega | (unfold maxLen; omega)) (by (simp only [go_sem, hb2, hz3]) <;> (repeat' with_reducible apply And.intro) <;> first | assumption | rfl | omega | (unfold maxLen; omega)) [(9, .tup [.bool v0_2, .int .i64 0])] [] (by (simp only [go_sem, hb2, hz3]) <;> (repeat' with_reducible apply And.intro) <;> first | assumption | rfl | omega | (unfold maxLen; omega)) ?_
    refine AO.allF tab_ok (by decide) [(4, .bool v0_2), (5, .int .i64 0)] [] (by (simp only [go_sem, hb2, hz3]) <;> (repeat' with_reducible apply And.intro) <;> first | assumption | rfl | omega | (unfold maxLen; omega)) ?_
    refine athen_n ?_
    refine AW.ret ?_
    obtain rfl := Option.some.inj h
    exact ⟨rfl, [], [], [], rfl, (by (simp only [go_sem, hb2, hz3]) <;> (repeat' with_reducible apply And.intro) <;> first | assumption | rfl | omega | (unfold maxLen; omega))⟩
  · rw [if_neg (Bool.eq_false_iff.1 hb2)] at h
    refine AO.weaken (s' := ⟨fr [(7, .int .i64 v0), (8, .fn (.func 60) [] [.bp 3 0, .bp 2 0])], hpGet [(2, .box 22 [.sl Y0 specs]), (3, .box 23 [.sl Y1 h0])], gt⟩) (Wk.to (by (simp only [go_sem, hb2]) <;> (repeat' with_reducible apply And.intro) <;> first | assumption | rfl | omega | (unfold maxLen; omega))) ?_
    obtain ⟨v0_3, hv5, h⟩ := Option.bind_eq_some_iff.1 h
    refine AO.call tab_ok (by decide) rfl rfl rfl (fun _ h => h) [] [(1000, 3), (1001, 2)] (hc_history_told_5 v0 h0 specs hb2 hv5) rfl (by (simp only [go_sem, hb2]) <;> (repeat' with_reducible apply And.intro) <;> first | assumption | rfl | omega | (unfold maxLen; omega)) (by (simp only [go_sem, hb2]) <;> (repeat' with_reducible apply And.intro) <;> first | assumption | rfl | omega | (unfold maxLen; omega)) [(9, .tup [.bool false, .int .i64 v0])] [] (by (simp only [go_sem, hb2]) <;> (repeat' with_reducible apply And.intro) <;> first | assumption | rfl | omega | (unfold maxLen; omega)) ?_
    refine AO.allF tab_ok (by decide) [(4, .bool false), (5, .int .i64 v0)] [] (by (simp only [go_sem, hb2]) <;> (repeat' with_reducible apply And.intro) <;> first | assumption | rfl | omega | (unfold maxLen; omega)) ?_
    refine athen_n ?_
    refine AW.ret ?_
    obtain rfl := Option.some.inj h
    exact ⟨rfl, [], [], [], rfl, (by (simp only [go_sem, hb2]) <;> (repeat' with_reducible apply And.intro) <;> first | assumption | rfl | omega | (unfold maxLen; omega))⟩

set_option maxRecDepth 100000 in
set_option maxHeartbeats 2000000 in
theorem hc_history_width_1 (c : Int × Int × Int × Int × Int × Int) (a1 : Int × Int × Int × Int × Int × Int) {r : Bool} (h : history_width_1 c a1 = some r) : HC Try.prog 121 [(1000, .box 55 [.int .i64 a1.1, .int .i64 a1.2.1, .int .i64 a1.2.2.1, .int .i64 a1.2.2.2.1, .int .i64 a1.2.2.2.2.1, .int .i64 a1.2.2.2.2.2])] [.agg [.int .i64 c.1, .int .i64 c.2.1, .int .i64 c.2.2.1, .int .i64 c.2.2.2.1, .int .i64 c.2.2.2.2.1, .int .i64 c.2.2.2.2.2], .bp 1000 0] [(1000, .box 55 [.int .i64 a1.1, .int .i64 a1.2.1, .int .i64 a1.2.2.1, .int .i64 a1.2.2.2.1, .int .i64 a1.2.2.2.2.1, .int .i64 a1.2.2.2.2.2])] (.bool r) := by
  unfold history_width_1 at h
  refine HC.of_body tab_ok (res := [.tmp 3]) Try.func121 rfl (by kernel_rfl) rfl (nt := 21) rfl (by decide) (by simp) ?_
  refine AW.seq ?_
  refine AW.ops ?_
  refine AO.allF tab_ok (by decide) [(1, .bp 1000 0), (2, .bp 2 0)] [(2, .box 55 [.int .i64 c.1, .int .i64 c.2.1, .int .i64 c.2.2.1, .int .i64 c.2.2.2.1, .int .i64 c.2.2.2.2.1, .int .i64 c.2.2.2.2.2]), (1000, .box 55 [.int .i64 a1.1, .int .i64 a1.2.1, .int .i64 a1.2.2.1, .int .i64 a1.2.2.2.1, .int .i64 a1.2.2.2.2.1, .int .i64 a1.2.2.2.2.2])] (by (simp only [go_sem]) <;> (repeat' with_reducible apply And.intro) <;> first | assumption | rfl | omega | (unfold maxLen; omega)) ?_
  refine athen_n ?_
  refine AW.seq ?_
  refine AW.ops ?_
  refine AO.segF tab_ok 6 (by decide) [(1, .bp 1000 0), (2, .bp 2 0), (9, .bool (decide (c.2.2.2.2.1 ≤ a1.2.2.2.2.1)))] [(2, .box 55 [.int .i64 c.1, .int .i64 c.2.1, .int .i64 c.2.2.1, .int .i64 c.2.2.2.1, .int .i64 c.2.2.2.2.1, .int .i64 c.2.2.2.2.2]), (1000, .box 55 [.int .i64 a1.1, .int .i64 a1.2.1, .int .i64 a1.2.2.1, .int .i64 a1.2.2.2.1, .int .i64 a1.2.2.2.2.1, .int .i64 a1.2.2.2.2.2])] (by (simp only [go_sem]) <;> (repeat' with_reducible apply And.intro) <;> first | assumption | rfl | omega | (unfold maxLen; omega)) ?_
  rcases Bool.eq_false_or_eq_true (decide (c.2.2.2.2.1 ≤ a1.2.2.2.2.1)) with hb1 | hb1
  · rw [if_pos hb1] at h
    refine AO.weaken (s' := ⟨fr [(1, .bp 1000 0), (2, .bp 2 0), (9, .bool true)], hpGet [(2, .box 55 [.int .i64 c.1, .int .i64 c.2.1, .int .i64 c.2.2.1, .int .i64 c.2.2.2.1, .int .i64 c.2.2.2.2.1, .int .i64 c.2.2.2.2.2]), (1000, .box 55 [.int .i64 a1.1, .int .i64 a1.2.1, .int .i64 a1.2.2.1, .int .i64 a1.2.2.2.1, .int .i64 a1.2.2.2.2.1, .int .i64 a1.2.2.2.2.2])], gt⟩) (Wk.to (by (simp only [go_sem, hb1]) <;> (repeat' with_reducible apply And.intro) <;> first | assumption | rfl | omega | (unfold maxLen; omega))) ?_
    refine AO.segF tab_ok 4 (by decide) [(1, .bp 1000 0), (2, .bp 2 0), (9, .bool true), (13, .bool (decide (c.2.2.2.2.2 = 0)))] [(2, .box 55 [.int .i64 c.1, .int .i64 c.2.1, .int .i64 c.2.2.1, .int .i64 c.2.2.2.1, .int .i64 c.2.2.2.2.1, .int .i64 c.2.2.2.2.2]), (1000, .box 55 [.int .i64 a1.1, .int .i64 a1.2.1, .int .i64 a1.2.2.1, .int .i64 a1.2.2.2.1, .int .i64 a1.2.2.2.2.1, .int .i64 a1.2.2.2.2.2])] (by (simp only [go_sem, hb1]) <;> (repeat' with_reducible apply And.intro) <;> first | assumption | rfl | omega | (unfold maxLen; omega)) ?_
    rcases Bool.eq_false_or_eq_true (decide (c.2.2.2.2.2 = 0)) with hb2 | hb2
    · rw [if_pos hb2] at h
      refine AO.weaken (s' := ⟨fr [(1, .bp 1000 0), (2, .bp 2 0), (9, .bool true), (13, .bool true)], hpGet [(2, .box 55 [.int .i64 c.1, .int .i64 c.2.1, .int .i64 c.2.2.1, .int .i64 c.2.2.2.1, .int .i64 c.2.2.2.2.1, .int .i64 c.2.2.2.2.2]), (1000, .box 55 [.int .i64 a1.1, .int .i64 a1.2.1, .int .i64 a1.2.2.1, .int .i64 a1.2.2.2.1, .int .i64 a1.2.2.2.2.1, .int .i64 a1.2.2.2.2.2])], gt⟩) (Wk.to (by (simp only [go_sem, hb1, hb2]) <;> (repeat' with_reducible apply And.intro) <;> first | assumption | rfl | omega | (unfold maxLen; omega))) ?_
      refine AO.segF tab_ok 4 (by decide) [(9, .bool true), (13, .bool true), (15, .cv (undef)), (17, .cv (undef))] [(1000, .box 55 [.int .i64 a1.1, .int .i64 a1.2.1, .int .i64 a1.2.2.1, .int .i64 a1.2.2.2.1, .int .i64 a1.2.2.2.2.1, .int .i64 a1.2.2.2.2.2])] (by (simp only [go_sem, hb1, hb2]) <;> (repeat' with_reducible apply And.intro) <;> first | assumption | rfl | omega | (unfold maxLen; omega)) ?_
      refine AO.allF tab_ok (by decide) [(3, .bool true)] [(1000, .box 55 [.int .i64 a1.1, .int .i64 a1.2.1, .int .i64 a1.2.2.1, .int .i64 a1.2.2.2.1, .int .i64 a1.2.2.2.2.1, .int .i64 a1.2.2.2.2.2])] (by (simp only [go_sem, hb1, hb2]) <;> (repeat' with_reducible apply And.intro) <;> first | assumption | rfl | omega | (unfold maxLen; omega)) ?_
      refine athen_n ?_
      refine AW.ret ?_
      obtain rfl := Option.some.inj h
      exact ⟨rfl, [], [], [], rfl, (by (simp only [go_sem, hb1, hb2]) <;> (repeat' with_reducible apply And.intro) <;> first | assumption | rfl | omega | (unfold maxLen; omega))⟩
    · rw [if_neg (Bool.eq_false_iff.1 hb2)] at h
      refine AO.weaken (s' := ⟨fr [(1, .bp 1000 0), (2, .bp 2 0), (9, .bool true), (13, .bool false)], hpGet [(2, .box 55 [.int .i64 c.1, .int .i64 c.2.1, .int .i64 c.2.2.1, .int .i64 c.2.2.2.1, .int .i64 c.2.2.2.2.1, .int .i64 c.2.2.2.2.2]), (1000, .box 55 [.int .i64 a1.1, .int .i64 a1.2.1, .int .i64 a1.2.2.1, .int .i64 a1.2.2.2.1, .int .i64 a1.2.2.2.2.1, .int .i64 a1.2.2.2.2.2])], gt⟩) (Wk.to (by (simp only [go_sem, hb1, hb2]) <;> (repeat' with_reducible apply And.intro) <;> first | assumption | rfl | omega | (unfold maxLen; omega))) ?_
      refine AO.allF tab_ok (by decide) [(3, .bool (decide (a1.2.2.2.2.1 ≤ c.2.2.2.2.2)))] [(1000, .box 55 [.int .i64 a1.1, .int .i64 a1.2.1, .int .i64 a1.2.2.1, .int .i64 a1.2.2.2.1, .int .i64 a1.2.2.2.2.1, .int .i64 a1.2.2.2.2.2])] (by (simp only [go_sem, hb1, hb2]) <;> (repeat' with_reducible apply And.intro) <;> first | assumption | rfl | omega | (unfold maxLen; omega)) ?_
      refine athen_n ?_
      refine AW.ret ?_
      obtain rfl := Option.some.inj h
      exact ⟨rfl, [], [], [], rfl, (by (simp only [go_sem, hb1, hb2]) <;> (repeat' with_reducible apply And.intro) <;> first | assumption | rfl | omega | (unfold maxLen; omega))⟩
  · rw [if_neg (Bool.eq_false_iff.1 hb1)] at h
    refine AO.weaken (s' := ⟨fr [(1, .bp 1000 0), (2, .bp 2 0), (9, .bool false)], hpGet [(2, .box 55 [.int .i64 c.1, .int .i64 c.2.1, .int .i64 c.2.2.1, .int .i64 c.2.2.2.1, .int .i64 c.2.2.2.2.1, .int .i64 c.2.2.2.2.2]), (1000, .box 55 [.int .i64 a1.1, .int .i64 a1.2.1, .int .i64 a1.2.2.1, .int .i64 a1.2.2.2.1, .int .i64 a1.2.2.2.2.1, .int .i64 a1.2.2.2.2.2])], gt⟩) (Wk.to (by (simp only [go_sem, hb1]) <;> (repeat' with_reducible apply And.intro) <;> first | assumption | rfl | omega | (unfold maxLen; omega))) ?_
    refine AO.segF tab_ok 4 (by decide) [(1, .bp 1000 0), (2, .bp 2 0), (9, .bool false), (13, .cv (undef))] [(2, .box 55 [.int .i64 c.1, .int .i64 c.2.1, .int .i64 c.2.2.1, .int .i64 c.2.2.2.1, .int .i64 c.2.2.2.2.1, .int .i64 c.2.2.2.2.2]), (1000, .box 55 [.int .i64 a1.1, .int .i64 a1.2.1, .int .i64 a1.2.2.1, .int .i64 a1.2.2.2.1, .int .i64 a1.2.2.2.2.1, .int .i64 a1.2.2.2.2.2])] (by (simp only [go_sem, hb1]) <;> (repeat' with_reducible apply And.intro) <;> first | assumption | rfl | omega | (unfold maxLen; omega)) ?_
    refine AO.segF tab_ok 4 (by decide) [(9, .bool false), (13, .cv (undef)), (15, .cv (undef)), (17, .cv (undef))] [(1000, .box 55 [.int .i64 a1.1, .int .i64 a1.2.1, .int .i64 a1.2.2.1, .int .i64 a1.2.2.2.1, .int .i64 a1.2.2.2.2.1, .int .i64 a1.2.2.2.2.2])] (by (simp only [go_sem, hb1]) <;> (repeat' with_reducible apply And.intro) <;> first | assumption | rfl | omega | (unfold maxLen; omega)) ?_
    refine AO.allF tab_ok (by decide) [(3, .bool false)] [(1000, .box 55 [.int .i64 a1.1, .int .i64 a1.2.1, .int .i64 a1.2.2.1, .int .i64 a1.2.2.2.1, .int .i64 a1.2.2.2.2.1, .int .i64 a1.2.2.2.2.2])] (by (simp only [go_sem, hb1]) <;> (repeat' with_reducible apply And.intro) <;> first | assumption | rfl | omega | (unfold maxLen; omega)) ?_
    refine athen_n ?_
    refine AW.ret ?_
    obtain rfl := Option.some.inj h
    exact ⟨rfl, [], [], [], rfl, (by (simp only [go_sem, hb1]) <;> (repeat' with_reducible apply And.intro) <;> first | assumption | rfl | omega | (unfold maxLen; omega))⟩

set_option maxRecDepth 100000 in
set_option maxHeartbeats 2000000 in
theorem hc_history_those (h0 : List (Int × Int × Int × Int × Int × Int)) (c0 : Int × Int × Int × Int × Int × Int) {r : (List (Int × Int × Int × Int × Int × Int))} (h : history_those h0 c0 = some r) : HC Try.prog 101 [(1000, .box 55 [.int .i64 c0.1, .int .i64 c0.2.1, .int .i64 c0.2.2.1, .int .i64 c0.2.2.2.1, .int .i64 c0.2.2.2.2.1, .int .i64 c0.2.2.2.2.2])] [.sl Y1 h0, .fn (.func 121) [] [.bp 1000 0]] [(1000, .box 55 [.int .i64 c0.1, .int .i64 c0.2.1, .int .i64 c0.2.2.1, .int .i64 c0.2.2.2.1, .int .i64 c0.2.2.2.2.1, .int .i64 c0.2.2.2.2.2]), (2000, .arr 55 Y1 r)] (.own 2000) := by
  unfold history_those at h
  refine HC.of_body tab_ok (res := [.tmp 4]) Try.func101 rfl (by kernel_rfl) rfl (nt := 23) rfl (by decide) (by simp) ?_
  refine AW.seq ?_
  refine AW.ops ?_
  refine AO.allF tab_ok (by decide) [(0, .sl Y1 h0), (1, .fn (.func 121) [] [.bp 1000 0])] [(1000, .box 55 [.int .i64 c0.1, .int .i64 c0.2.1, .int .i64 c0.2.2.1, .int .i64 c0.2.2.2.1, .int .i64 c0.2.2.2.2.1, .int .i64 c0.2.2.2.2.2])] (by (simp only [go_sem]) <;> (repeat' with_reducible apply And.intro) <;> first | assumption | rfl | omega | (unfold maxLen; omega)) ?_
  refine athen_n ?_
  refine AW.seq ?_
  refine AW.ops ?_
  refine AO.allF tab_ok (by decide) [(0, .sl Y1 h0), (1, .fn (.func 121) [] [.bp 1000 0]), (5, .cv (.slice none 0 0))] [(1000, .box 55 [.int .i64 c0.1, .int .i64 c0.2.1, .int .i64 c0.2.2.1, .int .i64 c0.2.2.2.1, .int .i64 c0.2.2.2.2.1, .int .i64 c0.2.2.2.2.2])] (by (simp only [go_sem]) <;> (repeat' with_reducible apply And.intro) <;> first | assumption | rfl | omega | (unfold maxLen; omega)) ?_
  refine athen_n ?_
  refine AW.have1 (fun b1 : (List (Int × Int × Int × Int × Int × Int)) => history_those_k1 b1 = some r) (fun b1 => ⟨fr [(5, .own 20)], hpGet [(20, .arr 55 Y1 b1), (1000, .box 55 [.int .i64 c0.1, .int .i64 c0.2.1, .int .i64 c0.2.2.1, .int .i64 c0.2.2.2.1, .int .i64 c0.2.2.2.2.1, .int .i64 c0.2.2.2.2.2])], gt⟩) (fun b1 h => ?_) (fun hk_history_those_k1 => ?_)
  · unfold history_those_k1 at h
    refine AW.seq ?_
    refine AW.ops ?_
    refine AO.allF tab_ok (by decide) [(4, .own 20)] [(20, .arr 55 Y1 b1), (1000, .box 55 [.int .i64 c0.1, .int .i64 c0.2.1, .int .i64 c0.2.2.1, .int .i64 c0.2.2.2.1, .int .i64 c0.2.2.2.2.1, .int .i64 c0.2.2.2.2.2])] (by (simp only [go_sem]) <;> (repeat' with_reducible apply And.intro) <;> first | assumption | rfl | omega | (unfold maxLen; omega)) ?_
    refine athen_n ?_
    refine AW.ret ?_
    obtain rfl := Option.some.inj h
    exact ⟨rfl, [], [], [(2000, 20)], rfl, (by (simp only [go_sem]) <;> (repeat' with_reducible apply And.intro) <;> first | assumption | rfl | omega | (unfold maxLen; omega))⟩
  · refine AW.seq ?_
    refine AW.seq ?_
    refine AW.ops ?_
    refine AO.allF tab_ok (by decide) [(1, .fn (.func 121) [] [.bp 1000 0]), (5, .cv (.slice none 0 0)), (8, .sl Y1 h0), (9, .int .i64 (h0.length : Int)), (10, .int .i64 0)] [(1000, .box 55 [.int .i64 c0.1, .int .i64 c0.2.1, .int .i64 c0.2.2.1, .int .i64 c0.2.2.2.1, .int .i64 c0.2.2.2.2.1, .int .i64 c0.2.2.2.2.2])] (by (simp only [go_sem]) <;> (repeat' with_reducible apply And.intro) <;> first | assumption | rfl | omega | (unfold maxLen; omega)) ?_
    refine athen_n ?_
    refine AW.block ?_
    obtain ⟨rv5, hw1, ho2⟩ := Option.bind_eq_some_iff.1 h
    refine AW.loopO (history_those_b1 h0 c0) (fun st1 => ⟨fr [(1, .fn (.func 121) [] [.bp 1000 0]), (5, .own 20), (8, .sl Y1 h0), (9, .int .i64 (h0.length : Int)), (10, .int .i64 st1.2)], hpGet [(20, .arr 55 Y1 st1.1), (1000, .box 55 [.int .i64 c0.1, .int .i64 c0.2.1, .int .i64 c0.2.2.1, .int .i64 c0.2.2.2.1, .int .i64 c0.2.2.2.2.1, .int .i64 c0.2.2.2.2.2])], gt⟩) ([], 0) hw1 (Wk.le [] [20] [] rfl (by (simp only [go_sem]) <;> (repeat' with_reducible apply And.intro) <;> first | assumption | rfl | omega | (unfold maxLen; omega)) (by (simp only [go_sem]) <;> (repeat' with_reducible apply And.intro) <;> first | assumption | rfl | omega | (unfold maxLen; omega))) ?_
    intro st1 x4 h hd3
    unfold history_those_b1 at h
    refine AW.seq ?_
    refine AW.ops ?_
    refine AO.allF tab_ok (by decide) [(1, .fn (.func 121) [] [.bp 1000 0]), (5, .own 20), (8, .sl Y1 h0), (9, .int .i64 (h0.length : Int)), (10, .int .i64 st1.2), (11, .bool (decide (st1.2 < (h0.length : Int))))] [(20, .arr 55 Y1 st1.1), (1000, .box 55 [.int .i64 c0.1, .int .i64 c0.2.1, .int .i64 c0.2.2.1, .int .i64 c0.2.2.2.1, .int .i64 c0.2.2.2.2.1, .int .i64 c0.2.2.2.2.2])] (by (simp only [go_sem]) <;> (repeat' with_reducible apply And.intro) <;> first | assumption | rfl | omega | (unfold maxLen; omega)) ?_
    refine athen_n ?_
    refine AW.seq ?_
    refine AW.cond (b := (decide (st1.2 < (h0.length : Int)))) rfl (fun hb6 => ?_) (fun hb6 => ?_)
    · rw [if_pos hb6] at h
      refine AW.skip ?_
      refine athen_n ?_
      refine AW.seq ?_
      refine AW.block ?_
      refine AW.seq ?_
      refine AW.ops ?_
      obtain ⟨c7, h⟩ := ck_some.1 h
      obtain ⟨c8, h⟩ := ck_some.1 h
      refine AO.allF tab_ok (by decide) [(1, .fn (.func 121) [] [.bp 1000 0]), (5, .own 20), (7, .bp 7 0), (8, .sl Y1 h0), (9, .int .i64 (h0.length : Int)), (10, .int .i64 st1.2)] [(7, .box 55 [.int .i64 (h0.getD st1.2.toNat (0, 0, 0, 0, 0, 0)).1, .int .i64 (h0.getD st1.2.toNat (0, 0, 0, 0, 0, 0)).2.1, .int .i64 (h0.getD st1.2.toNat (0, 0, 0, 0, 0, 0)).2.2.1, .int .i64 (h0.getD st1.2.toNat (0, 0, 0, 0, 0, 0)).2.2.2.1, .int .i64 (h0.getD st1.2.toNat (0, 0, 0, 0, 0, 0)).2.2.2.2.1, .int .i64 (h0.getD st1.2.toNat (0, 0, 0, 0, 0, 0)).2.2.2.2.2]), (20, .arr 55 Y1 st1.1), (1000, .box 55 [.int .i64 c0.1, .int .i64 c0.2.1, .int .i64 c0.2.2.1, .int .i64 c0.2.2.2.1, .int .i64 c0.2.2.2.2.1, .int .i64 c0.2.2.2.2.2])] (by (simp only [go_sem, hb6]) <;> (repeat' with_reducible apply And.intro) <;> first | assumption | rfl | omega | (unfold maxLen; omega)) ?_
      refine athen_n ?_
      refine AW.seq ?_
      refine AW.ops ?_
      refine AO.segF tab_ok 2 (by decide) [(1, .fn (.func 121) [] [.bp 1000 0]), (5, .own 20), (7, .bp 7 0), (8, .sl Y1 h0), (9, .int .i64 (h0.length : Int)), (10, .int .i64 st1.2), (14, .fn (.func 121) [] [.bp 1000 0]), (15, .agg [.int .i64 (h0.getD st1.2.toNat (0, 0, 0, 0, 0, 0)).1, .int .i64 (h0.getD st1.2.toNat (0, 0, 0, 0, 0, 0)).2.1, .int .i64 (h0.getD st1.2.toNat (0, 0, 0, 0, 0, 0)).2.2.1, .int .i64 (h0.getD st1.2.toNat (0, 0, 0, 0, 0, 0)).2.2.2.1, .int .i64 (h0.getD st1.2.toNat (0, 0, 0, 0, 0, 0)).2.2.2.2.1, .int .i64 (h0.getD st1.2.toNat (0, 0, 0, 0, 0, 0)).2.2.2.2.2])] [(7, .box 55 [.int .i64 (h0.getD st1.2.toNat (0, 0, 0, 0, 0, 0)).1, .int .i64 (h0.getD st1.2.toNat (0, 0, 0, 0, 0, 0)).2.1, .int .i64 (h0.getD st1.2.toNat (0, 0, 0, 0, 0, 0)).2.2.1, .int .i64 (h0.getD st1.2.toNat (0, 0, 0, 0, 0, 0)).2.2.2.1, .int .i64 (h0.getD st1.2.toNat (0, 0, 0, 0, 0, 0)).2.2.2.2.1, .int .i64 (h0.getD st1.2.toNat (0, 0, 0, 0, 0, 0)).2.2.2.2.2]), (20, .arr 55 Y1 st1.1), (1000, .box 55 [.int .i64 c0.1, .int .i64 c0.2.1, .int .i64 c0.2.2.1, .int .i64 c0.2.2.2.1, .int .i64 c0.2.2.2.2.1, .int .i64 c0.2.2.2.2.2])] (by (simp only [go_sem, hb6]) <;> (repeat' with_reducible apply And.intro) <;> first | assumption | rfl | omega | (unfold maxLen; omega)) ?_
      obtain ⟨v0, hv9, h⟩ := Option.bind_eq_some_iff.1 h
      refine AO.call tab_ok (by decide) rfl rfl rfl (fun _ h => h) [] [(1000, 1000)] (hc_history_width_1 (h0.getD st1.2.toNat (0, 0, 0, 0, 0, 0)) c0 hv9) rfl (by (simp only [go_sem, hb6]) <;> (repeat' with_reducible apply And.intro) <;> first | assumption | rfl | omega | (unfold maxLen; omega)) (by (simp only [go_sem, hb6]) <;> (repeat' with_reducible apply And.intro) <;> first | assumption | rfl | omega | (unfold maxLen; omega)) [(1, .fn (.func 121) [] [.bp 1000 0]), (5, .own 20), (7, .bp 7 0), (8, .sl Y1 h0), (9, .int .i64 (h0.length : Int)), (10, .int .i64 st1.2), (16, .bool v0)] [(7, .box 55 [.int .i64 (h0.getD st1.2.toNat (0, 0, 0, 0, 0, 0)).1, .int .i64 (h0.getD st1.2.toNat (0, 0, 0, 0, 0, 0)).2.1, .int .i64 (h0.getD st1.2.toNat (0, 0, 0, 0, 0, 0)).2.2.1, .int .i64 (h0.getD st1.2.toNat (0, 0, 0, 0, 0, 0)).2.2.2.1, .int .i64 (h0.getD st1.2.toNat (0, 0, 0, 0, 0, 0)).2.2.2.2.1, .int .i64 (h0.getD st1.2.toNat (0, 0, 0, 0, 0, 0)).2.2.2.2.2]), (20, .arr 55 Y1 st1.1), (1000, .box 55 [.int .i64 c0.1, .int .i64 c0.2.1, .int .i64 c0.2.2.1, .int .i64 c0.2.2.2.1, .int .i64 c0.2.2.2.2.1, .int .i64 c0.2.2.2.2.2])] (by (simp only [go_sem, hb6]) <;> (repeat' with_reducible apply And.intro) <;> first | assumption | rfl | omega | (unfold maxLen; omega)) ?_
      refine AO.allF tab_ok (by decide) [(1, .fn (.func 121) [] [.bp 1000 0]), (5, .own 20), (7, .bp 7 0), (8, .sl Y1 h0), (9, .int .i64 (h0.length : Int)), (10, .int .i64 st1.2), (16, .bool v0)] [(7, .box 55 [.int .i64 (h0.getD st1.2.toNat (0, 0, 0, 0, 0, 0)).1, .int .i64 (h0.getD st1.2.toNat (0, 0, 0, 0, 0, 0)).2.1, .int .i64 (h0.getD st1.2.toNat (0, 0, 0, 0, 0, 0)).2.2.1, .int .i64 (h0.getD st1.2.toNat (0, 0, 0, 0, 0, 0)).2.2.2.1, .int .i64 (h0.getD st1.2.toNat (0, 0, 0, 0, 0, 0)).2.2.2.2.1, .int .i64 (h0.getD st1.2.toNat (0, 0, 0, 0, 0, 0)).2.2.2.2.2]), (20, .arr 55 Y1 st1.1), (1000, .box 55 [.int .i64 c0.1, .int .i64 c0.2.1, .int .i64 c0.2.2.1, .int .i64 c0.2.2.2.1, .int .i64 c0.2.2.2.2.1, .int .i64 c0.2.2.2.2.2])] (by (simp only [go_sem, hb6]) <;> (repeat' with_reducible apply And.intro) <;> first | assumption | rfl | omega | (unfold maxLen; omega)) ?_
      refine athen_n ?_
      refine AW.cond (b := v0) rfl (fun hb10 => ?_) (fun hb10 => ?_)
      · rw [if_pos hb10] at h
        refine AW.ops ?_
        obtain ⟨c11, h⟩ := ck_some.1 h
        refine AO.allF tab_ok (by decide) [(1, .fn (.func 121) [] [.bp 1000 0]), (5, .own 20), (8, .sl Y1 h0), (9, .int .i64 (h0.length : Int)), (10, .int .i64 st1.2)] [(20, .arr 55 Y1 (st1.1 ++ [(h0.getD st1.2.toNat (0, 0, 0, 0, 0, 0))])), (1000, .box 55 [.int .i64 c0.1, .int .i64 c0.2.1, .int .i64 c0.2.2.1, .int .i64 c0.2.2.2.1, .int .i64 c0.2.2.2.2.1, .int .i64 c0.2.2.2.2.2])] (by (simp only [go_sem, hb6, hb10]) <;> (repeat' with_reducible apply And.intro) <;> first | assumption | rfl | omega | (unfold maxLen; omega)) ?_
        refine ablock_n ?_
        refine athen_n ?_
        refine AW.ops ?_
        obtain ⟨c12, h⟩ := ck_some.1 h
        refine AO.allF tab_ok (by decide) [(1, .fn (.func 121) [] [.bp 1000 0]), (5, .own 20), (8, .sl Y1 h0), (9, .int .i64 (h0.length : Int)), (10, .int .i64 (st1.2 + 1))] [(20, .arr 55 Y1 (st1.1 ++ [(h0.getD st1.2.toNat (0, 0, 0, 0, 0, 0))])), (1000, .box 55 [.int .i64 c0.1, .int .i64 c0.2.1, .int .i64 c0.2.2.1, .int .i64 c0.2.2.2.1, .int .i64 c0.2.2.2.2.1, .int .i64 c0.2.2.2.2.2])] (by (simp only [go_sem, hb6, hb10]) <;> (repeat' with_reducible apply And.intro) <;> first | assumption | rfl | omega | (unfold maxLen; omega)) ?_
        obtain rfl := Option.some.inj h
        exact ⟨_, rfl, Wk.le [] [] [] rfl (by (simp only [go_sem, hb6, hb10]) <;> (repeat' with_reducible apply And.intro) <;> first | assumption | rfl | omega | (unfold maxLen; omega)) (by (simp only [go_sem, hb6, hb10]) <;> (repeat' with_reducible apply And.intro) <;> first | assumption | rfl | omega | (unfold maxLen; omega))⟩
      · rw [if_neg (Bool.eq_false_iff.1 hb10)] at h
        refine AW.skip ?_
        refine ablock_n ?_
        refine athen_n ?_
        refine AW.ops ?_
        obtain ⟨c13, h⟩ := ck_some.1 h
        refine AO.allF tab_ok (by decide) [(1, .fn (.func 121) [] [.bp 1000 0]), (5, .own 20), (8, .sl Y1 h0), (9, .int .i64 (h0.length : Int)), (10, .int .i64 (st1.2 + 1))] [(20, .arr 55 Y1 st1.1), (1000, .box 55 [.int .i64 c0.1, .int .i64 c0.2.1, .int .i64 c0.2.2.1, .int .i64 c0.2.2.2.1, .int .i64 c0.2.2.2.2.1, .int .i64 c0.2.2.2.2.2])] (by (simp only [go_sem, hb6, hb10]) <;> (repeat' with_reducible apply And.intro) <;> first | assumption | rfl | omega | (unfold maxLen; omega)) ?_
        obtain rfl := Option.some.inj h
        exact ⟨_, rfl, Wk.le [] [] [] rfl (by (simp only [go_sem, hb6, hb10]) <;> (repeat' with_reducible apply And.intro) <;> first | assumption | rfl | omega | (unfold maxLen; omega)) (by (simp only [go_sem, hb6, hb10]) <;> (repeat' with_reducible apply And.intro) <;> first | assumption | rfl | omega | (unfold maxLen; omega))⟩
    · rw [if_neg (Bool.eq_false_iff.1 hb6)] at h
      refine AW.exit ?_
      refine athen_e ?_
      obtain rfl := Option.some.inj h
      rw [← hd3 _ rfl] at ho2
      have h := ho2
      refine athen_e ?_
      refine ablock_s ?_
      refine athen_n ?_
      exact AW.weaken (Wk.le [] [] [] rfl (by (simp only [go_sem, hb6]) <;> (repeat' with_reducible apply And.intro) <;> first | assumption | rfl | omega | (unfold maxLen; omega)) (by (simp only [go_sem, hb6]) <;> (repeat' with_reducible apply And.intro) <;> first | assumption | rfl | omega | (unfold maxLen; omega))) (hk_history_those_k1 _ h)

set_option maxRecDepth 100000 in
set_option maxHeartbeats 2000000 in
theorem hc_history_width (h0 : List (Int × Int × Int × Int × Int × Int)) {r : Int} (h : history_width h0 = some r) : HC Try.prog 108 [] [.sl Y1 h0] [] (.int .i64 r) := by
  unfold history_width at h
  refine HC.of_body tab_ok (res := [.tmp 2]) Try.func108 rfl (by kernel_rfl) rfl (nt := 22) rfl (by decide) (by simp) ?_
  refine AW.seq ?_
  refine AW.ops ?_
  refine AO.allF tab_ok (by decide) [(0, .sl Y1 h0)] [] (by (simp only [go_sem]) <;> (repeat' with_reducible apply And.intro) <;> first | assumption | rfl | omega | (unfold maxLen; omega)) ?_
  refine athen_n ?_
  refine AW.seq ?_
  refine AW.ops ?_
  refine AO.allF tab_ok (by decide) [(0, .sl Y1 h0), (3, .int .i64 0)] [] (by (simp only [go_sem]) <;> (repeat' with_reducible apply And.intro) <;> first | assumption | rfl | omega | (unfold maxLen; omega)) ?_
  refine athen_n ?_
  refine AW.have1 (fun b1 : Int => history_width_k1 b1 = some r) (fun b1 => ⟨fr [(3, .int .i64 b1)], hpGet [], gt⟩) (fun b1 h => ?_) (fun hk_history_width_k1 => ?_)
  · unfold history_width_k1 at h
    refine AW.seq ?_
    refine AW.ops ?_
    refine AO.allF tab_ok (by decide) [(2, .int .i64 b1)] [] (by (simp only [go_sem]) <;> (repeat' with_reducible apply And.intro) <;> first | assumption | rfl | omega | (unfold maxLen; omega)) ?_
    refine athen_n ?_
    refine AW.ret ?_
    obtain rfl := Option.some.inj h
    exact ⟨rfl, [], [], [], rfl, (by (simp only [go_sem]) <;> (repeat' with_reducible apply And.intro) <;> first | assumption | rfl | omega | (unfold maxLen; omega))⟩
  · refine AW.seq ?_
    refine AW.seq ?_
    refine AW.ops ?_
    refine AO.allF tab_ok (by decide) [(0, .sl Y1 h0), (3, .int .i64 0), (7, .sl Y1 h0), (8, .int .i64 (h0.length : Int)), (9, .int .i64 0)] [] (by (simp only [go_sem]) <;> (repeat' with_reducible apply And.intro) <;> first | assumption | rfl | omega | (unfold maxLen; omega)) ?_
    refine athen_n ?_
    refine AW.block ?_
    obtain ⟨rv5, hw1, ho2⟩ := Option.bind_eq_some_iff.1 h
    refine AW.loopO (history_width_b1 h0) (fun st1 => ⟨fr [(0, .sl Y1 h0), (3, .int .i64 st1.1), (7, .sl Y1 h0), (8, .int .i64 (h0.length : Int)), (9, .int .i64 st1.2)], hpGet [], gt⟩) (0, 0) hw1 (Wk.le [] [] [] rfl (by (simp only [go_sem]) <;> (repeat' with_reducible apply And.intro) <;> first | assumption | rfl | omega | (unfold maxLen; omega)) (by (simp only [go_sem]) <;> (repeat' with_reducible apply And.intro) <;> first | assumption | rfl | omega | (unfold maxLen; omega))) ?_
    intro st1 x4 h hd3
    unfold history_width_b1 at h
    refine AW.seq ?_
    refine AW.ops ?_
    refine AO.allF tab_ok (by decide) [(0, .sl Y1 h0), (3, .int .i64 st1.1), (7, .sl Y1 h0), (8, .int .i64 (h0.length : Int)), (9, .int .i64 st1.2), (10, .bool (decide (st1.2 < (h0.length : Int))))] [] (by (simp only [go_sem]) <;> (repeat' with_reducible apply And.intro) <;> first | assumption | rfl | omega | (unfold maxLen; omega)) ?_
    refine athen_n ?_
    refine AW.seq ?_
    refine AW.cond (b := (decide (st1.2 < (h0.length : Int)))) rfl (fun hb6 => ?_) (fun hb6 => ?_)
    · rw [if_pos hb6] at h
      refine AW.skip ?_
      refine athen_n ?_
      refine AW.seq ?_
      refine AW.block ?_
      refine AW.seq ?_
      refine AW.ops ?_
      obtain ⟨c7, h⟩ := ck_some.1 h
      obtain ⟨c8, h⟩ := ck_some.1 h
      refine AO.allF tab_ok (by decide) [(0, .sl Y1 h0), (3, .int .i64 st1.1), (5, .bp 5 0), (7, .sl Y1 h0), (8, .int .i64 (h0.length : Int)), (9, .int .i64 st1.2)] [(5, .box 55 [.int .i64 (h0.getD st1.2.toNat (0, 0, 0, 0, 0, 0)).1, .int .i64 (h0.getD st1.2.toNat (0, 0, 0, 0, 0, 0)).2.1, .int .i64 (h0.getD st1.2.toNat (0, 0, 0, 0, 0, 0)).2.2.1, .int .i64 (h0.getD st1.2.toNat (0, 0, 0, 0, 0, 0)).2.2.2.1, .int .i64 (h0.getD st1.2.toNat (0, 0, 0, 0, 0, 0)).2.2.2.2.1, .int .i64 (h0.getD st1.2.toNat (0, 0, 0, 0, 0, 0)).2.2.2.2.2])] (by (simp only [go_sem, hb6]) <;> (repeat' with_reducible apply And.intro) <;> first | assumption | rfl | omega | (unfold maxLen; omega)) ?_
      refine athen_n ?_
      refine AW.seq ?_
      refine AW.ops ?_
      refine AO.segF tab_ok 2 (by decide) [(0, .sl Y1 h0), (3, .int .i64 st1.1), (7, .sl Y1 h0), (8, .int .i64 (h0.length : Int)), (9, .int .i64 st1.2), (13, .sl Y1 h0), (14, .fn (.func 121) [] [.bp 5 0])] [(5, .box 55 [.int .i64 (h0.getD st1.2.toNat (0, 0, 0, 0, 0, 0)).1, .int .i64 (h0.getD st1.2.toNat (0, 0, 0, 0, 0, 0)).2.1, .int .i64 (h0.getD st1.2.toNat (0, 0, 0, 0, 0, 0)).2.2.1, .int .i64 (h0.getD st1.2.toNat (0, 0, 0, 0, 0, 0)).2.2.2.1, .int .i64 (h0.getD st1.2.toNat (0, 0, 0, 0, 0, 0)).2.2.2.2.1, .int .i64 (h0.getD st1.2.toNat (0, 0, 0, 0, 0, 0)).2.2.2.2.2])] (by (simp only [go_sem, hb6]) <;> (repeat' with_reducible apply And.intro) <;> first | assumption | rfl | omega | (unfold maxLen; omega)) ?_
      obtain ⟨v0, hv9, h⟩ := Option.bind_eq_some_iff.1 h
      refine AO.call tab_ok (by decide) rfl rfl rfl (fun _ h => h) [] [(1000, 5)] (hc_history_those h0 (h0.getD st1.2.toNat (0, 0, 0, 0, 0, 0)) hv9) rfl (by (simp only [go_sem, hb6]) <;> (repeat' with_reducible apply And.intro) <;> first | assumption | rfl | omega | (unfold maxLen; omega)) (by (simp only [go_sem, hb6]) <;> (repeat' with_reducible apply And.intro) <;> first | assumption | rfl | omega | (unfold maxLen; omega)) [(0, .sl Y1 h0), (3, .int .i64 st1.1), (7, .sl Y1 h0), (8, .int .i64 (h0.length : Int)), (9, .int .i64 st1.2), (15, .own 25000)] [(25000, .arr 55 Y1 v0)] (by (simp only [go_sem, hb6]) <;> (repeat' with_reducible apply And.intro) <;> first | assumption | rfl | omega | (unfold maxLen; omega)) ?_
      refine AO.allF tab_ok (by decide) [(0, .sl Y1 h0), (3, .int .i64 st1.1), (6, .own 25000), (7, .sl Y1 h0), (8, .int .i64 (h0.length : Int)), (9, .int .i64 st1.2)] [(25000, .arr 55 Y1 v0)] (by (simp only [go_sem, hb6]) <;> (repeat' with_reducible apply And.intro) <;> first | assumption | rfl | omega | (unfold maxLen; omega)) ?_
      refine athen_n ?_
      refine AW.ops ?_
      refine AO.allF tab_ok (by decide) [(0, .sl Y1 h0), (3, .int .i64 (max st1.1 (v0.length : Int))), (7, .sl Y1 h0), (8, .int .i64 (h0.length : Int)), (9, .int .i64 st1.2)] [] (by (simp only [go_sem, hb6]) <;> (repeat' with_reducible apply And.intro) <;> first | assumption | rfl | omega | (unfold maxLen; omega)) ?_
      refine ablock_n ?_
      refine athen_n ?_
      refine AW.ops ?_
      obtain ⟨c10, h⟩ := ck_some.1 h
      refine AO.allF tab_ok (by decide) [(0, .sl Y1 h0), (3, .int .i64 (max st1.1 (v0.length : Int))), (7, .sl Y1 h0), (8, .int .i64 (h0.length : Int)), (9, .int .i64 (st1.2 + 1))] [] (by (simp only [go_sem, hb6]) <;> (repeat' with_reducible apply And.intro) <;> first | assumption | rfl | omega | (unfold maxLen; omega)) ?_
      obtain rfl := Option.some.inj h
      exact ⟨_, rfl, Wk.le [] [] [] rfl (by (simp only [go_sem, hb6]) <;> (repeat' with_reducible apply And.intro) <;> first | assumption | rfl | omega | (unfold maxLen; omega)) (by (simp only [go_sem, hb6]) <;> (repeat' with_reducible apply And.intro) <;> first | assumption | rfl | omega | (unfold maxLen; omega))⟩
    · rw [if_neg (Bool.eq_false_iff.1 hb6)] at h
      refine AW.exit ?_
      refine athen_e ?_
      obtain rfl := Option.some.inj h
      rw [← hd3 _ rfl] at ho2
      have h := ho2
      refine athen_e ?_
      refine ablock_s ?_
      refine athen_n ?_
      exact AW.weaken (Wk.le [] [] [] rfl (by (simp only [go_sem, hb6]) <;> (repeat' with_reducible apply And.intro) <;> first | assumption | rfl | omega | (unfold maxLen; omega)) (by (simp only [go_sem, hb6]) <;> (repeat' with_reducible apply And.intro) <;> first | assumption | rfl | omega | (unfold maxLen; omega))) (hk_history_width_k1 _ h)

set_option maxRecDepth 100000 in
set_option maxHeartbeats 2000000 in
theorem hc_history_Width_1 (a0 : List (Int × Int × Int × Int × Int × Int)) {r : Int} (h : history_Width_1 a0 = some r) : HC Try.prog 107 [(1000, .box 23 [.sl Y1 a0])] [.bp 1000 0] [(1000, .box 23 [.sl Y1 a0])] (.int .i64 r) := by
  unfold history_Width_1 at h
  refine HC.of_body tab_ok (res := [.tmp 1]) Try.func107 rfl (by kernel_rfl) rfl (nt := 4) rfl (by decide) (by simp) ?_
  refine AW.seq ?_
  refine AW.ops ?_
  refine AO.allF tab_ok (by decide) [(0, .bp 1000 0)] [(1000, .box 23 [.sl Y1 a0])] (by (simp only [go_sem]) <;> (repeat' with_reducible apply And.intro) <;> first | assumption | rfl | omega | (unfold maxLen; omega)) ?_
  refine athen_n ?_
  refine AW.seq ?_
  refine AW.ops ?_
  refine AO.segF tab_ok 1 (by decide) [(2, .sl Y1 a0)] [(1000, .box 23 [.sl Y1 a0])] (by (simp only [go_sem]) <;> (repeat' with_reducible apply And.intro) <;> first | assumption | rfl | omega | (unfold maxLen; omega)) ?_
  obtain ⟨v0, hv1, h⟩ := Option.bind_eq_some_iff.1 h
  refine AO.call tab_ok (by decide) rfl rfl rfl (fun _ h => h) [] [] (hc_history_width a0 hv1) rfl (by (simp only [go_sem]) <;> (repeat' with_reducible apply And.intro) <;> first | assumption | rfl | omega | (unfold maxLen; omega)) (by (simp only [go_sem]) <;> (repeat' with_reducible apply And.intro) <;> first | assumption | rfl | omega | (unfold maxLen; omega)) [(3, .int .i64 v0)] [(1000, .box 23 [.sl Y1 a0])] (by (simp only [go_sem]) <;> (repeat' with_reducible apply And.intro) <;> first | assumption | rfl | omega | (unfold maxLen; omega)) ?_
  refine AO.allF tab_ok (by decide) [(1, .int .i64 v0)] [(1000, .box 23 [.sl Y1 a0])] (by (simp only [go_sem]) <;> (repeat' with_reducible apply And.intro) <;> first | assumption | rfl | omega | (unfold maxLen; omega)) ?_
  refine athen_n ?_
  refine AW.ret ?_
  obtain rfl := Option.some.inj h
  exact ⟨rfl, [], [], [], rfl, (by (simp only [go_sem]) <;> (repeat' with_reducible apply And.intro) <;> first | assumption | rfl | omega | (unfold maxLen; omega))⟩

set_option maxRecDepth 100000 in
set_option maxHeartbeats 2000000 in
theorem hc_history_told_8 (c0 : List (Int × Int × Int × Int × Int × Int)) {r : Int} (h : history_told_8 c0 = some r) : HC Try.prog 96 [(1000, .box 23 [.sl Y1 c0])] [.int .i64 0, .fn (.func 107) [] [.bp 1000 0]] [(1000, .box 23 [.sl Y1 c0])] (.tup [.int .i64 r, .int .i64 0]) := by
  unfold history_told_8 at h
  refine HC.of_body tab_ok (res := [.tmp 4, .tmp 5]) Try.func96 rfl (by kernel_rfl) rfl (nt := 13) rfl (by decide) (by simp) ?_
  refine AW.seq ?_
  refine AW.ops ?_
  refine AO.allF tab_ok (by decide) [(0, .int .i64 0), (1, .fn (.func 107) [] [.bp 1000 0])] [(1000, .box 23 [.sl Y1 c0])] (by (simp only [go_sem]) <;> (repeat' with_reducible apply And.intro) <;> first | assumption | rfl | omega | (unfold maxLen; omega)) ?_
  refine athen_n ?_
  refine AW.seq ?_
  refine AW.seq ?_
  refine AW.ops ?_
  refine AO.allF tab_ok (by decide) [(0, .int .i64 0), (1, .fn (.func 107) [] [.bp 1000 0]), (8, .bool false)] [(1000, .box 23 [.sl Y1 c0])] (by (simp only [go_sem]) <;> (repeat' with_reducible apply And.intro) <;> first | assumption | rfl | omega | (unfold maxLen; omega)) ?_
  refine athen_n ?_
  refine AW.cond (b := false) rfl (fun hb1 => by cases hb1) (fun _ => ?_)
  refine AW.skip ?_
  refine athen_n ?_
  refine AW.seq ?_
  refine AW.ops ?_
  refine AO.segF tab_ok 1 (by decide) [(11, .fn (.func 107) [] [.bp 1000 0])] [(1000, .box 23 [.sl Y1 c0])] (by (simp only [go_sem]) <;> (repeat' with_reducible apply And.intro) <;> first | assumption | rfl | omega | (unfold maxLen; omega)) ?_
  obtain ⟨v0, hv2, h⟩ := Option.bind_eq_some_iff.1 h
  refine AO.call tab_ok (by decide) rfl rfl rfl (fun _ h => h) [] [(1000, 1000)] (hc_history_Width_1 c0 hv2) rfl (by (simp only [go_sem]) <;> (repeat' with_reducible apply And.intro) <;> first | assumption | rfl | omega | (unfold maxLen; omega)) (by (simp only [go_sem]) <;> (repeat' with_reducible apply And.intro) <;> first | assumption | rfl | omega | (unfold maxLen; omega)) [(12, .int .i64 v0)] [(1000, .box 23 [.sl Y1 c0])] (by (simp only [go_sem]) <;> (repeat' with_reducible apply And.intro) <;> first | assumption | rfl | omega | (unfold maxLen; omega)) ?_
  refine AO.allF tab_ok (by decide) [(4, .int .i64 v0), (5, .int .i64 0)] [(1000, .box 23 [.sl Y1 c0])] (by (simp only [go_sem]) <;> (repeat' with_reducible apply And.intro) <;> first | assumption | rfl | omega | (unfold maxLen; omega)) ?_
  refine athen_n ?_
  refine AW.ret ?_
  obtain rfl := Option.some.inj h
  exact ⟨rfl, [], [], [], rfl, (by (simp only [go_sem]) <;> (repeat' with_reducible apply And.intro) <;> first | assumption | rfl | omega | (unfold maxLen; omega))⟩

set_option maxRecDepth 100000 in
set_option maxHeartbeats 2000000 in
theorem hc_history_told_9 (err : Int) (c0 : List (Int × Int × Int × Int × Int × Int)) (hnz_err : decide (err = 0) = false) {r : Unit} (h : history_told_9 err c0 = some r) : HC Try.prog 96 [(1000, .box 23 [.sl Y1 c0])] [.int .i64 err, .fn (.func 107) [] [.bp 1000 0]] [(1000, .box 23 [.sl Y1 c0])] (.tup [.int .i64 0, .int .i64 err]) := by
  unfold history_told_9 at h
  refine HC.of_body tab_ok (res := [.tmp 4, .tmp 5]) Try.func96 rfl (by kernel_rfl) rfl (nt := 13) rfl (by decide) (by simp) ?_
  refine AW.seq ?_
  refine AW.ops ?_
  refine AO.allF tab_ok (by decide) [(0, .int .i64 err), (1, .fn (.func 107) [] [.bp 1000 0])] [(1000, .box 23 [.sl Y1 c0])] (by (simp only [go_sem, hnz_err]) <;> (repeat' with_reducible apply And.intro) <;> first | assumption | rfl | omega | (unfold maxLen; omega)) ?_
  refine athen_n ?_
  refine AW.seq ?_
  refine AW.seq ?_
  refine AW.ops ?_
  refine AO.allF tab_ok (by decide) [(0, .int .i64 err), (1, .fn (.func 107) [] [.bp 1000 0]), (8, .bool true)] [(1000, .box 23 [.sl Y1 c0])] (by (simp only [go_sem, hnz_err]) <;> (repeat' with_reducible apply And.intro) <;> first | assumption | rfl | omega | (unfold maxLen; omega)) ?_
  refine athen_n ?_
  refine AW.cond (b := true) rfl (fun _ => ?_) (fun hb1 => by cases hb1)
  refine AW.seq ?_
  refine AW.ops ?_
  refine AO.allF tab_ok (by decide) [(0, .int .i64 err), (6, .int .i64 0)] [(1000, .box 23 [.sl Y1 c0])] (by (simp only [go_sem, hnz_err]) <;> (repeat' with_reducible apply And.intro) <;> first | assumption | rfl | omega | (unfold maxLen; omega)) ?_
  refine athen_n ?_
  refine AW.seq ?_
  refine AW.ops ?_
  refine AO.allF tab_ok (by decide) [(4, .int .i64 0), (5, .int .i64 err)] [(1000, .box 23 [.sl Y1 c0])] (by (simp only [go_sem, hnz_err]) <;> (repeat' with_reducible apply And.intro) <;> first | assumption | rfl | omega | (unfold maxLen; omega)) ?_
  refine athen_n ?_
  refine AW.ret ?_
  refine athen_r ?_
  obtain rfl := Option.some.inj h
  exact ⟨rfl, [], [], [], rfl, (by (simp only [go_sem, hnz_err]) <;> (repeat' with_reducible apply And.intro) <;> first | assumption | rfl | omega | (unfold maxLen; omega))⟩

end Go.Proofs.Ytdkdkpenmgkdcaa
