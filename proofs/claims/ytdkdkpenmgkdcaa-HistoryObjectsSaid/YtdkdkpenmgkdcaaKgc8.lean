/-
  Made by wip/tool/dc.py out of the print of the program: contracts.
-/
import Derived.Test.YtdkdkpenmgkdcaaHp
import Derived.Test.YtdkdkpenmgkdcaaTbh
import Derived.Test.YtdkdkpenmgkdcaaKgc1
import Derived.Test.YtdkdkpenmgkdcaaKgc3
import Derived.Test.YtdkdkpenmgkdcaaKgc4
import Derived.Test.YtdkdkpenmgkdcaaKgc5
import Derived.Test.YtdkdkpenmgkdcaaKgc7
namespace Go.Proofs.Ytdkdkpenmgkdcaa
open Go.RowKit

set_option linter.unusedSimpArgs false
set_option linter.unusedVariables false
set_option linter.constructorNameAsVariable false

set_option maxRecDepth 100000 in
set_option maxHeartbeats 2000000 in
theorem hc_linealref02_For (specs : List (Int × Int × (List (List Int)) × (List (List Int)))) (h0 : List (Int × Int × Int × Int × Int × Int)) {r : Bool × Int} (h : linealref02_For specs h0 = some r) : HC Try.prog 21 [] [.sl Y0 specs, .sl Y1 h0] [] (.tup [.bool r.1, .int .i64 r.2]) := by
  unfold linealref02_For at h
  refine HC.of_body tab_ok (res := [.tmp 4, .tmp 5]) Try.func21 rfl (by kernel_rfl) rfl (nt := 12) rfl (by decide) (by simp) ?_
  refine AW.seq ?_
  refine AW.ops ?_
  refine AO.allF tab_ok (by decide) [(0, .sl Y0 specs), (1, .sl Y1 h0)] [] (by (simp only [go_sem]) <;> (repeat' with_reducible apply And.intro) <;> first | assumption | rfl | omega | (unfold maxLen; omega)) ?_
  refine athen_n ?_
  refine AW.seq ?_
  refine AW.seq ?_
  refine AW.ops ?_
  refine AO.segF tab_ok 1 (by decide) [(0, .sl Y0 specs), (1, .sl Y1 h0), (6, .sl Y0 specs)] [] (by (simp only [go_sem]) <;> (repeat' with_reducible apply And.intro) <;> first | assumption | rfl | omega | (unfold maxLen; omega)) ?_
  obtain ⟨v0, hv1, h⟩ := Option.bind_eq_some_iff.1 h
  refine AO.call tab_ok (by decide) rfl rfl rfl (fun _ h => h) [] [] (hc_linealref02_areSpecs specs hv1) rfl (by (simp only [go_sem]) <;> (repeat' with_reducible apply And.intro) <;> first | assumption | rfl | omega | (unfold maxLen; omega)) (by (simp only [go_sem]) <;> (repeat' with_reducible apply And.intro) <;> first | assumption | rfl | omega | (unfold maxLen; omega)) [(0, .sl Y0 specs), (1, .sl Y1 h0), (7, .bool v0)] [] (by (simp only [go_sem]) <;> (repeat' with_reducible apply And.intro) <;> first | assumption | rfl | omega | (unfold maxLen; omega)) ?_
  refine AO.allF tab_ok (by decide) [(0, .sl Y0 specs), (1, .sl Y1 h0), (8, .bool (!v0))] [] (by (simp only [go_sem]) <;> (repeat' with_reducible apply And.intro) <;> first | assumption | rfl | omega | (unfold maxLen; omega)) ?_
  refine athen_n ?_
  refine AW.cond (b := (!v0)) rfl (fun hb2 => ?_) (fun hb2 => ?_)
  · rw [if_pos hb2] at h
    refine AW.seq ?_
    refine AW.ops ?_
    refine AO.allF tab_ok (by decide) [(4, .bool false), (5, .int .i64 10)] [] (by (simp only [go_sem, hb2]) <;> (repeat' with_reducible apply And.intro) <;> first | assumption | rfl | omega | (unfold maxLen; omega)) ?_
    refine athen_n ?_
    refine AW.ret ?_
    refine athen_r ?_
    obtain rfl := Option.some.inj h
    exact ⟨rfl, [], [], [], rfl, (by (simp only [go_sem, hb2]) <;> (repeat' with_reducible apply And.intro) <;> first | assumption | rfl | omega | (unfold maxLen; omega))⟩
  · rw [if_neg (Bool.eq_false_iff.1 hb2)] at h
    refine AW.skip ?_
    refine athen_n ?_
    refine AW.seq ?_
    refine AW.ops ?_
    refine AO.segF tab_ok 2 (by decide) [(9, .sl Y0 specs), (10, .sl Y1 h0)] [] (by (simp only [go_sem, hb2]) <;> (repeat' with_reducible apply And.intro) <;> first | assumption | rfl | omega | (unfold maxLen; omega)) ?_
    obtain ⟨v0_2, hv3, h⟩ := Option.bind_eq_some_iff.1 h
    refine AO.call tab_ok (by decide) rfl rfl rfl (fun _ h => h) [] [] (hc_linealref02_isFor specs h0 hv3) rfl (by (simp only [go_sem, hb2]) <;> (repeat' with_reducible apply And.intro) <;> first | assumption | rfl | omega | (unfold maxLen; omega)) (by (simp only [go_sem, hb2]) <;> (repeat' with_reducible apply And.intro) <;> first | assumption | rfl | omega | (unfold maxLen; omega)) [(11, .bool v0_2)] [] (by (simp only [go_sem, hb2]) <;> (repeat' with_reducible apply And.intro) <;> first | assumption | rfl | omega | (unfold maxLen; omega)) ?_
    refine AO.allF tab_ok (by decide) [(4, .bool v0_2), (5, .int .i64 0)] [] (by (simp only [go_sem, hb2]) <;> (repeat' with_reducible apply And.intro) <;> first | assumption | rfl | omega | (unfold maxLen; omega)) ?_
    refine athen_n ?_
    refine AW.ret ?_
    obtain rfl := Option.some.inj h
    exact ⟨rfl, [], [], [], rfl, (by (simp only [go_sem, hb2]) <;> (repeat' with_reducible apply And.intro) <;> first | assumption | rfl | omega | (unfold maxLen; omega))⟩

set_option maxRecDepth 100000 in
set_option maxHeartbeats 2000000 in
theorem hc_history_Of_1_1 (c : Int × Int × Int × Int × Int × Int) (a1 : Int) {r : Unit} (h : history_Of_1_1 c a1 = some r) : HC Try.prog 102 [(1000, .box 3 [.int .i64 a1])] [.agg [.int .i64 c.1, .int .i64 c.2.1, .int .i64 c.2.2.1, .int .i64 c.2.2.2.1, .int .i64 c.2.2.2.2.1, .int .i64 c.2.2.2.2.2], .bp 1000 0] [(1000, .box 3 [.int .i64 a1])] (.bool (decide (c.2.1 = a1))) := by
  unfold history_Of_1_1 at h
  refine HC.of_body tab_ok (res := [.tmp 3]) Try.func102 rfl (by kernel_rfl) rfl (nt := 8) rfl (by decide) (by simp) ?_
  refine AW.seq ?_
  refine AW.ops ?_
  refine AO.allF tab_ok (by decide) [(1, .bp 1000 0), (2, .bp 2 0)] [(2, .box 55 [.int .i64 c.1, .int .i64 c.2.1, .int .i64 c.2.2.1, .int .i64 c.2.2.2.1, .int .i64 c.2.2.2.2.1, .int .i64 c.2.2.2.2.2]), (1000, .box 3 [.int .i64 a1])] (by (simp only [go_sem]) <;> (repeat' with_reducible apply And.intro) <;> first | assumption | rfl | omega | (unfold maxLen; omega)) ?_
  refine athen_n ?_
  refine AW.seq ?_
  refine AW.ops ?_
  refine AO.allF tab_ok (by decide) [(3, .bool (decide (c.2.1 = a1)))] [(1000, .box 3 [.int .i64 a1])] (by (simp only [go_sem]) <;> (repeat' with_reducible apply And.intro) <;> first | assumption | rfl | omega | (unfold maxLen; omega)) ?_
  refine athen_n ?_
  refine AW.ret ?_
  obtain rfl := Option.some.inj h
  exact ⟨rfl, [], [], [], rfl, (by (simp only [go_sem]) <;> (repeat' with_reducible apply And.intro) <;> first | assumption | rfl | omega | (unfold maxLen; omega))⟩

set_option maxRecDepth 100000 in
set_option maxHeartbeats 2000000 in
theorem hc_history_those_2 (h0 : List (Int × Int × Int × Int × Int × Int)) (c0 : Int) {r : (List (Int × Int × Int × Int × Int × Int))} (h : history_those_2 h0 c0 = some r) : HC Try.prog 101 [(1000, .box 3 [.int .i64 c0])] [.sl Y1 h0, .fn (.func 102) [] [.bp 1000 0]] [(1000, .box 3 [.int .i64 c0]), (2000, .arr 55 Y1 r)] (.own 2000) := by
  unfold history_those_2 at h
  refine HC.of_body tab_ok (res := [.tmp 4]) Try.func101 rfl (by kernel_rfl) rfl (nt := 23) rfl (by decide) (by simp) ?_
  refine AW.seq ?_
  refine AW.ops ?_
  refine AO.allF tab_ok (by decide) [(0, .sl Y1 h0), (1, .fn (.func 102) [] [.bp 1000 0])] [(1000, .box 3 [.int .i64 c0])] (by (simp only [go_sem]) <;> (repeat' with_reducible apply And.intro) <;> first | assumption | rfl | omega | (unfold maxLen; omega)) ?_
  refine athen_n ?_
  refine AW.seq ?_
  refine AW.ops ?_
  refine AO.allF tab_ok (by decide) [(0, .sl Y1 h0), (1, .fn (.func 102) [] [.bp 1000 0]), (5, .cv (.slice none 0 0))] [(1000, .box 3 [.int .i64 c0])] (by (simp only [go_sem]) <;> (repeat' with_reducible apply And.intro) <;> first | assumption | rfl | omega | (unfold maxLen; omega)) ?_
  refine athen_n ?_
  refine AW.have1 (fun b1 : (List (Int × Int × Int × Int × Int × Int)) => history_those_2_k1 b1 = some r) (fun b1 => ⟨fr [(5, .own 20)], hpGet [(20, .arr 55 Y1 b1), (1000, .box 3 [.int .i64 c0])], gt⟩) (fun b1 h => ?_) (fun hk_history_those_2_k1 => ?_)
  · unfold history_those_2_k1 at h
    refine AW.seq ?_
    refine AW.ops ?_
    refine AO.allF tab_ok (by decide) [(4, .own 20)] [(20, .arr 55 Y1 b1), (1000, .box 3 [.int .i64 c0])] (by (simp only [go_sem]) <;> (repeat' with_reducible apply And.intro) <;> first | assumption | rfl | omega | (unfold maxLen; omega)) ?_
    refine athen_n ?_
    refine AW.ret ?_
    obtain rfl := Option.some.inj h
    exact ⟨rfl, [], [], [(2000, 20)], rfl, (by (simp only [go_sem]) <;> (repeat' with_reducible apply And.intro) <;> first | assumption | rfl | omega | (unfold maxLen; omega))⟩
  · refine AW.seq ?_
    refine AW.seq ?_
    refine AW.ops ?_
    refine AO.allF tab_ok (by decide) [(1, .fn (.func 102) [] [.bp 1000 0]), (5, .cv (.slice none 0 0)), (8, .sl Y1 h0), (9, .int .i64 (h0.length : Int)), (10, .int .i64 0)] [(1000, .box 3 [.int .i64 c0])] (by (simp only [go_sem]) <;> (repeat' with_reducible apply And.intro) <;> first | assumption | rfl | omega | (unfold maxLen; omega)) ?_
    refine athen_n ?_
    refine AW.block ?_
    obtain ⟨rv5, hw1, ho2⟩ := Option.bind_eq_some_iff.1 h
    refine AW.loopO (history_those_2_b1 h0 c0) (fun st1 => ⟨fr [(1, .fn (.func 102) [] [.bp 1000 0]), (5, .own 20), (8, .sl Y1 h0), (9, .int .i64 (h0.length : Int)), (10, .int .i64 st1.2)], hpGet [(20, .arr 55 Y1 st1.1), (1000, .box 3 [.int .i64 c0])], gt⟩) ([], 0) hw1 (Wk.le [] [20] [] rfl (by (simp only [go_sem]) <;> (repeat' with_reducible apply And.intro) <;> first | assumption | rfl | omega | (unfold maxLen; omega)) (by (simp only [go_sem]) <;> (repeat' with_reducible apply And.intro) <;> first | assumption | rfl | omega | (unfold maxLen; omega))) ?_
    intro st1 x4 h hd3
    unfold history_those_2_b1 at h
    refine AW.seq ?_
    refine AW.ops ?_
    refine AO.allF tab_ok (by decide) [(1, .fn (.func 102) [] [.bp 1000 0]), (5, .own 20), (8, .sl Y1 h0), (9, .int .i64 (h0.length : Int)), (10, .int .i64 st1.2), (11, .bool (decide (st1.2 < (h0.length : Int))))] [(20, .arr 55 Y1 st1.1), (1000, .box 3 [.int .i64 c0])] (by (simp only [go_sem]) <;> (repeat' with_reducible apply And.intro) <;> first | assumption | rfl | omega | (unfold maxLen; omega)) ?_
    refine athen_n ?_
    refine AW.seq ?_
    refine AW.cond (b := (decide (st1.2 < (h0.length : Int)))) rfl (fun hb6 => ?_) (fun hb6 => ?_)
    · rw [if_pos hb6] at h
      refine AW.skip ?_
      refine athen_n ?_
      refine AW.seq ?_
      refine AW.block ?_
      refine AW.seq ?_
      refine AW.ops ?_
      obtain ⟨c7, h⟩ := ck_some.1 h
      obtain ⟨c8, h⟩ := ck_some.1 h
      refine AO.allF tab_ok (by decide) [(1, .fn (.func 102) [] [.bp 1000 0]), (5, .own 20), (7, .bp 7 0), (8, .sl Y1 h0), (9, .int .i64 (h0.length : Int)), (10, .int .i64 st1.2)] [(7, .box 55 [.int .i64 (h0.getD st1.2.toNat (0, 0, 0, 0, 0, 0)).1, .int .i64 (h0.getD st1.2.toNat (0, 0, 0, 0, 0, 0)).2.1, .int .i64 (h0.getD st1.2.toNat (0, 0, 0, 0, 0, 0)).2.2.1, .int .i64 (h0.getD st1.2.toNat (0, 0, 0, 0, 0, 0)).2.2.2.1, .int .i64 (h0.getD st1.2.toNat (0, 0, 0, 0, 0, 0)).2.2.2.2.1, .int .i64 (h0.getD st1.2.toNat (0, 0, 0, 0, 0, 0)).2.2.2.2.2]), (20, .arr 55 Y1 st1.1), (1000, .box 3 [.int .i64 c0])] (by (simp only [go_sem, hb6]) <;> (repeat' with_reducible apply And.intro) <;> first | assumption | rfl | omega | (unfold maxLen; omega)) ?_
      refine athen_n ?_
      refine AW.seq ?_
      refine AW.ops ?_
      refine AO.segF tab_ok 2 (by decide) [(1, .fn (.func 102) [] [.bp 1000 0]), (5, .own 20), (7, .bp 7 0), (8, .sl Y1 h0), (9, .int .i64 (h0.length : Int)), (10, .int .i64 st1.2), (14, .fn (.func 102) [] [.bp 1000 0]), (15, .agg [.int .i64 (h0.getD st1.2.toNat (0, 0, 0, 0, 0, 0)).1, .int .i64 (h0.getD st1.2.toNat (0, 0, 0, 0, 0, 0)).2.1, .int .i64 (h0.getD st1.2.toNat (0, 0, 0, 0, 0, 0)).2.2.1, .int .i64 (h0.getD st1.2.toNat (0, 0, 0, 0, 0, 0)).2.2.2.1, .int .i64 (h0.getD st1.2.toNat (0, 0, 0, 0, 0, 0)).2.2.2.2.1, .int .i64 (h0.getD st1.2.toNat (0, 0, 0, 0, 0, 0)).2.2.2.2.2])] [(7, .box 55 [.int .i64 (h0.getD st1.2.toNat (0, 0, 0, 0, 0, 0)).1, .int .i64 (h0.getD st1.2.toNat (0, 0, 0, 0, 0, 0)).2.1, .int .i64 (h0.getD st1.2.toNat (0, 0, 0, 0, 0, 0)).2.2.1, .int .i64 (h0.getD st1.2.toNat (0, 0, 0, 0, 0, 0)).2.2.2.1, .int .i64 (h0.getD st1.2.toNat (0, 0, 0, 0, 0, 0)).2.2.2.2.1, .int .i64 (h0.getD st1.2.toNat (0, 0, 0, 0, 0, 0)).2.2.2.2.2]), (20, .arr 55 Y1 st1.1), (1000, .box 3 [.int .i64 c0])] (by (simp only [go_sem, hb6]) <;> (repeat' with_reducible apply And.intro) <;> first | assumption | rfl | omega | (unfold maxLen; omega)) ?_
      obtain ⟨v0, hv9, h⟩ := Option.bind_eq_some_iff.1 h
      refine AO.call tab_ok (by decide) rfl rfl rfl (fun _ h => h) [] [(1000, 1000)] (hc_history_Of_1_1 (h0.getD st1.2.toNat (0, 0, 0, 0, 0, 0)) c0 hv9) rfl (by (simp only [go_sem, hb6]) <;> (repeat' with_reducible apply And.intro) <;> first | assumption | rfl | omega | (unfold maxLen; omega)) (by (simp only [go_sem, hb6]) <;> (repeat' with_reducible apply And.intro) <;> first | assumption | rfl | omega | (unfold maxLen; omega)) [(1, .fn (.func 102) [] [.bp 1000 0]), (5, .own 20), (7, .bp 7 0), (8, .sl Y1 h0), (9, .int .i64 (h0.length : Int)), (10, .int .i64 st1.2), (16, .bool (decide ((h0.getD st1.2.toNat (0, 0, 0, 0, 0, 0)).2.1 = c0)))] [(7, .box 55 [.int .i64 (h0.getD st1.2.toNat (0, 0, 0, 0, 0, 0)).1, .int .i64 (h0.getD st1.2.toNat (0, 0, 0, 0, 0, 0)).2.1, .int .i64 (h0.getD st1.2.toNat (0, 0, 0, 0, 0, 0)).2.2.1, .int .i64 (h0.getD st1.2.toNat (0, 0, 0, 0, 0, 0)).2.2.2.1, .int .i64 (h0.getD st1.2.toNat (0, 0, 0, 0, 0, 0)).2.2.2.2.1, .int .i64 (h0.getD st1.2.toNat (0, 0, 0, 0, 0, 0)).2.2.2.2.2]), (20, .arr 55 Y1 st1.1), (1000, .box 3 [.int .i64 c0])] (by (simp only [go_sem, hb6]) <;> (repeat' with_reducible apply And.intro) <;> first | assumption | rfl | omega | (unfold maxLen; omega)) ?_
      refine AO.allF tab_ok (by decide) [(1, .fn (.func 102) [] [.bp 1000 0]), (5, .own 20), (7, .bp 7 0), (8, .sl Y1 h0), (9, .int .i64 (h0.length : Int)), (10, .int .i64 st1.2), (16, .bool (decide ((h0.getD st1.2.toNat (0, 0, 0, 0, 0, 0)).2.1 = c0)))] [(7, .box 55 [.int .i64 (h0.getD st1.2.toNat (0, 0, 0, 0, 0, 0)).1, .int .i64 (h0.getD st1.2.toNat (0, 0, 0, 0, 0, 0)).2.1, .int .i64 (h0.getD st1.2.toNat (0, 0, 0, 0, 0, 0)).2.2.1, .int .i64 (h0.getD st1.2.toNat (0, 0, 0, 0, 0, 0)).2.2.2.1, .int .i64 (h0.getD st1.2.toNat (0, 0, 0, 0, 0, 0)).2.2.2.2.1, .int .i64 (h0.getD st1.2.toNat (0, 0, 0, 0, 0, 0)).2.2.2.2.2]), (20, .arr 55 Y1 st1.1), (1000, .box 3 [.int .i64 c0])] (by (simp only [go_sem, hb6]) <;> (repeat' with_reducible apply And.intro) <;> first | assumption | rfl | omega | (unfold maxLen; omega)) ?_
      refine athen_n ?_
      refine AW.cond (b := (decide ((h0.getD st1.2.toNat (0, 0, 0, 0, 0, 0)).2.1 = c0))) rfl (fun hb10 => ?_) (fun hb10 => ?_)
      · rw [if_pos hb10] at h
        refine AW.ops ?_
        obtain ⟨c11, h⟩ := ck_some.1 h
        refine AO.allF tab_ok (by decide) [(1, .fn (.func 102) [] [.bp 1000 0]), (5, .own 20), (8, .sl Y1 h0), (9, .int .i64 (h0.length : Int)), (10, .int .i64 st1.2)] [(20, .arr 55 Y1 (st1.1 ++ [(h0.getD st1.2.toNat (0, 0, 0, 0, 0, 0))])), (1000, .box 3 [.int .i64 c0])] (by (simp only [go_sem, hb6, hb10]) <;> (repeat' with_reducible apply And.intro) <;> first | assumption | rfl | omega | (unfold maxLen; omega)) ?_
        refine ablock_n ?_
        refine athen_n ?_
        refine AW.ops ?_
        obtain ⟨c12, h⟩ := ck_some.1 h
        refine AO.allF tab_ok (by decide) [(1, .fn (.func 102) [] [.bp 1000 0]), (5, .own 20), (8, .sl Y1 h0), (9, .int .i64 (h0.length : Int)), (10, .int .i64 (st1.2 + 1))] [(20, .arr 55 Y1 (st1.1 ++ [(h0.getD st1.2.toNat (0, 0, 0, 0, 0, 0))])), (1000, .box 3 [.int .i64 c0])] (by (simp only [go_sem, hb6, hb10]) <;> (repeat' with_reducible apply And.intro) <;> first | assumption | rfl | omega | (unfold maxLen; omega)) ?_
        obtain rfl := Option.some.inj h
        exact ⟨_, rfl, Wk.le [] [] [] rfl (by (simp only [go_sem, hb6, hb10]) <;> (repeat' with_reducible apply And.intro) <;> first | assumption | rfl | omega | (unfold maxLen; omega)) (by (simp only [go_sem, hb6, hb10]) <;> (repeat' with_reducible apply And.intro) <;> first | assumption | rfl | omega | (unfold maxLen; omega))⟩
      · rw [if_neg (Bool.eq_false_iff.1 hb10)] at h
        refine AW.skip ?_
        refine ablock_n ?_
        refine athen_n ?_
        refine AW.ops ?_
        obtain ⟨c13, h⟩ := ck_some.1 h
        refine AO.allF tab_ok (by decide) [(1, .fn (.func 102) [] [.bp 1000 0]), (5, .own 20), (8, .sl Y1 h0), (9, .int .i64 (h0.length : Int)), (10, .int .i64 (st1.2 + 1))] [(20, .arr 55 Y1 st1.1), (1000, .box 3 [.int .i64 c0])] (by (simp only [go_sem, hb6, hb10]) <;> (repeat' with_reducible apply And.intro) <;> first | assumption | rfl | omega | (unfold maxLen; omega)) ?_
        obtain rfl := Option.some.inj h
        exact ⟨_, rfl, Wk.le [] [] [] rfl (by (simp only [go_sem, hb6, hb10]) <;> (repeat' with_reducible apply And.intro) <;> first | assumption | rfl | omega | (unfold maxLen; omega)) (by (simp only [go_sem, hb6, hb10]) <;> (repeat' with_reducible apply And.intro) <;> first | assumption | rfl | omega | (unfold maxLen; omega))⟩
    · rw [if_neg (Bool.eq_false_iff.1 hb6)] at h
      refine AW.exit ?_
      refine athen_e ?_
      obtain rfl := Option.some.inj h
      rw [← hd3 _ rfl] at ho2
      have h := ho2
      refine athen_e ?_
      refine ablock_s ?_
      refine athen_n ?_
      exact AW.weaken (Wk.le [] [] [] rfl (by (simp only [go_sem, hb6]) <;> (repeat' with_reducible apply And.intro) <;> first | assumption | rfl | omega | (unfold maxLen; omega)) (by (simp only [go_sem, hb6]) <;> (repeat' with_reducible apply And.intro) <;> first | assumption | rfl | omega | (unfold maxLen; omega))) (hk_history_those_2_k1 _ h)

set_option maxRecDepth 100000 in
set_option maxHeartbeats 2000000 in
theorem hc_history_Of_1 (a0 : List (Int × Int × Int × Int × Int × Int)) (a1 : Int) {r : (List (Int × Int × Int × Int × Int × Int))} (h : history_Of_1 a0 a1 = some r) : HC Try.prog 100 [(1000, .box 23 [.sl Y1 a0]), (1001, .box 3 [.int .i64 a1])] [.bp 1000 0, .bp 1001 0] [(1000, .box 23 [.sl Y1 a0]), (1001, .box 3 [.int .i64 a1]), (2000, .arr 55 Y1 r)] (.own 2000) := by
  unfold history_Of_1 at h
  refine HC.of_body tab_ok (res := [.tmp 2]) Try.func100 rfl (by kernel_rfl) rfl (nt := 6) rfl (by decide) (by simp) ?_
  refine AW.seq ?_
  refine AW.ops ?_
  refine AO.allF tab_ok (by decide) [(0, .bp 1000 0), (1, .bp 1001 0)] [(1000, .box 23 [.sl Y1 a0]), (1001, .box 3 [.int .i64 a1])] (by (simp only [go_sem]) <;> (repeat' with_reducible apply And.intro) <;> first | assumption | rfl | omega | (unfold maxLen; omega)) ?_
  refine athen_n ?_
  refine AW.seq ?_
  refine AW.ops ?_
  refine AO.segF tab_ok 2 (by decide) [(3, .sl Y1 a0), (4, .fn (.func 102) [] [.bp 1001 0])] [(1000, .box 23 [.sl Y1 a0]), (1001, .box 3 [.int .i64 a1])] (by (simp only [go_sem]) <;> (repeat' with_reducible apply And.intro) <;> first | assumption | rfl | omega | (unfold maxLen; omega)) ?_
  obtain ⟨v0, hv1, h⟩ := Option.bind_eq_some_iff.1 h
  refine AO.call tab_ok (by decide) rfl rfl rfl (fun _ h => h) [] [(1000, 1001)] (hc_history_those_2 a0 a1 hv1) rfl (by (simp only [go_sem]) <;> (repeat' with_reducible apply And.intro) <;> first | assumption | rfl | omega | (unfold maxLen; omega)) (by (simp only [go_sem]) <;> (repeat' with_reducible apply And.intro) <;> first | assumption | rfl | omega | (unfold maxLen; omega)) [(5, .own 15000)] [(1000, .box 23 [.sl Y1 a0]), (1001, .box 3 [.int .i64 a1]), (15000, .arr 55 Y1 v0)] (by (simp only [go_sem]) <;> (repeat' with_reducible apply And.intro) <;> first | assumption | rfl | omega | (unfold maxLen; omega)) ?_
  refine AO.allF tab_ok (by decide) [(2, .own 15000)] [(1000, .box 23 [.sl Y1 a0]), (1001, .box 3 [.int .i64 a1]), (15000, .arr 55 Y1 v0)] (by (simp only [go_sem]) <;> (repeat' with_reducible apply And.intro) <;> first | assumption | rfl | omega | (unfold maxLen; omega)) ?_
  refine athen_n ?_
  refine AW.ret ?_
  obtain rfl := Option.some.inj h
  exact ⟨rfl, [], [], [(2000, 15000)], rfl, (by (simp only [go_sem]) <;> (repeat' with_reducible apply And.intro) <;> first | assumption | rfl | omega | (unfold maxLen; omega))⟩

set_option maxRecDepth 100000 in
set_option maxHeartbeats 2000000 in
theorem hc_history_told_12 (err : Int) (c0 : List (Int × Int × Int × Int × Int × Int)) (c1 : Int) {r : (List (Int × Int × Int × Int × Int × Int)) × Int} (h : history_told_12 err c0 c1 = some r) : HC Try.prog 98 [(1000, .box 23 [.sl Y1 c0]), (1001, .box 3 [.int .i64 c1])] [.int .i64 err, .fn (.func 100) [] [.bp 1000 0, .bp 1001 0]] [(2000, .arr 55 Y1 r.1)] (.tup [.own 2000, .int .i64 r.2]) := by
  unfold history_told_12 at h
  refine HC.of_body tab_ok (res := [.tmp 4, .tmp 5]) Try.func98 rfl (by kernel_rfl) rfl (nt := 13) rfl (by decide) (by simp) ?_
  refine AW.seq ?_
  refine AW.ops ?_
  refine AO.allF tab_ok (by decide) [(0, .int .i64 err), (1, .fn (.func 100) [] [.bp 1000 0, .bp 1001 0])] [(1000, .box 23 [.sl Y1 c0]), (1001, .box 3 [.int .i64 c1])] (by (simp only [go_sem]) <;> (repeat' with_reducible apply And.intro) <;> first | assumption | rfl | omega | (unfold maxLen; omega)) ?_
  refine athen_n ?_
  refine AW.seq ?_
  refine AW.seq ?_
  refine AW.ops ?_
  refine AO.allF tab_ok (by decide) [(0, .int .i64 err), (1, .fn (.func 100) [] [.bp 1000 0, .bp 1001 0]), (8, .bool (!(decide (err = 0))))] [(1000, .box 23 [.sl Y1 c0]), (1001, .box 3 [.int .i64 c1])] (by (simp only [go_sem]) <;> (repeat' with_reducible apply And.intro) <;> first | assumption | rfl | omega | (unfold maxLen; omega)) ?_
  refine athen_n ?_
  refine AW.cond (b := (!(decide (err = 0)))) rfl (fun hb1 => ?_) (fun hb1 => ?_)
  · rw [if_pos hb1] at h
    refine AW.seq ?_
    refine AW.ops ?_
    refine AO.allF tab_ok (by decide) [(0, .int .i64 err), (6, .cv (.slice none 0 0))] [(1000, .box 23 [.sl Y1 c0]), (1001, .box 3 [.int .i64 c1])] (by (simp only [go_sem, hb1]) <;> (repeat' with_reducible apply And.intro) <;> first | assumption | rfl | omega | (unfold maxLen; omega)) ?_
    refine athen_n ?_
    refine AW.seq ?_
    refine AW.ops ?_
    refine AO.allF tab_ok (by decide) [(4, .cv (.slice none 0 0)), (5, .int .i64 err)] [(1000, .box 23 [.sl Y1 c0]), (1001, .box 3 [.int .i64 c1])] (by (simp only [go_sem, hb1]) <;> (repeat' with_reducible apply And.intro) <;> first | assumption | rfl | omega | (unfold maxLen; omega)) ?_
    refine athen_n ?_
    refine AW.ret ?_
    refine athen_r ?_
    obtain rfl := Option.some.inj h
    exact ⟨rfl, [], [2000], [], rfl, (by (simp only [go_sem, hb1]) <;> (repeat' with_reducible apply And.intro) <;> first | assumption | rfl | omega | (unfold maxLen; omega))⟩
  · rw [if_neg (Bool.eq_false_iff.1 hb1)] at h
    refine AW.skip ?_
    refine athen_n ?_
    refine AW.seq ?_
    refine AW.ops ?_
    refine AO.segF tab_ok 1 (by decide) [(11, .fn (.func 100) [] [.bp 1000 0, .bp 1001 0])] [(1000, .box 23 [.sl Y1 c0]), (1001, .box 3 [.int .i64 c1])] (by (simp only [go_sem, hb1]) <;> (repeat' with_reducible apply And.intro) <;> first | assumption | rfl | omega | (unfold maxLen; omega)) ?_
    obtain ⟨v0, hv2, h⟩ := Option.bind_eq_some_iff.1 h
    refine AO.call tab_ok (by decide) rfl rfl rfl (fun _ h => h) [] [(1000, 1000), (1001, 1001)] (hc_history_Of_1 c0 c1 hv2) rfl (by (simp only [go_sem, hb1]) <;> (repeat' with_reducible apply And.intro) <;> first | assumption | rfl | omega | (unfold maxLen; omega)) (by (simp only [go_sem, hb1]) <;> (repeat' with_reducible apply And.intro) <;> first | assumption | rfl | omega | (unfold maxLen; omega)) [(12, .own 22000)] [(1000, .box 23 [.sl Y1 c0]), (1001, .box 3 [.int .i64 c1]), (22000, .arr 55 Y1 v0)] (by (simp only [go_sem, hb1]) <;> (repeat' with_reducible apply And.intro) <;> first | assumption | rfl | omega | (unfold maxLen; omega)) ?_
    refine AO.allF tab_ok (by decide) [(4, .own 22000), (5, .int .i64 0)] [(1000, .box 23 [.sl Y1 c0]), (1001, .box 3 [.int .i64 c1]), (22000, .arr 55 Y1 v0)] (by (simp only [go_sem, hb1]) <;> (repeat' with_reducible apply And.intro) <;> first | assumption | rfl | omega | (unfold maxLen; omega)) ?_
    refine athen_n ?_
    refine AW.ret ?_
    obtain rfl := Option.some.inj h
    exact ⟨rfl, [], [], [(2000, 22000)], rfl, (by (simp only [go_sem, hb1]) <;> (repeat' with_reducible apply And.intro) <;> first | assumption | rfl | omega | (unfold maxLen; omega))⟩

set_option maxRecDepth 100000 in
set_option maxHeartbeats 2000000 in
theorem hc_history_Of (h0 : List (Int × Int × Int × Int × Int × Int)) (object : Int) {r : (List (Int × Int × Int × Int × Int × Int)) × Int} (h : history_Of h0 object = some r) : HC Try.prog 41 [] [.sl Y1 h0, .int .i64 object] [(2000, .arr 55 Y1 r.1)] (.tup [.own 2000, .int .i64 r.2]) := by
  unfold history_Of at h
  refine HC.of_body tab_ok (res := [.tmp 4, .tmp 5]) Try.func41 rfl (by kernel_rfl) rfl (nt := 14) rfl (by decide) (by simp) ?_
  refine AW.seq ?_
  refine AW.ops ?_
  refine AO.allF tab_ok (by decide) [(2, .bp 2 0), (3, .bp 3 0)] [(2, .box 23 [.sl Y1 h0]), (3, .box 3 [.int .i64 object])] (by (simp only [go_sem]) <;> (repeat' with_reducible apply And.intro) <;> first | assumption | rfl | omega | (unfold maxLen; omega)) ?_
  refine athen_n ?_
  refine AW.seq ?_
  refine AW.draw tab_ok mixed_ok [(5, [2, 3, 21000])] [] (by decide) (by kernel_rfl) ?_
  refine adops_cut 2 (fun K' hK1 => ?_)
  try dsimp only [List.drop_succ_cons, List.drop_zero, List.take_succ_cons, List.take_zero]
  simp only [go_sem]
  repeat (with_reducible refine And.intro (by first | assumption | rfl | omega | trivial | (unfold maxLen; omega)) ?_)
  refine hK1 _ ?_
  obtain ⟨v0, hv2, h⟩ := Option.bind_eq_some_iff.1 h
  refine adops.call (by first | trivial | rfl) rfl rfl rfl (fun _ h => h) [] [] (hc_history_within object 0 1 hv2) rfl (by (simp only [go_sem]) <;> (repeat' with_reducible apply And.intro) <;> first | assumption | rfl | omega | (unfold maxLen; omega)) (by (simp only [go_sem]) <;> (repeat' with_reducible apply And.intro) <;> first | assumption | rfl | omega | (unfold maxLen; omega)) rfl ?_
  obtain ⟨v0_2, hv3, h⟩ := Option.bind_eq_some_iff.1 h
  refine adops.call (by first | trivial | rfl) rfl rfl rfl (fun _ h => h) [] [] (hc_history_check h0 v0 hv3) rfl (by (simp only [go_sem]) <;> (repeat' with_reducible apply And.intro) <;> first | assumption | rfl | omega | (unfold maxLen; omega)) (by (simp only [go_sem]) <;> (repeat' with_reducible apply And.intro) <;> first | assumption | rfl | omega | (unfold maxLen; omega)) rfl ?_
  refine adops_cut 1 (fun K' hK4 => ?_)
  try dsimp only [List.drop_succ_cons, List.drop_zero, List.take_succ_cons, List.take_zero]
  simp only [go_sem]
  repeat (with_reducible refine And.intro (by first | assumption | rfl | omega | trivial | (unfold maxLen; omega)) ?_)
  refine hK4 _ ?_
  obtain ⟨v0_3, hv5, h⟩ := Option.bind_eq_some_iff.1 h
  refine adops.call (by first | trivial | rfl) rfl rfl rfl (fun _ h => h) [] [(1000, 2), (1001, 3)] (hc_history_told_12 v0_2 h0 object hv5) rfl (by (simp only [go_sem]) <;> (repeat' with_reducible apply And.intro) <;> first | assumption | rfl | omega | (unfold maxLen; omega)) (by (simp only [go_sem]) <;> (repeat' with_reducible apply And.intro) <;> first | assumption | rfl | omega | (unfold maxLen; omega)) rfl ?_
  refine adops_cut 4 (fun K' hK6 => ?_)
  try dsimp only [List.drop_succ_cons, List.drop_zero, List.take_succ_cons, List.take_zero]
  simp only [go_sem]
  repeat (with_reducible refine And.intro (by first | assumption | rfl | omega | trivial | (unfold maxLen; omega)) ?_)
  refine hK6 _ ?_
  refine adops_nil ?_
  refine athen_n ?_
  refine AW.weaken (s' := ⟨fr [(4, .own 21000), (5, .int .i64 v0_3.2)], hpGet [(21000, .arr 55 Y1 v0_3.1)], gt⟩) (Wk.to (by (simp only [go_sem]) <;> (repeat' with_reducible apply And.intro) <;> first | assumption | rfl | omega | (unfold maxLen; omega))) ?_
  refine AW.ret ?_
  obtain rfl := Option.some.inj h
  exact ⟨rfl, [], [], [(2000, 21000)], rfl, (by (simp only [go_sem]) <;> (repeat' with_reducible apply And.intro) <;> first | assumption | rfl | omega | (unfold maxLen; omega))⟩

set_option maxRecDepth 100000 in
set_option maxHeartbeats 2000000 in
theorem hc_lineallaw02_isFor (specs : List (Int × Int × (List (List Int)) × (List (List Int)))) (h0 : List (Int × Int × Int × Int × Int × Int)) {r : Bool} (h : lineallaw02_isFor specs h0 = some r) : HC Try.prog 56 [] [.sl Y0 specs, .sl Y1 h0] [] (.bool r) := by
  unfold lineallaw02_isFor at h
  refine HC.of_body tab_ok (res := [.tmp 4]) Try.func56 rfl (by kernel_rfl) rfl (nt := 18) rfl (by decide) (by simp) ?_
  refine AW.seq ?_
  refine AW.ops ?_
  refine AO.allF tab_ok (by decide) [(0, .sl Y0 specs), (1, .sl Y1 h0)] [] (by (simp only [go_sem]) <;> (repeat' with_reducible apply And.intro) <;> first | assumption | rfl | omega | (unfold maxLen; omega)) ?_
  refine athen_n ?_
  refine AW.seq ?_
  refine AW.ops ?_
  refine AO.segF tab_ok 2 (by decide) [(8, .sl Y0 specs), (9, .sl Y1 h0)] [] (by (simp only [go_sem]) <;> (repeat' with_reducible apply And.intro) <;> first | assumption | rfl | omega | (unfold maxLen; omega)) ?_
  obtain ⟨v0, hv1, h⟩ := Option.bind_eq_some_iff.1 h
  refine AO.call tab_ok (by decide) rfl rfl rfl (fun _ h => h) [] [] (hc_linealref02_For specs h0 hv1) rfl (by (simp only [go_sem]) <;> (repeat' with_reducible apply And.intro) <;> first | assumption | rfl | omega | (unfold maxLen; omega)) (by (simp only [go_sem]) <;> (repeat' with_reducible apply And.intro) <;> first | assumption | rfl | omega | (unfold maxLen; omega)) [(10, .tup [.bool v0.1, .int .i64 v0.2])] [] (by (simp only [go_sem]) <;> (repeat' with_reducible apply And.intro) <;> first | assumption | rfl | omega | (unfold maxLen; omega)) ?_
  refine AO.allF tab_ok (by decide) [(5, .bool v0.1), (6, .int .i64 v0.2)] [] (by (simp only [go_sem]) <;> (repeat' with_reducible apply And.intro) <;> first | assumption | rfl | omega | (unfold maxLen; omega)) ?_
  refine athen_n ?_
  refine AW.seq ?_
  refine AW.ops ?_
  refine AO.segF tab_ok 3 (by decide) [(5, .bool v0.1), (15, .bool (decide (v0.2 = 0)))] [] (by (simp only [go_sem]) <;> (repeat' with_reducible apply And.intro) <;> first | assumption | rfl | omega | (unfold maxLen; omega)) ?_
  rcases Bool.eq_false_or_eq_true (decide (v0.2 = 0)) with hb2 | hb2
  · rw [if_pos hb2] at h
    refine AO.weaken (s' := ⟨fr [(5, .bool v0.1), (15, .bool true)], hpGet [], gt⟩) (Wk.to (by (simp only [go_sem, hb2]) <;> (repeat' with_reducible apply And.intro) <;> first | assumption | rfl | omega | (unfold maxLen; omega))) ?_
    refine AO.allF tab_ok (by decide) [(4, .bool v0.1)] [] (by (simp only [go_sem, hb2]) <;> (repeat' with_reducible apply And.intro) <;> first | assumption | rfl | omega | (unfold maxLen; omega)) ?_
    refine athen_n ?_
    refine AW.ret ?_
    obtain rfl := Option.some.inj h
    exact ⟨rfl, [], [], [], rfl, (by (simp only [go_sem, hb2]) <;> (repeat' with_reducible apply And.intro) <;> first | assumption | rfl | omega | (unfold maxLen; omega))⟩
  · rw [if_neg (Bool.eq_false_iff.1 hb2)] at h
    refine AO.weaken (s' := ⟨fr [(5, .bool v0.1), (15, .bool false)], hpGet [], gt⟩) (Wk.to (by (simp only [go_sem, hb2]) <;> (repeat' with_reducible apply And.intro) <;> first | assumption | rfl | omega | (unfold maxLen; omega))) ?_
    refine AO.allF tab_ok (by decide) [(4, .bool false)] [] (by (simp only [go_sem, hb2]) <;> (repeat' with_reducible apply And.intro) <;> first | assumption | rfl | omega | (unfold maxLen; omega)) ?_
    refine athen_n ?_
    refine AW.ret ?_
    obtain rfl := Option.some.inj h
    exact ⟨rfl, [], [], [], rfl, (by (simp only [go_sem, hb2]) <;> (repeat' with_reducible apply And.intro) <;> first | assumption | rfl | omega | (unfold maxLen; omega))⟩

set_option maxRecDepth 100000 in
set_option maxHeartbeats 2000000 in
theorem hc_history_Linear_1 (a0 : List (Int × Int × (List (List Int)) × (List (List Int)))) (a1 : List (Int × Int × Int × Int × Int × Int)) {r : Bool} (h : history_Linear_1 a0 a1 = some r) : HC Try.prog 93 [(1000, .box 22 [.sl Y0 a0]), (1001, .box 23 [.sl Y1 a1])] [.bp 1000 0, .bp 1001 0] [(1000, .box 22 [.sl Y0 a0]), (1001, .box 23 [.sl Y1 a1])] (.bool r) := by
  unfold history_Linear_1 at h
  refine HC.of_body tab_ok (res := [.tmp 2]) Try.func93 rfl (by kernel_rfl) rfl (nt := 9) rfl (by decide) (by simp) ?_
  refine AW.seq ?_
  refine AW.ops ?_
  refine AO.allF tab_ok (by decide) [(0, .bp 1000 0), (1, .bp 1001 0)] [(1000, .box 22 [.sl Y0 a0]), (1001, .box 23 [.sl Y1 a1])] (by (simp only [go_sem]) <;> (repeat' with_reducible apply And.intro) <;> first | assumption | rfl | omega | (unfold maxLen; omega)) ?_
  refine athen_n ?_
  refine AW.seq ?_
  refine AW.ops ?_
  refine AO.segF tab_ok 2 (by decide) [(3, .sl Y0 a0), (4, .sl Y1 a1)] [(1000, .box 22 [.sl Y0 a0]), (1001, .box 23 [.sl Y1 a1])] (by (simp only [go_sem]) <;> (repeat' with_reducible apply And.intro) <;> first | assumption | rfl | omega | (unfold maxLen; omega)) ?_
  obtain ⟨v0, hv1, h⟩ := Option.bind_eq_some_iff.1 h
  refine AO.call tab_ok (by decide) rfl rfl rfl (fun _ h => h) [] [] (hc_history_newSearch a0 a1 hv1) rfl (by (simp only [go_sem]) <;> (repeat' with_reducible apply And.intro) <;> first | assumption | rfl | omega | (unfold maxLen; omega)) (by (simp only [go_sem]) <;> (repeat' with_reducible apply And.intro) <;> first | assumption | rfl | omega | (unfold maxLen; omega)) [(5, .agg [.sl Y0 a0, .sl Y1 a1, .fn (.func 77) [] [], .own 15000])] [(1000, .box 22 [.sl Y0 a0]), (1001, .box 23 [.sl Y1 a1]), (15000, .map true false (.pair (.pair (.int .i64) (.int .i64)) (.int .u64)) (.int .i64) [])] (by (simp only [go_sem]) <;> (repeat' with_reducible apply And.intro) <;> first | assumption | rfl | omega | (unfold maxLen; omega)) ?_
  refine AO.segF tab_ok 1 (by decide) [(5, .agg [.sl Y0 a0, .sl Y1 a1, .fn (.func 77) [] [], .own 15000]), (6, .agg [.int .i64 0, .int .i64 0, .int .u64 0])] [(1000, .box 22 [.sl Y0 a0]), (1001, .box 23 [.sl Y1 a1]), (15000, .map true false (.pair (.pair (.int .i64) (.int .i64)) (.int .u64)) (.int .i64) [])] (by (simp only [go_sem]) <;> (repeat' with_reducible apply And.intro) <;> first | assumption | rfl | omega | (unfold maxLen; omega)) ?_
  obtain ⟨v0_2, hv2, h⟩ := Option.bind_eq_some_iff.1 h
  refine AO.call tab_ok (by decide) rfl rfl rfl (fun _ h => h) [] [(1000, 15000)] (hc_history_search_count fuel a0 a1 ((0, 0), 0) [] hv2) rfl (by (simp only [go_sem]) <;> (repeat' with_reducible apply And.intro) <;> first | assumption | rfl | omega | (unfold maxLen; omega)) (by (simp only [go_sem]) <;> (repeat' with_reducible apply And.intro) <;> first | assumption | rfl | omega | (unfold maxLen; omega)) [(7, .int .i64 v0_2.1)] [(1000, .box 22 [.sl Y0 a0]), (1001, .box 23 [.sl Y1 a1])] (by (simp only [go_sem]) <;> (repeat' with_reducible apply And.intro) <;> first | assumption | rfl | omega | (unfold maxLen; omega)) ?_
  refine AO.allF tab_ok (by decide) [(2, .bool (decide (0 < v0_2.1)))] [(1000, .box 22 [.sl Y0 a0]), (1001, .box 23 [.sl Y1 a1])] (by (simp only [go_sem]) <;> (repeat' with_reducible apply And.intro) <;> first | assumption | rfl | omega | (unfold maxLen; omega)) ?_
  refine athen_n ?_
  refine AW.ret ?_
  obtain rfl := Option.some.inj h
  exact ⟨rfl, [], [], [], rfl, (by (simp only [go_sem]) <;> (repeat' with_reducible apply And.intro) <;> first | assumption | rfl | omega | (unfold maxLen; omega))⟩

set_option maxRecDepth 100000 in
set_option maxHeartbeats 2000000 in
theorem hc_history_told_21 (c0 : List (Int × Int × (List (List Int)) × (List (List Int)))) (c1 : List (Int × Int × Int × Int × Int × Int)) {r : Bool} (h : history_told_21 c0 c1 = some r) : HC Try.prog 58 [(1000, .box 22 [.sl Y0 c0]), (1001, .box 23 [.sl Y1 c1])] [.int .i64 0, .fn (.func 93) [] [.bp 1000 0, .bp 1001 0]] [(1000, .box 22 [.sl Y0 c0]), (1001, .box 23 [.sl Y1 c1])] (.tup [.bool r, .int .i64 0]) := by
  unfold history_told_21 at h
  refine HC.of_body tab_ok (res := [.tmp 4, .tmp 5]) Try.func58 rfl (by kernel_rfl) rfl (nt := 13) rfl (by decide) (by simp) ?_
  refine AW.seq ?_
  refine AW.ops ?_
  refine AO.allF tab_ok (by decide) [(0, .int .i64 0), (1, .fn (.func 93) [] [.bp 1000 0, .bp 1001 0])] [(1000, .box 22 [.sl Y0 c0]), (1001, .box 23 [.sl Y1 c1])] (by (simp only [go_sem]) <;> (repeat' with_reducible apply And.intro) <;> first | assumption | rfl | omega | (unfold maxLen; omega)) ?_
  refine athen_n ?_
  refine AW.seq ?_
  refine AW.seq ?_
  refine AW.ops ?_
  refine AO.allF tab_ok (by decide) [(0, .int .i64 0), (1, .fn (.func 93) [] [.bp 1000 0, .bp 1001 0]), (8, .bool false)] [(1000, .box 22 [.sl Y0 c0]), (1001, .box 23 [.sl Y1 c1])] (by (simp only [go_sem]) <;> (repeat' with_reducible apply And.intro) <;> first | assumption | rfl | omega | (unfold maxLen; omega)) ?_
  refine athen_n ?_
  refine AW.cond (b := false) rfl (fun hb1 => by cases hb1) (fun _ => ?_)
  refine AW.skip ?_
  refine athen_n ?_
  refine AW.seq ?_
  refine AW.ops ?_
  refine AO.segF tab_ok 1 (by decide) [(11, .fn (.func 93) [] [.bp 1000 0, .bp 1001 0])] [(1000, .box 22 [.sl Y0 c0]), (1001, .box 23 [.sl Y1 c1])] (by (simp only [go_sem]) <;> (repeat' with_reducible apply And.intro) <;> first | assumption | rfl | omega | (unfold maxLen; omega)) ?_
  obtain ⟨v0, hv2, h⟩ := Option.bind_eq_some_iff.1 h
  refine AO.call tab_ok (by decide) rfl rfl rfl (fun _ h => h) [] [(1000, 1000), (1001, 1001)] (hc_history_Linear_1 c0 c1 hv2) rfl (by (simp only [go_sem]) <;> (repeat' with_reducible apply And.intro) <;> first | assumption | rfl | omega | (unfold maxLen; omega)) (by (simp only [go_sem]) <;> (repeat' with_reducible apply And.intro) <;> first | assumption | rfl | omega | (unfold maxLen; omega)) [(12, .bool v0)] [(1000, .box 22 [.sl Y0 c0]), (1001, .box 23 [.sl Y1 c1])] (by (simp only [go_sem]) <;> (repeat' with_reducible apply And.intro) <;> first | assumption | rfl | omega | (unfold maxLen; omega)) ?_
  refine AO.allF tab_ok (by decide) [(4, .bool v0), (5, .int .i64 0)] [(1000, .box 22 [.sl Y0 c0]), (1001, .box 23 [.sl Y1 c1])] (by (simp only [go_sem]) <;> (repeat' with_reducible apply And.intro) <;> first | assumption | rfl | omega | (unfold maxLen; omega)) ?_
  refine athen_n ?_
  refine AW.ret ?_
  obtain rfl := Option.some.inj h
  exact ⟨rfl, [], [], [], rfl, (by (simp only [go_sem]) <;> (repeat' with_reducible apply And.intro) <;> first | assumption | rfl | omega | (unfold maxLen; omega))⟩

set_option maxRecDepth 100000 in
set_option maxHeartbeats 2000000 in
theorem hc_history_told_22 (err : Int) (c0 : List (Int × Int × (List (List Int)) × (List (List Int)))) (c1 : List (Int × Int × Int × Int × Int × Int)) (hnz_err : decide (err = 0) = false) {r : Unit} (h : history_told_22 err c0 c1 = some r) : HC Try.prog 58 [(1000, .box 22 [.sl Y0 c0]), (1001, .box 23 [.sl Y1 c1])] [.int .i64 err, .fn (.func 93) [] [.bp 1000 0, .bp 1001 0]] [(1000, .box 22 [.sl Y0 c0]), (1001, .box 23 [.sl Y1 c1])] (.tup [.bool false, .int .i64 err]) := by
  unfold history_told_22 at h
  refine HC.of_body tab_ok (res := [.tmp 4, .tmp 5]) Try.func58 rfl (by kernel_rfl) rfl (nt := 13) rfl (by decide) (by simp) ?_
  refine AW.seq ?_
  refine AW.ops ?_
  refine AO.allF tab_ok (by decide) [(0, .int .i64 err), (1, .fn (.func 93) [] [.bp 1000 0, .bp 1001 0])] [(1000, .box 22 [.sl Y0 c0]), (1001, .box 23 [.sl Y1 c1])] (by (simp only [go_sem, hnz_err]) <;> (repeat' with_reducible apply And.intro) <;> first | assumption | rfl | omega | (unfold maxLen; omega)) ?_
  refine athen_n ?_
  refine AW.seq ?_
  refine AW.seq ?_
  refine AW.ops ?_
  refine AO.allF tab_ok (by decide) [(0, .int .i64 err), (1, .fn (.func 93) [] [.bp 1000 0, .bp 1001 0]), (8, .bool true)] [(1000, .box 22 [.sl Y0 c0]), (1001, .box 23 [.sl Y1 c1])] (by (simp only [go_sem, hnz_err]) <;> (repeat' with_reducible apply And.intro) <;> first | assumption | rfl | omega | (unfold maxLen; omega)) ?_
  refine athen_n ?_
  refine AW.cond (b := true) rfl (fun _ => ?_) (fun hb1 => by cases hb1)
  refine AW.seq ?_
  refine AW.ops ?_
  refine AO.allF tab_ok (by decide) [(0, .int .i64 err), (6, .bool false)] [(1000, .box 22 [.sl Y0 c0]), (1001, .box 23 [.sl Y1 c1])] (by (simp only [go_sem, hnz_err]) <;> (repeat' with_reducible apply And.intro) <;> first | assumption | rfl | omega | (unfold maxLen; omega)) ?_
  refine athen_n ?_
  refine AW.seq ?_
  refine AW.ops ?_
  refine AO.allF tab_ok (by decide) [(4, .bool false), (5, .int .i64 err)] [(1000, .box 22 [.sl Y0 c0]), (1001, .box 23 [.sl Y1 c1])] (by (simp only [go_sem, hnz_err]) <;> (repeat' with_reducible apply And.intro) <;> first | assumption | rfl | omega | (unfold maxLen; omega)) ?_
  refine athen_n ?_
  refine AW.ret ?_
  refine athen_r ?_
  obtain rfl := Option.some.inj h
  exact ⟨rfl, [], [], [], rfl, (by (simp only [go_sem, hnz_err]) <;> (repeat' with_reducible apply And.intro) <;> first | assumption | rfl | omega | (unfold maxLen; omega))⟩

set_option maxRecDepth 100000 in
set_option maxHeartbeats 2000000 in
theorem hc_history_Linear (specs : List (Int × Int × (List (List Int)) × (List (List Int)))) (h0 : List (Int × Int × Int × Int × Int × Int)) {r : Bool × Int} (h : history_Linear specs h0 = some r) : HC Try.prog 35 [] [.sl Y0 specs, .sl Y1 h0] [] (.tup [.bool r.1, .int .i64 r.2]) := by
  unfold history_Linear at h
  refine HC.of_body tab_ok (res := [.tmp 4, .tmp 5]) Try.func35 rfl (by kernel_rfl) rfl (nt := 13) rfl (by decide) (by simp) ?_
  refine AW.seq ?_
  refine AW.ops ?_
  refine AO.allF tab_ok (by decide) [(2, .bp 2 0), (3, .bp 3 0)] [(2, .box 22 [.sl Y0 specs]), (3, .box 23 [.sl Y1 h0])] (by (simp only [go_sem]) <;> (repeat' with_reducible apply And.intro) <;> first | assumption | rfl | omega | (unfold maxLen; omega)) ?_
  refine athen_n ?_
  refine AW.seq ?_
  refine AW.ops ?_
  refine AO.segF tab_ok 2 (by decide) [(2, .bp 2 0), (3, .bp 3 0), (6, .sl Y0 specs), (7, .sl Y1 h0)] [(2, .box 22 [.sl Y0 specs]), (3, .box 23 [.sl Y1 h0])] (by (simp only [go_sem]) <;> (repeat' with_reducible apply And.intro) <;> first | assumption | rfl | omega | (unfold maxLen; omega)) ?_
  obtain ⟨v0, hv1, h⟩ := Option.bind_eq_some_iff.1 h
  refine AO.call tab_ok (by decide) rfl rfl rfl (fun _ h => h) [] [] (hc_history_checkFor specs h0 hv1) rfl (by (simp only [go_sem]) <;> (repeat' with_reducible apply And.intro) <;> first | assumption | rfl | omega | (unfold maxLen; omega)) (by (simp only [go_sem]) <;> (repeat' with_reducible apply And.intro) <;> first | assumption | rfl | omega | (unfold maxLen; omega)) [(2, .bp 2 0), (3, .bp 3 0), (8, .int .i64 v0)] [(2, .box 22 [.sl Y0 specs]), (3, .box 23 [.sl Y1 h0])] (by (simp only [go_sem]) <;> (repeat' with_reducible apply And.intro) <;> first | assumption | rfl | omega | (unfold maxLen; omega)) ?_
  refine AO.segF tab_ok 1 (by decide) [(8, .int .i64 v0), (9, .fn (.func 93) [] [.bp 2 0, .bp 3 0])] [(2, .box 22 [.sl Y0 specs]), (3, .box 23 [.sl Y1 h0])] (by (simp only [go_sem]) <;> (repeat' with_reducible apply And.intro) <;> first | assumption | rfl | omega | (unfold maxLen; omega)) ?_
  rcases Bool.eq_false_or_eq_true (decide (v0 = 0)) with hb2 | hb2
  · rw [if_pos hb2] at h
    have hz3 : v0 = 0 := by simpa using hb2
    refine AO.weaken (s' := ⟨fr [(8, .int .i64 0), (9, .fn (.func 93) [] [.bp 2 0, .bp 3 0])], hpGet [(2, .box 22 [.sl Y0 specs]), (3, .box 23 [.sl Y1 h0])], gt⟩) (Wk.to (by (simp only [go_sem, hb2, hz3]) <;> (repeat' with_reducible apply And.intro) <;> first | assumption | rfl | omega | (unfold maxLen; omega))) ?_
    obtain ⟨v0_2, hv4, h⟩ := Option.bind_eq_some_iff.1 h
    refine AO.call tab_ok (by decide) rfl rfl rfl (fun _ h => h) [] [(1000, 2), (1001, 3)] (hc_history_told_21 specs h0 hv4) rfl (by (simp only [go_sem, hb2, hz3]) <;> (repeat' with_reducible apply And.intro) <;> first | assumption | rfl | omega | (unfold maxLen; omega)) (by (simp only [go_sem, hb2, hz3]) <;> (repeat' with_reducible apply And.intro) <;> first | assumption | rfl | omega | (unfold maxLen; omega)) [(10, .tup [.bool v0_2, .int .i64 0])] [] (by (simp only [go_sem, hb2, hz3]) <;> (repeat' with_reducible apply And.intro) <;> first | assumption | rfl | omega | (unfold maxLen; omega)) ?_
    refine AO.allF tab_ok (by decide) [(4, .bool v0_2), (5, .int .i64 0)] [] (by (simp only [go_sem, hb2, hz3]) <;> (repeat' with_reducible apply And.intro) <;> first | assumption | rfl | omega | (unfold maxLen; omega)) ?_
    refine athen_n ?_
    refine AW.ret ?_
    obtain rfl := Option.some.inj h
    exact ⟨rfl, [], [], [], rfl, (by (simp only [go_sem, hb2, hz3]) <;> (repeat' with_reducible apply And.intro) <;> first | assumption | rfl | omega | (unfold maxLen; omega))⟩
  · rw [if_neg (Bool.eq_false_iff.1 hb2)] at h
    refine AO.weaken (s' := ⟨fr [(8, .int .i64 v0), (9, .fn (.func 93) [] [.bp 2 0, .bp 3 0])], hpGet [(2, .box 22 [.sl Y0 specs]), (3, .box 23 [.sl Y1 h0])], gt⟩) (Wk.to (by (simp only [go_sem, hb2]) <;> (repeat' with_reducible apply And.intro) <;> first | assumption | rfl | omega | (unfold maxLen; omega))) ?_
    obtain ⟨v0_3, hv5, h⟩ := Option.bind_eq_some_iff.1 h
    refine AO.call tab_ok (by decide) rfl rfl rfl (fun _ h => h) [] [(1000, 2), (1001, 3)] (hc_history_told_22 v0 specs h0 hb2 hv5) rfl (by (simp only [go_sem, hb2]) <;> (repeat' with_reducible apply And.intro) <;> first | assumption | rfl | omega | (unfold maxLen; omega)) (by (simp only [go_sem, hb2]) <;> (repeat' with_reducible apply And.intro) <;> first | assumption | rfl | omega | (unfold maxLen; omega)) [(10, .tup [.bool false, .int .i64 v0])] [] (by (simp only [go_sem, hb2]) <;> (repeat' with_reducible apply And.intro) <;> first | assumption | rfl | omega | (unfold maxLen; omega)) ?_
    refine AO.allF tab_ok (by decide) [(4, .bool false), (5, .int .i64 v0)] [] (by (simp only [go_sem, hb2]) <;> (repeat' with_reducible apply And.intro) <;> first | assumption | rfl | omega | (unfold maxLen; omega)) ?_
    refine athen_n ?_
    refine AW.ret ?_
    obtain rfl := Option.some.inj h
    exact ⟨rfl, [], [], [], rfl, (by (simp only [go_sem, hb2]) <;> (repeat' with_reducible apply And.intro) <;> first | assumption | rfl | omega | (unfold maxLen; omega))⟩

set_option maxRecDepth 100000 in
set_option maxHeartbeats 2000000 in
theorem hc_lineallaw02_HistoryObjects (specs : List (Int × Int × (List (List Int)) × (List (List Int)))) (h0 : List (Int × Int × Int × Int × Int × Int)) {r : Bool} (h : lineallaw02_HistoryObjects specs h0 = some r) : HC Try.prog 12 [] [.sl Y0 specs, .sl Y1 h0] [] (.bool r) := by
  unfold lineallaw02_HistoryObjects at h
  refine HC.of_body tab_ok (res := [.tmp 4]) Try.func12 rfl (by kernel_rfl) rfl (nt := 79) rfl (by decide) (by simp) ?_
  refine AW.seq ?_
  refine AW.ops ?_
  refine AO.allF tab_ok (by decide) [(0, .sl Y0 specs), (1, .sl Y1 h0)] [] (by (simp only [go_sem]) <;> (repeat' with_reducible apply And.intro) <;> first | assumption | rfl | omega | (unfold maxLen; omega)) ?_
  refine athen_n ?_
  refine AW.seq ?_
  refine AW.seq ?_
  refine AW.ops ?_
  refine AO.segF tab_ok 1 (by decide) [(0, .sl Y0 specs), (1, .sl Y1 h0), (14, .sl Y0 specs)] [] (by (simp only [go_sem]) <;> (repeat' with_reducible apply And.intro) <;> first | assumption | rfl | omega | (unfold maxLen; omega)) ?_
  obtain ⟨v0, hv1, h⟩ := Option.bind_eq_some_iff.1 h
  refine AO.call tab_ok (by decide) rfl rfl rfl (fun _ h => h) [] [] (hc_lineallaw02_Large specs hv1) rfl (by (simp only [go_sem]) <;> (repeat' with_reducible apply And.intro) <;> first | assumption | rfl | omega | (unfold maxLen; omega)) (by (simp only [go_sem]) <;> (repeat' with_reducible apply And.intro) <;> first | assumption | rfl | omega | (unfold maxLen; omega)) [(0, .sl Y0 specs), (1, .sl Y1 h0), (15, .bool v0)] [] (by (simp only [go_sem]) <;> (repeat' with_reducible apply And.intro) <;> first | assumption | rfl | omega | (unfold maxLen; omega)) ?_
  refine AO.segF tab_ok 1 (by decide) [(0, .sl Y0 specs), (1, .sl Y1 h0), (16, .bool v0)] [] (by (simp only [go_sem]) <;> (repeat' with_reducible apply And.intro) <;> first | assumption | rfl | omega | (unfold maxLen; omega)) ?_
  rcases Bool.eq_false_or_eq_true v0 with hb2 | hb2
  · rw [if_pos hb2] at h
    refine AO.weaken (s' := ⟨fr [(0, .sl Y0 specs), (1, .sl Y1 h0), (16, .bool true)], hpGet [], gt⟩) (Wk.to (by (simp only [go_sem, hb2]) <;> (repeat' with_reducible apply And.intro) <;> first | assumption | rfl | omega | (unfold maxLen; omega))) ?_
    refine AO.segF tab_ok 6 (by decide) [(0, .sl Y0 specs), (1, .sl Y1 h0), (20, .bool true), (21, .cv (undef)), (22, .cv (undef))] [] (by (simp only [go_sem, hb2]) <;> (repeat' with_reducible apply And.intro) <;> first | assumption | rfl | omega | (unfold maxLen; omega)) ?_
    refine AO.allF tab_ok (by decide) [(0, .sl Y0 specs), (1, .sl Y1 h0), (25, .bool true)] [] (by (simp only [go_sem, hb2]) <;> (repeat' with_reducible apply And.intro) <;> first | assumption | rfl | omega | (unfold maxLen; omega)) ?_
    refine athen_n ?_
    refine AW.cond (b := true) rfl (fun _ => ?_) (fun hb3 => by cases hb3)
    refine AW.seq ?_
    refine AW.ops ?_
    obtain ⟨v0_2, hv4, h⟩ := Option.bind_eq_some_iff.1 h
    refine AO.call tab_ok (by decide) rfl rfl rfl (fun _ h => h) [] [] (hc_lineallaw02_Sane hv4) rfl (by (simp only [go_sem, hb2]) <;> (repeat' with_reducible apply And.intro) <;> first | assumption | rfl | omega | (unfold maxLen; omega)) (by (simp only [go_sem, hb2]) <;> (repeat' with_reducible apply And.intro) <;> first | assumption | rfl | omega | (unfold maxLen; omega)) [(26, .bool v0_2)] [] (by (simp only [go_sem, hb2]) <;> (repeat' with_reducible apply And.intro) <;> first | assumption | rfl | omega | (unfold maxLen; omega)) ?_
    refine AO.allF tab_ok (by decide) [(4, .bool v0_2)] [] (by (simp only [go_sem, hb2]) <;> (repeat' with_reducible apply And.intro) <;> first | assumption | rfl | omega | (unfold maxLen; omega)) ?_
    refine athen_n ?_
    refine AW.ret ?_
    refine athen_r ?_
    obtain rfl := Option.some.inj h
    exact ⟨rfl, [], [], [], rfl, (by (simp only [go_sem, hb2]) <;> (repeat' with_reducible apply And.intro) <;> first | assumption | rfl | omega | (unfold maxLen; omega))⟩
  · rw [if_neg (Bool.eq_false_iff.1 hb2)] at h
    refine AO.weaken (s' := ⟨fr [(0, .sl Y0 specs), (1, .sl Y1 h0), (16, .bool false)], hpGet [], gt⟩) (Wk.to (by (simp only [go_sem, hb2]) <;> (repeat' with_reducible apply And.intro) <;> first | assumption | rfl | omega | (unfold maxLen; omega))) ?_
    refine AO.segF tab_ok 1 (by decide) [(0, .sl Y0 specs), (1, .sl Y1 h0), (16, .bool false), (17, .sl Y1 h0)] [] (by (simp only [go_sem, hb2]) <;> (repeat' with_reducible apply And.intro) <;> first | assumption | rfl | omega | (unfold maxLen; omega)) ?_
    obtain ⟨v0_3, hv5, h⟩ := Option.bind_eq_some_iff.1 h
    refine AO.call tab_ok (by decide) rfl rfl rfl (fun _ h => ⟨fun _ => h, fun hn => absurd rfl hn⟩) [] [] (hc_lineallaw02_Long h0 hv5) rfl (by (simp only [go_sem, hb2]) <;> (repeat' with_reducible apply And.intro) <;> first | assumption | rfl | omega | (unfold maxLen; omega)) (by (simp only [go_sem, hb2]) <;> (repeat' with_reducible apply And.intro) <;> first | assumption | rfl | omega | (unfold maxLen; omega)) [(0, .sl Y0 specs), (1, .sl Y1 h0), (16, .bool false), (18, .bool (decide (40 < (h0.length : Int))))] [] (by (simp only [go_sem, hb2]) <;> (repeat' with_reducible apply And.intro) <;> first | assumption | rfl | omega | (unfold maxLen; omega)) ?_
    refine AO.segF tab_ok 2 (by decide) [(0, .sl Y0 specs), (1, .sl Y1 h0), (20, .bool (decide (40 < (h0.length : Int))))] [] (by (simp only [go_sem, hb2]) <;> (repeat' with_reducible apply And.intro) <;> first | assumption | rfl | omega | (unfold maxLen; omega)) ?_
    rcases Bool.eq_false_or_eq_true (decide (40 < (h0.length : Int))) with hb6 | hb6
    · rw [if_pos hb6] at h
      refine AO.weaken (s' := ⟨fr [(0, .sl Y0 specs), (1, .sl Y1 h0), (20, .bool true)], hpGet [], gt⟩) (Wk.to (by (simp only [go_sem, hb2, hb6]) <;> (repeat' with_reducible apply And.intro) <;> first | assumption | rfl | omega | (unfold maxLen; omega))) ?_
      refine AO.segF tab_ok 4 (by decide) [(0, .sl Y0 specs), (1, .sl Y1 h0), (20, .bool true), (24, .cv (undef))] [] (by (simp only [go_sem, hb2, hb6]) <;> (repeat' with_reducible apply And.intro) <;> first | assumption | rfl | omega | (unfold maxLen; omega)) ?_
      refine AO.allF tab_ok (by decide) [(0, .sl Y0 specs), (1, .sl Y1 h0), (25, .bool true)] [] (by (simp only [go_sem, hb2, hb6]) <;> (repeat' with_reducible apply And.intro) <;> first | assumption | rfl | omega | (unfold maxLen; omega)) ?_
      refine athen_n ?_
      refine AW.cond (b := true) rfl (fun _ => ?_) (fun hb7 => by cases hb7)
      refine AW.seq ?_
      refine AW.ops ?_
      obtain ⟨v0_4, hv8, h⟩ := Option.bind_eq_some_iff.1 h
      refine AO.call tab_ok (by decide) rfl rfl rfl (fun _ h => h) [] [] (hc_lineallaw02_Sane hv8) rfl (by (simp only [go_sem, hb2, hb6]) <;> (repeat' with_reducible apply And.intro) <;> first | assumption | rfl | omega | (unfold maxLen; omega)) (by (simp only [go_sem, hb2, hb6]) <;> (repeat' with_reducible apply And.intro) <;> first | assumption | rfl | omega | (unfold maxLen; omega)) [(26, .bool v0_4)] [] (by (simp only [go_sem, hb2, hb6]) <;> (repeat' with_reducible apply And.intro) <;> first | assumption | rfl | omega | (unfold maxLen; omega)) ?_
      refine AO.allF tab_ok (by decide) [(4, .bool v0_4)] [] (by (simp only [go_sem, hb2, hb6]) <;> (repeat' with_reducible apply And.intro) <;> first | assumption | rfl | omega | (unfold maxLen; omega)) ?_
      refine athen_n ?_
      refine AW.ret ?_
      refine athen_r ?_
      obtain rfl := Option.some.inj h
      exact ⟨rfl, [], [], [], rfl, (by (simp only [go_sem, hb2, hb6]) <;> (repeat' with_reducible apply And.intro) <;> first | assumption | rfl | omega | (unfold maxLen; omega))⟩
    · rw [if_neg (Bool.eq_false_iff.1 hb6)] at h
      refine AO.weaken (s' := ⟨fr [(0, .sl Y0 specs), (1, .sl Y1 h0), (20, .bool false)], hpGet [], gt⟩) (Wk.to (by (simp only [go_sem, hb2, hb6]) <;> (repeat' with_reducible apply And.intro) <;> first | assumption | rfl | omega | (unfold maxLen; omega))) ?_
      refine AO.segF tab_ok 2 (by decide) [(0, .sl Y0 specs), (1, .sl Y1 h0), (20, .bool false), (21, .sl Y0 specs), (22, .sl Y1 h0)] [] (by (simp only [go_sem, hb2, hb6]) <;> (repeat' with_reducible apply And.intro) <;> first | assumption | rfl | omega | (unfold maxLen; omega)) ?_
      obtain ⟨v0_5, hv9, h⟩ := Option.bind_eq_some_iff.1 h
      refine AO.call tab_ok (by decide) rfl rfl rfl (fun _ h => ⟨fun _ => h, fun hn => absurd rfl hn⟩) [] [] (hc_lineallaw02_isFor specs h0 hv9) rfl (by (simp only [go_sem, hb2, hb6]) <;> (repeat' with_reducible apply And.intro) <;> first | assumption | rfl | omega | (unfold maxLen; omega)) (by (simp only [go_sem, hb2, hb6]) <;> (repeat' with_reducible apply And.intro) <;> first | assumption | rfl | omega | (unfold maxLen; omega)) [(0, .sl Y0 specs), (1, .sl Y1 h0), (20, .bool false), (23, .bool v0_5)] [] (by (simp only [go_sem, hb2, hb6]) <;> (repeat' with_reducible apply And.intro) <;> first | assumption | rfl | omega | (unfold maxLen; omega)) ?_
      refine AO.allF tab_ok (by decide) [(0, .sl Y0 specs), (1, .sl Y1 h0), (25, .bool (!v0_5))] [] (by (simp only [go_sem, hb2, hb6]) <;> (repeat' with_reducible apply And.intro) <;> first | assumption | rfl | omega | (unfold maxLen; omega)) ?_
      refine athen_n ?_
      refine AW.cond (b := (!v0_5)) rfl (fun hb10 => ?_) (fun hb10 => ?_)
      · rw [if_pos hb10] at h
        refine AW.seq ?_
        refine AW.ops ?_
        obtain ⟨v0_6, hv11, h⟩ := Option.bind_eq_some_iff.1 h
        refine AO.call tab_ok (by decide) rfl rfl rfl (fun _ h => h) [] [] (hc_lineallaw02_Sane hv11) rfl (by (simp only [go_sem, hb2, hb6, hb10]) <;> (repeat' with_reducible apply And.intro) <;> first | assumption | rfl | omega | (unfold maxLen; omega)) (by (simp only [go_sem, hb2, hb6, hb10]) <;> (repeat' with_reducible apply And.intro) <;> first | assumption | rfl | omega | (unfold maxLen; omega)) [(26, .bool v0_6)] [] (by (simp only [go_sem, hb2, hb6, hb10]) <;> (repeat' with_reducible apply And.intro) <;> first | assumption | rfl | omega | (unfold maxLen; omega)) ?_
        refine AO.allF tab_ok (by decide) [(4, .bool v0_6)] [] (by (simp only [go_sem, hb2, hb6, hb10]) <;> (repeat' with_reducible apply And.intro) <;> first | assumption | rfl | omega | (unfold maxLen; omega)) ?_
        refine athen_n ?_
        refine AW.ret ?_
        refine athen_r ?_
        obtain rfl := Option.some.inj h
        exact ⟨rfl, [], [], [], rfl, (by (simp only [go_sem, hb2, hb6, hb10]) <;> (repeat' with_reducible apply And.intro) <;> first | assumption | rfl | omega | (unfold maxLen; omega))⟩
      · rw [if_neg (Bool.eq_false_iff.1 hb10)] at h
        refine AW.skip ?_
        refine athen_n ?_
        refine AW.seq ?_
        refine AW.ops ?_
        refine AO.segF tab_ok 2 (by decide) [(0, .sl Y0 specs), (1, .sl Y1 h0), (28, .sl Y0 specs), (29, .sl Y1 h0)] [] (by (simp only [go_sem, hb2, hb6, hb10]) <;> (repeat' with_reducible apply And.intro) <;> first | assumption | rfl | omega | (unfold maxLen; omega)) ?_
        obtain ⟨v0_7, hv12, h⟩ := Option.bind_eq_some_iff.1 h
        refine AO.call tab_ok (by decide) rfl rfl rfl (fun _ h => h) [] [] (hc_history_Linear specs h0 hv12) rfl (by (simp only [go_sem, hb2, hb6, hb10]) <;> (repeat' with_reducible apply And.intro) <;> first | assumption | rfl | omega | (unfold maxLen; omega)) (by (simp only [go_sem, hb2, hb6, hb10]) <;> (repeat' with_reducible apply And.intro) <;> first | assumption | rfl | omega | (unfold maxLen; omega)) [(0, .sl Y0 specs), (1, .sl Y1 h0), (30, .tup [.bool v0_7.1, .int .i64 v0_7.2])] [] (by (simp only [go_sem, hb2, hb6, hb10]) <;> (repeat' with_reducible apply And.intro) <;> first | assumption | rfl | omega | (unfold maxLen; omega)) ?_
        refine AO.allF tab_ok (by decide) [(0, .sl Y0 specs), (1, .sl Y1 h0), (5, .bool v0_7.1), (6, .int .i64 v0_7.2)] [] (by (simp only [go_sem, hb2, hb6, hb10]) <;> (repeat' with_reducible apply And.intro) <;> first | assumption | rfl | omega | (unfold maxLen; omega)) ?_
        refine athen_n ?_
        refine AW.seq ?_
        refine AW.ops ?_
        refine AO.allF tab_ok (by decide) [(0, .sl Y0 specs), (1, .sl Y1 h0), (5, .bool v0_7.1), (6, .int .i64 v0_7.2), (7, .bool true)] [] (by (simp only [go_sem, hb2, hb6, hb10]) <;> (repeat' with_reducible apply And.intro) <;> first | assumption | rfl | omega | (unfold maxLen; omega)) ?_
        refine athen_n ?_
        refine AW.seq ?_
        refine AW.ops ?_
        refine AO.allF tab_ok (by decide) [(0, .sl Y0 specs), (1, .sl Y1 h0), (5, .bool v0_7.1), (6, .int .i64 v0_7.2), (7, .bool true), (8, .int .i64 0)] [] (by (simp only [go_sem, hb2, hb6, hb10]) <;> (repeat' with_reducible apply And.intro) <;> first | assumption | rfl | omega | (unfold maxLen; omega)) ?_
        refine athen_n ?_
        refine AW.have1 (fun b1 : Bool × Int => lineallaw02_HistoryObjects_k1 h0 v0_7 b1 = some r) (fun b1 => ⟨fr [(1, .sl Y1 h0), (5, .bool v0_7.1), (6, .int .i64 v0_7.2), (7, .bool b1.1), (8, .int .i64 b1.2)], hpGet [], gt⟩) (fun b1 h => ?_) (fun hk_lineallaw02_HistoryObjects_k1 => ?_)
        · unfold lineallaw02_HistoryObjects_k1 at h
          refine AW.seq ?_
          refine AW.ops ?_
          refine AO.segF tab_ok 3 (by decide) [(1, .sl Y1 h0), (5, .bool v0_7.1), (7, .bool b1.1), (8, .int .i64 b1.2), (65, .bool (decide (v0_7.2 = 0)))] [] (by (simp only [go_sem, hb2, hb6, hb10]) <;> (repeat' with_reducible apply And.intro) <;> first | assumption | rfl | omega | (unfold maxLen; omega)) ?_
          rcases Bool.eq_false_or_eq_true (decide (v0_7.2 = 0)) with hb13 | hb13
          · rw [if_pos hb13] at h
            refine AO.weaken (s' := ⟨fr [(1, .sl Y1 h0), (5, .bool v0_7.1), (7, .bool b1.1), (8, .int .i64 b1.2), (65, .bool true)], hpGet [], gt⟩) (Wk.to (by (simp only [go_sem, hb2, hb6, hb10, hb13]) <;> (repeat' with_reducible apply And.intro) <;> first | assumption | rfl | omega | (unfold maxLen; omega))) ?_
            refine AO.segF tab_ok 6 (by decide) [(5, .bool v0_7.1), (7, .bool b1.1), (71, .bool (decide (b1.2 = (h0.length : Int))))] [] (by (simp only [go_sem, hb2, hb6, hb10, hb13]) <;> (repeat' with_reducible apply And.intro) <;> first | assumption | rfl | omega | (unfold maxLen; omega)) ?_
            rcases Bool.eq_false_or_eq_true (decide (b1.2 = (h0.length : Int))) with hb14 | hb14
            · rw [if_pos hb14] at h
              refine AO.weaken (s' := ⟨fr [(5, .bool v0_7.1), (7, .bool b1.1), (71, .bool true)], hpGet [], gt⟩) (Wk.to (by (simp only [go_sem, hb2, hb6, hb10, hb13, hb14]) <;> (repeat' with_reducible apply And.intro) <;> first | assumption | rfl | omega | (unfold maxLen; omega))) ?_
              refine AO.segF tab_ok 5 (by decide) [(76, .bool ((v0_7.1 == b1.1) != false))] [] (by (simp only [go_sem, hb2, hb6, hb10, hb13, hb14]) <;> (repeat' with_reducible apply And.intro) <;> first | assumption | rfl | omega | (unfold maxLen; omega)) ?_
              rcases Bool.eq_false_or_eq_true ((v0_7.1 == b1.1) != false) with hb15 | hb15
              · rw [if_pos hb15] at h
                refine AO.weaken (s' := ⟨fr [(76, .bool true)], hpGet [], gt⟩) (Wk.to (by (simp only [go_sem, hb2, hb6, hb10, hb13, hb14, hb15]) <;> (repeat' with_reducible apply And.intro) <;> first | assumption | rfl | omega | (unfold maxLen; omega))) ?_
                obtain ⟨v0_10, hv16, h⟩ := Option.bind_eq_some_iff.1 h
                refine AO.call tab_ok (by decide) rfl rfl rfl (fun _ h => ⟨fun _ => h, fun hn => absurd rfl hn⟩) [] [] (hc_lineallaw02_Sane hv16) rfl (by (simp only [go_sem, hb2, hb6, hb10, hb13, hb14, hb15]) <;> (repeat' with_reducible apply And.intro) <;> first | assumption | rfl | omega | (unfold maxLen; omega)) (by (simp only [go_sem, hb2, hb6, hb10, hb13, hb14, hb15]) <;> (repeat' with_reducible apply And.intro) <;> first | assumption | rfl | omega | (unfold maxLen; omega)) [(76, .bool true), (77, .bool v0_10)] [] (by (simp only [go_sem, hb2, hb6, hb10, hb13, hb14, hb15]) <;> (repeat' with_reducible apply And.intro) <;> first | assumption | rfl | omega | (unfold maxLen; omega)) ?_
                refine AO.allF tab_ok (by decide) [(4, .bool v0_10)] [] (by (simp only [go_sem, hb2, hb6, hb10, hb13, hb14, hb15]) <;> (repeat' with_reducible apply And.intro) <;> first | assumption | rfl | omega | (unfold maxLen; omega)) ?_
                refine athen_n ?_
                refine AW.ret ?_
                obtain rfl := Option.some.inj h
                exact ⟨rfl, [], [], [], rfl, (by (simp only [go_sem, hb2, hb6, hb10, hb13, hb14, hb15]) <;> (repeat' with_reducible apply And.intro) <;> first | assumption | rfl | omega | (unfold maxLen; omega))⟩
              · rw [if_neg (Bool.eq_false_iff.1 hb15)] at h
                refine AO.weaken (s' := ⟨fr [(76, .bool false)], hpGet [], gt⟩) (Wk.to (by (simp only [go_sem, hb2, hb6, hb10, hb13, hb14, hb15]) <;> (repeat' with_reducible apply And.intro) <;> first | assumption | rfl | omega | (unfold maxLen; omega))) ?_
                refine AO.allF tab_ok (by decide) [(4, .bool false)] [] (by (simp only [go_sem, hb2, hb6, hb10, hb13, hb14, hb15]) <;> (repeat' with_reducible apply And.intro) <;> first | assumption | rfl | omega | (unfold maxLen; omega)) ?_
                refine athen_n ?_
                refine AW.ret ?_
                obtain rfl := Option.some.inj h
                exact ⟨rfl, [], [], [], rfl, (by (simp only [go_sem, hb2, hb6, hb10, hb13, hb14, hb15]) <;> (repeat' with_reducible apply And.intro) <;> first | assumption | rfl | omega | (unfold maxLen; omega))⟩
            · rw [if_neg (Bool.eq_false_iff.1 hb14)] at h
              refine AO.weaken (s' := ⟨fr [(5, .bool v0_7.1), (7, .bool b1.1), (71, .bool false)], hpGet [], gt⟩) (Wk.to (by (simp only [go_sem, hb2, hb6, hb10, hb13, hb14]) <;> (repeat' with_reducible apply And.intro) <;> first | assumption | rfl | omega | (unfold maxLen; omega))) ?_
              refine AO.segF tab_ok 6 (by decide) [(76, .bool false), (77, .cv (undef))] [] (by (simp only [go_sem, hb2, hb6, hb10, hb13, hb14]) <;> (repeat' with_reducible apply And.intro) <;> first | assumption | rfl | omega | (unfold maxLen; omega)) ?_
              refine AO.allF tab_ok (by decide) [(4, .bool false)] [] (by (simp only [go_sem, hb2, hb6, hb10, hb13, hb14]) <;> (repeat' with_reducible apply And.intro) <;> first | assumption | rfl | omega | (unfold maxLen; omega)) ?_
              refine athen_n ?_
              refine AW.ret ?_
              obtain rfl := Option.some.inj h
              exact ⟨rfl, [], [], [], rfl, (by (simp only [go_sem, hb2, hb6, hb10, hb13, hb14]) <;> (repeat' with_reducible apply And.intro) <;> first | assumption | rfl | omega | (unfold maxLen; omega))⟩
          · rw [if_neg (Bool.eq_false_iff.1 hb13)] at h
            refine AO.weaken (s' := ⟨fr [(1, .sl Y1 h0), (5, .bool v0_7.1), (7, .bool b1.1), (8, .int .i64 b1.2), (65, .bool false)], hpGet [], gt⟩) (Wk.to (by (simp only [go_sem, hb2, hb6, hb10, hb13]) <;> (repeat' with_reducible apply And.intro) <;> first | assumption | rfl | omega | (unfold maxLen; omega))) ?_
            refine AO.segF tab_ok 4 (by decide) [(5, .bool v0_7.1), (7, .bool b1.1), (65, .bool false), (69, .cv (undef))] [] (by (simp only [go_sem, hb2, hb6, hb10, hb13]) <;> (repeat' with_reducible apply And.intro) <;> first | assumption | rfl | omega | (unfold maxLen; omega)) ?_
            refine AO.segF tab_ok 8 (by decide) [(76, .bool false), (77, .cv (undef))] [] (by (simp only [go_sem, hb2, hb6, hb10, hb13]) <;> (repeat' with_reducible apply And.intro) <;> first | assumption | rfl | omega | (unfold maxLen; omega)) ?_
            refine AO.allF tab_ok (by decide) [(4, .bool false)] [] (by (simp only [go_sem, hb2, hb6, hb10, hb13]) <;> (repeat' with_reducible apply And.intro) <;> first | assumption | rfl | omega | (unfold maxLen; omega)) ?_
            refine athen_n ?_
            refine AW.ret ?_
            obtain rfl := Option.some.inj h
            exact ⟨rfl, [], [], [], rfl, (by (simp only [go_sem, hb2, hb6, hb10, hb13]) <;> (repeat' with_reducible apply And.intro) <;> first | assumption | rfl | omega | (unfold maxLen; omega))⟩
        · refine AW.seq ?_
          refine AW.seq ?_
          refine AW.ops ?_
          refine AO.allF tab_ok (by decide) [(0, .sl Y0 specs), (1, .sl Y1 h0), (5, .bool v0_7.1), (6, .int .i64 v0_7.2), (7, .bool true), (8, .int .i64 0), (9, .int .i64 0)] [] (by (simp only [go_sem, hb2, hb6, hb10]) <;> (repeat' with_reducible apply And.intro) <;> first | assumption | rfl | omega | (unfold maxLen; omega)) ?_
          refine athen_n ?_
          refine AW.block ?_
          obtain ⟨rv21, hw17, ho18⟩ := Option.bind_eq_some_iff.1 h
          refine AW.loopO (lineallaw02_HistoryObjects_b1 specs h0) (fun st1 => ⟨fr [(0, .sl Y0 specs), (1, .sl Y1 h0), (5, .bool v0_7.1), (6, .int .i64 v0_7.2), (7, .bool st1.1), (8, .int .i64 st1.2.1), (9, .int .i64 st1.2.2)], hpGet [], gt⟩) (true, 0, 0) hw17 (Wk.le [] [] [] rfl (by (simp only [go_sem, hb2, hb6, hb10]) <;> (repeat' with_reducible apply And.intro) <;> first | assumption | rfl | omega | (unfold maxLen; omega)) (by (simp only [go_sem, hb2, hb6, hb10]) <;> (repeat' with_reducible apply And.intro) <;> first | assumption | rfl | omega | (unfold maxLen; omega))) ?_
          intro st1 x20 h hd19
          unfold lineallaw02_HistoryObjects_b1 at h
          refine AW.seq ?_
          refine AW.seq ?_
          refine AW.ops ?_
          refine AO.allF tab_ok (by decide) [(0, .sl Y0 specs), (1, .sl Y1 h0), (5, .bool v0_7.1), (6, .int .i64 v0_7.2), (7, .bool st1.1), (8, .int .i64 st1.2.1), (9, .int .i64 st1.2.2), (34, .bool (decide (st1.2.2 < 2)))] [] (by (simp only [go_sem, hb2, hb6, hb10]) <;> (repeat' with_reducible apply And.intro) <;> first | assumption | rfl | omega | (unfold maxLen; omega)) ?_
          refine athen_n ?_
          refine AW.cond (b := (decide (st1.2.2 < 2))) rfl (fun hb22 => ?_) (fun hb22 => ?_)
          · rw [if_pos hb22] at h
            refine AW.skip ?_
            refine athen_n ?_
            refine AW.seq ?_
            refine AW.block ?_
            refine AW.seq ?_
            refine AW.ops ?_
            refine AO.segF tab_ok 2 (by decide) [(0, .sl Y0 specs), (1, .sl Y1 h0), (5, .bool v0_7.1), (6, .int .i64 v0_7.2), (7, .bool st1.1), (8, .int .i64 st1.2.1), (9, .int .i64 st1.2.2), (38, .sl Y1 h0), (39, .int .i64 st1.2.2)] [] (by (simp only [go_sem, hb2, hb6, hb10, hb22]) <;> (repeat' with_reducible apply And.intro) <;> first | assumption | rfl | omega | (unfold maxLen; omega)) ?_
            obtain ⟨v0_8, hv23, h⟩ := Option.bind_eq_some_iff.1 h
            refine AO.call tab_ok (by decide) rfl rfl rfl (fun _ h => h) [] [] (hc_history_Of h0 st1.2.2 hv23) rfl (by (simp only [go_sem, hb2, hb6, hb10, hb22]) <;> (repeat' with_reducible apply And.intro) <;> first | assumption | rfl | omega | (unfold maxLen; omega)) (by (simp only [go_sem, hb2, hb6, hb10, hb22]) <;> (repeat' with_reducible apply And.intro) <;> first | assumption | rfl | omega | (unfold maxLen; omega)) [(0, .sl Y0 specs), (1, .sl Y1 h0), (5, .bool v0_7.1), (6, .int .i64 v0_7.2), (7, .bool st1.1), (8, .int .i64 st1.2.1), (9, .int .i64 st1.2.2), (40, .tup [.own 50000, .int .i64 v0_8.2])] [(50000, .arr 55 Y1 v0_8.1)] (by (simp only [go_sem, hb2, hb6, hb10, hb22]) <;> (repeat' with_reducible apply And.intro) <;> first | assumption | rfl | omega | (unfold maxLen; omega)) ?_
            refine AO.allF tab_ok (by decide) [(0, .sl Y0 specs), (1, .sl Y1 h0), (5, .bool v0_7.1), (6, .int .i64 v0_7.2), (7, .bool st1.1), (8, .int .i64 st1.2.1), (9, .int .i64 st1.2.2), (10, .own 50000), (11, .int .i64 v0_8.2)] [(50000, .arr 55 Y1 v0_8.1)] (by (simp only [go_sem, hb2, hb6, hb10, hb22]) <;> (repeat' with_reducible apply And.intro) <;> first | assumption | rfl | omega | (unfold maxLen; omega)) ?_
            refine athen_n ?_
            refine AW.seq ?_
            refine AW.ops ?_
            refine AO.segF tab_ok 2 (by decide) [(0, .sl Y0 specs), (1, .sl Y1 h0), (5, .bool v0_7.1), (6, .int .i64 v0_7.2), (7, .bool st1.1), (8, .int .i64 st1.2.1), (9, .int .i64 st1.2.2), (10, .own 50000), (11, .int .i64 v0_8.2), (44, .sl Y0 specs), (45, .own 50000)] [(50000, .arr 55 Y1 v0_8.1)] (by (simp only [go_sem, hb2, hb6, hb10, hb22]) <;> (repeat' with_reducible apply And.intro) <;> first | assumption | rfl | omega | (unfold maxLen; omega)) ?_
            obtain ⟨v0_9, hv24, h⟩ := Option.bind_eq_some_iff.1 h
            refine AO.call tab_ok (by decide) rfl rfl rfl (fun _ h => h) [50000] [] (hc_history_Linear specs v0_8.1 hv24) rfl (by (simp only [go_sem, hb2, hb6, hb10, hb22]) <;> (repeat' with_reducible apply And.intro) <;> first | assumption | rfl | omega | (unfold maxLen; omega)) (by (simp only [go_sem, hb2, hb6, hb10, hb22]) <;> (repeat' with_reducible apply And.intro) <;> first | assumption | rfl | omega | (unfold maxLen; omega)) [(0, .sl Y0 specs), (1, .sl Y1 h0), (5, .bool v0_7.1), (6, .int .i64 v0_7.2), (7, .bool st1.1), (8, .int .i64 st1.2.1), (9, .int .i64 st1.2.2), (10, .own 50000), (11, .int .i64 v0_8.2), (46, .tup [.bool v0_9.1, .int .i64 v0_9.2])] [(50000, .arr 55 Y1 v0_8.1)] (by (simp only [go_sem, hb2, hb6, hb10, hb22]) <;> (repeat' with_reducible apply And.intro) <;> first | assumption | rfl | omega | (unfold maxLen; omega)) ?_
            refine AO.allF tab_ok (by decide) [(0, .sl Y0 specs), (1, .sl Y1 h0), (5, .bool v0_7.1), (6, .int .i64 v0_7.2), (7, .bool st1.1), (8, .int .i64 st1.2.1), (9, .int .i64 st1.2.2), (10, .own 50000), (11, .int .i64 v0_8.2), (12, .bool v0_9.1), (13, .int .i64 v0_9.2)] [(50000, .arr 55 Y1 v0_8.1)] (by (simp only [go_sem, hb2, hb6, hb10, hb22]) <;> (repeat' with_reducible apply And.intro) <;> first | assumption | rfl | omega | (unfold maxLen; omega)) ?_
            refine athen_n ?_
            refine AW.seq ?_
            refine AW.seq ?_
            refine AW.ops ?_
            refine AO.segF tab_ok 3 (by decide) [(0, .sl Y0 specs), (1, .sl Y1 h0), (5, .bool v0_7.1), (6, .int .i64 v0_7.2), (7, .bool st1.1), (8, .int .i64 st1.2.1), (9, .int .i64 st1.2.2), (10, .own 50000), (12, .bool v0_9.1), (13, .int .i64 v0_9.2), (51, .bool (!(decide (v0_8.2 = 0))))] [(50000, .arr 55 Y1 v0_8.1)] (by (simp only [go_sem, hb2, hb6, hb10, hb22]) <;> (repeat' with_reducible apply And.intro) <;> first | assumption | rfl | omega | (unfold maxLen; omega)) ?_
            rcases Bool.eq_false_or_eq_true (!(decide (v0_8.2 = 0))) with hb25 | hb25
            · rw [if_pos hb25] at h
              refine AO.weaken (s' := ⟨fr [(0, .sl Y0 specs), (1, .sl Y1 h0), (5, .bool v0_7.1), (6, .int .i64 v0_7.2), (7, .bool st1.1), (8, .int .i64 st1.2.1), (9, .int .i64 st1.2.2), (10, .own 50000), (12, .bool v0_9.1), (13, .int .i64 v0_9.2), (51, .bool true)], hpGet [(50000, .arr 55 Y1 v0_8.1)], gt⟩) (Wk.to (by (simp only [go_sem, hb2, hb6, hb10, hb22, hb25]) <;> (repeat' with_reducible apply And.intro) <;> first | assumption | rfl | omega | (unfold maxLen; omega))) ?_
              refine AO.allF tab_ok (by decide) [(0, .sl Y0 specs), (1, .sl Y1 h0), (5, .bool v0_7.1), (6, .int .i64 v0_7.2), (7, .bool st1.1), (8, .int .i64 st1.2.1), (9, .int .i64 st1.2.2), (10, .own 50000), (12, .bool v0_9.1), (54, .bool true)] [(50000, .arr 55 Y1 v0_8.1)] (by (simp only [go_sem, hb2, hb6, hb10, hb22, hb25]) <;> (repeat' with_reducible apply And.intro) <;> first | assumption | rfl | omega | (unfold maxLen; omega)) ?_
              refine athen_n ?_
              refine AW.cond (b := true) rfl (fun _ => ?_) (fun hb26 => by cases hb26)
              refine AW.seq ?_
              refine AW.ops ?_
              refine AO.allF tab_ok (by decide) [(4, .bool false)] [] (by (simp only [go_sem, hb2, hb6, hb10, hb22, hb25]) <;> (repeat' with_reducible apply And.intro) <;> first | assumption | rfl | omega | (unfold maxLen; omega)) ?_
              refine athen_n ?_
              refine AW.ret ?_
              refine athen_r ?_
              refine ablock_r ?_
              refine athen_r ?_
              obtain rfl := Option.some.inj h
              rw [← hd19 _ rfl] at ho18
              have h := ho18
              try simp only at h
              refine athen_r ?_
              refine ablock_r ?_
              refine athen_r ?_
              obtain rfl := Option.some.inj h
              exact ⟨rfl, [], [], [], rfl, (by (simp only [go_sem, hb2, hb6, hb10, hb22, hb25]) <;> (repeat' with_reducible apply And.intro) <;> first | assumption | rfl | omega | (unfold maxLen; omega))⟩
            · rw [if_neg (Bool.eq_false_iff.1 hb25)] at h
              refine AO.weaken (s' := ⟨fr [(0, .sl Y0 specs), (1, .sl Y1 h0), (5, .bool v0_7.1), (6, .int .i64 v0_7.2), (7, .bool st1.1), (8, .int .i64 st1.2.1), (9, .int .i64 st1.2.2), (10, .own 50000), (12, .bool v0_9.1), (13, .int .i64 v0_9.2), (51, .bool false)], hpGet [(50000, .arr 55 Y1 v0_8.1)], gt⟩) (Wk.to (by (simp only [go_sem, hb2, hb6, hb10, hb22, hb25]) <;> (repeat' with_reducible apply And.intro) <;> first | assumption | rfl | omega | (unfold maxLen; omega))) ?_
              refine AO.allF tab_ok (by decide) [(0, .sl Y0 specs), (1, .sl Y1 h0), (5, .bool v0_7.1), (6, .int .i64 v0_7.2), (7, .bool st1.1), (8, .int .i64 st1.2.1), (9, .int .i64 st1.2.2), (10, .own 50000), (12, .bool v0_9.1), (54, .bool (!(decide (v0_9.2 = 0))))] [(50000, .arr 55 Y1 v0_8.1)] (by (simp only [go_sem, hb2, hb6, hb10, hb22, hb25]) <;> (repeat' with_reducible apply And.intro) <;> first | assumption | rfl | omega | (unfold maxLen; omega)) ?_
              refine athen_n ?_
              refine AW.cond (b := (!(decide (v0_9.2 = 0)))) rfl (fun hb27 => ?_) (fun hb27 => ?_)
              · rw [if_pos hb27] at h
                refine AW.seq ?_
                refine AW.ops ?_
                refine AO.allF tab_ok (by decide) [(4, .bool false)] [] (by (simp only [go_sem, hb2, hb6, hb10, hb22, hb25, hb27]) <;> (repeat' with_reducible apply And.intro) <;> first | assumption | rfl | omega | (unfold maxLen; omega)) ?_
                refine athen_n ?_
                refine AW.ret ?_
                refine athen_r ?_
                refine ablock_r ?_
                refine athen_r ?_
                obtain rfl := Option.some.inj h
                rw [← hd19 _ rfl] at ho18
                have h := ho18
                try simp only at h
                refine athen_r ?_
                refine ablock_r ?_
                refine athen_r ?_
                obtain rfl := Option.some.inj h
                exact ⟨rfl, [], [], [], rfl, (by (simp only [go_sem, hb2, hb6, hb10, hb22, hb25, hb27]) <;> (repeat' with_reducible apply And.intro) <;> first | assumption | rfl | omega | (unfold maxLen; omega))⟩
              · rw [if_neg (Bool.eq_false_iff.1 hb27)] at h
                refine AW.skip ?_
                refine athen_n ?_
                refine AW.seq ?_
                refine AW.ops ?_
                refine AO.segF tab_ok 2 (by decide) [(0, .sl Y0 specs), (1, .sl Y1 h0), (5, .bool v0_7.1), (6, .int .i64 v0_7.2), (8, .int .i64 st1.2.1), (9, .int .i64 st1.2.2), (10, .own 50000), (12, .bool v0_9.1), (56, .bool st1.1)] [(50000, .arr 55 Y1 v0_8.1)] (by (simp only [go_sem, hb2, hb6, hb10, hb22, hb25, hb27]) <;> (repeat' with_reducible apply And.intro) <;> first | assumption | rfl | omega | (unfold maxLen; omega)) ?_
                rcases Bool.eq_false_or_eq_true st1.1 with hb28 | hb28
                · rw [if_pos hb28] at h
                  refine AO.weaken (s' := ⟨fr [(0, .sl Y0 specs), (1, .sl Y1 h0), (5, .bool v0_7.1), (6, .int .i64 v0_7.2), (8, .int .i64 st1.2.1), (9, .int .i64 st1.2.2), (10, .own 50000), (12, .bool v0_9.1), (56, .bool true)], hpGet [(50000, .arr 55 Y1 v0_8.1)], gt⟩) (Wk.to (by (simp only [go_sem, hb2, hb6, hb10, hb22, hb25, hb27, hb28]) <;> (repeat' with_reducible apply And.intro) <;> first | assumption | rfl | omega | (unfold maxLen; omega))) ?_
                  refine AO.allF tab_ok (by decide) [(0, .sl Y0 specs), (1, .sl Y1 h0), (5, .bool v0_7.1), (6, .int .i64 v0_7.2), (7, .bool v0_9.1), (8, .int .i64 st1.2.1), (9, .int .i64 st1.2.2), (10, .own 50000)] [(50000, .arr 55 Y1 v0_8.1)] (by (simp only [go_sem, hb2, hb6, hb10, hb22, hb25, hb27, hb28]) <;> (repeat' with_reducible apply And.intro) <;> first | assumption | rfl | omega | (unfold maxLen; omega)) ?_
                  refine athen_n ?_
                  refine AW.ops ?_
                  obtain ⟨c29, h⟩ := ck_some.1 h
                  refine AO.allF tab_ok (by decide) [(0, .sl Y0 specs), (1, .sl Y1 h0), (5, .bool v0_7.1), (6, .int .i64 v0_7.2), (7, .bool v0_9.1), (8, .int .i64 (st1.2.1 + (v0_8.1.length : Int))), (9, .int .i64 st1.2.2)] [] (by (simp only [go_sem, hb2, hb6, hb10, hb22, hb25, hb27, hb28]) <;> (repeat' with_reducible apply And.intro) <;> first | assumption | rfl | omega | (unfold maxLen; omega)) ?_
                  refine ablock_n ?_
                  refine athen_n ?_
                  refine AW.ops ?_
                  obtain ⟨c30, h⟩ := ck_some.1 h
                  refine AO.allF tab_ok (by decide) [(0, .sl Y0 specs), (1, .sl Y1 h0), (5, .bool v0_7.1), (6, .int .i64 v0_7.2), (7, .bool v0_9.1), (8, .int .i64 (st1.2.1 + (v0_8.1.length : Int))), (9, .int .i64 (st1.2.2 + 1))] [] (by (simp only [go_sem, hb2, hb6, hb10, hb22, hb25, hb27, hb28]) <;> (repeat' with_reducible apply And.intro) <;> first | assumption | rfl | omega | (unfold maxLen; omega)) ?_
                  obtain rfl := Option.some.inj h
                  exact ⟨_, rfl, Wk.le [] [] [] rfl (by (simp only [go_sem, hb2, hb6, hb10, hb22, hb25, hb27, hb28]) <;> (repeat' with_reducible apply And.intro) <;> first | assumption | rfl | omega | (unfold maxLen; omega)) (by (simp only [go_sem, hb2, hb6, hb10, hb22, hb25, hb27, hb28]) <;> (repeat' with_reducible apply And.intro) <;> first | assumption | rfl | omega | (unfold maxLen; omega))⟩
                · rw [if_neg (Bool.eq_false_iff.1 hb28)] at h
                  refine AO.weaken (s' := ⟨fr [(0, .sl Y0 specs), (1, .sl Y1 h0), (5, .bool v0_7.1), (6, .int .i64 v0_7.2), (8, .int .i64 st1.2.1), (9, .int .i64 st1.2.2), (10, .own 50000), (12, .bool v0_9.1), (56, .bool false)], hpGet [(50000, .arr 55 Y1 v0_8.1)], gt⟩) (Wk.to (by (simp only [go_sem, hb2, hb6, hb10, hb22, hb25, hb27, hb28]) <;> (repeat' with_reducible apply And.intro) <;> first | assumption | rfl | omega | (unfold maxLen; omega))) ?_
                  refine AO.allF tab_ok (by decide) [(0, .sl Y0 specs), (1, .sl Y1 h0), (5, .bool v0_7.1), (6, .int .i64 v0_7.2), (7, .bool false), (8, .int .i64 st1.2.1), (9, .int .i64 st1.2.2), (10, .own 50000)] [(50000, .arr 55 Y1 v0_8.1)] (by (simp only [go_sem, hb2, hb6, hb10, hb22, hb25, hb27, hb28]) <;> (repeat' with_reducible apply And.intro) <;> first | assumption | rfl | omega | (unfold maxLen; omega)) ?_
                  refine athen_n ?_
                  refine AW.ops ?_
                  obtain ⟨c31, h⟩ := ck_some.1 h
                  refine AO.allF tab_ok (by decide) [(0, .sl Y0 specs), (1, .sl Y1 h0), (5, .bool v0_7.1), (6, .int .i64 v0_7.2), (7, .bool false), (8, .int .i64 (st1.2.1 + (v0_8.1.length : Int))), (9, .int .i64 st1.2.2)] [] (by (simp only [go_sem, hb2, hb6, hb10, hb22, hb25, hb27, hb28]) <;> (repeat' with_reducible apply And.intro) <;> first | assumption | rfl | omega | (unfold maxLen; omega)) ?_
                  refine ablock_n ?_
                  refine athen_n ?_
                  refine AW.ops ?_
                  obtain ⟨c32, h⟩ := ck_some.1 h
                  refine AO.allF tab_ok (by decide) [(0, .sl Y0 specs), (1, .sl Y1 h0), (5, .bool v0_7.1), (6, .int .i64 v0_7.2), (7, .bool false), (8, .int .i64 (st1.2.1 + (v0_8.1.length : Int))), (9, .int .i64 (st1.2.2 + 1))] [] (by (simp only [go_sem, hb2, hb6, hb10, hb22, hb25, hb27, hb28]) <;> (repeat' with_reducible apply And.intro) <;> first | assumption | rfl | omega | (unfold maxLen; omega)) ?_
                  obtain rfl := Option.some.inj h
                  exact ⟨_, rfl, Wk.le [] [] [] rfl (by (simp only [go_sem, hb2, hb6, hb10, hb22, hb25, hb27, hb28]) <;> (repeat' with_reducible apply And.intro) <;> first | assumption | rfl | omega | (unfold maxLen; omega)) (by (simp only [go_sem, hb2, hb6, hb10, hb22, hb25, hb27, hb28]) <;> (repeat' with_reducible apply And.intro) <;> first | assumption | rfl | omega | (unfold maxLen; omega))⟩
          · rw [if_neg (Bool.eq_false_iff.1 hb22)] at h
            refine AW.exit ?_
            refine athen_e ?_
            obtain rfl := Option.some.inj h
            rw [← hd19 _ rfl] at ho18
            have h := ho18
            try simp only at h
            refine athen_e ?_
            refine ablock_s ?_
            refine athen_n ?_
            exact AW.weaken (Wk.le [] [] [] rfl (by (simp only [go_sem, hb2, hb6, hb10, hb22]) <;> (repeat' with_reducible apply And.intro) <;> first | assumption | rfl | omega | (unfold maxLen; omega)) (by (simp only [go_sem, hb2, hb6, hb10, hb22]) <;> (repeat' with_reducible apply And.intro) <;> first | assumption | rfl | omega | (unfold maxLen; omega))) (hk_lineallaw02_HistoryObjects_k1 _ h)

end Go.Proofs.Ytdkdkpenmgkdcaa
