/-
  Made by wip/tool/dc.py out of the print of the program: contracts.
-/
import Derived.Test.YtdkdkpenmgkdcaaHp
import Derived.Test.YtdkdkpenmgkdcaaTbh
namespace Go.Proofs.Ytdkdkpenmgkdcaa
open Go.RowKit

set_option linter.unusedSimpArgs false
set_option linter.unusedVariables false
set_option linter.constructorNameAsVariable false

set_option maxRecDepth 100000 in
set_option maxHeartbeats 2000000 in
theorem hc_history_within (n : Int) (least : Int) (most : Int) {r : Bool} (h : history_within n least most = some r) : HC Try.prog 99 [] [.int .i64 n, .int .i64 least, .int .i64 most] [] (.bool r) := by
  unfold history_within at h
  refine HC.of_body tab_ok (res := [.tmp 6]) Try.func99 rfl (by kernel_rfl) rfl (nt := 15) rfl (by decide) (by simp) ?_
  refine AW.seq ?_
  refine AW.ops ?_
  refine AO.allF tab_ok (by decide) [(0, .int .i64 n), (1, .int .i64 least), (2, .int .i64 most)] [] (by (simp only [go_sem]) <;> (repeat' with_reducible apply And.intro) <;> first | assumption | rfl | omega) ?_
  refine athen_n ?_
  refine AW.seq ?_
  refine AW.ops ?_
  refine AO.segF tab_ok 4 (by decide) [(0, .int .i64 n), (2, .int .i64 most), (10, .bool (decide (least ≤ n)))] [] (by (simp only [go_sem]) <;> (repeat' with_reducible apply And.intro) <;> first | assumption | rfl | omega) ?_
  rcases Bool.eq_false_or_eq_true (decide (least ≤ n)) with hb1 | hb1
  · rw [if_pos hb1] at h
    refine AO.weaken (s' := ⟨fr [(0, .int .i64 n), (2, .int .i64 most), (10, .bool true)], hpGet [], gt⟩) (Wk.to (by (simp only [go_sem, hb1]) <;> (repeat' with_reducible apply And.intro) <;> first | assumption | rfl | omega)) ?_
    refine AO.allF tab_ok (by decide) [(6, .bool (decide (n ≤ most)))] [] (by (simp only [go_sem, hb1]) <;> (repeat' with_reducible apply And.intro) <;> first | assumption | rfl | omega) ?_
    refine athen_n ?_
    refine AW.ret ?_
    obtain rfl := Option.some.inj h
    exact ⟨rfl, [], [], [], rfl, (by (simp only [go_sem, hb1]) <;> (repeat' with_reducible apply And.intro) <;> first | assumption | rfl | omega)⟩
  · rw [if_neg (Bool.eq_false_iff.1 hb1)] at h
    refine AO.weaken (s' := ⟨fr [(0, .int .i64 n), (2, .int .i64 most), (10, .bool false)], hpGet [], gt⟩) (Wk.to (by (simp only [go_sem, hb1]) <;> (repeat' with_reducible apply And.intro) <;> first | assumption | rfl | omega)) ?_
    refine AO.allF tab_ok (by decide) [(6, .bool false)] [] (by (simp only [go_sem, hb1]) <;> (repeat' with_reducible apply And.intro) <;> first | assumption | rfl | omega) ?_
    refine athen_n ?_
    refine AW.ret ?_
    obtain rfl := Option.some.inj h
    exact ⟨rfl, [], [], [], rfl, (by (simp only [go_sem, hb1]) <;> (repeat' with_reducible apply And.intro) <;> first | assumption | rfl | omega)⟩

set_option maxRecDepth 100000 in
set_option maxHeartbeats 2000000 in
theorem hc_spec_machine_isState (m : Int × Int × (List (List Int)) × (List (List Int))) (n : Int) {r : Bool} (h : spec_machine_isState m n = some r) : HC Try.prog 123 [] [.agg [.int .i64 m.1, .int .i64 m.2.1, .sl (.sl (.int .i64)) m.2.2.1, .sl (.sl (.int .i64)) m.2.2.2], .int .i64 n] [] (.bool r) := by
  unfold spec_machine_isState at h
  refine HC.of_body tab_ok (res := [.tmp 4]) Try.func123 rfl (by kernel_rfl) rfl (nt := 13) rfl (by decide) (by simp) ?_
  refine AW.seq ?_
  refine AW.ops ?_
  refine AO.allF tab_ok (by decide) [(1, .int .i64 n), (2, .bp 2 0)] [(2, .box 115 [.int .i64 m.1, .int .i64 m.2.1, .sl (.sl (.int .i64)) m.2.2.1, .sl (.sl (.int .i64)) m.2.2.2])] (by (simp only [go_sem]) <;> (repeat' with_reducible apply And.intro) <;> first | assumption | rfl | omega) ?_
  refine athen_n ?_
  refine AW.seq ?_
  refine AW.ops ?_
  refine AO.segF tab_ok 3 (by decide) [(1, .int .i64 n), (2, .bp 2 0), (7, .bool (decide (0 ≤ n)))] [(2, .box 115 [.int .i64 m.1, .int .i64 m.2.1, .sl (.sl (.int .i64)) m.2.2.1, .sl (.sl (.int .i64)) m.2.2.2])] (by (simp only [go_sem]) <;> (repeat' with_reducible apply And.intro) <;> first | assumption | rfl | omega) ?_
  rcases Bool.eq_false_or_eq_true (decide (0 ≤ n)) with hb1 | hb1
  · rw [if_pos hb1] at h
    refine AO.weaken (s' := ⟨fr [(1, .int .i64 n), (2, .bp 2 0), (7, .bool true)], hpGet [(2, .box 115 [.int .i64 m.1, .int .i64 m.2.1, .sl (.sl (.int .i64)) m.2.2.1, .sl (.sl (.int .i64)) m.2.2.2])], gt⟩) (Wk.to (by (simp only [go_sem, hb1]) <;> (repeat' with_reducible apply And.intro) <;> first | assumption | rfl | omega)) ?_
    refine AO.allF tab_ok (by decide) [(4, .bool (decide (n < m.1)))] [] (by (simp only [go_sem, hb1]) <;> (repeat' with_reducible apply And.intro) <;> first | assumption | rfl | omega) ?_
    refine athen_n ?_
    refine AW.ret ?_
    obtain rfl := Option.some.inj h
    exact ⟨rfl, [], [], [], rfl, (by (simp only [go_sem, hb1]) <;> (repeat' with_reducible apply And.intro) <;> first | assumption | rfl | omega)⟩
  · rw [if_neg (Bool.eq_false_iff.1 hb1)] at h
    refine AO.weaken (s' := ⟨fr [(1, .int .i64 n), (2, .bp 2 0), (7, .bool false)], hpGet [(2, .box 115 [.int .i64 m.1, .int .i64 m.2.1, .sl (.sl (.int .i64)) m.2.2.1, .sl (.sl (.int .i64)) m.2.2.2])], gt⟩) (Wk.to (by (simp only [go_sem, hb1]) <;> (repeat' with_reducible apply And.intro) <;> first | assumption | rfl | omega)) ?_
    refine AO.segF tab_ok 4 (by decide) [(7, .bool false), (11, .cv (undef))] [] (by (simp only [go_sem, hb1]) <;> (repeat' with_reducible apply And.intro) <;> first | assumption | rfl | omega) ?_
    refine AO.allF tab_ok (by decide) [(4, .bool false)] [] (by (simp only [go_sem, hb1]) <;> (repeat' with_reducible apply And.intro) <;> first | assumption | rfl | omega) ?_
    refine athen_n ?_
    refine AW.ret ?_
    obtain rfl := Option.some.inj h
    exact ⟨rfl, [], [], [], rfl, (by (simp only [go_sem, hb1]) <;> (repeat' with_reducible apply And.intro) <;> first | assumption | rfl | omega)⟩

set_option maxRecDepth 100000 in
set_option maxHeartbeats 2000000 in
theorem hc_spec_all (is0 : Int × Int × (List (List Int)) × (List (List Int))) (numbers : List Int) {r : Bool} (h : spec_all is0 numbers = some r) : HC Try.prog 129 [] [.fn (.func 123) [.agg [.int .i64 is0.1, .int .i64 is0.2.1, .sl (.sl (.int .i64)) is0.2.2.1, .sl (.sl (.int .i64)) is0.2.2.2]] [], .sl (.int .i64) numbers] [] (.bool r) := by
  unfold spec_all at h
  refine HC.of_body tab_ok (res := [.tmp 4]) Try.func129 rfl (by kernel_rfl) rfl (nt := 18) rfl (by decide) (by simp) ?_
  refine AW.seq ?_
  refine AW.ops ?_
  refine AO.allF tab_ok (by decide) [(0, .fn (.func 123) [.agg [.int .i64 is0.1, .int .i64 is0.2.1, .sl (.sl (.int .i64)) is0.2.2.1, .sl (.sl (.int .i64)) is0.2.2.2]] []), (1, .sl (.int .i64) numbers)] [] (by (simp only [go_sem]) <;> (repeat' with_reducible apply And.intro) <;> first | assumption | rfl | omega) ?_
  refine athen_n ?_
  refine AW.have1 (fun _ : Unit => spec_all_k1 = some r) (fun _ => ⟨fr [], hpGet [], gt⟩) (fun _ h => ?_) (fun hk_spec_all_k1 => ?_)
  · unfold spec_all_k1 at h
    refine AW.seq ?_
    refine AW.ops ?_
    refine AO.allF tab_ok (by decide) [(4, .bool true)] [] (by (simp only [go_sem]) <;> (repeat' with_reducible apply And.intro) <;> first | assumption | rfl | omega) ?_
    refine athen_n ?_
    refine AW.ret ?_
    obtain rfl := Option.some.inj h
    exact ⟨rfl, [], [], [], rfl, (by (simp only [go_sem]) <;> (repeat' with_reducible apply And.intro) <;> first | assumption | rfl | omega)⟩
  · refine AW.seq ?_
    refine AW.seq ?_
    refine AW.ops ?_
    refine AO.allF tab_ok (by decide) [(0, .fn (.func 123) [.agg [.int .i64 is0.1, .int .i64 is0.2.1, .sl (.sl (.int .i64)) is0.2.2.1, .sl (.sl (.int .i64)) is0.2.2.2]] []), (7, .sl (.int .i64) numbers), (8, .int .i64 (numbers.length : Int)), (9, .int .i64 0)] [] (by (simp only [go_sem]) <;> (repeat' with_reducible apply And.intro) <;> first | assumption | rfl | omega) ?_
    refine athen_n ?_
    refine AW.block ?_
    obtain ⟨rv5, hw1, ho2⟩ := Option.bind_eq_some_iff.1 h
    refine AW.loopO (spec_all_b1 is0 numbers) (fun st1 => ⟨fr [(0, .fn (.func 123) [.agg [.int .i64 is0.1, .int .i64 is0.2.1, .sl (.sl (.int .i64)) is0.2.2.1, .sl (.sl (.int .i64)) is0.2.2.2]] []), (7, .sl (.int .i64) numbers), (8, .int .i64 (numbers.length : Int)), (9, .int .i64 st1)], hpGet [], gt⟩) 0 hw1 (Wk.le [] [] [] rfl (by (simp only [go_sem]) <;> (repeat' with_reducible apply And.intro) <;> first | assumption | rfl | omega) (by (simp only [go_sem]) <;> (repeat' with_reducible apply And.intro) <;> first | assumption | rfl | omega)) ?_
    intro st1 x4 h hd3
    unfold spec_all_b1 at h
    refine AW.seq ?_
    refine AW.ops ?_
    refine AO.allF tab_ok (by decide) [(0, .fn (.func 123) [.agg [.int .i64 is0.1, .int .i64 is0.2.1, .sl (.sl (.int .i64)) is0.2.2.1, .sl (.sl (.int .i64)) is0.2.2.2]] []), (7, .sl (.int .i64) numbers), (8, .int .i64 (numbers.length : Int)), (9, .int .i64 st1), (10, .bool (decide (st1 < (numbers.length : Int))))] [] (by (simp only [go_sem]) <;> (repeat' with_reducible apply And.intro) <;> first | assumption | rfl | omega) ?_
    refine athen_n ?_
    refine AW.seq ?_
    refine AW.cond (b := (decide (st1 < (numbers.length : Int)))) rfl (fun hb6 => ?_) (fun hb6 => ?_)
    · rw [if_pos hb6] at h
      refine AW.skip ?_
      refine athen_n ?_
      refine AW.seq ?_
      refine AW.block ?_
      refine AW.seq ?_
      refine AW.ops ?_
      obtain ⟨c7, h⟩ := ck_some.1 h
      obtain ⟨c8, h⟩ := ck_some.1 h
      refine AO.allF tab_ok (by decide) [(0, .fn (.func 123) [.agg [.int .i64 is0.1, .int .i64 is0.2.1, .sl (.sl (.int .i64)) is0.2.2.1, .sl (.sl (.int .i64)) is0.2.2.2]] []), (6, .int .i64 (numbers.getD st1.toNat 0)), (7, .sl (.int .i64) numbers), (8, .int .i64 (numbers.length : Int)), (9, .int .i64 st1)] [] (by (simp only [go_sem, hb6]) <;> (repeat' with_reducible apply And.intro) <;> first | assumption | rfl | omega) ?_
      refine athen_n ?_
      refine AW.seq ?_
      refine AW.ops ?_
      refine AO.segF tab_ok 2 (by decide) [(0, .fn (.func 123) [.agg [.int .i64 is0.1, .int .i64 is0.2.1, .sl (.sl (.int .i64)) is0.2.2.1, .sl (.sl (.int .i64)) is0.2.2.2]] []), (7, .sl (.int .i64) numbers), (8, .int .i64 (numbers.length : Int)), (9, .int .i64 st1), (13, .fn (.func 123) [.agg [.int .i64 is0.1, .int .i64 is0.2.1, .sl (.sl (.int .i64)) is0.2.2.1, .sl (.sl (.int .i64)) is0.2.2.2]] []), (14, .int .i64 (numbers.getD st1.toNat 0))] [] (by (simp only [go_sem, hb6]) <;> (repeat' with_reducible apply And.intro) <;> first | assumption | rfl | omega) ?_
      obtain ⟨v0, hv9, h⟩ := Option.bind_eq_some_iff.1 h
      refine AO.call tab_ok (by decide) rfl rfl rfl (fun _ h => h) [] [] (hc_spec_machine_isState is0 (numbers.getD st1.toNat 0) hv9) rfl (by (simp only [go_sem, hb6]) <;> (repeat' with_reducible apply And.intro) <;> first | assumption | rfl | omega) (by (simp only [go_sem, hb6]) <;> (repeat' with_reducible apply And.intro) <;> first | assumption | rfl | omega) [(0, .fn (.func 123) [.agg [.int .i64 is0.1, .int .i64 is0.2.1, .sl (.sl (.int .i64)) is0.2.2.1, .sl (.sl (.int .i64)) is0.2.2.2]] []), (7, .sl (.int .i64) numbers), (8, .int .i64 (numbers.length : Int)), (9, .int .i64 st1), (15, .bool v0)] [] (by (simp only [go_sem, hb6]) <;> (repeat' with_reducible apply And.intro) <;> first | assumption | rfl | omega) ?_
      refine AO.allF tab_ok (by decide) [(0, .fn (.func 123) [.agg [.int .i64 is0.1, .int .i64 is0.2.1, .sl (.sl (.int .i64)) is0.2.2.1, .sl (.sl (.int .i64)) is0.2.2.2]] []), (7, .sl (.int .i64) numbers), (8, .int .i64 (numbers.length : Int)), (9, .int .i64 st1), (16, .bool (!v0))] [] (by (simp only [go_sem, hb6]) <;> (repeat' with_reducible apply And.intro) <;> first | assumption | rfl | omega) ?_
      refine athen_n ?_
      refine AW.cond (b := (!v0)) rfl (fun hb10 => ?_) (fun hb10 => ?_)
      · rw [if_pos hb10] at h
        refine AW.seq ?_
        refine AW.ops ?_
        refine AO.allF tab_ok (by decide) [(4, .bool false)] [] (by (simp only [go_sem, hb6, hb10]) <;> (repeat' with_reducible apply And.intro) <;> first | assumption | rfl | omega) ?_
        refine athen_n ?_
        refine AW.ret ?_
        refine ablock_r ?_
        refine athen_r ?_
        obtain rfl := Option.some.inj h
        rw [← hd3 _ rfl] at ho2
        have h := ho2
        try simp only at h
        refine athen_r ?_
        refine ablock_r ?_
        refine athen_r ?_
        obtain rfl := Option.some.inj h
        exact ⟨rfl, [], [], [], rfl, (by (simp only [go_sem, hb6, hb10]) <;> (repeat' with_reducible apply And.intro) <;> first | assumption | rfl | omega)⟩
      · rw [if_neg (Bool.eq_false_iff.1 hb10)] at h
        refine AW.skip ?_
        refine ablock_n ?_
        refine athen_n ?_
        refine AW.ops ?_
        obtain ⟨c11, h⟩ := ck_some.1 h
        refine AO.allF tab_ok (by decide) [(0, .fn (.func 123) [.agg [.int .i64 is0.1, .int .i64 is0.2.1, .sl (.sl (.int .i64)) is0.2.2.1, .sl (.sl (.int .i64)) is0.2.2.2]] []), (7, .sl (.int .i64) numbers), (8, .int .i64 (numbers.length : Int)), (9, .int .i64 (st1 + 1))] [] (by (simp only [go_sem, hb6, hb10]) <;> (repeat' with_reducible apply And.intro) <;> first | assumption | rfl | omega) ?_
        obtain rfl := Option.some.inj h
        exact ⟨_, rfl, Wk.le [] [] [] rfl (by (simp only [go_sem, hb6, hb10]) <;> (repeat' with_reducible apply And.intro) <;> first | assumption | rfl | omega) (by (simp only [go_sem, hb6, hb10]) <;> (repeat' with_reducible apply And.intro) <;> first | assumption | rfl | omega)⟩
    · rw [if_neg (Bool.eq_false_iff.1 hb6)] at h
      refine AW.exit ?_
      refine athen_e ?_
      obtain rfl := Option.some.inj h
      rw [← hd3 _ rfl] at ho2
      have h := ho2
      try simp only at h
      refine athen_e ?_
      refine ablock_s ?_
      refine athen_n ?_
      exact AW.weaken (Wk.le [] [] [] rfl (by (simp only [go_sem, hb6]) <;> (repeat' with_reducible apply And.intro) <;> first | assumption | rfl | omega) (by (simp only [go_sem, hb6]) <;> (repeat' with_reducible apply And.intro) <;> first | assumption | rfl | omega)) (hk_spec_all_k1 () h)

set_option maxRecDepth 100000 in
set_option maxHeartbeats 2000000 in
theorem hc_spec_machine_isTable (m : Int × Int × (List (List Int)) × (List (List Int))) (table : List (List Int)) (is0 : Int × Int × (List (List Int)) × (List (List Int))) {r : Bool} (h : spec_machine_isTable m table is0 = some r) : HC Try.prog 122 [] [.agg [.int .i64 m.1, .int .i64 m.2.1, .sl (.sl (.int .i64)) m.2.2.1, .sl (.sl (.int .i64)) m.2.2.2], .sl (.sl (.int .i64)) table, .fn (.func 123) [.agg [.int .i64 is0.1, .int .i64 is0.2.1, .sl (.sl (.int .i64)) is0.2.2.1, .sl (.sl (.int .i64)) is0.2.2.2]] []] [] (.bool r) := by
  unfold spec_machine_isTable at h
  refine HC.of_body tab_ok (res := [.tmp 6]) Try.func122 rfl (by kernel_rfl) rfl (nt := 32) rfl (by decide) (by simp) ?_
  refine AW.seq ?_
  refine AW.ops ?_
  refine AO.allF tab_ok (by decide) [(1, .sl (.sl (.int .i64)) table), (2, .fn (.func 123) [.agg [.int .i64 is0.1, .int .i64 is0.2.1, .sl (.sl (.int .i64)) is0.2.2.1, .sl (.sl (.int .i64)) is0.2.2.2]] []), (3, .bp 3 0)] [(3, .box 115 [.int .i64 m.1, .int .i64 m.2.1, .sl (.sl (.int .i64)) m.2.2.1, .sl (.sl (.int .i64)) m.2.2.2])] (by (simp only [go_sem]) <;> (repeat' with_reducible apply And.intro) <;> first | assumption | rfl | omega) ?_
  refine athen_n ?_
  refine AW.seq ?_
  refine AW.seq ?_
  refine AW.ops ?_
  refine AO.allF tab_ok (by decide) [(1, .sl (.sl (.int .i64)) table), (2, .fn (.func 123) [.agg [.int .i64 is0.1, .int .i64 is0.2.1, .sl (.sl (.int .i64)) is0.2.2.1, .sl (.sl (.int .i64)) is0.2.2.2]] []), (3, .bp 3 0), (13, .bool (!(decide ((table.length : Int) = m.1))))] [(3, .box 115 [.int .i64 m.1, .int .i64 m.2.1, .sl (.sl (.int .i64)) m.2.2.1, .sl (.sl (.int .i64)) m.2.2.2])] (by (simp only [go_sem]) <;> (repeat' with_reducible apply And.intro) <;> first | assumption | rfl | omega) ?_
  refine athen_n ?_
  refine AW.cond (b := (!(decide ((table.length : Int) = m.1)))) rfl (fun hb1 => ?_) (fun hb1 => ?_)
  · rw [if_pos hb1] at h
    refine AW.seq ?_
    refine AW.ops ?_
    refine AO.allF tab_ok (by decide) [(6, .bool false)] [] (by (simp only [go_sem, hb1]) <;> (repeat' with_reducible apply And.intro) <;> first | assumption | rfl | omega) ?_
    refine athen_n ?_
    refine AW.ret ?_
    refine athen_r ?_
    obtain rfl := Option.some.inj h
    exact ⟨rfl, [], [], [], rfl, (by (simp only [go_sem, hb1]) <;> (repeat' with_reducible apply And.intro) <;> first | assumption | rfl | omega)⟩
  · rw [if_neg (Bool.eq_false_iff.1 hb1)] at h
    refine AW.skip ?_
    refine athen_n ?_
    refine AW.have1 (fun _ : Unit => spec_machine_isTable_k1 = some r) (fun _ => ⟨fr [], hpGet [], gt⟩) (fun _ h => ?_) (fun hk_spec_machine_isTable_k1 => ?_)
    · unfold spec_machine_isTable_k1 at h
      refine AW.seq ?_
      refine AW.ops ?_
      refine AO.allF tab_ok (by decide) [(6, .bool true)] [] (by (simp only [go_sem, hb1]) <;> (repeat' with_reducible apply And.intro) <;> first | assumption | rfl | omega) ?_
      refine athen_n ?_
      refine AW.ret ?_
      obtain rfl := Option.some.inj h
      exact ⟨rfl, [], [], [], rfl, (by (simp only [go_sem, hb1]) <;> (repeat' with_reducible apply And.intro) <;> first | assumption | rfl | omega)⟩
    · refine AW.seq ?_
      refine AW.seq ?_
      refine AW.ops ?_
      refine AO.allF tab_ok (by decide) [(2, .fn (.func 123) [.agg [.int .i64 is0.1, .int .i64 is0.2.1, .sl (.sl (.int .i64)) is0.2.2.1, .sl (.sl (.int .i64)) is0.2.2.2]] []), (3, .bp 3 0), (14, .sl (.sl (.int .i64)) table), (15, .int .i64 (table.length : Int)), (16, .int .i64 0)] [(3, .box 115 [.int .i64 m.1, .int .i64 m.2.1, .sl (.sl (.int .i64)) m.2.2.1, .sl (.sl (.int .i64)) m.2.2.2])] (by (simp only [go_sem, hb1]) <;> (repeat' with_reducible apply And.intro) <;> first | assumption | rfl | omega) ?_
      refine athen_n ?_
      refine AW.block ?_
      obtain ⟨rv6, hw2, ho3⟩ := Option.bind_eq_some_iff.1 h
      refine AW.loopO (spec_machine_isTable_b1 m table is0) (fun st1 => ⟨fr [(2, .fn (.func 123) [.agg [.int .i64 is0.1, .int .i64 is0.2.1, .sl (.sl (.int .i64)) is0.2.2.1, .sl (.sl (.int .i64)) is0.2.2.2]] []), (3, .bp 3 0), (14, .sl (.sl (.int .i64)) table), (15, .int .i64 (table.length : Int)), (16, .int .i64 st1)], hpGet [(3, .box 115 [.int .i64 m.1, .int .i64 m.2.1, .sl (.sl (.int .i64)) m.2.2.1, .sl (.sl (.int .i64)) m.2.2.2])], gt⟩) 0 hw2 (Wk.le [] [] [] rfl (by (simp only [go_sem, hb1]) <;> (repeat' with_reducible apply And.intro) <;> first | assumption | rfl | omega) (by (simp only [go_sem, hb1]) <;> (repeat' with_reducible apply And.intro) <;> first | assumption | rfl | omega)) ?_
      intro st1 x5 h hd4
      unfold spec_machine_isTable_b1 at h
      refine AW.seq ?_
      refine AW.ops ?_
      refine AO.allF tab_ok (by decide) [(2, .fn (.func 123) [.agg [.int .i64 is0.1, .int .i64 is0.2.1, .sl (.sl (.int .i64)) is0.2.2.1, .sl (.sl (.int .i64)) is0.2.2.2]] []), (3, .bp 3 0), (14, .sl (.sl (.int .i64)) table), (15, .int .i64 (table.length : Int)), (16, .int .i64 st1), (17, .bool (decide (st1 < (table.length : Int))))] [(3, .box 115 [.int .i64 m.1, .int .i64 m.2.1, .sl (.sl (.int .i64)) m.2.2.1, .sl (.sl (.int .i64)) m.2.2.2])] (by (simp only [go_sem, hb1]) <;> (repeat' with_reducible apply And.intro) <;> first | assumption | rfl | omega) ?_
      refine athen_n ?_
      refine AW.seq ?_
      refine AW.cond (b := (decide (st1 < (table.length : Int)))) rfl (fun hb7 => ?_) (fun hb7 => ?_)
      · rw [if_pos hb7] at h
        refine AW.skip ?_
        refine athen_n ?_
        refine AW.seq ?_
        refine AW.block ?_
        refine AW.seq ?_
        refine AW.ops ?_
        obtain ⟨c8, h⟩ := ck_some.1 h
        obtain ⟨c9, h⟩ := ck_some.1 h
        refine AO.allF tab_ok (by decide) [(2, .fn (.func 123) [.agg [.int .i64 is0.1, .int .i64 is0.2.1, .sl (.sl (.int .i64)) is0.2.2.1, .sl (.sl (.int .i64)) is0.2.2.2]] []), (3, .bp 3 0), (8, .sl (.int .i64) (table.getD st1.toNat [])), (14, .sl (.sl (.int .i64)) table), (15, .int .i64 (table.length : Int)), (16, .int .i64 st1)] [(3, .box 115 [.int .i64 m.1, .int .i64 m.2.1, .sl (.sl (.int .i64)) m.2.2.1, .sl (.sl (.int .i64)) m.2.2.2])] (by (simp only [go_sem, hb1, hb7]) <;> (repeat' with_reducible apply And.intro) <;> first | assumption | rfl | omega) ?_
        refine athen_n ?_
        refine AW.seq ?_
        refine AW.ops ?_
        refine AO.segF tab_ok 6 (by decide) [(2, .fn (.func 123) [.agg [.int .i64 is0.1, .int .i64 is0.2.1, .sl (.sl (.int .i64)) is0.2.2.1, .sl (.sl (.int .i64)) is0.2.2.2]] []), (3, .bp 3 0), (8, .sl (.int .i64) (table.getD st1.toNat [])), (14, .sl (.sl (.int .i64)) table), (15, .int .i64 (table.length : Int)), (16, .int .i64 st1), (25, .bool (!(decide (((table.getD st1.toNat []).length : Int) = m.2.1))))] [(3, .box 115 [.int .i64 m.1, .int .i64 m.2.1, .sl (.sl (.int .i64)) m.2.2.1, .sl (.sl (.int .i64)) m.2.2.2])] (by (simp only [go_sem, hb1, hb7]) <;> (repeat' with_reducible apply And.intro) <;> first | assumption | rfl | omega) ?_
        rcases Bool.eq_false_or_eq_true (!(decide (((table.getD st1.toNat []).length : Int) = m.2.1))) with hb10 | hb10
        · rw [if_pos hb10] at h
          refine AO.weaken (s' := ⟨fr [(2, .fn (.func 123) [.agg [.int .i64 is0.1, .int .i64 is0.2.1, .sl (.sl (.int .i64)) is0.2.2.1, .sl (.sl (.int .i64)) is0.2.2.2]] []), (3, .bp 3 0), (8, .sl (.int .i64) (table.getD st1.toNat [])), (14, .sl (.sl (.int .i64)) table), (15, .int .i64 (table.length : Int)), (16, .int .i64 st1), (25, .bool true)], hpGet [(3, .box 115 [.int .i64 m.1, .int .i64 m.2.1, .sl (.sl (.int .i64)) m.2.2.1, .sl (.sl (.int .i64)) m.2.2.2])], gt⟩) (Wk.to (by (simp only [go_sem, hb1, hb7, hb10]) <;> (repeat' with_reducible apply And.intro) <;> first | assumption | rfl | omega)) ?_
          refine AO.segF tab_ok 4 (by decide) [(2, .fn (.func 123) [.agg [.int .i64 is0.1, .int .i64 is0.2.1, .sl (.sl (.int .i64)) is0.2.2.1, .sl (.sl (.int .i64)) is0.2.2.2]] []), (3, .bp 3 0), (14, .sl (.sl (.int .i64)) table), (15, .int .i64 (table.length : Int)), (16, .int .i64 st1), (25, .bool true), (29, .cv (undef))] [(3, .box 115 [.int .i64 m.1, .int .i64 m.2.1, .sl (.sl (.int .i64)) m.2.2.1, .sl (.sl (.int .i64)) m.2.2.2])] (by (simp only [go_sem, hb1, hb7, hb10]) <;> (repeat' with_reducible apply And.intro) <;> first | assumption | rfl | omega) ?_
          refine AO.allF tab_ok (by decide) [(2, .fn (.func 123) [.agg [.int .i64 is0.1, .int .i64 is0.2.1, .sl (.sl (.int .i64)) is0.2.2.1, .sl (.sl (.int .i64)) is0.2.2.2]] []), (3, .bp 3 0), (14, .sl (.sl (.int .i64)) table), (15, .int .i64 (table.length : Int)), (16, .int .i64 st1), (30, .bool true)] [(3, .box 115 [.int .i64 m.1, .int .i64 m.2.1, .sl (.sl (.int .i64)) m.2.2.1, .sl (.sl (.int .i64)) m.2.2.2])] (by (simp only [go_sem, hb1, hb7, hb10]) <;> (repeat' with_reducible apply And.intro) <;> first | assumption | rfl | omega) ?_
          refine athen_n ?_
          refine AW.cond (b := true) rfl (fun _ => ?_) (fun hb11 => by cases hb11)
          refine AW.seq ?_
          refine AW.ops ?_
          refine AO.allF tab_ok (by decide) [(6, .bool false)] [] (by (simp only [go_sem, hb1, hb7, hb10]) <;> (repeat' with_reducible apply And.intro) <;> first | assumption | rfl | omega) ?_
          refine athen_n ?_
          refine AW.ret ?_
          refine ablock_r ?_
          refine athen_r ?_
          obtain rfl := Option.some.inj h
          rw [← hd4 _ rfl] at ho3
          have h := ho3
          try simp only at h
          refine athen_r ?_
          refine ablock_r ?_
          refine athen_r ?_
          obtain rfl := Option.some.inj h
          exact ⟨rfl, [], [], [], rfl, (by (simp only [go_sem, hb1, hb7, hb10]) <;> (repeat' with_reducible apply And.intro) <;> first | assumption | rfl | omega)⟩
        · rw [if_neg (Bool.eq_false_iff.1 hb10)] at h
          refine AO.weaken (s' := ⟨fr [(2, .fn (.func 123) [.agg [.int .i64 is0.1, .int .i64 is0.2.1, .sl (.sl (.int .i64)) is0.2.2.1, .sl (.sl (.int .i64)) is0.2.2.2]] []), (3, .bp 3 0), (8, .sl (.int .i64) (table.getD st1.toNat [])), (14, .sl (.sl (.int .i64)) table), (15, .int .i64 (table.length : Int)), (16, .int .i64 st1), (25, .bool false)], hpGet [(3, .box 115 [.int .i64 m.1, .int .i64 m.2.1, .sl (.sl (.int .i64)) m.2.2.1, .sl (.sl (.int .i64)) m.2.2.2])], gt⟩) (Wk.to (by (simp only [go_sem, hb1, hb7, hb10]) <;> (repeat' with_reducible apply And.intro) <;> first | assumption | rfl | omega)) ?_
          refine AO.segF tab_ok 2 (by decide) [(2, .fn (.func 123) [.agg [.int .i64 is0.1, .int .i64 is0.2.1, .sl (.sl (.int .i64)) is0.2.2.1, .sl (.sl (.int .i64)) is0.2.2.2]] []), (3, .bp 3 0), (14, .sl (.sl (.int .i64)) table), (15, .int .i64 (table.length : Int)), (16, .int .i64 st1), (25, .bool false), (26, .fn (.func 123) [.agg [.int .i64 is0.1, .int .i64 is0.2.1, .sl (.sl (.int .i64)) is0.2.2.1, .sl (.sl (.int .i64)) is0.2.2.2]] []), (27, .sl (.int .i64) (table.getD st1.toNat []))] [(3, .box 115 [.int .i64 m.1, .int .i64 m.2.1, .sl (.sl (.int .i64)) m.2.2.1, .sl (.sl (.int .i64)) m.2.2.2])] (by (simp only [go_sem, hb1, hb7, hb10]) <;> (repeat' with_reducible apply And.intro) <;> first | assumption | rfl | omega) ?_
          obtain ⟨v0, hv12, h⟩ := Option.bind_eq_some_iff.1 h
          refine AO.call tab_ok (by decide) rfl rfl rfl (fun _ h => ⟨fun _ => h, fun hn => absurd rfl hn⟩) [] [] (hc_spec_all is0 (table.getD st1.toNat []) hv12) rfl (by (simp only [go_sem, hb1, hb7, hb10]) <;> (repeat' with_reducible apply And.intro) <;> first | assumption | rfl | omega) (by (simp only [go_sem, hb1, hb7, hb10]) <;> (repeat' with_reducible apply And.intro) <;> first | assumption | rfl | omega) [(2, .fn (.func 123) [.agg [.int .i64 is0.1, .int .i64 is0.2.1, .sl (.sl (.int .i64)) is0.2.2.1, .sl (.sl (.int .i64)) is0.2.2.2]] []), (3, .bp 3 0), (14, .sl (.sl (.int .i64)) table), (15, .int .i64 (table.length : Int)), (16, .int .i64 st1), (25, .bool false), (28, .bool v0)] [(3, .box 115 [.int .i64 m.1, .int .i64 m.2.1, .sl (.sl (.int .i64)) m.2.2.1, .sl (.sl (.int .i64)) m.2.2.2])] (by (simp only [go_sem, hb1, hb7, hb10]) <;> (repeat' with_reducible apply And.intro) <;> first | assumption | rfl | omega) ?_
          refine AO.allF tab_ok (by decide) [(2, .fn (.func 123) [.agg [.int .i64 is0.1, .int .i64 is0.2.1, .sl (.sl (.int .i64)) is0.2.2.1, .sl (.sl (.int .i64)) is0.2.2.2]] []), (3, .bp 3 0), (14, .sl (.sl (.int .i64)) table), (15, .int .i64 (table.length : Int)), (16, .int .i64 st1), (30, .bool (!v0))] [(3, .box 115 [.int .i64 m.1, .int .i64 m.2.1, .sl (.sl (.int .i64)) m.2.2.1, .sl (.sl (.int .i64)) m.2.2.2])] (by (simp only [go_sem, hb1, hb7, hb10]) <;> (repeat' with_reducible apply And.intro) <;> first | assumption | rfl | omega) ?_
          refine athen_n ?_
          refine AW.cond (b := (!v0)) rfl (fun hb13 => ?_) (fun hb13 => ?_)
          · rw [if_pos hb13] at h
            refine AW.seq ?_
            refine AW.ops ?_
            refine AO.allF tab_ok (by decide) [(6, .bool false)] [] (by (simp only [go_sem, hb1, hb7, hb10, hb13]) <;> (repeat' with_reducible apply And.intro) <;> first | assumption | rfl | omega) ?_
            refine athen_n ?_
            refine AW.ret ?_
            refine ablock_r ?_
            refine athen_r ?_
            obtain rfl := Option.some.inj h
            rw [← hd4 _ rfl] at ho3
            have h := ho3
            try simp only at h
            refine athen_r ?_
            refine ablock_r ?_
            refine athen_r ?_
            obtain rfl := Option.some.inj h
            exact ⟨rfl, [], [], [], rfl, (by (simp only [go_sem, hb1, hb7, hb10, hb13]) <;> (repeat' with_reducible apply And.intro) <;> first | assumption | rfl | omega)⟩
          · rw [if_neg (Bool.eq_false_iff.1 hb13)] at h
            refine AW.skip ?_
            refine ablock_n ?_
            refine athen_n ?_
            refine AW.ops ?_
            obtain ⟨c14, h⟩ := ck_some.1 h
            refine AO.allF tab_ok (by decide) [(2, .fn (.func 123) [.agg [.int .i64 is0.1, .int .i64 is0.2.1, .sl (.sl (.int .i64)) is0.2.2.1, .sl (.sl (.int .i64)) is0.2.2.2]] []), (3, .bp 3 0), (14, .sl (.sl (.int .i64)) table), (15, .int .i64 (table.length : Int)), (16, .int .i64 (st1 + 1))] [(3, .box 115 [.int .i64 m.1, .int .i64 m.2.1, .sl (.sl (.int .i64)) m.2.2.1, .sl (.sl (.int .i64)) m.2.2.2])] (by (simp only [go_sem, hb1, hb7, hb10, hb13]) <;> (repeat' with_reducible apply And.intro) <;> first | assumption | rfl | omega) ?_
            obtain rfl := Option.some.inj h
            exact ⟨_, rfl, Wk.le [] [] [] rfl (by (simp only [go_sem, hb1, hb7, hb10, hb13]) <;> (repeat' with_reducible apply And.intro) <;> first | assumption | rfl | omega) (by (simp only [go_sem, hb1, hb7, hb10, hb13]) <;> (repeat' with_reducible apply And.intro) <;> first | assumption | rfl | omega)⟩
      · rw [if_neg (Bool.eq_false_iff.1 hb7)] at h
        refine AW.exit ?_
        refine athen_e ?_
        obtain rfl := Option.some.inj h
        rw [← hd4 _ rfl] at ho3
        have h := ho3
        try simp only at h
        refine athen_e ?_
        refine ablock_s ?_
        refine athen_n ?_
        exact AW.weaken (Wk.le [] [] [] rfl (by (simp only [go_sem, hb1, hb7]) <;> (repeat' with_reducible apply And.intro) <;> first | assumption | rfl | omega) (by (simp only [go_sem, hb1, hb7]) <;> (repeat' with_reducible apply And.intro) <;> first | assumption | rfl | omega)) (hk_spec_machine_isTable_k1 () h)

set_option maxRecDepth 100000 in
set_option maxHeartbeats 2000000 in
theorem hc_spec_isAnswer (n : Int) {r : Bool} (h : spec_isAnswer n = some r) : HC Try.prog 124 [] [.int .i64 n] [] (.bool r) := by
  unfold spec_isAnswer at h
  refine HC.of_body tab_ok (res := [.tmp 2]) Try.func124 rfl (by kernel_rfl) rfl (nt := 9) rfl (by decide) (by simp) ?_
  refine AW.seq ?_
  refine AW.ops ?_
  refine AO.allF tab_ok (by decide) [(0, .int .i64 n)] [] (by (simp only [go_sem]) <;> (repeat' with_reducible apply And.intro) <;> first | assumption | rfl | omega) ?_
  refine athen_n ?_
  refine AW.seq ?_
  refine AW.ops ?_
  refine AO.segF tab_ok 3 (by decide) [(0, .int .i64 n), (5, .bool (decide (0 ≤ n)))] [] (by (simp only [go_sem]) <;> (repeat' with_reducible apply And.intro) <;> first | assumption | rfl | omega) ?_
  rcases Bool.eq_false_or_eq_true (decide (0 ≤ n)) with hb1 | hb1
  · rw [if_pos hb1] at h
    refine AO.weaken (s' := ⟨fr [(0, .int .i64 n), (5, .bool true)], hpGet [], gt⟩) (Wk.to (by (simp only [go_sem, hb1]) <;> (repeat' with_reducible apply And.intro) <;> first | assumption | rfl | omega)) ?_
    refine AO.allF tab_ok (by decide) [(2, .bool (decide (n ≤ 5)))] [] (by (simp only [go_sem, hb1]) <;> (repeat' with_reducible apply And.intro) <;> first | assumption | rfl | omega) ?_
    refine athen_n ?_
    refine AW.ret ?_
    obtain rfl := Option.some.inj h
    exact ⟨rfl, [], [], [], rfl, (by (simp only [go_sem, hb1]) <;> (repeat' with_reducible apply And.intro) <;> first | assumption | rfl | omega)⟩
  · rw [if_neg (Bool.eq_false_iff.1 hb1)] at h
    refine AO.weaken (s' := ⟨fr [(0, .int .i64 n), (5, .bool false)], hpGet [], gt⟩) (Wk.to (by (simp only [go_sem, hb1]) <;> (repeat' with_reducible apply And.intro) <;> first | assumption | rfl | omega)) ?_
    refine AO.allF tab_ok (by decide) [(2, .bool false)] [] (by (simp only [go_sem, hb1]) <;> (repeat' with_reducible apply And.intro) <;> first | assumption | rfl | omega) ?_
    refine athen_n ?_
    refine AW.ret ?_
    obtain rfl := Option.some.inj h
    exact ⟨rfl, [], [], [], rfl, (by (simp only [go_sem, hb1]) <;> (repeat' with_reducible apply And.intro) <;> first | assumption | rfl | omega)⟩

set_option maxRecDepth 100000 in
set_option maxHeartbeats 2000000 in
theorem hc_spec_all_2 (numbers : List Int) {r : Bool} (h : spec_all_2 numbers = some r) : HC Try.prog 129 [] [.fn (.func 124) [] [], .sl (.int .i64) numbers] [] (.bool r) := by
  unfold spec_all_2 at h
  refine HC.of_body tab_ok (res := [.tmp 4]) Try.func129 rfl (by kernel_rfl) rfl (nt := 18) rfl (by decide) (by simp) ?_
  refine AW.seq ?_
  refine AW.ops ?_
  refine AO.allF tab_ok (by decide) [(0, .fn (.func 124) [] []), (1, .sl (.int .i64) numbers)] [] (by (simp only [go_sem]) <;> (repeat' with_reducible apply And.intro) <;> first | assumption | rfl | omega) ?_
  refine athen_n ?_
  refine AW.have1 (fun _ : Unit => spec_all_2_k1 = some r) (fun _ => ⟨fr [], hpGet [], gt⟩) (fun _ h => ?_) (fun hk_spec_all_2_k1 => ?_)
  · unfold spec_all_2_k1 at h
    refine AW.seq ?_
    refine AW.ops ?_
    refine AO.allF tab_ok (by decide) [(4, .bool true)] [] (by (simp only [go_sem]) <;> (repeat' with_reducible apply And.intro) <;> first | assumption | rfl | omega) ?_
    refine athen_n ?_
    refine AW.ret ?_
    obtain rfl := Option.some.inj h
    exact ⟨rfl, [], [], [], rfl, (by (simp only [go_sem]) <;> (repeat' with_reducible apply And.intro) <;> first | assumption | rfl | omega)⟩
  · refine AW.seq ?_
    refine AW.seq ?_
    refine AW.ops ?_
    refine AO.allF tab_ok (by decide) [(0, .fn (.func 124) [] []), (7, .sl (.int .i64) numbers), (8, .int .i64 (numbers.length : Int)), (9, .int .i64 0)] [] (by (simp only [go_sem]) <;> (repeat' with_reducible apply And.intro) <;> first | assumption | rfl | omega) ?_
    refine athen_n ?_
    refine AW.block ?_
    obtain ⟨rv5, hw1, ho2⟩ := Option.bind_eq_some_iff.1 h
    refine AW.loopO (spec_all_2_b1 numbers) (fun st1 => ⟨fr [(0, .fn (.func 124) [] []), (7, .sl (.int .i64) numbers), (8, .int .i64 (numbers.length : Int)), (9, .int .i64 st1)], hpGet [], gt⟩) 0 hw1 (Wk.le [] [] [] rfl (by (simp only [go_sem]) <;> (repeat' with_reducible apply And.intro) <;> first | assumption | rfl | omega) (by (simp only [go_sem]) <;> (repeat' with_reducible apply And.intro) <;> first | assumption | rfl | omega)) ?_
    intro st1 x4 h hd3
    unfold spec_all_2_b1 at h
    refine AW.seq ?_
    refine AW.ops ?_
    refine AO.allF tab_ok (by decide) [(0, .fn (.func 124) [] []), (7, .sl (.int .i64) numbers), (8, .int .i64 (numbers.length : Int)), (9, .int .i64 st1), (10, .bool (decide (st1 < (numbers.length : Int))))] [] (by (simp only [go_sem]) <;> (repeat' with_reducible apply And.intro) <;> first | assumption | rfl | omega) ?_
    refine athen_n ?_
    refine AW.seq ?_
    refine AW.cond (b := (decide (st1 < (numbers.length : Int)))) rfl (fun hb6 => ?_) (fun hb6 => ?_)
    · rw [if_pos hb6] at h
      refine AW.skip ?_
      refine athen_n ?_
      refine AW.seq ?_
      refine AW.block ?_
      refine AW.seq ?_
      refine AW.ops ?_
      obtain ⟨c7, h⟩ := ck_some.1 h
      obtain ⟨c8, h⟩ := ck_some.1 h
      refine AO.allF tab_ok (by decide) [(0, .fn (.func 124) [] []), (6, .int .i64 (numbers.getD st1.toNat 0)), (7, .sl (.int .i64) numbers), (8, .int .i64 (numbers.length : Int)), (9, .int .i64 st1)] [] (by (simp only [go_sem, hb6]) <;> (repeat' with_reducible apply And.intro) <;> first | assumption | rfl | omega) ?_
      refine athen_n ?_
      refine AW.seq ?_
      refine AW.ops ?_
      refine AO.segF tab_ok 2 (by decide) [(0, .fn (.func 124) [] []), (7, .sl (.int .i64) numbers), (8, .int .i64 (numbers.length : Int)), (9, .int .i64 st1), (13, .fn (.func 124) [] []), (14, .int .i64 (numbers.getD st1.toNat 0))] [] (by (simp only [go_sem, hb6]) <;> (repeat' with_reducible apply And.intro) <;> first | assumption | rfl | omega) ?_
      obtain ⟨v0, hv9, h⟩ := Option.bind_eq_some_iff.1 h
      refine AO.call tab_ok (by decide) rfl rfl rfl (fun _ h => h) [] [] (hc_spec_isAnswer (numbers.getD st1.toNat 0) hv9) rfl (by (simp only [go_sem, hb6]) <;> (repeat' with_reducible apply And.intro) <;> first | assumption | rfl | omega) (by (simp only [go_sem, hb6]) <;> (repeat' with_reducible apply And.intro) <;> first | assumption | rfl | omega) [(0, .fn (.func 124) [] []), (7, .sl (.int .i64) numbers), (8, .int .i64 (numbers.length : Int)), (9, .int .i64 st1), (15, .bool v0)] [] (by (simp only [go_sem, hb6]) <;> (repeat' with_reducible apply And.intro) <;> first | assumption | rfl | omega) ?_
      refine AO.allF tab_ok (by decide) [(0, .fn (.func 124) [] []), (7, .sl (.int .i64) numbers), (8, .int .i64 (numbers.length : Int)), (9, .int .i64 st1), (16, .bool (!v0))] [] (by (simp only [go_sem, hb6]) <;> (repeat' with_reducible apply And.intro) <;> first | assumption | rfl | omega) ?_
      refine athen_n ?_
      refine AW.cond (b := (!v0)) rfl (fun hb10 => ?_) (fun hb10 => ?_)
      · rw [if_pos hb10] at h
        refine AW.seq ?_
        refine AW.ops ?_
        refine AO.allF tab_ok (by decide) [(4, .bool false)] [] (by (simp only [go_sem, hb6, hb10]) <;> (repeat' with_reducible apply And.intro) <;> first | assumption | rfl | omega) ?_
        refine athen_n ?_
        refine AW.ret ?_
        refine ablock_r ?_
        refine athen_r ?_
        obtain rfl := Option.some.inj h
        rw [← hd3 _ rfl] at ho2
        have h := ho2
        try simp only at h
        refine athen_r ?_
        refine ablock_r ?_
        refine athen_r ?_
        obtain rfl := Option.some.inj h
        exact ⟨rfl, [], [], [], rfl, (by (simp only [go_sem, hb6, hb10]) <;> (repeat' with_reducible apply And.intro) <;> first | assumption | rfl | omega)⟩
      · rw [if_neg (Bool.eq_false_iff.1 hb10)] at h
        refine AW.skip ?_
        refine ablock_n ?_
        refine athen_n ?_
        refine AW.ops ?_
        obtain ⟨c11, h⟩ := ck_some.1 h
        refine AO.allF tab_ok (by decide) [(0, .fn (.func 124) [] []), (7, .sl (.int .i64) numbers), (8, .int .i64 (numbers.length : Int)), (9, .int .i64 (st1 + 1))] [] (by (simp only [go_sem, hb6, hb10]) <;> (repeat' with_reducible apply And.intro) <;> first | assumption | rfl | omega) ?_
        obtain rfl := Option.some.inj h
        exact ⟨_, rfl, Wk.le [] [] [] rfl (by (simp only [go_sem, hb6, hb10]) <;> (repeat' with_reducible apply And.intro) <;> first | assumption | rfl | omega) (by (simp only [go_sem, hb6, hb10]) <;> (repeat' with_reducible apply And.intro) <;> first | assumption | rfl | omega)⟩
    · rw [if_neg (Bool.eq_false_iff.1 hb6)] at h
      refine AW.exit ?_
      refine athen_e ?_
      obtain rfl := Option.some.inj h
      rw [← hd3 _ rfl] at ho2
      have h := ho2
      try simp only at h
      refine athen_e ?_
      refine ablock_s ?_
      refine athen_n ?_
      exact AW.weaken (Wk.le [] [] [] rfl (by (simp only [go_sem, hb6]) <;> (repeat' with_reducible apply And.intro) <;> first | assumption | rfl | omega) (by (simp only [go_sem, hb6]) <;> (repeat' with_reducible apply And.intro) <;> first | assumption | rfl | omega)) (hk_spec_all_2_k1 () h)

set_option maxRecDepth 100000 in
set_option maxHeartbeats 2000000 in
theorem hc_spec_machine_isTable_2 (m : Int × Int × (List (List Int)) × (List (List Int))) (table : List (List Int)) {r : Bool} (h : spec_machine_isTable_2 m table = some r) : HC Try.prog 122 [] [.agg [.int .i64 m.1, .int .i64 m.2.1, .sl (.sl (.int .i64)) m.2.2.1, .sl (.sl (.int .i64)) m.2.2.2], .sl (.sl (.int .i64)) table, .fn (.func 124) [] []] [] (.bool r) := by
  unfold spec_machine_isTable_2 at h
  refine HC.of_body tab_ok (res := [.tmp 6]) Try.func122 rfl (by kernel_rfl) rfl (nt := 32) rfl (by decide) (by simp) ?_
  refine AW.seq ?_
  refine AW.ops ?_
  refine AO.allF tab_ok (by decide) [(1, .sl (.sl (.int .i64)) table), (2, .fn (.func 124) [] []), (3, .bp 3 0)] [(3, .box 115 [.int .i64 m.1, .int .i64 m.2.1, .sl (.sl (.int .i64)) m.2.2.1, .sl (.sl (.int .i64)) m.2.2.2])] (by (simp only [go_sem]) <;> (repeat' with_reducible apply And.intro) <;> first | assumption | rfl | omega) ?_
  refine athen_n ?_
  refine AW.seq ?_
  refine AW.seq ?_
  refine AW.ops ?_
  refine AO.allF tab_ok (by decide) [(1, .sl (.sl (.int .i64)) table), (2, .fn (.func 124) [] []), (3, .bp 3 0), (13, .bool (!(decide ((table.length : Int) = m.1))))] [(3, .box 115 [.int .i64 m.1, .int .i64 m.2.1, .sl (.sl (.int .i64)) m.2.2.1, .sl (.sl (.int .i64)) m.2.2.2])] (by (simp only [go_sem]) <;> (repeat' with_reducible apply And.intro) <;> first | assumption | rfl | omega) ?_
  refine athen_n ?_
  refine AW.cond (b := (!(decide ((table.length : Int) = m.1)))) rfl (fun hb1 => ?_) (fun hb1 => ?_)
  · rw [if_pos hb1] at h
    refine AW.seq ?_
    refine AW.ops ?_
    refine AO.allF tab_ok (by decide) [(6, .bool false)] [] (by (simp only [go_sem, hb1]) <;> (repeat' with_reducible apply And.intro) <;> first | assumption | rfl | omega) ?_
    refine athen_n ?_
    refine AW.ret ?_
    refine athen_r ?_
    obtain rfl := Option.some.inj h
    exact ⟨rfl, [], [], [], rfl, (by (simp only [go_sem, hb1]) <;> (repeat' with_reducible apply And.intro) <;> first | assumption | rfl | omega)⟩
  · rw [if_neg (Bool.eq_false_iff.1 hb1)] at h
    refine AW.skip ?_
    refine athen_n ?_
    refine AW.have1 (fun _ : Unit => spec_machine_isTable_2_k1 = some r) (fun _ => ⟨fr [], hpGet [], gt⟩) (fun _ h => ?_) (fun hk_spec_machine_isTable_2_k1 => ?_)
    · unfold spec_machine_isTable_2_k1 at h
      refine AW.seq ?_
      refine AW.ops ?_
      refine AO.allF tab_ok (by decide) [(6, .bool true)] [] (by (simp only [go_sem, hb1]) <;> (repeat' with_reducible apply And.intro) <;> first | assumption | rfl | omega) ?_
      refine athen_n ?_
      refine AW.ret ?_
      obtain rfl := Option.some.inj h
      exact ⟨rfl, [], [], [], rfl, (by (simp only [go_sem, hb1]) <;> (repeat' with_reducible apply And.intro) <;> first | assumption | rfl | omega)⟩
    · refine AW.seq ?_
      refine AW.seq ?_
      refine AW.ops ?_
      refine AO.allF tab_ok (by decide) [(2, .fn (.func 124) [] []), (3, .bp 3 0), (14, .sl (.sl (.int .i64)) table), (15, .int .i64 (table.length : Int)), (16, .int .i64 0)] [(3, .box 115 [.int .i64 m.1, .int .i64 m.2.1, .sl (.sl (.int .i64)) m.2.2.1, .sl (.sl (.int .i64)) m.2.2.2])] (by (simp only [go_sem, hb1]) <;> (repeat' with_reducible apply And.intro) <;> first | assumption | rfl | omega) ?_
      refine athen_n ?_
      refine AW.block ?_
      obtain ⟨rv6, hw2, ho3⟩ := Option.bind_eq_some_iff.1 h
      refine AW.loopO (spec_machine_isTable_2_b1 m table) (fun st1 => ⟨fr [(2, .fn (.func 124) [] []), (3, .bp 3 0), (14, .sl (.sl (.int .i64)) table), (15, .int .i64 (table.length : Int)), (16, .int .i64 st1)], hpGet [(3, .box 115 [.int .i64 m.1, .int .i64 m.2.1, .sl (.sl (.int .i64)) m.2.2.1, .sl (.sl (.int .i64)) m.2.2.2])], gt⟩) 0 hw2 (Wk.le [] [] [] rfl (by (simp only [go_sem, hb1]) <;> (repeat' with_reducible apply And.intro) <;> first | assumption | rfl | omega) (by (simp only [go_sem, hb1]) <;> (repeat' with_reducible apply And.intro) <;> first | assumption | rfl | omega)) ?_
      intro st1 x5 h hd4
      unfold spec_machine_isTable_2_b1 at h
      refine AW.seq ?_
      refine AW.ops ?_
      refine AO.allF tab_ok (by decide) [(2, .fn (.func 124) [] []), (3, .bp 3 0), (14, .sl (.sl (.int .i64)) table), (15, .int .i64 (table.length : Int)), (16, .int .i64 st1), (17, .bool (decide (st1 < (table.length : Int))))] [(3, .box 115 [.int .i64 m.1, .int .i64 m.2.1, .sl (.sl (.int .i64)) m.2.2.1, .sl (.sl (.int .i64)) m.2.2.2])] (by (simp only [go_sem, hb1]) <;> (repeat' with_reducible apply And.intro) <;> first | assumption | rfl | omega) ?_
      refine athen_n ?_
      refine AW.seq ?_
      refine AW.cond (b := (decide (st1 < (table.length : Int)))) rfl (fun hb7 => ?_) (fun hb7 => ?_)
      · rw [if_pos hb7] at h
        refine AW.skip ?_
        refine athen_n ?_
        refine AW.seq ?_
        refine AW.block ?_
        refine AW.seq ?_
        refine AW.ops ?_
        obtain ⟨c8, h⟩ := ck_some.1 h
        obtain ⟨c9, h⟩ := ck_some.1 h
        refine AO.allF tab_ok (by decide) [(2, .fn (.func 124) [] []), (3, .bp 3 0), (8, .sl (.int .i64) (table.getD st1.toNat [])), (14, .sl (.sl (.int .i64)) table), (15, .int .i64 (table.length : Int)), (16, .int .i64 st1)] [(3, .box 115 [.int .i64 m.1, .int .i64 m.2.1, .sl (.sl (.int .i64)) m.2.2.1, .sl (.sl (.int .i64)) m.2.2.2])] (by (simp only [go_sem, hb1, hb7]) <;> (repeat' with_reducible apply And.intro) <;> first | assumption | rfl | omega) ?_
        refine athen_n ?_
        refine AW.seq ?_
        refine AW.ops ?_
        refine AO.segF tab_ok 6 (by decide) [(2, .fn (.func 124) [] []), (3, .bp 3 0), (8, .sl (.int .i64) (table.getD st1.toNat [])), (14, .sl (.sl (.int .i64)) table), (15, .int .i64 (table.length : Int)), (16, .int .i64 st1), (25, .bool (!(decide (((table.getD st1.toNat []).length : Int) = m.2.1))))] [(3, .box 115 [.int .i64 m.1, .int .i64 m.2.1, .sl (.sl (.int .i64)) m.2.2.1, .sl (.sl (.int .i64)) m.2.2.2])] (by (simp only [go_sem, hb1, hb7]) <;> (repeat' with_reducible apply And.intro) <;> first | assumption | rfl | omega) ?_
        rcases Bool.eq_false_or_eq_true (!(decide (((table.getD st1.toNat []).length : Int) = m.2.1))) with hb10 | hb10
        · rw [if_pos hb10] at h
          refine AO.weaken (s' := ⟨fr [(2, .fn (.func 124) [] []), (3, .bp 3 0), (8, .sl (.int .i64) (table.getD st1.toNat [])), (14, .sl (.sl (.int .i64)) table), (15, .int .i64 (table.length : Int)), (16, .int .i64 st1), (25, .bool true)], hpGet [(3, .box 115 [.int .i64 m.1, .int .i64 m.2.1, .sl (.sl (.int .i64)) m.2.2.1, .sl (.sl (.int .i64)) m.2.2.2])], gt⟩) (Wk.to (by (simp only [go_sem, hb1, hb7, hb10]) <;> (repeat' with_reducible apply And.intro) <;> first | assumption | rfl | omega)) ?_
          refine AO.segF tab_ok 4 (by decide) [(2, .fn (.func 124) [] []), (3, .bp 3 0), (14, .sl (.sl (.int .i64)) table), (15, .int .i64 (table.length : Int)), (16, .int .i64 st1), (25, .bool true), (29, .cv (undef))] [(3, .box 115 [.int .i64 m.1, .int .i64 m.2.1, .sl (.sl (.int .i64)) m.2.2.1, .sl (.sl (.int .i64)) m.2.2.2])] (by (simp only [go_sem, hb1, hb7, hb10]) <;> (repeat' with_reducible apply And.intro) <;> first | assumption | rfl | omega) ?_
          refine AO.allF tab_ok (by decide) [(2, .fn (.func 124) [] []), (3, .bp 3 0), (14, .sl (.sl (.int .i64)) table), (15, .int .i64 (table.length : Int)), (16, .int .i64 st1), (30, .bool true)] [(3, .box 115 [.int .i64 m.1, .int .i64 m.2.1, .sl (.sl (.int .i64)) m.2.2.1, .sl (.sl (.int .i64)) m.2.2.2])] (by (simp only [go_sem, hb1, hb7, hb10]) <;> (repeat' with_reducible apply And.intro) <;> first | assumption | rfl | omega) ?_
          refine athen_n ?_
          refine AW.cond (b := true) rfl (fun _ => ?_) (fun hb11 => by cases hb11)
          refine AW.seq ?_
          refine AW.ops ?_
          refine AO.allF tab_ok (by decide) [(6, .bool false)] [] (by (simp only [go_sem, hb1, hb7, hb10]) <;> (repeat' with_reducible apply And.intro) <;> first | assumption | rfl | omega) ?_
          refine athen_n ?_
          refine AW.ret ?_
          refine ablock_r ?_
          refine athen_r ?_
          obtain rfl := Option.some.inj h
          rw [← hd4 _ rfl] at ho3
          have h := ho3
          try simp only at h
          refine athen_r ?_
          refine ablock_r ?_
          refine athen_r ?_
          obtain rfl := Option.some.inj h
          exact ⟨rfl, [], [], [], rfl, (by (simp only [go_sem, hb1, hb7, hb10]) <;> (repeat' with_reducible apply And.intro) <;> first | assumption | rfl | omega)⟩
        · rw [if_neg (Bool.eq_false_iff.1 hb10)] at h
          refine AO.weaken (s' := ⟨fr [(2, .fn (.func 124) [] []), (3, .bp 3 0), (8, .sl (.int .i64) (table.getD st1.toNat [])), (14, .sl (.sl (.int .i64)) table), (15, .int .i64 (table.length : Int)), (16, .int .i64 st1), (25, .bool false)], hpGet [(3, .box 115 [.int .i64 m.1, .int .i64 m.2.1, .sl (.sl (.int .i64)) m.2.2.1, .sl (.sl (.int .i64)) m.2.2.2])], gt⟩) (Wk.to (by (simp only [go_sem, hb1, hb7, hb10]) <;> (repeat' with_reducible apply And.intro) <;> first | assumption | rfl | omega)) ?_
          refine AO.segF tab_ok 2 (by decide) [(2, .fn (.func 124) [] []), (3, .bp 3 0), (14, .sl (.sl (.int .i64)) table), (15, .int .i64 (table.length : Int)), (16, .int .i64 st1), (25, .bool false), (26, .fn (.func 124) [] []), (27, .sl (.int .i64) (table.getD st1.toNat []))] [(3, .box 115 [.int .i64 m.1, .int .i64 m.2.1, .sl (.sl (.int .i64)) m.2.2.1, .sl (.sl (.int .i64)) m.2.2.2])] (by (simp only [go_sem, hb1, hb7, hb10]) <;> (repeat' with_reducible apply And.intro) <;> first | assumption | rfl | omega) ?_
          obtain ⟨v0, hv12, h⟩ := Option.bind_eq_some_iff.1 h
          refine AO.call tab_ok (by decide) rfl rfl rfl (fun _ h => ⟨fun _ => h, fun hn => absurd rfl hn⟩) [] [] (hc_spec_all_2 (table.getD st1.toNat []) hv12) rfl (by (simp only [go_sem, hb1, hb7, hb10]) <;> (repeat' with_reducible apply And.intro) <;> first | assumption | rfl | omega) (by (simp only [go_sem, hb1, hb7, hb10]) <;> (repeat' with_reducible apply And.intro) <;> first | assumption | rfl | omega) [(2, .fn (.func 124) [] []), (3, .bp 3 0), (14, .sl (.sl (.int .i64)) table), (15, .int .i64 (table.length : Int)), (16, .int .i64 st1), (25, .bool false), (28, .bool v0)] [(3, .box 115 [.int .i64 m.1, .int .i64 m.2.1, .sl (.sl (.int .i64)) m.2.2.1, .sl (.sl (.int .i64)) m.2.2.2])] (by (simp only [go_sem, hb1, hb7, hb10]) <;> (repeat' with_reducible apply And.intro) <;> first | assumption | rfl | omega) ?_
          refine AO.allF tab_ok (by decide) [(2, .fn (.func 124) [] []), (3, .bp 3 0), (14, .sl (.sl (.int .i64)) table), (15, .int .i64 (table.length : Int)), (16, .int .i64 st1), (30, .bool (!v0))] [(3, .box 115 [.int .i64 m.1, .int .i64 m.2.1, .sl (.sl (.int .i64)) m.2.2.1, .sl (.sl (.int .i64)) m.2.2.2])] (by (simp only [go_sem, hb1, hb7, hb10]) <;> (repeat' with_reducible apply And.intro) <;> first | assumption | rfl | omega) ?_
          refine athen_n ?_
          refine AW.cond (b := (!v0)) rfl (fun hb13 => ?_) (fun hb13 => ?_)
          · rw [if_pos hb13] at h
            refine AW.seq ?_
            refine AW.ops ?_
            refine AO.allF tab_ok (by decide) [(6, .bool false)] [] (by (simp only [go_sem, hb1, hb7, hb10, hb13]) <;> (repeat' with_reducible apply And.intro) <;> first | assumption | rfl | omega) ?_
            refine athen_n ?_
            refine AW.ret ?_
            refine ablock_r ?_
            refine athen_r ?_
            obtain rfl := Option.some.inj h
            rw [← hd4 _ rfl] at ho3
            have h := ho3
            try simp only at h
            refine athen_r ?_
            refine ablock_r ?_
            refine athen_r ?_
            obtain rfl := Option.some.inj h
            exact ⟨rfl, [], [], [], rfl, (by (simp only [go_sem, hb1, hb7, hb10, hb13]) <;> (repeat' with_reducible apply And.intro) <;> first | assumption | rfl | omega)⟩
          · rw [if_neg (Bool.eq_false_iff.1 hb13)] at h
            refine AW.skip ?_
            refine ablock_n ?_
            refine athen_n ?_
            refine AW.ops ?_
            obtain ⟨c14, h⟩ := ck_some.1 h
            refine AO.allF tab_ok (by decide) [(2, .fn (.func 124) [] []), (3, .bp 3 0), (14, .sl (.sl (.int .i64)) table), (15, .int .i64 (table.length : Int)), (16, .int .i64 (st1 + 1))] [(3, .box 115 [.int .i64 m.1, .int .i64 m.2.1, .sl (.sl (.int .i64)) m.2.2.1, .sl (.sl (.int .i64)) m.2.2.2])] (by (simp only [go_sem, hb1, hb7, hb10, hb13]) <;> (repeat' with_reducible apply And.intro) <;> first | assumption | rfl | omega) ?_
            obtain rfl := Option.some.inj h
            exact ⟨_, rfl, Wk.le [] [] [] rfl (by (simp only [go_sem, hb1, hb7, hb10, hb13]) <;> (repeat' with_reducible apply And.intro) <;> first | assumption | rfl | omega) (by (simp only [go_sem, hb1, hb7, hb10, hb13]) <;> (repeat' with_reducible apply And.intro) <;> first | assumption | rfl | omega)⟩
      · rw [if_neg (Bool.eq_false_iff.1 hb7)] at h
        refine AW.exit ?_
        refine athen_e ?_
        obtain rfl := Option.some.inj h
        rw [← hd4 _ rfl] at ho3
        have h := ho3
        try simp only at h
        refine athen_e ?_
        refine ablock_s ?_
        refine athen_n ?_
        exact AW.weaken (Wk.le [] [] [] rfl (by (simp only [go_sem, hb1, hb7]) <;> (repeat' with_reducible apply And.intro) <;> first | assumption | rfl | omega) (by (simp only [go_sem, hb1, hb7]) <;> (repeat' with_reducible apply And.intro) <;> first | assumption | rfl | omega)) (hk_spec_machine_isTable_2_k1 () h)

set_option maxRecDepth 100000 in
set_option maxHeartbeats 2000000 in
theorem hc_spec_Valid (s : Int × Int × (List (List Int)) × (List (List Int))) {r : Bool} (h : spec_Valid s = some r) : HC Try.prog 115 [] [.agg [.int .i64 s.1, .int .i64 s.2.1, .sl (.sl (.int .i64)) s.2.2.1, .sl (.sl (.int .i64)) s.2.2.2]] [] (.bool r) := by
  unfold spec_Valid at h
  refine HC.of_body tab_ok (res := [.tmp 2]) Try.func115 rfl (by kernel_rfl) rfl (nt := 35) rfl (by decide) (by simp) ?_
  refine AW.seq ?_
  refine AW.ops ?_
  refine AO.allF tab_ok (by decide) [(1, .bp 1 0)] [(1, .box 64 [.int .i64 s.1, .int .i64 s.2.1, .sl (.sl (.int .i64)) s.2.2.1, .sl (.sl (.int .i64)) s.2.2.2])] (by (simp only [go_sem]) <;> (repeat' with_reducible apply And.intro) <;> first | assumption | rfl | omega) ?_
  refine athen_n ?_
  refine AW.seq ?_
  refine AW.seq ?_
  refine AW.ops ?_
  refine AO.segF tab_ok 4 (by decide) [(1, .bp 1 0), (7, .bool (decide (s.1 < 1)))] [(1, .box 64 [.int .i64 s.1, .int .i64 s.2.1, .sl (.sl (.int .i64)) s.2.2.1, .sl (.sl (.int .i64)) s.2.2.2])] (by (simp only [go_sem]) <;> (repeat' with_reducible apply And.intro) <;> first | assumption | rfl | omega) ?_
  rcases Bool.eq_false_or_eq_true (decide (s.1 < 1)) with hb1 | hb1
  · rw [if_pos hb1] at h
    refine AO.weaken (s' := ⟨fr [(1, .bp 1 0), (7, .bool true)], hpGet [(1, .box 64 [.int .i64 s.1, .int .i64 s.2.1, .sl (.sl (.int .i64)) s.2.2.1, .sl (.sl (.int .i64)) s.2.2.2])], gt⟩) (Wk.to (by (simp only [go_sem, hb1]) <;> (repeat' with_reducible apply And.intro) <;> first | assumption | rfl | omega)) ?_
    refine AO.segF tab_ok 6 (by decide) [(1, .bp 1 0), (12, .bool true), (13, .cv (undef))] [(1, .box 64 [.int .i64 s.1, .int .i64 s.2.1, .sl (.sl (.int .i64)) s.2.2.1, .sl (.sl (.int .i64)) s.2.2.2])] (by (simp only [go_sem, hb1]) <;> (repeat' with_reducible apply And.intro) <;> first | assumption | rfl | omega) ?_
    refine AO.segF tab_ok 6 (by decide) [(1, .bp 1 0), (17, .bool true), (19, .cv (undef))] [(1, .box 64 [.int .i64 s.1, .int .i64 s.2.1, .sl (.sl (.int .i64)) s.2.2.1, .sl (.sl (.int .i64)) s.2.2.2])] (by (simp only [go_sem, hb1]) <;> (repeat' with_reducible apply And.intro) <;> first | assumption | rfl | omega) ?_
    refine AO.allF tab_ok (by decide) [(1, .bp 1 0), (21, .bool true)] [(1, .box 64 [.int .i64 s.1, .int .i64 s.2.1, .sl (.sl (.int .i64)) s.2.2.1, .sl (.sl (.int .i64)) s.2.2.2])] (by (simp only [go_sem, hb1]) <;> (repeat' with_reducible apply And.intro) <;> first | assumption | rfl | omega) ?_
    refine athen_n ?_
    refine AW.cond (b := true) rfl (fun _ => ?_) (fun hb2 => by cases hb2)
    refine AW.seq ?_
    refine AW.ops ?_
    refine AO.allF tab_ok (by decide) [(2, .bool false)] [] (by (simp only [go_sem, hb1]) <;> (repeat' with_reducible apply And.intro) <;> first | assumption | rfl | omega) ?_
    refine athen_n ?_
    refine AW.ret ?_
    refine athen_r ?_
    obtain rfl := Option.some.inj h
    exact ⟨rfl, [], [], [], rfl, (by (simp only [go_sem, hb1]) <;> (repeat' with_reducible apply And.intro) <;> first | assumption | rfl | omega)⟩
  · rw [if_neg (Bool.eq_false_iff.1 hb1)] at h
    refine AO.weaken (s' := ⟨fr [(1, .bp 1 0), (7, .bool false)], hpGet [(1, .box 64 [.int .i64 s.1, .int .i64 s.2.1, .sl (.sl (.int .i64)) s.2.2.1, .sl (.sl (.int .i64)) s.2.2.2])], gt⟩) (Wk.to (by (simp only [go_sem, hb1]) <;> (repeat' with_reducible apply And.intro) <;> first | assumption | rfl | omega)) ?_
    refine AO.segF tab_ok 5 (by decide) [(1, .bp 1 0), (12, .bool (decide (8 < s.1)))] [(1, .box 64 [.int .i64 s.1, .int .i64 s.2.1, .sl (.sl (.int .i64)) s.2.2.1, .sl (.sl (.int .i64)) s.2.2.2])] (by (simp only [go_sem, hb1]) <;> (repeat' with_reducible apply And.intro) <;> first | assumption | rfl | omega) ?_
    rcases Bool.eq_false_or_eq_true (decide (8 < s.1)) with hb3 | hb3
    · rw [if_pos hb3] at h
      refine AO.weaken (s' := ⟨fr [(1, .bp 1 0), (12, .bool true)], hpGet [(1, .box 64 [.int .i64 s.1, .int .i64 s.2.1, .sl (.sl (.int .i64)) s.2.2.1, .sl (.sl (.int .i64)) s.2.2.2])], gt⟩) (Wk.to (by (simp only [go_sem, hb1, hb3]) <;> (repeat' with_reducible apply And.intro) <;> first | assumption | rfl | omega)) ?_
      refine AO.segF tab_ok 6 (by decide) [(1, .bp 1 0), (17, .bool true), (18, .cv (undef))] [(1, .box 64 [.int .i64 s.1, .int .i64 s.2.1, .sl (.sl (.int .i64)) s.2.2.1, .sl (.sl (.int .i64)) s.2.2.2])] (by (simp only [go_sem, hb1, hb3]) <;> (repeat' with_reducible apply And.intro) <;> first | assumption | rfl | omega) ?_
      refine AO.allF tab_ok (by decide) [(1, .bp 1 0), (21, .bool true)] [(1, .box 64 [.int .i64 s.1, .int .i64 s.2.1, .sl (.sl (.int .i64)) s.2.2.1, .sl (.sl (.int .i64)) s.2.2.2])] (by (simp only [go_sem, hb1, hb3]) <;> (repeat' with_reducible apply And.intro) <;> first | assumption | rfl | omega) ?_
      refine athen_n ?_
      refine AW.cond (b := true) rfl (fun _ => ?_) (fun hb4 => by cases hb4)
      refine AW.seq ?_
      refine AW.ops ?_
      refine AO.allF tab_ok (by decide) [(2, .bool false)] [] (by (simp only [go_sem, hb1, hb3]) <;> (repeat' with_reducible apply And.intro) <;> first | assumption | rfl | omega) ?_
      refine athen_n ?_
      refine AW.ret ?_
      refine athen_r ?_
      obtain rfl := Option.some.inj h
      exact ⟨rfl, [], [], [], rfl, (by (simp only [go_sem, hb1, hb3]) <;> (repeat' with_reducible apply And.intro) <;> first | assumption | rfl | omega)⟩
    · rw [if_neg (Bool.eq_false_iff.1 hb3)] at h
      refine AO.weaken (s' := ⟨fr [(1, .bp 1 0), (12, .bool false)], hpGet [(1, .box 64 [.int .i64 s.1, .int .i64 s.2.1, .sl (.sl (.int .i64)) s.2.2.1, .sl (.sl (.int .i64)) s.2.2.2])], gt⟩) (Wk.to (by (simp only [go_sem, hb1, hb3]) <;> (repeat' with_reducible apply And.intro) <;> first | assumption | rfl | omega)) ?_
      refine AO.segF tab_ok 5 (by decide) [(1, .bp 1 0), (17, .bool (decide (s.2.1 < 1)))] [(1, .box 64 [.int .i64 s.1, .int .i64 s.2.1, .sl (.sl (.int .i64)) s.2.2.1, .sl (.sl (.int .i64)) s.2.2.2])] (by (simp only [go_sem, hb1, hb3]) <;> (repeat' with_reducible apply And.intro) <;> first | assumption | rfl | omega) ?_
      rcases Bool.eq_false_or_eq_true (decide (s.2.1 < 1)) with hb5 | hb5
      · rw [if_pos hb5] at h
        refine AO.weaken (s' := ⟨fr [(1, .bp 1 0), (17, .bool true)], hpGet [(1, .box 64 [.int .i64 s.1, .int .i64 s.2.1, .sl (.sl (.int .i64)) s.2.2.1, .sl (.sl (.int .i64)) s.2.2.2])], gt⟩) (Wk.to (by (simp only [go_sem, hb1, hb3, hb5]) <;> (repeat' with_reducible apply And.intro) <;> first | assumption | rfl | omega)) ?_
        refine AO.allF tab_ok (by decide) [(1, .bp 1 0), (21, .bool true)] [(1, .box 64 [.int .i64 s.1, .int .i64 s.2.1, .sl (.sl (.int .i64)) s.2.2.1, .sl (.sl (.int .i64)) s.2.2.2])] (by (simp only [go_sem, hb1, hb3, hb5]) <;> (repeat' with_reducible apply And.intro) <;> first | assumption | rfl | omega) ?_
        refine athen_n ?_
        refine AW.cond (b := true) rfl (fun _ => ?_) (fun hb6 => by cases hb6)
        refine AW.seq ?_
        refine AW.ops ?_
        refine AO.allF tab_ok (by decide) [(2, .bool false)] [] (by (simp only [go_sem, hb1, hb3, hb5]) <;> (repeat' with_reducible apply And.intro) <;> first | assumption | rfl | omega) ?_
        refine athen_n ?_
        refine AW.ret ?_
        refine athen_r ?_
        obtain rfl := Option.some.inj h
        exact ⟨rfl, [], [], [], rfl, (by (simp only [go_sem, hb1, hb3, hb5]) <;> (repeat' with_reducible apply And.intro) <;> first | assumption | rfl | omega)⟩
      · rw [if_neg (Bool.eq_false_iff.1 hb5)] at h
        refine AO.weaken (s' := ⟨fr [(1, .bp 1 0), (17, .bool false)], hpGet [(1, .box 64 [.int .i64 s.1, .int .i64 s.2.1, .sl (.sl (.int .i64)) s.2.2.1, .sl (.sl (.int .i64)) s.2.2.2])], gt⟩) (Wk.to (by (simp only [go_sem, hb1, hb3, hb5]) <;> (repeat' with_reducible apply And.intro) <;> first | assumption | rfl | omega)) ?_
        refine AO.allF tab_ok (by decide) [(1, .bp 1 0), (21, .bool (decide (4 < s.2.1)))] [(1, .box 64 [.int .i64 s.1, .int .i64 s.2.1, .sl (.sl (.int .i64)) s.2.2.1, .sl (.sl (.int .i64)) s.2.2.2])] (by (simp only [go_sem, hb1, hb3, hb5]) <;> (repeat' with_reducible apply And.intro) <;> first | assumption | rfl | omega) ?_
        refine athen_n ?_
        refine AW.cond (b := (decide (4 < s.2.1))) rfl (fun hb7 => ?_) (fun hb7 => ?_)
        · rw [if_pos hb7] at h
          refine AW.seq ?_
          refine AW.ops ?_
          refine AO.allF tab_ok (by decide) [(2, .bool false)] [] (by (simp only [go_sem, hb1, hb3, hb5, hb7]) <;> (repeat' with_reducible apply And.intro) <;> first | assumption | rfl | omega) ?_
          refine athen_n ?_
          refine AW.ret ?_
          refine athen_r ?_
          obtain rfl := Option.some.inj h
          exact ⟨rfl, [], [], [], rfl, (by (simp only [go_sem, hb1, hb3, hb5, hb7]) <;> (repeat' with_reducible apply And.intro) <;> first | assumption | rfl | omega)⟩
        · rw [if_neg (Bool.eq_false_iff.1 hb7)] at h
          refine AW.skip ?_
          refine athen_n ?_
          refine AW.seq ?_
          refine AW.ops ?_
          refine AO.allF tab_ok (by decide) [(1, .bp 1 0), (3, .bp 3 0)] [(1, .box 64 [.int .i64 s.1, .int .i64 s.2.1, .sl (.sl (.int .i64)) s.2.2.1, .sl (.sl (.int .i64)) s.2.2.2]), (3, .box 115 [.int .i64 s.1, .int .i64 s.2.1, .sl (.sl (.int .i64)) s.2.2.1, .sl (.sl (.int .i64)) s.2.2.2])] (by (simp only [go_sem, hb1, hb3, hb5, hb7]) <;> (repeat' with_reducible apply And.intro) <;> first | assumption | rfl | omega) ?_
          refine athen_n ?_
          refine AW.seq ?_
          refine AW.ops ?_
          refine AO.segF tab_ok 5 (by decide) [(1, .bp 1 0), (3, .bp 3 0), (23, .agg [.int .i64 s.1, .int .i64 s.2.1, .sl (.sl (.int .i64)) s.2.2.1, .sl (.sl (.int .i64)) s.2.2.2]), (25, .sl (.sl (.int .i64)) s.2.2.1), (27, .fn (.func 123) [.agg [.int .i64 s.1, .int .i64 s.2.1, .sl (.sl (.int .i64)) s.2.2.1, .sl (.sl (.int .i64)) s.2.2.2]] [])] [(1, .box 64 [.int .i64 s.1, .int .i64 s.2.1, .sl (.sl (.int .i64)) s.2.2.1, .sl (.sl (.int .i64)) s.2.2.2]), (3, .box 115 [.int .i64 s.1, .int .i64 s.2.1, .sl (.sl (.int .i64)) s.2.2.1, .sl (.sl (.int .i64)) s.2.2.2])] (by (simp only [go_sem, hb1, hb3, hb5, hb7]) <;> (repeat' with_reducible apply And.intro) <;> first | assumption | rfl | omega) ?_
          obtain ⟨v0, hv8, h⟩ := Option.bind_eq_some_iff.1 h
          refine AO.call tab_ok (by decide) rfl rfl rfl (fun _ h => h) [] [] (hc_spec_machine_isTable s s.2.2.1 s hv8) rfl (by (simp only [go_sem, hb1, hb3, hb5, hb7]) <;> (repeat' with_reducible apply And.intro) <;> first | assumption | rfl | omega) (by (simp only [go_sem, hb1, hb3, hb5, hb7]) <;> (repeat' with_reducible apply And.intro) <;> first | assumption | rfl | omega) [(1, .bp 1 0), (3, .bp 3 0), (28, .bool v0)] [(1, .box 64 [.int .i64 s.1, .int .i64 s.2.1, .sl (.sl (.int .i64)) s.2.2.1, .sl (.sl (.int .i64)) s.2.2.2]), (3, .box 115 [.int .i64 s.1, .int .i64 s.2.1, .sl (.sl (.int .i64)) s.2.2.1, .sl (.sl (.int .i64)) s.2.2.2])] (by (simp only [go_sem, hb1, hb3, hb5, hb7]) <;> (repeat' with_reducible apply And.intro) <;> first | assumption | rfl | omega) ?_
          refine AO.segF tab_ok 1 (by decide) [(1, .bp 1 0), (3, .bp 3 0), (29, .bool v0)] [(1, .box 64 [.int .i64 s.1, .int .i64 s.2.1, .sl (.sl (.int .i64)) s.2.2.1, .sl (.sl (.int .i64)) s.2.2.2]), (3, .box 115 [.int .i64 s.1, .int .i64 s.2.1, .sl (.sl (.int .i64)) s.2.2.1, .sl (.sl (.int .i64)) s.2.2.2])] (by (simp only [go_sem, hb1, hb3, hb5, hb7]) <;> (repeat' with_reducible apply And.intro) <;> first | assumption | rfl | omega) ?_
          rcases Bool.eq_false_or_eq_true v0 with hb9 | hb9
          · rw [if_pos hb9] at h
            refine AO.weaken (s' := ⟨fr [(1, .bp 1 0), (3, .bp 3 0), (29, .bool true)], hpGet [(1, .box 64 [.int .i64 s.1, .int .i64 s.2.1, .sl (.sl (.int .i64)) s.2.2.1, .sl (.sl (.int .i64)) s.2.2.2]), (3, .box 115 [.int .i64 s.1, .int .i64 s.2.1, .sl (.sl (.int .i64)) s.2.2.1, .sl (.sl (.int .i64)) s.2.2.2])], gt⟩) (Wk.to (by (simp only [go_sem, hb1, hb3, hb5, hb7, hb9]) <;> (repeat' with_reducible apply And.intro) <;> first | assumption | rfl | omega)) ?_
            refine AO.segF tab_ok 3 (by decide) [(29, .bool true), (30, .agg [.int .i64 s.1, .int .i64 s.2.1, .sl (.sl (.int .i64)) s.2.2.1, .sl (.sl (.int .i64)) s.2.2.2]), (32, .sl (.sl (.int .i64)) s.2.2.2)] [] (by (simp only [go_sem, hb1, hb3, hb5, hb7, hb9]) <;> (repeat' with_reducible apply And.intro) <;> first | assumption | rfl | omega) ?_
            obtain ⟨v0_2, hv10, h⟩ := Option.bind_eq_some_iff.1 h
            refine AO.call tab_ok (by decide) rfl rfl rfl (fun _ h => ⟨fun _ => h, fun hn => absurd rfl hn⟩) [] [] (hc_spec_machine_isTable_2 s s.2.2.2 hv10) rfl (by (simp only [go_sem, hb1, hb3, hb5, hb7, hb9]) <;> (repeat' with_reducible apply And.intro) <;> first | assumption | rfl | omega) (by (simp only [go_sem, hb1, hb3, hb5, hb7, hb9]) <;> (repeat' with_reducible apply And.intro) <;> first | assumption | rfl | omega) [(29, .bool true), (33, .bool v0_2)] [] (by (simp only [go_sem, hb1, hb3, hb5, hb7, hb9]) <;> (repeat' with_reducible apply And.intro) <;> first | assumption | rfl | omega) ?_
            refine AO.allF tab_ok (by decide) [(2, .bool v0_2)] [] (by (simp only [go_sem, hb1, hb3, hb5, hb7, hb9]) <;> (repeat' with_reducible apply And.intro) <;> first | assumption | rfl | omega) ?_
            refine athen_n ?_
            refine AW.ret ?_
            obtain rfl := Option.some.inj h
            exact ⟨rfl, [], [], [], rfl, (by (simp only [go_sem, hb1, hb3, hb5, hb7, hb9]) <;> (repeat' with_reducible apply And.intro) <;> first | assumption | rfl | omega)⟩
          · rw [if_neg (Bool.eq_false_iff.1 hb9)] at h
            refine AO.weaken (s' := ⟨fr [(1, .bp 1 0), (3, .bp 3 0), (29, .bool false)], hpGet [(1, .box 64 [.int .i64 s.1, .int .i64 s.2.1, .sl (.sl (.int .i64)) s.2.2.1, .sl (.sl (.int .i64)) s.2.2.2]), (3, .box 115 [.int .i64 s.1, .int .i64 s.2.1, .sl (.sl (.int .i64)) s.2.2.1, .sl (.sl (.int .i64)) s.2.2.2])], gt⟩) (Wk.to (by (simp only [go_sem, hb1, hb3, hb5, hb7, hb9]) <;> (repeat' with_reducible apply And.intro) <;> first | assumption | rfl | omega)) ?_
            refine AO.segF tab_ok 4 (by decide) [(29, .bool false), (33, .cv (undef))] [] (by (simp only [go_sem, hb1, hb3, hb5, hb7, hb9]) <;> (repeat' with_reducible apply And.intro) <;> first | assumption | rfl | omega) ?_
            refine AO.allF tab_ok (by decide) [(2, .bool false)] [] (by (simp only [go_sem, hb1, hb3, hb5, hb7, hb9]) <;> (repeat' with_reducible apply And.intro) <;> first | assumption | rfl | omega) ?_
            refine athen_n ?_
            refine AW.ret ?_
            obtain rfl := Option.some.inj h
            exact ⟨rfl, [], [], [], rfl, (by (simp only [go_sem, hb1, hb3, hb5, hb7, hb9]) <;> (repeat' with_reducible apply And.intro) <;> first | assumption | rfl | omega)⟩

set_option maxRecDepth 100000 in
set_option maxHeartbeats 2000000 in
theorem hc_history_checkSpecs (specs : List (Int × Int × (List (List Int)) × (List (List Int)))) {r : Int} (h : history_checkSpecs specs = some r) : HC Try.prog 59 [] [.sl Y0 specs] [] (.int .i64 r) := by
  unfold history_checkSpecs at h
  refine HC.of_body tab_ok (res := [.tmp 2]) Try.func59 rfl (by kernel_rfl) rfl (nt := 19) rfl (by decide) (by simp) ?_
  refine AW.seq ?_
  refine AW.ops ?_
  refine AO.allF tab_ok (by decide) [(0, .sl Y0 specs)] [] (by (simp only [go_sem]) <;> (repeat' with_reducible apply And.intro) <;> first | assumption | rfl | omega) ?_
  refine athen_n ?_
  refine AW.seq ?_
  refine AW.seq ?_
  refine AW.ops ?_
  refine AO.segF tab_ok 2 (by decide) [(0, .sl Y0 specs), (6, .int .i64 (specs.length : Int))] [] (by (simp only [go_sem]) <;> (repeat' with_reducible apply And.intro) <;> first | assumption | rfl | omega) ?_
  obtain ⟨v0, hv1, h⟩ := Option.bind_eq_some_iff.1 h
  refine AO.call tab_ok (by decide) rfl rfl rfl (fun _ h => h) [] [] (hc_history_within (specs.length : Int) 1 2 hv1) rfl (by (simp only [go_sem]) <;> (repeat' with_reducible apply And.intro) <;> first | assumption | rfl | omega) (by (simp only [go_sem]) <;> (repeat' with_reducible apply And.intro) <;> first | assumption | rfl | omega) [(0, .sl Y0 specs), (7, .bool v0)] [] (by (simp only [go_sem]) <;> (repeat' with_reducible apply And.intro) <;> first | assumption | rfl | omega) ?_
  refine AO.allF tab_ok (by decide) [(0, .sl Y0 specs), (8, .bool (!v0))] [] (by (simp only [go_sem]) <;> (repeat' with_reducible apply And.intro) <;> first | assumption | rfl | omega) ?_
  refine athen_n ?_
  refine AW.cond (b := (!v0)) rfl (fun hb2 => ?_) (fun hb2 => ?_)
  · rw [if_pos hb2] at h
    refine AW.seq ?_
    refine AW.ops ?_
    refine AO.allF tab_ok (by decide) [(2, .int .i64 10)] [] (by (simp only [go_sem, hb2]) <;> (repeat' with_reducible apply And.intro) <;> first | assumption | rfl | omega) ?_
    refine athen_n ?_
    refine AW.ret ?_
    refine athen_r ?_
    obtain rfl := Option.some.inj h
    exact ⟨rfl, [], [], [], rfl, (by (simp only [go_sem, hb2]) <;> (repeat' with_reducible apply And.intro) <;> first | assumption | rfl | omega)⟩
  · rw [if_neg (Bool.eq_false_iff.1 hb2)] at h
    refine AW.skip ?_
    refine athen_n ?_
    refine AW.have1 (fun _ : Unit => history_checkSpecs_k1 = some r) (fun _ => ⟨fr [], hpGet [], gt⟩) (fun _ h => ?_) (fun hk_history_checkSpecs_k1 => ?_)
    · unfold history_checkSpecs_k1 at h
      refine AW.seq ?_
      refine AW.ops ?_
      refine AO.allF tab_ok (by decide) [(2, .int .i64 0)] [] (by (simp only [go_sem, hb2]) <;> (repeat' with_reducible apply And.intro) <;> first | assumption | rfl | omega) ?_
      refine athen_n ?_
      refine AW.ret ?_
      obtain rfl := Option.some.inj h
      exact ⟨rfl, [], [], [], rfl, (by (simp only [go_sem, hb2]) <;> (repeat' with_reducible apply And.intro) <;> first | assumption | rfl | omega)⟩
    · refine AW.seq ?_
      refine AW.seq ?_
      refine AW.ops ?_
      refine AO.allF tab_ok (by decide) [(9, .sl Y0 specs), (10, .int .i64 (specs.length : Int)), (11, .int .i64 0)] [] (by (simp only [go_sem, hb2]) <;> (repeat' with_reducible apply And.intro) <;> first | assumption | rfl | omega) ?_
      refine athen_n ?_
      refine AW.block ?_
      obtain ⟨rv7, hw3, ho4⟩ := Option.bind_eq_some_iff.1 h
      refine AW.loopO (history_checkSpecs_b1 specs) (fun st1 => ⟨fr [(9, .sl Y0 specs), (10, .int .i64 (specs.length : Int)), (11, .int .i64 st1)], hpGet [], gt⟩) 0 hw3 (Wk.le [] [] [] rfl (by (simp only [go_sem, hb2]) <;> (repeat' with_reducible apply And.intro) <;> first | assumption | rfl | omega) (by (simp only [go_sem, hb2]) <;> (repeat' with_reducible apply And.intro) <;> first | assumption | rfl | omega)) ?_
      intro st1 x6 h hd5
      unfold history_checkSpecs_b1 at h
      refine AW.seq ?_
      refine AW.ops ?_
      refine AO.allF tab_ok (by decide) [(9, .sl Y0 specs), (10, .int .i64 (specs.length : Int)), (11, .int .i64 st1), (12, .bool (decide (st1 < (specs.length : Int))))] [] (by (simp only [go_sem, hb2]) <;> (repeat' with_reducible apply And.intro) <;> first | assumption | rfl | omega) ?_
      refine athen_n ?_
      refine AW.seq ?_
      refine AW.cond (b := (decide (st1 < (specs.length : Int)))) rfl (fun hb8 => ?_) (fun hb8 => ?_)
      · rw [if_pos hb8] at h
        refine AW.skip ?_
        refine athen_n ?_
        refine AW.seq ?_
        refine AW.block ?_
        refine AW.seq ?_
        refine AW.ops ?_
        obtain ⟨c9, h⟩ := ck_some.1 h
        obtain ⟨c10, h⟩ := ck_some.1 h
        refine AO.allF tab_ok (by decide) [(4, .bp 4 0), (9, .sl Y0 specs), (10, .int .i64 (specs.length : Int)), (11, .int .i64 st1)] [(4, .box 64 [.int .i64 (specs.getD st1.toNat (0, 0, [], [])).1, .int .i64 (specs.getD st1.toNat (0, 0, [], [])).2.1, .sl (.sl (.int .i64)) (specs.getD st1.toNat (0, 0, [], [])).2.2.1, .sl (.sl (.int .i64)) (specs.getD st1.toNat (0, 0, [], [])).2.2.2])] (by (simp only [go_sem, hb2, hb8]) <;> (repeat' with_reducible apply And.intro) <;> first | assumption | rfl | omega) ?_
        refine athen_n ?_
        refine AW.seq ?_
        refine AW.ops ?_
        refine AO.segF tab_ok 1 (by decide) [(9, .sl Y0 specs), (10, .int .i64 (specs.length : Int)), (11, .int .i64 st1), (15, .agg [.int .i64 (specs.getD st1.toNat (0, 0, [], [])).1, .int .i64 (specs.getD st1.toNat (0, 0, [], [])).2.1, .sl (.sl (.int .i64)) (specs.getD st1.toNat (0, 0, [], [])).2.2.1, .sl (.sl (.int .i64)) (specs.getD st1.toNat (0, 0, [], [])).2.2.2])] [] (by (simp only [go_sem, hb2, hb8]) <;> (repeat' with_reducible apply And.intro) <;> first | assumption | rfl | omega) ?_
        obtain ⟨v0_2, hv11, h⟩ := Option.bind_eq_some_iff.1 h
        refine AO.call tab_ok (by decide) rfl rfl rfl (fun _ h => h) [] [] (hc_spec_Valid (specs.getD st1.toNat (0, 0, [], [])) hv11) rfl (by (simp only [go_sem, hb2, hb8]) <;> (repeat' with_reducible apply And.intro) <;> first | assumption | rfl | omega) (by (simp only [go_sem, hb2, hb8]) <;> (repeat' with_reducible apply And.intro) <;> first | assumption | rfl | omega) [(9, .sl Y0 specs), (10, .int .i64 (specs.length : Int)), (11, .int .i64 st1), (16, .bool v0_2)] [] (by (simp only [go_sem, hb2, hb8]) <;> (repeat' with_reducible apply And.intro) <;> first | assumption | rfl | omega) ?_
        refine AO.allF tab_ok (by decide) [(9, .sl Y0 specs), (10, .int .i64 (specs.length : Int)), (11, .int .i64 st1), (17, .bool (!v0_2))] [] (by (simp only [go_sem, hb2, hb8]) <;> (repeat' with_reducible apply And.intro) <;> first | assumption | rfl | omega) ?_
        refine athen_n ?_
        refine AW.cond (b := (!v0_2)) rfl (fun hb12 => ?_) (fun hb12 => ?_)
        · rw [if_pos hb12] at h
          refine AW.seq ?_
          refine AW.ops ?_
          refine AO.allF tab_ok (by decide) [(2, .int .i64 10)] [] (by (simp only [go_sem, hb2, hb8, hb12]) <;> (repeat' with_reducible apply And.intro) <;> first | assumption | rfl | omega) ?_
          refine athen_n ?_
          refine AW.ret ?_
          refine ablock_r ?_
          refine athen_r ?_
          obtain rfl := Option.some.inj h
          rw [← hd5 _ rfl] at ho4
          have h := ho4
          try simp only at h
          refine athen_r ?_
          refine ablock_r ?_
          refine athen_r ?_
          obtain rfl := Option.some.inj h
          exact ⟨rfl, [], [], [], rfl, (by (simp only [go_sem, hb2, hb8, hb12]) <;> (repeat' with_reducible apply And.intro) <;> first | assumption | rfl | omega)⟩
        · rw [if_neg (Bool.eq_false_iff.1 hb12)] at h
          refine AW.skip ?_
          refine ablock_n ?_
          refine athen_n ?_
          refine AW.ops ?_
          obtain ⟨c13, h⟩ := ck_some.1 h
          refine AO.allF tab_ok (by decide) [(9, .sl Y0 specs), (10, .int .i64 (specs.length : Int)), (11, .int .i64 (st1 + 1))] [] (by (simp only [go_sem, hb2, hb8, hb12]) <;> (repeat' with_reducible apply And.intro) <;> first | assumption | rfl | omega) ?_
          obtain rfl := Option.some.inj h
          exact ⟨_, rfl, Wk.le [] [] [] rfl (by (simp only [go_sem, hb2, hb8, hb12]) <;> (repeat' with_reducible apply And.intro) <;> first | assumption | rfl | omega) (by (simp only [go_sem, hb2, hb8, hb12]) <;> (repeat' with_reducible apply And.intro) <;> first | assumption | rfl | omega)⟩
      · rw [if_neg (Bool.eq_false_iff.1 hb8)] at h
        refine AW.exit ?_
        refine athen_e ?_
        obtain rfl := Option.some.inj h
        rw [← hd5 _ rfl] at ho4
        have h := ho4
        try simp only at h
        refine athen_e ?_
        refine ablock_s ?_
        refine athen_n ?_
        exact AW.weaken (Wk.le [] [] [] rfl (by (simp only [go_sem, hb2, hb8]) <;> (repeat' with_reducible apply And.intro) <;> first | assumption | rfl | omega) (by (simp only [go_sem, hb2, hb8]) <;> (repeat' with_reducible apply And.intro) <;> first | assumption | rfl | omega)) (hk_history_checkSpecs_k1 () h)

end Go.Proofs.Ytdkdkpenmgkdcaa
