/-
  Made by wip/tool/dc.py out of the print of the program: contracts.
-/
import Derived.Test.YtdkdkpenmgkdcaaHp
import Derived.Test.YtdkdkpenmgkdcaaTbh
import Derived.Test.YtdkdkpenmgkdcaaKpc1
import Derived.Test.YtdkdkpenmgkdcaaKpc5
import Derived.Test.YtdkdkpenmgkdcaaKpc6
import Derived.Test.YtdkdkpenmgkdcaaKpc7
namespace Go.Proofs.Ytdkdkpenmgkdcaa
open Go.RowKit

set_option linter.unusedSimpArgs false
set_option linter.unusedVariables false
set_option linter.constructorNameAsVariable false

set_option maxRecDepth 100000 in
set_option maxHeartbeats 2000000 in
theorem hc_history_Until (h0 : List (Int × Int × Int × Int × Int × Int)) (moment : Int) {r : (List (Int × Int × Int × Int × Int × Int)) × Int} (h : history_Until h0 moment = some r) : HC Try.prog 46 [] [.sl Y1 h0, .int .i64 moment] [(2000, .arr 55 Y1 r.1)] (.tup [.own 2000, .int .i64 r.2]) := by
  unfold history_Until at h
  refine HC.of_body tab_ok (res := [.tmp 4, .tmp 5]) Try.func46 rfl (by kernel_rfl) rfl (nt := 14) rfl (by decide) (by simp) ?_
  refine AW.seq ?_
  refine AW.ops ?_
  refine AO.allF tab_ok (by decide) [(2, .bp 2 0), (3, .bp 3 0)] [(2, .box 23 [.sl Y1 h0]), (3, .box 3 [.int .i64 moment])] (by (simp only [go_sem]) <;> (repeat' with_reducible apply And.intro) <;> first | assumption | rfl | omega | (unfold maxLen; omega)) ?_
  refine athen_n ?_
  refine AW.seq ?_
  refine AW.draw tab_ok mixed_ok [(5, [2, 3, 21000])] [] (by decide) (by kernel_rfl) ?_
  refine adops_cut 2 (fun K' hK1 => ?_)
  try dsimp only [List.drop_succ_cons, List.drop_zero, List.take_succ_cons, List.take_zero]
  simp only [go_sem]
  repeat (with_reducible refine And.intro (by first | assumption | rfl | omega | trivial | (unfold maxLen; omega)) ?_)
  refine hK1 _ ?_
  obtain ⟨v0, hv2, h⟩ := Option.bind_eq_some_iff.1 h
  refine adops.call (by first | trivial | rfl) rfl rfl rfl (fun _ h => h) [] [] (hc_history_within moment 0 100 hv2) rfl (by (simp only [go_sem]) <;> (repeat' with_reducible apply And.intro) <;> first | assumption | rfl | omega | (unfold maxLen; omega)) (by (simp only [go_sem]) <;> (repeat' with_reducible apply And.intro) <;> first | assumption | rfl | omega | (unfold maxLen; omega)) rfl ?_
  obtain ⟨v0_2, hv3, h⟩ := Option.bind_eq_some_iff.1 h
  refine adops.call (by first | trivial | rfl) rfl rfl rfl (fun _ h => h) [] [] (hc_history_check h0 v0 hv3) rfl (by (simp only [go_sem]) <;> (repeat' with_reducible apply And.intro) <;> first | assumption | rfl | omega | (unfold maxLen; omega)) (by (simp only [go_sem]) <;> (repeat' with_reducible apply And.intro) <;> first | assumption | rfl | omega | (unfold maxLen; omega)) rfl ?_
  refine adops_cut 1 (fun K' hK4 => ?_)
  try dsimp only [List.drop_succ_cons, List.drop_zero, List.take_succ_cons, List.take_zero]
  simp only [go_sem]
  repeat (with_reducible refine And.intro (by first | assumption | rfl | omega | trivial | (unfold maxLen; omega)) ?_)
  refine hK4 _ ?_
  obtain ⟨v0_3, hv5, h⟩ := Option.bind_eq_some_iff.1 h
  refine adops.call (by first | trivial | rfl) rfl rfl rfl (fun _ h => h) [] [(1000, 2), (1001, 3)] (hc_history_told_14 v0_2 h0 moment hv5) rfl (by (simp only [go_sem]) <;> (repeat' with_reducible apply And.intro) <;> first | assumption | rfl | omega | (unfold maxLen; omega)) (by (simp only [go_sem]) <;> (repeat' with_reducible apply And.intro) <;> first | assumption | rfl | omega | (unfold maxLen; omega)) rfl ?_
  refine adops_cut 4 (fun K' hK6 => ?_)
  try dsimp only [List.drop_succ_cons, List.drop_zero, List.take_succ_cons, List.take_zero]
  simp only [go_sem]
  repeat (with_reducible refine And.intro (by first | assumption | rfl | omega | trivial | (unfold maxLen; omega)) ?_)
  refine hK6 _ ?_
  refine adops_nil ?_
  refine athen_n ?_
  refine AW.weaken (s' := ⟨fr [(4, .own 21000), (5, .int .i64 v0_3.2)], hpGet [(21000, .arr 55 Y1 v0_3.1)], gt⟩) (Wk.to (by (simp only [go_sem]) <;> (repeat' with_reducible apply And.intro) <;> first | assumption | rfl | omega | (unfold maxLen; omega))) ?_
  refine AW.ret ?_
  obtain rfl := Option.some.inj h
  exact ⟨rfl, [], [], [(2000, 21000)], rfl, (by (simp only [go_sem]) <;> (repeat' with_reducible apply And.intro) <;> first | assumption | rfl | omega | (unfold maxLen; omega))⟩

set_option maxRecDepth 100000 in
set_option maxHeartbeats 2000000 in
theorem hc_linealref02_Until (h0 : List (Int × Int × Int × Int × Int × Int)) (moment : Int) {r : (List (Int × Int × Int × Int × Int × Int)) × Int} (h : linealref02_Until h0 moment = some r) : HC Try.prog 47 [] [.sl Y1 h0, .int .i64 moment] [(2000, .arr 55 Y1 r.1)] (.tup [.own 2000, .int .i64 r.2]) := by
  unfold linealref02_Until at h
  refine HC.of_body tab_ok (res := [.tmp 4, .tmp 5]) Try.func47 rfl (by kernel_rfl) rfl (nt := 40) rfl (by decide) (by simp) ?_
  refine AW.seq ?_
  refine AW.ops ?_
  refine AO.allF tab_ok (by decide) [(0, .sl Y1 h0), (1, .int .i64 moment)] [] (by (simp only [go_sem]) <;> (repeat' with_reducible apply And.intro) <;> first | assumption | rfl | omega | (unfold maxLen; omega)) ?_
  refine athen_n ?_
  refine AW.seq ?_
  refine AW.seq ?_
  refine AW.ops ?_
  refine AO.segF tab_ok 1 (by decide) [(0, .sl Y1 h0), (1, .int .i64 moment), (9, .sl Y1 h0)] [] (by (simp only [go_sem]) <;> (repeat' with_reducible apply And.intro) <;> first | assumption | rfl | omega | (unfold maxLen; omega)) ?_
  obtain ⟨v0, hv1, h⟩ := Option.bind_eq_some_iff.1 h
  refine AO.call tab_ok (by decide) rfl rfl rfl (fun _ h => h) [] [] (hc_linealref02_Valid h0 hv1) rfl (by (simp only [go_sem]) <;> (repeat' with_reducible apply And.intro) <;> first | assumption | rfl | omega | (unfold maxLen; omega)) (by (simp only [go_sem]) <;> (repeat' with_reducible apply And.intro) <;> first | assumption | rfl | omega | (unfold maxLen; omega)) [(0, .sl Y1 h0), (1, .int .i64 moment), (10, .bool v0)] [] (by (simp only [go_sem]) <;> (repeat' with_reducible apply And.intro) <;> first | assumption | rfl | omega | (unfold maxLen; omega)) ?_
  refine AO.allF tab_ok (by decide) [(0, .sl Y1 h0), (1, .int .i64 moment), (11, .bool (!v0))] [] (by (simp only [go_sem]) <;> (repeat' with_reducible apply And.intro) <;> first | assumption | rfl | omega | (unfold maxLen; omega)) ?_
  refine athen_n ?_
  refine AW.cond (b := (!v0)) rfl (fun hb2 => ?_) (fun hb2 => ?_)
  · rw [if_pos hb2] at h
    refine AW.seq ?_
    refine AW.ops ?_
    refine AO.allF tab_ok (by decide) [(4, .cv (.slice none 0 0)), (5, .int .i64 20)] [] (by (simp only [go_sem, hb2]) <;> (repeat' with_reducible apply And.intro) <;> first | assumption | rfl | omega | (unfold maxLen; omega)) ?_
    refine athen_n ?_
    refine AW.ret ?_
    refine athen_r ?_
    obtain rfl := Option.some.inj h
    exact ⟨rfl, [], [2000], [], rfl, (by (simp only [go_sem, hb2]) <;> (repeat' with_reducible apply And.intro) <;> first | assumption | rfl | omega | (unfold maxLen; omega))⟩
  · rw [if_neg (Bool.eq_false_iff.1 hb2)] at h
    refine AW.skip ?_
    refine athen_n ?_
    refine AW.seq ?_
    refine AW.seq ?_
    refine AW.ops ?_
    refine AO.segF tab_ok 1 (by decide) [(0, .sl Y1 h0), (1, .int .i64 moment), (12, .int .i64 moment)] [] (by (simp only [go_sem, hb2]) <;> (repeat' with_reducible apply And.intro) <;> first | assumption | rfl | omega | (unfold maxLen; omega)) ?_
    obtain ⟨v0_2, hv3, h⟩ := Option.bind_eq_some_iff.1 h
    refine AO.call tab_ok (by decide) rfl rfl rfl (fun _ h => h) [] [] (hc_linealref02_within 0 moment 100 hv3) rfl (by (simp only [go_sem, hb2]) <;> (repeat' with_reducible apply And.intro) <;> first | assumption | rfl | omega | (unfold maxLen; omega)) (by (simp only [go_sem, hb2]) <;> (repeat' with_reducible apply And.intro) <;> first | assumption | rfl | omega | (unfold maxLen; omega)) [(0, .sl Y1 h0), (1, .int .i64 moment), (13, .bool v0_2)] [] (by (simp only [go_sem, hb2]) <;> (repeat' with_reducible apply And.intro) <;> first | assumption | rfl | omega | (unfold maxLen; omega)) ?_
    refine AO.allF tab_ok (by decide) [(0, .sl Y1 h0), (1, .int .i64 moment), (14, .bool (!v0_2))] [] (by (simp only [go_sem, hb2]) <;> (repeat' with_reducible apply And.intro) <;> first | assumption | rfl | omega | (unfold maxLen; omega)) ?_
    refine athen_n ?_
    refine AW.cond (b := (!v0_2)) rfl (fun hb4 => ?_) (fun hb4 => ?_)
    · rw [if_pos hb4] at h
      refine AW.seq ?_
      refine AW.ops ?_
      refine AO.allF tab_ok (by decide) [(4, .cv (.slice none 0 0)), (5, .int .i64 2)] [] (by (simp only [go_sem, hb2, hb4]) <;> (repeat' with_reducible apply And.intro) <;> first | assumption | rfl | omega | (unfold maxLen; omega)) ?_
      refine athen_n ?_
      refine AW.ret ?_
      refine athen_r ?_
      obtain rfl := Option.some.inj h
      exact ⟨rfl, [], [2000], [], rfl, (by (simp only [go_sem, hb2, hb4]) <;> (repeat' with_reducible apply And.intro) <;> first | assumption | rfl | omega | (unfold maxLen; omega))⟩
    · rw [if_neg (Bool.eq_false_iff.1 hb4)] at h
      refine AW.skip ?_
      refine athen_n ?_
      refine AW.seq ?_
      refine AW.ops ?_
      refine AO.allF tab_ok (by decide) [(0, .sl Y1 h0), (1, .int .i64 moment), (6, .cv (.slice none 0 0))] [] (by (simp only [go_sem, hb2, hb4]) <;> (repeat' with_reducible apply And.intro) <;> first | assumption | rfl | omega | (unfold maxLen; omega)) ?_
      refine athen_n ?_
      refine AW.have1 (fun b1 : (List (Int × Int × Int × Int × Int × Int)) => linealref02_Until_k1 b1 = some r) (fun b1 => ⟨fr [(6, .own 38)], hpGet [(38, .arr 55 Y1 b1)], gt⟩) (fun b1 h => ?_) (fun hk_linealref02_Until_k1 => ?_)
      · unfold linealref02_Until_k1 at h
        refine AW.seq ?_
        refine AW.ops ?_
        refine AO.allF tab_ok (by decide) [(4, .own 38), (5, .int .i64 0)] [(38, .arr 55 Y1 b1)] (by (simp only [go_sem, hb2, hb4]) <;> (repeat' with_reducible apply And.intro) <;> first | assumption | rfl | omega | (unfold maxLen; omega)) ?_
        refine athen_n ?_
        refine AW.ret ?_
        obtain rfl := Option.some.inj h
        exact ⟨rfl, [], [], [(2000, 38)], rfl, (by (simp only [go_sem, hb2, hb4]) <;> (repeat' with_reducible apply And.intro) <;> first | assumption | rfl | omega | (unfold maxLen; omega))⟩
      · refine AW.seq ?_
        refine AW.seq ?_
        refine AW.ops ?_
        refine AO.allF tab_ok (by decide) [(0, .sl Y1 h0), (1, .int .i64 moment), (6, .cv (.slice none 0 0)), (7, .int .i64 0)] [] (by (simp only [go_sem, hb2, hb4]) <;> (repeat' with_reducible apply And.intro) <;> first | assumption | rfl | omega | (unfold maxLen; omega)) ?_
        refine athen_n ?_
        refine AW.block ?_
        obtain ⟨rv9, hw5, ho6⟩ := Option.bind_eq_some_iff.1 h
        refine AW.loopO (linealref02_Until_b1 h0 moment) (fun st1 => ⟨fr [(0, .sl Y1 h0), (1, .int .i64 moment), (6, .own 38), (7, .int .i64 st1.2)], hpGet [(38, .arr 55 Y1 st1.1)], gt⟩) ([], 0) hw5 (Wk.le [] [38] [] rfl (by (simp only [go_sem, hb2, hb4]) <;> (repeat' with_reducible apply And.intro) <;> first | assumption | rfl | omega | (unfold maxLen; omega)) (by (simp only [go_sem, hb2, hb4]) <;> (repeat' with_reducible apply And.intro) <;> first | assumption | rfl | omega | (unfold maxLen; omega))) ?_
        intro st1 x8 h hd7
        unfold linealref02_Until_b1 at h
        refine AW.seq ?_
        refine AW.seq ?_
        refine AW.ops ?_
        refine AO.allF tab_ok (by decide) [(0, .sl Y1 h0), (1, .int .i64 moment), (6, .own 38), (7, .int .i64 st1.2), (18, .bool (decide (st1.2 < (h0.length : Int))))] [(38, .arr 55 Y1 st1.1)] (by (simp only [go_sem, hb2, hb4]) <;> (repeat' with_reducible apply And.intro) <;> first | assumption | rfl | omega | (unfold maxLen; omega)) ?_
        refine athen_n ?_
        refine AW.cond (b := (decide (st1.2 < (h0.length : Int)))) rfl (fun hb10 => ?_) (fun hb10 => ?_)
        · rw [if_pos hb10] at h
          refine AW.skip ?_
          refine athen_n ?_
          refine AW.seq ?_
          refine AW.block ?_
          refine AW.seq ?_
          refine AW.ops ?_
          obtain ⟨c11, h⟩ := ck_some.1 h
          obtain ⟨c12, h⟩ := ck_some.1 h
          refine AO.allF tab_ok (by decide) [(0, .sl Y1 h0), (1, .int .i64 moment), (6, .own 38), (7, .int .i64 st1.2), (8, .bp 8 0)] [(8, .box 55 [.int .i64 (h0.getD st1.2.toNat (0, 0, 0, 0, 0, 0)).1, .int .i64 (h0.getD st1.2.toNat (0, 0, 0, 0, 0, 0)).2.1, .int .i64 (h0.getD st1.2.toNat (0, 0, 0, 0, 0, 0)).2.2.1, .int .i64 (h0.getD st1.2.toNat (0, 0, 0, 0, 0, 0)).2.2.2.1, .int .i64 (h0.getD st1.2.toNat (0, 0, 0, 0, 0, 0)).2.2.2.2.1, .int .i64 (h0.getD st1.2.toNat (0, 0, 0, 0, 0, 0)).2.2.2.2.2]), (38, .arr 55 Y1 st1.1)] (by (simp only [go_sem, hb2, hb4, hb10]) <;> (repeat' with_reducible apply And.intro) <;> first | assumption | rfl | omega | (unfold maxLen; omega)) ?_
          refine athen_n ?_
          refine AW.seq ?_
          refine AW.seq ?_
          refine AW.ops ?_
          refine AO.allF tab_ok (by decide) [(0, .sl Y1 h0), (1, .int .i64 moment), (6, .own 38), (7, .int .i64 st1.2), (8, .bp 8 0), (28, .bool (decide (moment < (h0.getD st1.2.toNat (0, 0, 0, 0, 0, 0)).2.2.2.2.1)))] [(8, .box 55 [.int .i64 (h0.getD st1.2.toNat (0, 0, 0, 0, 0, 0)).1, .int .i64 (h0.getD st1.2.toNat (0, 0, 0, 0, 0, 0)).2.1, .int .i64 (h0.getD st1.2.toNat (0, 0, 0, 0, 0, 0)).2.2.1, .int .i64 (h0.getD st1.2.toNat (0, 0, 0, 0, 0, 0)).2.2.2.1, .int .i64 (h0.getD st1.2.toNat (0, 0, 0, 0, 0, 0)).2.2.2.2.1, .int .i64 (h0.getD st1.2.toNat (0, 0, 0, 0, 0, 0)).2.2.2.2.2]), (38, .arr 55 Y1 st1.1)] (by (simp only [go_sem, hb2, hb4, hb10]) <;> (repeat' with_reducible apply And.intro) <;> first | assumption | rfl | omega | (unfold maxLen; omega)) ?_
          refine athen_n ?_
          refine AW.cond (b := (decide (moment < (h0.getD st1.2.toNat (0, 0, 0, 0, 0, 0)).2.2.2.2.1))) rfl (fun hb13 => ?_) (fun hb13 => ?_)
          · rw [if_pos hb13] at h
            refine AW.exit ?_
            refine athen_e ?_
            refine ablock_s ?_
            refine athen_n ?_
            refine AW.ops ?_
            obtain ⟨c14, h⟩ := ck_some.1 h
            refine AO.allF tab_ok (by decide) [(0, .sl Y1 h0), (1, .int .i64 moment), (6, .own 38), (7, .int .i64 (st1.2 + 1))] [(38, .arr 55 Y1 st1.1)] (by (simp only [go_sem, hb2, hb4, hb10, hb13]) <;> (repeat' with_reducible apply And.intro) <;> first | assumption | rfl | omega | (unfold maxLen; omega)) ?_
            obtain rfl := Option.some.inj h
            exact ⟨_, rfl, Wk.le [] [] [] rfl (by (simp only [go_sem, hb2, hb4, hb10, hb13]) <;> (repeat' with_reducible apply And.intro) <;> first | assumption | rfl | omega | (unfold maxLen; omega)) (by (simp only [go_sem, hb2, hb4, hb10, hb13]) <;> (repeat' with_reducible apply And.intro) <;> first | assumption | rfl | omega | (unfold maxLen; omega))⟩
          · rw [if_neg (Bool.eq_false_iff.1 hb13)] at h
            refine AW.skip ?_
            refine athen_n ?_
            refine AW.seq ?_
            refine AW.seq ?_
            refine AW.ops ?_
            refine AO.allF tab_ok (by decide) [(0, .sl Y1 h0), (1, .int .i64 moment), (6, .own 38), (7, .int .i64 st1.2), (8, .bp 8 0), (32, .bool (decide (moment < (h0.getD st1.2.toNat (0, 0, 0, 0, 0, 0)).2.2.2.2.2)))] [(8, .box 55 [.int .i64 (h0.getD st1.2.toNat (0, 0, 0, 0, 0, 0)).1, .int .i64 (h0.getD st1.2.toNat (0, 0, 0, 0, 0, 0)).2.1, .int .i64 (h0.getD st1.2.toNat (0, 0, 0, 0, 0, 0)).2.2.1, .int .i64 (h0.getD st1.2.toNat (0, 0, 0, 0, 0, 0)).2.2.2.1, .int .i64 (h0.getD st1.2.toNat (0, 0, 0, 0, 0, 0)).2.2.2.2.1, .int .i64 (h0.getD st1.2.toNat (0, 0, 0, 0, 0, 0)).2.2.2.2.2]), (38, .arr 55 Y1 st1.1)] (by (simp only [go_sem, hb2, hb4, hb10, hb13]) <;> (repeat' with_reducible apply And.intro) <;> first | assumption | rfl | omega | (unfold maxLen; omega)) ?_
            refine athen_n ?_
            refine AW.cond (b := (decide (moment < (h0.getD st1.2.toNat (0, 0, 0, 0, 0, 0)).2.2.2.2.2))) rfl (fun hb15 => ?_) (fun hb15 => ?_)
            · rw [if_pos hb15] at h
              refine AW.ops ?_
              refine AO.allF tab_ok (by decide) [(0, .sl Y1 h0), (1, .int .i64 moment), (6, .own 38), (7, .int .i64 st1.2), (8, .bp 8 0)] [(8, .box 55 [.int .i64 (h0.getD st1.2.toNat (0, 0, 0, 0, 0, 0)).1, .int .i64 (h0.getD st1.2.toNat (0, 0, 0, 0, 0, 0)).2.1, .int .i64 (h0.getD st1.2.toNat (0, 0, 0, 0, 0, 0)).2.2.1, .int .i64 0, .int .i64 (h0.getD st1.2.toNat (0, 0, 0, 0, 0, 0)).2.2.2.2.1, .int .i64 0]), (38, .arr 55 Y1 st1.1)] (by (simp only [go_sem, hb2, hb4, hb10, hb13, hb15]) <;> (repeat' with_reducible apply And.intro) <;> first | assumption | rfl | omega | (unfold maxLen; omega)) ?_
              refine athen_n ?_
              refine AW.ops ?_
              obtain ⟨c16, h⟩ := ck_some.1 h
              refine AO.allF tab_ok (by decide) [(0, .sl Y1 h0), (1, .int .i64 moment), (6, .own 38), (7, .int .i64 st1.2)] [(38, .arr 55 Y1 (st1.1 ++ [((h0.getD st1.2.toNat (0, 0, 0, 0, 0, 0)).1, (h0.getD st1.2.toNat (0, 0, 0, 0, 0, 0)).2.1, (h0.getD st1.2.toNat (0, 0, 0, 0, 0, 0)).2.2.1, 0, (h0.getD st1.2.toNat (0, 0, 0, 0, 0, 0)).2.2.2.2.1, 0)]))] (by (simp only [go_sem, hb2, hb4, hb10, hb13, hb15]) <;> (repeat' with_reducible apply And.intro) <;> first | assumption | rfl | omega | (unfold maxLen; omega)) ?_
              refine ablock_n ?_
              refine athen_n ?_
              refine AW.ops ?_
              obtain ⟨c17, h⟩ := ck_some.1 h
              refine AO.allF tab_ok (by decide) [(0, .sl Y1 h0), (1, .int .i64 moment), (6, .own 38), (7, .int .i64 (st1.2 + 1))] [(38, .arr 55 Y1 (st1.1 ++ [((h0.getD st1.2.toNat (0, 0, 0, 0, 0, 0)).1, (h0.getD st1.2.toNat (0, 0, 0, 0, 0, 0)).2.1, (h0.getD st1.2.toNat (0, 0, 0, 0, 0, 0)).2.2.1, 0, (h0.getD st1.2.toNat (0, 0, 0, 0, 0, 0)).2.2.2.2.1, 0)]))] (by (simp only [go_sem, hb2, hb4, hb10, hb13, hb15]) <;> (repeat' with_reducible apply And.intro) <;> first | assumption | rfl | omega | (unfold maxLen; omega)) ?_
              obtain rfl := Option.some.inj h
              exact ⟨_, rfl, Wk.le [] [] [] rfl (by (simp only [go_sem, hb2, hb4, hb10, hb13, hb15]) <;> (repeat' with_reducible apply And.intro) <;> first | assumption | rfl | omega | (unfold maxLen; omega)) (by (simp only [go_sem, hb2, hb4, hb10, hb13, hb15]) <;> (repeat' with_reducible apply And.intro) <;> first | assumption | rfl | omega | (unfold maxLen; omega))⟩
            · rw [if_neg (Bool.eq_false_iff.1 hb15)] at h
              refine AW.skip ?_
              refine athen_n ?_
              refine AW.ops ?_
              obtain ⟨c18, h⟩ := ck_some.1 h
              refine AO.allF tab_ok (by decide) [(0, .sl Y1 h0), (1, .int .i64 moment), (6, .own 38), (7, .int .i64 st1.2)] [(38, .arr 55 Y1 (st1.1 ++ [(h0.getD st1.2.toNat (0, 0, 0, 0, 0, 0))]))] (by (simp only [go_sem, hb2, hb4, hb10, hb13, hb15]) <;> (repeat' with_reducible apply And.intro) <;> first | assumption | rfl | omega | (unfold maxLen; omega)) ?_
              refine ablock_n ?_
              refine athen_n ?_
              refine AW.ops ?_
              obtain ⟨c19, h⟩ := ck_some.1 h
              refine AO.allF tab_ok (by decide) [(0, .sl Y1 h0), (1, .int .i64 moment), (6, .own 38), (7, .int .i64 (st1.2 + 1))] [(38, .arr 55 Y1 (st1.1 ++ [(h0.getD st1.2.toNat (0, 0, 0, 0, 0, 0))]))] (by (simp only [go_sem, hb2, hb4, hb10, hb13, hb15]) <;> (repeat' with_reducible apply And.intro) <;> first | assumption | rfl | omega | (unfold maxLen; omega)) ?_
              obtain rfl := Option.some.inj h
              exact ⟨_, rfl, Wk.le [] [] [] rfl (by (simp only [go_sem, hb2, hb4, hb10, hb13, hb15]) <;> (repeat' with_reducible apply And.intro) <;> first | assumption | rfl | omega | (unfold maxLen; omega)) (by (simp only [go_sem, hb2, hb4, hb10, hb13, hb15]) <;> (repeat' with_reducible apply And.intro) <;> first | assumption | rfl | omega | (unfold maxLen; omega))⟩
        · rw [if_neg (Bool.eq_false_iff.1 hb10)] at h
          refine AW.exit ?_
          refine athen_e ?_
          obtain rfl := Option.some.inj h
          rw [← hd7 _ rfl] at ho6
          have h := ho6
          refine athen_e ?_
          refine ablock_s ?_
          refine athen_n ?_
          exact AW.weaken (Wk.le [] [] [] rfl (by (simp only [go_sem, hb2, hb4, hb10]) <;> (repeat' with_reducible apply And.intro) <;> first | assumption | rfl | omega | (unfold maxLen; omega)) (by (simp only [go_sem, hb2, hb4, hb10]) <;> (repeat' with_reducible apply And.intro) <;> first | assumption | rfl | omega | (unfold maxLen; omega))) (hk_linealref02_Until_k1 _ h)

set_option maxRecDepth 100000 in
set_option maxHeartbeats 2000000 in
theorem hc_lineallaw02_HistoryParts (h0 : List (Int × Int × Int × Int × Int × Int)) (n : Int) (moment : Int) {r : Bool} (h : lineallaw02_HistoryParts h0 n moment = some r) : HC Try.prog 7 [] [.sl Y1 h0, .int .i64 n, .int .i64 moment] [] (.bool r) := by
  unfold lineallaw02_HistoryParts at h
  refine HC.of_body tab_ok (res := [.tmp 6]) Try.func7 rfl (by kernel_rfl) rfl (nt := 84) rfl (by decide) (by simp) ?_
  refine AW.seq ?_
  refine AW.ops ?_
  refine AO.allF tab_ok (by decide) [(0, .sl Y1 h0), (1, .int .i64 n), (2, .int .i64 moment)] [] (by (simp only [go_sem]) <;> (repeat' with_reducible apply And.intro) <;> first | assumption | rfl | omega | (unfold maxLen; omega)) ?_
  refine athen_n ?_
  refine AW.seq ?_
  refine AW.seq ?_
  refine AW.ops ?_
  refine AO.segF tab_ok 1 (by decide) [(0, .sl Y1 h0), (1, .int .i64 n), (2, .int .i64 moment), (15, .sl Y1 h0)] [] (by (simp only [go_sem]) <;> (repeat' with_reducible apply And.intro) <;> first | assumption | rfl | omega | (unfold maxLen; omega)) ?_
  obtain ⟨v0, hv1, h⟩ := Option.bind_eq_some_iff.1 h
  refine AO.call tab_ok (by decide) rfl rfl rfl (fun _ h => h) [] [] (hc_lineallaw02_Long h0 hv1) rfl (by (simp only [go_sem]) <;> (repeat' with_reducible apply And.intro) <;> first | assumption | rfl | omega | (unfold maxLen; omega)) (by (simp only [go_sem]) <;> (repeat' with_reducible apply And.intro) <;> first | assumption | rfl | omega | (unfold maxLen; omega)) [(0, .sl Y1 h0), (1, .int .i64 n), (2, .int .i64 moment), (16, .bool (decide (40 < (h0.length : Int))))] [] (by (simp only [go_sem]) <;> (repeat' with_reducible apply And.intro) <;> first | assumption | rfl | omega | (unfold maxLen; omega)) ?_
  refine AO.allF tab_ok (by decide) [(0, .sl Y1 h0), (1, .int .i64 n), (2, .int .i64 moment), (16, .bool (decide (40 < (h0.length : Int))))] [] (by (simp only [go_sem]) <;> (repeat' with_reducible apply And.intro) <;> first | assumption | rfl | omega | (unfold maxLen; omega)) ?_
  refine athen_n ?_
  refine AW.cond (b := (decide (40 < (h0.length : Int)))) rfl (fun hb2 => ?_) (fun hb2 => ?_)
  · rw [if_pos hb2] at h
    refine AW.seq ?_
    refine AW.ops ?_
    obtain ⟨v0_2, hv3, h⟩ := Option.bind_eq_some_iff.1 h
    refine AO.call tab_ok (by decide) rfl rfl rfl (fun _ h => h) [] [] (hc_lineallaw02_Sane hv3) rfl (by (simp only [go_sem, hb2]) <;> (repeat' with_reducible apply And.intro) <;> first | assumption | rfl | omega | (unfold maxLen; omega)) (by (simp only [go_sem, hb2]) <;> (repeat' with_reducible apply And.intro) <;> first | assumption | rfl | omega | (unfold maxLen; omega)) [(17, .bool v0_2)] [] (by (simp only [go_sem, hb2]) <;> (repeat' with_reducible apply And.intro) <;> first | assumption | rfl | omega | (unfold maxLen; omega)) ?_
    refine AO.allF tab_ok (by decide) [(6, .bool v0_2)] [] (by (simp only [go_sem, hb2]) <;> (repeat' with_reducible apply And.intro) <;> first | assumption | rfl | omega | (unfold maxLen; omega)) ?_
    refine athen_n ?_
    refine AW.ret ?_
    refine athen_r ?_
    obtain rfl := Option.some.inj h
    exact ⟨rfl, [], [], [], rfl, (by (simp only [go_sem, hb2]) <;> (repeat' with_reducible apply And.intro) <;> first | assumption | rfl | omega | (unfold maxLen; omega))⟩
  · rw [if_neg (Bool.eq_false_iff.1 hb2)] at h
    refine AW.skip ?_
    refine athen_n ?_
    refine AW.seq ?_
    refine AW.ops ?_
    refine AO.segF tab_ok 2 (by decide) [(0, .sl Y1 h0), (1, .int .i64 n), (2, .int .i64 moment), (19, .sl Y1 h0), (20, .int .i64 n)] [] (by (simp only [go_sem, hb2]) <;> (repeat' with_reducible apply And.intro) <;> first | assumption | rfl | omega | (unfold maxLen; omega)) ?_
    obtain ⟨v0_3, hv4, h⟩ := Option.bind_eq_some_iff.1 h
    refine AO.call tab_ok (by decide) rfl rfl rfl (fun _ h => h) [] [] (hc_history_Of h0 n hv4) rfl (by (simp only [go_sem, hb2]) <;> (repeat' with_reducible apply And.intro) <;> first | assumption | rfl | omega | (unfold maxLen; omega)) (by (simp only [go_sem, hb2]) <;> (repeat' with_reducible apply And.intro) <;> first | assumption | rfl | omega | (unfold maxLen; omega)) [(0, .sl Y1 h0), (1, .int .i64 n), (2, .int .i64 moment), (21, .tup [.own 31000, .int .i64 v0_3.2])] [(31000, .arr 55 Y1 v0_3.1)] (by (simp only [go_sem, hb2]) <;> (repeat' with_reducible apply And.intro) <;> first | assumption | rfl | omega | (unfold maxLen; omega)) ?_
    refine AO.allF tab_ok (by decide) [(0, .sl Y1 h0), (1, .int .i64 n), (2, .int .i64 moment), (7, .own 31000), (8, .int .i64 v0_3.2)] [(31000, .arr 55 Y1 v0_3.1)] (by (simp only [go_sem, hb2]) <;> (repeat' with_reducible apply And.intro) <;> first | assumption | rfl | omega | (unfold maxLen; omega)) ?_
    refine athen_n ?_
    refine AW.seq ?_
    refine AW.ops ?_
    refine AO.segF tab_ok 2 (by decide) [(0, .sl Y1 h0), (1, .int .i64 n), (2, .int .i64 moment), (7, .own 31000), (8, .int .i64 v0_3.2), (25, .sl Y1 h0), (26, .int .i64 n)] [(31000, .arr 55 Y1 v0_3.1)] (by (simp only [go_sem, hb2]) <;> (repeat' with_reducible apply And.intro) <;> first | assumption | rfl | omega | (unfold maxLen; omega)) ?_
    obtain ⟨v0_4, hv5, h⟩ := Option.bind_eq_some_iff.1 h
    refine AO.call tab_ok (by decide) rfl rfl rfl (fun _ h => h) [] [] (hc_linealref02_Of h0 n hv5) rfl (by (simp only [go_sem, hb2]) <;> (repeat' with_reducible apply And.intro) <;> first | assumption | rfl | omega | (unfold maxLen; omega)) (by (simp only [go_sem, hb2]) <;> (repeat' with_reducible apply And.intro) <;> first | assumption | rfl | omega | (unfold maxLen; omega)) [(0, .sl Y1 h0), (1, .int .i64 n), (2, .int .i64 moment), (7, .own 31000), (8, .int .i64 v0_3.2), (27, .tup [.own 37000, .int .i64 v0_4.2])] [(31000, .arr 55 Y1 v0_3.1), (37000, .arr 55 Y1 v0_4.1)] (by (simp only [go_sem, hb2]) <;> (repeat' with_reducible apply And.intro) <;> first | assumption | rfl | omega | (unfold maxLen; omega)) ?_
    refine AO.allF tab_ok (by decide) [(0, .sl Y1 h0), (1, .int .i64 n), (2, .int .i64 moment), (7, .own 31000), (8, .int .i64 v0_3.2), (9, .own 37000), (10, .int .i64 v0_4.2)] [(31000, .arr 55 Y1 v0_3.1), (37000, .arr 55 Y1 v0_4.1)] (by (simp only [go_sem, hb2]) <;> (repeat' with_reducible apply And.intro) <;> first | assumption | rfl | omega | (unfold maxLen; omega)) ?_
    refine athen_n ?_
    refine AW.seq ?_
    refine AW.seq ?_
    refine AW.ops ?_
    refine AO.segF tab_ok 2 (by decide) [(0, .sl Y1 h0), (1, .int .i64 n), (2, .int .i64 moment), (8, .int .i64 v0_3.2), (10, .int .i64 v0_4.2), (30, .own 31000), (31, .own 37000)] [(31000, .arr 55 Y1 v0_3.1), (37000, .arr 55 Y1 v0_4.1)] (by (simp only [go_sem, hb2]) <;> (repeat' with_reducible apply And.intro) <;> first | assumption | rfl | omega | (unfold maxLen; omega)) ?_
    obtain ⟨v0_5, hv6, h⟩ := Option.bind_eq_some_iff.1 h
    refine AO.call tab_ok (by decide) rfl rfl rfl (fun _ h => h) [31000, 37000] [] (hc_linealref02_Same v0_3.1 v0_4.1 hv6) rfl (by (simp only [go_sem, hb2]) <;> (repeat' with_reducible apply And.intro) <;> first | assumption | rfl | omega | (unfold maxLen; omega)) (by (simp only [go_sem, hb2]) <;> (repeat' with_reducible apply And.intro) <;> first | assumption | rfl | omega | (unfold maxLen; omega)) [(0, .sl Y1 h0), (1, .int .i64 n), (2, .int .i64 moment), (8, .int .i64 v0_3.2), (10, .int .i64 v0_4.2), (32, .bool v0_5)] [] (by (simp only [go_sem, hb2]) <;> (repeat' with_reducible apply And.intro) <;> first | assumption | rfl | omega | (unfold maxLen; omega)) ?_
    refine AO.segF tab_ok 2 (by decide) [(0, .sl Y1 h0), (1, .int .i64 n), (2, .int .i64 moment), (8, .int .i64 v0_3.2), (10, .int .i64 v0_4.2), (34, .bool (!v0_5))] [] (by (simp only [go_sem, hb2]) <;> (repeat' with_reducible apply And.intro) <;> first | assumption | rfl | omega | (unfold maxLen; omega)) ?_
    rcases Bool.eq_false_or_eq_true (!v0_5) with hb7 | hb7
    · rw [if_pos hb7] at h
      refine AO.weaken (s' := ⟨fr [(0, .sl Y1 h0), (1, .int .i64 n), (2, .int .i64 moment), (8, .int .i64 v0_3.2), (10, .int .i64 v0_4.2), (34, .bool true)], hpGet [], gt⟩) (Wk.to (by (simp only [go_sem, hb2, hb7]) <;> (repeat' with_reducible apply And.intro) <;> first | assumption | rfl | omega | (unfold maxLen; omega))) ?_
      refine AO.allF tab_ok (by decide) [(0, .sl Y1 h0), (1, .int .i64 n), (2, .int .i64 moment), (38, .bool true)] [] (by (simp only [go_sem, hb2, hb7]) <;> (repeat' with_reducible apply And.intro) <;> first | assumption | rfl | omega | (unfold maxLen; omega)) ?_
      refine athen_n ?_
      refine AW.cond (b := true) rfl (fun _ => ?_) (fun hb8 => by cases hb8)
      refine AW.seq ?_
      refine AW.ops ?_
      refine AO.allF tab_ok (by decide) [(6, .bool false)] [] (by (simp only [go_sem, hb2, hb7]) <;> (repeat' with_reducible apply And.intro) <;> first | assumption | rfl | omega | (unfold maxLen; omega)) ?_
      refine athen_n ?_
      refine AW.ret ?_
      refine athen_r ?_
      obtain rfl := Option.some.inj h
      exact ⟨rfl, [], [], [], rfl, (by (simp only [go_sem, hb2, hb7]) <;> (repeat' with_reducible apply And.intro) <;> first | assumption | rfl | omega | (unfold maxLen; omega))⟩
    · rw [if_neg (Bool.eq_false_iff.1 hb7)] at h
      refine AO.weaken (s' := ⟨fr [(0, .sl Y1 h0), (1, .int .i64 n), (2, .int .i64 moment), (8, .int .i64 v0_3.2), (10, .int .i64 v0_4.2), (34, .bool false)], hpGet [], gt⟩) (Wk.to (by (simp only [go_sem, hb2, hb7]) <;> (repeat' with_reducible apply And.intro) <;> first | assumption | rfl | omega | (unfold maxLen; omega))) ?_
      refine AO.allF tab_ok (by decide) [(0, .sl Y1 h0), (1, .int .i64 n), (2, .int .i64 moment), (38, .bool (!(decide (v0_3.2 = v0_4.2))))] [] (by (simp only [go_sem, hb2, hb7]) <;> (repeat' with_reducible apply And.intro) <;> first | assumption | rfl | omega | (unfold maxLen; omega)) ?_
      refine athen_n ?_
      refine AW.cond (b := (!(decide (v0_3.2 = v0_4.2)))) rfl (fun hb9 => ?_) (fun hb9 => ?_)
      · rw [if_pos hb9] at h
        refine AW.seq ?_
        refine AW.ops ?_
        refine AO.allF tab_ok (by decide) [(6, .bool false)] [] (by (simp only [go_sem, hb2, hb7, hb9]) <;> (repeat' with_reducible apply And.intro) <;> first | assumption | rfl | omega | (unfold maxLen; omega)) ?_
        refine athen_n ?_
        refine AW.ret ?_
        refine athen_r ?_
        obtain rfl := Option.some.inj h
        exact ⟨rfl, [], [], [], rfl, (by (simp only [go_sem, hb2, hb7, hb9]) <;> (repeat' with_reducible apply And.intro) <;> first | assumption | rfl | omega | (unfold maxLen; omega))⟩
      · rw [if_neg (Bool.eq_false_iff.1 hb9)] at h
        refine AW.skip ?_
        refine athen_n ?_
        refine AW.seq ?_
        refine AW.ops ?_
        refine AO.segF tab_ok 2 (by decide) [(0, .sl Y1 h0), (1, .int .i64 n), (2, .int .i64 moment), (40, .sl Y1 h0), (41, .int .i64 n)] [] (by (simp only [go_sem, hb2, hb7, hb9]) <;> (repeat' with_reducible apply And.intro) <;> first | assumption | rfl | omega | (unfold maxLen; omega)) ?_
        obtain ⟨v0_6, hv10, h⟩ := Option.bind_eq_some_iff.1 h
        refine AO.call tab_ok (by decide) rfl rfl rfl (fun _ h => h) [] [] (hc_history_By h0 n hv10) rfl (by (simp only [go_sem, hb2, hb7, hb9]) <;> (repeat' with_reducible apply And.intro) <;> first | assumption | rfl | omega | (unfold maxLen; omega)) (by (simp only [go_sem, hb2, hb7, hb9]) <;> (repeat' with_reducible apply And.intro) <;> first | assumption | rfl | omega | (unfold maxLen; omega)) [(0, .sl Y1 h0), (1, .int .i64 n), (2, .int .i64 moment), (42, .tup [.own 52000, .int .i64 v0_6.2])] [(52000, .arr 55 Y1 v0_6.1)] (by (simp only [go_sem, hb2, hb7, hb9]) <;> (repeat' with_reducible apply And.intro) <;> first | assumption | rfl | omega | (unfold maxLen; omega)) ?_
        refine AO.allF tab_ok (by decide) [(0, .sl Y1 h0), (1, .int .i64 n), (2, .int .i64 moment), (7, .own 52000), (8, .int .i64 v0_6.2)] [(52000, .arr 55 Y1 v0_6.1)] (by (simp only [go_sem, hb2, hb7, hb9]) <;> (repeat' with_reducible apply And.intro) <;> first | assumption | rfl | omega | (unfold maxLen; omega)) ?_
        refine athen_n ?_
        refine AW.seq ?_
        refine AW.ops ?_
        refine AO.segF tab_ok 2 (by decide) [(0, .sl Y1 h0), (2, .int .i64 moment), (7, .own 52000), (8, .int .i64 v0_6.2), (46, .sl Y1 h0), (47, .int .i64 n)] [(52000, .arr 55 Y1 v0_6.1)] (by (simp only [go_sem, hb2, hb7, hb9]) <;> (repeat' with_reducible apply And.intro) <;> first | assumption | rfl | omega | (unfold maxLen; omega)) ?_
        obtain ⟨v0_7, hv11, h⟩ := Option.bind_eq_some_iff.1 h
        refine AO.call tab_ok (by decide) rfl rfl rfl (fun _ h => h) [] [] (hc_linealref02_By h0 n hv11) rfl (by (simp only [go_sem, hb2, hb7, hb9]) <;> (repeat' with_reducible apply And.intro) <;> first | assumption | rfl | omega | (unfold maxLen; omega)) (by (simp only [go_sem, hb2, hb7, hb9]) <;> (repeat' with_reducible apply And.intro) <;> first | assumption | rfl | omega | (unfold maxLen; omega)) [(0, .sl Y1 h0), (2, .int .i64 moment), (7, .own 52000), (8, .int .i64 v0_6.2), (48, .tup [.own 58000, .int .i64 v0_7.2])] [(52000, .arr 55 Y1 v0_6.1), (58000, .arr 55 Y1 v0_7.1)] (by (simp only [go_sem, hb2, hb7, hb9]) <;> (repeat' with_reducible apply And.intro) <;> first | assumption | rfl | omega | (unfold maxLen; omega)) ?_
        refine AO.allF tab_ok (by decide) [(0, .sl Y1 h0), (2, .int .i64 moment), (7, .own 52000), (8, .int .i64 v0_6.2), (9, .own 58000), (10, .int .i64 v0_7.2)] [(52000, .arr 55 Y1 v0_6.1), (58000, .arr 55 Y1 v0_7.1)] (by (simp only [go_sem, hb2, hb7, hb9]) <;> (repeat' with_reducible apply And.intro) <;> first | assumption | rfl | omega | (unfold maxLen; omega)) ?_
        refine athen_n ?_
        refine AW.seq ?_
        refine AW.ops ?_
        refine AO.segF tab_ok 2 (by decide) [(0, .sl Y1 h0), (2, .int .i64 moment), (7, .own 52000), (8, .int .i64 v0_6.2), (9, .own 58000), (10, .int .i64 v0_7.2), (52, .sl Y1 h0), (53, .int .i64 moment)] [(52000, .arr 55 Y1 v0_6.1), (58000, .arr 55 Y1 v0_7.1)] (by (simp only [go_sem, hb2, hb7, hb9]) <;> (repeat' with_reducible apply And.intro) <;> first | assumption | rfl | omega | (unfold maxLen; omega)) ?_
        obtain ⟨v0_8, hv12, h⟩ := Option.bind_eq_some_iff.1 h
        refine AO.call tab_ok (by decide) rfl rfl rfl (fun _ h => h) [] [] (hc_history_Until h0 moment hv12) rfl (by (simp only [go_sem, hb2, hb7, hb9]) <;> (repeat' with_reducible apply And.intro) <;> first | assumption | rfl | omega | (unfold maxLen; omega)) (by (simp only [go_sem, hb2, hb7, hb9]) <;> (repeat' with_reducible apply And.intro) <;> first | assumption | rfl | omega | (unfold maxLen; omega)) [(0, .sl Y1 h0), (2, .int .i64 moment), (7, .own 52000), (8, .int .i64 v0_6.2), (9, .own 58000), (10, .int .i64 v0_7.2), (54, .tup [.own 64000, .int .i64 v0_8.2])] [(52000, .arr 55 Y1 v0_6.1), (58000, .arr 55 Y1 v0_7.1), (64000, .arr 55 Y1 v0_8.1)] (by (simp only [go_sem, hb2, hb7, hb9]) <;> (repeat' with_reducible apply And.intro) <;> first | assumption | rfl | omega | (unfold maxLen; omega)) ?_
        refine AO.allF tab_ok (by decide) [(0, .sl Y1 h0), (2, .int .i64 moment), (7, .own 52000), (8, .int .i64 v0_6.2), (9, .own 58000), (10, .int .i64 v0_7.2), (11, .own 64000), (12, .int .i64 v0_8.2)] [(52000, .arr 55 Y1 v0_6.1), (58000, .arr 55 Y1 v0_7.1), (64000, .arr 55 Y1 v0_8.1)] (by (simp only [go_sem, hb2, hb7, hb9]) <;> (repeat' with_reducible apply And.intro) <;> first | assumption | rfl | omega | (unfold maxLen; omega)) ?_
        refine athen_n ?_
        refine AW.seq ?_
        refine AW.ops ?_
        refine AO.segF tab_ok 2 (by decide) [(7, .own 52000), (8, .int .i64 v0_6.2), (9, .own 58000), (10, .int .i64 v0_7.2), (11, .own 64000), (12, .int .i64 v0_8.2), (58, .sl Y1 h0), (59, .int .i64 moment)] [(52000, .arr 55 Y1 v0_6.1), (58000, .arr 55 Y1 v0_7.1), (64000, .arr 55 Y1 v0_8.1)] (by (simp only [go_sem, hb2, hb7, hb9]) <;> (repeat' with_reducible apply And.intro) <;> first | assumption | rfl | omega | (unfold maxLen; omega)) ?_
        obtain ⟨v0_9, hv13, h⟩ := Option.bind_eq_some_iff.1 h
        refine AO.call tab_ok (by decide) rfl rfl rfl (fun _ h => h) [] [] (hc_linealref02_Until h0 moment hv13) rfl (by (simp only [go_sem, hb2, hb7, hb9]) <;> (repeat' with_reducible apply And.intro) <;> first | assumption | rfl | omega | (unfold maxLen; omega)) (by (simp only [go_sem, hb2, hb7, hb9]) <;> (repeat' with_reducible apply And.intro) <;> first | assumption | rfl | omega | (unfold maxLen; omega)) [(7, .own 52000), (8, .int .i64 v0_6.2), (9, .own 58000), (10, .int .i64 v0_7.2), (11, .own 64000), (12, .int .i64 v0_8.2), (60, .tup [.own 70000, .int .i64 v0_9.2])] [(52000, .arr 55 Y1 v0_6.1), (58000, .arr 55 Y1 v0_7.1), (64000, .arr 55 Y1 v0_8.1), (70000, .arr 55 Y1 v0_9.1)] (by (simp only [go_sem, hb2, hb7, hb9]) <;> (repeat' with_reducible apply And.intro) <;> first | assumption | rfl | omega | (unfold maxLen; omega)) ?_
        refine AO.allF tab_ok (by decide) [(7, .own 52000), (8, .int .i64 v0_6.2), (9, .own 58000), (10, .int .i64 v0_7.2), (11, .own 64000), (12, .int .i64 v0_8.2), (13, .own 70000), (14, .int .i64 v0_9.2)] [(52000, .arr 55 Y1 v0_6.1), (58000, .arr 55 Y1 v0_7.1), (64000, .arr 55 Y1 v0_8.1), (70000, .arr 55 Y1 v0_9.1)] (by (simp only [go_sem, hb2, hb7, hb9]) <;> (repeat' with_reducible apply And.intro) <;> first | assumption | rfl | omega | (unfold maxLen; omega)) ?_
        refine athen_n ?_
        refine AW.seq ?_
        refine AW.ops ?_
        refine AO.segF tab_ok 2 (by decide) [(8, .int .i64 v0_6.2), (10, .int .i64 v0_7.2), (11, .own 64000), (12, .int .i64 v0_8.2), (13, .own 70000), (14, .int .i64 v0_9.2), (63, .own 52000), (64, .own 58000)] [(52000, .arr 55 Y1 v0_6.1), (58000, .arr 55 Y1 v0_7.1), (64000, .arr 55 Y1 v0_8.1), (70000, .arr 55 Y1 v0_9.1)] (by (simp only [go_sem, hb2, hb7, hb9]) <;> (repeat' with_reducible apply And.intro) <;> first | assumption | rfl | omega | (unfold maxLen; omega)) ?_
        obtain ⟨v0_10, hv14, h⟩ := Option.bind_eq_some_iff.1 h
        refine AO.call tab_ok (by decide) rfl rfl rfl (fun _ h => h) [52000, 58000] [] (hc_linealref02_Same v0_6.1 v0_7.1 hv14) rfl (by (simp only [go_sem, hb2, hb7, hb9]) <;> (repeat' with_reducible apply And.intro) <;> first | assumption | rfl | omega | (unfold maxLen; omega)) (by (simp only [go_sem, hb2, hb7, hb9]) <;> (repeat' with_reducible apply And.intro) <;> first | assumption | rfl | omega | (unfold maxLen; omega)) [(8, .int .i64 v0_6.2), (10, .int .i64 v0_7.2), (11, .own 64000), (12, .int .i64 v0_8.2), (13, .own 70000), (14, .int .i64 v0_9.2), (65, .bool v0_10)] [(64000, .arr 55 Y1 v0_8.1), (70000, .arr 55 Y1 v0_9.1)] (by (simp only [go_sem, hb2, hb7, hb9]) <;> (repeat' with_reducible apply And.intro) <;> first | assumption | rfl | omega | (unfold maxLen; omega)) ?_
        refine AO.segF tab_ok 1 (by decide) [(8, .int .i64 v0_6.2), (10, .int .i64 v0_7.2), (11, .own 64000), (12, .int .i64 v0_8.2), (13, .own 70000), (14, .int .i64 v0_9.2), (66, .bool v0_10)] [(64000, .arr 55 Y1 v0_8.1), (70000, .arr 55 Y1 v0_9.1)] (by (simp only [go_sem, hb2, hb7, hb9]) <;> (repeat' with_reducible apply And.intro) <;> first | assumption | rfl | omega | (unfold maxLen; omega)) ?_
        rcases Bool.eq_false_or_eq_true v0_10 with hb15 | hb15
        · rw [if_pos hb15] at h
          refine AO.weaken (s' := ⟨fr [(8, .int .i64 v0_6.2), (10, .int .i64 v0_7.2), (11, .own 64000), (12, .int .i64 v0_8.2), (13, .own 70000), (14, .int .i64 v0_9.2), (66, .bool true)], hpGet [(64000, .arr 55 Y1 v0_8.1), (70000, .arr 55 Y1 v0_9.1)], gt⟩) (Wk.to (by (simp only [go_sem, hb2, hb7, hb9, hb15]) <;> (repeat' with_reducible apply And.intro) <;> first | assumption | rfl | omega | (unfold maxLen; omega))) ?_
          refine AO.segF tab_ok 5 (by decide) [(11, .own 64000), (12, .int .i64 v0_8.2), (13, .own 70000), (14, .int .i64 v0_9.2), (71, .bool (decide (v0_6.2 = v0_7.2)))] [(64000, .arr 55 Y1 v0_8.1), (70000, .arr 55 Y1 v0_9.1)] (by (simp only [go_sem, hb2, hb7, hb9, hb15]) <;> (repeat' with_reducible apply And.intro) <;> first | assumption | rfl | omega | (unfold maxLen; omega)) ?_
          rcases Bool.eq_false_or_eq_true (decide (v0_6.2 = v0_7.2)) with hb16 | hb16
          · rw [if_pos hb16] at h
            refine AO.weaken (s' := ⟨fr [(11, .own 64000), (12, .int .i64 v0_8.2), (13, .own 70000), (14, .int .i64 v0_9.2), (71, .bool true)], hpGet [(64000, .arr 55 Y1 v0_8.1), (70000, .arr 55 Y1 v0_9.1)], gt⟩) (Wk.to (by (simp only [go_sem, hb2, hb7, hb9, hb15, hb16]) <;> (repeat' with_reducible apply And.intro) <;> first | assumption | rfl | omega | (unfold maxLen; omega))) ?_
            refine AO.segF tab_ok 2 (by decide) [(12, .int .i64 v0_8.2), (14, .int .i64 v0_9.2), (71, .bool true), (72, .own 64000), (73, .own 70000)] [(64000, .arr 55 Y1 v0_8.1), (70000, .arr 55 Y1 v0_9.1)] (by (simp only [go_sem, hb2, hb7, hb9, hb15, hb16]) <;> (repeat' with_reducible apply And.intro) <;> first | assumption | rfl | omega | (unfold maxLen; omega)) ?_
            obtain ⟨v0_11, hv17, h⟩ := Option.bind_eq_some_iff.1 h
            refine AO.call tab_ok (by decide) rfl rfl rfl (fun _ h => ⟨fun _ => h, fun hn => absurd rfl hn⟩) [64000, 70000] [] (hc_linealref02_Same v0_8.1 v0_9.1 hv17) rfl (by (simp only [go_sem, hb2, hb7, hb9, hb15, hb16]) <;> (repeat' with_reducible apply And.intro) <;> first | assumption | rfl | omega | (unfold maxLen; omega)) (by (simp only [go_sem, hb2, hb7, hb9, hb15, hb16]) <;> (repeat' with_reducible apply And.intro) <;> first | assumption | rfl | omega | (unfold maxLen; omega)) [(12, .int .i64 v0_8.2), (14, .int .i64 v0_9.2), (71, .bool true), (74, .bool v0_11)] [] (by (simp only [go_sem, hb2, hb7, hb9, hb15, hb16]) <;> (repeat' with_reducible apply And.intro) <;> first | assumption | rfl | omega | (unfold maxLen; omega)) ?_
            refine AO.segF tab_ok 2 (by decide) [(12, .int .i64 v0_8.2), (14, .int .i64 v0_9.2), (76, .bool v0_11)] [] (by (simp only [go_sem, hb2, hb7, hb9, hb15, hb16]) <;> (repeat' with_reducible apply And.intro) <;> first | assumption | rfl | omega | (unfold maxLen; omega)) ?_
            rcases Bool.eq_false_or_eq_true v0_11 with hb18 | hb18
            · rw [if_pos hb18] at h
              refine AO.weaken (s' := ⟨fr [(12, .int .i64 v0_8.2), (14, .int .i64 v0_9.2), (76, .bool true)], hpGet [], gt⟩) (Wk.to (by (simp only [go_sem, hb2, hb7, hb9, hb15, hb16, hb18]) <;> (repeat' with_reducible apply And.intro) <;> first | assumption | rfl | omega | (unfold maxLen; omega))) ?_
              refine AO.segF tab_ok 5 (by decide) [(81, .bool (decide (v0_8.2 = v0_9.2)))] [] (by (simp only [go_sem, hb2, hb7, hb9, hb15, hb16, hb18]) <;> (repeat' with_reducible apply And.intro) <;> first | assumption | rfl | omega | (unfold maxLen; omega)) ?_
              rcases Bool.eq_false_or_eq_true (decide (v0_8.2 = v0_9.2)) with hb19 | hb19
              · rw [if_pos hb19] at h
                refine AO.weaken (s' := ⟨fr [(81, .bool true)], hpGet [], gt⟩) (Wk.to (by (simp only [go_sem, hb2, hb7, hb9, hb15, hb16, hb18, hb19]) <;> (repeat' with_reducible apply And.intro) <;> first | assumption | rfl | omega | (unfold maxLen; omega))) ?_
                obtain ⟨v0_12, hv20, h⟩ := Option.bind_eq_some_iff.1 h
                refine AO.call tab_ok (by decide) rfl rfl rfl (fun _ h => ⟨fun _ => h, fun hn => absurd rfl hn⟩) [] [] (hc_lineallaw02_Sane hv20) rfl (by (simp only [go_sem, hb2, hb7, hb9, hb15, hb16, hb18, hb19]) <;> (repeat' with_reducible apply And.intro) <;> first | assumption | rfl | omega | (unfold maxLen; omega)) (by (simp only [go_sem, hb2, hb7, hb9, hb15, hb16, hb18, hb19]) <;> (repeat' with_reducible apply And.intro) <;> first | assumption | rfl | omega | (unfold maxLen; omega)) [(81, .bool true), (82, .bool v0_12)] [] (by (simp only [go_sem, hb2, hb7, hb9, hb15, hb16, hb18, hb19]) <;> (repeat' with_reducible apply And.intro) <;> first | assumption | rfl | omega | (unfold maxLen; omega)) ?_
                refine AO.allF tab_ok (by decide) [(6, .bool v0_12)] [] (by (simp only [go_sem, hb2, hb7, hb9, hb15, hb16, hb18, hb19]) <;> (repeat' with_reducible apply And.intro) <;> first | assumption | rfl | omega | (unfold maxLen; omega)) ?_
                refine athen_n ?_
                refine AW.ret ?_
                obtain rfl := Option.some.inj h
                exact ⟨rfl, [], [], [], rfl, (by (simp only [go_sem, hb2, hb7, hb9, hb15, hb16, hb18, hb19]) <;> (repeat' with_reducible apply And.intro) <;> first | assumption | rfl | omega | (unfold maxLen; omega))⟩
              · rw [if_neg (Bool.eq_false_iff.1 hb19)] at h
                refine AO.weaken (s' := ⟨fr [(81, .bool false)], hpGet [], gt⟩) (Wk.to (by (simp only [go_sem, hb2, hb7, hb9, hb15, hb16, hb18, hb19]) <;> (repeat' with_reducible apply And.intro) <;> first | assumption | rfl | omega | (unfold maxLen; omega))) ?_
                refine AO.allF tab_ok (by decide) [(6, .bool false)] [] (by (simp only [go_sem, hb2, hb7, hb9, hb15, hb16, hb18, hb19]) <;> (repeat' with_reducible apply And.intro) <;> first | assumption | rfl | omega | (unfold maxLen; omega)) ?_
                refine athen_n ?_
                refine AW.ret ?_
                obtain rfl := Option.some.inj h
                exact ⟨rfl, [], [], [], rfl, (by (simp only [go_sem, hb2, hb7, hb9, hb15, hb16, hb18, hb19]) <;> (repeat' with_reducible apply And.intro) <;> first | assumption | rfl | omega | (unfold maxLen; omega))⟩
            · rw [if_neg (Bool.eq_false_iff.1 hb18)] at h
              refine AO.weaken (s' := ⟨fr [(12, .int .i64 v0_8.2), (14, .int .i64 v0_9.2), (76, .bool false)], hpGet [], gt⟩) (Wk.to (by (simp only [go_sem, hb2, hb7, hb9, hb15, hb16, hb18]) <;> (repeat' with_reducible apply And.intro) <;> first | assumption | rfl | omega | (unfold maxLen; omega))) ?_
              refine AO.segF tab_ok 6 (by decide) [(81, .bool false), (82, .cv (undef))] [] (by (simp only [go_sem, hb2, hb7, hb9, hb15, hb16, hb18]) <;> (repeat' with_reducible apply And.intro) <;> first | assumption | rfl | omega | (unfold maxLen; omega)) ?_
              refine AO.allF tab_ok (by decide) [(6, .bool false)] [] (by (simp only [go_sem, hb2, hb7, hb9, hb15, hb16, hb18]) <;> (repeat' with_reducible apply And.intro) <;> first | assumption | rfl | omega | (unfold maxLen; omega)) ?_
              refine athen_n ?_
              refine AW.ret ?_
              obtain rfl := Option.some.inj h
              exact ⟨rfl, [], [], [], rfl, (by (simp only [go_sem, hb2, hb7, hb9, hb15, hb16, hb18]) <;> (repeat' with_reducible apply And.intro) <;> first | assumption | rfl | omega | (unfold maxLen; omega))⟩
          · rw [if_neg (Bool.eq_false_iff.1 hb16)] at h
            refine AO.weaken (s' := ⟨fr [(11, .own 64000), (12, .int .i64 v0_8.2), (13, .own 70000), (14, .int .i64 v0_9.2), (71, .bool false)], hpGet [(64000, .arr 55 Y1 v0_8.1), (70000, .arr 55 Y1 v0_9.1)], gt⟩) (Wk.to (by (simp only [go_sem, hb2, hb7, hb9, hb15, hb16]) <;> (repeat' with_reducible apply And.intro) <;> first | assumption | rfl | omega | (unfold maxLen; omega))) ?_
            refine AO.segF tab_ok 6 (by decide) [(14, .int .i64 v0_9.2), (76, .bool false), (77, .cv (undef))] [] (by (simp only [go_sem, hb2, hb7, hb9, hb15, hb16]) <;> (repeat' with_reducible apply And.intro) <;> first | assumption | rfl | omega | (unfold maxLen; omega)) ?_
            refine AO.allF tab_ok (by decide) [(6, .bool false)] [] (by (simp only [go_sem, hb2, hb7, hb9, hb15, hb16]) <;> (repeat' with_reducible apply And.intro) <;> first | assumption | rfl | omega | (unfold maxLen; omega)) ?_
            refine athen_n ?_
            refine AW.ret ?_
            obtain rfl := Option.some.inj h
            exact ⟨rfl, [], [], [], rfl, (by (simp only [go_sem, hb2, hb7, hb9, hb15, hb16]) <;> (repeat' with_reducible apply And.intro) <;> first | assumption | rfl | omega | (unfold maxLen; omega))⟩
        · rw [if_neg (Bool.eq_false_iff.1 hb15)] at h
          refine AO.weaken (s' := ⟨fr [(8, .int .i64 v0_6.2), (10, .int .i64 v0_7.2), (11, .own 64000), (12, .int .i64 v0_8.2), (13, .own 70000), (14, .int .i64 v0_9.2), (66, .bool false)], hpGet [(64000, .arr 55 Y1 v0_8.1), (70000, .arr 55 Y1 v0_9.1)], gt⟩) (Wk.to (by (simp only [go_sem, hb2, hb7, hb9, hb15]) <;> (repeat' with_reducible apply And.intro) <;> first | assumption | rfl | omega | (unfold maxLen; omega))) ?_
          refine AO.segF tab_ok 6 (by decide) [(12, .int .i64 v0_8.2), (13, .own 70000), (14, .int .i64 v0_9.2), (71, .bool false), (72, .cv (undef))] [(70000, .arr 55 Y1 v0_9.1)] (by (simp only [go_sem, hb2, hb7, hb9, hb15]) <;> (repeat' with_reducible apply And.intro) <;> first | assumption | rfl | omega | (unfold maxLen; omega)) ?_
          refine AO.segF tab_ok 6 (by decide) [(76, .bool false), (77, .cv (undef)), (78, .cv (undef))] [] (by (simp only [go_sem, hb2, hb7, hb9, hb15]) <;> (repeat' with_reducible apply And.intro) <;> first | assumption | rfl | omega | (unfold maxLen; omega)) ?_
          refine AO.allF tab_ok (by decide) [(6, .bool false)] [] (by (simp only [go_sem, hb2, hb7, hb9, hb15]) <;> (repeat' with_reducible apply And.intro) <;> first | assumption | rfl | omega | (unfold maxLen; omega)) ?_
          refine athen_n ?_
          refine AW.ret ?_
          obtain rfl := Option.some.inj h
          exact ⟨rfl, [], [], [], rfl, (by (simp only [go_sem, hb2, hb7, hb9, hb15]) <;> (repeat' with_reducible apply And.intro) <;> first | assumption | rfl | omega | (unfold maxLen; omega))⟩

end Go.Proofs.Ytdkdkpenmgkdcaa
