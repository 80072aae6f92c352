/-
  Made by wip/tool/dc.py out of the print of the program: contracts.
-/
import Derived.Test.YtcijihofjcfpoabWp
import Derived.Test.YtcijihofjcfpoabTb3
import Derived.Test.YtcijihofjcfpoabXhc1
import Derived.Test.YtcijihofjcfpoabXhc3
import Derived.Test.YtcijihofjcfpoabXhc4
namespace Go.Proofs.Ytcijihofjcfpoab
open Go.RowKit

set_option linter.unusedSimpArgs false
set_option linter.unusedVariables false
set_option linter.constructorNameAsVariable false

set_option maxRecDepth 100000 in
set_option maxHeartbeats 2000000 in
theorem hc_weave_Turned (l : Int × (List (Int × Int))) (w : List Int) {r : (List Int) × Int} (h : weave_Turned l w = some r) : HC Try.prog 38 [] [.agg [.int .i64 l.1, .sl (.pair (.int .i64) (.int .i64)) l.2], .sl (.int .i64) w] [] (.tup [.sl (.int .i64) r.1, .int .i64 r.2]) := by
  unfold weave_Turned at h
  refine HC.of_body tab_ok (res := [.tmp 4, .tmp 5]) Try.func38 rfl (by kernel_rfl) rfl (nt := 26) rfl (by decide) (by simp) ?_
  refine AW.seq ?_
  refine AW.ops ?_
  refine AO.allF tab_ok (by decide) [(1, .sl (.int .i64) w), (2, .bp 2 0)] [(2, .box 24 [.int .i64 l.1, .sl (.pair (.int .i64) (.int .i64)) l.2])] (by (simp only [go_sem]) <;> (repeat' with_reducible apply And.intro) <;> first | assumption | rfl | omega | (unfold maxLen; omega)) ?_
  refine athen_n ?_
  refine AW.seq ?_
  refine AW.ops ?_
  refine AO.segF tab_ok 3 (by decide) [(1, .sl (.int .i64) w), (10, .agg [.int .i64 l.1, .sl (.pair (.int .i64) (.int .i64)) l.2]), (12, .own 12)] [(12, .arr 25 (.sl (.int .i64)) [w])] (by (simp only [go_sem]) <;> (repeat' with_reducible apply And.intro) <;> first | assumption | rfl | omega | (unfold maxLen; omega)) ?_
  obtain ⟨v0, hv1, h⟩ := Option.bind_eq_some_iff.1 h
  refine AO.call tab_ok (by decide) rfl rfl rfl (fun _ h => h) [12] [] (hc_weave_checked l [w] hv1) rfl (by (simp only [go_sem]) <;> (repeat' with_reducible apply And.intro) <;> first | assumption | rfl | omega | (unfold maxLen; omega)) (by (simp only [go_sem]) <;> (repeat' with_reducible apply And.intro) <;> first | assumption | rfl | omega | (unfold maxLen; omega)) [(1, .sl (.int .i64) w), (13, .tup [.agg (cellsX T59 v0.1), .int .i64 v0.2])] [] (by (simp only [go_sem]) <;> (repeat' with_reducible apply And.intro) <;> first | assumption | rfl | omega | (unfold maxLen; omega)) ?_
  refine AO.allF tab_ok (by decide) [(1, .sl (.int .i64) w), (6, .bp 6 0), (7, .int .i64 v0.2)] [(6, .box 59 (cellsX T59 v0.1))] (by (simp only [go_sem]) <;> (repeat' with_reducible apply And.intro) <;> first | assumption | rfl | omega | (unfold maxLen; omega)) ?_
  refine athen_n ?_
  refine AW.seq ?_
  refine AW.seq ?_
  refine AW.ops ?_
  refine AO.allF tab_ok (by decide) [(1, .sl (.int .i64) w), (6, .bp 6 0), (7, .int .i64 v0.2), (17, .bool (!(decide (v0.2 = 0))))] [(6, .box 59 (cellsX T59 v0.1))] (by (simp only [go_sem]) <;> (repeat' with_reducible apply And.intro) <;> first | assumption | rfl | omega | (unfold maxLen; omega)) ?_
  refine athen_n ?_
  refine AW.cond (b := (!(decide (v0.2 = 0)))) rfl (fun hb2 => ?_) (fun hb2 => ?_)
  · rw [if_pos hb2] at h
    refine AW.seq ?_
    refine AW.ops ?_
    refine AO.allF tab_ok (by decide) [(4, .cv (.slice none 0 0)), (5, .int .i64 v0.2)] [] (by (simp only [go_sem, hb2]) <;> (repeat' with_reducible apply And.intro) <;> first | assumption | rfl | omega | (unfold maxLen; omega)) ?_
    refine athen_n ?_
    refine AW.ret ?_
    refine athen_r ?_
    obtain rfl := Option.some.inj h
    exact ⟨rfl, [], [], [], rfl, (by (simp only [go_sem, hb2]) <;> (repeat' with_reducible apply And.intro) <;> first | assumption | rfl | omega | (unfold maxLen; omega))⟩
  · rw [if_neg (Bool.eq_false_iff.1 hb2)] at h
    refine AW.skip ?_
    refine athen_n ?_
    refine AW.seq ?_
    refine AW.ops ?_
    refine AO.segF tab_ok 1 (by decide) [(6, .bp 6 0), (19, .sl (.int .i64) w)] [(6, .box 59 (cellsX T59 v0.1))] (by (simp only [go_sem, hb2]) <;> (repeat' with_reducible apply And.intro) <;> first | assumption | rfl | omega | (unfold maxLen; omega)) ?_
    obtain ⟨v0_2, hv3, h⟩ := Option.bind_eq_some_iff.1 h
    refine AO.call tab_ok (by decide) rfl rfl rfl (fun _ h => h) [] [] (hc_slices_Clone w hv3) rfl (by (simp only [go_sem, hb2]) <;> (repeat' with_reducible apply And.intro) <;> first | assumption | rfl | omega | (unfold maxLen; omega)) (by (simp only [go_sem, hb2]) <;> (repeat' with_reducible apply And.intro) <;> first | assumption | rfl | omega | (unfold maxLen; omega)) [(6, .bp 6 0), (20, .own 30000)] [(6, .box 59 (cellsX T59 v0.1)), (30000, .arr 3 (.int .i64) v0_2)] (by (simp only [go_sem, hb2]) <;> (repeat' with_reducible apply And.intro) <;> first | assumption | rfl | omega | (unfold maxLen; omega)) ?_
    refine AO.allF tab_ok (by decide) [(6, .bp 6 0), (8, .own 30000)] [(6, .box 59 (cellsX T59 v0.1)), (30000, .arr 3 (.int .i64) v0_2)] (by (simp only [go_sem, hb2]) <;> (repeat' with_reducible apply And.intro) <;> first | assumption | rfl | omega | (unfold maxLen; omega)) ?_
    refine athen_n ?_
    refine AW.seq ?_
    refine AW.ops ?_
    refine AO.segF tab_ok 1 (by decide) [(6, .bp 6 0), (8, .own 30000), (21, .own 30000)] [(6, .box 59 (cellsX T59 v0.1)), (30000, .arr 3 (.int .i64) v0_2)] (by (simp only [go_sem, hb2]) <;> (repeat' with_reducible apply And.intro) <;> first | assumption | rfl | omega | (unfold maxLen; omega)) ?_
    obtain ⟨v0_3, hv4, h⟩ := Option.bind_eq_some_iff.1 h
    refine AO.call tab_ok (by decide) rfl rfl rfl (fun _ h => h) [] [(1000, 30000)] (hc_slices_Reverse v0_2 hv4) rfl (by (simp only [go_sem, hb2]) <;> (repeat' with_reducible apply And.intro) <;> first | assumption | rfl | omega | (unfold maxLen; omega)) (by (simp only [go_sem, hb2]) <;> (repeat' with_reducible apply And.intro) <;> first | assumption | rfl | omega | (unfold maxLen; omega)) [(6, .bp 6 0), (8, .own 30000)] [(6, .box 59 (cellsX T59 v0.1)), (30000, .arr 3 (.int .i64) v0_3)] (by (simp only [go_sem, hb2]) <;> (repeat' with_reducible apply And.intro) <;> first | assumption | rfl | omega | (unfold maxLen; omega)) ?_
    refine AO.allF tab_ok (by decide) [(6, .bp 6 0), (8, .own 30000)] [(6, .box 59 (cellsX T59 v0.1)), (30000, .arr 3 (.int .i64) v0_3)] (by (simp only [go_sem, hb2]) <;> (repeat' with_reducible apply And.intro) <;> first | assumption | rfl | omega | (unfold maxLen; omega)) ?_
    refine athen_n ?_
    refine AW.seq ?_
    refine AW.ops ?_
    refine AO.segF tab_ok 2 (by decide) [(23, .agg (cellsX T59 v0.1)), (24, .own 30000)] [(30000, .arr 3 (.int .i64) v0_3)] (by (simp only [go_sem, hb2]) <;> (repeat' with_reducible apply And.intro) <;> first | assumption | rfl | omega | (unfold maxLen; omega)) ?_
    obtain ⟨v0_4, hv5, h⟩ := Option.bind_eq_some_iff.1 h
    refine AO.call tab_ok (by decide) rfl rfl rfl (fun _ h => h) [30000] [] (hc_weave_ties_first v0.1 v0_3 hv5) rfl (by (simp only [go_sem, hb2]) <;> (repeat' with_reducible apply And.intro) <;> first | assumption | rfl | omega | (unfold maxLen; omega)) (by (simp only [go_sem, hb2]) <;> (repeat' with_reducible apply And.intro) <;> first | assumption | rfl | omega | (unfold maxLen; omega)) [(25, .sl (.int .i64) v0_4)] [] (by (simp only [go_sem, hb2]) <;> (repeat' with_reducible apply And.intro) <;> first | assumption | rfl | omega | (unfold maxLen; omega)) ?_
    refine AO.allF tab_ok (by decide) [(4, .sl (.int .i64) v0_4), (5, .int .i64 0)] [] (by (simp only [go_sem, hb2]) <;> (repeat' with_reducible apply And.intro) <;> first | assumption | rfl | omega | (unfold maxLen; omega)) ?_
    refine athen_n ?_
    refine AW.ret ?_
    obtain rfl := Option.some.inj h
    exact ⟨rfl, [], [], [], rfl, (by (simp only [go_sem, hb2]) <;> (repeat' with_reducible apply And.intro) <;> first | assumption | rfl | omega | (unfold maxLen; omega))⟩

set_option maxRecDepth 100000 in
set_option maxHeartbeats 2000000 in
theorem hc_lineallaw03_before (w : List Int) (v0 : List Int) {r : Bool} (h : lineallaw03_before w v0 = some r) : HC Try.prog 57 [] [.sl (.int .i64) w, .sl (.int .i64) v0] [] (.bool r) := by
  unfold lineallaw03_before at h
  refine HC.of_body tab_ok (res := [.tmp 4]) Try.func57 rfl (by kernel_rfl) rfl (nt := 41) rfl (by decide) (by simp) ?_
  refine AW.seq ?_
  refine AW.ops ?_
  refine AO.allF tab_ok (by decide) [(0, .sl (.int .i64) w), (1, .sl (.int .i64) v0)] [] (by (simp only [go_sem]) <;> (repeat' with_reducible apply And.intro) <;> first | assumption | rfl | omega | (unfold maxLen; omega)) ?_
  refine athen_n ?_
  refine AW.have1 (fun _ : Unit => lineallaw03_before_k1 w v0 = some r) (fun _ => ⟨fr [(0, .sl (.int .i64) w), (1, .sl (.int .i64) v0)], hpGet [], gt⟩) (fun _ h => ?_) (fun hk_lineallaw03_before_k1 => ?_)
  · unfold lineallaw03_before_k1 at h
    refine AW.seq ?_
    refine AW.ops ?_
    refine AO.allF tab_ok (by decide) [(4, .bool (decide ((w.length : Int) < (v0.length : Int))))] [] (by (simp only [go_sem]) <;> (repeat' with_reducible apply And.intro) <;> first | assumption | rfl | omega | (unfold maxLen; omega)) ?_
    refine athen_n ?_
    refine AW.ret ?_
    obtain rfl := Option.some.inj h
    exact ⟨rfl, [], [], [], rfl, (by (simp only [go_sem]) <;> (repeat' with_reducible apply And.intro) <;> first | assumption | rfl | omega | (unfold maxLen; omega))⟩
  · refine AW.seq ?_
    refine AW.seq ?_
    refine AW.ops ?_
    refine AO.allF tab_ok (by decide) [(0, .sl (.int .i64) w), (1, .sl (.int .i64) v0), (5, .int .i64 0)] [] (by (simp only [go_sem]) <;> (repeat' with_reducible apply And.intro) <;> first | assumption | rfl | omega | (unfold maxLen; omega)) ?_
    refine athen_n ?_
    refine AW.block ?_
    obtain ⟨rv5, hw1, ho2⟩ := Option.bind_eq_some_iff.1 h
    refine AW.loopO (lineallaw03_before_b1 w v0) (fun st1 => ⟨fr [(0, .sl (.int .i64) w), (1, .sl (.int .i64) v0), (5, .int .i64 st1)], hpGet [], gt⟩) 0 hw1 (Wk.le [] [] [] rfl (by (simp only [go_sem]) <;> (repeat' with_reducible apply And.intro) <;> first | assumption | rfl | omega | (unfold maxLen; omega)) (by (simp only [go_sem]) <;> (repeat' with_reducible apply And.intro) <;> first | assumption | rfl | omega | (unfold maxLen; omega))) ?_
    intro st1 x4 h hd3
    unfold lineallaw03_before_b1 at h
    refine AW.seq ?_
    refine AW.seq ?_
    refine AW.ops ?_
    refine AO.segF tab_ok 5 (by decide) [(0, .sl (.int .i64) w), (1, .sl (.int .i64) v0), (5, .int .i64 st1), (10, .bool (decide (st1 < (w.length : Int))))] [] (by (simp only [go_sem]) <;> (repeat' with_reducible apply And.intro) <;> first | assumption | rfl | omega | (unfold maxLen; omega)) ?_
    rcases Bool.eq_false_or_eq_true (decide (st1 < (w.length : Int))) with hb6 | hb6
    · rw [if_pos hb6] at h
      refine AO.weaken (s' := ⟨fr [(0, .sl (.int .i64) w), (1, .sl (.int .i64) v0), (5, .int .i64 st1), (10, .bool true)], hpGet [], gt⟩) (Wk.to (by (simp only [go_sem, hb6]) <;> (repeat' with_reducible apply And.intro) <;> first | assumption | rfl | omega | (unfold maxLen; omega))) ?_
      refine AO.allF tab_ok (by decide) [(0, .sl (.int .i64) w), (1, .sl (.int .i64) v0), (5, .int .i64 st1), (15, .bool (decide (st1 < (v0.length : Int))))] [] (by (simp only [go_sem, hb6]) <;> (repeat' with_reducible apply And.intro) <;> first | assumption | rfl | omega | (unfold maxLen; omega)) ?_
      refine athen_n ?_
      refine AW.cond (b := (decide (st1 < (v0.length : Int)))) rfl (fun hb7 => ?_) (fun hb7 => ?_)
      · rw [if_pos hb7] at h
        refine AW.skip ?_
        refine athen_n ?_
        refine AW.seq ?_
        refine AW.block ?_
        refine AW.seq ?_
        refine AW.draw tab_ok mixed_ok [] [] (by decide) (by kernel_rfl) ?_
        obtain ⟨c9, h⟩ := ck_some.1 h
        obtain ⟨c10, h⟩ := ck_some.1 h
        refine adops_cut 6 (fun K' hK8 => ?_)
        try dsimp only [List.drop_succ_cons, List.drop_zero, List.take_succ_cons, List.take_zero]
        simp only [go_sem, hb6, hb7]
        repeat (with_reducible refine And.intro (by first | assumption | rfl | omega | trivial | (unfold maxLen; omega)) ?_)
        refine hK8 _ ?_
        obtain ⟨c12, h⟩ := ck_some.1 h
        obtain ⟨c13, h⟩ := ck_some.1 h
        refine adops_cut 3 (fun K' hK11 => ?_)
        try dsimp only [List.drop_succ_cons, List.drop_zero, List.take_succ_cons, List.take_zero]
        simp only [go_sem, hb6, hb7]
        repeat (with_reducible refine And.intro (by first | assumption | rfl | omega | trivial | (unfold maxLen; omega)) ?_)
        refine hK11 _ ?_
        refine adops_nil ?_
        refine athen_n ?_
        refine AW.weaken (s' := ⟨fr [(0, .sl (.int .i64) w), (1, .sl (.int .i64) v0), (5, .int .i64 st1), (26, .bool (!(decide ((w.getD st1.toNat 0) = (v0.getD st1.toNat 0)))))], hpGet [], gt⟩) (Wk.to (by (simp only [go_sem, hb6, hb7]) <;> (repeat' with_reducible apply And.intro) <;> first | assumption | rfl | omega | (unfold maxLen; omega))) ?_
        refine AW.cond (b := (!(decide ((w.getD st1.toNat 0) = (v0.getD st1.toNat 0))))) rfl (fun hb14 => ?_) (fun hb14 => ?_)
        · rw [if_pos hb14] at h
          refine AW.seq ?_
          refine AW.draw tab_ok mixed_ok [] [] (by decide) (by kernel_rfl) ?_
          obtain ⟨c16, h⟩ := ck_some.1 h
          obtain ⟨c17, h⟩ := ck_some.1 h
          refine adops_cut 6 (fun K' hK15 => ?_)
          try dsimp only [List.drop_succ_cons, List.drop_zero, List.take_succ_cons, List.take_zero]
          simp only [go_sem, hb6, hb7, hb14]
          repeat (with_reducible refine And.intro (by first | assumption | rfl | omega | trivial | (unfold maxLen; omega)) ?_)
          refine hK15 _ ?_
          obtain ⟨c19, h⟩ := ck_some.1 h
          obtain ⟨c20, h⟩ := ck_some.1 h
          refine adops_cut 4 (fun K' hK18 => ?_)
          try dsimp only [List.drop_succ_cons, List.drop_zero, List.take_succ_cons, List.take_zero]
          simp only [go_sem, hb6, hb7, hb14]
          repeat (with_reducible refine And.intro (by first | assumption | rfl | omega | trivial | (unfold maxLen; omega)) ?_)
          refine hK18 _ ?_
          refine adops_nil ?_
          refine athen_n ?_
          refine AW.weaken (s' := ⟨fr [(4, .bool (decide ((w.getD st1.toNat 0) < (v0.getD st1.toNat 0))))], hpGet [], gt⟩) (Wk.to (by (simp only [go_sem, hb6, hb7, hb14]) <;> (repeat' with_reducible apply And.intro) <;> first | assumption | rfl | omega | (unfold maxLen; omega))) ?_
          refine AW.ret ?_
          refine ablock_r ?_
          refine athen_r ?_
          obtain rfl := Option.some.inj h
          rw [← hd3 _ rfl] at ho2
          have h := ho2
          try simp only at h
          refine athen_r ?_
          refine ablock_r ?_
          refine athen_r ?_
          obtain rfl := Option.some.inj h
          exact ⟨rfl, [], [], [], rfl, (by (simp only [go_sem, hb6, hb7, hb14]) <;> (repeat' with_reducible apply And.intro) <;> first | assumption | rfl | omega | (unfold maxLen; omega))⟩
        · rw [if_neg (Bool.eq_false_iff.1 hb14)] at h
          refine AW.skip ?_
          refine ablock_n ?_
          refine athen_n ?_
          refine AW.ops ?_
          obtain ⟨c21, h⟩ := ck_some.1 h
          refine AO.allF tab_ok (by decide) [(0, .sl (.int .i64) w), (1, .sl (.int .i64) v0), (5, .int .i64 (st1 + 1))] [] (by (simp only [go_sem, hb6, hb7, hb14]) <;> (repeat' with_reducible apply And.intro) <;> first | assumption | rfl | omega | (unfold maxLen; omega)) ?_
          obtain rfl := Option.some.inj h
          exact ⟨_, rfl, Wk.le [] [] [] rfl (by (simp only [go_sem, hb6, hb7, hb14]) <;> (repeat' with_reducible apply And.intro) <;> first | assumption | rfl | omega | (unfold maxLen; omega)) (by (simp only [go_sem, hb6, hb7, hb14]) <;> (repeat' with_reducible apply And.intro) <;> first | assumption | rfl | omega | (unfold maxLen; omega))⟩
      · rw [if_neg (Bool.eq_false_iff.1 hb7)] at h
        refine AW.exit ?_
        refine athen_e ?_
        obtain rfl := Option.some.inj h
        rw [← hd3 _ rfl] at ho2
        have h := ho2
        try simp only at h
        refine athen_e ?_
        refine ablock_s ?_
        refine athen_n ?_
        exact AW.weaken (Wk.le [] [] [] rfl (by (simp only [go_sem, hb6, hb7]) <;> (repeat' with_reducible apply And.intro) <;> first | assumption | rfl | omega | (unfold maxLen; omega)) (by (simp only [go_sem, hb6, hb7]) <;> (repeat' with_reducible apply And.intro) <;> first | assumption | rfl | omega | (unfold maxLen; omega))) (hk_lineallaw03_before_k1 () h)
    · rw [if_neg (Bool.eq_false_iff.1 hb6)] at h
      refine AO.weaken (s' := ⟨fr [(0, .sl (.int .i64) w), (1, .sl (.int .i64) v0), (5, .int .i64 st1), (10, .bool false)], hpGet [], gt⟩) (Wk.to (by (simp only [go_sem, hb6]) <;> (repeat' with_reducible apply And.intro) <;> first | assumption | rfl | omega | (unfold maxLen; omega))) ?_
      refine AO.segF tab_ok 4 (by decide) [(0, .sl (.int .i64) w), (1, .sl (.int .i64) v0), (5, .int .i64 st1), (10, .bool false), (14, .cv (undef))] [] (by (simp only [go_sem, hb6]) <;> (repeat' with_reducible apply And.intro) <;> first | assumption | rfl | omega | (unfold maxLen; omega)) ?_
      refine AO.allF tab_ok (by decide) [(0, .sl (.int .i64) w), (1, .sl (.int .i64) v0), (5, .int .i64 st1), (15, .bool false)] [] (by (simp only [go_sem, hb6]) <;> (repeat' with_reducible apply And.intro) <;> first | assumption | rfl | omega | (unfold maxLen; omega)) ?_
      refine athen_n ?_
      refine AW.cond (b := false) rfl (fun hb22 => by cases hb22) (fun _ => ?_)
      refine AW.exit ?_
      refine athen_e ?_
      obtain rfl := Option.some.inj h
      rw [← hd3 _ rfl] at ho2
      have h := ho2
      try simp only at h
      refine athen_e ?_
      refine ablock_s ?_
      refine athen_n ?_
      exact AW.weaken (Wk.le [] [] [] rfl (by (simp only [go_sem, hb6]) <;> (repeat' with_reducible apply And.intro) <;> first | assumption | rfl | omega | (unfold maxLen; omega)) (by (simp only [go_sem, hb6]) <;> (repeat' with_reducible apply And.intro) <;> first | assumption | rfl | omega | (unfold maxLen; omega))) (hk_lineallaw03_before_k1 () h)

end Go.Proofs.Ytcijihofjcfpoab
