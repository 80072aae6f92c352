/-
  Made by wip/tool/dc.py out of the print of the program: contracts.
-/
import Derived.Test.YtcijihofjcfpoabWp
import Derived.Test.YtcijihofjcfpoabTb3
import Derived.Test.YtcijihofjcfpoabXic1
import Derived.Test.YtcijihofjcfpoabXic2
import Derived.Test.YtcijihofjcfpoabXic3
namespace Go.Proofs.Ytcijihofjcfpoab
open Go.RowKit

set_option linter.unusedSimpArgs false
set_option linter.unusedVariables false
set_option linter.constructorNameAsVariable false

set_option maxRecDepth 100000 in
set_option maxHeartbeats 2000000 in
theorem hc_linealref03_IsWord (l : Int × (List (Int × Int))) (w : List Int) {r : Bool} (h : linealref03_IsWord l w = some r) : HC Try.prog 55 [] [.agg [.int .i64 l.1, .sl (.pair (.int .i64) (.int .i64)) l.2], .sl (.int .i64) w] [] (.bool r) := by
  unfold linealref03_IsWord at h
  refine HC.of_body tab_ok (res := [.tmp 4]) Try.func55 rfl (by kernel_rfl) rfl (nt := 21) rfl (by decide) (by simp) ?_
  refine AW.seq ?_
  refine AW.ops ?_
  refine AO.allF tab_ok (by decide) [(1, .sl (.int .i64) w), (2, .bp 2 0)] [(2, .box 24 [.int .i64 l.1, .sl (.pair (.int .i64) (.int .i64)) l.2])] (by (simp only [go_sem]) <;> (repeat' with_reducible apply And.intro) <;> first | assumption | rfl | omega | (unfold maxLen; omega)) ?_
  refine athen_n ?_
  refine AW.have1 (fun _ : Unit => linealref03_IsWord_k1 w = some r) (fun _ => ⟨fr [(1, .sl (.int .i64) w)], hpGet [], gt⟩) (fun _ h => ?_) (fun hk_linealref03_IsWord_k1 => ?_)
  · unfold linealref03_IsWord_k1 at h
    refine AW.seq ?_
    refine AW.ops ?_
    refine AO.allF tab_ok (by decide) [(4, .bool (decide ((w.length : Int) ≤ 10)))] [] (by (simp only [go_sem]) <;> (repeat' with_reducible apply And.intro) <;> first | assumption | rfl | omega | (unfold maxLen; omega)) ?_
    refine athen_n ?_
    refine AW.ret ?_
    obtain rfl := Option.some.inj h
    exact ⟨rfl, [], [], [], rfl, (by (simp only [go_sem]) <;> (repeat' with_reducible apply And.intro) <;> first | assumption | rfl | omega | (unfold maxLen; omega))⟩
  · refine AW.seq ?_
    refine AW.seq ?_
    refine AW.ops ?_
    refine AO.allF tab_ok (by decide) [(1, .sl (.int .i64) w), (2, .bp 2 0), (7, .sl (.int .i64) w), (8, .int .i64 (w.length : Int)), (9, .int .i64 0)] [(2, .box 24 [.int .i64 l.1, .sl (.pair (.int .i64) (.int .i64)) l.2])] (by (simp only [go_sem]) <;> (repeat' with_reducible apply And.intro) <;> first | assumption | rfl | omega | (unfold maxLen; omega)) ?_
    refine athen_n ?_
    refine AW.block ?_
    obtain ⟨rv5, hw1, ho2⟩ := Option.bind_eq_some_iff.1 h
    refine AW.loopO (linealref03_IsWord_b1 l w) (fun st1 => ⟨fr [(1, .sl (.int .i64) w), (2, .bp 2 0), (7, .sl (.int .i64) w), (8, .int .i64 (w.length : Int)), (9, .int .i64 st1)], hpGet [(2, .box 24 [.int .i64 l.1, .sl (.pair (.int .i64) (.int .i64)) l.2])], gt⟩) 0 hw1 (Wk.le [] [] [] rfl (by (simp only [go_sem]) <;> (repeat' with_reducible apply And.intro) <;> first | assumption | rfl | omega | (unfold maxLen; omega)) (by (simp only [go_sem]) <;> (repeat' with_reducible apply And.intro) <;> first | assumption | rfl | omega | (unfold maxLen; omega))) ?_
    intro st1 x4 h hd3
    unfold linealref03_IsWord_b1 at h
    refine AW.seq ?_
    refine AW.ops ?_
    refine AO.allF tab_ok (by decide) [(1, .sl (.int .i64) w), (2, .bp 2 0), (7, .sl (.int .i64) w), (8, .int .i64 (w.length : Int)), (9, .int .i64 st1), (10, .bool (decide (st1 < (w.length : Int))))] [(2, .box 24 [.int .i64 l.1, .sl (.pair (.int .i64) (.int .i64)) l.2])] (by (simp only [go_sem]) <;> (repeat' with_reducible apply And.intro) <;> first | assumption | rfl | omega | (unfold maxLen; omega)) ?_
    refine athen_n ?_
    refine AW.seq ?_
    refine AW.cond (b := (decide (st1 < (w.length : Int)))) rfl (fun hb6 => ?_) (fun hb6 => ?_)
    · rw [if_pos hb6] at h
      refine AW.skip ?_
      refine athen_n ?_
      refine AW.seq ?_
      refine AW.block ?_
      refine AW.seq ?_
      refine AW.ops ?_
      obtain ⟨c7, h⟩ := ck_some.1 h
      obtain ⟨c8, h⟩ := ck_some.1 h
      refine AO.allF tab_ok (by decide) [(1, .sl (.int .i64) w), (2, .bp 2 0), (6, .int .i64 (w.getD st1.toNat 0)), (7, .sl (.int .i64) w), (8, .int .i64 (w.length : Int)), (9, .int .i64 st1)] [(2, .box 24 [.int .i64 l.1, .sl (.pair (.int .i64) (.int .i64)) l.2])] (by (simp only [go_sem, hb6]) <;> (repeat' with_reducible apply And.intro) <;> first | assumption | rfl | omega | (unfold maxLen; omega)) ?_
      refine athen_n ?_
      refine AW.seq ?_
      refine AW.ops ?_
      refine AO.segF tab_ok 2 (by decide) [(1, .sl (.int .i64) w), (2, .bp 2 0), (7, .sl (.int .i64) w), (8, .int .i64 (w.length : Int)), (9, .int .i64 st1), (13, .agg [.int .i64 l.1, .sl (.pair (.int .i64) (.int .i64)) l.2]), (14, .int .i64 (w.getD st1.toNat 0))] [(2, .box 24 [.int .i64 l.1, .sl (.pair (.int .i64) (.int .i64)) l.2])] (by (simp only [go_sem, hb6]) <;> (repeat' with_reducible apply And.intro) <;> first | assumption | rfl | omega | (unfold maxLen; omega)) ?_
      obtain ⟨v0, hv9, h⟩ := Option.bind_eq_some_iff.1 h
      refine AO.call tab_ok (by decide) rfl rfl rfl (fun _ h => h) [] [] (hc_linealref03_IsLetter l (w.getD st1.toNat 0) hv9) rfl (by (simp only [go_sem, hb6]) <;> (repeat' with_reducible apply And.intro) <;> first | assumption | rfl | omega | (unfold maxLen; omega)) (by (simp only [go_sem, hb6]) <;> (repeat' with_reducible apply And.intro) <;> first | assumption | rfl | omega | (unfold maxLen; omega)) [(1, .sl (.int .i64) w), (2, .bp 2 0), (7, .sl (.int .i64) w), (8, .int .i64 (w.length : Int)), (9, .int .i64 st1), (15, .bool v0)] [(2, .box 24 [.int .i64 l.1, .sl (.pair (.int .i64) (.int .i64)) l.2])] (by (simp only [go_sem, hb6]) <;> (repeat' with_reducible apply And.intro) <;> first | assumption | rfl | omega | (unfold maxLen; omega)) ?_
      refine AO.allF tab_ok (by decide) [(1, .sl (.int .i64) w), (2, .bp 2 0), (7, .sl (.int .i64) w), (8, .int .i64 (w.length : Int)), (9, .int .i64 st1), (16, .bool (!v0))] [(2, .box 24 [.int .i64 l.1, .sl (.pair (.int .i64) (.int .i64)) l.2])] (by (simp only [go_sem, hb6]) <;> (repeat' with_reducible apply And.intro) <;> first | assumption | rfl | omega | (unfold maxLen; omega)) ?_
      refine athen_n ?_
      refine AW.cond (b := (!v0)) rfl (fun hb10 => ?_) (fun hb10 => ?_)
      · rw [if_pos hb10] at h
        refine AW.seq ?_
        refine AW.ops ?_
        refine AO.allF tab_ok (by decide) [(4, .bool false)] [] (by (simp only [go_sem, hb6, hb10]) <;> (repeat' with_reducible apply And.intro) <;> first | assumption | rfl | omega | (unfold maxLen; omega)) ?_
        refine athen_n ?_
        refine AW.ret ?_
        refine ablock_r ?_
        refine athen_r ?_
        obtain rfl := Option.some.inj h
        rw [← hd3 _ rfl] at ho2
        have h := ho2
        try simp only at h
        refine athen_r ?_
        refine ablock_r ?_
        refine athen_r ?_
        obtain rfl := Option.some.inj h
        exact ⟨rfl, [], [], [], rfl, (by (simp only [go_sem, hb6, hb10]) <;> (repeat' with_reducible apply And.intro) <;> first | assumption | rfl | omega | (unfold maxLen; omega))⟩
      · rw [if_neg (Bool.eq_false_iff.1 hb10)] at h
        refine AW.skip ?_
        refine ablock_n ?_
        refine athen_n ?_
        refine AW.ops ?_
        obtain ⟨c11, h⟩ := ck_some.1 h
        refine AO.allF tab_ok (by decide) [(1, .sl (.int .i64) w), (2, .bp 2 0), (7, .sl (.int .i64) w), (8, .int .i64 (w.length : Int)), (9, .int .i64 (st1 + 1))] [(2, .box 24 [.int .i64 l.1, .sl (.pair (.int .i64) (.int .i64)) l.2])] (by (simp only [go_sem, hb6, hb10]) <;> (repeat' with_reducible apply And.intro) <;> first | assumption | rfl | omega | (unfold maxLen; omega)) ?_
        obtain rfl := Option.some.inj h
        exact ⟨_, rfl, Wk.le [] [] [] rfl (by (simp only [go_sem, hb6, hb10]) <;> (repeat' with_reducible apply And.intro) <;> first | assumption | rfl | omega | (unfold maxLen; omega)) (by (simp only [go_sem, hb6, hb10]) <;> (repeat' with_reducible apply And.intro) <;> first | assumption | rfl | omega | (unfold maxLen; omega))⟩
    · rw [if_neg (Bool.eq_false_iff.1 hb6)] at h
      refine AW.exit ?_
      refine athen_e ?_
      obtain rfl := Option.some.inj h
      rw [← hd3 _ rfl] at ho2
      have h := ho2
      try simp only at h
      refine athen_e ?_
      refine ablock_s ?_
      refine athen_n ?_
      exact AW.weaken (Wk.le [] [] [] rfl (by (simp only [go_sem, hb6]) <;> (repeat' with_reducible apply And.intro) <;> first | assumption | rfl | omega | (unfold maxLen; omega)) (by (simp only [go_sem, hb6]) <;> (repeat' with_reducible apply And.intro) <;> first | assumption | rfl | omega | (unfold maxLen; omega))) (hk_linealref03_IsWord_k1 () h)

set_option maxRecDepth 100000 in
set_option maxHeartbeats 2000000 in
theorem hc_linealref03_asked (l : Int × (List (Int × Int))) (w : List Int) (v0 : List Int) {r : Int} (h : linealref03_asked l w v0 = some r) : HC Try.prog 66 [] [.agg [.int .i64 l.1, .sl (.pair (.int .i64) (.int .i64)) l.2], .sl (.int .i64) w, .sl (.int .i64) v0] [] (.int .i64 r) := by
  unfold linealref03_asked at h
  refine HC.of_body tab_ok (res := [.tmp 6]) Try.func66 rfl (by kernel_rfl) rfl (nt := 20) rfl (by decide) (by simp) ?_
  refine AW.seq ?_
  refine AW.ops ?_
  refine AO.allF tab_ok (by decide) [(1, .sl (.int .i64) w), (2, .sl (.int .i64) v0), (3, .bp 3 0)] [(3, .box 24 [.int .i64 l.1, .sl (.pair (.int .i64) (.int .i64)) l.2])] (by (simp only [go_sem]) <;> (repeat' with_reducible apply And.intro) <;> first | assumption | rfl | omega | (unfold maxLen; omega)) ?_
  refine athen_n ?_
  refine AW.seq ?_
  refine AW.seq ?_
  refine AW.ops ?_
  refine AO.segF tab_ok 1 (by decide) [(1, .sl (.int .i64) w), (2, .sl (.int .i64) v0), (3, .bp 3 0), (7, .agg [.int .i64 l.1, .sl (.pair (.int .i64) (.int .i64)) l.2])] [(3, .box 24 [.int .i64 l.1, .sl (.pair (.int .i64) (.int .i64)) l.2])] (by (simp only [go_sem]) <;> (repeat' with_reducible apply And.intro) <;> first | assumption | rfl | omega | (unfold maxLen; omega)) ?_
  obtain ⟨v0_2, hv1, h⟩ := Option.bind_eq_some_iff.1 h
  refine AO.call tab_ok (by decide) rfl rfl rfl (fun _ h => h) [] [] (hc_linealref03_Valid l hv1) rfl (by (simp only [go_sem]) <;> (repeat' with_reducible apply And.intro) <;> first | assumption | rfl | omega | (unfold maxLen; omega)) (by (simp only [go_sem]) <;> (repeat' with_reducible apply And.intro) <;> first | assumption | rfl | omega | (unfold maxLen; omega)) [(1, .sl (.int .i64) w), (2, .sl (.int .i64) v0), (3, .bp 3 0), (8, .bool v0_2)] [(3, .box 24 [.int .i64 l.1, .sl (.pair (.int .i64) (.int .i64)) l.2])] (by (simp only [go_sem]) <;> (repeat' with_reducible apply And.intro) <;> first | assumption | rfl | omega | (unfold maxLen; omega)) ?_
  refine AO.allF tab_ok (by decide) [(1, .sl (.int .i64) w), (2, .sl (.int .i64) v0), (3, .bp 3 0), (9, .bool (!v0_2))] [(3, .box 24 [.int .i64 l.1, .sl (.pair (.int .i64) (.int .i64)) l.2])] (by (simp only [go_sem]) <;> (repeat' with_reducible apply And.intro) <;> first | assumption | rfl | omega | (unfold maxLen; omega)) ?_
  refine athen_n ?_
  refine AW.cond (b := (!v0_2)) rfl (fun hb2 => ?_) (fun hb2 => ?_)
  · rw [if_pos hb2] at h
    refine AW.seq ?_
    refine AW.ops ?_
    refine AO.allF tab_ok (by decide) [(6, .int .i64 30)] [] (by (simp only [go_sem, hb2]) <;> (repeat' with_reducible apply And.intro) <;> first | assumption | rfl | omega | (unfold maxLen; omega)) ?_
    refine athen_n ?_
    refine AW.ret ?_
    refine athen_r ?_
    obtain rfl := Option.some.inj h
    exact ⟨rfl, [], [], [], rfl, (by (simp only [go_sem, hb2]) <;> (repeat' with_reducible apply And.intro) <;> first | assumption | rfl | omega | (unfold maxLen; omega))⟩
  · rw [if_neg (Bool.eq_false_iff.1 hb2)] at h
    refine AW.skip ?_
    refine athen_n ?_
    refine AW.seq ?_
    refine AW.seq ?_
    refine AW.ops ?_
    refine AO.segF tab_ok 2 (by decide) [(2, .sl (.int .i64) v0), (3, .bp 3 0), (10, .agg [.int .i64 l.1, .sl (.pair (.int .i64) (.int .i64)) l.2]), (11, .sl (.int .i64) w)] [(3, .box 24 [.int .i64 l.1, .sl (.pair (.int .i64) (.int .i64)) l.2])] (by (simp only [go_sem, hb2]) <;> (repeat' with_reducible apply And.intro) <;> first | assumption | rfl | omega | (unfold maxLen; omega)) ?_
    obtain ⟨v0_3, hv3, h⟩ := Option.bind_eq_some_iff.1 h
    refine AO.call tab_ok (by decide) rfl rfl rfl (fun _ h => h) [] [] (hc_linealref03_IsWord l w hv3) rfl (by (simp only [go_sem, hb2]) <;> (repeat' with_reducible apply And.intro) <;> first | assumption | rfl | omega | (unfold maxLen; omega)) (by (simp only [go_sem, hb2]) <;> (repeat' with_reducible apply And.intro) <;> first | assumption | rfl | omega | (unfold maxLen; omega)) [(2, .sl (.int .i64) v0), (3, .bp 3 0), (12, .bool v0_3)] [(3, .box 24 [.int .i64 l.1, .sl (.pair (.int .i64) (.int .i64)) l.2])] (by (simp only [go_sem, hb2]) <;> (repeat' with_reducible apply And.intro) <;> first | assumption | rfl | omega | (unfold maxLen; omega)) ?_
    refine AO.segF tab_ok 2 (by decide) [(2, .sl (.int .i64) v0), (3, .bp 3 0), (14, .bool (!v0_3))] [(3, .box 24 [.int .i64 l.1, .sl (.pair (.int .i64) (.int .i64)) l.2])] (by (simp only [go_sem, hb2]) <;> (repeat' with_reducible apply And.intro) <;> first | assumption | rfl | omega | (unfold maxLen; omega)) ?_
    rcases Bool.eq_false_or_eq_true (!v0_3) with hb4 | hb4
    · rw [if_pos hb4] at h
      refine AO.weaken (s' := ⟨fr [(2, .sl (.int .i64) v0), (3, .bp 3 0), (14, .bool true)], hpGet [(3, .box 24 [.int .i64 l.1, .sl (.pair (.int .i64) (.int .i64)) l.2])], gt⟩) (Wk.to (by (simp only [go_sem, hb2, hb4]) <;> (repeat' with_reducible apply And.intro) <;> first | assumption | rfl | omega | (unfold maxLen; omega))) ?_
      refine AO.segF tab_ok 4 (by decide) [(14, .bool true), (18, .cv (undef))] [] (by (simp only [go_sem, hb2, hb4]) <;> (repeat' with_reducible apply And.intro) <;> first | assumption | rfl | omega | (unfold maxLen; omega)) ?_
      refine AO.allF tab_ok (by decide) [(19, .bool true)] [] (by (simp only [go_sem, hb2, hb4]) <;> (repeat' with_reducible apply And.intro) <;> first | assumption | rfl | omega | (unfold maxLen; omega)) ?_
      refine athen_n ?_
      refine AW.cond (b := true) rfl (fun _ => ?_) (fun hb5 => by cases hb5)
      refine AW.seq ?_
      refine AW.ops ?_
      refine AO.allF tab_ok (by decide) [(6, .int .i64 31)] [] (by (simp only [go_sem, hb2, hb4]) <;> (repeat' with_reducible apply And.intro) <;> first | assumption | rfl | omega | (unfold maxLen; omega)) ?_
      refine athen_n ?_
      refine AW.ret ?_
      refine athen_r ?_
      obtain rfl := Option.some.inj h
      exact ⟨rfl, [], [], [], rfl, (by (simp only [go_sem, hb2, hb4]) <;> (repeat' with_reducible apply And.intro) <;> first | assumption | rfl | omega | (unfold maxLen; omega))⟩
    · rw [if_neg (Bool.eq_false_iff.1 hb4)] at h
      refine AO.weaken (s' := ⟨fr [(2, .sl (.int .i64) v0), (3, .bp 3 0), (14, .bool false)], hpGet [(3, .box 24 [.int .i64 l.1, .sl (.pair (.int .i64) (.int .i64)) l.2])], gt⟩) (Wk.to (by (simp only [go_sem, hb2, hb4]) <;> (repeat' with_reducible apply And.intro) <;> first | assumption | rfl | omega | (unfold maxLen; omega))) ?_
      refine AO.segF tab_ok 2 (by decide) [(14, .bool false), (15, .agg [.int .i64 l.1, .sl (.pair (.int .i64) (.int .i64)) l.2]), (16, .sl (.int .i64) v0)] [] (by (simp only [go_sem, hb2, hb4]) <;> (repeat' with_reducible apply And.intro) <;> first | assumption | rfl | omega | (unfold maxLen; omega)) ?_
      obtain ⟨v0_4, hv6, h⟩ := Option.bind_eq_some_iff.1 h
      refine AO.call tab_ok (by decide) rfl rfl rfl (fun _ h => ⟨fun _ => h, fun hn => absurd rfl hn⟩) [] [] (hc_linealref03_IsWord l v0 hv6) rfl (by (simp only [go_sem, hb2, hb4]) <;> (repeat' with_reducible apply And.intro) <;> first | assumption | rfl | omega | (unfold maxLen; omega)) (by (simp only [go_sem, hb2, hb4]) <;> (repeat' with_reducible apply And.intro) <;> first | assumption | rfl | omega | (unfold maxLen; omega)) [(14, .bool false), (17, .bool v0_4)] [] (by (simp only [go_sem, hb2, hb4]) <;> (repeat' with_reducible apply And.intro) <;> first | assumption | rfl | omega | (unfold maxLen; omega)) ?_
      refine AO.allF tab_ok (by decide) [(19, .bool (!v0_4))] [] (by (simp only [go_sem, hb2, hb4]) <;> (repeat' with_reducible apply And.intro) <;> first | assumption | rfl | omega | (unfold maxLen; omega)) ?_
      refine athen_n ?_
      refine AW.cond (b := (!v0_4)) rfl (fun hb7 => ?_) (fun hb7 => ?_)
      · rw [if_pos hb7] at h
        refine AW.seq ?_
        refine AW.ops ?_
        refine AO.allF tab_ok (by decide) [(6, .int .i64 31)] [] (by (simp only [go_sem, hb2, hb4, hb7]) <;> (repeat' with_reducible apply And.intro) <;> first | assumption | rfl | omega | (unfold maxLen; omega)) ?_
        refine athen_n ?_
        refine AW.ret ?_
        refine athen_r ?_
        obtain rfl := Option.some.inj h
        exact ⟨rfl, [], [], [], rfl, (by (simp only [go_sem, hb2, hb4, hb7]) <;> (repeat' with_reducible apply And.intro) <;> first | assumption | rfl | omega | (unfold maxLen; omega))⟩
      · rw [if_neg (Bool.eq_false_iff.1 hb7)] at h
        refine AW.skip ?_
        refine athen_n ?_
        refine AW.seq ?_
        refine AW.ops ?_
        refine AO.allF tab_ok (by decide) [(6, .int .i64 0)] [] (by (simp only [go_sem, hb2, hb4, hb7]) <;> (repeat' with_reducible apply And.intro) <;> first | assumption | rfl | omega | (unfold maxLen; omega)) ?_
        refine athen_n ?_
        refine AW.ret ?_
        obtain rfl := Option.some.inj h
        exact ⟨rfl, [], [], [], rfl, (by (simp only [go_sem, hb2, hb4, hb7]) <;> (repeat' with_reducible apply And.intro) <;> first | assumption | rfl | omega | (unfold maxLen; omega))⟩

set_option maxRecDepth 100000 in
set_option maxHeartbeats 2000000 in
theorem hc_linealref03_can (l : Int × (List (Int × Int))) (w : List Int) (at0 : Int) {r : Bool} (h : linealref03_can l w at0 = some r) : HC Try.prog 67 [] [.agg [.int .i64 l.1, .sl (.pair (.int .i64) (.int .i64)) l.2], .sl (.int .i64) w, .int .i64 at0] [] (.bool r) := by
  unfold linealref03_can at h
  refine HC.of_body tab_ok (res := [.tmp 6]) Try.func67 rfl (by kernel_rfl) rfl (nt := 30) rfl (by decide) (by simp) ?_
  refine AW.seq ?_
  refine AW.ops ?_
  refine AO.allF tab_ok (by decide) [(1, .sl (.int .i64) w), (2, .int .i64 at0), (3, .bp 3 0)] [(3, .box 24 [.int .i64 l.1, .sl (.pair (.int .i64) (.int .i64)) l.2])] (by (simp only [go_sem]) <;> (repeat' with_reducible apply And.intro) <;> first | assumption | rfl | omega | (unfold maxLen; omega)) ?_
  refine athen_n ?_
  refine AW.seq ?_
  refine AW.draw tab_ok mixed_ok [] [] (by decide) (by kernel_rfl) ?_
  refine adops_cut 3 (fun K' hK1 => ?_)
  try dsimp only [List.drop_succ_cons, List.drop_zero, List.take_succ_cons, List.take_zero]
  simp only [go_sem]
  repeat (with_reducible refine And.intro (by first | assumption | rfl | omega | trivial | (unfold maxLen; omega)) ?_)
  refine hK1 _ ?_
  rcases Bool.eq_false_or_eq_true (decide (0 ≤ at0)) with hb2 | hb2
  · rw [if_pos hb2] at h
    simp only [hb2]
    obtain ⟨c4, h⟩ := ck_some.1 h
    refine adops_cut 6 (fun K' hK3 => ?_)
    try dsimp only [List.drop_succ_cons, List.drop_zero, List.take_succ_cons, List.take_zero]
    simp only [go_sem, hb2]
    repeat (with_reducible refine And.intro (by first | assumption | rfl | omega | trivial | (unfold maxLen; omega)) ?_)
    refine hK3 _ ?_
    refine adops_cut 1 (fun K' hK5 => ?_)
    try dsimp only [List.drop_succ_cons, List.drop_zero, List.take_succ_cons, List.take_zero]
    simp only [go_sem, hb2]
    repeat (with_reducible refine And.intro (by first | assumption | rfl | omega | trivial | (unfold maxLen; omega)) ?_)
    refine hK5 _ ?_
    rcases Bool.eq_false_or_eq_true (decide (at0 < ((w.length : Int) - 1))) with hb6 | hb6
    · rw [if_pos hb6] at h
      simp only [hb6]
      obtain ⟨c8, h⟩ := ck_some.1 h
      obtain ⟨c9, h⟩ := ck_some.1 h
      refine adops_cut 6 (fun K' hK7 => ?_)
      try dsimp only [List.drop_succ_cons, List.drop_zero, List.take_succ_cons, List.take_zero]
      simp only [go_sem, hb2, hb6]
      repeat (with_reducible refine And.intro (by first | assumption | rfl | omega | trivial | (unfold maxLen; omega)) ?_)
      refine hK7 _ ?_
      obtain ⟨c11, h⟩ := ck_some.1 h
      obtain ⟨c12, h⟩ := ck_some.1 h
      obtain ⟨c13, h⟩ := ck_some.1 h
      refine adops_cut 4 (fun K' hK10 => ?_)
      try dsimp only [List.drop_succ_cons, List.drop_zero, List.take_succ_cons, List.take_zero]
      simp only [go_sem, hb2, hb6]
      repeat (with_reducible refine And.intro (by first | assumption | rfl | omega | trivial | (unfold maxLen; omega)) ?_)
      refine hK10 _ ?_
      obtain ⟨v0, hv14, h⟩ := Option.bind_eq_some_iff.1 h
      refine adops.call (by first | trivial | rfl) rfl rfl rfl (fun _ h => ⟨fun _ => h, fun hn => absurd rfl hn⟩) [] [] (hc_linealref03_depend l (w.getD at0.toNat 0) (w.getD (at0 + 1).toNat 0) hv14) rfl (by (simp only [go_sem, hb2, hb6]) <;> (repeat' with_reducible apply And.intro) <;> first | assumption | rfl | omega | (unfold maxLen; omega)) (by (simp only [go_sem, hb2, hb6]) <;> (repeat' with_reducible apply And.intro) <;> first | assumption | rfl | omega | (unfold maxLen; omega)) rfl ?_
      refine adops_cut 3 (fun K' hK15 => ?_)
      try dsimp only [List.drop_succ_cons, List.drop_zero, List.take_succ_cons, List.take_zero]
      simp only [go_sem, hb2, hb6]
      repeat (with_reducible refine And.intro (by first | assumption | rfl | omega | trivial | (unfold maxLen; omega)) ?_)
      refine hK15 _ ?_
      refine adops_nil ?_
      refine athen_n ?_
      refine AW.weaken (s' := ⟨fr [(6, .bool (!v0))], hpGet [], gt⟩) (Wk.to (by (simp only [go_sem, hb2, hb6]) <;> (repeat' with_reducible apply And.intro) <;> first | assumption | rfl | omega | (unfold maxLen; omega))) ?_
      refine AW.ret ?_
      obtain rfl := Option.some.inj h
      exact ⟨rfl, [], [], [], rfl, (by (simp only [go_sem, hb2, hb6]) <;> (repeat' with_reducible apply And.intro) <;> first | assumption | rfl | omega | (unfold maxLen; omega))⟩
    · rw [if_neg (Bool.eq_false_iff.1 hb6)] at h
      simp only [hb6]
      refine adops_cut 4 (fun K' hK16 => ?_)
      try dsimp only [List.drop_succ_cons, List.drop_zero, List.take_succ_cons, List.take_zero]
      simp only [go_sem, hb2, hb6]
      repeat (with_reducible refine And.intro (by first | assumption | rfl | omega | trivial | (unfold maxLen; omega)) ?_)
      refine hK16 _ ?_
      refine adops_cut 4 (fun K' hK17 => ?_)
      try dsimp only [List.drop_succ_cons, List.drop_zero, List.take_succ_cons, List.take_zero]
      simp only [go_sem, hb2, hb6]
      repeat (with_reducible refine And.intro (by first | assumption | rfl | omega | trivial | (unfold maxLen; omega)) ?_)
      refine hK17 _ ?_
      refine adops_cut 4 (fun K' hK18 => ?_)
      try dsimp only [List.drop_succ_cons, List.drop_zero, List.take_succ_cons, List.take_zero]
      simp only [go_sem, hb2, hb6]
      repeat (with_reducible refine And.intro (by first | assumption | rfl | omega | trivial | (unfold maxLen; omega)) ?_)
      refine hK18 _ ?_
      refine adops_cut 2 (fun K' hK19 => ?_)
      try dsimp only [List.drop_succ_cons, List.drop_zero, List.take_succ_cons, List.take_zero]
      simp only [go_sem, hb2, hb6]
      repeat (with_reducible refine And.intro (by first | assumption | rfl | omega | trivial | (unfold maxLen; omega)) ?_)
      refine hK19 _ ?_
      refine adops_nil ?_
      refine athen_n ?_
      refine AW.weaken (s' := ⟨fr [(6, .bool false)], hpGet [], gt⟩) (Wk.to (by (simp only [go_sem, hb2, hb6]) <;> (repeat' with_reducible apply And.intro) <;> first | assumption | rfl | omega | (unfold maxLen; omega))) ?_
      refine AW.ret ?_
      obtain rfl := Option.some.inj h
      exact ⟨rfl, [], [], [], rfl, (by (simp only [go_sem, hb2, hb6]) <;> (repeat' with_reducible apply And.intro) <;> first | assumption | rfl | omega | (unfold maxLen; omega))⟩
  · rw [if_neg (Bool.eq_false_iff.1 hb2)] at h
    simp only [hb2]
    refine adops_cut 4 (fun K' hK20 => ?_)
    try dsimp only [List.drop_succ_cons, List.drop_zero, List.take_succ_cons, List.take_zero]
    simp only [go_sem, hb2]
    repeat (with_reducible refine And.intro (by first | assumption | rfl | omega | trivial | (unfold maxLen; omega)) ?_)
    refine hK20 _ ?_
    refine adops_cut 6 (fun K' hK21 => ?_)
    try dsimp only [List.drop_succ_cons, List.drop_zero, List.take_succ_cons, List.take_zero]
    simp only [go_sem, hb2]
    repeat (with_reducible refine And.intro (by first | assumption | rfl | omega | trivial | (unfold maxLen; omega)) ?_)
    refine hK21 _ ?_
    refine adops_cut 4 (fun K' hK22 => ?_)
    try dsimp only [List.drop_succ_cons, List.drop_zero, List.take_succ_cons, List.take_zero]
    simp only [go_sem, hb2]
    repeat (with_reducible refine And.intro (by first | assumption | rfl | omega | trivial | (unfold maxLen; omega)) ?_)
    refine hK22 _ ?_
    refine adops_cut 4 (fun K' hK23 => ?_)
    try dsimp only [List.drop_succ_cons, List.drop_zero, List.take_succ_cons, List.take_zero]
    simp only [go_sem, hb2]
    repeat (with_reducible refine And.intro (by first | assumption | rfl | omega | trivial | (unfold maxLen; omega)) ?_)
    refine hK23 _ ?_
    refine adops_cut 3 (fun K' hK24 => ?_)
    try dsimp only [List.drop_succ_cons, List.drop_zero, List.take_succ_cons, List.take_zero]
    simp only [go_sem, hb2]
    repeat (with_reducible refine And.intro (by first | assumption | rfl | omega | trivial | (unfold maxLen; omega)) ?_)
    refine hK24 _ ?_
    refine adops_nil ?_
    refine athen_n ?_
    refine AW.weaken (s' := ⟨fr [(6, .bool false)], hpGet [], gt⟩) (Wk.to (by (simp only [go_sem, hb2]) <;> (repeat' with_reducible apply And.intro) <;> first | assumption | rfl | omega | (unfold maxLen; omega))) ?_
    refine AW.ret ?_
    obtain rfl := Option.some.inj h
    exact ⟨rfl, [], [], [], rfl, (by (simp only [go_sem, hb2]) <;> (repeat' with_reducible apply And.intro) <;> first | assumption | rfl | omega | (unfold maxLen; omega))⟩

set_option maxRecDepth 100000 in
set_option maxHeartbeats 2000000 in
theorem hc_linealref03_exchanged (w : List Int) (at0 : Int) {r : Unit} (h : linealref03_exchanged w at0 = some r) : HC Try.prog 68 [] [.sl (.int .i64) w, .int .i64 at0] [(2000, .arr 3 (.int .i64) ((w.set at0.toNat (w.getD (at0 + 1).toNat 0)).set (at0 + 1).toNat (w.getD at0.toNat 0)))] (.own 2000) := by
  unfold linealref03_exchanged at h
  refine HC.of_body tab_ok (res := [.tmp 4]) Try.func68 rfl (by kernel_rfl) rfl (nt := 26) rfl (by decide) (by simp) ?_
  refine AW.seq ?_
  refine AW.ops ?_
  refine AO.allF tab_ok (by decide) [(0, .sl (.int .i64) w), (1, .int .i64 at0)] [] (by (simp only [go_sem]) <;> (repeat' with_reducible apply And.intro) <;> first | assumption | rfl | omega | (unfold maxLen; omega)) ?_
  refine athen_n ?_
  refine AW.seq ?_
  refine AW.ops ?_
  obtain ⟨c1, h⟩ := ck_some.1 h
  refine AO.allF tab_ok (by decide) [(0, .sl (.int .i64) w), (1, .int .i64 at0), (5, .own 8)] [(8, .arr 3 (.int .i64) w)] (by (simp only [go_sem]) <;> (repeat' with_reducible apply And.intro) <;> first | assumption | rfl | omega | (unfold maxLen; omega)) ?_
  refine athen_n ?_
  refine AW.seq ?_
  refine AW.draw tab_ok mixed_ok [(15, [8]), (17, [8])] [(2, [8]), (3, []), (4, []), (100015, []), (100017, [])] (by decide) (by kernel_rfl) ?_
  obtain ⟨c3, h⟩ := ck_some.1 h
  refine adops_cut 6 (fun K' hK2 => ?_)
  try dsimp only [List.drop_succ_cons, List.drop_zero, List.take_succ_cons, List.take_zero]
  simp only [go_sem]
  repeat (with_reducible refine And.intro (by first | assumption | rfl | omega | trivial | (unfold maxLen; omega)) ?_)
  refine hK2 _ ?_
  obtain ⟨c5, h⟩ := ck_some.1 h
  obtain ⟨c6, h⟩ := ck_some.1 h
  obtain ⟨c7, h⟩ := ck_some.1 h
  refine adops_cut 6 (fun K' hK4 => ?_)
  try dsimp only [List.drop_succ_cons, List.drop_zero, List.take_succ_cons, List.take_zero]
  simp only [go_sem]
  repeat (with_reducible refine And.intro (by first | assumption | rfl | omega | trivial | (unfold maxLen; omega)) ?_)
  refine hK4 _ ?_
  obtain ⟨c9, h⟩ := ck_some.1 h
  obtain ⟨c10, h⟩ := ck_some.1 h
  obtain ⟨c11, h⟩ := ck_some.1 h
  obtain ⟨c12, h⟩ := ck_some.1 h
  obtain ⟨c13, h⟩ := ck_some.1 h
  obtain ⟨c14, h⟩ := ck_some.1 h
  refine adops_cut 6 (fun K' hK8 => ?_)
  try dsimp only [List.drop_succ_cons, List.drop_zero, List.take_succ_cons, List.take_zero]
  simp only [go_sem]
  repeat (with_reducible refine And.intro (by first | assumption | rfl | omega | trivial | (unfold maxLen; omega)) ?_)
  refine hK8 _ ?_
  refine adops_nil ?_
  refine athen_n ?_
  refine AW.weaken (s' := ⟨fr [(5, .own 8)], hpGet [(8, .arr 3 (.int .i64) ((w.set at0.toNat (w.getD (at0 + 1).toNat 0)).set (at0 + 1).toNat (w.getD at0.toNat 0)))], gt⟩) (Wk.to (by (simp only [go_sem]) <;> (repeat' with_reducible apply And.intro) <;> first | assumption | rfl | omega | (unfold maxLen; omega))) ?_
  refine AW.seq ?_
  refine AW.ops ?_
  refine AO.allF tab_ok (by decide) [(4, .own 8)] [(8, .arr 3 (.int .i64) ((w.set at0.toNat (w.getD (at0 + 1).toNat 0)).set (at0 + 1).toNat (w.getD at0.toNat 0)))] (by (simp only [go_sem]) <;> (repeat' with_reducible apply And.intro) <;> first | assumption | rfl | omega | (unfold maxLen; omega)) ?_
  refine athen_n ?_
  refine AW.ret ?_
  obtain rfl := Option.some.inj h
  exact ⟨rfl, [], [], [(2000, 8)], rfl, (by (simp only [go_sem]) <;> (repeat' with_reducible apply And.intro) <;> first | assumption | rfl | omega | (unfold maxLen; omega))⟩

set_option maxRecDepth 100000 in
set_option maxHeartbeats 2000000 in
theorem hc_linealref03_SameInts (a : List Int) (b : List Int) {r : Bool} (h : linealref03_SameInts a b = some r) : HC Try.prog 23 [] [.sl (.int .i64) a, .sl (.int .i64) b] [] (.bool r) := by
  unfold linealref03_SameInts at h
  refine HC.of_body tab_ok (res := [.tmp 4]) Try.func23 rfl (by kernel_rfl) rfl (nt := 26) rfl (by decide) (by simp) ?_
  refine AW.seq ?_
  refine AW.ops ?_
  refine AO.allF tab_ok (by decide) [(0, .sl (.int .i64) a), (1, .sl (.int .i64) b)] [] (by (simp only [go_sem]) <;> (repeat' with_reducible apply And.intro) <;> first | assumption | rfl | omega | (unfold maxLen; omega)) ?_
  refine athen_n ?_
  refine AW.seq ?_
  refine AW.seq ?_
  refine AW.ops ?_
  refine AO.allF tab_ok (by decide) [(0, .sl (.int .i64) a), (1, .sl (.int .i64) b), (10, .bool (!(decide ((a.length : Int) = (b.length : Int)))))] [] (by (simp only [go_sem]) <;> (repeat' with_reducible apply And.intro) <;> first | assumption | rfl | omega | (unfold maxLen; omega)) ?_
  refine athen_n ?_
  refine AW.cond (b := (!(decide ((a.length : Int) = (b.length : Int))))) rfl (fun hb1 => ?_) (fun hb1 => ?_)
  · rw [if_pos hb1] at h
    refine AW.seq ?_
    refine AW.ops ?_
    refine AO.allF tab_ok (by decide) [(4, .bool false)] [] (by (simp only [go_sem, hb1]) <;> (repeat' with_reducible apply And.intro) <;> first | assumption | rfl | omega | (unfold maxLen; omega)) ?_
    refine athen_n ?_
    refine AW.ret ?_
    refine athen_r ?_
    obtain rfl := Option.some.inj h
    exact ⟨rfl, [], [], [], rfl, (by (simp only [go_sem, hb1]) <;> (repeat' with_reducible apply And.intro) <;> first | assumption | rfl | omega | (unfold maxLen; omega))⟩
  · rw [if_neg (Bool.eq_false_iff.1 hb1)] at h
    refine AW.skip ?_
    refine athen_n ?_
    refine AW.have1 (fun _ : Unit => linealref03_SameInts_k1 = some r) (fun _ => ⟨fr [], hpGet [], gt⟩) (fun _ h => ?_) (fun hk_linealref03_SameInts_k1 => ?_)
    · unfold linealref03_SameInts_k1 at h
      refine AW.seq ?_
      refine AW.ops ?_
      refine AO.allF tab_ok (by decide) [(4, .bool true)] [] (by (simp only [go_sem, hb1]) <;> (repeat' with_reducible apply And.intro) <;> first | assumption | rfl | omega | (unfold maxLen; omega)) ?_
      refine athen_n ?_
      refine AW.ret ?_
      obtain rfl := Option.some.inj h
      exact ⟨rfl, [], [], [], rfl, (by (simp only [go_sem, hb1]) <;> (repeat' with_reducible apply And.intro) <;> first | assumption | rfl | omega | (unfold maxLen; omega))⟩
    · refine AW.seq ?_
      refine AW.seq ?_
      refine AW.ops ?_
      refine AO.allF tab_ok (by decide) [(0, .sl (.int .i64) a), (1, .sl (.int .i64) b), (12, .int .i64 (a.length : Int)), (13, .int .i64 0)] [] (by (simp only [go_sem, hb1]) <;> (repeat' with_reducible apply And.intro) <;> first | assumption | rfl | omega | (unfold maxLen; omega)) ?_
      refine athen_n ?_
      refine AW.block ?_
      obtain ⟨rv6, hw2, ho3⟩ := Option.bind_eq_some_iff.1 h
      refine AW.loopO (linealref03_SameInts_b1 a b) (fun st1 => ⟨fr [(0, .sl (.int .i64) a), (1, .sl (.int .i64) b), (12, .int .i64 (a.length : Int)), (13, .int .i64 st1)], hpGet [], gt⟩) 0 hw2 (Wk.le [] [] [] rfl (by (simp only [go_sem, hb1]) <;> (repeat' with_reducible apply And.intro) <;> first | assumption | rfl | omega | (unfold maxLen; omega)) (by (simp only [go_sem, hb1]) <;> (repeat' with_reducible apply And.intro) <;> first | assumption | rfl | omega | (unfold maxLen; omega))) ?_
      intro st1 x5 h hd4
      unfold linealref03_SameInts_b1 at h
      refine AW.seq ?_
      refine AW.ops ?_
      refine AO.allF tab_ok (by decide) [(0, .sl (.int .i64) a), (1, .sl (.int .i64) b), (12, .int .i64 (a.length : Int)), (13, .int .i64 st1), (14, .bool (decide (st1 < (a.length : Int))))] [] (by (simp only [go_sem, hb1]) <;> (repeat' with_reducible apply And.intro) <;> first | assumption | rfl | omega | (unfold maxLen; omega)) ?_
      refine athen_n ?_
      refine AW.seq ?_
      refine AW.cond (b := (decide (st1 < (a.length : Int)))) rfl (fun hb7 => ?_) (fun hb7 => ?_)
      · rw [if_pos hb7] at h
        refine AW.skip ?_
        refine athen_n ?_
        refine AW.seq ?_
        refine AW.block ?_
        refine AW.seq ?_
        refine AW.ops ?_
        refine AO.allF tab_ok (by decide) [(0, .sl (.int .i64) a), (1, .sl (.int .i64) b), (5, .int .i64 st1), (12, .int .i64 (a.length : Int)), (13, .int .i64 st1)] [] (by (simp only [go_sem, hb1, hb7]) <;> (repeat' with_reducible apply And.intro) <;> first | assumption | rfl | omega | (unfold maxLen; omega)) ?_
        refine athen_n ?_
        refine AW.seq ?_
        refine AW.draw tab_ok mixed_ok [] [] (by decide) (by kernel_rfl) ?_
        obtain ⟨c9, h⟩ := ck_some.1 h
        obtain ⟨c10, h⟩ := ck_some.1 h
        refine adops_cut 6 (fun K' hK8 => ?_)
        try dsimp only [List.drop_succ_cons, List.drop_zero, List.take_succ_cons, List.take_zero]
        simp only [go_sem, hb1, hb7]
        repeat (with_reducible refine And.intro (by first | assumption | rfl | omega | trivial | (unfold maxLen; omega)) ?_)
        refine hK8 _ ?_
        obtain ⟨c12, h⟩ := ck_some.1 h
        obtain ⟨c13, h⟩ := ck_some.1 h
        refine adops_cut 3 (fun K' hK11 => ?_)
        try dsimp only [List.drop_succ_cons, List.drop_zero, List.take_succ_cons, List.take_zero]
        simp only [go_sem, hb1, hb7]
        repeat (with_reducible refine And.intro (by first | assumption | rfl | omega | trivial | (unfold maxLen; omega)) ?_)
        refine hK11 _ ?_
        refine adops_nil ?_
        refine athen_n ?_
        refine AW.weaken (s' := ⟨fr [(0, .sl (.int .i64) a), (1, .sl (.int .i64) b), (12, .int .i64 (a.length : Int)), (13, .int .i64 st1), (24, .bool (!(decide ((a.getD st1.toNat 0) = (b.getD st1.toNat 0)))))], hpGet [], gt⟩) (Wk.to (by (simp only [go_sem, hb1, hb7]) <;> (repeat' with_reducible apply And.intro) <;> first | assumption | rfl | omega | (unfold maxLen; omega))) ?_
        refine AW.cond (b := (!(decide ((a.getD st1.toNat 0) = (b.getD st1.toNat 0))))) rfl (fun hb14 => ?_) (fun hb14 => ?_)
        · rw [if_pos hb14] at h
          refine AW.seq ?_
          refine AW.ops ?_
          refine AO.allF tab_ok (by decide) [(4, .bool false)] [] (by (simp only [go_sem, hb1, hb7, hb14]) <;> (repeat' with_reducible apply And.intro) <;> first | assumption | rfl | omega | (unfold maxLen; omega)) ?_
          refine athen_n ?_
          refine AW.ret ?_
          refine ablock_r ?_
          refine athen_r ?_
          obtain rfl := Option.some.inj h
          rw [← hd4 _ rfl] at ho3
          have h := ho3
          try simp only at h
          refine athen_r ?_
          refine ablock_r ?_
          refine athen_r ?_
          obtain rfl := Option.some.inj h
          exact ⟨rfl, [], [], [], rfl, (by (simp only [go_sem, hb1, hb7, hb14]) <;> (repeat' with_reducible apply And.intro) <;> first | assumption | rfl | omega | (unfold maxLen; omega))⟩
        · rw [if_neg (Bool.eq_false_iff.1 hb14)] at h
          refine AW.skip ?_
          refine ablock_n ?_
          refine athen_n ?_
          refine AW.ops ?_
          obtain ⟨c15, h⟩ := ck_some.1 h
          refine AO.allF tab_ok (by decide) [(0, .sl (.int .i64) a), (1, .sl (.int .i64) b), (12, .int .i64 (a.length : Int)), (13, .int .i64 (st1 + 1))] [] (by (simp only [go_sem, hb1, hb7, hb14]) <;> (repeat' with_reducible apply And.intro) <;> first | assumption | rfl | omega | (unfold maxLen; omega)) ?_
          obtain rfl := Option.some.inj h
          exact ⟨_, rfl, Wk.le [] [] [] rfl (by (simp only [go_sem, hb1, hb7, hb14]) <;> (repeat' with_reducible apply And.intro) <;> first | assumption | rfl | omega | (unfold maxLen; omega)) (by (simp only [go_sem, hb1, hb7, hb14]) <;> (repeat' with_reducible apply And.intro) <;> first | assumption | rfl | omega | (unfold maxLen; omega))⟩
      · rw [if_neg (Bool.eq_false_iff.1 hb7)] at h
        refine AW.exit ?_
        refine athen_e ?_
        obtain rfl := Option.some.inj h
        rw [← hd4 _ rfl] at ho3
        have h := ho3
        try simp only at h
        refine athen_e ?_
        refine ablock_s ?_
        refine athen_n ?_
        exact AW.weaken (Wk.le [] [] [] rfl (by (simp only [go_sem, hb1, hb7]) <;> (repeat' with_reducible apply And.intro) <;> first | assumption | rfl | omega | (unfold maxLen; omega)) (by (simp only [go_sem, hb1, hb7]) <;> (repeat' with_reducible apply And.intro) <;> first | assumption | rfl | omega | (unfold maxLen; omega))) (hk_linealref03_SameInts_k1 () h)

set_option maxRecDepth 100000 in
set_option maxHeartbeats 2000000 in
theorem hc_weave_ties_class (t : (El T59)) (w : List Int) {r : Unit} (h : weave_ties_class t w = some r) : HC Try.prog 81 [] [.agg (cellsX T59 t), .sl (.int .i64) w] [(2000, .box 25 [.sl (.int .i64) w]), (2001, .box 59 (cellsX T59 t))] (.fn (.func 97) [] [.bp 2000 0, .bp 2001 0]) := by
  unfold weave_ties_class at h
  refine HC.of_body tab_ok (res := [.tmp 4]) Try.func81 rfl (by kernel_rfl) rfl (nt := 6) rfl (by decide) (by simp) ?_
  refine AW.seq ?_
  refine AW.ops ?_
  refine AO.allF tab_ok (by decide) [(2, .bp 2 0), (3, .bp 3 0)] [(2, .box 59 (cellsX T59 t)), (3, .box 25 [.sl (.int .i64) w])] (by (simp only [go_sem]) <;> (repeat' with_reducible apply And.intro) <;> first | assumption | rfl | omega | (unfold maxLen; omega)) ?_
  refine athen_n ?_
  refine AW.seq ?_
  refine AW.ops ?_
  refine AO.allF tab_ok (by decide) [(4, .fn (.func 97) [] [.bp 3 0, .bp 2 0])] [(2, .box 59 (cellsX T59 t)), (3, .box 25 [.sl (.int .i64) w])] (by (simp only [go_sem]) <;> (repeat' with_reducible apply And.intro) <;> first | assumption | rfl | omega | (unfold maxLen; omega)) ?_
  refine athen_n ?_
  refine AW.ret ?_
  obtain rfl := Option.some.inj h
  exact ⟨rfl, [], [], [(2000, 3), (2001, 2)], rfl, (by (simp only [go_sem]) <;> (repeat' with_reducible apply And.intro) <;> first | assumption | rfl | omega | (unfold maxLen; omega))⟩

set_option maxRecDepth 100000 in
set_option maxHeartbeats 2000000 in
theorem ic_weave_ties_class_1F (slf : ∀ (S R : Type), (List Int) → ((El T59)) → ((List Int) → S → Option (Step S R)) → S → Option (Sum S R)) (ic_slf : ∀ {S R : Type} (a1 : List Int) (a2 : (El T59)) (yl : (List Int) → S → Option (Step S R)) (s0 : S) {r : Sum S R}, slf S R a1 a2 yl s0 = some r → IC Try.prog 97 [(1000, .box 25 [.sl (.int .i64) a1]), (1001, .box 59 (cellsX T59 a2))] [.bp 1000 0, .bp 1001 0] (fun (y : (List Int)) => [.sl (.int .i64) y]) yl s0 r) {S R : Type} (a1 : List Int) (a2 : (El T59)) (yl : (List Int) → S → Option (Step S R)) (s0 : S) {r : Sum S R} (h : weave_ties_class_1F slf S R a1 a2 yl s0 = some r) : IC Try.prog 97 [(1000, .box 25 [.sl (.int .i64) a1]), (1001, .box 59 (cellsX T59 a2))] [.bp 1000 0, .bp 1001 0] (fun (y : (List Int)) => [.sl (.int .i64) y]) yl s0 r := by
  unfold weave_ties_class_1F at h
  refine IC.of_body Try.func97 rfl (by kernel_rfl) rfl (nt := 28) rfl (by decide) (by simp) ?_
  intro Γ Γx lp hΓ hΓx hY
  refine AW.seq ?_
  refine AW.ops ?_
  refine AO.allF tab_ok (by decide) [(1, .bp 1000 0), (2, .bp 1001 0), (3, .bp 3 0)] [(3, .box 97 [.fn (.yield lp) [] []]), (1000, .box 25 [.sl (.int .i64) a1]), (1001, .box 59 (cellsX T59 a2))] (by (simp only [go_sem]) <;> (repeat' with_reducible apply And.intro) <;> first | assumption | rfl | omega | (unfold maxLen; omega)) ?_
  refine athen_n ?_
  refine AW.seq ?_
  refine AW.seq ?_
  refine AW.ops ?_
  refine AO.allF tab_ok (by decide) [(1, .bp 1000 0), (2, .bp 1001 0), (3, .bp 3 0), (9, .bool (decide ((a1.length : Int) = 0)))] [(3, .box 97 [.fn (.yield lp) [] []]), (1000, .box 25 [.sl (.int .i64) a1]), (1001, .box 59 (cellsX T59 a2))] (by (simp only [go_sem]) <;> (repeat' with_reducible apply And.intro) <;> first | assumption | rfl | omega | (unfold maxLen; omega)) ?_
  refine athen_n ?_
  refine AW.cond (b := (decide ((a1.length : Int) = 0))) rfl (fun hb1 => ?_) (fun hb1 => ?_)
  · rw [if_pos hb1] at h
    refine AW.seq ?_
    refine AW.ops ?_
    refine AO.segF tab_ok 1 (by decide) [(10, .fn (.yield lp) [] [])] [(1000, .box 25 [.sl (.int .i64) a1]), (1001, .box 59 (cellsX T59 a2))] (by (simp only [go_sem, hb1]) <;> (repeat' with_reducible apply And.intro) <;> first | assumption | rfl | omega | (unfold maxLen; omega)) ?_
    obtain ⟨x2, hx3, h⟩ := Option.bind_eq_some_iff.1 h
    refine yield_op rfl rfl rfl (by decide) _ rfl hY hΓ hΓx [] [] (by (simp only [go_sem, hb1]) <;> (repeat' with_reducible apply And.intro) <;> first | assumption | rfl | omega | (unfold maxLen; omega)) hx3 ?_
    cases x2 with
    | next s =>
      try simp only at h
      refine AO.weaken (s' := ⟨fr [], hpGet [(1000, .box 25 [.sl (.int .i64) a1]), (1001, .box 59 (cellsX T59 a2))], (Γ s)⟩) (Wk.to (by (simp only [go_sem, hb1]) <;> (repeat' with_reducible apply And.intro) <;> first | assumption | rfl | omega | (unfold maxLen; omega))) ?_
      refine AO.allF tab_ok (by decide) [] [(1000, .box 25 [.sl (.int .i64) a1]), (1001, .box 59 (cellsX T59 a2))] (by (simp only [go_sem, hb1]) <;> (repeat' with_reducible apply And.intro) <;> first | assumption | rfl | omega | (unfold maxLen; omega)) ?_
      refine athen_n ?_
      refine AW.ret ?_
      refine athen_r ?_
      obtain rfl := Option.some.inj h
      exact rfl
    | done e =>
      try simp only at h
      refine AO.weaken (s' := ⟨fr [], hpGet [(1000, .box 25 [.sl (.int .i64) a1]), (1001, .box 59 (cellsX T59 a2))], (Γx e)⟩) (Wk.to (by (simp only [go_sem, hb1]) <;> (repeat' with_reducible apply And.intro) <;> first | assumption | rfl | omega | (unfold maxLen; omega))) ?_
      refine AO.allF tab_ok (by decide) [] [(1000, .box 25 [.sl (.int .i64) a1]), (1001, .box 59 (cellsX T59 a2))] (by (simp only [go_sem, hb1]) <;> (repeat' with_reducible apply And.intro) <;> first | assumption | rfl | omega | (unfold maxLen; omega)) ?_
      refine athen_n ?_
      refine AW.ret ?_
      refine athen_r ?_
      obtain rfl := Option.some.inj h
      exact rfl
  · rw [if_neg (Bool.eq_false_iff.1 hb1)] at h
    refine AW.skip ?_
    refine athen_n ?_
    refine AW.seq ?_
    refine AW.ops ?_
    refine AO.segF tab_ok 2 (by decide) [(2, .bp 1001 0), (3, .bp 3 0), (12, .agg (cellsX T59 a2)), (13, .sl (.int .i64) a1)] [(3, .box 97 [.fn (.yield lp) [] []]), (1000, .box 25 [.sl (.int .i64) a1]), (1001, .box 59 (cellsX T59 a2))] (by (simp only [go_sem, hb1]) <;> (repeat' with_reducible apply And.intro) <;> first | assumption | rfl | omega | (unfold maxLen; omega)) ?_
    obtain ⟨v0, hv4, h⟩ := Option.bind_eq_some_iff.1 h
    refine AO.call tab_ok (by decide) rfl rfl rfl (fun _ h => h) [] [] (hc_weave_ties_starts a2 a1 hv4) rfl (by (simp only [go_sem, hb1]) <;> (repeat' with_reducible apply And.intro) <;> first | assumption | rfl | omega | (unfold maxLen; omega)) (by (simp only [go_sem, hb1]) <;> (repeat' with_reducible apply And.intro) <;> first | assumption | rfl | omega | (unfold maxLen; omega)) [(2, .bp 1001 0), (3, .bp 3 0), (14, .fn (.func 94) [] [.bp 24000 0, .bp 24001 0])] [(3, .box 97 [.fn (.yield lp) [] []]), (1000, .box 25 [.sl (.int .i64) a1]), (1001, .box 59 (cellsX T59 a2)), (24000, .box 59 (cellsX T59 a2)), (24001, .box 25 [.sl (.int .i64) a1])] (by (simp only [go_sem, hb1]) <;> (repeat' with_reducible apply And.intro) <;> first | assumption | rfl | omega | (unfold maxLen; omega)) ?_
    refine AO.allF tab_ok (by decide) [(2, .bp 1001 0), (3, .bp 3 0), (14, .fn (.func 94) [] [.bp 24000 0, .bp 24001 0])] [(3, .box 97 [.fn (.yield lp) [] []]), (1000, .box 25 [.sl (.int .i64) a1]), (1001, .box 59 (cellsX T59 a2)), (24000, .box 59 (cellsX T59 a2)), (24001, .box 25 [.sl (.int .i64) a1])] (by (simp only [go_sem, hb1]) <;> (repeat' with_reducible apply And.intro) <;> first | assumption | rfl | omega | (unfold maxLen; omega)) ?_
    refine athen_n ?_
    refine AW.block ?_
    obtain ⟨x5, hx6, h⟩ := Option.bind_eq_some_iff.1 h
    refine AW.weaken (s' := ⟨fr [(2, .bp 1001 0), (3, .bp 3 0), (14, .fn (.func 94) [] [.bp 24000 0, .bp 24001 0])], hpGet ([(24000, .box 59 (cellsX T59 a2)), (24001, .box 25 [.sl (.int .i64) a1])] ++ [(3, .box 97 [.fn (.yield lp) [] []]), (1000, .box 25 [.sl (.int .i64) a1]), (1001, .box 59 (cellsX T59 a2))]), (Γ s0)⟩) (Wk.le [] [] [] rfl (by (simp only [go_sem, hb1]) <;> (repeat' with_reducible apply And.intro) <;> first | assumption | rfl | omega | (unfold maxLen; omega)) (by (simp only [go_sem, hb1]) <;> (repeat' with_reducible apply And.intro) <;> first | assumption | rfl | omega | (unfold maxLen; omega))) ?_
    refine AW.rangeF (R := R) (l0 := [(2, .bp 1001 0), (3, .bp 3 0)]) (hI := [(24000, .box 59 (cellsX T59 a2)), (24001, .box 25 [.sl (.int .i64) a1])]) (h0 := fun (st1 : S) => [(3, .box 97 [.fn (.yield lp) [] []]), (1000, .box 25 [.sl (.int .i64) a1]), (1001, .box 59 (cellsX T59 a2))]) (gg := fun (st1 : S) => (Γ st1)) (hx0 := (fun (r1 : R) => [(3, .box 97 [.fn (.yield lp) [] []]), (1000, .box 25 [.sl (.int .i64) a1]), (1001, .box 59 (cellsX T59 a2))])) (gx := (fun (r1 : R) => (Γx r1))) (ex := (fun (r1 : R) => Exit.ret)) s0 [(24000, 1000), (24001, 1001)] [(1000, 24000), (1001, 24001)] [(3, 1900)] [(1900, 3)] (by decide) rfl (by first | exact (ic_weave_ties_starts_1 a2 a1 (weave_ties_class_1_y1 S R slf a2 yl) s0 hx6) | simpa only [go_sem] using (ic_weave_ties_starts_1 a2 a1 (weave_ties_class_1_y1 S R slf a2 yl) s0 hx6)) (by (simp only [go_sem, hb1]) <;> (repeat' with_reducible apply And.intro) <;> first | assumption | rfl | omega | (unfold maxLen; omega)) rfl rfl rfl (fun _ => rfl) rfl (fun _ => rfl) rfl (fun _ => rfl) (fun _ => rfl) (fun _ => rfl) (fun _ => rfl) rfl (fun _ _ => by first | rfl | (exact (hΓ _).trans (hΓ _).symm) | (exact (hΓx _).trans (hΓ _).symm)) (fun _ _ => by first | rfl | (exact (hΓ _).trans (hΓ _).symm) | (exact (hΓx _).trans (hΓ _).symm)) ?_ ?_
    · intro lpy1 y1 st1 x7 h
      unfold weave_ties_class_1_y1 at h
      refine AW.weaken (s' := ⟨fr [(2, .bp 1001 0), (3, .bp 1900 0), (15, .int .i64 y1.1), (16, .sl (.int .i64) y1.2)], hpGet [(1000, .box 25 [.sl (.int .i64) a1]), (1001, .box 59 (cellsX T59 a2)), (1900, .box 97 [.fn (.yield lp) [] []])], (Γ st1)⟩) (Wk.to (by (simp only [go_sem, hb1]) <;> (repeat' with_reducible apply And.intro) <;> first | assumption | rfl | omega | (unfold maxLen; omega))) ?_
      refine AW.seq ?_
      refine AW.ops ?_
      refine AO.allF tab_ok (by decide) [(2, .bp 1001 0), (3, .bp 1900 0), (4, .bp 4 0), (16, .sl (.int .i64) y1.2)] [(4, .box 3 [.int .i64 y1.1]), (1000, .box 25 [.sl (.int .i64) a1]), (1001, .box 59 (cellsX T59 a2)), (1900, .box 97 [.fn (.yield lp) [] []])] (by (simp only [go_sem, hb1]) <;> (repeat' with_reducible apply And.intro) <;> first | assumption | rfl | omega | (unfold maxLen; omega)) ?_
      refine athen_n ?_
      refine AW.ops ?_
      refine AO.allF tab_ok (by decide) [(2, .bp 1001 0), (3, .bp 1900 0), (4, .bp 4 0), (5, .sl (.int .i64) y1.2)] [(4, .box 3 [.int .i64 y1.1]), (1000, .box 25 [.sl (.int .i64) a1]), (1001, .box 59 (cellsX T59 a2)), (1900, .box 97 [.fn (.yield lp) [] []])] (by (simp only [go_sem, hb1]) <;> (repeat' with_reducible apply And.intro) <;> first | assumption | rfl | omega | (unfold maxLen; omega)) ?_
      refine And.intro rfl ?_
      refine AW.block ?_
      refine AW.seq ?_
      refine AW.ops ?_
      refine AO.segF tab_ok 2 (by decide) [(2, .bp 1001 0), (3, .bp 1900 0), (4, .bp 4 0), (17, .agg (cellsX T59 a2)), (18, .sl (.int .i64) y1.2)] [(4, .box 3 [.int .i64 y1.1]), (1000, .box 25 [.sl (.int .i64) a1]), (1001, .box 59 (cellsX T59 a2)), (1900, .box 97 [.fn (.yield lp) [] []])] (by (simp only [go_sem, hb1]) <;> (repeat' with_reducible apply And.intro) <;> first | assumption | rfl | omega | (unfold maxLen; omega)) ?_
      obtain ⟨v0_2, hv8, h⟩ := Option.bind_eq_some_iff.1 h
      refine AO.call tab_ok (by decide) rfl rfl rfl (fun _ h => h) [] [] (hc_weave_ties_class a2 y1.2 hv8) rfl (by (simp only [go_sem, hb1]) <;> (repeat' with_reducible apply And.intro) <;> first | assumption | rfl | omega | (unfold maxLen; omega)) (by (simp only [go_sem, hb1]) <;> (repeat' with_reducible apply And.intro) <;> first | assumption | rfl | omega | (unfold maxLen; omega)) [(2, .bp 1001 0), (3, .bp 1900 0), (4, .bp 4 0), (19, .fn (.func 97) [] [.bp 29000 0, .bp 29001 0])] [(4, .box 3 [.int .i64 y1.1]), (1000, .box 25 [.sl (.int .i64) a1]), (1001, .box 59 (cellsX T59 a2)), (1900, .box 97 [.fn (.yield lp) [] []]), (29000, .box 25 [.sl (.int .i64) y1.2]), (29001, .box 59 (cellsX T59 a2))] (by (simp only [go_sem, hb1]) <;> (repeat' with_reducible apply And.intro) <;> first | assumption | rfl | omega | (unfold maxLen; omega)) ?_
      refine AO.allF tab_ok (by decide) [(2, .bp 1001 0), (3, .bp 1900 0), (4, .bp 4 0), (19, .fn (.func 97) [] [.bp 29000 0, .bp 29001 0])] [(4, .box 3 [.int .i64 y1.1]), (1000, .box 25 [.sl (.int .i64) a1]), (1001, .box 59 (cellsX T59 a2)), (1900, .box 97 [.fn (.yield lp) [] []]), (29000, .box 25 [.sl (.int .i64) y1.2]), (29001, .box 59 (cellsX T59 a2))] (by (simp only [go_sem, hb1]) <;> (repeat' with_reducible apply And.intro) <;> first | assumption | rfl | omega | (unfold maxLen; omega)) ?_
      refine athen_n ?_
      refine AW.block ?_
      obtain ⟨x9, hx10, h⟩ := Option.bind_eq_some_iff.1 h
      refine AW.weaken (s' := ⟨fr [(2, .bp 1001 0), (3, .bp 1900 0), (4, .bp 4 0), (19, .fn (.func 97) [] [.bp 29000 0, .bp 29001 0])], hpGet ([(29000, .box 25 [.sl (.int .i64) y1.2]), (29001, .box 59 (cellsX T59 a2))] ++ [(4, .box 3 [.int .i64 y1.1]), (1000, .box 25 [.sl (.int .i64) a1]), (1001, .box 59 (cellsX T59 a2)), (1900, .box 97 [.fn (.yield lp) [] []])]), (Γ st1)⟩) (Wk.le [] [] [] rfl (by (simp only [go_sem, hb1]) <;> (repeat' with_reducible apply And.intro) <;> first | assumption | rfl | omega | (unfold maxLen; omega)) (by (simp only [go_sem, hb1]) <;> (repeat' with_reducible apply And.intro) <;> first | assumption | rfl | omega | (unfold maxLen; omega))) ?_
      refine AW.rangeF (R := R) (l0 := [(2, .bp 1001 0), (3, .bp 1900 0), (4, .bp 4 0)]) (hI := [(29000, .box 25 [.sl (.int .i64) y1.2]), (29001, .box 59 (cellsX T59 a2))]) (h0 := fun (st2 : S) => [(4, .box 3 [.int .i64 y1.1]), (1000, .box 25 [.sl (.int .i64) a1]), (1001, .box 59 (cellsX T59 a2)), (1900, .box 97 [.fn (.yield lp) [] []])]) (gg := fun (st2 : S) => (Γ st2)) (hx0 := (fun (r2 : R) => [(4, .box 3 [.int .i64 y1.1]), (1000, .box 25 [.sl (.int .i64) a1]), (1001, .box 59 (cellsX T59 a2)), (1900, .box 97 [.fn (.yield lp) [] []])])) (gx := (fun (r2 : R) => (Γx r2))) (ex := (fun (r2 : R) => Exit.ret)) st1 [(29000, 1000), (29001, 1001)] [(1000, 29000), (1001, 29001)] [(4, 1901)] [(1901, 4)] (by decide) rfl (by first | exact (ic_slf y1.2 a2 (weave_ties_class_1_y2 S R yl y1) st1 hx10) | simpa only [go_sem] using (ic_slf y1.2 a2 (weave_ties_class_1_y2 S R yl y1) st1 hx10)) (by (simp only [go_sem, hb1]) <;> (repeat' with_reducible apply And.intro) <;> first | assumption | rfl | omega | (unfold maxLen; omega)) rfl rfl rfl (fun _ => rfl) rfl (fun _ => rfl) rfl (fun _ => rfl) (fun _ => rfl) (fun _ => rfl) (fun _ => rfl) rfl (fun _ _ => by first | rfl | (exact (hΓ _).trans (hΓ _).symm) | (exact (hΓx _).trans (hΓ _).symm)) (fun _ _ => by first | rfl | (exact (hΓ _).trans (hΓ _).symm) | (exact (hΓx _).trans (hΓ _).symm)) ?_ ?_
      · intro lpy2 y2 st2 x11 h
        unfold weave_ties_class_1_y2 at h
        refine AW.weaken (s' := ⟨fr [(2, .bp 1001 0), (3, .bp 1900 0), (4, .bp 1901 0), (20, .sl (.int .i64) y2)], hpGet [(1000, .box 25 [.sl (.int .i64) a1]), (1001, .box 59 (cellsX T59 a2)), (1900, .box 97 [.fn (.yield lp) [] []]), (1901, .box 3 [.int .i64 y1.1])], (Γ st2)⟩) (Wk.to (by (simp only [go_sem, hb1]) <;> (repeat' with_reducible apply And.intro) <;> first | assumption | rfl | omega | (unfold maxLen; omega))) ?_
        refine AW.ops ?_
        refine AO.allF tab_ok (by decide) [(2, .bp 1001 0), (3, .bp 1900 0), (4, .bp 1901 0), (6, .sl (.int .i64) y2)] [(1000, .box 25 [.sl (.int .i64) a1]), (1001, .box 59 (cellsX T59 a2)), (1900, .box 97 [.fn (.yield lp) [] []]), (1901, .box 3 [.int .i64 y1.1])] (by (simp only [go_sem, hb1]) <;> (repeat' with_reducible apply And.intro) <;> first | assumption | rfl | omega | (unfold maxLen; omega)) ?_
        refine And.intro rfl ?_
        refine AW.block ?_
        refine AW.seq ?_
        refine AW.drawTail tab_ok mixed_ok 5 [(2, [23]), (4, [23, 25])] [(0, [1900]), (3, [])] (by decide) (by kernel_rfl) (by kernel_rfl) (by decide) ?_
        dsimp only [List.take_succ_cons, List.take_zero]
        obtain ⟨c13, h⟩ := ck_some.1 h
        refine adops_cut 5 (fun K' hK12 => ?_)
        try dsimp only [List.drop_succ_cons, List.drop_zero, List.take_succ_cons, List.take_zero]
        simp only [go_sem, hb1]
        repeat (with_reducible refine And.intro (by first | assumption | rfl | omega | trivial | (unfold maxLen; omega)) ?_)
        refine hK12 _ ?_
        refine adops_nil ?_
        refine AO.weaken (s' := ⟨fr [(2, .bp 1001 0), (3, .bp 1900 0), (4, .bp 1901 0), (21, .fn (.yield lp) [] []), (25, .own 25)], hpGet [(25, .arr 3 (.int .i64) (y1.1 :: y2)), (1000, .box 25 [.sl (.int .i64) a1]), (1001, .box 59 (cellsX T59 a2)), (1900, .box 97 [.fn (.yield lp) [] []]), (1901, .box 3 [.int .i64 y1.1])], (Γ st2)⟩) (Wk.to (by (simp only [go_sem, hb1]) <;> (repeat' with_reducible apply And.intro) <;> first | assumption | rfl | omega | (unfold maxLen; omega))) ?_
        obtain ⟨x14, hx15, h⟩ := Option.bind_eq_some_iff.1 h
        refine yield_op rfl rfl rfl (by decide) _ rfl hY hΓ hΓx (y1.1 :: y2) [25] (by (simp only [go_sem, hb1]) <;> (repeat' with_reducible apply And.intro) <;> first | assumption | rfl | omega | (unfold maxLen; omega)) hx15 ?_
        cases x14 with
        | next s_2 =>
          try simp only at h
          refine AO.weaken (s' := ⟨fr [(2, .bp 1001 0), (3, .bp 1900 0), (4, .bp 1901 0), (26, .bool true)], hpGet [(1000, .box 25 [.sl (.int .i64) a1]), (1001, .box 59 (cellsX T59 a2)), (1900, .box 97 [.fn (.yield lp) [] []]), (1901, .box 3 [.int .i64 y1.1])], (Γ s_2)⟩) (Wk.to (by (simp only [go_sem, hb1]) <;> (repeat' with_reducible apply And.intro) <;> first | assumption | rfl | omega | (unfold maxLen; omega))) ?_
          refine AO.allF tab_ok (by decide) [(2, .bp 1001 0), (3, .bp 1900 0), (4, .bp 1901 0), (27, .bool false)] [(1000, .box 25 [.sl (.int .i64) a1]), (1001, .box 59 (cellsX T59 a2)), (1900, .box 97 [.fn (.yield lp) [] []]), (1901, .box 3 [.int .i64 y1.1])] (by (simp only [go_sem, hb1]) <;> (repeat' with_reducible apply And.intro) <;> first | assumption | rfl | omega | (unfold maxLen; omega)) ?_
          refine athen_n ?_
          refine AW.cond (b := false) rfl (fun hb16 => by cases hb16) (fun _ => ?_)
          refine AW.skip ?_
          refine ablock_n ?_
          obtain rfl := Option.some.inj h
          exact rpost_next rfl [] [] [] rfl (by (simp only [go_sem, hb1]) <;> (repeat' with_reducible apply And.intro) <;> first | assumption | rfl | omega | (unfold maxLen; omega))
        | done e_2 =>
          try simp only at h
          refine AO.weaken (s' := ⟨fr [(2, .bp 1001 0), (3, .bp 1900 0), (4, .bp 1901 0), (26, .bool false)], hpGet [(1000, .box 25 [.sl (.int .i64) a1]), (1001, .box 59 (cellsX T59 a2)), (1900, .box 97 [.fn (.yield lp) [] []]), (1901, .box 3 [.int .i64 y1.1])], (Γx e_2)⟩) (Wk.to (by (simp only [go_sem, hb1]) <;> (repeat' with_reducible apply And.intro) <;> first | assumption | rfl | omega | (unfold maxLen; omega))) ?_
          refine AO.allF tab_ok (by decide) [(2, .bp 1001 0), (3, .bp 1900 0), (4, .bp 1901 0), (27, .bool true)] [(1000, .box 25 [.sl (.int .i64) a1]), (1001, .box 59 (cellsX T59 a2)), (1900, .box 97 [.fn (.yield lp) [] []]), (1901, .box 3 [.int .i64 y1.1])] (by (simp only [go_sem, hb1]) <;> (repeat' with_reducible apply And.intro) <;> first | assumption | rfl | omega | (unfold maxLen; omega)) ?_
          refine athen_n ?_
          refine AW.cond (b := true) rfl (fun _ => ?_) (fun hb17 => by cases hb17)
          refine AW.ret ?_
          refine ablock_r ?_
          obtain rfl := Option.some.inj h
          exact rpost_ret rfl rfl [] [] [] rfl (by (simp only [go_sem, hb1]) <;> (repeat' with_reducible apply And.intro) <;> first | assumption | rfl | omega | (unfold maxLen; omega))
      · cases x9 with
        | inl st2_2 =>
          try simp only at h
          refine ablock_n ?_
          refine ablock_n ?_
          obtain rfl := Option.some.inj h
          exact rpost_next rfl [] [] [] rfl (by (simp only [go_sem, hb1]) <;> (repeat' with_reducible apply And.intro) <;> first | assumption | rfl | omega | (unfold maxLen; omega))
        | inr r2 =>
          try simp only at h
          refine ablock_r ?_
          refine ablock_r ?_
          obtain rfl := Option.some.inj h
          exact rpost_ret rfl rfl [] [] [] rfl (by (simp only [go_sem, hb1]) <;> (repeat' with_reducible apply And.intro) <;> first | assumption | rfl | omega | (unfold maxLen; omega))
    · cases x5 with
      | inl st1_2 =>
        try simp only at h
        refine ablock_n ?_
        obtain rfl := Option.some.inj h
        exact rfl
      | inr r1 =>
        try simp only at h
        refine ablock_r ?_
        obtain rfl := Option.some.inj h
        exact rfl

theorem ic_weave_ties_class_1 : ∀ (n : Nat) {S R : Type} (a1 : List Int) (a2 : (El T59)) (yl : (List Int) → S → Option (Step S R)) (s0 : S) {r : Sum S R}, weave_ties_class_1 n S R a1 a2 yl s0 = some r → IC Try.prog 97 [(1000, .box 25 [.sl (.int .i64) a1]), (1001, .box 59 (cellsX T59 a2))] [.bp 1000 0, .bp 1001 0] (fun (y : (List Int)) => [.sl (.int .i64) y]) yl s0 r := by
  intro n
  induction n with
  | zero => intro S R a1 a2 yl s0 r h; cases h
  | succ n ih => intro S R a1 a2 yl s0 r h; exact ic_weave_ties_class_1F (weave_ties_class_1 n) ih a1 a2 yl s0 h

set_option maxRecDepth 100000 in
set_option maxHeartbeats 2000000 in
theorem hc_weave_ties_first (t : (El T59)) (w : List Int) {r : (List Int)} (h : weave_ties_first t w = some r) : HC Try.prog 70 [] [.agg (cellsX T59 t), .sl (.int .i64) w] [] (.sl (.int .i64) r) := by
  unfold weave_ties_first at h
  refine HC.of_body tab_ok (res := [.cell 4 25]) Try.func70 rfl (by kernel_rfl) rfl (nt := 11) rfl (by decide) (by simp) ?_
  refine AW.seq ?_
  refine AW.ops ?_
  refine AO.allF tab_ok (by decide) [(1, .sl (.int .i64) w), (2, .bp 2 0), (4, .bp 4 0)] [(2, .box 59 (cellsX T59 t)), (4, .box 25 [.cv (.slice none 0 0)])] (by (simp only [go_sem]) <;> (repeat' with_reducible apply And.intro) <;> first | assumption | rfl | omega | (unfold maxLen; omega)) ?_
  refine athen_n ?_
  refine AW.have1 (fun _ : Unit => weave_ties_first_k1 = some r) (fun _ => ⟨fr [(4, .bp 4 0)], hpGet [(4, .box 25 [.cv (.slice none 0 0)])], gt⟩) (fun _ h => ?_) (fun hk_weave_ties_first_k1 => ?_)
  · unfold weave_ties_first_k1 at h
    refine AW.seq ?_
    refine AW.ops ?_
    refine AO.allF tab_ok (by decide) [(4, .bp 4 0)] [(4, .box 25 [.cv (.slice none 0 0)])] (by (simp only [go_sem]) <;> (repeat' with_reducible apply And.intro) <;> first | assumption | rfl | omega | (unfold maxLen; omega)) ?_
    refine athen_n ?_
    refine AW.ret ?_
    obtain rfl := Option.some.inj h
    exact ⟨rfl, [], [], [], rfl, (by (simp only [go_sem]) <;> (repeat' with_reducible apply And.intro) <;> first | assumption | rfl | omega | (unfold maxLen; omega))⟩
  · refine AW.seq ?_
    refine AW.seq ?_
    refine AW.ops ?_
    refine AO.segF tab_ok 2 (by decide) [(4, .bp 4 0), (6, .agg (cellsX T59 t)), (7, .sl (.int .i64) w)] [(4, .box 25 [.cv (.slice none 0 0)])] (by (simp only [go_sem]) <;> (repeat' with_reducible apply And.intro) <;> first | assumption | rfl | omega | (unfold maxLen; omega)) ?_
    obtain ⟨v0, hv1, h⟩ := Option.bind_eq_some_iff.1 h
    refine AO.call tab_ok (by decide) rfl rfl rfl (fun _ h => h) [] [] (hc_weave_ties_class t w hv1) rfl (by (simp only [go_sem]) <;> (repeat' with_reducible apply And.intro) <;> first | assumption | rfl | omega | (unfold maxLen; omega)) (by (simp only [go_sem]) <;> (repeat' with_reducible apply And.intro) <;> first | assumption | rfl | omega | (unfold maxLen; omega)) [(4, .bp 4 0), (8, .fn (.func 97) [] [.bp 18000 0, .bp 18001 0])] [(4, .box 25 [.cv (.slice none 0 0)]), (18000, .box 25 [.sl (.int .i64) w]), (18001, .box 59 (cellsX T59 t))] (by (simp only [go_sem]) <;> (repeat' with_reducible apply And.intro) <;> first | assumption | rfl | omega | (unfold maxLen; omega)) ?_
    refine AO.allF tab_ok (by decide) [(4, .bp 4 0), (8, .fn (.func 97) [] [.bp 18000 0, .bp 18001 0])] [(4, .box 25 [.cv (.slice none 0 0)]), (18000, .box 25 [.sl (.int .i64) w]), (18001, .box 59 (cellsX T59 t))] (by (simp only [go_sem]) <;> (repeat' with_reducible apply And.intro) <;> first | assumption | rfl | omega | (unfold maxLen; omega)) ?_
    refine athen_n ?_
    refine AW.block ?_
    obtain ⟨x2, hx3, h⟩ := Option.bind_eq_some_iff.1 h
    refine AW.weaken (s' := ⟨fr [(4, .bp 4 0), (8, .fn (.func 97) [] [.bp 18000 0, .bp 18001 0])], hpGet ([(18000, .box 25 [.sl (.int .i64) w]), (18001, .box 59 (cellsX T59 t))] ++ [(4, .box 25 [.cv (.slice none 0 0)])]), gt⟩) (Wk.le [] [] [] rfl (by (simp only [go_sem]) <;> (repeat' with_reducible apply And.intro) <;> first | assumption | rfl | omega | (unfold maxLen; omega)) (by (simp only [go_sem]) <;> (repeat' with_reducible apply And.intro) <;> first | assumption | rfl | omega | (unfold maxLen; omega))) ?_
    refine AW.rangeF (R := (List Int)) (l0 := [(4, .bp 4 0)]) (hI := [(18000, .box 25 [.sl (.int .i64) w]), (18001, .box 59 (cellsX T59 t))]) (h0 := fun (st1 : Unit) => [(4, .box 25 [.cv (.slice none 0 0)])]) (gg := fun (st1 : Unit) => gt) (hx0 := (fun (r1 : (List Int)) => [(4, .box 25 [.sl (.int .i64) r1])])) (gx := (fun (r1 : (List Int)) => gt)) (ex := (fun (r1 : (List Int)) => Exit.ret)) () [(18000, 1000), (18001, 1001)] [(1000, 18000), (1001, 18001)] [(4, 1900)] [(1900, 4)] (by decide) rfl (by first | exact (ic_weave_ties_class_1 fuel w t (weave_ties_first_y1) () hx3) | simpa only [go_sem] using (ic_weave_ties_class_1 fuel w t (weave_ties_first_y1) () hx3)) (by (simp only [go_sem]) <;> (repeat' with_reducible apply And.intro) <;> first | assumption | rfl | omega | (unfold maxLen; omega)) rfl rfl rfl (fun _ => rfl) rfl (fun _ => rfl) rfl (fun _ => rfl) (fun _ => rfl) (fun _ => rfl) (fun _ => rfl) rfl (fun _ _ => by first | rfl | (exact (hΓ _).trans (hΓ _).symm) | (exact (hΓx _).trans (hΓ _).symm)) (fun _ _ => by first | rfl | (exact (hΓ _).trans (hΓ _).symm) | (exact (hΓx _).trans (hΓ _).symm)) ?_ ?_
    · intro lpy1 y1 st1 x4 h
      unfold weave_ties_first_y1 at h
      refine AW.weaken (s' := ⟨fr [(4, .bp 1900 0), (9, .sl (.int .i64) y1)], hpGet [(1900, .box 25 [.cv (.slice none 0 0)])], gt⟩) (Wk.to (by (simp only [go_sem]) <;> (repeat' with_reducible apply And.intro) <;> first | assumption | rfl | omega | (unfold maxLen; omega))) ?_
      refine AW.ops ?_
      refine AO.allF tab_ok (by decide) [(4, .bp 1900 0), (5, .sl (.int .i64) y1)] [(1900, .box 25 [.cv (.slice none 0 0)])] (by (simp only [go_sem]) <;> (repeat' with_reducible apply And.intro) <;> first | assumption | rfl | omega | (unfold maxLen; omega)) ?_
      refine And.intro rfl ?_
      refine AW.block ?_
      refine AW.seq ?_
      refine AW.ops ?_
      refine AO.allF tab_ok (by decide) [(4, .bp 1900 0)] [(1900, .box 25 [.sl (.int .i64) y1])] (by (simp only [go_sem]) <;> (repeat' with_reducible apply And.intro) <;> first | assumption | rfl | omega | (unfold maxLen; omega)) ?_
      refine athen_n ?_
      refine AW.ret ?_
      refine ablock_r ?_
      obtain rfl := Option.some.inj h
      exact rpost_ret rfl rfl [] [] [] rfl (by (simp only [go_sem]) <;> (repeat' with_reducible apply And.intro) <;> first | assumption | rfl | omega | (unfold maxLen; omega))
    · cases x2 with
      | inl st1_2 =>
        try simp only at h
        refine ablock_n ?_
        refine athen_n ?_
        exact AW.weaken (Wk.le [] [] [] rfl (by (simp only [go_sem]) <;> (repeat' with_reducible apply And.intro) <;> first | assumption | rfl | omega | (unfold maxLen; omega)) (by (simp only [go_sem]) <;> (repeat' with_reducible apply And.intro) <;> first | assumption | rfl | omega | (unfold maxLen; omega))) (hk_weave_ties_first_k1 () h)
      | inr r1 =>
        try simp only at h
        refine ablock_r ?_
        refine athen_r ?_
        obtain rfl := Option.some.inj h
        exact ⟨rfl, [], [], [], rfl, (by (simp only [go_sem]) <;> (repeat' with_reducible apply And.intro) <;> first | assumption | rfl | omega | (unfold maxLen; omega))⟩

set_option maxRecDepth 100000 in
set_option maxHeartbeats 2000000 in
theorem hc_linealref03_free (l : Int × (List (Int × Int))) (w : List Int) (a : Int) {r : Int} (h : linealref03_free l w a = some r) : HC Try.prog 92 [] [.agg [.int .i64 l.1, .sl (.pair (.int .i64) (.int .i64)) l.2], .sl (.int .i64) w, .int .i64 a] [] (.int .i64 r) := by
  unfold linealref03_free at h
  refine HC.of_body tab_ok (res := [.tmp 6]) Try.func92 rfl (by kernel_rfl) rfl (nt := 25) rfl (by decide) (by simp) ?_
  refine AW.seq ?_
  refine AW.ops ?_
  refine AO.allF tab_ok (by decide) [(1, .sl (.int .i64) w), (2, .int .i64 a), (3, .bp 3 0)] [(3, .box 24 [.int .i64 l.1, .sl (.pair (.int .i64) (.int .i64)) l.2])] (by (simp only [go_sem]) <;> (repeat' with_reducible apply And.intro) <;> first | assumption | rfl | omega | (unfold maxLen; omega)) ?_
  refine athen_n ?_
  refine AW.have1 (fun _ : Unit => linealref03_free_k1 = some r) (fun _ => ⟨fr [], hpGet [], gt⟩) (fun _ h => ?_) (fun hk_linealref03_free_k1 => ?_)
  · unfold linealref03_free_k1 at h
    refine AW.seq ?_
    refine AW.ops ?_
    refine AO.allF tab_ok (by decide) [(6, .int .i64 (-1))] [] (by (simp only [go_sem]) <;> (repeat' with_reducible apply And.intro) <;> first | assumption | rfl | omega | (unfold maxLen; omega)) ?_
    refine athen_n ?_
    refine AW.ret ?_
    obtain rfl := Option.some.inj h
    exact ⟨rfl, [], [], [], rfl, (by (simp only [go_sem]) <;> (repeat' with_reducible apply And.intro) <;> first | assumption | rfl | omega | (unfold maxLen; omega))⟩
  · refine AW.seq ?_
    refine AW.seq ?_
    refine AW.ops ?_
    refine AO.allF tab_ok (by decide) [(2, .int .i64 a), (3, .bp 3 0), (9, .sl (.int .i64) w), (10, .int .i64 (w.length : Int)), (11, .int .i64 0)] [(3, .box 24 [.int .i64 l.1, .sl (.pair (.int .i64) (.int .i64)) l.2])] (by (simp only [go_sem]) <;> (repeat' with_reducible apply And.intro) <;> first | assumption | rfl | omega | (unfold maxLen; omega)) ?_
    refine athen_n ?_
    refine AW.block ?_
    obtain ⟨rv5, hw1, ho2⟩ := Option.bind_eq_some_iff.1 h
    refine AW.loopO (linealref03_free_b1 l w a) (fun st1 => ⟨fr [(2, .int .i64 a), (3, .bp 3 0), (9, .sl (.int .i64) w), (10, .int .i64 (w.length : Int)), (11, .int .i64 st1)], hpGet [(3, .box 24 [.int .i64 l.1, .sl (.pair (.int .i64) (.int .i64)) l.2])], gt⟩) 0 hw1 (Wk.le [] [] [] rfl (by (simp only [go_sem]) <;> (repeat' with_reducible apply And.intro) <;> first | assumption | rfl | omega | (unfold maxLen; omega)) (by (simp only [go_sem]) <;> (repeat' with_reducible apply And.intro) <;> first | assumption | rfl | omega | (unfold maxLen; omega))) ?_
    intro st1 x4 h hd3
    unfold linealref03_free_b1 at h
    refine AW.seq ?_
    refine AW.ops ?_
    refine AO.allF tab_ok (by decide) [(2, .int .i64 a), (3, .bp 3 0), (9, .sl (.int .i64) w), (10, .int .i64 (w.length : Int)), (11, .int .i64 st1), (12, .bool (decide (st1 < (w.length : Int))))] [(3, .box 24 [.int .i64 l.1, .sl (.pair (.int .i64) (.int .i64)) l.2])] (by (simp only [go_sem]) <;> (repeat' with_reducible apply And.intro) <;> first | assumption | rfl | omega | (unfold maxLen; omega)) ?_
    refine athen_n ?_
    refine AW.seq ?_
    refine AW.cond (b := (decide (st1 < (w.length : Int)))) rfl (fun hb6 => ?_) (fun hb6 => ?_)
    · rw [if_pos hb6] at h
      refine AW.skip ?_
      refine athen_n ?_
      refine AW.seq ?_
      refine AW.block ?_
      refine AW.seq ?_
      refine AW.ops ?_
      obtain ⟨c7, h⟩ := ck_some.1 h
      obtain ⟨c8, h⟩ := ck_some.1 h
      refine AO.allF tab_ok (by decide) [(2, .int .i64 a), (3, .bp 3 0), (7, .int .i64 st1), (8, .int .i64 (w.getD st1.toNat 0)), (9, .sl (.int .i64) w), (10, .int .i64 (w.length : Int)), (11, .int .i64 st1)] [(3, .box 24 [.int .i64 l.1, .sl (.pair (.int .i64) (.int .i64)) l.2])] (by (simp only [go_sem, hb6]) <;> (repeat' with_reducible apply And.intro) <;> first | assumption | rfl | omega | (unfold maxLen; omega)) ?_
      refine athen_n ?_
      refine AW.seq ?_
      refine AW.seq ?_
      refine AW.ops ?_
      refine AO.allF tab_ok (by decide) [(2, .int .i64 a), (3, .bp 3 0), (7, .int .i64 st1), (8, .int .i64 (w.getD st1.toNat 0)), (9, .sl (.int .i64) w), (10, .int .i64 (w.length : Int)), (11, .int .i64 st1), (18, .bool (decide ((w.getD st1.toNat 0) = a)))] [(3, .box 24 [.int .i64 l.1, .sl (.pair (.int .i64) (.int .i64)) l.2])] (by (simp only [go_sem, hb6]) <;> (repeat' with_reducible apply And.intro) <;> first | assumption | rfl | omega | (unfold maxLen; omega)) ?_
      refine athen_n ?_
      refine AW.cond (b := (decide ((w.getD st1.toNat 0) = a))) rfl (fun hb9 => ?_) (fun hb9 => ?_)
      · rw [if_pos hb9] at h
        refine AW.seq ?_
        refine AW.ops ?_
        refine AO.allF tab_ok (by decide) [(6, .int .i64 st1)] [] (by (simp only [go_sem, hb6, hb9]) <;> (repeat' with_reducible apply And.intro) <;> first | assumption | rfl | omega | (unfold maxLen; omega)) ?_
        refine athen_n ?_
        refine AW.ret ?_
        refine athen_r ?_
        refine ablock_r ?_
        refine athen_r ?_
        obtain rfl := Option.some.inj h
        rw [← hd3 _ rfl] at ho2
        have h := ho2
        try simp only at h
        refine athen_r ?_
        refine ablock_r ?_
        refine athen_r ?_
        obtain rfl := Option.some.inj h
        exact ⟨rfl, [], [], [], rfl, (by (simp only [go_sem, hb6, hb9]) <;> (repeat' with_reducible apply And.intro) <;> first | assumption | rfl | omega | (unfold maxLen; omega))⟩
      · rw [if_neg (Bool.eq_false_iff.1 hb9)] at h
        refine AW.skip ?_
        refine athen_n ?_
        refine AW.seq ?_
        refine AW.ops ?_
        refine AO.segF tab_ok 3 (by decide) [(2, .int .i64 a), (3, .bp 3 0), (9, .sl (.int .i64) w), (10, .int .i64 (w.length : Int)), (11, .int .i64 st1), (20, .agg [.int .i64 l.1, .sl (.pair (.int .i64) (.int .i64)) l.2]), (21, .int .i64 a), (22, .int .i64 (w.getD st1.toNat 0))] [(3, .box 24 [.int .i64 l.1, .sl (.pair (.int .i64) (.int .i64)) l.2])] (by (simp only [go_sem, hb6, hb9]) <;> (repeat' with_reducible apply And.intro) <;> first | assumption | rfl | omega | (unfold maxLen; omega)) ?_
        obtain ⟨v0, hv10, h⟩ := Option.bind_eq_some_iff.1 h
        refine AO.call tab_ok (by decide) rfl rfl rfl (fun _ h => h) [] [] (hc_linealref03_depend l a (w.getD st1.toNat 0) hv10) rfl (by (simp only [go_sem, hb6, hb9]) <;> (repeat' with_reducible apply And.intro) <;> first | assumption | rfl | omega | (unfold maxLen; omega)) (by (simp only [go_sem, hb6, hb9]) <;> (repeat' with_reducible apply And.intro) <;> first | assumption | rfl | omega | (unfold maxLen; omega)) [(2, .int .i64 a), (3, .bp 3 0), (9, .sl (.int .i64) w), (10, .int .i64 (w.length : Int)), (11, .int .i64 st1), (23, .bool v0)] [(3, .box 24 [.int .i64 l.1, .sl (.pair (.int .i64) (.int .i64)) l.2])] (by (simp only [go_sem, hb6, hb9]) <;> (repeat' with_reducible apply And.intro) <;> first | assumption | rfl | omega | (unfold maxLen; omega)) ?_
        refine AO.allF tab_ok (by decide) [(2, .int .i64 a), (3, .bp 3 0), (9, .sl (.int .i64) w), (10, .int .i64 (w.length : Int)), (11, .int .i64 st1), (23, .bool v0)] [(3, .box 24 [.int .i64 l.1, .sl (.pair (.int .i64) (.int .i64)) l.2])] (by (simp only [go_sem, hb6, hb9]) <;> (repeat' with_reducible apply And.intro) <;> first | assumption | rfl | omega | (unfold maxLen; omega)) ?_
        refine athen_n ?_
        refine AW.cond (b := v0) rfl (fun hb11 => ?_) (fun hb11 => ?_)
        · rw [if_pos hb11] at h
          refine AW.seq ?_
          refine AW.ops ?_
          refine AO.allF tab_ok (by decide) [(6, .int .i64 (-1))] [] (by (simp only [go_sem, hb6, hb9, hb11]) <;> (repeat' with_reducible apply And.intro) <;> first | assumption | rfl | omega | (unfold maxLen; omega)) ?_
          refine athen_n ?_
          refine AW.ret ?_
          refine ablock_r ?_
          refine athen_r ?_
          obtain rfl := Option.some.inj h
          rw [← hd3 _ rfl] at ho2
          have h := ho2
          try simp only at h
          refine athen_r ?_
          refine ablock_r ?_
          refine athen_r ?_
          obtain rfl := Option.some.inj h
          exact ⟨rfl, [], [], [], rfl, (by (simp only [go_sem, hb6, hb9, hb11]) <;> (repeat' with_reducible apply And.intro) <;> first | assumption | rfl | omega | (unfold maxLen; omega))⟩
        · rw [if_neg (Bool.eq_false_iff.1 hb11)] at h
          refine AW.skip ?_
          refine ablock_n ?_
          refine athen_n ?_
          refine AW.ops ?_
          obtain ⟨c12, h⟩ := ck_some.1 h
          refine AO.allF tab_ok (by decide) [(2, .int .i64 a), (3, .bp 3 0), (9, .sl (.int .i64) w), (10, .int .i64 (w.length : Int)), (11, .int .i64 (st1 + 1))] [(3, .box 24 [.int .i64 l.1, .sl (.pair (.int .i64) (.int .i64)) l.2])] (by (simp only [go_sem, hb6, hb9, hb11]) <;> (repeat' with_reducible apply And.intro) <;> first | assumption | rfl | omega | (unfold maxLen; omega)) ?_
          obtain rfl := Option.some.inj h
          exact ⟨_, rfl, Wk.le [] [] [] rfl (by (simp only [go_sem, hb6, hb9, hb11]) <;> (repeat' with_reducible apply And.intro) <;> first | assumption | rfl | omega | (unfold maxLen; omega)) (by (simp only [go_sem, hb6, hb9, hb11]) <;> (repeat' with_reducible apply And.intro) <;> first | assumption | rfl | omega | (unfold maxLen; omega))⟩
    · rw [if_neg (Bool.eq_false_iff.1 hb6)] at h
      refine AW.exit ?_
      refine athen_e ?_
      obtain rfl := Option.some.inj h
      rw [← hd3 _ rfl] at ho2
      have h := ho2
      try simp only at h
      refine athen_e ?_
      refine ablock_s ?_
      refine athen_n ?_
      exact AW.weaken (Wk.le [] [] [] rfl (by (simp only [go_sem, hb6]) <;> (repeat' with_reducible apply And.intro) <;> first | assumption | rfl | omega | (unfold maxLen; omega)) (by (simp only [go_sem, hb6]) <;> (repeat' with_reducible apply And.intro) <;> first | assumption | rfl | omega | (unfold maxLen; omega))) (hk_linealref03_free_k1 () h)

set_option maxRecDepth 100000 in
set_option maxHeartbeats 2000000 in
theorem hc_linealref03_without (w : List Int) (at0 : Int) {r : Unit} (h : linealref03_without w at0 = some r) : HC Try.prog 93 [] [.sl (.int .i64) w, .int .i64 at0] [(2000, .arr 3 (.int .i64) ((w.take at0.toNat) ++ (w.drop (at0 + 1).toNat)))] (.own 2000) := by
  unfold linealref03_without at h
  refine HC.of_body tab_ok (res := [.tmp 4]) Try.func93 rfl (by kernel_rfl) rfl (nt := 15) rfl (by decide) (by simp) ?_
  refine AW.seq ?_
  refine AW.ops ?_
  refine AO.allF tab_ok (by decide) [(0, .sl (.int .i64) w), (1, .int .i64 at0)] [] (by (simp only [go_sem]) <;> (repeat' with_reducible apply And.intro) <;> first | assumption | rfl | omega | (unfold maxLen; omega)) ?_
  refine athen_n ?_
  refine AW.seq ?_
  refine AW.draw tab_ok mixed_ok [(0, [5]), (4, [5, 9]), (9, [9, 14])] [(1, []), (2, []), (3, []), (5, []), (6, []), (7, []), (8, [])] (by decide) (by kernel_rfl) ?_
  obtain ⟨c2, h⟩ := ck_some.1 h
  obtain ⟨c3, h⟩ := ck_some.1 h
  obtain ⟨c4, h⟩ := ck_some.1 h
  refine adops_cut 6 (fun K' hK1 => ?_)
  try dsimp only [List.drop_succ_cons, List.drop_zero, List.take_succ_cons, List.take_zero]
  simp only [go_sem]
  repeat (with_reducible refine And.intro (by first | assumption | rfl | omega | trivial | (unfold maxLen; omega)) ?_)
  refine hK1 _ ?_
  obtain ⟨c6, h⟩ := ck_some.1 h
  obtain ⟨c7, h⟩ := ck_some.1 h
  obtain ⟨c8, h⟩ := ck_some.1 h
  obtain ⟨c9, h⟩ := ck_some.1 h
  refine adops_cut 5 (fun K' hK5 => ?_)
  try dsimp only [List.drop_succ_cons, List.drop_zero, List.take_succ_cons, List.take_zero]
  simp only [go_sem]
  repeat (with_reducible refine And.intro (by first | assumption | rfl | omega | trivial | (unfold maxLen; omega)) ?_)
  refine hK5 _ ?_
  refine adops_nil ?_
  refine athen_n ?_
  refine AW.weaken (s' := ⟨fr [(4, .own 14)], hpGet [(14, .arr 3 (.int .i64) ((w.take at0.toNat) ++ (w.drop (at0 + 1).toNat)))], gt⟩) (Wk.to (by (simp only [go_sem]) <;> (repeat' with_reducible apply And.intro) <;> first | assumption | rfl | omega | (unfold maxLen; omega))) ?_
  refine AW.ret ?_
  obtain rfl := Option.some.inj h
  exact ⟨rfl, [], [], [(2000, 14)], rfl, (by (simp only [go_sem]) <;> (repeat' with_reducible apply And.intro) <;> first | assumption | rfl | omega | (unfold maxLen; omega))⟩

set_option maxRecDepth 100000 in
set_option maxHeartbeats 2000000 in
theorem hc_linealref03_rest (l : Int × (List (Int × Int))) (u : List Int) (w : List Int) {r : (List Int) × Bool} (h : linealref03_rest l u w = some r) : HC Try.prog 75 [] [.agg [.int .i64 l.1, .sl (.pair (.int .i64) (.int .i64)) l.2], .sl (.int .i64) u, .sl (.int .i64) w] [(2000, .arr 3 (.int .i64) r.1)] (.tup [.own 2000, .bool r.2]) := by
  unfold linealref03_rest at h
  refine HC.of_body tab_ok (res := [.tmp 6, .tmp 7]) Try.func75 rfl (by kernel_rfl) rfl (nt := 32) rfl (by decide) (by simp) ?_
  refine AW.seq ?_
  refine AW.ops ?_
  refine AO.allF tab_ok (by decide) [(1, .sl (.int .i64) u), (2, .sl (.int .i64) w), (3, .bp 3 0)] [(3, .box 24 [.int .i64 l.1, .sl (.pair (.int .i64) (.int .i64)) l.2])] (by (simp only [go_sem]) <;> (repeat' with_reducible apply And.intro) <;> first | assumption | rfl | omega | (unfold maxLen; omega)) ?_
  refine athen_n ?_
  refine AW.seq ?_
  refine AW.ops ?_
  obtain ⟨c1, h⟩ := ck_some.1 h
  refine AO.allF tab_ok (by decide) [(1, .sl (.int .i64) u), (3, .bp 3 0), (8, .own 14)] [(3, .box 24 [.int .i64 l.1, .sl (.pair (.int .i64) (.int .i64)) l.2]), (14, .arr 3 (.int .i64) w)] (by (simp only [go_sem]) <;> (repeat' with_reducible apply And.intro) <;> first | assumption | rfl | omega | (unfold maxLen; omega)) ?_
  refine athen_n ?_
  refine AW.have1 (fun b1 : (List Int) => linealref03_rest_k1 b1 = some r) (fun b1 => ⟨fr [(8, .own 14)], hpGet [(14, .arr 3 (.int .i64) b1)], gt⟩) (fun b1 h => ?_) (fun hk_linealref03_rest_k1 => ?_)
  · unfold linealref03_rest_k1 at h
    refine AW.seq ?_
    refine AW.ops ?_
    refine AO.allF tab_ok (by decide) [(6, .own 14), (7, .bool true)] [(14, .arr 3 (.int .i64) b1)] (by (simp only [go_sem]) <;> (repeat' with_reducible apply And.intro) <;> first | assumption | rfl | omega | (unfold maxLen; omega)) ?_
    refine athen_n ?_
    refine AW.ret ?_
    obtain rfl := Option.some.inj h
    exact ⟨rfl, [], [], [(2000, 14)], rfl, (by (simp only [go_sem]) <;> (repeat' with_reducible apply And.intro) <;> first | assumption | rfl | omega | (unfold maxLen; omega))⟩
  · refine AW.seq ?_
    refine AW.seq ?_
    refine AW.ops ?_
    refine AO.allF tab_ok (by decide) [(3, .bp 3 0), (8, .own 14), (15, .sl (.int .i64) u), (16, .int .i64 (u.length : Int)), (17, .int .i64 0)] [(3, .box 24 [.int .i64 l.1, .sl (.pair (.int .i64) (.int .i64)) l.2]), (14, .arr 3 (.int .i64) w)] (by (simp only [go_sem]) <;> (repeat' with_reducible apply And.intro) <;> first | assumption | rfl | omega | (unfold maxLen; omega)) ?_
    refine athen_n ?_
    refine AW.block ?_
    obtain ⟨rv6, hw2, ho3⟩ := Option.bind_eq_some_iff.1 h
    refine AW.loopO (linealref03_rest_b1 l u) (fun st1 => ⟨fr [(3, .bp 3 0), (8, .own 14), (15, .sl (.int .i64) u), (16, .int .i64 (u.length : Int)), (17, .int .i64 st1.2)], hpGet [(3, .box 24 [.int .i64 l.1, .sl (.pair (.int .i64) (.int .i64)) l.2]), (14, .arr 3 (.int .i64) st1.1)], gt⟩) (w, 0) hw2 (Wk.le [] [] [] rfl (by (simp only [go_sem]) <;> (repeat' with_reducible apply And.intro) <;> first | assumption | rfl | omega | (unfold maxLen; omega)) (by (simp only [go_sem]) <;> (repeat' with_reducible apply And.intro) <;> first | assumption | rfl | omega | (unfold maxLen; omega))) ?_
    intro st1 x5 h hd4
    unfold linealref03_rest_b1 at h
    refine AW.seq ?_
    refine AW.ops ?_
    refine AO.allF tab_ok (by decide) [(3, .bp 3 0), (8, .own 14), (15, .sl (.int .i64) u), (16, .int .i64 (u.length : Int)), (17, .int .i64 st1.2), (18, .bool (decide (st1.2 < (u.length : Int))))] [(3, .box 24 [.int .i64 l.1, .sl (.pair (.int .i64) (.int .i64)) l.2]), (14, .arr 3 (.int .i64) st1.1)] (by (simp only [go_sem]) <;> (repeat' with_reducible apply And.intro) <;> first | assumption | rfl | omega | (unfold maxLen; omega)) ?_
    refine athen_n ?_
    refine AW.seq ?_
    refine AW.cond (b := (decide (st1.2 < (u.length : Int)))) rfl (fun hb7 => ?_) (fun hb7 => ?_)
    · rw [if_pos hb7] at h
      refine AW.skip ?_
      refine athen_n ?_
      refine AW.seq ?_
      refine AW.block ?_
      refine AW.seq ?_
      refine AW.ops ?_
      obtain ⟨c8, h⟩ := ck_some.1 h
      obtain ⟨c9, h⟩ := ck_some.1 h
      refine AO.allF tab_ok (by decide) [(3, .bp 3 0), (8, .own 14), (10, .int .i64 (u.getD st1.2.toNat 0)), (15, .sl (.int .i64) u), (16, .int .i64 (u.length : Int)), (17, .int .i64 st1.2)] [(3, .box 24 [.int .i64 l.1, .sl (.pair (.int .i64) (.int .i64)) l.2]), (14, .arr 3 (.int .i64) st1.1)] (by (simp only [go_sem, hb7]) <;> (repeat' with_reducible apply And.intro) <;> first | assumption | rfl | omega | (unfold maxLen; omega)) ?_
      refine athen_n ?_
      refine AW.seq ?_
      refine AW.ops ?_
      refine AO.segF tab_ok 3 (by decide) [(3, .bp 3 0), (8, .own 14), (15, .sl (.int .i64) u), (16, .int .i64 (u.length : Int)), (17, .int .i64 st1.2), (21, .agg [.int .i64 l.1, .sl (.pair (.int .i64) (.int .i64)) l.2]), (22, .own 14), (23, .int .i64 (u.getD st1.2.toNat 0))] [(3, .box 24 [.int .i64 l.1, .sl (.pair (.int .i64) (.int .i64)) l.2]), (14, .arr 3 (.int .i64) st1.1)] (by (simp only [go_sem, hb7]) <;> (repeat' with_reducible apply And.intro) <;> first | assumption | rfl | omega | (unfold maxLen; omega)) ?_
      obtain ⟨v0, hv10, h⟩ := Option.bind_eq_some_iff.1 h
      refine AO.call tab_ok (by decide) rfl rfl rfl (fun _ h => h) [14] [] (hc_linealref03_free l st1.1 (u.getD st1.2.toNat 0) hv10) rfl (by (simp only [go_sem, hb7]) <;> (repeat' with_reducible apply And.intro) <;> first | assumption | rfl | omega | (unfold maxLen; omega)) (by (simp only [go_sem, hb7]) <;> (repeat' with_reducible apply And.intro) <;> first | assumption | rfl | omega | (unfold maxLen; omega)) [(3, .bp 3 0), (8, .own 14), (15, .sl (.int .i64) u), (16, .int .i64 (u.length : Int)), (17, .int .i64 st1.2), (24, .int .i64 v0)] [(3, .box 24 [.int .i64 l.1, .sl (.pair (.int .i64) (.int .i64)) l.2]), (14, .arr 3 (.int .i64) st1.1)] (by (simp only [go_sem, hb7]) <;> (repeat' with_reducible apply And.intro) <;> first | assumption | rfl | omega | (unfold maxLen; omega)) ?_
      refine AO.allF tab_ok (by decide) [(3, .bp 3 0), (8, .own 14), (11, .int .i64 v0), (15, .sl (.int .i64) u), (16, .int .i64 (u.length : Int)), (17, .int .i64 st1.2)] [(3, .box 24 [.int .i64 l.1, .sl (.pair (.int .i64) (.int .i64)) l.2]), (14, .arr 3 (.int .i64) st1.1)] (by (simp only [go_sem, hb7]) <;> (repeat' with_reducible apply And.intro) <;> first | assumption | rfl | omega | (unfold maxLen; omega)) ?_
      refine athen_n ?_
      refine AW.seq ?_
      refine AW.seq ?_
      refine AW.ops ?_
      refine AO.allF tab_ok (by decide) [(3, .bp 3 0), (8, .own 14), (11, .int .i64 v0), (15, .sl (.int .i64) u), (16, .int .i64 (u.length : Int)), (17, .int .i64 st1.2), (26, .bool (decide (v0 < 0)))] [(3, .box 24 [.int .i64 l.1, .sl (.pair (.int .i64) (.int .i64)) l.2]), (14, .arr 3 (.int .i64) st1.1)] (by (simp only [go_sem, hb7]) <;> (repeat' with_reducible apply And.intro) <;> first | assumption | rfl | omega | (unfold maxLen; omega)) ?_
      refine athen_n ?_
      refine AW.cond (b := (decide (v0 < 0))) rfl (fun hb11 => ?_) (fun hb11 => ?_)
      · rw [if_pos hb11] at h
        refine AW.seq ?_
        refine AW.ops ?_
        refine AO.allF tab_ok (by decide) [(6, .cv (.slice none 0 0)), (7, .bool false)] [] (by (simp only [go_sem, hb7, hb11]) <;> (repeat' with_reducible apply And.intro) <;> first | assumption | rfl | omega | (unfold maxLen; omega)) ?_
        refine athen_n ?_
        refine AW.ret ?_
        refine athen_r ?_
        refine ablock_r ?_
        refine athen_r ?_
        obtain rfl := Option.some.inj h
        rw [← hd4 _ rfl] at ho3
        have h := ho3
        try simp only at h
        refine athen_r ?_
        refine ablock_r ?_
        refine athen_r ?_
        obtain rfl := Option.some.inj h
        exact ⟨rfl, [], [2000], [], rfl, (by (simp only [go_sem, hb7, hb11]) <;> (repeat' with_reducible apply And.intro) <;> first | assumption | rfl | omega | (unfold maxLen; omega))⟩
      · rw [if_neg (Bool.eq_false_iff.1 hb11)] at h
        refine AW.skip ?_
        refine athen_n ?_
        refine AW.ops ?_
        refine AO.segF tab_ok 2 (by decide) [(3, .bp 3 0), (15, .sl (.int .i64) u), (16, .int .i64 (u.length : Int)), (17, .int .i64 st1.2), (27, .own 14), (28, .int .i64 v0)] [(3, .box 24 [.int .i64 l.1, .sl (.pair (.int .i64) (.int .i64)) l.2]), (14, .arr 3 (.int .i64) st1.1)] (by (simp only [go_sem, hb7, hb11]) <;> (repeat' with_reducible apply And.intro) <;> first | assumption | rfl | omega | (unfold maxLen; omega)) ?_
        obtain ⟨v0_2, hv12, h⟩ := Option.bind_eq_some_iff.1 h
        refine AO.call tab_ok (by decide) rfl rfl rfl (fun _ h => h) [14] [] (hc_linealref03_without st1.1 v0 hv12) rfl (by (simp only [go_sem, hb7, hb11]) <;> (repeat' with_reducible apply And.intro) <;> first | assumption | rfl | omega | (unfold maxLen; omega)) (by (simp only [go_sem, hb7, hb11]) <;> (repeat' with_reducible apply And.intro) <;> first | assumption | rfl | omega | (unfold maxLen; omega)) [(3, .bp 3 0), (15, .sl (.int .i64) u), (16, .int .i64 (u.length : Int)), (17, .int .i64 st1.2), (29, .own 39000)] [(3, .box 24 [.int .i64 l.1, .sl (.pair (.int .i64) (.int .i64)) l.2]), (39000, .arr 3 (.int .i64) ((st1.1.take v0.toNat) ++ (st1.1.drop (v0 + 1).toNat)))] (by (simp only [go_sem, hb7, hb11]) <;> (repeat' with_reducible apply And.intro) <;> first | assumption | rfl | omega | (unfold maxLen; omega)) ?_
        refine AO.allF tab_ok (by decide) [(3, .bp 3 0), (8, .own 39000), (15, .sl (.int .i64) u), (16, .int .i64 (u.length : Int)), (17, .int .i64 st1.2)] [(3, .box 24 [.int .i64 l.1, .sl (.pair (.int .i64) (.int .i64)) l.2]), (39000, .arr 3 (.int .i64) ((st1.1.take v0.toNat) ++ (st1.1.drop (v0 + 1).toNat)))] (by (simp only [go_sem, hb7, hb11]) <;> (repeat' with_reducible apply And.intro) <;> first | assumption | rfl | omega | (unfold maxLen; omega)) ?_
        refine ablock_n ?_
        refine athen_n ?_
        refine AW.ops ?_
        obtain ⟨c13, h⟩ := ck_some.1 h
        refine AO.allF tab_ok (by decide) [(3, .bp 3 0), (8, .own 39000), (15, .sl (.int .i64) u), (16, .int .i64 (u.length : Int)), (17, .int .i64 (st1.2 + 1))] [(3, .box 24 [.int .i64 l.1, .sl (.pair (.int .i64) (.int .i64)) l.2]), (39000, .arr 3 (.int .i64) ((st1.1.take v0.toNat) ++ (st1.1.drop (v0 + 1).toNat)))] (by (simp only [go_sem, hb7, hb11]) <;> (repeat' with_reducible apply And.intro) <;> first | assumption | rfl | omega | (unfold maxLen; omega)) ?_
        obtain rfl := Option.some.inj h
        exact ⟨_, rfl, Wk.le [] [] [(14, 39000)] rfl (by (simp only [go_sem, hb7, hb11]) <;> (repeat' with_reducible apply And.intro) <;> first | assumption | rfl | omega | (unfold maxLen; omega)) (by (simp only [go_sem, hb7, hb11]) <;> (repeat' with_reducible apply And.intro) <;> first | assumption | rfl | omega | (unfold maxLen; omega))⟩
    · rw [if_neg (Bool.eq_false_iff.1 hb7)] at h
      refine AW.exit ?_
      refine athen_e ?_
      obtain rfl := Option.some.inj h
      rw [← hd4 _ rfl] at ho3
      have h := ho3
      try simp only at h
      refine athen_e ?_
      refine ablock_s ?_
      refine athen_n ?_
      exact AW.weaken (Wk.le [] [] [] rfl (by (simp only [go_sem, hb7]) <;> (repeat' with_reducible apply And.intro) <;> first | assumption | rfl | omega | (unfold maxLen; omega)) (by (simp only [go_sem, hb7]) <;> (repeat' with_reducible apply And.intro) <;> first | assumption | rfl | omega | (unfold maxLen; omega))) (hk_linealref03_rest_k1 _ h)

end Go.Proofs.Ytcijihofjcfpoab
