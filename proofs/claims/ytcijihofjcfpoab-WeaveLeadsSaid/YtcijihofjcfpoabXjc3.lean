/-
  Made by wip/tool/dc.py out of the print of the program: contracts.
-/
import Derived.Test.YtcijihofjcfpoabWp
import Derived.Test.YtcijihofjcfpoabTb3
import Derived.Test.YtcijihofjcfpoabXjc1
namespace Go.Proofs.Ytcijihofjcfpoab
open Go.RowKit

set_option linter.unusedSimpArgs false
set_option linter.unusedVariables false
set_option linter.constructorNameAsVariable false

set_option maxRecDepth 100000 in
set_option maxHeartbeats 2000000 in
theorem hc_linealref03_Valid (l : Int × (List (Int × Int))) {r : Bool} (h : linealref03_Valid l = some r) : HC Try.prog 20 [] [.agg [.int .i64 l.1, .sl (.pair (.int .i64) (.int .i64)) l.2]] [] (.bool r) := by
  unfold linealref03_Valid at h
  refine HC.of_body tab_ok (res := [.tmp 2]) Try.func20 rfl (by kernel_rfl) rfl (nt := 66) rfl (by decide) (by simp) ?_
  refine AW.seq ?_
  refine AW.ops ?_
  refine AO.allF tab_ok (by decide) [(1, .bp 1 0)] [(1, .box 24 [.int .i64 l.1, .sl (.pair (.int .i64) (.int .i64)) l.2])] (by (simp only [go_sem]) <;> (repeat' with_reducible apply And.intro) <;> first | assumption | rfl | omega | (unfold maxLen; omega)) ?_
  refine athen_n ?_
  refine AW.seq ?_
  refine AW.seq ?_
  refine AW.ops ?_
  refine AO.segF tab_ok 4 (by decide) [(1, .bp 1 0), (10, .bool (decide (l.1 < 1)))] [(1, .box 24 [.int .i64 l.1, .sl (.pair (.int .i64) (.int .i64)) l.2])] (by (simp only [go_sem]) <;> (repeat' with_reducible apply And.intro) <;> first | assumption | rfl | omega | (unfold maxLen; omega)) ?_
  rcases Bool.eq_false_or_eq_true (decide (l.1 < 1)) with hb1 | hb1
  · rw [if_pos hb1] at h
    refine AO.weaken (s' := ⟨fr [(1, .bp 1 0), (10, .bool true)], hpGet [(1, .box 24 [.int .i64 l.1, .sl (.pair (.int .i64) (.int .i64)) l.2])], gt⟩) (Wk.to (by (simp only [go_sem, hb1]) <;> (repeat' with_reducible apply And.intro) <;> first | assumption | rfl | omega | (unfold maxLen; omega))) ?_
    refine AO.allF tab_ok (by decide) [(1, .bp 1 0), (14, .bool true)] [(1, .box 24 [.int .i64 l.1, .sl (.pair (.int .i64) (.int .i64)) l.2])] (by (simp only [go_sem, hb1]) <;> (repeat' with_reducible apply And.intro) <;> first | assumption | rfl | omega | (unfold maxLen; omega)) ?_
    refine athen_n ?_
    refine AW.cond (b := true) rfl (fun _ => ?_) (fun hb2 => by cases hb2)
    refine AW.seq ?_
    refine AW.ops ?_
    refine AO.allF tab_ok (by decide) [(2, .bool false)] [] (by (simp only [go_sem, hb1]) <;> (repeat' with_reducible apply And.intro) <;> first | assumption | rfl | omega | (unfold maxLen; omega)) ?_
    refine athen_n ?_
    refine AW.ret ?_
    refine athen_r ?_
    obtain rfl := Option.some.inj h
    exact ⟨rfl, [], [], [], rfl, (by (simp only [go_sem, hb1]) <;> (repeat' with_reducible apply And.intro) <;> first | assumption | rfl | omega | (unfold maxLen; omega))⟩
  · rw [if_neg (Bool.eq_false_iff.1 hb1)] at h
    refine AO.weaken (s' := ⟨fr [(1, .bp 1 0), (10, .bool false)], hpGet [(1, .box 24 [.int .i64 l.1, .sl (.pair (.int .i64) (.int .i64)) l.2])], gt⟩) (Wk.to (by (simp only [go_sem, hb1]) <;> (repeat' with_reducible apply And.intro) <;> first | assumption | rfl | omega | (unfold maxLen; omega))) ?_
    refine AO.allF tab_ok (by decide) [(1, .bp 1 0), (14, .bool (decide (6 < l.1)))] [(1, .box 24 [.int .i64 l.1, .sl (.pair (.int .i64) (.int .i64)) l.2])] (by (simp only [go_sem, hb1]) <;> (repeat' with_reducible apply And.intro) <;> first | assumption | rfl | omega | (unfold maxLen; omega)) ?_
    refine athen_n ?_
    refine AW.cond (b := (decide (6 < l.1))) rfl (fun hb3 => ?_) (fun hb3 => ?_)
    · rw [if_pos hb3] at h
      refine AW.seq ?_
      refine AW.ops ?_
      refine AO.allF tab_ok (by decide) [(2, .bool false)] [] (by (simp only [go_sem, hb1, hb3]) <;> (repeat' with_reducible apply And.intro) <;> first | assumption | rfl | omega | (unfold maxLen; omega)) ?_
      refine athen_n ?_
      refine AW.ret ?_
      refine athen_r ?_
      obtain rfl := Option.some.inj h
      exact ⟨rfl, [], [], [], rfl, (by (simp only [go_sem, hb1, hb3]) <;> (repeat' with_reducible apply And.intro) <;> first | assumption | rfl | omega | (unfold maxLen; omega))⟩
    · rw [if_neg (Bool.eq_false_iff.1 hb3)] at h
      refine AW.skip ?_
      refine athen_n ?_
      refine AW.have1 (fun _ : Unit => linealref03_Valid_k1 = some r) (fun _ => ⟨fr [], hpGet [], gt⟩) (fun _ h => ?_) (fun hk_linealref03_Valid_k1 => ?_)
      · unfold linealref03_Valid_k1 at h
        refine AW.seq ?_
        refine AW.ops ?_
        refine AO.allF tab_ok (by decide) [(2, .bool true)] [] (by (simp only [go_sem, hb1, hb3]) <;> (repeat' with_reducible apply And.intro) <;> first | assumption | rfl | omega | (unfold maxLen; omega)) ?_
        refine athen_n ?_
        refine AW.ret ?_
        obtain rfl := Option.some.inj h
        exact ⟨rfl, [], [], [], rfl, (by (simp only [go_sem, hb1, hb3]) <;> (repeat' with_reducible apply And.intro) <;> first | assumption | rfl | omega | (unfold maxLen; omega))⟩
      · refine AW.seq ?_
        refine AW.seq ?_
        refine AW.ops ?_
        refine AO.allF tab_ok (by decide) [(1, .bp 1 0), (16, .sl (.pair (.int .i64) (.int .i64)) l.2), (17, .int .i64 (l.2.length : Int)), (18, .int .i64 0)] [(1, .box 24 [.int .i64 l.1, .sl (.pair (.int .i64) (.int .i64)) l.2])] (by (simp only [go_sem, hb1, hb3]) <;> (repeat' with_reducible apply And.intro) <;> first | assumption | rfl | omega | (unfold maxLen; omega)) ?_
        refine athen_n ?_
        refine AW.block ?_
        obtain ⟨rv8, hw4, ho5⟩ := Option.bind_eq_some_iff.1 h
        refine AW.loopO (linealref03_Valid_b1 l) (fun st1 => ⟨fr [(1, .bp 1 0), (16, .sl (.pair (.int .i64) (.int .i64)) l.2), (17, .int .i64 (l.2.length : Int)), (18, .int .i64 st1)], hpGet [(1, .box 24 [.int .i64 l.1, .sl (.pair (.int .i64) (.int .i64)) l.2])], gt⟩) 0 hw4 (Wk.le [] [] [] rfl (by (simp only [go_sem, hb1, hb3]) <;> (repeat' with_reducible apply And.intro) <;> first | assumption | rfl | omega | (unfold maxLen; omega)) (by (simp only [go_sem, hb1, hb3]) <;> (repeat' with_reducible apply And.intro) <;> first | assumption | rfl | omega | (unfold maxLen; omega))) ?_
        intro st1 x7 h hd6
        unfold linealref03_Valid_b1 at h
        refine AW.seq ?_
        refine AW.ops ?_
        refine AO.allF tab_ok (by decide) [(1, .bp 1 0), (16, .sl (.pair (.int .i64) (.int .i64)) l.2), (17, .int .i64 (l.2.length : Int)), (18, .int .i64 st1), (19, .bool (decide (st1 < (l.2.length : Int))))] [(1, .box 24 [.int .i64 l.1, .sl (.pair (.int .i64) (.int .i64)) l.2])] (by (simp only [go_sem, hb1, hb3]) <;> (repeat' with_reducible apply And.intro) <;> first | assumption | rfl | omega | (unfold maxLen; omega)) ?_
        refine athen_n ?_
        refine AW.seq ?_
        refine AW.cond (b := (decide (st1 < (l.2.length : Int)))) rfl (fun hb9 => ?_) (fun hb9 => ?_)
        · rw [if_pos hb9] at h
          refine AW.skip ?_
          refine athen_n ?_
          refine AW.have1 (fun _ : Unit => linealref03_Valid_k2 st1 = some x7) (fun _ => ⟨fr [(1, .bp 1 0), (16, .sl (.pair (.int .i64) (.int .i64)) l.2), (17, .int .i64 (l.2.length : Int)), (18, .int .i64 st1)], hpGet [(1, .box 24 [.int .i64 l.1, .sl (.pair (.int .i64) (.int .i64)) l.2])], gt⟩) (fun _ h => ?_) (fun hk_linealref03_Valid_k2 => ?_)
          · unfold linealref03_Valid_k2 at h
            refine AW.ops ?_
            obtain ⟨c10, h⟩ := ck_some.1 h
            refine AO.allF tab_ok (by decide) [(1, .bp 1 0), (16, .sl (.pair (.int .i64) (.int .i64)) l.2), (17, .int .i64 (l.2.length : Int)), (18, .int .i64 (st1 + 1))] [(1, .box 24 [.int .i64 l.1, .sl (.pair (.int .i64) (.int .i64)) l.2])] (by (simp only [go_sem, hb1, hb3, hb9]) <;> (repeat' with_reducible apply And.intro) <;> first | assumption | rfl | omega | (unfold maxLen; omega)) ?_
            obtain rfl := Option.some.inj h
            exact ⟨_, rfl, Wk.le [] [] [] rfl (by (simp only [go_sem, hb1, hb3, hb9]) <;> (repeat' with_reducible apply And.intro) <;> first | assumption | rfl | omega | (unfold maxLen; omega)) (by (simp only [go_sem, hb1, hb3, hb9]) <;> (repeat' with_reducible apply And.intro) <;> first | assumption | rfl | omega | (unfold maxLen; omega))⟩
          · refine AW.seq ?_
            refine AW.block ?_
            refine AW.seq ?_
            refine AW.ops ?_
            obtain ⟨c11, h⟩ := ck_some.1 h
            obtain ⟨c12, h⟩ := ck_some.1 h
            refine AO.allF tab_ok (by decide) [(1, .bp 1 0), (3, .int .i64 st1), (4, .bp 4 0), (16, .sl (.pair (.int .i64) (.int .i64)) l.2), (17, .int .i64 (l.2.length : Int)), (18, .int .i64 st1)] [(1, .box 24 [.int .i64 l.1, .sl (.pair (.int .i64) (.int .i64)) l.2]), (4, .box 56 [.int .i64 (l.2.getD st1.toNat (0, 0)).1, .int .i64 (l.2.getD st1.toNat (0, 0)).2])] (by (simp only [go_sem, hb1, hb3, hb9]) <;> (repeat' with_reducible apply And.intro) <;> first | assumption | rfl | omega | (unfold maxLen; omega)) ?_
            refine athen_n ?_
            refine AW.seq ?_
            refine AW.seq ?_
            refine AW.ops ?_
            refine AO.segF tab_ok 4 (by decide) [(1, .bp 1 0), (3, .int .i64 st1), (4, .bp 4 0), (16, .sl (.pair (.int .i64) (.int .i64)) l.2), (17, .int .i64 (l.2.length : Int)), (18, .int .i64 st1), (26, .bool (decide ((l.2.getD st1.toNat (0, 0)).1 < 0)))] [(1, .box 24 [.int .i64 l.1, .sl (.pair (.int .i64) (.int .i64)) l.2]), (4, .box 56 [.int .i64 (l.2.getD st1.toNat (0, 0)).1, .int .i64 (l.2.getD st1.toNat (0, 0)).2])] (by (simp only [go_sem, hb1, hb3, hb9]) <;> (repeat' with_reducible apply And.intro) <;> first | assumption | rfl | omega | (unfold maxLen; omega)) ?_
            rcases Bool.eq_false_or_eq_true (decide ((l.2.getD st1.toNat (0, 0)).1 < 0)) with hb13 | hb13
            · rw [if_pos hb13] at h
              refine AO.weaken (s' := ⟨fr [(1, .bp 1 0), (3, .int .i64 st1), (4, .bp 4 0), (16, .sl (.pair (.int .i64) (.int .i64)) l.2), (17, .int .i64 (l.2.length : Int)), (18, .int .i64 st1), (26, .bool true)], hpGet [(1, .box 24 [.int .i64 l.1, .sl (.pair (.int .i64) (.int .i64)) l.2]), (4, .box 56 [.int .i64 (l.2.getD st1.toNat (0, 0)).1, .int .i64 (l.2.getD st1.toNat (0, 0)).2])], gt⟩) (Wk.to (by (simp only [go_sem, hb1, hb3, hb9, hb13]) <;> (repeat' with_reducible apply And.intro) <;> first | assumption | rfl | omega | (unfold maxLen; omega))) ?_
              refine AO.segF tab_ok 6 (by decide) [(1, .bp 1 0), (3, .int .i64 st1), (4, .bp 4 0), (16, .sl (.pair (.int .i64) (.int .i64)) l.2), (17, .int .i64 (l.2.length : Int)), (18, .int .i64 st1), (31, .bool true), (32, .cv (undef))] [(1, .box 24 [.int .i64 l.1, .sl (.pair (.int .i64) (.int .i64)) l.2]), (4, .box 56 [.int .i64 (l.2.getD st1.toNat (0, 0)).1, .int .i64 (l.2.getD st1.toNat (0, 0)).2])] (by (simp only [go_sem, hb1, hb3, hb9, hb13]) <;> (repeat' with_reducible apply And.intro) <;> first | assumption | rfl | omega | (unfold maxLen; omega)) ?_
              refine AO.segF tab_ok 4 (by decide) [(1, .bp 1 0), (3, .int .i64 st1), (4, .bp 4 0), (16, .sl (.pair (.int .i64) (.int .i64)) l.2), (17, .int .i64 (l.2.length : Int)), (18, .int .i64 st1), (31, .bool true), (36, .cv (undef))] [(1, .box 24 [.int .i64 l.1, .sl (.pair (.int .i64) (.int .i64)) l.2]), (4, .box 56 [.int .i64 (l.2.getD st1.toNat (0, 0)).1, .int .i64 (l.2.getD st1.toNat (0, 0)).2])] (by (simp only [go_sem, hb1, hb3, hb9, hb13]) <;> (repeat' with_reducible apply And.intro) <;> first | assumption | rfl | omega | (unfold maxLen; omega)) ?_
              refine AO.segF tab_ok 6 (by decide) [(1, .bp 1 0), (3, .int .i64 st1), (4, .bp 4 0), (16, .sl (.pair (.int .i64) (.int .i64)) l.2), (17, .int .i64 (l.2.length : Int)), (18, .int .i64 st1), (38, .bool true), (40, .cv (undef)), (42, .cv (undef))] [(1, .box 24 [.int .i64 l.1, .sl (.pair (.int .i64) (.int .i64)) l.2]), (4, .box 56 [.int .i64 (l.2.getD st1.toNat (0, 0)).1, .int .i64 (l.2.getD st1.toNat (0, 0)).2])] (by (simp only [go_sem, hb1, hb3, hb9, hb13]) <;> (repeat' with_reducible apply And.intro) <;> first | assumption | rfl | omega | (unfold maxLen; omega)) ?_
              refine AO.segF tab_ok 6 (by decide) [(1, .bp 1 0), (3, .int .i64 st1), (4, .bp 4 0), (16, .sl (.pair (.int .i64) (.int .i64)) l.2), (17, .int .i64 (l.2.length : Int)), (18, .int .i64 st1), (45, .bool true), (47, .cv (undef)), (48, .cv (undef))] [(1, .box 24 [.int .i64 l.1, .sl (.pair (.int .i64) (.int .i64)) l.2]), (4, .box 56 [.int .i64 (l.2.getD st1.toNat (0, 0)).1, .int .i64 (l.2.getD st1.toNat (0, 0)).2])] (by (simp only [go_sem, hb1, hb3, hb9, hb13]) <;> (repeat' with_reducible apply And.intro) <;> first | assumption | rfl | omega | (unfold maxLen; omega)) ?_
              refine AO.allF tab_ok (by decide) [(1, .bp 1 0), (3, .int .i64 st1), (4, .bp 4 0), (16, .sl (.pair (.int .i64) (.int .i64)) l.2), (17, .int .i64 (l.2.length : Int)), (18, .int .i64 st1), (51, .bool true)] [(1, .box 24 [.int .i64 l.1, .sl (.pair (.int .i64) (.int .i64)) l.2]), (4, .box 56 [.int .i64 (l.2.getD st1.toNat (0, 0)).1, .int .i64 (l.2.getD st1.toNat (0, 0)).2])] (by (simp only [go_sem, hb1, hb3, hb9, hb13]) <;> (repeat' with_reducible apply And.intro) <;> first | assumption | rfl | omega | (unfold maxLen; omega)) ?_
              refine athen_n ?_
              refine AW.cond (b := true) rfl (fun _ => ?_) (fun hb14 => by cases hb14)
              refine AW.seq ?_
              refine AW.ops ?_
              refine AO.allF tab_ok (by decide) [(2, .bool false)] [] (by (simp only [go_sem, hb1, hb3, hb9, hb13]) <;> (repeat' with_reducible apply And.intro) <;> first | assumption | rfl | omega | (unfold maxLen; omega)) ?_
              refine athen_n ?_
              refine AW.ret ?_
              refine athen_r ?_
              refine ablock_r ?_
              refine athen_r ?_
              obtain rfl := Option.some.inj h
              rw [← hd6 _ rfl] at ho5
              have h := ho5
              try simp only at h
              refine athen_r ?_
              refine ablock_r ?_
              refine athen_r ?_
              obtain rfl := Option.some.inj h
              exact ⟨rfl, [], [], [], rfl, (by (simp only [go_sem, hb1, hb3, hb9, hb13]) <;> (repeat' with_reducible apply And.intro) <;> first | assumption | rfl | omega | (unfold maxLen; omega))⟩
            · rw [if_neg (Bool.eq_false_iff.1 hb13)] at h
              refine AO.weaken (s' := ⟨fr [(1, .bp 1 0), (3, .int .i64 st1), (4, .bp 4 0), (16, .sl (.pair (.int .i64) (.int .i64)) l.2), (17, .int .i64 (l.2.length : Int)), (18, .int .i64 st1), (26, .bool false)], hpGet [(1, .box 24 [.int .i64 l.1, .sl (.pair (.int .i64) (.int .i64)) l.2]), (4, .box 56 [.int .i64 (l.2.getD st1.toNat (0, 0)).1, .int .i64 (l.2.getD st1.toNat (0, 0)).2])], gt⟩) (Wk.to (by (simp only [go_sem, hb1, hb3, hb9, hb13]) <;> (repeat' with_reducible apply And.intro) <;> first | assumption | rfl | omega | (unfold maxLen; omega))) ?_
              refine AO.segF tab_ok 5 (by decide) [(1, .bp 1 0), (3, .int .i64 st1), (4, .bp 4 0), (16, .sl (.pair (.int .i64) (.int .i64)) l.2), (17, .int .i64 (l.2.length : Int)), (18, .int .i64 st1), (31, .bool (decide ((l.2.getD st1.toNat (0, 0)).2 < 0)))] [(1, .box 24 [.int .i64 l.1, .sl (.pair (.int .i64) (.int .i64)) l.2]), (4, .box 56 [.int .i64 (l.2.getD st1.toNat (0, 0)).1, .int .i64 (l.2.getD st1.toNat (0, 0)).2])] (by (simp only [go_sem, hb1, hb3, hb9, hb13]) <;> (repeat' with_reducible apply And.intro) <;> first | assumption | rfl | omega | (unfold maxLen; omega)) ?_
              rcases Bool.eq_false_or_eq_true (decide ((l.2.getD st1.toNat (0, 0)).2 < 0)) with hb15 | hb15
              · rw [if_pos hb15] at h
                refine AO.weaken (s' := ⟨fr [(1, .bp 1 0), (3, .int .i64 st1), (4, .bp 4 0), (16, .sl (.pair (.int .i64) (.int .i64)) l.2), (17, .int .i64 (l.2.length : Int)), (18, .int .i64 st1), (31, .bool true)], hpGet [(1, .box 24 [.int .i64 l.1, .sl (.pair (.int .i64) (.int .i64)) l.2]), (4, .box 56 [.int .i64 (l.2.getD st1.toNat (0, 0)).1, .int .i64 (l.2.getD st1.toNat (0, 0)).2])], gt⟩) (Wk.to (by (simp only [go_sem, hb1, hb3, hb9, hb13, hb15]) <;> (repeat' with_reducible apply And.intro) <;> first | assumption | rfl | omega | (unfold maxLen; omega))) ?_
                refine AO.segF tab_ok 4 (by decide) [(1, .bp 1 0), (3, .int .i64 st1), (4, .bp 4 0), (16, .sl (.pair (.int .i64) (.int .i64)) l.2), (17, .int .i64 (l.2.length : Int)), (18, .int .i64 st1), (31, .bool true), (33, .cv (undef)), (35, .cv (undef))] [(1, .box 24 [.int .i64 l.1, .sl (.pair (.int .i64) (.int .i64)) l.2]), (4, .box 56 [.int .i64 (l.2.getD st1.toNat (0, 0)).1, .int .i64 (l.2.getD st1.toNat (0, 0)).2])] (by (simp only [go_sem, hb1, hb3, hb9, hb13, hb15]) <;> (repeat' with_reducible apply And.intro) <;> first | assumption | rfl | omega | (unfold maxLen; omega)) ?_
                refine AO.segF tab_ok 6 (by decide) [(1, .bp 1 0), (3, .int .i64 st1), (4, .bp 4 0), (16, .sl (.pair (.int .i64) (.int .i64)) l.2), (17, .int .i64 (l.2.length : Int)), (18, .int .i64 st1), (38, .bool true), (40, .cv (undef)), (41, .cv (undef))] [(1, .box 24 [.int .i64 l.1, .sl (.pair (.int .i64) (.int .i64)) l.2]), (4, .box 56 [.int .i64 (l.2.getD st1.toNat (0, 0)).1, .int .i64 (l.2.getD st1.toNat (0, 0)).2])] (by (simp only [go_sem, hb1, hb3, hb9, hb13, hb15]) <;> (repeat' with_reducible apply And.intro) <;> first | assumption | rfl | omega | (unfold maxLen; omega)) ?_
                refine AO.segF tab_ok 6 (by decide) [(1, .bp 1 0), (3, .int .i64 st1), (4, .bp 4 0), (16, .sl (.pair (.int .i64) (.int .i64)) l.2), (17, .int .i64 (l.2.length : Int)), (18, .int .i64 st1), (45, .bool true), (47, .cv (undef))] [(1, .box 24 [.int .i64 l.1, .sl (.pair (.int .i64) (.int .i64)) l.2]), (4, .box 56 [.int .i64 (l.2.getD st1.toNat (0, 0)).1, .int .i64 (l.2.getD st1.toNat (0, 0)).2])] (by (simp only [go_sem, hb1, hb3, hb9, hb13, hb15]) <;> (repeat' with_reducible apply And.intro) <;> first | assumption | rfl | omega | (unfold maxLen; omega)) ?_
                refine AO.allF tab_ok (by decide) [(1, .bp 1 0), (3, .int .i64 st1), (4, .bp 4 0), (16, .sl (.pair (.int .i64) (.int .i64)) l.2), (17, .int .i64 (l.2.length : Int)), (18, .int .i64 st1), (51, .bool true)] [(1, .box 24 [.int .i64 l.1, .sl (.pair (.int .i64) (.int .i64)) l.2]), (4, .box 56 [.int .i64 (l.2.getD st1.toNat (0, 0)).1, .int .i64 (l.2.getD st1.toNat (0, 0)).2])] (by (simp only [go_sem, hb1, hb3, hb9, hb13, hb15]) <;> (repeat' with_reducible apply And.intro) <;> first | assumption | rfl | omega | (unfold maxLen; omega)) ?_
                refine athen_n ?_
                refine AW.cond (b := true) rfl (fun _ => ?_) (fun hb16 => by cases hb16)
                refine AW.seq ?_
                refine AW.ops ?_
                refine AO.allF tab_ok (by decide) [(2, .bool false)] [] (by (simp only [go_sem, hb1, hb3, hb9, hb13, hb15]) <;> (repeat' with_reducible apply And.intro) <;> first | assumption | rfl | omega | (unfold maxLen; omega)) ?_
                refine athen_n ?_
                refine AW.ret ?_
                refine athen_r ?_
                refine ablock_r ?_
                refine athen_r ?_
                obtain rfl := Option.some.inj h
                rw [← hd6 _ rfl] at ho5
                have h := ho5
                try simp only at h
                refine athen_r ?_
                refine ablock_r ?_
                refine athen_r ?_
                obtain rfl := Option.some.inj h
                exact ⟨rfl, [], [], [], rfl, (by (simp only [go_sem, hb1, hb3, hb9, hb13, hb15]) <;> (repeat' with_reducible apply And.intro) <;> first | assumption | rfl | omega | (unfold maxLen; omega))⟩
              · rw [if_neg (Bool.eq_false_iff.1 hb15)] at h
                refine AO.weaken (s' := ⟨fr [(1, .bp 1 0), (3, .int .i64 st1), (4, .bp 4 0), (16, .sl (.pair (.int .i64) (.int .i64)) l.2), (17, .int .i64 (l.2.length : Int)), (18, .int .i64 st1), (31, .bool false)], hpGet [(1, .box 24 [.int .i64 l.1, .sl (.pair (.int .i64) (.int .i64)) l.2]), (4, .box 56 [.int .i64 (l.2.getD st1.toNat (0, 0)).1, .int .i64 (l.2.getD st1.toNat (0, 0)).2])], gt⟩) (Wk.to (by (simp only [go_sem, hb1, hb3, hb9, hb13, hb15]) <;> (repeat' with_reducible apply And.intro) <;> first | assumption | rfl | omega | (unfold maxLen; omega))) ?_
                refine AO.segF tab_ok 7 (by decide) [(1, .bp 1 0), (3, .int .i64 st1), (4, .bp 4 0), (16, .sl (.pair (.int .i64) (.int .i64)) l.2), (17, .int .i64 (l.2.length : Int)), (18, .int .i64 st1), (38, .bool (decide (l.1 ≤ (l.2.getD st1.toNat (0, 0)).1)))] [(1, .box 24 [.int .i64 l.1, .sl (.pair (.int .i64) (.int .i64)) l.2]), (4, .box 56 [.int .i64 (l.2.getD st1.toNat (0, 0)).1, .int .i64 (l.2.getD st1.toNat (0, 0)).2])] (by (simp only [go_sem, hb1, hb3, hb9, hb13, hb15]) <;> (repeat' with_reducible apply And.intro) <;> first | assumption | rfl | omega | (unfold maxLen; omega)) ?_
                rcases Bool.eq_false_or_eq_true (decide (l.1 ≤ (l.2.getD st1.toNat (0, 0)).1)) with hb17 | hb17
                · rw [if_pos hb17] at h
                  refine AO.weaken (s' := ⟨fr [(1, .bp 1 0), (3, .int .i64 st1), (4, .bp 4 0), (16, .sl (.pair (.int .i64) (.int .i64)) l.2), (17, .int .i64 (l.2.length : Int)), (18, .int .i64 st1), (38, .bool true)], hpGet [(1, .box 24 [.int .i64 l.1, .sl (.pair (.int .i64) (.int .i64)) l.2]), (4, .box 56 [.int .i64 (l.2.getD st1.toNat (0, 0)).1, .int .i64 (l.2.getD st1.toNat (0, 0)).2])], gt⟩) (Wk.to (by (simp only [go_sem, hb1, hb3, hb9, hb13, hb15, hb17]) <;> (repeat' with_reducible apply And.intro) <;> first | assumption | rfl | omega | (unfold maxLen; omega))) ?_
                  refine AO.segF tab_ok 4 (by decide) [(1, .bp 1 0), (3, .int .i64 st1), (4, .bp 4 0), (16, .sl (.pair (.int .i64) (.int .i64)) l.2), (17, .int .i64 (l.2.length : Int)), (18, .int .i64 st1), (38, .bool true), (40, .cv (undef)), (42, .cv (undef))] [(1, .box 24 [.int .i64 l.1, .sl (.pair (.int .i64) (.int .i64)) l.2]), (4, .box 56 [.int .i64 (l.2.getD st1.toNat (0, 0)).1, .int .i64 (l.2.getD st1.toNat (0, 0)).2])] (by (simp only [go_sem, hb1, hb3, hb9, hb13, hb15, hb17]) <;> (repeat' with_reducible apply And.intro) <;> first | assumption | rfl | omega | (unfold maxLen; omega)) ?_
                  refine AO.segF tab_ok 6 (by decide) [(1, .bp 1 0), (3, .int .i64 st1), (4, .bp 4 0), (16, .sl (.pair (.int .i64) (.int .i64)) l.2), (17, .int .i64 (l.2.length : Int)), (18, .int .i64 st1), (45, .bool true), (47, .cv (undef)), (48, .cv (undef))] [(1, .box 24 [.int .i64 l.1, .sl (.pair (.int .i64) (.int .i64)) l.2]), (4, .box 56 [.int .i64 (l.2.getD st1.toNat (0, 0)).1, .int .i64 (l.2.getD st1.toNat (0, 0)).2])] (by (simp only [go_sem, hb1, hb3, hb9, hb13, hb15, hb17]) <;> (repeat' with_reducible apply And.intro) <;> first | assumption | rfl | omega | (unfold maxLen; omega)) ?_
                  refine AO.allF tab_ok (by decide) [(1, .bp 1 0), (3, .int .i64 st1), (4, .bp 4 0), (16, .sl (.pair (.int .i64) (.int .i64)) l.2), (17, .int .i64 (l.2.length : Int)), (18, .int .i64 st1), (51, .bool true)] [(1, .box 24 [.int .i64 l.1, .sl (.pair (.int .i64) (.int .i64)) l.2]), (4, .box 56 [.int .i64 (l.2.getD st1.toNat (0, 0)).1, .int .i64 (l.2.getD st1.toNat (0, 0)).2])] (by (simp only [go_sem, hb1, hb3, hb9, hb13, hb15, hb17]) <;> (repeat' with_reducible apply And.intro) <;> first | assumption | rfl | omega | (unfold maxLen; omega)) ?_
                  refine athen_n ?_
                  refine AW.cond (b := true) rfl (fun _ => ?_) (fun hb18 => by cases hb18)
                  refine AW.seq ?_
                  refine AW.ops ?_
                  refine AO.allF tab_ok (by decide) [(2, .bool false)] [] (by (simp only [go_sem, hb1, hb3, hb9, hb13, hb15, hb17]) <;> (repeat' with_reducible apply And.intro) <;> first | assumption | rfl | omega | (unfold maxLen; omega)) ?_
                  refine athen_n ?_
                  refine AW.ret ?_
                  refine athen_r ?_
                  refine ablock_r ?_
                  refine athen_r ?_
                  obtain rfl := Option.some.inj h
                  rw [← hd6 _ rfl] at ho5
                  have h := ho5
                  try simp only at h
                  refine athen_r ?_
                  refine ablock_r ?_
                  refine athen_r ?_
                  obtain rfl := Option.some.inj h
                  exact ⟨rfl, [], [], [], rfl, (by (simp only [go_sem, hb1, hb3, hb9, hb13, hb15, hb17]) <;> (repeat' with_reducible apply And.intro) <;> first | assumption | rfl | omega | (unfold maxLen; omega))⟩
                · rw [if_neg (Bool.eq_false_iff.1 hb17)] at h
                  refine AO.weaken (s' := ⟨fr [(1, .bp 1 0), (3, .int .i64 st1), (4, .bp 4 0), (16, .sl (.pair (.int .i64) (.int .i64)) l.2), (17, .int .i64 (l.2.length : Int)), (18, .int .i64 st1), (38, .bool false)], hpGet [(1, .box 24 [.int .i64 l.1, .sl (.pair (.int .i64) (.int .i64)) l.2]), (4, .box 56 [.int .i64 (l.2.getD st1.toNat (0, 0)).1, .int .i64 (l.2.getD st1.toNat (0, 0)).2])], gt⟩) (Wk.to (by (simp only [go_sem, hb1, hb3, hb9, hb13, hb15, hb17]) <;> (repeat' with_reducible apply And.intro) <;> first | assumption | rfl | omega | (unfold maxLen; omega))) ?_
                  refine AO.segF tab_ok 7 (by decide) [(1, .bp 1 0), (3, .int .i64 st1), (4, .bp 4 0), (16, .sl (.pair (.int .i64) (.int .i64)) l.2), (17, .int .i64 (l.2.length : Int)), (18, .int .i64 st1), (45, .bool (decide (l.1 ≤ (l.2.getD st1.toNat (0, 0)).2)))] [(1, .box 24 [.int .i64 l.1, .sl (.pair (.int .i64) (.int .i64)) l.2]), (4, .box 56 [.int .i64 (l.2.getD st1.toNat (0, 0)).1, .int .i64 (l.2.getD st1.toNat (0, 0)).2])] (by (simp only [go_sem, hb1, hb3, hb9, hb13, hb15, hb17]) <;> (repeat' with_reducible apply And.intro) <;> first | assumption | rfl | omega | (unfold maxLen; omega)) ?_
                  rcases Bool.eq_false_or_eq_true (decide (l.1 ≤ (l.2.getD st1.toNat (0, 0)).2)) with hb19 | hb19
                  · rw [if_pos hb19] at h
                    refine AO.weaken (s' := ⟨fr [(1, .bp 1 0), (3, .int .i64 st1), (4, .bp 4 0), (16, .sl (.pair (.int .i64) (.int .i64)) l.2), (17, .int .i64 (l.2.length : Int)), (18, .int .i64 st1), (45, .bool true)], hpGet [(1, .box 24 [.int .i64 l.1, .sl (.pair (.int .i64) (.int .i64)) l.2]), (4, .box 56 [.int .i64 (l.2.getD st1.toNat (0, 0)).1, .int .i64 (l.2.getD st1.toNat (0, 0)).2])], gt⟩) (Wk.to (by (simp only [go_sem, hb1, hb3, hb9, hb13, hb15, hb17, hb19]) <;> (repeat' with_reducible apply And.intro) <;> first | assumption | rfl | omega | (unfold maxLen; omega))) ?_
                    refine AO.segF tab_ok 4 (by decide) [(1, .bp 1 0), (3, .int .i64 st1), (4, .bp 4 0), (16, .sl (.pair (.int .i64) (.int .i64)) l.2), (17, .int .i64 (l.2.length : Int)), (18, .int .i64 st1), (45, .bool true), (47, .cv (undef)), (49, .cv (undef))] [(1, .box 24 [.int .i64 l.1, .sl (.pair (.int .i64) (.int .i64)) l.2]), (4, .box 56 [.int .i64 (l.2.getD st1.toNat (0, 0)).1, .int .i64 (l.2.getD st1.toNat (0, 0)).2])] (by (simp only [go_sem, hb1, hb3, hb9, hb13, hb15, hb17, hb19]) <;> (repeat' with_reducible apply And.intro) <;> first | assumption | rfl | omega | (unfold maxLen; omega)) ?_
                    refine AO.allF tab_ok (by decide) [(1, .bp 1 0), (3, .int .i64 st1), (4, .bp 4 0), (16, .sl (.pair (.int .i64) (.int .i64)) l.2), (17, .int .i64 (l.2.length : Int)), (18, .int .i64 st1), (51, .bool true)] [(1, .box 24 [.int .i64 l.1, .sl (.pair (.int .i64) (.int .i64)) l.2]), (4, .box 56 [.int .i64 (l.2.getD st1.toNat (0, 0)).1, .int .i64 (l.2.getD st1.toNat (0, 0)).2])] (by (simp only [go_sem, hb1, hb3, hb9, hb13, hb15, hb17, hb19]) <;> (repeat' with_reducible apply And.intro) <;> first | assumption | rfl | omega | (unfold maxLen; omega)) ?_
                    refine athen_n ?_
                    refine AW.cond (b := true) rfl (fun _ => ?_) (fun hb20 => by cases hb20)
                    refine AW.seq ?_
                    refine AW.ops ?_
                    refine AO.allF tab_ok (by decide) [(2, .bool false)] [] (by (simp only [go_sem, hb1, hb3, hb9, hb13, hb15, hb17, hb19]) <;> (repeat' with_reducible apply And.intro) <;> first | assumption | rfl | omega | (unfold maxLen; omega)) ?_
                    refine athen_n ?_
                    refine AW.ret ?_
                    refine athen_r ?_
                    refine ablock_r ?_
                    refine athen_r ?_
                    obtain rfl := Option.some.inj h
                    rw [← hd6 _ rfl] at ho5
                    have h := ho5
                    try simp only at h
                    refine athen_r ?_
                    refine ablock_r ?_
                    refine athen_r ?_
                    obtain rfl := Option.some.inj h
                    exact ⟨rfl, [], [], [], rfl, (by (simp only [go_sem, hb1, hb3, hb9, hb13, hb15, hb17, hb19]) <;> (repeat' with_reducible apply And.intro) <;> first | assumption | rfl | omega | (unfold maxLen; omega))⟩
                  · rw [if_neg (Bool.eq_false_iff.1 hb19)] at h
                    refine AO.weaken (s' := ⟨fr [(1, .bp 1 0), (3, .int .i64 st1), (4, .bp 4 0), (16, .sl (.pair (.int .i64) (.int .i64)) l.2), (17, .int .i64 (l.2.length : Int)), (18, .int .i64 st1), (45, .bool false)], hpGet [(1, .box 24 [.int .i64 l.1, .sl (.pair (.int .i64) (.int .i64)) l.2]), (4, .box 56 [.int .i64 (l.2.getD st1.toNat (0, 0)).1, .int .i64 (l.2.getD st1.toNat (0, 0)).2])], gt⟩) (Wk.to (by (simp only [go_sem, hb1, hb3, hb9, hb13, hb15, hb17, hb19]) <;> (repeat' with_reducible apply And.intro) <;> first | assumption | rfl | omega | (unfold maxLen; omega))) ?_
                    refine AO.allF tab_ok (by decide) [(1, .bp 1 0), (3, .int .i64 st1), (4, .bp 4 0), (16, .sl (.pair (.int .i64) (.int .i64)) l.2), (17, .int .i64 (l.2.length : Int)), (18, .int .i64 st1), (51, .bool (decide ((l.2.getD st1.toNat (0, 0)).2 ≤ (l.2.getD st1.toNat (0, 0)).1)))] [(1, .box 24 [.int .i64 l.1, .sl (.pair (.int .i64) (.int .i64)) l.2]), (4, .box 56 [.int .i64 (l.2.getD st1.toNat (0, 0)).1, .int .i64 (l.2.getD st1.toNat (0, 0)).2])] (by (simp only [go_sem, hb1, hb3, hb9, hb13, hb15, hb17, hb19]) <;> (repeat' with_reducible apply And.intro) <;> first | assumption | rfl | omega | (unfold maxLen; omega)) ?_
                    refine athen_n ?_
                    refine AW.cond (b := (decide ((l.2.getD st1.toNat (0, 0)).2 ≤ (l.2.getD st1.toNat (0, 0)).1))) rfl (fun hb21 => ?_) (fun hb21 => ?_)
                    · rw [if_pos hb21] at h
                      refine AW.seq ?_
                      refine AW.ops ?_
                      refine AO.allF tab_ok (by decide) [(2, .bool false)] [] (by (simp only [go_sem, hb1, hb3, hb9, hb13, hb15, hb17, hb19, hb21]) <;> (repeat' with_reducible apply And.intro) <;> first | assumption | rfl | omega | (unfold maxLen; omega)) ?_
                      refine athen_n ?_
                      refine AW.ret ?_
                      refine athen_r ?_
                      refine ablock_r ?_
                      refine athen_r ?_
                      obtain rfl := Option.some.inj h
                      rw [← hd6 _ rfl] at ho5
                      have h := ho5
                      try simp only at h
                      refine athen_r ?_
                      refine ablock_r ?_
                      refine athen_r ?_
                      obtain rfl := Option.some.inj h
                      exact ⟨rfl, [], [], [], rfl, (by (simp only [go_sem, hb1, hb3, hb9, hb13, hb15, hb17, hb19, hb21]) <;> (repeat' with_reducible apply And.intro) <;> first | assumption | rfl | omega | (unfold maxLen; omega))⟩
                    · rw [if_neg (Bool.eq_false_iff.1 hb21)] at h
                      refine AW.skip ?_
                      refine athen_n ?_
                      refine AW.seq ?_
                      refine AW.ops ?_
                      obtain ⟨c22, h⟩ := ck_some.1 h
                      obtain ⟨c23, h⟩ := ck_some.1 h
                      refine AO.allF tab_ok (by decide) [(1, .bp 1 0), (4, .bp 4 0), (16, .sl (.pair (.int .i64) (.int .i64)) l.2), (17, .int .i64 (l.2.length : Int)), (18, .int .i64 st1), (55, .sl (.pair (.int .i64) (.int .i64)) (l.2.take st1.toNat)), (56, .int .i64 ((l.2.take st1.toNat).length : Int)), (57, .int .i64 0)] [(1, .box 24 [.int .i64 l.1, .sl (.pair (.int .i64) (.int .i64)) l.2]), (4, .box 56 [.int .i64 (l.2.getD st1.toNat (0, 0)).1, .int .i64 (l.2.getD st1.toNat (0, 0)).2])] (by (simp only [go_sem, hb1, hb3, hb9, hb13, hb15, hb17, hb19, hb21]) <;> (repeat' with_reducible apply And.intro) <;> first | assumption | rfl | omega | (unfold maxLen; omega)) ?_
                      refine athen_n ?_
                      refine AW.block ?_
                      obtain ⟨rv28, hw24, ho25⟩ := Option.bind_eq_some_iff.1 h
                      refine AW.loopO (linealref03_Valid_b2 l st1) (fun st2 => ⟨fr [(1, .bp 1 0), (4, .bp 4 0), (16, .sl (.pair (.int .i64) (.int .i64)) l.2), (17, .int .i64 (l.2.length : Int)), (18, .int .i64 st1), (55, .sl (.pair (.int .i64) (.int .i64)) (l.2.take st1.toNat)), (56, .int .i64 ((l.2.take st1.toNat).length : Int)), (57, .int .i64 st2)], hpGet [(1, .box 24 [.int .i64 l.1, .sl (.pair (.int .i64) (.int .i64)) l.2]), (4, .box 56 [.int .i64 (l.2.getD st1.toNat (0, 0)).1, .int .i64 (l.2.getD st1.toNat (0, 0)).2])], gt⟩) 0 hw24 (Wk.le [] [] [] rfl (by (simp only [go_sem, hb1, hb3, hb9, hb13, hb15, hb17, hb19, hb21]) <;> (repeat' with_reducible apply And.intro) <;> first | assumption | rfl | omega | (unfold maxLen; omega)) (by (simp only [go_sem, hb1, hb3, hb9, hb13, hb15, hb17, hb19, hb21]) <;> (repeat' with_reducible apply And.intro) <;> first | assumption | rfl | omega | (unfold maxLen; omega))) ?_
                      intro st2 x27 h hd26
                      unfold linealref03_Valid_b2 at h
                      refine AW.seq ?_
                      refine AW.ops ?_
                      refine AO.allF tab_ok (by decide) [(1, .bp 1 0), (4, .bp 4 0), (16, .sl (.pair (.int .i64) (.int .i64)) l.2), (17, .int .i64 (l.2.length : Int)), (18, .int .i64 st1), (55, .sl (.pair (.int .i64) (.int .i64)) (l.2.take st1.toNat)), (56, .int .i64 ((l.2.take st1.toNat).length : Int)), (57, .int .i64 st2), (58, .bool (decide (st2 < ((l.2.take st1.toNat).length : Int))))] [(1, .box 24 [.int .i64 l.1, .sl (.pair (.int .i64) (.int .i64)) l.2]), (4, .box 56 [.int .i64 (l.2.getD st1.toNat (0, 0)).1, .int .i64 (l.2.getD st1.toNat (0, 0)).2])] (by (simp only [go_sem, hb1, hb3, hb9, hb13, hb15, hb17, hb19, hb21]) <;> (repeat' with_reducible apply And.intro) <;> first | assumption | rfl | omega | (unfold maxLen; omega)) ?_
                      refine athen_n ?_
                      refine AW.seq ?_
                      refine AW.cond (b := (decide (st2 < ((l.2.take st1.toNat).length : Int)))) rfl (fun hb29 => ?_) (fun hb29 => ?_)
                      · rw [if_pos hb29] at h
                        refine AW.skip ?_
                        refine athen_n ?_
                        refine AW.seq ?_
                        refine AW.block ?_
                        refine AW.seq ?_
                        refine AW.ops ?_
                        obtain ⟨c30, h⟩ := ck_some.1 h
                        obtain ⟨c31, h⟩ := ck_some.1 h
                        refine AO.allF tab_ok (by decide) [(1, .bp 1 0), (4, .bp 4 0), (6, .bp 6 0), (16, .sl (.pair (.int .i64) (.int .i64)) l.2), (17, .int .i64 (l.2.length : Int)), (18, .int .i64 st1), (55, .sl (.pair (.int .i64) (.int .i64)) (l.2.take st1.toNat)), (56, .int .i64 ((l.2.take st1.toNat).length : Int)), (57, .int .i64 st2)] [(1, .box 24 [.int .i64 l.1, .sl (.pair (.int .i64) (.int .i64)) l.2]), (4, .box 56 [.int .i64 (l.2.getD st1.toNat (0, 0)).1, .int .i64 (l.2.getD st1.toNat (0, 0)).2]), (6, .box 56 [.int .i64 ((l.2.take st1.toNat).getD st2.toNat (0, 0)).1, .int .i64 ((l.2.take st1.toNat).getD st2.toNat (0, 0)).2])] (by (simp only [go_sem, hb1, hb3, hb9, hb13, hb15, hb17, hb19, hb21, hb29]) <;> (repeat' with_reducible apply And.intro) <;> first | assumption | rfl | omega | (unfold maxLen; omega)) ?_
                        refine athen_n ?_
                        refine AW.seq ?_
                        refine AW.ops ?_
                        refine AO.segF tab_ok 2 (by decide) [(1, .bp 1 0), (4, .bp 4 0), (16, .sl (.pair (.int .i64) (.int .i64)) l.2), (17, .int .i64 (l.2.length : Int)), (18, .int .i64 st1), (55, .sl (.pair (.int .i64) (.int .i64)) (l.2.take st1.toNat)), (56, .int .i64 ((l.2.take st1.toNat).length : Int)), (57, .int .i64 st2), (61, .agg [.int .i64 (l.2.getD st1.toNat (0, 0)).1, .int .i64 (l.2.getD st1.toNat (0, 0)).2]), (62, .agg [.int .i64 ((l.2.take st1.toNat).getD st2.toNat (0, 0)).1, .int .i64 ((l.2.take st1.toNat).getD st2.toNat (0, 0)).2])] [(1, .box 24 [.int .i64 l.1, .sl (.pair (.int .i64) (.int .i64)) l.2]), (4, .box 56 [.int .i64 (l.2.getD st1.toNat (0, 0)).1, .int .i64 (l.2.getD st1.toNat (0, 0)).2])] (by (simp only [go_sem, hb1, hb3, hb9, hb13, hb15, hb17, hb19, hb21, hb29]) <;> (repeat' with_reducible apply And.intro) <;> first | assumption | rfl | omega | (unfold maxLen; omega)) ?_
                        obtain ⟨c32, h⟩ := ck_some.1 h
                        obtain ⟨c33, h⟩ := ck_some.1 h
                        obtain ⟨c34, h⟩ := ck_some.1 h
                        obtain ⟨c35, h⟩ := ck_some.1 h
                        refine AO.aggEq (neg := false) eqty_56 (by decide) rfl rfl (lx := [.int .i64 (l.2.getD st1.toNat (0, 0)).1, .int .i64 (l.2.getD st1.toNat (0, 0)).2]) (ly := [.int .i64 ((l.2.take st1.toNat).getD st2.toNat (0, 0)).1, .int .i64 ((l.2.take st1.toNat).getD st2.toNat (0, 0)).2]) (by first | rfl | (simp only [go_sem, hb1, hb3, hb9, hb13, hb15, hb17, hb19, hb21, hb29]) <;> (repeat' with_reducible apply And.intro) <;> first | assumption | rfl | omega | (unfold maxLen; omega)) (by first | rfl | (simp only [go_sem, hb1, hb3, hb9, hb13, hb15, hb17, hb19, hb21, hb29]) <;> (repeat' with_reducible apply And.intro) <;> first | assumption | rfl | omega | (unfold maxLen; omega)) (by first | rfl | (simp only [go_sem, hb1, hb3, hb9, hb13, hb15, hb17, hb19, hb21, hb29]) <;> (repeat' with_reducible apply And.intro) <;> first | assumption | rfl | omega | (unfold maxLen; omega)) (by first | rfl | (simp only [go_sem, hb1, hb3, hb9, hb13, hb15, hb17, hb19, hb21, hb29]) <;> (repeat' with_reducible apply And.intro) <;> first | assumption | rfl | omega | (unfold maxLen; omega)) (by first | assumption | omega | (simp only [go_sem, hb1, hb3, hb9, hb13, hb15, hb17, hb19, hb21, hb29]) <;> (repeat' with_reducible apply And.intro) <;> first | assumption | rfl | omega | (unfold maxLen; omega)) (by first | assumption | omega | (simp only [go_sem, hb1, hb3, hb9, hb13, hb15, hb17, hb19, hb21, hb29]) <;> (repeat' with_reducible apply And.intro) <;> first | assumption | rfl | omega | (unfold maxLen; omega)) ?_
                        refine AO.weaken (s' := ⟨fr [(1, .bp 1 0), (4, .bp 4 0), (16, .sl (.pair (.int .i64) (.int .i64)) l.2), (17, .int .i64 (l.2.length : Int)), (18, .int .i64 st1), (55, .sl (.pair (.int .i64) (.int .i64)) (l.2.take st1.toNat)), (56, .int .i64 ((l.2.take st1.toNat).length : Int)), (57, .int .i64 st2), (63, .bool (decide ((l.2.getD st1.toNat (0, 0)) = ((l.2.take st1.toNat).getD st2.toNat (0, 0)))))], hpGet [(1, .box 24 [.int .i64 l.1, .sl (.pair (.int .i64) (.int .i64)) l.2]), (4, .box 56 [.int .i64 (l.2.getD st1.toNat (0, 0)).1, .int .i64 (l.2.getD st1.toNat (0, 0)).2])], gt⟩) (Wk.to (by (simp only [go_sem, hb1, hb3, hb9, hb13, hb15, hb17, hb19, hb21, hb29]) <;> (repeat' with_reducible apply And.intro) <;> first | assumption | rfl | omega | (unfold maxLen; omega))) ?_
                        refine AO.allF tab_ok (by decide) [(1, .bp 1 0), (4, .bp 4 0), (16, .sl (.pair (.int .i64) (.int .i64)) l.2), (17, .int .i64 (l.2.length : Int)), (18, .int .i64 st1), (55, .sl (.pair (.int .i64) (.int .i64)) (l.2.take st1.toNat)), (56, .int .i64 ((l.2.take st1.toNat).length : Int)), (57, .int .i64 st2), (63, .bool (decide ((l.2.getD st1.toNat (0, 0)) = ((l.2.take st1.toNat).getD st2.toNat (0, 0)))))] [(1, .box 24 [.int .i64 l.1, .sl (.pair (.int .i64) (.int .i64)) l.2]), (4, .box 56 [.int .i64 (l.2.getD st1.toNat (0, 0)).1, .int .i64 (l.2.getD st1.toNat (0, 0)).2])] (by (simp only [go_sem, hb1, hb3, hb9, hb13, hb15, hb17, hb19, hb21, hb29]) <;> (repeat' with_reducible apply And.intro) <;> first | assumption | rfl | omega | (unfold maxLen; omega)) ?_
                        refine athen_n ?_
                        refine AW.cond (b := (decide ((l.2.getD st1.toNat (0, 0)) = ((l.2.take st1.toNat).getD st2.toNat (0, 0))))) rfl (fun hb36 => ?_) (fun hb36 => ?_)
                        · rw [if_pos hb36] at h
                          refine AW.seq ?_
                          refine AW.ops ?_
                          refine AO.allF tab_ok (by decide) [(2, .bool false)] [] (by (simp only [go_sem, hb1, hb3, hb9, hb13, hb15, hb17, hb19, hb21, hb29, hb36]) <;> (repeat' with_reducible apply And.intro) <;> first | assumption | rfl | omega | (unfold maxLen; omega)) ?_
                          refine athen_n ?_
                          refine AW.ret ?_
                          refine ablock_r ?_
                          refine athen_r ?_
                          obtain rfl := Option.some.inj h
                          rw [← hd26 _ rfl] at ho25
                          have h := ho25
                          try simp only at h
                          refine athen_r ?_
                          refine ablock_r ?_
                          refine ablock_r ?_
                          refine athen_r ?_
                          obtain rfl := Option.some.inj h
                          rw [← hd6 _ rfl] at ho5
                          have h := ho5
                          try simp only at h
                          refine athen_r ?_
                          refine ablock_r ?_
                          refine athen_r ?_
                          obtain rfl := Option.some.inj h
                          exact ⟨rfl, [], [], [], rfl, (by (simp only [go_sem, hb1, hb3, hb9, hb13, hb15, hb17, hb19, hb21, hb29, hb36]) <;> (repeat' with_reducible apply And.intro) <;> first | assumption | rfl | omega | (unfold maxLen; omega))⟩
                        · rw [if_neg (Bool.eq_false_iff.1 hb36)] at h
                          refine AW.skip ?_
                          refine ablock_n ?_
                          refine athen_n ?_
                          refine AW.ops ?_
                          obtain ⟨c37, h⟩ := ck_some.1 h
                          refine AO.allF tab_ok (by decide) [(1, .bp 1 0), (4, .bp 4 0), (16, .sl (.pair (.int .i64) (.int .i64)) l.2), (17, .int .i64 (l.2.length : Int)), (18, .int .i64 st1), (55, .sl (.pair (.int .i64) (.int .i64)) (l.2.take st1.toNat)), (56, .int .i64 ((l.2.take st1.toNat).length : Int)), (57, .int .i64 (st2 + 1))] [(1, .box 24 [.int .i64 l.1, .sl (.pair (.int .i64) (.int .i64)) l.2]), (4, .box 56 [.int .i64 (l.2.getD st1.toNat (0, 0)).1, .int .i64 (l.2.getD st1.toNat (0, 0)).2])] (by (simp only [go_sem, hb1, hb3, hb9, hb13, hb15, hb17, hb19, hb21, hb29, hb36]) <;> (repeat' with_reducible apply And.intro) <;> first | assumption | rfl | omega | (unfold maxLen; omega)) ?_
                          obtain rfl := Option.some.inj h
                          exact ⟨_, rfl, Wk.le [] [] [] rfl (by (simp only [go_sem, hb1, hb3, hb9, hb13, hb15, hb17, hb19, hb21, hb29, hb36]) <;> (repeat' with_reducible apply And.intro) <;> first | assumption | rfl | omega | (unfold maxLen; omega)) (by (simp only [go_sem, hb1, hb3, hb9, hb13, hb15, hb17, hb19, hb21, hb29, hb36]) <;> (repeat' with_reducible apply And.intro) <;> first | assumption | rfl | omega | (unfold maxLen; omega))⟩
                      · rw [if_neg (Bool.eq_false_iff.1 hb29)] at h
                        refine AW.exit ?_
                        refine athen_e ?_
                        obtain rfl := Option.some.inj h
                        rw [← hd26 _ rfl] at ho25
                        have h := ho25
                        try simp only at h
                        refine athen_e ?_
                        refine ablock_s ?_
                        refine ablock_n ?_
                        refine athen_n ?_
                        exact AW.weaken (Wk.le [] [] [] rfl (by (simp only [go_sem, hb1, hb3, hb9, hb13, hb15, hb17, hb19, hb21, hb29]) <;> (repeat' with_reducible apply And.intro) <;> first | assumption | rfl | omega | (unfold maxLen; omega)) (by (simp only [go_sem, hb1, hb3, hb9, hb13, hb15, hb17, hb19, hb21, hb29]) <;> (repeat' with_reducible apply And.intro) <;> first | assumption | rfl | omega | (unfold maxLen; omega))) (hk_linealref03_Valid_k2 () h)
        · rw [if_neg (Bool.eq_false_iff.1 hb9)] at h
          refine AW.exit ?_
          refine athen_e ?_
          obtain rfl := Option.some.inj h
          rw [← hd6 _ rfl] at ho5
          have h := ho5
          try simp only at h
          refine athen_e ?_
          refine ablock_s ?_
          refine athen_n ?_
          exact AW.weaken (Wk.le [] [] [] rfl (by (simp only [go_sem, hb1, hb3, hb9]) <;> (repeat' with_reducible apply And.intro) <;> first | assumption | rfl | omega | (unfold maxLen; omega)) (by (simp only [go_sem, hb1, hb3, hb9]) <;> (repeat' with_reducible apply And.intro) <;> first | assumption | rfl | omega | (unfold maxLen; omega))) (hk_linealref03_Valid_k1 () h)

set_option maxRecDepth 100000 in
set_option maxHeartbeats 2000000 in
theorem hc_linealref03_IsLetter (l : Int × (List (Int × Int))) (a : Int) {r : Bool} (h : linealref03_IsLetter l a = some r) : HC Try.prog 61 [] [.agg [.int .i64 l.1, .sl (.pair (.int .i64) (.int .i64)) l.2], .int .i64 a] [] (.bool r) := by
  unfold linealref03_IsLetter at h
  refine HC.of_body tab_ok (res := [.tmp 4]) Try.func61 rfl (by kernel_rfl) rfl (nt := 13) rfl (by decide) (by simp) ?_
  refine AW.seq ?_
  refine AW.ops ?_
  refine AO.allF tab_ok (by decide) [(1, .int .i64 a), (2, .bp 2 0)] [(2, .box 24 [.int .i64 l.1, .sl (.pair (.int .i64) (.int .i64)) l.2])] (by (simp only [go_sem]) <;> (repeat' with_reducible apply And.intro) <;> first | assumption | rfl | omega | (unfold maxLen; omega)) ?_
  refine athen_n ?_
  refine AW.seq ?_
  refine AW.ops ?_
  refine AO.segF tab_ok 3 (by decide) [(1, .int .i64 a), (2, .bp 2 0), (7, .bool (decide (0 ≤ a)))] [(2, .box 24 [.int .i64 l.1, .sl (.pair (.int .i64) (.int .i64)) l.2])] (by (simp only [go_sem]) <;> (repeat' with_reducible apply And.intro) <;> first | assumption | rfl | omega | (unfold maxLen; omega)) ?_
  rcases Bool.eq_false_or_eq_true (decide (0 ≤ a)) with hb1 | hb1
  · rw [if_pos hb1] at h
    refine AO.weaken (s' := ⟨fr [(1, .int .i64 a), (2, .bp 2 0), (7, .bool true)], hpGet [(2, .box 24 [.int .i64 l.1, .sl (.pair (.int .i64) (.int .i64)) l.2])], gt⟩) (Wk.to (by (simp only [go_sem, hb1]) <;> (repeat' with_reducible apply And.intro) <;> first | assumption | rfl | omega | (unfold maxLen; omega))) ?_
    refine AO.allF tab_ok (by decide) [(4, .bool (decide (a < l.1)))] [] (by (simp only [go_sem, hb1]) <;> (repeat' with_reducible apply And.intro) <;> first | assumption | rfl | omega | (unfold maxLen; omega)) ?_
    refine athen_n ?_
    refine AW.ret ?_
    obtain rfl := Option.some.inj h
    exact ⟨rfl, [], [], [], rfl, (by (simp only [go_sem, hb1]) <;> (repeat' with_reducible apply And.intro) <;> first | assumption | rfl | omega | (unfold maxLen; omega))⟩
  · rw [if_neg (Bool.eq_false_iff.1 hb1)] at h
    refine AO.weaken (s' := ⟨fr [(1, .int .i64 a), (2, .bp 2 0), (7, .bool false)], hpGet [(2, .box 24 [.int .i64 l.1, .sl (.pair (.int .i64) (.int .i64)) l.2])], gt⟩) (Wk.to (by (simp only [go_sem, hb1]) <;> (repeat' with_reducible apply And.intro) <;> first | assumption | rfl | omega | (unfold maxLen; omega))) ?_
    refine AO.segF tab_ok 4 (by decide) [(7, .bool false), (11, .cv (undef))] [] (by (simp only [go_sem, hb1]) <;> (repeat' with_reducible apply And.intro) <;> first | assumption | rfl | omega | (unfold maxLen; omega)) ?_
    refine AO.allF tab_ok (by decide) [(4, .bool false)] [] (by (simp only [go_sem, hb1]) <;> (repeat' with_reducible apply And.intro) <;> first | assumption | rfl | omega | (unfold maxLen; omega)) ?_
    refine athen_n ?_
    refine AW.ret ?_
    obtain rfl := Option.some.inj h
    exact ⟨rfl, [], [], [], rfl, (by (simp only [go_sem, hb1]) <;> (repeat' with_reducible apply And.intro) <;> first | assumption | rfl | omega | (unfold maxLen; omega))⟩

set_option maxRecDepth 100000 in
set_option maxHeartbeats 2000000 in
theorem hc_slices_Clone (s : List Int) {r : (List Int)} (h : slices_Clone s = some r) : HC Try.prog 64 [] [.sl (.int .i64) s] [(2000, .arr 3 (.int .i64) r)] (.own 2000) := by
  unfold slices_Clone at h
  refine HC.of_body tab_ok (res := [.tmp 2]) Try.func64 rfl (by kernel_rfl) rfl (nt := 8) rfl (by decide) (by simp) ?_
  refine AW.seq ?_
  refine AW.ops ?_
  refine AO.allF tab_ok (by decide) [(0, .sl (.int .i64) s)] [] (by (simp only [go_sem]) <;> (repeat' with_reducible apply And.intro) <;> first | assumption | rfl | omega | (unfold maxLen; omega)) ?_
  refine athen_n ?_
  refine AW.seq ?_
  refine AW.seq ?_
  refine AW.ops ?_
  refine AO.segF tab_ok 1 (by decide) [(0, .sl (.int .i64) s), (3, .sl (.int .i64) s)] [] (by (simp only [go_sem]) <;> (repeat' with_reducible apply And.intro) <;> first | assumption | rfl | omega | (unfold maxLen; omega)) ?_
  refine AO.nilEq (neg := false) tab_ok (by decide) rfl rfl tab_25 rfl rfl rfl (fun hnil1 => ?_) ?_
  · have h : (some []) = some r := by
      first | (simp only [hnil1] at h ⊢; simpa [ck] using h) | (simp [hnil1, ck] at h ⊢; first | done | exact h)
    refine AO.weaken (s' := ⟨fr [(0, .sl (.int .i64) s), (4, .bool true)], hpGet [], gt⟩) (Wk.to (by (simp only [go_sem]) <;> (repeat' with_reducible apply And.intro) <;> first | assumption | rfl | omega | (unfold maxLen; omega))) ?_
    refine AO.allF tab_ok (by decide) [(0, .sl (.int .i64) s), (4, .bool true)] [] (by (simp only [go_sem]) <;> (repeat' with_reducible apply And.intro) <;> first | assumption | rfl | omega | (unfold maxLen; omega)) ?_
    refine athen_n ?_
    refine AW.cond (b := true) rfl (fun _ => ?_) (fun hb2 => by cases hb2)
    refine AW.seq ?_
    refine AW.ops ?_
    refine AO.allF tab_ok (by decide) [(2, .cv (.slice none 0 0))] [] (by (simp only [go_sem]) <;> (repeat' with_reducible apply And.intro) <;> first | assumption | rfl | omega | (unfold maxLen; omega)) ?_
    refine athen_n ?_
    refine AW.ret ?_
    refine athen_r ?_
    obtain rfl := Option.some.inj h
    exact ⟨rfl, [], [2000], [], rfl, (by (simp only [go_sem]) <;> (repeat' with_reducible apply And.intro) <;> first | assumption | rfl | omega | (unfold maxLen; omega))⟩
  · refine AO.weaken (s' := ⟨fr [(0, .sl (.int .i64) s), (4, .bool false)], hpGet [], gt⟩) (Wk.to (by (simp only [go_sem]) <;> (repeat' with_reducible apply And.intro) <;> first | assumption | rfl | omega | (unfold maxLen; omega))) ?_
    refine AO.allF tab_ok (by decide) [(0, .sl (.int .i64) s), (4, .bool false)] [] (by (simp only [go_sem]) <;> (repeat' with_reducible apply And.intro) <;> first | assumption | rfl | omega | (unfold maxLen; omega)) ?_
    refine athen_n ?_
    refine AW.cond (b := false) rfl (fun hb3 => by cases hb3) (fun _ => ?_)
    refine AW.skip ?_
    refine athen_n ?_
    refine AW.seq ?_
    refine AW.ops ?_
    obtain ⟨c4, h⟩ := ck_some.1 h
    refine AO.allF tab_ok (by decide) [(2, .own 7)] [(7, .arr 3 (.int .i64) s)] (by (simp only [go_sem]) <;> (repeat' with_reducible apply And.intro) <;> first | assumption | rfl | omega | (unfold maxLen; omega)) ?_
    refine athen_n ?_
    refine AW.ret ?_
    obtain rfl := Option.some.inj h
    exact ⟨rfl, [], [], [(2000, 7)], rfl, (by (simp only [go_sem]) <;> (repeat' with_reducible apply And.intro) <;> first | assumption | rfl | omega | (unfold maxLen; omega))⟩

set_option maxRecDepth 100000 in
set_option maxHeartbeats 2000000 in
theorem hc_weave_ties_exchange (t : (El T59)) (at0 : Int) (w : List Int) {r : Bool × (List Int)} (h : weave_ties_exchange t at0 w = some r) : HC Try.prog 65 [(1000, .arr 3 (.int .i64) w)] [.agg (cellsX T59 t), .own 1000, .int .i64 at0] [(1000, .arr 3 (.int .i64) r.2)] (.bool r.1) := by
  unfold weave_ties_exchange at h
  refine HC.of_body tab_ok (res := [.tmp 6]) Try.func65 rfl (by kernel_rfl) rfl (nt := 46) rfl (by decide) (by simp) ?_
  refine AW.seq ?_
  refine AW.ops ?_
  refine AO.allF tab_ok (by decide) [(1, .own 1000), (2, .int .i64 at0), (3, .bp 3 0)] [(3, .box 59 (cellsX T59 t)), (1000, .arr 3 (.int .i64) w)] (by (simp only [go_sem]) <;> (repeat' with_reducible apply And.intro) <;> first | assumption | rfl | omega | (unfold maxLen; omega)) ?_
  refine athen_n ?_
  refine AW.seq ?_
  refine AW.seq ?_
  refine AW.draw tab_ok mixed_ok [] [] (by decide) (by kernel_rfl) ?_
  refine adops_cut 3 (fun K' hK1 => ?_)
  try dsimp only [List.drop_succ_cons, List.drop_zero, List.take_succ_cons, List.take_zero]
  simp only [go_sem]
  repeat (with_reducible refine And.intro (by first | assumption | rfl | omega | trivial | (unfold maxLen; omega)) ?_)
  refine hK1 _ ?_
  rcases Bool.eq_false_or_eq_true (decide (at0 < 0)) with hb2 | hb2
  · rw [if_pos hb2] at h
    simp only [hb2]
    refine adops_cut 4 (fun K' hK3 => ?_)
    try dsimp only [List.drop_succ_cons, List.drop_zero, List.take_succ_cons, List.take_zero]
    simp only [go_sem, hb2]
    repeat (with_reducible refine And.intro (by first | assumption | rfl | omega | trivial | (unfold maxLen; omega)) ?_)
    refine hK3 _ ?_
    refine adops_cut 6 (fun K' hK4 => ?_)
    try dsimp only [List.drop_succ_cons, List.drop_zero, List.take_succ_cons, List.take_zero]
    simp only [go_sem, hb2]
    repeat (with_reducible refine And.intro (by first | assumption | rfl | omega | trivial | (unfold maxLen; omega)) ?_)
    refine hK4 _ ?_
    refine adops_cut 4 (fun K' hK5 => ?_)
    try dsimp only [List.drop_succ_cons, List.drop_zero, List.take_succ_cons, List.take_zero]
    simp only [go_sem, hb2]
    repeat (with_reducible refine And.intro (by first | assumption | rfl | omega | trivial | (unfold maxLen; omega)) ?_)
    refine hK5 _ ?_
    refine adops_cut 4 (fun K' hK6 => ?_)
    try dsimp only [List.drop_succ_cons, List.drop_zero, List.take_succ_cons, List.take_zero]
    simp only [go_sem, hb2]
    repeat (with_reducible refine And.intro (by first | assumption | rfl | omega | trivial | (unfold maxLen; omega)) ?_)
    refine hK6 _ ?_
    refine adops_cut 2 (fun K' hK7 => ?_)
    try dsimp only [List.drop_succ_cons, List.drop_zero, List.take_succ_cons, List.take_zero]
    simp only [go_sem, hb2]
    repeat (with_reducible refine And.intro (by first | assumption | rfl | omega | trivial | (unfold maxLen; omega)) ?_)
    refine hK7 _ ?_
    refine adops_nil ?_
    refine athen_n ?_
    refine AW.weaken (s' := ⟨fr [(1, .own 1000), (2, .int .i64 at0), (29, .bool true)], hpGet [(1000, .arr 3 (.int .i64) w)], gt⟩) (Wk.to (by (simp only [go_sem, hb2]) <;> (repeat' with_reducible apply And.intro) <;> first | assumption | rfl | omega | (unfold maxLen; omega))) ?_
    refine AW.cond (b := true) rfl (fun _ => ?_) (fun hb8 => by cases hb8)
    refine AW.seq ?_
    refine AW.ops ?_
    refine AO.allF tab_ok (by decide) [(6, .bool false)] [(1000, .arr 3 (.int .i64) w)] (by (simp only [go_sem, hb2]) <;> (repeat' with_reducible apply And.intro) <;> first | assumption | rfl | omega | (unfold maxLen; omega)) ?_
    refine athen_n ?_
    refine AW.ret ?_
    refine athen_r ?_
    obtain rfl := Option.some.inj h
    exact ⟨rfl, [], [], [], rfl, (by (simp only [go_sem, hb2]) <;> (repeat' with_reducible apply And.intro) <;> first | assumption | rfl | omega | (unfold maxLen; omega))⟩
  · rw [if_neg (Bool.eq_false_iff.1 hb2)] at h
    simp only [hb2]
    obtain ⟨c10, h⟩ := ck_some.1 h
    refine adops_cut 6 (fun K' hK9 => ?_)
    try dsimp only [List.drop_succ_cons, List.drop_zero, List.take_succ_cons, List.take_zero]
    simp only [go_sem, hb2]
    repeat (with_reducible refine And.intro (by first | assumption | rfl | omega | trivial | (unfold maxLen; omega)) ?_)
    refine hK9 _ ?_
    refine adops_cut 1 (fun K' hK11 => ?_)
    try dsimp only [List.drop_succ_cons, List.drop_zero, List.take_succ_cons, List.take_zero]
    simp only [go_sem, hb2]
    repeat (with_reducible refine And.intro (by first | assumption | rfl | omega | trivial | (unfold maxLen; omega)) ?_)
    refine hK11 _ ?_
    rcases Bool.eq_false_or_eq_true (decide (((w.length : Int) - 1) ≤ at0)) with hb12 | hb12
    · rw [if_pos hb12] at h
      simp only [hb12]
      refine adops_cut 4 (fun K' hK13 => ?_)
      try dsimp only [List.drop_succ_cons, List.drop_zero, List.take_succ_cons, List.take_zero]
      simp only [go_sem, hb2, hb12]
      repeat (with_reducible refine And.intro (by first | assumption | rfl | omega | trivial | (unfold maxLen; omega)) ?_)
      refine hK13 _ ?_
      refine adops_cut 4 (fun K' hK14 => ?_)
      try dsimp only [List.drop_succ_cons, List.drop_zero, List.take_succ_cons, List.take_zero]
      simp only [go_sem, hb2, hb12]
      repeat (with_reducible refine And.intro (by first | assumption | rfl | omega | trivial | (unfold maxLen; omega)) ?_)
      refine hK14 _ ?_
      refine adops_cut 4 (fun K' hK15 => ?_)
      try dsimp only [List.drop_succ_cons, List.drop_zero, List.take_succ_cons, List.take_zero]
      simp only [go_sem, hb2, hb12]
      repeat (with_reducible refine And.intro (by first | assumption | rfl | omega | trivial | (unfold maxLen; omega)) ?_)
      refine hK15 _ ?_
      refine adops_cut 1 (fun K' hK16 => ?_)
      try dsimp only [List.drop_succ_cons, List.drop_zero, List.take_succ_cons, List.take_zero]
      simp only [go_sem, hb2, hb12]
      repeat (with_reducible refine And.intro (by first | assumption | rfl | omega | trivial | (unfold maxLen; omega)) ?_)
      refine hK16 _ ?_
      refine adops_nil ?_
      refine athen_n ?_
      refine AW.weaken (s' := ⟨fr [(1, .own 1000), (2, .int .i64 at0), (29, .bool true)], hpGet [(1000, .arr 3 (.int .i64) w)], gt⟩) (Wk.to (by (simp only [go_sem, hb2, hb12]) <;> (repeat' with_reducible apply And.intro) <;> first | assumption | rfl | omega | (unfold maxLen; omega))) ?_
      refine AW.cond (b := true) rfl (fun _ => ?_) (fun hb17 => by cases hb17)
      refine AW.seq ?_
      refine AW.ops ?_
      refine AO.allF tab_ok (by decide) [(6, .bool false)] [(1000, .arr 3 (.int .i64) w)] (by (simp only [go_sem, hb2, hb12]) <;> (repeat' with_reducible apply And.intro) <;> first | assumption | rfl | omega | (unfold maxLen; omega)) ?_
      refine athen_n ?_
      refine AW.ret ?_
      refine athen_r ?_
      obtain rfl := Option.some.inj h
      exact ⟨rfl, [], [], [], rfl, (by (simp only [go_sem, hb2, hb12]) <;> (repeat' with_reducible apply And.intro) <;> first | assumption | rfl | omega | (unfold maxLen; omega))⟩
    · rw [if_neg (Bool.eq_false_iff.1 hb12)] at h
      simp only [hb12]
      obtain ⟨c19, h⟩ := ck_some.1 h
      obtain ⟨c20, h⟩ := ck_some.1 h
      refine adops_cut 6 (fun K' hK18 => ?_)
      try dsimp only [List.drop_succ_cons, List.drop_zero, List.take_succ_cons, List.take_zero]
      simp only [go_sem, hb2, hb12]
      repeat (with_reducible refine And.intro (by first | assumption | rfl | omega | trivial | (unfold maxLen; omega)) ?_)
      refine hK18 _ ?_
      obtain ⟨c22, h⟩ := ck_some.1 h
      obtain ⟨c23, h⟩ := ck_some.1 h
      obtain ⟨c24, h⟩ := ck_some.1 h
      obtain ⟨c25, h⟩ := ck_some.1 h
      obtain ⟨c26, h⟩ := ck_some.1 h
      obtain ⟨c27, h⟩ := ck_some.1 h
      obtain ⟨c28, h⟩ := ck_some.1 h
      have hx29 : ((0 + (w.getD at0.toNat 0).toNat * 6) + (w.getD (at0 + 1).toNat 0).toNat * 1) < 36 := by omega
      refine adops_cut 6 (fun K' hK21 => ?_)
      try dsimp only [List.drop_succ_cons, List.drop_zero, List.take_succ_cons, List.take_zero]
      simp only [go_sem, hb2, hb12, hx29]
      repeat (with_reducible refine And.intro (by first | assumption | rfl | omega | trivial | (unfold maxLen; omega)) ?_)
      refine hK21 _ ?_
      refine adops_cut 1 (fun K' hK30 => ?_)
      try dsimp only [List.drop_succ_cons, List.drop_zero, List.take_succ_cons, List.take_zero]
      simp only [go_sem, hb2, hb12, hx29]
      repeat (with_reducible refine And.intro (by first | assumption | rfl | omega | trivial | (unfold maxLen; omega)) ?_)
      refine hK30 _ ?_
      refine adops_nil ?_
      refine athen_n ?_
      refine AW.weaken (s' := ⟨fr [(1, .own 1000), (2, .int .i64 at0), (29, .bool (boolAt T59 t ((0 + (w.getD at0.toNat 0).toNat * 6) + (w.getD (at0 + 1).toNat 0).toNat * 1)))], hpGet [(1000, .arr 3 (.int .i64) w)], gt⟩) (Wk.to (by (simp only [go_sem, hb2, hb12, hx29]) <;> (repeat' with_reducible apply And.intro) <;> first | assumption | rfl | omega | (unfold maxLen; omega))) ?_
      refine AW.cond (b := (boolAt T59 t ((0 + (w.getD at0.toNat 0).toNat * 6) + (w.getD (at0 + 1).toNat 0).toNat * 1))) rfl (fun hb31 => ?_) (fun hb31 => ?_)
      · rw [if_pos hb31] at h
        refine AW.seq ?_
        refine AW.ops ?_
        refine AO.allF tab_ok (by decide) [(6, .bool false)] [(1000, .arr 3 (.int .i64) w)] (by (simp only [go_sem, hb2, hb12, hx29, hb31]) <;> (repeat' with_reducible apply And.intro) <;> first | assumption | rfl | omega | (unfold maxLen; omega)) ?_
        refine athen_n ?_
        refine AW.ret ?_
        refine athen_r ?_
        obtain rfl := Option.some.inj h
        exact ⟨rfl, [], [], [], rfl, (by (simp only [go_sem, hb2, hb12, hx29, hb31]) <;> (repeat' with_reducible apply And.intro) <;> first | assumption | rfl | omega | (unfold maxLen; omega))⟩
      · rw [if_neg (Bool.eq_false_iff.1 hb31)] at h
        refine AW.skip ?_
        refine athen_n ?_
        refine AW.seq ?_
        refine AW.draw tab_ok mixed_ok [(15, [1000]), (17, [1000])] [(2, [1000]), (3, []), (4, []), (100015, []), (100017, [])] (by decide) (by kernel_rfl) ?_
        obtain ⟨c33, h⟩ := ck_some.1 h
        refine adops_cut 6 (fun K' hK32 => ?_)
        try dsimp only [List.drop_succ_cons, List.drop_zero, List.take_succ_cons, List.take_zero]
        simp only [go_sem, hb2, hb12, hx29, hb31]
        repeat (with_reducible refine And.intro (by first | assumption | rfl | omega | trivial | (unfold maxLen; omega)) ?_)
        refine hK32 _ ?_
        obtain ⟨c35, h⟩ := ck_some.1 h
        obtain ⟨c36, h⟩ := ck_some.1 h
        obtain ⟨c37, h⟩ := ck_some.1 h
        refine adops_cut 6 (fun K' hK34 => ?_)
        try dsimp only [List.drop_succ_cons, List.drop_zero, List.take_succ_cons, List.take_zero]
        simp only [go_sem, hb2, hb12, hx29, hb31]
        repeat (with_reducible refine And.intro (by first | assumption | rfl | omega | trivial | (unfold maxLen; omega)) ?_)
        refine hK34 _ ?_
        obtain ⟨c39, h⟩ := ck_some.1 h
        obtain ⟨c40, h⟩ := ck_some.1 h
        obtain ⟨c41, h⟩ := ck_some.1 h
        obtain ⟨c42, h⟩ := ck_some.1 h
        obtain ⟨c43, h⟩ := ck_some.1 h
        obtain ⟨c44, h⟩ := ck_some.1 h
        refine adops_cut 6 (fun K' hK38 => ?_)
        try dsimp only [List.drop_succ_cons, List.drop_zero, List.take_succ_cons, List.take_zero]
        simp only [go_sem, hb2, hb12, hx29, hb31]
        repeat (with_reducible refine And.intro (by first | assumption | rfl | omega | trivial | (unfold maxLen; omega)) ?_)
        refine hK38 _ ?_
        refine adops_nil ?_
        refine athen_n ?_
        refine AW.weaken (s' := ⟨fr [], hpGet [(1000, .arr 3 (.int .i64) ((w.set at0.toNat (w.getD (at0 + 1).toNat 0)).set (at0 + 1).toNat (w.getD at0.toNat 0)))], gt⟩) (Wk.to (by (simp only [go_sem, hb2, hb12, hx29, hb31]) <;> (repeat' with_reducible apply And.intro) <;> first | assumption | rfl | omega | (unfold maxLen; omega))) ?_
        refine AW.seq ?_
        refine AW.ops ?_
        refine AO.allF tab_ok (by decide) [(6, .bool true)] [(1000, .arr 3 (.int .i64) ((w.set at0.toNat (w.getD (at0 + 1).toNat 0)).set (at0 + 1).toNat (w.getD at0.toNat 0)))] (by (simp only [go_sem, hb2, hb12, hx29, hb31]) <;> (repeat' with_reducible apply And.intro) <;> first | assumption | rfl | omega | (unfold maxLen; omega)) ?_
        refine athen_n ?_
        refine AW.ret ?_
        obtain rfl := Option.some.inj h
        exact ⟨rfl, [], [], [], rfl, (by (simp only [go_sem, hb2, hb12, hx29, hb31]) <;> (repeat' with_reducible apply And.intro) <;> first | assumption | rfl | omega | (unfold maxLen; omega))⟩

set_option maxRecDepth 100000 in
set_option maxHeartbeats 2000000 in
theorem hc_weave_Exchanged (l : Int × (List (Int × Int))) (w : List Int) (at0 : Int) {r : (List Int) × Int} (h : weave_Exchanged l w at0 = some r) : HC Try.prog 21 [] [.agg [.int .i64 l.1, .sl (.pair (.int .i64) (.int .i64)) l.2], .sl (.int .i64) w, .int .i64 at0] [(2000, .arr 3 (.int .i64) r.1)] (.tup [.own 2000, .int .i64 r.2]) := by
  unfold weave_Exchanged at h
  refine HC.of_body tab_ok (res := [.tmp 6, .tmp 7]) Try.func21 rfl (by kernel_rfl) rfl (nt := 29) rfl (by decide) (by simp) ?_
  refine AW.seq ?_
  refine AW.ops ?_
  refine AO.allF tab_ok (by decide) [(1, .sl (.int .i64) w), (2, .int .i64 at0), (3, .bp 3 0)] [(3, .box 24 [.int .i64 l.1, .sl (.pair (.int .i64) (.int .i64)) l.2])] (by (simp only [go_sem]) <;> (repeat' with_reducible apply And.intro) <;> first | assumption | rfl | omega | (unfold maxLen; omega)) ?_
  refine athen_n ?_
  refine AW.seq ?_
  refine AW.ops ?_
  refine AO.segF tab_ok 3 (by decide) [(1, .sl (.int .i64) w), (2, .int .i64 at0), (12, .agg [.int .i64 l.1, .sl (.pair (.int .i64) (.int .i64)) l.2]), (14, .own 14)] [(14, .arr 25 (.sl (.int .i64)) [w])] (by (simp only [go_sem]) <;> (repeat' with_reducible apply And.intro) <;> first | assumption | rfl | omega | (unfold maxLen; omega)) ?_
  obtain ⟨v0, hv1, h⟩ := Option.bind_eq_some_iff.1 h
  refine AO.call tab_ok (by decide) rfl rfl rfl (fun _ h => h) [14] [] (hc_weave_checked l [w] hv1) rfl (by (simp only [go_sem]) <;> (repeat' with_reducible apply And.intro) <;> first | assumption | rfl | omega | (unfold maxLen; omega)) (by (simp only [go_sem]) <;> (repeat' with_reducible apply And.intro) <;> first | assumption | rfl | omega | (unfold maxLen; omega)) [(1, .sl (.int .i64) w), (2, .int .i64 at0), (15, .tup [.agg (cellsX T59 v0.1), .int .i64 v0.2])] [] (by (simp only [go_sem]) <;> (repeat' with_reducible apply And.intro) <;> first | assumption | rfl | omega | (unfold maxLen; omega)) ?_
  refine AO.allF tab_ok (by decide) [(1, .sl (.int .i64) w), (2, .int .i64 at0), (8, .bp 8 0), (9, .int .i64 v0.2)] [(8, .box 59 (cellsX T59 v0.1))] (by (simp only [go_sem]) <;> (repeat' with_reducible apply And.intro) <;> first | assumption | rfl | omega | (unfold maxLen; omega)) ?_
  refine athen_n ?_
  refine AW.seq ?_
  refine AW.seq ?_
  refine AW.ops ?_
  refine AO.allF tab_ok (by decide) [(1, .sl (.int .i64) w), (2, .int .i64 at0), (8, .bp 8 0), (9, .int .i64 v0.2), (19, .bool (!(decide (v0.2 = 0))))] [(8, .box 59 (cellsX T59 v0.1))] (by (simp only [go_sem]) <;> (repeat' with_reducible apply And.intro) <;> first | assumption | rfl | omega | (unfold maxLen; omega)) ?_
  refine athen_n ?_
  refine AW.cond (b := (!(decide (v0.2 = 0)))) rfl (fun hb2 => ?_) (fun hb2 => ?_)
  · rw [if_pos hb2] at h
    refine AW.seq ?_
    refine AW.ops ?_
    refine AO.allF tab_ok (by decide) [(6, .cv (.slice none 0 0)), (7, .int .i64 v0.2)] [] (by (simp only [go_sem, hb2]) <;> (repeat' with_reducible apply And.intro) <;> first | assumption | rfl | omega | (unfold maxLen; omega)) ?_
    refine athen_n ?_
    refine AW.ret ?_
    refine athen_r ?_
    obtain rfl := Option.some.inj h
    exact ⟨rfl, [], [2000], [], rfl, (by (simp only [go_sem, hb2]) <;> (repeat' with_reducible apply And.intro) <;> first | assumption | rfl | omega | (unfold maxLen; omega))⟩
  · rw [if_neg (Bool.eq_false_iff.1 hb2)] at h
    refine AW.skip ?_
    refine athen_n ?_
    refine AW.seq ?_
    refine AW.ops ?_
    refine AO.segF tab_ok 1 (by decide) [(2, .int .i64 at0), (8, .bp 8 0), (21, .sl (.int .i64) w)] [(8, .box 59 (cellsX T59 v0.1))] (by (simp only [go_sem, hb2]) <;> (repeat' with_reducible apply And.intro) <;> first | assumption | rfl | omega | (unfold maxLen; omega)) ?_
    obtain ⟨v0_2, hv3, h⟩ := Option.bind_eq_some_iff.1 h
    refine AO.call tab_ok (by decide) rfl rfl rfl (fun _ h => h) [] [] (hc_slices_Clone w hv3) rfl (by (simp only [go_sem, hb2]) <;> (repeat' with_reducible apply And.intro) <;> first | assumption | rfl | omega | (unfold maxLen; omega)) (by (simp only [go_sem, hb2]) <;> (repeat' with_reducible apply And.intro) <;> first | assumption | rfl | omega | (unfold maxLen; omega)) [(2, .int .i64 at0), (8, .bp 8 0), (22, .own 32000)] [(8, .box 59 (cellsX T59 v0.1)), (32000, .arr 3 (.int .i64) v0_2)] (by (simp only [go_sem, hb2]) <;> (repeat' with_reducible apply And.intro) <;> first | assumption | rfl | omega | (unfold maxLen; omega)) ?_
    refine AO.allF tab_ok (by decide) [(2, .int .i64 at0), (8, .bp 8 0), (10, .own 32000)] [(8, .box 59 (cellsX T59 v0.1)), (32000, .arr 3 (.int .i64) v0_2)] (by (simp only [go_sem, hb2]) <;> (repeat' with_reducible apply And.intro) <;> first | assumption | rfl | omega | (unfold maxLen; omega)) ?_
    refine athen_n ?_
    refine AW.seq ?_
    refine AW.seq ?_
    refine AW.ops ?_
    refine AO.segF tab_ok 3 (by decide) [(10, .own 32000), (23, .agg (cellsX T59 v0.1)), (24, .own 32000), (25, .int .i64 at0)] [(32000, .arr 3 (.int .i64) v0_2)] (by (simp only [go_sem, hb2]) <;> (repeat' with_reducible apply And.intro) <;> first | assumption | rfl | omega | (unfold maxLen; omega)) ?_
    obtain ⟨v0_3, hv4, h⟩ := Option.bind_eq_some_iff.1 h
    refine AO.call tab_ok (by decide) rfl rfl rfl (fun _ h => h) [] [(1000, 32000)] (hc_weave_ties_exchange v0.1 at0 v0_2 hv4) rfl (by (simp only [go_sem, hb2]) <;> (repeat' with_reducible apply And.intro) <;> first | assumption | rfl | omega | (unfold maxLen; omega)) (by (simp only [go_sem, hb2]) <;> (repeat' with_reducible apply And.intro) <;> first | assumption | rfl | omega | (unfold maxLen; omega)) [(10, .own 32000), (26, .bool v0_3.1)] [(32000, .arr 3 (.int .i64) v0_3.2)] (by (simp only [go_sem, hb2]) <;> (repeat' with_reducible apply And.intro) <;> first | assumption | rfl | omega | (unfold maxLen; omega)) ?_
    refine AO.allF tab_ok (by decide) [(10, .own 32000), (27, .bool (!v0_3.1))] [(32000, .arr 3 (.int .i64) v0_3.2)] (by (simp only [go_sem, hb2]) <;> (repeat' with_reducible apply And.intro) <;> first | assumption | rfl | omega | (unfold maxLen; omega)) ?_
    refine athen_n ?_
    refine AW.cond (b := (!v0_3.1)) rfl (fun hb5 => ?_) (fun hb5 => ?_)
    · rw [if_pos hb5] at h
      refine AW.seq ?_
      refine AW.ops ?_
      refine AO.allF tab_ok (by decide) [(6, .cv (.slice none 0 0)), (7, .int .i64 2)] [] (by (simp only [go_sem, hb2, hb5]) <;> (repeat' with_reducible apply And.intro) <;> first | assumption | rfl | omega | (unfold maxLen; omega)) ?_
      refine athen_n ?_
      refine AW.ret ?_
      refine athen_r ?_
      obtain rfl := Option.some.inj h
      exact ⟨rfl, [], [2000], [], rfl, (by (simp only [go_sem, hb2, hb5]) <;> (repeat' with_reducible apply And.intro) <;> first | assumption | rfl | omega | (unfold maxLen; omega))⟩
    · rw [if_neg (Bool.eq_false_iff.1 hb5)] at h
      refine AW.skip ?_
      refine athen_n ?_
      refine AW.seq ?_
      refine AW.ops ?_
      refine AO.allF tab_ok (by decide) [(6, .own 32000), (7, .int .i64 0)] [(32000, .arr 3 (.int .i64) v0_3.2)] (by (simp only [go_sem, hb2, hb5]) <;> (repeat' with_reducible apply And.intro) <;> first | assumption | rfl | omega | (unfold maxLen; omega)) ?_
      refine athen_n ?_
      refine AW.ret ?_
      obtain rfl := Option.some.inj h
      exact ⟨rfl, [], [], [(2000, 32000)], rfl, (by (simp only [go_sem, hb2, hb5]) <;> (repeat' with_reducible apply And.intro) <;> first | assumption | rfl | omega | (unfold maxLen; omega))⟩

set_option maxRecDepth 100000 in
set_option maxHeartbeats 2000000 in
theorem hc_linealref03_IsWord (l : Int × (List (Int × Int))) (w : List Int) {r : Bool} (h : linealref03_IsWord l w = some r) : HC Try.prog 55 [] [.agg [.int .i64 l.1, .sl (.pair (.int .i64) (.int .i64)) l.2], .sl (.int .i64) w] [] (.bool r) := by
  unfold linealref03_IsWord at h
  refine HC.of_body tab_ok (res := [.tmp 4]) Try.func55 rfl (by kernel_rfl) rfl (nt := 21) rfl (by decide) (by simp) ?_
  refine AW.seq ?_
  refine AW.ops ?_
  refine AO.allF tab_ok (by decide) [(1, .sl (.int .i64) w), (2, .bp 2 0)] [(2, .box 24 [.int .i64 l.1, .sl (.pair (.int .i64) (.int .i64)) l.2])] (by (simp only [go_sem]) <;> (repeat' with_reducible apply And.intro) <;> first | assumption | rfl | omega | (unfold maxLen; omega)) ?_
  refine athen_n ?_
  refine AW.have1 (fun _ : Unit => linealref03_IsWord_k1 w = some r) (fun _ => ⟨fr [(1, .sl (.int .i64) w)], hpGet [], gt⟩) (fun _ h => ?_) (fun hk_linealref03_IsWord_k1 => ?_)
  · unfold linealref03_IsWord_k1 at h
    refine AW.seq ?_
    refine AW.ops ?_
    refine AO.allF tab_ok (by decide) [(4, .bool (decide ((w.length : Int) ≤ 10)))] [] (by (simp only [go_sem]) <;> (repeat' with_reducible apply And.intro) <;> first | assumption | rfl | omega | (unfold maxLen; omega)) ?_
    refine athen_n ?_
    refine AW.ret ?_
    obtain rfl := Option.some.inj h
    exact ⟨rfl, [], [], [], rfl, (by (simp only [go_sem]) <;> (repeat' with_reducible apply And.intro) <;> first | assumption | rfl | omega | (unfold maxLen; omega))⟩
  · refine AW.seq ?_
    refine AW.seq ?_
    refine AW.ops ?_
    refine AO.allF tab_ok (by decide) [(1, .sl (.int .i64) w), (2, .bp 2 0), (7, .sl (.int .i64) w), (8, .int .i64 (w.length : Int)), (9, .int .i64 0)] [(2, .box 24 [.int .i64 l.1, .sl (.pair (.int .i64) (.int .i64)) l.2])] (by (simp only [go_sem]) <;> (repeat' with_reducible apply And.intro) <;> first | assumption | rfl | omega | (unfold maxLen; omega)) ?_
    refine athen_n ?_
    refine AW.block ?_
    obtain ⟨rv5, hw1, ho2⟩ := Option.bind_eq_some_iff.1 h
    refine AW.loopO (linealref03_IsWord_b1 l w) (fun st1 => ⟨fr [(1, .sl (.int .i64) w), (2, .bp 2 0), (7, .sl (.int .i64) w), (8, .int .i64 (w.length : Int)), (9, .int .i64 st1)], hpGet [(2, .box 24 [.int .i64 l.1, .sl (.pair (.int .i64) (.int .i64)) l.2])], gt⟩) 0 hw1 (Wk.le [] [] [] rfl (by (simp only [go_sem]) <;> (repeat' with_reducible apply And.intro) <;> first | assumption | rfl | omega | (unfold maxLen; omega)) (by (simp only [go_sem]) <;> (repeat' with_reducible apply And.intro) <;> first | assumption | rfl | omega | (unfold maxLen; omega))) ?_
    intro st1 x4 h hd3
    unfold linealref03_IsWord_b1 at h
    refine AW.seq ?_
    refine AW.ops ?_
    refine AO.allF tab_ok (by decide) [(1, .sl (.int .i64) w), (2, .bp 2 0), (7, .sl (.int .i64) w), (8, .int .i64 (w.length : Int)), (9, .int .i64 st1), (10, .bool (decide (st1 < (w.length : Int))))] [(2, .box 24 [.int .i64 l.1, .sl (.pair (.int .i64) (.int .i64)) l.2])] (by (simp only [go_sem]) <;> (repeat' with_reducible apply And.intro) <;> first | assumption | rfl | omega | (unfold maxLen; omega)) ?_
    refine athen_n ?_
    refine AW.seq ?_
    refine AW.cond (b := (decide (st1 < (w.length : Int)))) rfl (fun hb6 => ?_) (fun hb6 => ?_)
    · rw [if_pos hb6] at h
      refine AW.skip ?_
      refine athen_n ?_
      refine AW.seq ?_
      refine AW.block ?_
      refine AW.seq ?_
      refine AW.ops ?_
      obtain ⟨c7, h⟩ := ck_some.1 h
      obtain ⟨c8, h⟩ := ck_some.1 h
      refine AO.allF tab_ok (by decide) [(1, .sl (.int .i64) w), (2, .bp 2 0), (6, .int .i64 (w.getD st1.toNat 0)), (7, .sl (.int .i64) w), (8, .int .i64 (w.length : Int)), (9, .int .i64 st1)] [(2, .box 24 [.int .i64 l.1, .sl (.pair (.int .i64) (.int .i64)) l.2])] (by (simp only [go_sem, hb6]) <;> (repeat' with_reducible apply And.intro) <;> first | assumption | rfl | omega | (unfold maxLen; omega)) ?_
      refine athen_n ?_
      refine AW.seq ?_
      refine AW.ops ?_
      refine AO.segF tab_ok 2 (by decide) [(1, .sl (.int .i64) w), (2, .bp 2 0), (7, .sl (.int .i64) w), (8, .int .i64 (w.length : Int)), (9, .int .i64 st1), (13, .agg [.int .i64 l.1, .sl (.pair (.int .i64) (.int .i64)) l.2]), (14, .int .i64 (w.getD st1.toNat 0))] [(2, .box 24 [.int .i64 l.1, .sl (.pair (.int .i64) (.int .i64)) l.2])] (by (simp only [go_sem, hb6]) <;> (repeat' with_reducible apply And.intro) <;> first | assumption | rfl | omega | (unfold maxLen; omega)) ?_
      obtain ⟨v0, hv9, h⟩ := Option.bind_eq_some_iff.1 h
      refine AO.call tab_ok (by decide) rfl rfl rfl (fun _ h => h) [] [] (hc_linealref03_IsLetter l (w.getD st1.toNat 0) hv9) rfl (by (simp only [go_sem, hb6]) <;> (repeat' with_reducible apply And.intro) <;> first | assumption | rfl | omega | (unfold maxLen; omega)) (by (simp only [go_sem, hb6]) <;> (repeat' with_reducible apply And.intro) <;> first | assumption | rfl | omega | (unfold maxLen; omega)) [(1, .sl (.int .i64) w), (2, .bp 2 0), (7, .sl (.int .i64) w), (8, .int .i64 (w.length : Int)), (9, .int .i64 st1), (15, .bool v0)] [(2, .box 24 [.int .i64 l.1, .sl (.pair (.int .i64) (.int .i64)) l.2])] (by (simp only [go_sem, hb6]) <;> (repeat' with_reducible apply And.intro) <;> first | assumption | rfl | omega | (unfold maxLen; omega)) ?_
      refine AO.allF tab_ok (by decide) [(1, .sl (.int .i64) w), (2, .bp 2 0), (7, .sl (.int .i64) w), (8, .int .i64 (w.length : Int)), (9, .int .i64 st1), (16, .bool (!v0))] [(2, .box 24 [.int .i64 l.1, .sl (.pair (.int .i64) (.int .i64)) l.2])] (by (simp only [go_sem, hb6]) <;> (repeat' with_reducible apply And.intro) <;> first | assumption | rfl | omega | (unfold maxLen; omega)) ?_
      refine athen_n ?_
      refine AW.cond (b := (!v0)) rfl (fun hb10 => ?_) (fun hb10 => ?_)
      · rw [if_pos hb10] at h
        refine AW.seq ?_
        refine AW.ops ?_
        refine AO.allF tab_ok (by decide) [(4, .bool false)] [] (by (simp only [go_sem, hb6, hb10]) <;> (repeat' with_reducible apply And.intro) <;> first | assumption | rfl | omega | (unfold maxLen; omega)) ?_
        refine athen_n ?_
        refine AW.ret ?_
        refine ablock_r ?_
        refine athen_r ?_
        obtain rfl := Option.some.inj h
        rw [← hd3 _ rfl] at ho2
        have h := ho2
        try simp only at h
        refine athen_r ?_
        refine ablock_r ?_
        refine athen_r ?_
        obtain rfl := Option.some.inj h
        exact ⟨rfl, [], [], [], rfl, (by (simp only [go_sem, hb6, hb10]) <;> (repeat' with_reducible apply And.intro) <;> first | assumption | rfl | omega | (unfold maxLen; omega))⟩
      · rw [if_neg (Bool.eq_false_iff.1 hb10)] at h
        refine AW.skip ?_
        refine ablock_n ?_
        refine athen_n ?_
        refine AW.ops ?_
        obtain ⟨c11, h⟩ := ck_some.1 h
        refine AO.allF tab_ok (by decide) [(1, .sl (.int .i64) w), (2, .bp 2 0), (7, .sl (.int .i64) w), (8, .int .i64 (w.length : Int)), (9, .int .i64 (st1 + 1))] [(2, .box 24 [.int .i64 l.1, .sl (.pair (.int .i64) (.int .i64)) l.2])] (by (simp only [go_sem, hb6, hb10]) <;> (repeat' with_reducible apply And.intro) <;> first | assumption | rfl | omega | (unfold maxLen; omega)) ?_
        obtain rfl := Option.some.inj h
        exact ⟨_, rfl, Wk.le [] [] [] rfl (by (simp only [go_sem, hb6, hb10]) <;> (repeat' with_reducible apply And.intro) <;> first | assumption | rfl | omega | (unfold maxLen; omega)) (by (simp only [go_sem, hb6, hb10]) <;> (repeat' with_reducible apply And.intro) <;> first | assumption | rfl | omega | (unfold maxLen; omega))⟩
    · rw [if_neg (Bool.eq_false_iff.1 hb6)] at h
      refine AW.exit ?_
      refine athen_e ?_
      obtain rfl := Option.some.inj h
      rw [← hd3 _ rfl] at ho2
      have h := ho2
      try simp only at h
      refine athen_e ?_
      refine ablock_s ?_
      refine athen_n ?_
      exact AW.weaken (Wk.le [] [] [] rfl (by (simp only [go_sem, hb6]) <;> (repeat' with_reducible apply And.intro) <;> first | assumption | rfl | omega | (unfold maxLen; omega)) (by (simp only [go_sem, hb6]) <;> (repeat' with_reducible apply And.intro) <;> first | assumption | rfl | omega | (unfold maxLen; omega))) (hk_linealref03_IsWord_k1 () h)

set_option maxRecDepth 100000 in
set_option maxHeartbeats 2000000 in
theorem hc_weave_ties_class (t : (El T59)) (w : List Int) {r : Unit} (h : weave_ties_class t w = some r) : HC Try.prog 81 [] [.agg (cellsX T59 t), .sl (.int .i64) w] [(2000, .box 25 [.sl (.int .i64) w]), (2001, .box 59 (cellsX T59 t))] (.fn (.func 97) [] [.bp 2000 0, .bp 2001 0]) := by
  unfold weave_ties_class at h
  refine HC.of_body tab_ok (res := [.tmp 4]) Try.func81 rfl (by kernel_rfl) rfl (nt := 6) rfl (by decide) (by simp) ?_
  refine AW.seq ?_
  refine AW.ops ?_
  refine AO.allF tab_ok (by decide) [(2, .bp 2 0), (3, .bp 3 0)] [(2, .box 59 (cellsX T59 t)), (3, .box 25 [.sl (.int .i64) w])] (by (simp only [go_sem]) <;> (repeat' with_reducible apply And.intro) <;> first | assumption | rfl | omega | (unfold maxLen; omega)) ?_
  refine athen_n ?_
  refine AW.seq ?_
  refine AW.ops ?_
  refine AO.allF tab_ok (by decide) [(4, .fn (.func 97) [] [.bp 3 0, .bp 2 0])] [(2, .box 59 (cellsX T59 t)), (3, .box 25 [.sl (.int .i64) w])] (by (simp only [go_sem]) <;> (repeat' with_reducible apply And.intro) <;> first | assumption | rfl | omega | (unfold maxLen; omega)) ?_
  refine athen_n ?_
  refine AW.ret ?_
  obtain rfl := Option.some.inj h
  exact ⟨rfl, [], [], [(2000, 3), (2001, 2)], rfl, (by (simp only [go_sem]) <;> (repeat' with_reducible apply And.intro) <;> first | assumption | rfl | omega | (unfold maxLen; omega))⟩

end Go.Proofs.Ytcijihofjcfpoab
