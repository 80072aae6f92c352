/-
  Made by wip/tool/dc.py out of the print of the program: contracts.
-/
import Derived.Test.YtcijihofjcfpoabWp
import Derived.Test.YtcijihofjcfpoabTb3
import Derived.Test.YtcijihofjcfpoabXhc1
import Derived.Test.YtcijihofjcfpoabXhc2
namespace Go.Proofs.Ytcijihofjcfpoab
open Go.RowKit

set_option linter.unusedSimpArgs false
set_option linter.unusedVariables false
set_option linter.constructorNameAsVariable false

set_option maxRecDepth 100000 in
set_option maxHeartbeats 2000000 in
theorem hc_linealref03_Valid (l : Int × (List (Int × Int))) {r : Bool} (h : linealref03_Valid l = some r) : HC Try.prog 20 [] [.agg [.int .i64 l.1, .sl (.pair (.int .i64) (.int .i64)) l.2]] [] (.bool r) := by
  unfold linealref03_Valid at h
  refine HC.of_body tab_ok (res := [.tmp 2]) Try.func20 rfl (by kernel_rfl) rfl (nt := 66) rfl (by decide) (by simp) ?_
  refine AW.seq ?_
  refine AW.ops ?_
  refine AO.allF tab_ok (by decide) [(1, .bp 1 0)] [(1, .box 24 [.int .i64 l.1, .sl (.pair (.int .i64) (.int .i64)) l.2])] (by (simp only [go_sem]) <;> (repeat' with_reducible apply And.intro) <;> first | assumption | rfl | omega | (unfold maxLen; omega)) ?_
  refine athen_n ?_
  refine AW.seq ?_
  refine AW.seq ?_
  refine AW.ops ?_
  refine AO.segF tab_ok 4 (by decide) [(1, .bp 1 0), (10, .bool (decide (l.1 < 1)))] [(1, .box 24 [.int .i64 l.1, .sl (.pair (.int .i64) (.int .i64)) l.2])] (by (simp only [go_sem]) <;> (repeat' with_reducible apply And.intro) <;> first | assumption | rfl | omega | (unfold maxLen; omega)) ?_
  rcases Bool.eq_false_or_eq_true (decide (l.1 < 1)) with hb1 | hb1
  · rw [if_pos hb1] at h
    refine AO.weaken (s' := ⟨fr [(1, .bp 1 0), (10, .bool true)], hpGet [(1, .box 24 [.int .i64 l.1, .sl (.pair (.int .i64) (.int .i64)) l.2])], gt⟩) (Wk.to (by (simp only [go_sem, hb1]) <;> (repeat' with_reducible apply And.intro) <;> first | assumption | rfl | omega | (unfold maxLen; omega))) ?_
    refine AO.allF tab_ok (by decide) [(1, .bp 1 0), (14, .bool true)] [(1, .box 24 [.int .i64 l.1, .sl (.pair (.int .i64) (.int .i64)) l.2])] (by (simp only [go_sem, hb1]) <;> (repeat' with_reducible apply And.intro) <;> first | assumption | rfl | omega | (unfold maxLen; omega)) ?_
    refine athen_n ?_
    refine AW.cond (b := true) rfl (fun _ => ?_) (fun hb2 => by cases hb2)
    refine AW.seq ?_
    refine AW.ops ?_
    refine AO.allF tab_ok (by decide) [(2, .bool false)] [] (by (simp only [go_sem, hb1]) <;> (repeat' with_reducible apply And.intro) <;> first | assumption | rfl | omega | (unfold maxLen; omega)) ?_
    refine athen_n ?_
    refine AW.ret ?_
    refine athen_r ?_
    obtain rfl := Option.some.inj h
    exact ⟨rfl, [], [], [], rfl, (by (simp only [go_sem, hb1]) <;> (repeat' with_reducible apply And.intro) <;> first | assumption | rfl | omega | (unfold maxLen; omega))⟩
  · rw [if_neg (Bool.eq_false_iff.1 hb1)] at h
    refine AO.weaken (s' := ⟨fr [(1, .bp 1 0), (10, .bool false)], hpGet [(1, .box 24 [.int .i64 l.1, .sl (.pair (.int .i64) (.int .i64)) l.2])], gt⟩) (Wk.to (by (simp only [go_sem, hb1]) <;> (repeat' with_reducible apply And.intro) <;> first | assumption | rfl | omega | (unfold maxLen; omega))) ?_
    refine AO.allF tab_ok (by decide) [(1, .bp 1 0), (14, .bool (decide (6 < l.1)))] [(1, .box 24 [.int .i64 l.1, .sl (.pair (.int .i64) (.int .i64)) l.2])] (by (simp only [go_sem, hb1]) <;> (repeat' with_reducible apply And.intro) <;> first | assumption | rfl | omega | (unfold maxLen; omega)) ?_
    refine athen_n ?_
    refine AW.cond (b := (decide (6 < l.1))) rfl (fun hb3 => ?_) (fun hb3 => ?_)
    · rw [if_pos hb3] at h
      refine AW.seq ?_
      refine AW.ops ?_
      refine AO.allF tab_ok (by decide) [(2, .bool false)] [] (by (simp only [go_sem, hb1, hb3]) <;> (repeat' with_reducible apply And.intro) <;> first | assumption | rfl | omega | (unfold maxLen; omega)) ?_
      refine athen_n ?_
      refine AW.ret ?_
      refine athen_r ?_
      obtain rfl := Option.some.inj h
      exact ⟨rfl, [], [], [], rfl, (by (simp only [go_sem, hb1, hb3]) <;> (repeat' with_reducible apply And.intro) <;> first | assumption | rfl | omega | (unfold maxLen; omega))⟩
    · rw [if_neg (Bool.eq_false_iff.1 hb3)] at h
      refine AW.skip ?_
      refine athen_n ?_
      refine AW.have1 (fun _ : Unit => linealref03_Valid_k1 = some r) (fun _ => ⟨fr [], hpGet [], gt⟩) (fun _ h => ?_) (fun hk_linealref03_Valid_k1 => ?_)
      · unfold linealref03_Valid_k1 at h
        refine AW.seq ?_
        refine AW.ops ?_
        refine AO.allF tab_ok (by decide) [(2, .bool true)] [] (by (simp only [go_sem, hb1, hb3]) <;> (repeat' with_reducible apply And.intro) <;> first | assumption | rfl | omega | (unfold maxLen; omega)) ?_
        refine athen_n ?_
        refine AW.ret ?_
        obtain rfl := Option.some.inj h
        exact ⟨rfl, [], [], [], rfl, (by (simp only [go_sem, hb1, hb3]) <;> (repeat' with_reducible apply And.intro) <;> first | assumption | rfl | omega | (unfold maxLen; omega))⟩
      · refine AW.seq ?_
        refine AW.seq ?_
        refine AW.ops ?_
        refine AO.allF tab_ok (by decide) [(1, .bp 1 0), (16, .sl (.pair (.int .i64) (.int .i64)) l.2), (17, .int .i64 (l.2.length : Int)), (18, .int .i64 0)] [(1, .box 24 [.int .i64 l.1, .sl (.pair (.int .i64) (.int .i64)) l.2])] (by (simp only [go_sem, hb1, hb3]) <;> (repeat' with_reducible apply And.intro) <;> first | assumption | rfl | omega | (unfold maxLen; omega)) ?_
        refine athen_n ?_
        refine AW.block ?_
        obtain ⟨rv8, hw4, ho5⟩ := Option.bind_eq_some_iff.1 h
        refine AW.loopO (linealref03_Valid_b1 l) (fun st1 => ⟨fr [(1, .bp 1 0), (16, .sl (.pair (.int .i64) (.int .i64)) l.2), (17, .int .i64 (l.2.length : Int)), (18, .int .i64 st1)], hpGet [(1, .box 24 [.int .i64 l.1, .sl (.pair (.int .i64) (.int .i64)) l.2])], gt⟩) 0 hw4 (Wk.le [] [] [] rfl (by (simp only [go_sem, hb1, hb3]) <;> (repeat' with_reducible apply And.intro) <;> first | assumption | rfl | omega | (unfold maxLen; omega)) (by (simp only [go_sem, hb1, hb3]) <;> (repeat' with_reducible apply And.intro) <;> first | assumption | rfl | omega | (unfold maxLen; omega))) ?_
        intro st1 x7 h hd6
        unfold linealref03_Valid_b1 at h
        refine AW.seq ?_
        refine AW.ops ?_
        refine AO.allF tab_ok (by decide) [(1, .bp 1 0), (16, .sl (.pair (.int .i64) (.int .i64)) l.2), (17, .int .i64 (l.2.length : Int)), (18, .int .i64 st1), (19, .bool (decide (st1 < (l.2.length : Int))))] [(1, .box 24 [.int .i64 l.1, .sl (.pair (.int .i64) (.int .i64)) l.2])] (by (simp only [go_sem, hb1, hb3]) <;> (repeat' with_reducible apply And.intro) <;> first | assumption | rfl | omega | (unfold maxLen; omega)) ?_
        refine athen_n ?_
        refine AW.seq ?_
        refine AW.cond (b := (decide (st1 < (l.2.length : Int)))) rfl (fun hb9 => ?_) (fun hb9 => ?_)
        · rw [if_pos hb9] at h
          refine AW.skip ?_
          refine athen_n ?_
          refine AW.have1 (fun _ : Unit => linealref03_Valid_k2 st1 = some x7) (fun _ => ⟨fr [(1, .bp 1 0), (16, .sl (.pair (.int .i64) (.int .i64)) l.2), (17, .int .i64 (l.2.length : Int)), (18, .int .i64 st1)], hpGet [(1, .box 24 [.int .i64 l.1, .sl (.pair (.int .i64) (.int .i64)) l.2])], gt⟩) (fun _ h => ?_) (fun hk_linealref03_Valid_k2 => ?_)
          · unfold linealref03_Valid_k2 at h
            refine AW.ops ?_
            obtain ⟨c10, h⟩ := ck_some.1 h
            refine AO.allF tab_ok (by decide) [(1, .bp 1 0), (16, .sl (.pair (.int .i64) (.int .i64)) l.2), (17, .int .i64 (l.2.length : Int)), (18, .int .i64 (st1 + 1))] [(1, .box 24 [.int .i64 l.1, .sl (.pair (.int .i64) (.int .i64)) l.2])] (by (simp only [go_sem, hb1, hb3, hb9]) <;> (repeat' with_reducible apply And.intro) <;> first | assumption | rfl | omega | (unfold maxLen; omega)) ?_
            obtain rfl := Option.some.inj h
            exact ⟨_, rfl, Wk.le [] [] [] rfl (by (simp only [go_sem, hb1, hb3, hb9]) <;> (repeat' with_reducible apply And.intro) <;> first | assumption | rfl | omega | (unfold maxLen; omega)) (by (simp only [go_sem, hb1, hb3, hb9]) <;> (repeat' with_reducible apply And.intro) <;> first | assumption | rfl | omega | (unfold maxLen; omega))⟩
          · refine AW.seq ?_
            refine AW.block ?_
            refine AW.seq ?_
            refine AW.ops ?_
            obtain ⟨c11, h⟩ := ck_some.1 h
            obtain ⟨c12, h⟩ := ck_some.1 h
            refine AO.allF tab_ok (by decide) [(1, .bp 1 0), (3, .int .i64 st1), (4, .bp 4 0), (16, .sl (.pair (.int .i64) (.int .i64)) l.2), (17, .int .i64 (l.2.length : Int)), (18, .int .i64 st1)] [(1, .box 24 [.int .i64 l.1, .sl (.pair (.int .i64) (.int .i64)) l.2]), (4, .box 56 [.int .i64 (l.2.getD st1.toNat (0, 0)).1, .int .i64 (l.2.getD st1.toNat (0, 0)).2])] (by (simp only [go_sem, hb1, hb3, hb9]) <;> (repeat' with_reducible apply And.intro) <;> first | assumption | rfl | omega | (unfold maxLen; omega)) ?_
            refine athen_n ?_
            refine AW.seq ?_
            refine AW.seq ?_
            refine AW.ops ?_
            refine AO.segF tab_ok 4 (by decide) [(1, .bp 1 0), (3, .int .i64 st1), (4, .bp 4 0), (16, .sl (.pair (.int .i64) (.int .i64)) l.2), (17, .int .i64 (l.2.length : Int)), (18, .int .i64 st1), (26, .bool (decide ((l.2.getD st1.toNat (0, 0)).1 < 0)))] [(1, .box 24 [.int .i64 l.1, .sl (.pair (.int .i64) (.int .i64)) l.2]), (4, .box 56 [.int .i64 (l.2.getD st1.toNat (0, 0)).1, .int .i64 (l.2.getD st1.toNat (0, 0)).2])] (by (simp only [go_sem, hb1, hb3, hb9]) <;> (repeat' with_reducible apply And.intro) <;> first | assumption | rfl | omega | (unfold maxLen; omega)) ?_
            rcases Bool.eq_false_or_eq_true (decide ((l.2.getD st1.toNat (0, 0)).1 < 0)) with hb13 | hb13
            · rw [if_pos hb13] at h
              refine AO.weaken (s' := ⟨fr [(1, .bp 1 0), (3, .int .i64 st1), (4, .bp 4 0), (16, .sl (.pair (.int .i64) (.int .i64)) l.2), (17, .int .i64 (l.2.length : Int)), (18, .int .i64 st1), (26, .bool true)], hpGet [(1, .box 24 [.int .i64 l.1, .sl (.pair (.int .i64) (.int .i64)) l.2]), (4, .box 56 [.int .i64 (l.2.getD st1.toNat (0, 0)).1, .int .i64 (l.2.getD st1.toNat (0, 0)).2])], gt⟩) (Wk.to (by (simp only [go_sem, hb1, hb3, hb9, hb13]) <;> (repeat' with_reducible apply And.intro) <;> first | assumption | rfl | omega | (unfold maxLen; omega))) ?_
              refine AO.segF tab_ok 6 (by decide) [(1, .bp 1 0), (3, .int .i64 st1), (4, .bp 4 0), (16, .sl (.pair (.int .i64) (.int .i64)) l.2), (17, .int .i64 (l.2.length : Int)), (18, .int .i64 st1), (31, .bool true), (32, .cv (undef))] [(1, .box 24 [.int .i64 l.1, .sl (.pair (.int .i64) (.int .i64)) l.2]), (4, .box 56 [.int .i64 (l.2.getD st1.toNat (0, 0)).1, .int .i64 (l.2.getD st1.toNat (0, 0)).2])] (by (simp only [go_sem, hb1, hb3, hb9, hb13]) <;> (repeat' with_reducible apply And.intro) <;> first | assumption | rfl | omega | (unfold maxLen; omega)) ?_
              refine AO.segF tab_ok 4 (by decide) [(1, .bp 1 0), (3, .int .i64 st1), (4, .bp 4 0), (16, .sl (.pair (.int .i64) (.int .i64)) l.2), (17, .int .i64 (l.2.length : Int)), (18, .int .i64 st1), (31, .bool true), (36, .cv (undef))] [(1, .box 24 [.int .i64 l.1, .sl (.pair (.int .i64) (.int .i64)) l.2]), (4, .box 56 [.int .i64 (l.2.getD st1.toNat (0, 0)).1, .int .i64 (l.2.getD st1.toNat (0, 0)).2])] (by (simp only [go_sem, hb1, hb3, hb9, hb13]) <;> (repeat' with_reducible apply And.intro) <;> first | assumption | rfl | omega | (unfold maxLen; omega)) ?_
              refine AO.segF tab_ok 6 (by decide) [(1, .bp 1 0), (3, .int .i64 st1), (4, .bp 4 0), (16, .sl (.pair (.int .i64) (.int .i64)) l.2), (17, .int .i64 (l.2.length : Int)), (18, .int .i64 st1), (38, .bool true), (40, .cv (undef)), (42, .cv (undef))] [(1, .box 24 [.int .i64 l.1, .sl (.pair (.int .i64) (.int .i64)) l.2]), (4, .box 56 [.int .i64 (l.2.getD st1.toNat (0, 0)).1, .int .i64 (l.2.getD st1.toNat (0, 0)).2])] (by (simp only [go_sem, hb1, hb3, hb9, hb13]) <;> (repeat' with_reducible apply And.intro) <;> first | assumption | rfl | omega | (unfold maxLen; omega)) ?_
              refine AO.segF tab_ok 6 (by decide) [(1, .bp 1 0), (3, .int .i64 st1), (4, .bp 4 0), (16, .sl (.pair (.int .i64) (.int .i64)) l.2), (17, .int .i64 (l.2.length : Int)), (18, .int .i64 st1), (45, .bool true), (47, .cv (undef)), (48, .cv (undef))] [(1, .box 24 [.int .i64 l.1, .sl (.pair (.int .i64) (.int .i64)) l.2]), (4, .box 56 [.int .i64 (l.2.getD st1.toNat (0, 0)).1, .int .i64 (l.2.getD st1.toNat (0, 0)).2])] (by (simp only [go_sem, hb1, hb3, hb9, hb13]) <;> (repeat' with_reducible apply And.intro) <;> first | assumption | rfl | omega | (unfold maxLen; omega)) ?_
              refine AO.allF tab_ok (by decide) [(1, .bp 1 0), (3, .int .i64 st1), (4, .bp 4 0), (16, .sl (.pair (.int .i64) (.int .i64)) l.2), (17, .int .i64 (l.2.length : Int)), (18, .int .i64 st1), (51, .bool true)] [(1, .box 24 [.int .i64 l.1, .sl (.pair (.int .i64) (.int .i64)) l.2]), (4, .box 56 [.int .i64 (l.2.getD st1.toNat (0, 0)).1, .int .i64 (l.2.getD st1.toNat (0, 0)).2])] (by (simp only [go_sem, hb1, hb3, hb9, hb13]) <;> (repeat' with_reducible apply And.intro) <;> first | assumption | rfl | omega | (unfold maxLen; omega)) ?_
              refine athen_n ?_
              refine AW.cond (b := true) rfl (fun _ => ?_) (fun hb14 => by cases hb14)
              refine AW.seq ?_
              refine AW.ops ?_
              refine AO.allF tab_ok (by decide) [(2, .bool false)] [] (by (simp only [go_sem, hb1, hb3, hb9, hb13]) <;> (repeat' with_reducible apply And.intro) <;> first | assumption | rfl | omega | (unfold maxLen; omega)) ?_
              refine athen_n ?_
              refine AW.ret ?_
              refine athen_r ?_
              refine ablock_r ?_
              refine athen_r ?_
              obtain rfl := Option.some.inj h
              rw [← hd6 _ rfl] at ho5
              have h := ho5
              try simp only at h
              refine athen_r ?_
              refine ablock_r ?_
              refine athen_r ?_
              obtain rfl := Option.some.inj h
              exact ⟨rfl, [], [], [], rfl, (by (simp only [go_sem, hb1, hb3, hb9, hb13]) <;> (repeat' with_reducible apply And.intro) <;> first | assumption | rfl | omega | (unfold maxLen; omega))⟩
            · rw [if_neg (Bool.eq_false_iff.1 hb13)] at h
              refine AO.weaken (s' := ⟨fr [(1, .bp 1 0), (3, .int .i64 st1), (4, .bp 4 0), (16, .sl (.pair (.int .i64) (.int .i64)) l.2), (17, .int .i64 (l.2.length : Int)), (18, .int .i64 st1), (26, .bool false)], hpGet [(1, .box 24 [.int .i64 l.1, .sl (.pair (.int .i64) (.int .i64)) l.2]), (4, .box 56 [.int .i64 (l.2.getD st1.toNat (0, 0)).1, .int .i64 (l.2.getD st1.toNat (0, 0)).2])], gt⟩) (Wk.to (by (simp only [go_sem, hb1, hb3, hb9, hb13]) <;> (repeat' with_reducible apply And.intro) <;> first | assumption | rfl | omega | (unfold maxLen; omega))) ?_
              refine AO.segF tab_ok 5 (by decide) [(1, .bp 1 0), (3, .int .i64 st1), (4, .bp 4 0), (16, .sl (.pair (.int .i64) (.int .i64)) l.2), (17, .int .i64 (l.2.length : Int)), (18, .int .i64 st1), (31, .bool (decide ((l.2.getD st1.toNat (0, 0)).2 < 0)))] [(1, .box 24 [.int .i64 l.1, .sl (.pair (.int .i64) (.int .i64)) l.2]), (4, .box 56 [.int .i64 (l.2.getD st1.toNat (0, 0)).1, .int .i64 (l.2.getD st1.toNat (0, 0)).2])] (by (simp only [go_sem, hb1, hb3, hb9, hb13]) <;> (repeat' with_reducible apply And.intro) <;> first | assumption | rfl | omega | (unfold maxLen; omega)) ?_
              rcases Bool.eq_false_or_eq_true (decide ((l.2.getD st1.toNat (0, 0)).2 < 0)) with hb15 | hb15
              · rw [if_pos hb15] at h
                refine AO.weaken (s' := ⟨fr [(1, .bp 1 0), (3, .int .i64 st1), (4, .bp 4 0), (16, .sl (.pair (.int .i64) (.int .i64)) l.2), (17, .int .i64 (l.2.length : Int)), (18, .int .i64 st1), (31, .bool true)], hpGet [(1, .box 24 [.int .i64 l.1, .sl (.pair (.int .i64) (.int .i64)) l.2]), (4, .box 56 [.int .i64 (l.2.getD st1.toNat (0, 0)).1, .int .i64 (l.2.getD st1.toNat (0, 0)).2])], gt⟩) (Wk.to (by (simp only [go_sem, hb1, hb3, hb9, hb13, hb15]) <;> (repeat' with_reducible apply And.intro) <;> first | assumption | rfl | omega | (unfold maxLen; omega))) ?_
                refine AO.segF tab_ok 4 (by decide) [(1, .bp 1 0), (3, .int .i64 st1), (4, .bp 4 0), (16, .sl (.pair (.int .i64) (.int .i64)) l.2), (17, .int .i64 (l.2.length : Int)), (18, .int .i64 st1), (31, .bool true), (33, .cv (undef)), (35, .cv (undef))] [(1, .box 24 [.int .i64 l.1, .sl (.pair (.int .i64) (.int .i64)) l.2]), (4, .box 56 [.int .i64 (l.2.getD st1.toNat (0, 0)).1, .int .i64 (l.2.getD st1.toNat (0, 0)).2])] (by (simp only [go_sem, hb1, hb3, hb9, hb13, hb15]) <;> (repeat' with_reducible apply And.intro) <;> first | assumption | rfl | omega | (unfold maxLen; omega)) ?_
                refine AO.segF tab_ok 6 (by decide) [(1, .bp 1 0), (3, .int .i64 st1), (4, .bp 4 0), (16, .sl (.pair (.int .i64) (.int .i64)) l.2), (17, .int .i64 (l.2.length : Int)), (18, .int .i64 st1), (38, .bool true), (40, .cv (undef)), (41, .cv (undef))] [(1, .box 24 [.int .i64 l.1, .sl (.pair (.int .i64) (.int .i64)) l.2]), (4, .box 56 [.int .i64 (l.2.getD st1.toNat (0, 0)).1, .int .i64 (l.2.getD st1.toNat (0, 0)).2])] (by (simp only [go_sem, hb1, hb3, hb9, hb13, hb15]) <;> (repeat' with_reducible apply And.intro) <;> first | assumption | rfl | omega | (unfold maxLen; omega)) ?_
                refine AO.segF tab_ok 6 (by decide) [(1, .bp 1 0), (3, .int .i64 st1), (4, .bp 4 0), (16, .sl (.pair (.int .i64) (.int .i64)) l.2), (17, .int .i64 (l.2.length : Int)), (18, .int .i64 st1), (45, .bool true), (47, .cv (undef))] [(1, .box 24 [.int .i64 l.1, .sl (.pair (.int .i64) (.int .i64)) l.2]), (4, .box 56 [.int .i64 (l.2.getD st1.toNat (0, 0)).1, .int .i64 (l.2.getD st1.toNat (0, 0)).2])] (by (simp only [go_sem, hb1, hb3, hb9, hb13, hb15]) <;> (repeat' with_reducible apply And.intro) <;> first | assumption | rfl | omega | (unfold maxLen; omega)) ?_
                refine AO.allF tab_ok (by decide) [(1, .bp 1 0), (3, .int .i64 st1), (4, .bp 4 0), (16, .sl (.pair (.int .i64) (.int .i64)) l.2), (17, .int .i64 (l.2.length : Int)), (18, .int .i64 st1), (51, .bool true)] [(1, .box 24 [.int .i64 l.1, .sl (.pair (.int .i64) (.int .i64)) l.2]), (4, .box 56 [.int .i64 (l.2.getD st1.toNat (0, 0)).1, .int .i64 (l.2.getD st1.toNat (0, 0)).2])] (by (simp only [go_sem, hb1, hb3, hb9, hb13, hb15]) <;> (repeat' with_reducible apply And.intro) <;> first | assumption | rfl | omega | (unfold maxLen; omega)) ?_
                refine athen_n ?_
                refine AW.cond (b := true) rfl (fun _ => ?_) (fun hb16 => by cases hb16)
                refine AW.seq ?_
                refine AW.ops ?_
                refine AO.allF tab_ok (by decide) [(2, .bool false)] [] (by (simp only [go_sem, hb1, hb3, hb9, hb13, hb15]) <;> (repeat' with_reducible apply And.intro) <;> first | assumption | rfl | omega | (unfold maxLen; omega)) ?_
                refine athen_n ?_
                refine AW.ret ?_
                refine athen_r ?_
                refine ablock_r ?_
                refine athen_r ?_
                obtain rfl := Option.some.inj h
                rw [← hd6 _ rfl] at ho5
                have h := ho5
                try simp only at h
                refine athen_r ?_
                refine ablock_r ?_
                refine athen_r ?_
                obtain rfl := Option.some.inj h
                exact ⟨rfl, [], [], [], rfl, (by (simp only [go_sem, hb1, hb3, hb9, hb13, hb15]) <;> (repeat' with_reducible apply And.intro) <;> first | assumption | rfl | omega | (unfold maxLen; omega))⟩
              · rw [if_neg (Bool.eq_false_iff.1 hb15)] at h
                refine AO.weaken (s' := ⟨fr [(1, .bp 1 0), (3, .int .i64 st1), (4, .bp 4 0), (16, .sl (.pair (.int .i64) (.int .i64)) l.2), (17, .int .i64 (l.2.length : Int)), (18, .int .i64 st1), (31, .bool false)], hpGet [(1, .box 24 [.int .i64 l.1, .sl (.pair (.int .i64) (.int .i64)) l.2]), (4, .box 56 [.int .i64 (l.2.getD st1.toNat (0, 0)).1, .int .i64 (l.2.getD st1.toNat (0, 0)).2])], gt⟩) (Wk.to (by (simp only [go_sem, hb1, hb3, hb9, hb13, hb15]) <;> (repeat' with_reducible apply And.intro) <;> first | assumption | rfl | omega | (unfold maxLen; omega))) ?_
                refine AO.segF tab_ok 7 (by decide) [(1, .bp 1 0), (3, .int .i64 st1), (4, .bp 4 0), (16, .sl (.pair (.int .i64) (.int .i64)) l.2), (17, .int .i64 (l.2.length : Int)), (18, .int .i64 st1), (38, .bool (decide (l.1 ≤ (l.2.getD st1.toNat (0, 0)).1)))] [(1, .box 24 [.int .i64 l.1, .sl (.pair (.int .i64) (.int .i64)) l.2]), (4, .box 56 [.int .i64 (l.2.getD st1.toNat (0, 0)).1, .int .i64 (l.2.getD st1.toNat (0, 0)).2])] (by (simp only [go_sem, hb1, hb3, hb9, hb13, hb15]) <;> (repeat' with_reducible apply And.intro) <;> first | assumption | rfl | omega | (unfold maxLen; omega)) ?_
                rcases Bool.eq_false_or_eq_true (decide (l.1 ≤ (l.2.getD st1.toNat (0, 0)).1)) with hb17 | hb17
                · rw [if_pos hb17] at h
                  refine AO.weaken (s' := ⟨fr [(1, .bp 1 0), (3, .int .i64 st1), (4, .bp 4 0), (16, .sl (.pair (.int .i64) (.int .i64)) l.2), (17, .int .i64 (l.2.length : Int)), (18, .int .i64 st1), (38, .bool true)], hpGet [(1, .box 24 [.int .i64 l.1, .sl (.pair (.int .i64) (.int .i64)) l.2]), (4, .box 56 [.int .i64 (l.2.getD st1.toNat (0, 0)).1, .int .i64 (l.2.getD st1.toNat (0, 0)).2])], gt⟩) (Wk.to (by (simp only [go_sem, hb1, hb3, hb9, hb13, hb15, hb17]) <;> (repeat' with_reducible apply And.intro) <;> first | assumption | rfl | omega | (unfold maxLen; omega))) ?_
                  refine AO.segF tab_ok 4 (by decide) [(1, .bp 1 0), (3, .int .i64 st1), (4, .bp 4 0), (16, .sl (.pair (.int .i64) (.int .i64)) l.2), (17, .int .i64 (l.2.length : Int)), (18, .int .i64 st1), (38, .bool true), (40, .cv (undef)), (42, .cv (undef))] [(1, .box 24 [.int .i64 l.1, .sl (.pair (.int .i64) (.int .i64)) l.2]), (4, .box 56 [.int .i64 (l.2.getD st1.toNat (0, 0)).1, .int .i64 (l.2.getD st1.toNat (0, 0)).2])] (by (simp only [go_sem, hb1, hb3, hb9, hb13, hb15, hb17]) <;> (repeat' with_reducible apply And.intro) <;> first | assumption | rfl | omega | (unfold maxLen; omega)) ?_
                  refine AO.segF tab_ok 6 (by decide) [(1, .bp 1 0), (3, .int .i64 st1), (4, .bp 4 0), (16, .sl (.pair (.int .i64) (.int .i64)) l.2), (17, .int .i64 (l.2.length : Int)), (18, .int .i64 st1), (45, .bool true), (47, .cv (undef)), (48, .cv (undef))] [(1, .box 24 [.int .i64 l.1, .sl (.pair (.int .i64) (.int .i64)) l.2]), (4, .box 56 [.int .i64 (l.2.getD st1.toNat (0, 0)).1, .int .i64 (l.2.getD st1.toNat (0, 0)).2])] (by (simp only [go_sem, hb1, hb3, hb9, hb13, hb15, hb17]) <;> (repeat' with_reducible apply And.intro) <;> first | assumption | rfl | omega | (unfold maxLen; omega)) ?_
                  refine AO.allF tab_ok (by decide) [(1, .bp 1 0), (3, .int .i64 st1), (4, .bp 4 0), (16, .sl (.pair (.int .i64) (.int .i64)) l.2), (17, .int .i64 (l.2.length : Int)), (18, .int .i64 st1), (51, .bool true)] [(1, .box 24 [.int .i64 l.1, .sl (.pair (.int .i64) (.int .i64)) l.2]), (4, .box 56 [.int .i64 (l.2.getD st1.toNat (0, 0)).1, .int .i64 (l.2.getD st1.toNat (0, 0)).2])] (by (simp only [go_sem, hb1, hb3, hb9, hb13, hb15, hb17]) <;> (repeat' with_reducible apply And.intro) <;> first | assumption | rfl | omega | (unfold maxLen; omega)) ?_
                  refine athen_n ?_
                  refine AW.cond (b := true) rfl (fun _ => ?_) (fun hb18 => by cases hb18)
                  refine AW.seq ?_
                  refine AW.ops ?_
                  refine AO.allF tab_ok (by decide) [(2, .bool false)] [] (by (simp only [go_sem, hb1, hb3, hb9, hb13, hb15, hb17]) <;> (repeat' with_reducible apply And.intro) <;> first | assumption | rfl | omega | (unfold maxLen; omega)) ?_
                  refine athen_n ?_
                  refine AW.ret ?_
                  refine athen_r ?_
                  refine ablock_r ?_
                  refine athen_r ?_
                  obtain rfl := Option.some.inj h
                  rw [← hd6 _ rfl] at ho5
                  have h := ho5
                  try simp only at h
                  refine athen_r ?_
                  refine ablock_r ?_
                  refine athen_r ?_
                  obtain rfl := Option.some.inj h
                  exact ⟨rfl, [], [], [], rfl, (by (simp only [go_sem, hb1, hb3, hb9, hb13, hb15, hb17]) <;> (repeat' with_reducible apply And.intro) <;> first | assumption | rfl | omega | (unfold maxLen; omega))⟩
                · rw [if_neg (Bool.eq_false_iff.1 hb17)] at h
                  refine AO.weaken (s' := ⟨fr [(1, .bp 1 0), (3, .int .i64 st1), (4, .bp 4 0), (16, .sl (.pair (.int .i64) (.int .i64)) l.2), (17, .int .i64 (l.2.length : Int)), (18, .int .i64 st1), (38, .bool false)], hpGet [(1, .box 24 [.int .i64 l.1, .sl (.pair (.int .i64) (.int .i64)) l.2]), (4, .box 56 [.int .i64 (l.2.getD st1.toNat (0, 0)).1, .int .i64 (l.2.getD st1.toNat (0, 0)).2])], gt⟩) (Wk.to (by (simp only [go_sem, hb1, hb3, hb9, hb13, hb15, hb17]) <;> (repeat' with_reducible apply And.intro) <;> first | assumption | rfl | omega | (unfold maxLen; omega))) ?_
                  refine AO.segF tab_ok 7 (by decide) [(1, .bp 1 0), (3, .int .i64 st1), (4, .bp 4 0), (16, .sl (.pair (.int .i64) (.int .i64)) l.2), (17, .int .i64 (l.2.length : Int)), (18, .int .i64 st1), (45, .bool (decide (l.1 ≤ (l.2.getD st1.toNat (0, 0)).2)))] [(1, .box 24 [.int .i64 l.1, .sl (.pair (.int .i64) (.int .i64)) l.2]), (4, .box 56 [.int .i64 (l.2.getD st1.toNat (0, 0)).1, .int .i64 (l.2.getD st1.toNat (0, 0)).2])] (by (simp only [go_sem, hb1, hb3, hb9, hb13, hb15, hb17]) <;> (repeat' with_reducible apply And.intro) <;> first | assumption | rfl | omega | (unfold maxLen; omega)) ?_
                  rcases Bool.eq_false_or_eq_true (decide (l.1 ≤ (l.2.getD st1.toNat (0, 0)).2)) with hb19 | hb19
                  · rw [if_pos hb19] at h
                    refine AO.weaken (s' := ⟨fr [(1, .bp 1 0), (3, .int .i64 st1), (4, .bp 4 0), (16, .sl (.pair (.int .i64) (.int .i64)) l.2), (17, .int .i64 (l.2.length : Int)), (18, .int .i64 st1), (45, .bool true)], hpGet [(1, .box 24 [.int .i64 l.1, .sl (.pair (.int .i64) (.int .i64)) l.2]), (4, .box 56 [.int .i64 (l.2.getD st1.toNat (0, 0)).1, .int .i64 (l.2.getD st1.toNat (0, 0)).2])], gt⟩) (Wk.to (by (simp only [go_sem, hb1, hb3, hb9, hb13, hb15, hb17, hb19]) <;> (repeat' with_reducible apply And.intro) <;> first | assumption | rfl | omega | (unfold maxLen; omega))) ?_
                    refine AO.segF tab_ok 4 (by decide) [(1, .bp 1 0), (3, .int .i64 st1), (4, .bp 4 0), (16, .sl (.pair (.int .i64) (.int .i64)) l.2), (17, .int .i64 (l.2.length : Int)), (18, .int .i64 st1), (45, .bool true), (47, .cv (undef)), (49, .cv (undef))] [(1, .box 24 [.int .i64 l.1, .sl (.pair (.int .i64) (.int .i64)) l.2]), (4, .box 56 [.int .i64 (l.2.getD st1.toNat (0, 0)).1, .int .i64 (l.2.getD st1.toNat (0, 0)).2])] (by (simp only [go_sem, hb1, hb3, hb9, hb13, hb15, hb17, hb19]) <;> (repeat' with_reducible apply And.intro) <;> first | assumption | rfl | omega | (unfold maxLen; omega)) ?_
                    refine AO.allF tab_ok (by decide) [(1, .bp 1 0), (3, .int .i64 st1), (4, .bp 4 0), (16, .sl (.pair (.int .i64) (.int .i64)) l.2), (17, .int .i64 (l.2.length : Int)), (18, .int .i64 st1), (51, .bool true)] [(1, .box 24 [.int .i64 l.1, .sl (.pair (.int .i64) (.int .i64)) l.2]), (4, .box 56 [.int .i64 (l.2.getD st1.toNat (0, 0)).1, .int .i64 (l.2.getD st1.toNat (0, 0)).2])] (by (simp only [go_sem, hb1, hb3, hb9, hb13, hb15, hb17, hb19]) <;> (repeat' with_reducible apply And.intro) <;> first | assumption | rfl | omega | (unfold maxLen; omega)) ?_
                    refine athen_n ?_
                    refine AW.cond (b := true) rfl (fun _ => ?_) (fun hb20 => by cases hb20)
                    refine AW.seq ?_
                    refine AW.ops ?_
                    refine AO.allF tab_ok (by decide) [(2, .bool false)] [] (by (simp only [go_sem, hb1, hb3, hb9, hb13, hb15, hb17, hb19]) <;> (repeat' with_reducible apply And.intro) <;> first | assumption | rfl | omega | (unfold maxLen; omega)) ?_
                    refine athen_n ?_
                    refine AW.ret ?_
                    refine athen_r ?_
                    refine ablock_r ?_
                    refine athen_r ?_
                    obtain rfl := Option.some.inj h
                    rw [← hd6 _ rfl] at ho5
                    have h := ho5
                    try simp only at h
                    refine athen_r ?_
                    refine ablock_r ?_
                    refine athen_r ?_
                    obtain rfl := Option.some.inj h
                    exact ⟨rfl, [], [], [], rfl, (by (simp only [go_sem, hb1, hb3, hb9, hb13, hb15, hb17, hb19]) <;> (repeat' with_reducible apply And.intro) <;> first | assumption | rfl | omega | (unfold maxLen; omega))⟩
                  · rw [if_neg (Bool.eq_false_iff.1 hb19)] at h
                    refine AO.weaken (s' := ⟨fr [(1, .bp 1 0), (3, .int .i64 st1), (4, .bp 4 0), (16, .sl (.pair (.int .i64) (.int .i64)) l.2), (17, .int .i64 (l.2.length : Int)), (18, .int .i64 st1), (45, .bool false)], hpGet [(1, .box 24 [.int .i64 l.1, .sl (.pair (.int .i64) (.int .i64)) l.2]), (4, .box 56 [.int .i64 (l.2.getD st1.toNat (0, 0)).1, .int .i64 (l.2.getD st1.toNat (0, 0)).2])], gt⟩) (Wk.to (by (simp only [go_sem, hb1, hb3, hb9, hb13, hb15, hb17, hb19]) <;> (repeat' with_reducible apply And.intro) <;> first | assumption | rfl | omega | (unfold maxLen; omega))) ?_
                    refine AO.allF tab_ok (by decide) [(1, .bp 1 0), (3, .int .i64 st1), (4, .bp 4 0), (16, .sl (.pair (.int .i64) (.int .i64)) l.2), (17, .int .i64 (l.2.length : Int)), (18, .int .i64 st1), (51, .bool (decide ((l.2.getD st1.toNat (0, 0)).2 ≤ (l.2.getD st1.toNat (0, 0)).1)))] [(1, .box 24 [.int .i64 l.1, .sl (.pair (.int .i64) (.int .i64)) l.2]), (4, .box 56 [.int .i64 (l.2.getD st1.toNat (0, 0)).1, .int .i64 (l.2.getD st1.toNat (0, 0)).2])] (by (simp only [go_sem, hb1, hb3, hb9, hb13, hb15, hb17, hb19]) <;> (repeat' with_reducible apply And.intro) <;> first | assumption | rfl | omega | (unfold maxLen; omega)) ?_
                    refine athen_n ?_
                    refine AW.cond (b := (decide ((l.2.getD st1.toNat (0, 0)).2 ≤ (l.2.getD st1.toNat (0, 0)).1))) rfl (fun hb21 => ?_) (fun hb21 => ?_)
                    · rw [if_pos hb21] at h
                      refine AW.seq ?_
                      refine AW.ops ?_
                      refine AO.allF tab_ok (by decide) [(2, .bool false)] [] (by (simp only [go_sem, hb1, hb3, hb9, hb13, hb15, hb17, hb19, hb21]) <;> (repeat' with_reducible apply And.intro) <;> first | assumption | rfl | omega | (unfold maxLen; omega)) ?_
                      refine athen_n ?_
                      refine AW.ret ?_
                      refine athen_r ?_
                      refine ablock_r ?_
                      refine athen_r ?_
                      obtain rfl := Option.some.inj h
                      rw [← hd6 _ rfl] at ho5
                      have h := ho5
                      try simp only at h
                      refine athen_r ?_
                      refine ablock_r ?_
                      refine athen_r ?_
                      obtain rfl := Option.some.inj h
                      exact ⟨rfl, [], [], [], rfl, (by (simp only [go_sem, hb1, hb3, hb9, hb13, hb15, hb17, hb19, hb21]) <;> (repeat' with_reducible apply And.intro) <;> first | assumption | rfl | omega | (unfold maxLen; omega))⟩
                    · rw [if_neg (Bool.eq_false_iff.1 hb21)] at h
                      refine AW.skip ?_
                      refine athen_n ?_
                      refine AW.seq ?_
                      refine AW.ops ?_
                      obtain ⟨c22, h⟩ := ck_some.1 h
                      obtain ⟨c23, h⟩ := ck_some.1 h
                      refine AO.allF tab_ok (by decide) [(1, .bp 1 0), (4, .bp 4 0), (16, .sl (.pair (.int .i64) (.int .i64)) l.2), (17, .int .i64 (l.2.length : Int)), (18, .int .i64 st1), (55, .sl (.pair (.int .i64) (.int .i64)) (l.2.take st1.toNat)), (56, .int .i64 ((l.2.take st1.toNat).length : Int)), (57, .int .i64 0)] [(1, .box 24 [.int .i64 l.1, .sl (.pair (.int .i64) (.int .i64)) l.2]), (4, .box 56 [.int .i64 (l.2.getD st1.toNat (0, 0)).1, .int .i64 (l.2.getD st1.toNat (0, 0)).2])] (by (simp only [go_sem, hb1, hb3, hb9, hb13, hb15, hb17, hb19, hb21]) <;> (repeat' with_reducible apply And.intro) <;> first | assumption | rfl | omega | (unfold maxLen; omega)) ?_
                      refine athen_n ?_
                      refine AW.block ?_
                      obtain ⟨rv28, hw24, ho25⟩ := Option.bind_eq_some_iff.1 h
                      refine AW.loopO (linealref03_Valid_b2 l st1) (fun st2 => ⟨fr [(1, .bp 1 0), (4, .bp 4 0), (16, .sl (.pair (.int .i64) (.int .i64)) l.2), (17, .int .i64 (l.2.length : Int)), (18, .int .i64 st1), (55, .sl (.pair (.int .i64) (.int .i64)) (l.2.take st1.toNat)), (56, .int .i64 ((l.2.take st1.toNat).length : Int)), (57, .int .i64 st2)], hpGet [(1, .box 24 [.int .i64 l.1, .sl (.pair (.int .i64) (.int .i64)) l.2]), (4, .box 56 [.int .i64 (l.2.getD st1.toNat (0, 0)).1, .int .i64 (l.2.getD st1.toNat (0, 0)).2])], gt⟩) 0 hw24 (Wk.le [] [] [] rfl (by (simp only [go_sem, hb1, hb3, hb9, hb13, hb15, hb17, hb19, hb21]) <;> (repeat' with_reducible apply And.intro) <;> first | assumption | rfl | omega | (unfold maxLen; omega)) (by (simp only [go_sem, hb1, hb3, hb9, hb13, hb15, hb17, hb19, hb21]) <;> (repeat' with_reducible apply And.intro) <;> first | assumption | rfl | omega | (unfold maxLen; omega))) ?_
                      intro st2 x27 h hd26
                      unfold linealref03_Valid_b2 at h
                      refine AW.seq ?_
                      refine AW.ops ?_
                      refine AO.allF tab_ok (by decide) [(1, .bp 1 0), (4, .bp 4 0), (16, .sl (.pair (.int .i64) (.int .i64)) l.2), (17, .int .i64 (l.2.length : Int)), (18, .int .i64 st1), (55, .sl (.pair (.int .i64) (.int .i64)) (l.2.take st1.toNat)), (56, .int .i64 ((l.2.take st1.toNat).length : Int)), (57, .int .i64 st2), (58, .bool (decide (st2 < ((l.2.take st1.toNat).length : Int))))] [(1, .box 24 [.int .i64 l.1, .sl (.pair (.int .i64) (.int .i64)) l.2]), (4, .box 56 [.int .i64 (l.2.getD st1.toNat (0, 0)).1, .int .i64 (l.2.getD st1.toNat (0, 0)).2])] (by (simp only [go_sem, hb1, hb3, hb9, hb13, hb15, hb17, hb19, hb21]) <;> (repeat' with_reducible apply And.intro) <;> first | assumption | rfl | omega | (unfold maxLen; omega)) ?_
                      refine athen_n ?_
                      refine AW.seq ?_
                      refine AW.cond (b := (decide (st2 < ((l.2.take st1.toNat).length : Int)))) rfl (fun hb29 => ?_) (fun hb29 => ?_)
                      · rw [if_pos hb29] at h
                        refine AW.skip ?_
                        refine athen_n ?_
                        refine AW.seq ?_
                        refine AW.block ?_
                        refine AW.seq ?_
                        refine AW.ops ?_
                        obtain ⟨c30, h⟩ := ck_some.1 h
                        obtain ⟨c31, h⟩ := ck_some.1 h
                        refine AO.allF tab_ok (by decide) [(1, .bp 1 0), (4, .bp 4 0), (6, .bp 6 0), (16, .sl (.pair (.int .i64) (.int .i64)) l.2), (17, .int .i64 (l.2.length : Int)), (18, .int .i64 st1), (55, .sl (.pair (.int .i64) (.int .i64)) (l.2.take st1.toNat)), (56, .int .i64 ((l.2.take st1.toNat).length : Int)), (57, .int .i64 st2)] [(1, .box 24 [.int .i64 l.1, .sl (.pair (.int .i64) (.int .i64)) l.2]), (4, .box 56 [.int .i64 (l.2.getD st1.toNat (0, 0)).1, .int .i64 (l.2.getD st1.toNat (0, 0)).2]), (6, .box 56 [.int .i64 ((l.2.take st1.toNat).getD st2.toNat (0, 0)).1, .int .i64 ((l.2.take st1.toNat).getD st2.toNat (0, 0)).2])] (by (simp only [go_sem, hb1, hb3, hb9, hb13, hb15, hb17, hb19, hb21, hb29]) <;> (repeat' with_reducible apply And.intro) <;> first | assumption | rfl | omega | (unfold maxLen; omega)) ?_
                        refine athen_n ?_
                        refine AW.seq ?_
                        refine AW.ops ?_
                        refine AO.segF tab_ok 2 (by decide) [(1, .bp 1 0), (4, .bp 4 0), (16, .sl (.pair (.int .i64) (.int .i64)) l.2), (17, .int .i64 (l.2.length : Int)), (18, .int .i64 st1), (55, .sl (.pair (.int .i64) (.int .i64)) (l.2.take st1.toNat)), (56, .int .i64 ((l.2.take st1.toNat).length : Int)), (57, .int .i64 st2), (61, .agg [.int .i64 (l.2.getD st1.toNat (0, 0)).1, .int .i64 (l.2.getD st1.toNat (0, 0)).2]), (62, .agg [.int .i64 ((l.2.take st1.toNat).getD st2.toNat (0, 0)).1, .int .i64 ((l.2.take st1.toNat).getD st2.toNat (0, 0)).2])] [(1, .box 24 [.int .i64 l.1, .sl (.pair (.int .i64) (.int .i64)) l.2]), (4, .box 56 [.int .i64 (l.2.getD st1.toNat (0, 0)).1, .int .i64 (l.2.getD st1.toNat (0, 0)).2])] (by (simp only [go_sem, hb1, hb3, hb9, hb13, hb15, hb17, hb19, hb21, hb29]) <;> (repeat' with_reducible apply And.intro) <;> first | assumption | rfl | omega | (unfold maxLen; omega)) ?_
                        obtain ⟨c32, h⟩ := ck_some.1 h
                        obtain ⟨c33, h⟩ := ck_some.1 h
                        obtain ⟨c34, h⟩ := ck_some.1 h
                        obtain ⟨c35, h⟩ := ck_some.1 h
                        refine AO.aggEq (neg := false) eqty_56 (by decide) rfl rfl (lx := [.int .i64 (l.2.getD st1.toNat (0, 0)).1, .int .i64 (l.2.getD st1.toNat (0, 0)).2]) (ly := [.int .i64 ((l.2.take st1.toNat).getD st2.toNat (0, 0)).1, .int .i64 ((l.2.take st1.toNat).getD st2.toNat (0, 0)).2]) (by first | rfl | (simp only [go_sem, hb1, hb3, hb9, hb13, hb15, hb17, hb19, hb21, hb29]) <;> (repeat' with_reducible apply And.intro) <;> first | assumption | rfl | omega | (unfold maxLen; omega)) (by first | rfl | (simp only [go_sem, hb1, hb3, hb9, hb13, hb15, hb17, hb19, hb21, hb29]) <;> (repeat' with_reducible apply And.intro) <;> first | assumption | rfl | omega | (unfold maxLen; omega)) (by first | rfl | (simp only [go_sem, hb1, hb3, hb9, hb13, hb15, hb17, hb19, hb21, hb29]) <;> (repeat' with_reducible apply And.intro) <;> first | assumption | rfl | omega | (unfold maxLen; omega)) (by first | rfl | (simp only [go_sem, hb1, hb3, hb9, hb13, hb15, hb17, hb19, hb21, hb29]) <;> (repeat' with_reducible apply And.intro) <;> first | assumption | rfl | omega | (unfold maxLen; omega)) (by first | assumption | omega | (simp only [go_sem, hb1, hb3, hb9, hb13, hb15, hb17, hb19, hb21, hb29]) <;> (repeat' with_reducible apply And.intro) <;> first | assumption | rfl | omega | (unfold maxLen; omega)) (by first | assumption | omega | (simp only [go_sem, hb1, hb3, hb9, hb13, hb15, hb17, hb19, hb21, hb29]) <;> (repeat' with_reducible apply And.intro) <;> first | assumption | rfl | omega | (unfold maxLen; omega)) ?_
                        refine AO.weaken (s' := ⟨fr [(1, .bp 1 0), (4, .bp 4 0), (16, .sl (.pair (.int .i64) (.int .i64)) l.2), (17, .int .i64 (l.2.length : Int)), (18, .int .i64 st1), (55, .sl (.pair (.int .i64) (.int .i64)) (l.2.take st1.toNat)), (56, .int .i64 ((l.2.take st1.toNat).length : Int)), (57, .int .i64 st2), (63, .bool (decide ((l.2.getD st1.toNat (0, 0)) = ((l.2.take st1.toNat).getD st2.toNat (0, 0)))))], hpGet [(1, .box 24 [.int .i64 l.1, .sl (.pair (.int .i64) (.int .i64)) l.2]), (4, .box 56 [.int .i64 (l.2.getD st1.toNat (0, 0)).1, .int .i64 (l.2.getD st1.toNat (0, 0)).2])], gt⟩) (Wk.to (by (simp only [go_sem, hb1, hb3, hb9, hb13, hb15, hb17, hb19, hb21, hb29]) <;> (repeat' with_reducible apply And.intro) <;> first | assumption | rfl | omega | (unfold maxLen; omega))) ?_
                        refine AO.allF tab_ok (by decide) [(1, .bp 1 0), (4, .bp 4 0), (16, .sl (.pair (.int .i64) (.int .i64)) l.2), (17, .int .i64 (l.2.length : Int)), (18, .int .i64 st1), (55, .sl (.pair (.int .i64) (.int .i64)) (l.2.take st1.toNat)), (56, .int .i64 ((l.2.take st1.toNat).length : Int)), (57, .int .i64 st2), (63, .bool (decide ((l.2.getD st1.toNat (0, 0)) = ((l.2.take st1.toNat).getD st2.toNat (0, 0)))))] [(1, .box 24 [.int .i64 l.1, .sl (.pair (.int .i64) (.int .i64)) l.2]), (4, .box 56 [.int .i64 (l.2.getD st1.toNat (0, 0)).1, .int .i64 (l.2.getD st1.toNat (0, 0)).2])] (by (simp only [go_sem, hb1, hb3, hb9, hb13, hb15, hb17, hb19, hb21, hb29]) <;> (repeat' with_reducible apply And.intro) <;> first | assumption | rfl | omega | (unfold maxLen; omega)) ?_
                        refine athen_n ?_
                        refine AW.cond (b := (decide ((l.2.getD st1.toNat (0, 0)) = ((l.2.take st1.toNat).getD st2.toNat (0, 0))))) rfl (fun hb36 => ?_) (fun hb36 => ?_)
                        · rw [if_pos hb36] at h
                          refine AW.seq ?_
                          refine AW.ops ?_
                          refine AO.allF tab_ok (by decide) [(2, .bool false)] [] (by (simp only [go_sem, hb1, hb3, hb9, hb13, hb15, hb17, hb19, hb21, hb29, hb36]) <;> (repeat' with_reducible apply And.intro) <;> first | assumption | rfl | omega | (unfold maxLen; omega)) ?_
                          refine athen_n ?_
                          refine AW.ret ?_
                          refine ablock_r ?_
                          refine athen_r ?_
                          obtain rfl := Option.some.inj h
                          rw [← hd26 _ rfl] at ho25
                          have h := ho25
                          try simp only at h
                          refine athen_r ?_
                          refine ablock_r ?_
                          refine ablock_r ?_
                          refine athen_r ?_
                          obtain rfl := Option.some.inj h
                          rw [← hd6 _ rfl] at ho5
                          have h := ho5
                          try simp only at h
                          refine athen_r ?_
                          refine ablock_r ?_
                          refine athen_r ?_
                          obtain rfl := Option.some.inj h
                          exact ⟨rfl, [], [], [], rfl, (by (simp only [go_sem, hb1, hb3, hb9, hb13, hb15, hb17, hb19, hb21, hb29, hb36]) <;> (repeat' with_reducible apply And.intro) <;> first | assumption | rfl | omega | (unfold maxLen; omega))⟩
                        · rw [if_neg (Bool.eq_false_iff.1 hb36)] at h
                          refine AW.skip ?_
                          refine ablock_n ?_
                          refine athen_n ?_
                          refine AW.ops ?_
                          obtain ⟨c37, h⟩ := ck_some.1 h
                          refine AO.allF tab_ok (by decide) [(1, .bp 1 0), (4, .bp 4 0), (16, .sl (.pair (.int .i64) (.int .i64)) l.2), (17, .int .i64 (l.2.length : Int)), (18, .int .i64 st1), (55, .sl (.pair (.int .i64) (.int .i64)) (l.2.take st1.toNat)), (56, .int .i64 ((l.2.take st1.toNat).length : Int)), (57, .int .i64 (st2 + 1))] [(1, .box 24 [.int .i64 l.1, .sl (.pair (.int .i64) (.int .i64)) l.2]), (4, .box 56 [.int .i64 (l.2.getD st1.toNat (0, 0)).1, .int .i64 (l.2.getD st1.toNat (0, 0)).2])] (by (simp only [go_sem, hb1, hb3, hb9, hb13, hb15, hb17, hb19, hb21, hb29, hb36]) <;> (repeat' with_reducible apply And.intro) <;> first | assumption | rfl | omega | (unfold maxLen; omega)) ?_
                          obtain rfl := Option.some.inj h
                          exact ⟨_, rfl, Wk.le [] [] [] rfl (by (simp only [go_sem, hb1, hb3, hb9, hb13, hb15, hb17, hb19, hb21, hb29, hb36]) <;> (repeat' with_reducible apply And.intro) <;> first | assumption | rfl | omega | (unfold maxLen; omega)) (by (simp only [go_sem, hb1, hb3, hb9, hb13, hb15, hb17, hb19, hb21, hb29, hb36]) <;> (repeat' with_reducible apply And.intro) <;> first | assumption | rfl | omega | (unfold maxLen; omega))⟩
                      · rw [if_neg (Bool.eq_false_iff.1 hb29)] at h
                        refine AW.exit ?_
                        refine athen_e ?_
                        obtain rfl := Option.some.inj h
                        rw [← hd26 _ rfl] at ho25
                        have h := ho25
                        try simp only at h
                        refine athen_e ?_
                        refine ablock_s ?_
                        refine ablock_n ?_
                        refine athen_n ?_
                        exact AW.weaken (Wk.le [] [] [] rfl (by (simp only [go_sem, hb1, hb3, hb9, hb13, hb15, hb17, hb19, hb21, hb29]) <;> (repeat' with_reducible apply And.intro) <;> first | assumption | rfl | omega | (unfold maxLen; omega)) (by (simp only [go_sem, hb1, hb3, hb9, hb13, hb15, hb17, hb19, hb21, hb29]) <;> (repeat' with_reducible apply And.intro) <;> first | assumption | rfl | omega | (unfold maxLen; omega))) (hk_linealref03_Valid_k2 () h)
        · rw [if_neg (Bool.eq_false_iff.1 hb9)] at h
          refine AW.exit ?_
          refine athen_e ?_
          obtain rfl := Option.some.inj h
          rw [← hd6 _ rfl] at ho5
          have h := ho5
          try simp only at h
          refine athen_e ?_
          refine ablock_s ?_
          refine athen_n ?_
          exact AW.weaken (Wk.le [] [] [] rfl (by (simp only [go_sem, hb1, hb3, hb9]) <;> (repeat' with_reducible apply And.intro) <;> first | assumption | rfl | omega | (unfold maxLen; omega)) (by (simp only [go_sem, hb1, hb3, hb9]) <;> (repeat' with_reducible apply And.intro) <;> first | assumption | rfl | omega | (unfold maxLen; omega))) (hk_linealref03_Valid_k1 () h)

set_option maxRecDepth 100000 in
set_option maxHeartbeats 2000000 in
theorem hc_linealref03_IsLetter (l : Int × (List (Int × Int))) (a : Int) {r : Bool} (h : linealref03_IsLetter l a = some r) : HC Try.prog 61 [] [.agg [.int .i64 l.1, .sl (.pair (.int .i64) (.int .i64)) l.2], .int .i64 a] [] (.bool r) := by
  unfold linealref03_IsLetter at h
  refine HC.of_body tab_ok (res := [.tmp 4]) Try.func61 rfl (by kernel_rfl) rfl (nt := 13) rfl (by decide) (by simp) ?_
  refine AW.seq ?_
  refine AW.ops ?_
  refine AO.allF tab_ok (by decide) [(1, .int .i64 a), (2, .bp 2 0)] [(2, .box 24 [.int .i64 l.1, .sl (.pair (.int .i64) (.int .i64)) l.2])] (by (simp only [go_sem]) <;> (repeat' with_reducible apply And.intro) <;> first | assumption | rfl | omega | (unfold maxLen; omega)) ?_
  refine athen_n ?_
  refine AW.seq ?_
  refine AW.ops ?_
  refine AO.segF tab_ok 3 (by decide) [(1, .int .i64 a), (2, .bp 2 0), (7, .bool (decide (0 ≤ a)))] [(2, .box 24 [.int .i64 l.1, .sl (.pair (.int .i64) (.int .i64)) l.2])] (by (simp only [go_sem]) <;> (repeat' with_reducible apply And.intro) <;> first | assumption | rfl | omega | (unfold maxLen; omega)) ?_
  rcases Bool.eq_false_or_eq_true (decide (0 ≤ a)) with hb1 | hb1
  · rw [if_pos hb1] at h
    refine AO.weaken (s' := ⟨fr [(1, .int .i64 a), (2, .bp 2 0), (7, .bool true)], hpGet [(2, .box 24 [.int .i64 l.1, .sl (.pair (.int .i64) (.int .i64)) l.2])], gt⟩) (Wk.to (by (simp only [go_sem, hb1]) <;> (repeat' with_reducible apply And.intro) <;> first | assumption | rfl | omega | (unfold maxLen; omega))) ?_
    refine AO.allF tab_ok (by decide) [(4, .bool (decide (a < l.1)))] [] (by (simp only [go_sem, hb1]) <;> (repeat' with_reducible apply And.intro) <;> first | assumption | rfl | omega | (unfold maxLen; omega)) ?_
    refine athen_n ?_
    refine AW.ret ?_
    obtain rfl := Option.some.inj h
    exact ⟨rfl, [], [], [], rfl, (by (simp only [go_sem, hb1]) <;> (repeat' with_reducible apply And.intro) <;> first | assumption | rfl | omega | (unfold maxLen; omega))⟩
  · rw [if_neg (Bool.eq_false_iff.1 hb1)] at h
    refine AO.weaken (s' := ⟨fr [(1, .int .i64 a), (2, .bp 2 0), (7, .bool false)], hpGet [(2, .box 24 [.int .i64 l.1, .sl (.pair (.int .i64) (.int .i64)) l.2])], gt⟩) (Wk.to (by (simp only [go_sem, hb1]) <;> (repeat' with_reducible apply And.intro) <;> first | assumption | rfl | omega | (unfold maxLen; omega))) ?_
    refine AO.segF tab_ok 4 (by decide) [(7, .bool false), (11, .cv (undef))] [] (by (simp only [go_sem, hb1]) <;> (repeat' with_reducible apply And.intro) <;> first | assumption | rfl | omega | (unfold maxLen; omega)) ?_
    refine AO.allF tab_ok (by decide) [(4, .bool false)] [] (by (simp only [go_sem, hb1]) <;> (repeat' with_reducible apply And.intro) <;> first | assumption | rfl | omega | (unfold maxLen; omega)) ?_
    refine athen_n ?_
    refine AW.ret ?_
    obtain rfl := Option.some.inj h
    exact ⟨rfl, [], [], [], rfl, (by (simp only [go_sem, hb1]) <;> (repeat' with_reducible apply And.intro) <;> first | assumption | rfl | omega | (unfold maxLen; omega))⟩

set_option maxRecDepth 100000 in
set_option maxHeartbeats 2000000 in
theorem hc_slices_Clone (s : List Int) {r : (List Int)} (h : slices_Clone s = some r) : HC Try.prog 64 [] [.sl (.int .i64) s] [(2000, .arr 3 (.int .i64) r)] (.own 2000) := by
  unfold slices_Clone at h
  refine HC.of_body tab_ok (res := [.tmp 2]) Try.func64 rfl (by kernel_rfl) rfl (nt := 8) rfl (by decide) (by simp) ?_
  refine AW.seq ?_
  refine AW.ops ?_
  refine AO.allF tab_ok (by decide) [(0, .sl (.int .i64) s)] [] (by (simp only [go_sem]) <;> (repeat' with_reducible apply And.intro) <;> first | assumption | rfl | omega | (unfold maxLen; omega)) ?_
  refine athen_n ?_
  refine AW.seq ?_
  refine AW.seq ?_
  refine AW.ops ?_
  refine AO.segF tab_ok 1 (by decide) [(0, .sl (.int .i64) s), (3, .sl (.int .i64) s)] [] (by (simp only [go_sem]) <;> (repeat' with_reducible apply And.intro) <;> first | assumption | rfl | omega | (unfold maxLen; omega)) ?_
  refine AO.nilEq (neg := false) tab_ok (by decide) rfl rfl tab_25 rfl rfl rfl (fun hnil1 => ?_) ?_
  · have h : (some []) = some r := by
      first | (simp only [hnil1] at h ⊢; simpa [ck] using h) | (simp [hnil1, ck] at h ⊢; first | done | exact h)
    refine AO.weaken (s' := ⟨fr [(0, .sl (.int .i64) s), (4, .bool true)], hpGet [], gt⟩) (Wk.to (by (simp only [go_sem]) <;> (repeat' with_reducible apply And.intro) <;> first | assumption | rfl | omega | (unfold maxLen; omega))) ?_
    refine AO.allF tab_ok (by decide) [(0, .sl (.int .i64) s), (4, .bool true)] [] (by (simp only [go_sem]) <;> (repeat' with_reducible apply And.intro) <;> first | assumption | rfl | omega | (unfold maxLen; omega)) ?_
    refine athen_n ?_
    refine AW.cond (b := true) rfl (fun _ => ?_) (fun hb2 => by cases hb2)
    refine AW.seq ?_
    refine AW.ops ?_
    refine AO.allF tab_ok (by decide) [(2, .cv (.slice none 0 0))] [] (by (simp only [go_sem]) <;> (repeat' with_reducible apply And.intro) <;> first | assumption | rfl | omega | (unfold maxLen; omega)) ?_
    refine athen_n ?_
    refine AW.ret ?_
    refine athen_r ?_
    obtain rfl := Option.some.inj h
    exact ⟨rfl, [], [2000], [], rfl, (by (simp only [go_sem]) <;> (repeat' with_reducible apply And.intro) <;> first | assumption | rfl | omega | (unfold maxLen; omega))⟩
  · refine AO.weaken (s' := ⟨fr [(0, .sl (.int .i64) s), (4, .bool false)], hpGet [], gt⟩) (Wk.to (by (simp only [go_sem]) <;> (repeat' with_reducible apply And.intro) <;> first | assumption | rfl | omega | (unfold maxLen; omega))) ?_
    refine AO.allF tab_ok (by decide) [(0, .sl (.int .i64) s), (4, .bool false)] [] (by (simp only [go_sem]) <;> (repeat' with_reducible apply And.intro) <;> first | assumption | rfl | omega | (unfold maxLen; omega)) ?_
    refine athen_n ?_
    refine AW.cond (b := false) rfl (fun hb3 => by cases hb3) (fun _ => ?_)
    refine AW.skip ?_
    refine athen_n ?_
    refine AW.seq ?_
    refine AW.ops ?_
    obtain ⟨c4, h⟩ := ck_some.1 h
    refine AO.allF tab_ok (by decide) [(2, .own 7)] [(7, .arr 3 (.int .i64) s)] (by (simp only [go_sem]) <;> (repeat' with_reducible apply And.intro) <;> first | assumption | rfl | omega | (unfold maxLen; omega)) ?_
    refine athen_n ?_
    refine AW.ret ?_
    obtain rfl := Option.some.inj h
    exact ⟨rfl, [], [], [(2000, 7)], rfl, (by (simp only [go_sem]) <;> (repeat' with_reducible apply And.intro) <;> first | assumption | rfl | omega | (unfold maxLen; omega))⟩

set_option maxRecDepth 100000 in
set_option maxHeartbeats 2000000 in
theorem hc_linealref03_IsWord (l : Int × (List (Int × Int))) (w : List Int) {r : Bool} (h : linealref03_IsWord l w = some r) : HC Try.prog 55 [] [.agg [.int .i64 l.1, .sl (.pair (.int .i64) (.int .i64)) l.2], .sl (.int .i64) w] [] (.bool r) := by
  unfold linealref03_IsWord at h
  refine HC.of_body tab_ok (res := [.tmp 4]) Try.func55 rfl (by kernel_rfl) rfl (nt := 21) rfl (by decide) (by simp) ?_
  refine AW.seq ?_
  refine AW.ops ?_
  refine AO.allF tab_ok (by decide) [(1, .sl (.int .i64) w), (2, .bp 2 0)] [(2, .box 24 [.int .i64 l.1, .sl (.pair (.int .i64) (.int .i64)) l.2])] (by (simp only [go_sem]) <;> (repeat' with_reducible apply And.intro) <;> first | assumption | rfl | omega | (unfold maxLen; omega)) ?_
  refine athen_n ?_
  refine AW.have1 (fun _ : Unit => linealref03_IsWord_k1 w = some r) (fun _ => ⟨fr [(1, .sl (.int .i64) w)], hpGet [], gt⟩) (fun _ h => ?_) (fun hk_linealref03_IsWord_k1 => ?_)
  · unfold linealref03_IsWord_k1 at h
    refine AW.seq ?_
    refine AW.ops ?_
    refine AO.allF tab_ok (by decide) [(4, .bool (decide ((w.length : Int) ≤ 10)))] [] (by (simp only [go_sem]) <;> (repeat' with_reducible apply And.intro) <;> first | assumption | rfl | omega | (unfold maxLen; omega)) ?_
    refine athen_n ?_
    refine AW.ret ?_
    obtain rfl := Option.some.inj h
    exact ⟨rfl, [], [], [], rfl, (by (simp only [go_sem]) <;> (repeat' with_reducible apply And.intro) <;> first | assumption | rfl | omega | (unfold maxLen; omega))⟩
  · refine AW.seq ?_
    refine AW.seq ?_
    refine AW.ops ?_
    refine AO.allF tab_ok (by decide) [(1, .sl (.int .i64) w), (2, .bp 2 0), (7, .sl (.int .i64) w), (8, .int .i64 (w.length : Int)), (9, .int .i64 0)] [(2, .box 24 [.int .i64 l.1, .sl (.pair (.int .i64) (.int .i64)) l.2])] (by (simp only [go_sem]) <;> (repeat' with_reducible apply And.intro) <;> first | assumption | rfl | omega | (unfold maxLen; omega)) ?_
    refine athen_n ?_
    refine AW.block ?_
    obtain ⟨rv5, hw1, ho2⟩ := Option.bind_eq_some_iff.1 h
    refine AW.loopO (linealref03_IsWord_b1 l w) (fun st1 => ⟨fr [(1, .sl (.int .i64) w), (2, .bp 2 0), (7, .sl (.int .i64) w), (8, .int .i64 (w.length : Int)), (9, .int .i64 st1)], hpGet [(2, .box 24 [.int .i64 l.1, .sl (.pair (.int .i64) (.int .i64)) l.2])], gt⟩) 0 hw1 (Wk.le [] [] [] rfl (by (simp only [go_sem]) <;> (repeat' with_reducible apply And.intro) <;> first | assumption | rfl | omega | (unfold maxLen; omega)) (by (simp only [go_sem]) <;> (repeat' with_reducible apply And.intro) <;> first | assumption | rfl | omega | (unfold maxLen; omega))) ?_
    intro st1 x4 h hd3
    unfold linealref03_IsWord_b1 at h
    refine AW.seq ?_
    refine AW.ops ?_
    refine AO.allF tab_ok (by decide) [(1, .sl (.int .i64) w), (2, .bp 2 0), (7, .sl (.int .i64) w), (8, .int .i64 (w.length : Int)), (9, .int .i64 st1), (10, .bool (decide (st1 < (w.length : Int))))] [(2, .box 24 [.int .i64 l.1, .sl (.pair (.int .i64) (.int .i64)) l.2])] (by (simp only [go_sem]) <;> (repeat' with_reducible apply And.intro) <;> first | assumption | rfl | omega | (unfold maxLen; omega)) ?_
    refine athen_n ?_
    refine AW.seq ?_
    refine AW.cond (b := (decide (st1 < (w.length : Int)))) rfl (fun hb6 => ?_) (fun hb6 => ?_)
    · rw [if_pos hb6] at h
      refine AW.skip ?_
      refine athen_n ?_
      refine AW.seq ?_
      refine AW.block ?_
      refine AW.seq ?_
      refine AW.ops ?_
      obtain ⟨c7, h⟩ := ck_some.1 h
      obtain ⟨c8, h⟩ := ck_some.1 h
      refine AO.allF tab_ok (by decide) [(1, .sl (.int .i64) w), (2, .bp 2 0), (6, .int .i64 (w.getD st1.toNat 0)), (7, .sl (.int .i64) w), (8, .int .i64 (w.length : Int)), (9, .int .i64 st1)] [(2, .box 24 [.int .i64 l.1, .sl (.pair (.int .i64) (.int .i64)) l.2])] (by (simp only [go_sem, hb6]) <;> (repeat' with_reducible apply And.intro) <;> first | assumption | rfl | omega | (unfold maxLen; omega)) ?_
      refine athen_n ?_
      refine AW.seq ?_
      refine AW.ops ?_
      refine AO.segF tab_ok 2 (by decide) [(1, .sl (.int .i64) w), (2, .bp 2 0), (7, .sl (.int .i64) w), (8, .int .i64 (w.length : Int)), (9, .int .i64 st1), (13, .agg [.int .i64 l.1, .sl (.pair (.int .i64) (.int .i64)) l.2]), (14, .int .i64 (w.getD st1.toNat 0))] [(2, .box 24 [.int .i64 l.1, .sl (.pair (.int .i64) (.int .i64)) l.2])] (by (simp only [go_sem, hb6]) <;> (repeat' with_reducible apply And.intro) <;> first | assumption | rfl | omega | (unfold maxLen; omega)) ?_
      obtain ⟨v0, hv9, h⟩ := Option.bind_eq_some_iff.1 h
      refine AO.call tab_ok (by decide) rfl rfl rfl (fun _ h => h) [] [] (hc_linealref03_IsLetter l (w.getD st1.toNat 0) hv9) rfl (by (simp only [go_sem, hb6]) <;> (repeat' with_reducible apply And.intro) <;> first | assumption | rfl | omega | (unfold maxLen; omega)) (by (simp only [go_sem, hb6]) <;> (repeat' with_reducible apply And.intro) <;> first | assumption | rfl | omega | (unfold maxLen; omega)) [(1, .sl (.int .i64) w), (2, .bp 2 0), (7, .sl (.int .i64) w), (8, .int .i64 (w.length : Int)), (9, .int .i64 st1), (15, .bool v0)] [(2, .box 24 [.int .i64 l.1, .sl (.pair (.int .i64) (.int .i64)) l.2])] (by (simp only [go_sem, hb6]) <;> (repeat' with_reducible apply And.intro) <;> first | assumption | rfl | omega | (unfold maxLen; omega)) ?_
      refine AO.allF tab_ok (by decide) [(1, .sl (.int .i64) w), (2, .bp 2 0), (7, .sl (.int .i64) w), (8, .int .i64 (w.length : Int)), (9, .int .i64 st1), (16, .bool (!v0))] [(2, .box 24 [.int .i64 l.1, .sl (.pair (.int .i64) (.int .i64)) l.2])] (by (simp only [go_sem, hb6]) <;> (repeat' with_reducible apply And.intro) <;> first | assumption | rfl | omega | (unfold maxLen; omega)) ?_
      refine athen_n ?_
      refine AW.cond (b := (!v0)) rfl (fun hb10 => ?_) (fun hb10 => ?_)
      · rw [if_pos hb10] at h
        refine AW.seq ?_
        refine AW.ops ?_
        refine AO.allF tab_ok (by decide) [(4, .bool false)] [] (by (simp only [go_sem, hb6, hb10]) <;> (repeat' with_reducible apply And.intro) <;> first | assumption | rfl | omega | (unfold maxLen; omega)) ?_
        refine athen_n ?_
        refine AW.ret ?_
        refine ablock_r ?_
        refine athen_r ?_
        obtain rfl := Option.some.inj h
        rw [← hd3 _ rfl] at ho2
        have h := ho2
        try simp only at h
        refine athen_r ?_
        refine ablock_r ?_
        refine athen_r ?_
        obtain rfl := Option.some.inj h
        exact ⟨rfl, [], [], [], rfl, (by (simp only [go_sem, hb6, hb10]) <;> (repeat' with_reducible apply And.intro) <;> first | assumption | rfl | omega | (unfold maxLen; omega))⟩
      · rw [if_neg (Bool.eq_false_iff.1 hb10)] at h
        refine AW.skip ?_
        refine ablock_n ?_
        refine athen_n ?_
        refine AW.ops ?_
        obtain ⟨c11, h⟩ := ck_some.1 h
        refine AO.allF tab_ok (by decide) [(1, .sl (.int .i64) w), (2, .bp 2 0), (7, .sl (.int .i64) w), (8, .int .i64 (w.length : Int)), (9, .int .i64 (st1 + 1))] [(2, .box 24 [.int .i64 l.1, .sl (.pair (.int .i64) (.int .i64)) l.2])] (by (simp only [go_sem, hb6, hb10]) <;> (repeat' with_reducible apply And.intro) <;> first | assumption | rfl | omega | (unfold maxLen; omega)) ?_
        obtain rfl := Option.some.inj h
        exact ⟨_, rfl, Wk.le [] [] [] rfl (by (simp only [go_sem, hb6, hb10]) <;> (repeat' with_reducible apply And.intro) <;> first | assumption | rfl | omega | (unfold maxLen; omega)) (by (simp only [go_sem, hb6, hb10]) <;> (repeat' with_reducible apply And.intro) <;> first | assumption | rfl | omega | (unfold maxLen; omega))⟩
    · rw [if_neg (Bool.eq_false_iff.1 hb6)] at h
      refine AW.exit ?_
      refine athen_e ?_
      obtain rfl := Option.some.inj h
      rw [← hd3 _ rfl] at ho2
      have h := ho2
      try simp only at h
      refine athen_e ?_
      refine ablock_s ?_
      refine athen_n ?_
      exact AW.weaken (Wk.le [] [] [] rfl (by (simp only [go_sem, hb6]) <;> (repeat' with_reducible apply And.intro) <;> first | assumption | rfl | omega | (unfold maxLen; omega)) (by (simp only [go_sem, hb6]) <;> (repeat' with_reducible apply And.intro) <;> first | assumption | rfl | omega | (unfold maxLen; omega))) (hk_linealref03_IsWord_k1 () h)

set_option maxRecDepth 100000 in
set_option maxHeartbeats 2000000 in
theorem hc_linealref03_SameInts (a : List Int) (b : List Int) {r : Bool} (h : linealref03_SameInts a b = some r) : HC Try.prog 23 [] [.sl (.int .i64) a, .sl (.int .i64) b] [] (.bool r) := by
  unfold linealref03_SameInts at h
  refine HC.of_body tab_ok (res := [.tmp 4]) Try.func23 rfl (by kernel_rfl) rfl (nt := 26) rfl (by decide) (by simp) ?_
  refine AW.seq ?_
  refine AW.ops ?_
  refine AO.allF tab_ok (by decide) [(0, .sl (.int .i64) a), (1, .sl (.int .i64) b)] [] (by (simp only [go_sem]) <;> (repeat' with_reducible apply And.intro) <;> first | assumption | rfl | omega | (unfold maxLen; omega)) ?_
  refine athen_n ?_
  refine AW.seq ?_
  refine AW.seq ?_
  refine AW.ops ?_
  refine AO.allF tab_ok (by decide) [(0, .sl (.int .i64) a), (1, .sl (.int .i64) b), (10, .bool (!(decide ((a.length : Int) = (b.length : Int)))))] [] (by (simp only [go_sem]) <;> (repeat' with_reducible apply And.intro) <;> first | assumption | rfl | omega | (unfold maxLen; omega)) ?_
  refine athen_n ?_
  refine AW.cond (b := (!(decide ((a.length : Int) = (b.length : Int))))) rfl (fun hb1 => ?_) (fun hb1 => ?_)
  · rw [if_pos hb1] at h
    refine AW.seq ?_
    refine AW.ops ?_
    refine AO.allF tab_ok (by decide) [(4, .bool false)] [] (by (simp only [go_sem, hb1]) <;> (repeat' with_reducible apply And.intro) <;> first | assumption | rfl | omega | (unfold maxLen; omega)) ?_
    refine athen_n ?_
    refine AW.ret ?_
    refine athen_r ?_
    obtain rfl := Option.some.inj h
    exact ⟨rfl, [], [], [], rfl, (by (simp only [go_sem, hb1]) <;> (repeat' with_reducible apply And.intro) <;> first | assumption | rfl | omega | (unfold maxLen; omega))⟩
  · rw [if_neg (Bool.eq_false_iff.1 hb1)] at h
    refine AW.skip ?_
    refine athen_n ?_
    refine AW.have1 (fun _ : Unit => linealref03_SameInts_k1 = some r) (fun _ => ⟨fr [], hpGet [], gt⟩) (fun _ h => ?_) (fun hk_linealref03_SameInts_k1 => ?_)
    · unfold linealref03_SameInts_k1 at h
      refine AW.seq ?_
      refine AW.ops ?_
      refine AO.allF tab_ok (by decide) [(4, .bool true)] [] (by (simp only [go_sem, hb1]) <;> (repeat' with_reducible apply And.intro) <;> first | assumption | rfl | omega | (unfold maxLen; omega)) ?_
      refine athen_n ?_
      refine AW.ret ?_
      obtain rfl := Option.some.inj h
      exact ⟨rfl, [], [], [], rfl, (by (simp only [go_sem, hb1]) <;> (repeat' with_reducible apply And.intro) <;> first | assumption | rfl | omega | (unfold maxLen; omega))⟩
    · refine AW.seq ?_
      refine AW.seq ?_
      refine AW.ops ?_
      refine AO.allF tab_ok (by decide) [(0, .sl (.int .i64) a), (1, .sl (.int .i64) b), (12, .int .i64 (a.length : Int)), (13, .int .i64 0)] [] (by (simp only [go_sem, hb1]) <;> (repeat' with_reducible apply And.intro) <;> first | assumption | rfl | omega | (unfold maxLen; omega)) ?_
      refine athen_n ?_
      refine AW.block ?_
      obtain ⟨rv6, hw2, ho3⟩ := Option.bind_eq_some_iff.1 h
      refine AW.loopO (linealref03_SameInts_b1 a b) (fun st1 => ⟨fr [(0, .sl (.int .i64) a), (1, .sl (.int .i64) b), (12, .int .i64 (a.length : Int)), (13, .int .i64 st1)], hpGet [], gt⟩) 0 hw2 (Wk.le [] [] [] rfl (by (simp only [go_sem, hb1]) <;> (repeat' with_reducible apply And.intro) <;> first | assumption | rfl | omega | (unfold maxLen; omega)) (by (simp only [go_sem, hb1]) <;> (repeat' with_reducible apply And.intro) <;> first | assumption | rfl | omega | (unfold maxLen; omega))) ?_
      intro st1 x5 h hd4
      unfold linealref03_SameInts_b1 at h
      refine AW.seq ?_
      refine AW.ops ?_
      refine AO.allF tab_ok (by decide) [(0, .sl (.int .i64) a), (1, .sl (.int .i64) b), (12, .int .i64 (a.length : Int)), (13, .int .i64 st1), (14, .bool (decide (st1 < (a.length : Int))))] [] (by (simp only [go_sem, hb1]) <;> (repeat' with_reducible apply And.intro) <;> first | assumption | rfl | omega | (unfold maxLen; omega)) ?_
      refine athen_n ?_
      refine AW.seq ?_
      refine AW.cond (b := (decide (st1 < (a.length : Int)))) rfl (fun hb7 => ?_) (fun hb7 => ?_)
      · rw [if_pos hb7] at h
        refine AW.skip ?_
        refine athen_n ?_
        refine AW.seq ?_
        refine AW.block ?_
        refine AW.seq ?_
        refine AW.ops ?_
        refine AO.allF tab_ok (by decide) [(0, .sl (.int .i64) a), (1, .sl (.int .i64) b), (5, .int .i64 st1), (12, .int .i64 (a.length : Int)), (13, .int .i64 st1)] [] (by (simp only [go_sem, hb1, hb7]) <;> (repeat' with_reducible apply And.intro) <;> first | assumption | rfl | omega | (unfold maxLen; omega)) ?_
        refine athen_n ?_
        refine AW.seq ?_
        refine AW.draw tab_ok mixed_ok [] [] (by decide) (by kernel_rfl) ?_
        obtain ⟨c9, h⟩ := ck_some.1 h
        obtain ⟨c10, h⟩ := ck_some.1 h
        refine adops_cut 6 (fun K' hK8 => ?_)
        try dsimp only [List.drop_succ_cons, List.drop_zero, List.take_succ_cons, List.take_zero]
        simp only [go_sem, hb1, hb7]
        repeat (with_reducible refine And.intro (by first | assumption | rfl | omega | trivial | (unfold maxLen; omega)) ?_)
        refine hK8 _ ?_
        obtain ⟨c12, h⟩ := ck_some.1 h
        obtain ⟨c13, h⟩ := ck_some.1 h
        refine adops_cut 3 (fun K' hK11 => ?_)
        try dsimp only [List.drop_succ_cons, List.drop_zero, List.take_succ_cons, List.take_zero]
        simp only [go_sem, hb1, hb7]
        repeat (with_reducible refine And.intro (by first | assumption | rfl | omega | trivial | (unfold maxLen; omega)) ?_)
        refine hK11 _ ?_
        refine adops_nil ?_
        refine athen_n ?_
        refine AW.weaken (s' := ⟨fr [(0, .sl (.int .i64) a), (1, .sl (.int .i64) b), (12, .int .i64 (a.length : Int)), (13, .int .i64 st1), (24, .bool (!(decide ((a.getD st1.toNat 0) = (b.getD st1.toNat 0)))))], hpGet [], gt⟩) (Wk.to (by (simp only [go_sem, hb1, hb7]) <;> (repeat' with_reducible apply And.intro) <;> first | assumption | rfl | omega | (unfold maxLen; omega))) ?_
        refine AW.cond (b := (!(decide ((a.getD st1.toNat 0) = (b.getD st1.toNat 0))))) rfl (fun hb14 => ?_) (fun hb14 => ?_)
        · rw [if_pos hb14] at h
          refine AW.seq ?_
          refine AW.ops ?_
          refine AO.allF tab_ok (by decide) [(4, .bool false)] [] (by (simp only [go_sem, hb1, hb7, hb14]) <;> (repeat' with_reducible apply And.intro) <;> first | assumption | rfl | omega | (unfold maxLen; omega)) ?_
          refine athen_n ?_
          refine AW.ret ?_
          refine ablock_r ?_
          refine athen_r ?_
          obtain rfl := Option.some.inj h
          rw [← hd4 _ rfl] at ho3
          have h := ho3
          try simp only at h
          refine athen_r ?_
          refine ablock_r ?_
          refine athen_r ?_
          obtain rfl := Option.some.inj h
          exact ⟨rfl, [], [], [], rfl, (by (simp only [go_sem, hb1, hb7, hb14]) <;> (repeat' with_reducible apply And.intro) <;> first | assumption | rfl | omega | (unfold maxLen; omega))⟩
        · rw [if_neg (Bool.eq_false_iff.1 hb14)] at h
          refine AW.skip ?_
          refine ablock_n ?_
          refine athen_n ?_
          refine AW.ops ?_
          obtain ⟨c15, h⟩ := ck_some.1 h
          refine AO.allF tab_ok (by decide) [(0, .sl (.int .i64) a), (1, .sl (.int .i64) b), (12, .int .i64 (a.length : Int)), (13, .int .i64 (st1 + 1))] [] (by (simp only [go_sem, hb1, hb7, hb14]) <;> (repeat' with_reducible apply And.intro) <;> first | assumption | rfl | omega | (unfold maxLen; omega)) ?_
          obtain rfl := Option.some.inj h
          exact ⟨_, rfl, Wk.le [] [] [] rfl (by (simp only [go_sem, hb1, hb7, hb14]) <;> (repeat' with_reducible apply And.intro) <;> first | assumption | rfl | omega | (unfold maxLen; omega)) (by (simp only [go_sem, hb1, hb7, hb14]) <;> (repeat' with_reducible apply And.intro) <;> first | assumption | rfl | omega | (unfold maxLen; omega))⟩
      · rw [if_neg (Bool.eq_false_iff.1 hb7)] at h
        refine AW.exit ?_
        refine athen_e ?_
        obtain rfl := Option.some.inj h
        rw [← hd4 _ rfl] at ho3
        have h := ho3
        try simp only at h
        refine athen_e ?_
        refine ablock_s ?_
        refine athen_n ?_
        exact AW.weaken (Wk.le [] [] [] rfl (by (simp only [go_sem, hb1, hb7]) <;> (repeat' with_reducible apply And.intro) <;> first | assumption | rfl | omega | (unfold maxLen; omega)) (by (simp only [go_sem, hb1, hb7]) <;> (repeat' with_reducible apply And.intro) <;> first | assumption | rfl | omega | (unfold maxLen; omega))) (hk_linealref03_SameInts_k1 () h)

set_option maxRecDepth 100000 in
set_option maxHeartbeats 2000000 in
theorem hc_weave_ties_class (t : (El T59)) (w : List Int) {r : Unit} (h : weave_ties_class t w = some r) : HC Try.prog 81 [] [.agg (cellsX T59 t), .sl (.int .i64) w] [(2000, .box 25 [.sl (.int .i64) w]), (2001, .box 59 (cellsX T59 t))] (.fn (.func 97) [] [.bp 2000 0, .bp 2001 0]) := by
  unfold weave_ties_class at h
  refine HC.of_body tab_ok (res := [.tmp 4]) Try.func81 rfl (by kernel_rfl) rfl (nt := 6) rfl (by decide) (by simp) ?_
  refine AW.seq ?_
  refine AW.ops ?_
  refine AO.allF tab_ok (by decide) [(2, .bp 2 0), (3, .bp 3 0)] [(2, .box 59 (cellsX T59 t)), (3, .box 25 [.sl (.int .i64) w])] (by (simp only [go_sem]) <;> (repeat' with_reducible apply And.intro) <;> first | assumption | rfl | omega | (unfold maxLen; omega)) ?_
  refine athen_n ?_
  refine AW.seq ?_
  refine AW.ops ?_
  refine AO.allF tab_ok (by decide) [(4, .fn (.func 97) [] [.bp 3 0, .bp 2 0])] [(2, .box 59 (cellsX T59 t)), (3, .box 25 [.sl (.int .i64) w])] (by (simp only [go_sem]) <;> (repeat' with_reducible apply And.intro) <;> first | assumption | rfl | omega | (unfold maxLen; omega)) ?_
  refine athen_n ?_
  refine AW.ret ?_
  obtain rfl := Option.some.inj h
  exact ⟨rfl, [], [], [(2000, 3), (2001, 2)], rfl, (by (simp only [go_sem]) <;> (repeat' with_reducible apply And.intro) <;> first | assumption | rfl | omega | (unfold maxLen; omega))⟩

set_option maxRecDepth 100000 in
set_option maxHeartbeats 2000000 in
theorem ic_weave_ties_class_1F (slf : ∀ (S R : Type), (List Int) → ((El T59)) → ((List Int) → S → Option (Step S R)) → S → Option (Sum S R)) (ic_slf : ∀ {S R : Type} (a1 : List Int) (a2 : (El T59)) (yl : (List Int) → S → Option (Step S R)) (s0 : S) {r : Sum S R}, slf S R a1 a2 yl s0 = some r → IC Try.prog 97 [(1000, .box 25 [.sl (.int .i64) a1]), (1001, .box 59 (cellsX T59 a2))] [.bp 1000 0, .bp 1001 0] (fun (y : (List Int)) => [.sl (.int .i64) y]) yl s0 r) {S R : Type} (a1 : List Int) (a2 : (El T59)) (yl : (List Int) → S → Option (Step S R)) (s0 : S) {r : Sum S R} (h : weave_ties_class_1F slf S R a1 a2 yl s0 = some r) : IC Try.prog 97 [(1000, .box 25 [.sl (.int .i64) a1]), (1001, .box 59 (cellsX T59 a2))] [.bp 1000 0, .bp 1001 0] (fun (y : (List Int)) => [.sl (.int .i64) y]) yl s0 r := by
  unfold weave_ties_class_1F at h
  refine IC.of_body Try.func97 rfl (by kernel_rfl) rfl (nt := 28) rfl (by decide) (by simp) ?_
  intro Γ Γx lp hΓ hΓx hY
  refine AW.seq ?_
  refine AW.ops ?_
  refine AO.allF tab_ok (by decide) [(1, .bp 1000 0), (2, .bp 1001 0), (3, .bp 3 0)] [(3, .box 97 [.fn (.yield lp) [] []]), (1000, .box 25 [.sl (.int .i64) a1]), (1001, .box 59 (cellsX T59 a2))] (by (simp only [go_sem]) <;> (repeat' with_reducible apply And.intro) <;> first | assumption | rfl | omega | (unfold maxLen; omega)) ?_
  refine athen_n ?_
  refine AW.seq ?_
  refine AW.seq ?_
  refine AW.ops ?_
  refine AO.allF tab_ok (by decide) [(1, .bp 1000 0), (2, .bp 1001 0), (3, .bp 3 0), (9, .bool (decide ((a1.length : Int) = 0)))] [(3, .box 97 [.fn (.yield lp) [] []]), (1000, .box 25 [.sl (.int .i64) a1]), (1001, .box 59 (cellsX T59 a2))] (by (simp only [go_sem]) <;> (repeat' with_reducible apply And.intro) <;> first | assumption | rfl | omega | (unfold maxLen; omega)) ?_
  refine athen_n ?_
  refine AW.cond (b := (decide ((a1.length : Int) = 0))) rfl (fun hb1 => ?_) (fun hb1 => ?_)
  · rw [if_pos hb1] at h
    refine AW.seq ?_
    refine AW.ops ?_
    refine AO.segF tab_ok 1 (by decide) [(10, .fn (.yield lp) [] [])] [(1000, .box 25 [.sl (.int .i64) a1]), (1001, .box 59 (cellsX T59 a2))] (by (simp only [go_sem, hb1]) <;> (repeat' with_reducible apply And.intro) <;> first | assumption | rfl | omega | (unfold maxLen; omega)) ?_
    obtain ⟨x2, hx3, h⟩ := Option.bind_eq_some_iff.1 h
    refine yield_op rfl rfl rfl (by decide) _ rfl hY hΓ hΓx [] [] (by (simp only [go_sem, hb1]) <;> (repeat' with_reducible apply And.intro) <;> first | assumption | rfl | omega | (unfold maxLen; omega)) hx3 ?_
    cases x2 with
    | next s =>
      try simp only at h
      refine AO.weaken (s' := ⟨fr [], hpGet [(1000, .box 25 [.sl (.int .i64) a1]), (1001, .box 59 (cellsX T59 a2))], (Γ s)⟩) (Wk.to (by (simp only [go_sem, hb1]) <;> (repeat' with_reducible apply And.intro) <;> first | assumption | rfl | omega | (unfold maxLen; omega))) ?_
      refine AO.allF tab_ok (by decide) [] [(1000, .box 25 [.sl (.int .i64) a1]), (1001, .box 59 (cellsX T59 a2))] (by (simp only [go_sem, hb1]) <;> (repeat' with_reducible apply And.intro) <;> first | assumption | rfl | omega | (unfold maxLen; omega)) ?_
      refine athen_n ?_
      refine AW.ret ?_
      refine athen_r ?_
      obtain rfl := Option.some.inj h
      exact rfl
    | done e =>
      try simp only at h
      refine AO.weaken (s' := ⟨fr [], hpGet [(1000, .box 25 [.sl (.int .i64) a1]), (1001, .box 59 (cellsX T59 a2))], (Γx e)⟩) (Wk.to (by (simp only [go_sem, hb1]) <;> (repeat' with_reducible apply And.intro) <;> first | assumption | rfl | omega | (unfold maxLen; omega))) ?_
      refine AO.allF tab_ok (by decide) [] [(1000, .box 25 [.sl (.int .i64) a1]), (1001, .box 59 (cellsX T59 a2))] (by (simp only [go_sem, hb1]) <;> (repeat' with_reducible apply And.intro) <;> first | assumption | rfl | omega | (unfold maxLen; omega)) ?_
      refine athen_n ?_
      refine AW.ret ?_
      refine athen_r ?_
      obtain rfl := Option.some.inj h
      exact rfl
  · rw [if_neg (Bool.eq_false_iff.1 hb1)] at h
    refine AW.skip ?_
    refine athen_n ?_
    refine AW.seq ?_
    refine AW.ops ?_
    refine AO.segF tab_ok 2 (by decide) [(2, .bp 1001 0), (3, .bp 3 0), (12, .agg (cellsX T59 a2)), (13, .sl (.int .i64) a1)] [(3, .box 97 [.fn (.yield lp) [] []]), (1000, .box 25 [.sl (.int .i64) a1]), (1001, .box 59 (cellsX T59 a2))] (by (simp only [go_sem, hb1]) <;> (repeat' with_reducible apply And.intro) <;> first | assumption | rfl | omega | (unfold maxLen; omega)) ?_
    obtain ⟨v0, hv4, h⟩ := Option.bind_eq_some_iff.1 h
    refine AO.call tab_ok (by decide) rfl rfl rfl (fun _ h => h) [] [] (hc_weave_ties_starts a2 a1 hv4) rfl (by (simp only [go_sem, hb1]) <;> (repeat' with_reducible apply And.intro) <;> first | assumption | rfl | omega | (unfold maxLen; omega)) (by (simp only [go_sem, hb1]) <;> (repeat' with_reducible apply And.intro) <;> first | assumption | rfl | omega | (unfold maxLen; omega)) [(2, .bp 1001 0), (3, .bp 3 0), (14, .fn (.func 94) [] [.bp 24000 0, .bp 24001 0])] [(3, .box 97 [.fn (.yield lp) [] []]), (1000, .box 25 [.sl (.int .i64) a1]), (1001, .box 59 (cellsX T59 a2)), (24000, .box 59 (cellsX T59 a2)), (24001, .box 25 [.sl (.int .i64) a1])] (by (simp only [go_sem, hb1]) <;> (repeat' with_reducible apply And.intro) <;> first | assumption | rfl | omega | (unfold maxLen; omega)) ?_
    refine AO.allF tab_ok (by decide) [(2, .bp 1001 0), (3, .bp 3 0), (14, .fn (.func 94) [] [.bp 24000 0, .bp 24001 0])] [(3, .box 97 [.fn (.yield lp) [] []]), (1000, .box 25 [.sl (.int .i64) a1]), (1001, .box 59 (cellsX T59 a2)), (24000, .box 59 (cellsX T59 a2)), (24001, .box 25 [.sl (.int .i64) a1])] (by (simp only [go_sem, hb1]) <;> (repeat' with_reducible apply And.intro) <;> first | assumption | rfl | omega | (unfold maxLen; omega)) ?_
    refine athen_n ?_
    refine AW.block ?_
    obtain ⟨x5, hx6, h⟩ := Option.bind_eq_some_iff.1 h
    refine AW.weaken (s' := ⟨fr [(2, .bp 1001 0), (3, .bp 3 0), (14, .fn (.func 94) [] [.bp 24000 0, .bp 24001 0])], hpGet ([(24000, .box 59 (cellsX T59 a2)), (24001, .box 25 [.sl (.int .i64) a1])] ++ [(3, .box 97 [.fn (.yield lp) [] []]), (1000, .box 25 [.sl (.int .i64) a1]), (1001, .box 59 (cellsX T59 a2))]), (Γ s0)⟩) (Wk.le [] [] [] rfl (by (simp only [go_sem, hb1]) <;> (repeat' with_reducible apply And.intro) <;> first | assumption | rfl | omega | (unfold maxLen; omega)) (by (simp only [go_sem, hb1]) <;> (repeat' with_reducible apply And.intro) <;> first | assumption | rfl | omega | (unfold maxLen; omega))) ?_
    refine AW.rangeF (R := R) (l0 := [(2, .bp 1001 0), (3, .bp 3 0)]) (hI := [(24000, .box 59 (cellsX T59 a2)), (24001, .box 25 [.sl (.int .i64) a1])]) (h0 := fun (st1 : S) => [(3, .box 97 [.fn (.yield lp) [] []]), (1000, .box 25 [.sl (.int .i64) a1]), (1001, .box 59 (cellsX T59 a2))]) (gg := fun (st1 : S) => (Γ st1)) (hx0 := (fun (r1 : R) => [(3, .box 97 [.fn (.yield lp) [] []]), (1000, .box 25 [.sl (.int .i64) a1]), (1001, .box 59 (cellsX T59 a2))])) (gx := (fun (r1 : R) => (Γx r1))) (ex := (fun (r1 : R) => Exit.ret)) s0 [(24000, 1000), (24001, 1001)] [(1000, 24000), (1001, 24001)] [(3, 1900)] [(1900, 3)] (by decide) rfl (by first | exact (ic_weave_ties_starts_1 a2 a1 (weave_ties_class_1_y1 S R slf a2 yl) s0 hx6) | simpa only [go_sem] using (ic_weave_ties_starts_1 a2 a1 (weave_ties_class_1_y1 S R slf a2 yl) s0 hx6)) (by (simp only [go_sem, hb1]) <;> (repeat' with_reducible apply And.intro) <;> first | assumption | rfl | omega | (unfold maxLen; omega)) rfl rfl rfl (fun _ => rfl) rfl (fun _ => rfl) rfl (fun _ => rfl) (fun _ => rfl) (fun _ => rfl) (fun _ => rfl) rfl (fun _ _ => by first | rfl | (exact (hΓ _).trans (hΓ _).symm) | (exact (hΓx _).trans (hΓ _).symm)) (fun _ _ => by first | rfl | (exact (hΓ _).trans (hΓ _).symm) | (exact (hΓx _).trans (hΓ _).symm)) ?_ ?_
    · intro lpy1 y1 st1 x7 h
      unfold weave_ties_class_1_y1 at h
      refine AW.weaken (s' := ⟨fr [(2, .bp 1001 0), (3, .bp 1900 0), (15, .int .i64 y1.1), (16, .sl (.int .i64) y1.2)], hpGet [(1000, .box 25 [.sl (.int .i64) a1]), (1001, .box 59 (cellsX T59 a2)), (1900, .box 97 [.fn (.yield lp) [] []])], (Γ st1)⟩) (Wk.to (by (simp only [go_sem, hb1]) <;> (repeat' with_reducible apply And.intro) <;> first | assumption | rfl | omega | (unfold maxLen; omega))) ?_
      refine AW.seq ?_
      refine AW.ops ?_
      refine AO.allF tab_ok (by decide) [(2, .bp 1001 0), (3, .bp 1900 0), (4, .bp 4 0), (16, .sl (.int .i64) y1.2)] [(4, .box 3 [.int .i64 y1.1]), (1000, .box 25 [.sl (.int .i64) a1]), (1001, .box 59 (cellsX T59 a2)), (1900, .box 97 [.fn (.yield lp) [] []])] (by (simp only [go_sem, hb1]) <;> (repeat' with_reducible apply And.intro) <;> first | assumption | rfl | omega | (unfold maxLen; omega)) ?_
      refine athen_n ?_
      refine AW.ops ?_
      refine AO.allF tab_ok (by decide) [(2, .bp 1001 0), (3, .bp 1900 0), (4, .bp 4 0), (5, .sl (.int .i64) y1.2)] [(4, .box 3 [.int .i64 y1.1]), (1000, .box 25 [.sl (.int .i64) a1]), (1001, .box 59 (cellsX T59 a2)), (1900, .box 97 [.fn (.yield lp) [] []])] (by (simp only [go_sem, hb1]) <;> (repeat' with_reducible apply And.intro) <;> first | assumption | rfl | omega | (unfold maxLen; omega)) ?_
      refine And.intro rfl ?_
      refine AW.block ?_
      refine AW.seq ?_
      refine AW.ops ?_
      refine AO.segF tab_ok 2 (by decide) [(2, .bp 1001 0), (3, .bp 1900 0), (4, .bp 4 0), (17, .agg (cellsX T59 a2)), (18, .sl (.int .i64) y1.2)] [(4, .box 3 [.int .i64 y1.1]), (1000, .box 25 [.sl (.int .i64) a1]), (1001, .box 59 (cellsX T59 a2)), (1900, .box 97 [.fn (.yield lp) [] []])] (by (simp only [go_sem, hb1]) <;> (repeat' with_reducible apply And.intro) <;> first | assumption | rfl | omega | (unfold maxLen; omega)) ?_
      obtain ⟨v0_2, hv8, h⟩ := Option.bind_eq_some_iff.1 h
      refine AO.call tab_ok (by decide) rfl rfl rfl (fun _ h => h) [] [] (hc_weave_ties_class a2 y1.2 hv8) rfl (by (simp only [go_sem, hb1]) <;> (repeat' with_reducible apply And.intro) <;> first | assumption | rfl | omega | (unfold maxLen; omega)) (by (simp only [go_sem, hb1]) <;> (repeat' with_reducible apply And.intro) <;> first | assumption | rfl | omega | (unfold maxLen; omega)) [(2, .bp 1001 0), (3, .bp 1900 0), (4, .bp 4 0), (19, .fn (.func 97) [] [.bp 29000 0, .bp 29001 0])] [(4, .box 3 [.int .i64 y1.1]), (1000, .box 25 [.sl (.int .i64) a1]), (1001, .box 59 (cellsX T59 a2)), (1900, .box 97 [.fn (.yield lp) [] []]), (29000, .box 25 [.sl (.int .i64) y1.2]), (29001, .box 59 (cellsX T59 a2))] (by (simp only [go_sem, hb1]) <;> (repeat' with_reducible apply And.intro) <;> first | assumption | rfl | omega | (unfold maxLen; omega)) ?_
      refine AO.allF tab_ok (by decide) [(2, .bp 1001 0), (3, .bp 1900 0), (4, .bp 4 0), (19, .fn (.func 97) [] [.bp 29000 0, .bp 29001 0])] [(4, .box 3 [.int .i64 y1.1]), (1000, .box 25 [.sl (.int .i64) a1]), (1001, .box 59 (cellsX T59 a2)), (1900, .box 97 [.fn (.yield lp) [] []]), (29000, .box 25 [.sl (.int .i64) y1.2]), (29001, .box 59 (cellsX T59 a2))] (by (simp only [go_sem, hb1]) <;> (repeat' with_reducible apply And.intro) <;> first | assumption | rfl | omega | (unfold maxLen; omega)) ?_
      refine athen_n ?_
      refine AW.block ?_
      obtain ⟨x9, hx10, h⟩ := Option.bind_eq_some_iff.1 h
      refine AW.weaken (s' := ⟨fr [(2, .bp 1001 0), (3, .bp 1900 0), (4, .bp 4 0), (19, .fn (.func 97) [] [.bp 29000 0, .bp 29001 0])], hpGet ([(29000, .box 25 [.sl (.int .i64) y1.2]), (29001, .box 59 (cellsX T59 a2))] ++ [(4, .box 3 [.int .i64 y1.1]), (1000, .box 25 [.sl (.int .i64) a1]), (1001, .box 59 (cellsX T59 a2)), (1900, .box 97 [.fn (.yield lp) [] []])]), (Γ st1)⟩) (Wk.le [] [] [] rfl (by (simp only [go_sem, hb1]) <;> (repeat' with_reducible apply And.intro) <;> first | assumption | rfl | omega | (unfold maxLen; omega)) (by (simp only [go_sem, hb1]) <;> (repeat' with_reducible apply And.intro) <;> first | assumption | rfl | omega | (unfold maxLen; omega))) ?_
      refine AW.rangeF (R := R) (l0 := [(2, .bp 1001 0), (3, .bp 1900 0), (4, .bp 4 0)]) (hI := [(29000, .box 25 [.sl (.int .i64) y1.2]), (29001, .box 59 (cellsX T59 a2))]) (h0 := fun (st2 : S) => [(4, .box 3 [.int .i64 y1.1]), (1000, .box 25 [.sl (.int .i64) a1]), (1001, .box 59 (cellsX T59 a2)), (1900, .box 97 [.fn (.yield lp) [] []])]) (gg := fun (st2 : S) => (Γ st2)) (hx0 := (fun (r2 : R) => [(4, .box 3 [.int .i64 y1.1]), (1000, .box 25 [.sl (.int .i64) a1]), (1001, .box 59 (cellsX T59 a2)), (1900, .box 97 [.fn (.yield lp) [] []])])) (gx := (fun (r2 : R) => (Γx r2))) (ex := (fun (r2 : R) => Exit.ret)) st1 [(29000, 1000), (29001, 1001)] [(1000, 29000), (1001, 29001)] [(4, 1901)] [(1901, 4)] (by decide) rfl (by first | exact (ic_slf y1.2 a2 (weave_ties_class_1_y2 S R yl y1) st1 hx10) | simpa only [go_sem] using (ic_slf y1.2 a2 (weave_ties_class_1_y2 S R yl y1) st1 hx10)) (by (simp only [go_sem, hb1]) <;> (repeat' with_reducible apply And.intro) <;> first | assumption | rfl | omega | (unfold maxLen; omega)) rfl rfl rfl (fun _ => rfl) rfl (fun _ => rfl) rfl (fun _ => rfl) (fun _ => rfl) (fun _ => rfl) (fun _ => rfl) rfl (fun _ _ => by first | rfl | (exact (hΓ _).trans (hΓ _).symm) | (exact (hΓx _).trans (hΓ _).symm)) (fun _ _ => by first | rfl | (exact (hΓ _).trans (hΓ _).symm) | (exact (hΓx _).trans (hΓ _).symm)) ?_ ?_
      · intro lpy2 y2 st2 x11 h
        unfold weave_ties_class_1_y2 at h
        refine AW.weaken (s' := ⟨fr [(2, .bp 1001 0), (3, .bp 1900 0), (4, .bp 1901 0), (20, .sl (.int .i64) y2)], hpGet [(1000, .box 25 [.sl (.int .i64) a1]), (1001, .box 59 (cellsX T59 a2)), (1900, .box 97 [.fn (.yield lp) [] []]), (1901, .box 3 [.int .i64 y1.1])], (Γ st2)⟩) (Wk.to (by (simp only [go_sem, hb1]) <;> (repeat' with_reducible apply And.intro) <;> first | assumption | rfl | omega | (unfold maxLen; omega))) ?_
        refine AW.ops ?_
        refine AO.allF tab_ok (by decide) [(2, .bp 1001 0), (3, .bp 1900 0), (4, .bp 1901 0), (6, .sl (.int .i64) y2)] [(1000, .box 25 [.sl (.int .i64) a1]), (1001, .box 59 (cellsX T59 a2)), (1900, .box 97 [.fn (.yield lp) [] []]), (1901, .box 3 [.int .i64 y1.1])] (by (simp only [go_sem, hb1]) <;> (repeat' with_reducible apply And.intro) <;> first | assumption | rfl | omega | (unfold maxLen; omega)) ?_
        refine And.intro rfl ?_
        refine AW.block ?_
        refine AW.seq ?_
        refine AW.drawTail tab_ok mixed_ok 5 [(2, [23]), (4, [23, 25])] [(0, [1900]), (3, [])] (by decide) (by kernel_rfl) (by kernel_rfl) (by decide) ?_
        dsimp only [List.take_succ_cons, List.take_zero]
        obtain ⟨c13, h⟩ := ck_some.1 h
        refine adops_cut 5 (fun K' hK12 => ?_)
        try dsimp only [List.drop_succ_cons, List.drop_zero, List.take_succ_cons, List.take_zero]
        simp only [go_sem, hb1]
        repeat (with_reducible refine And.intro (by first | assumption | rfl | omega | trivial | (unfold maxLen; omega)) ?_)
        refine hK12 _ ?_
        refine adops_nil ?_
        refine AO.weaken (s' := ⟨fr [(2, .bp 1001 0), (3, .bp 1900 0), (4, .bp 1901 0), (21, .fn (.yield lp) [] []), (25, .own 25)], hpGet [(25, .arr 3 (.int .i64) (y1.1 :: y2)), (1000, .box 25 [.sl (.int .i64) a1]), (1001, .box 59 (cellsX T59 a2)), (1900, .box 97 [.fn (.yield lp) [] []]), (1901, .box 3 [.int .i64 y1.1])], (Γ st2)⟩) (Wk.to (by (simp only [go_sem, hb1]) <;> (repeat' with_reducible apply And.intro) <;> first | assumption | rfl | omega | (unfold maxLen; omega))) ?_
        obtain ⟨x14, hx15, h⟩ := Option.bind_eq_some_iff.1 h
        refine yield_op rfl rfl rfl (by decide) _ rfl hY hΓ hΓx (y1.1 :: y2) [25] (by (simp only [go_sem, hb1]) <;> (repeat' with_reducible apply And.intro) <;> first | assumption | rfl | omega | (unfold maxLen; omega)) hx15 ?_
        cases x14 with
        | next s_2 =>
          try simp only at h
          refine AO.weaken (s' := ⟨fr [(2, .bp 1001 0), (3, .bp 1900 0), (4, .bp 1901 0), (26, .bool true)], hpGet [(1000, .box 25 [.sl (.int .i64) a1]), (1001, .box 59 (cellsX T59 a2)), (1900, .box 97 [.fn (.yield lp) [] []]), (1901, .box 3 [.int .i64 y1.1])], (Γ s_2)⟩) (Wk.to (by (simp only [go_sem, hb1]) <;> (repeat' with_reducible apply And.intro) <;> first | assumption | rfl | omega | (unfold maxLen; omega))) ?_
          refine AO.allF tab_ok (by decide) [(2, .bp 1001 0), (3, .bp 1900 0), (4, .bp 1901 0), (27, .bool false)] [(1000, .box 25 [.sl (.int .i64) a1]), (1001, .box 59 (cellsX T59 a2)), (1900, .box 97 [.fn (.yield lp) [] []]), (1901, .box 3 [.int .i64 y1.1])] (by (simp only [go_sem, hb1]) <;> (repeat' with_reducible apply And.intro) <;> first | assumption | rfl | omega | (unfold maxLen; omega)) ?_
          refine athen_n ?_
          refine AW.cond (b := false) rfl (fun hb16 => by cases hb16) (fun _ => ?_)
          refine AW.skip ?_
          refine ablock_n ?_
          obtain rfl := Option.some.inj h
          exact rpost_next rfl [] [] [] rfl (by (simp only [go_sem, hb1]) <;> (repeat' with_reducible apply And.intro) <;> first | assumption | rfl | omega | (unfold maxLen; omega))
        | done e_2 =>
          try simp only at h
          refine AO.weaken (s' := ⟨fr [(2, .bp 1001 0), (3, .bp 1900 0), (4, .bp 1901 0), (26, .bool false)], hpGet [(1000, .box 25 [.sl (.int .i64) a1]), (1001, .box 59 (cellsX T59 a2)), (1900, .box 97 [.fn (.yield lp) [] []]), (1901, .box 3 [.int .i64 y1.1])], (Γx e_2)⟩) (Wk.to (by (simp only [go_sem, hb1]) <;> (repeat' with_reducible apply And.intro) <;> first | assumption | rfl | omega | (unfold maxLen; omega))) ?_
          refine AO.allF tab_ok (by decide) [(2, .bp 1001 0), (3, .bp 1900 0), (4, .bp 1901 0), (27, .bool true)] [(1000, .box 25 [.sl (.int .i64) a1]), (1001, .box 59 (cellsX T59 a2)), (1900, .box 97 [.fn (.yield lp) [] []]), (1901, .box 3 [.int .i64 y1.1])] (by (simp only [go_sem, hb1]) <;> (repeat' with_reducible apply And.intro) <;> first | assumption | rfl | omega | (unfold maxLen; omega)) ?_
          refine athen_n ?_
          refine AW.cond (b := true) rfl (fun _ => ?_) (fun hb17 => by cases hb17)
          refine AW.ret ?_
          refine ablock_r ?_
          obtain rfl := Option.some.inj h
          exact rpost_ret rfl rfl [] [] [] rfl (by (simp only [go_sem, hb1]) <;> (repeat' with_reducible apply And.intro) <;> first | assumption | rfl | omega | (unfold maxLen; omega))
      · cases x9 with
        | inl st2_2 =>
          try simp only at h
          refine ablock_n ?_
          refine ablock_n ?_
          obtain rfl := Option.some.inj h
          exact rpost_next rfl [] [] [] rfl (by (simp only [go_sem, hb1]) <;> (repeat' with_reducible apply And.intro) <;> first | assumption | rfl | omega | (unfold maxLen; omega))
        | inr r2 =>
          try simp only at h
          refine ablock_r ?_
          refine ablock_r ?_
          obtain rfl := Option.some.inj h
          exact rpost_ret rfl rfl [] [] [] rfl (by (simp only [go_sem, hb1]) <;> (repeat' with_reducible apply And.intro) <;> first | assumption | rfl | omega | (unfold maxLen; omega))
    · cases x5 with
      | inl st1_2 =>
        try simp only at h
        refine ablock_n ?_
        obtain rfl := Option.some.inj h
        exact rfl
      | inr r1 =>
        try simp only at h
        refine ablock_r ?_
        obtain rfl := Option.some.inj h
        exact rfl

theorem ic_weave_ties_class_1 : ∀ (n : Nat) {S R : Type} (a1 : List Int) (a2 : (El T59)) (yl : (List Int) → S → Option (Step S R)) (s0 : S) {r : Sum S R}, weave_ties_class_1 n S R a1 a2 yl s0 = some r → IC Try.prog 97 [(1000, .box 25 [.sl (.int .i64) a1]), (1001, .box 59 (cellsX T59 a2))] [.bp 1000 0, .bp 1001 0] (fun (y : (List Int)) => [.sl (.int .i64) y]) yl s0 r := by
  intro n
  induction n with
  | zero => intro S R a1 a2 yl s0 r h; cases h
  | succ n ih => intro S R a1 a2 yl s0 r h; exact ic_weave_ties_class_1F (weave_ties_class_1 n) ih a1 a2 yl s0 h

end Go.Proofs.Ytcijihofjcfpoab
