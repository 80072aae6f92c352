/-
  Made by wip/tool/dc.py out of the print of the program: contracts.
-/
import Derived.Test.YtcijihofjcfpoabWp
import Derived.Test.YtcijihofjcfpoabTb3
namespace Go.Proofs.Ytcijihofjcfpoab
open Go.RowKit

set_option linter.unusedSimpArgs false
set_option linter.unusedVariables false
set_option linter.constructorNameAsVariable false

set_option maxRecDepth 100000 in
set_option maxHeartbeats 2000000 in
theorem hc_linealref03_Valid (l : Int × (List (Int × Int))) {r : Bool} (h : linealref03_Valid l = some r) : HC Try.prog 20 [] [.agg [.int .i64 l.1, .sl (.pair (.int .i64) (.int .i64)) l.2]] [] (.bool r) := by
  unfold linealref03_Valid at h
  refine HC.of_body tab_ok (res := [.tmp 2]) Try.func20 rfl (by kernel_rfl) rfl (nt := 66) rfl (by decide) (by simp) ?_
  refine AW.seq ?_
  refine AW.ops ?_
  refine AO.allF tab_ok (by decide) [(1, .bp 1 0)] [(1, .box 24 [.int .i64 l.1, .sl (.pair (.int .i64) (.int .i64)) l.2])] (by (simp only [go_sem]) <;> (repeat' with_reducible apply And.intro) <;> first | assumption | rfl | omega | (unfold maxLen; omega)) ?_
  refine athen_n ?_
  refine AW.seq ?_
  refine AW.seq ?_
  refine AW.ops ?_
  refine AO.segF tab_ok 4 (by decide) [(1, .bp 1 0), (10, .bool (decide (l.1 < 1)))] [(1, .box 24 [.int .i64 l.1, .sl (.pair (.int .i64) (.int .i64)) l.2])] (by (simp only [go_sem]) <;> (repeat' with_reducible apply And.intro) <;> first | assumption | rfl | omega | (unfold maxLen; omega)) ?_
  rcases Bool.eq_false_or_eq_true (decide (l.1 < 1)) with hb1 | hb1
  · rw [if_pos hb1] at h
    refine AO.weaken (s' := ⟨fr [(1, .bp 1 0), (10, .bool true)], hpGet [(1, .box 24 [.int .i64 l.1, .sl (.pair (.int .i64) (.int .i64)) l.2])], gt⟩) (Wk.to (by (simp only [go_sem, hb1]) <;> (repeat' with_reducible apply And.intro) <;> first | assumption | rfl | omega | (unfold maxLen; omega))) ?_
    refine AO.allF tab_ok (by decide) [(1, .bp 1 0), (14, .bool true)] [(1, .box 24 [.int .i64 l.1, .sl (.pair (.int .i64) (.int .i64)) l.2])] (by (simp only [go_sem, hb1]) <;> (repeat' with_reducible apply And.intro) <;> first | assumption | rfl | omega | (unfold maxLen; omega)) ?_
    refine athen_n ?_
    refine AW.cond (b := true) rfl (fun _ => ?_) (fun hb2 => by cases hb2)
    refine AW.seq ?_
    refine AW.ops ?_
    refine AO.allF tab_ok (by decide) [(2, .bool false)] [] (by (simp only [go_sem, hb1]) <;> (repeat' with_reducible apply And.intro) <;> first | assumption | rfl | omega | (unfold maxLen; omega)) ?_
    refine athen_n ?_
    refine AW.ret ?_
    refine athen_r ?_
    obtain rfl := Option.some.inj h
    exact ⟨rfl, [], [], [], rfl, (by (simp only [go_sem, hb1]) <;> (repeat' with_reducible apply And.intro) <;> first | assumption | rfl | omega | (unfold maxLen; omega))⟩
  · rw [if_neg (Bool.eq_false_iff.1 hb1)] at h
    refine AO.weaken (s' := ⟨fr [(1, .bp 1 0), (10, .bool false)], hpGet [(1, .box 24 [.int .i64 l.1, .sl (.pair (.int .i64) (.int .i64)) l.2])], gt⟩) (Wk.to (by (simp only [go_sem, hb1]) <;> (repeat' with_reducible apply And.intro) <;> first | assumption | rfl | omega | (unfold maxLen; omega))) ?_
    refine AO.allF tab_ok (by decide) [(1, .bp 1 0), (14, .bool (decide (6 < l.1)))] [(1, .box 24 [.int .i64 l.1, .sl (.pair (.int .i64) (.int .i64)) l.2])] (by (simp only [go_sem, hb1]) <;> (repeat' with_reducible apply And.intro) <;> first | assumption | rfl | omega | (unfold maxLen; omega)) ?_
    refine athen_n ?_
    refine AW.cond (b := (decide (6 < l.1))) rfl (fun hb3 => ?_) (fun hb3 => ?_)
    · rw [if_pos hb3] at h
      refine AW.seq ?_
      refine AW.ops ?_
      refine AO.allF tab_ok (by decide) [(2, .bool false)] [] (by (simp only [go_sem, hb1, hb3]) <;> (repeat' with_reducible apply And.intro) <;> first | assumption | rfl | omega | (unfold maxLen; omega)) ?_
      refine athen_n ?_
      refine AW.ret ?_
      refine athen_r ?_
      obtain rfl := Option.some.inj h
      exact ⟨rfl, [], [], [], rfl, (by (simp only [go_sem, hb1, hb3]) <;> (repeat' with_reducible apply And.intro) <;> first | assumption | rfl | omega | (unfold maxLen; omega))⟩
    · rw [if_neg (Bool.eq_false_iff.1 hb3)] at h
      refine AW.skip ?_
      refine athen_n ?_
      refine AW.have1 (fun _ : Unit => linealref03_Valid_k1 = some r) (fun _ => ⟨fr [], hpGet [], gt⟩) (fun _ h => ?_) (fun hk_linealref03_Valid_k1 => ?_)
      · unfold linealref03_Valid_k1 at h
        refine AW.seq ?_
        refine AW.ops ?_
        refine AO.allF tab_ok (by decide) [(2, .bool true)] [] (by (simp only [go_sem, hb1, hb3]) <;> (repeat' with_reducible apply And.intro) <;> first | assumption | rfl | omega | (unfold maxLen; omega)) ?_
        refine athen_n ?_
        refine AW.ret ?_
        obtain rfl := Option.some.inj h
        exact ⟨rfl, [], [], [], rfl, (by (simp only [go_sem, hb1, hb3]) <;> (repeat' with_reducible apply And.intro) <;> first | assumption | rfl | omega | (unfold maxLen; omega))⟩
      · refine AW.seq ?_
        refine AW.seq ?_
        refine AW.ops ?_
        refine AO.allF tab_ok (by decide) [(1, .bp 1 0), (16, .sl (.pair (.int .i64) (.int .i64)) l.2), (17, .int .i64 (l.2.length : Int)), (18, .int .i64 0)] [(1, .box 24 [.int .i64 l.1, .sl (.pair (.int .i64) (.int .i64)) l.2])] (by (simp only [go_sem, hb1, hb3]) <;> (repeat' with_reducible apply And.intro) <;> first | assumption | rfl | omega | (unfold maxLen; omega)) ?_
        refine athen_n ?_
        refine AW.block ?_
        obtain ⟨rv8, hw4, ho5⟩ := Option.bind_eq_some_iff.1 h
        refine AW.loopO (linealref03_Valid_b1 l) (fun st1 => ⟨fr [(1, .bp 1 0), (16, .sl (.pair (.int .i64) (.int .i64)) l.2), (17, .int .i64 (l.2.length : Int)), (18, .int .i64 st1)], hpGet [(1, .box 24 [.int .i64 l.1, .sl (.pair (.int .i64) (.int .i64)) l.2])], gt⟩) 0 hw4 (Wk.le [] [] [] rfl (by (simp only [go_sem, hb1, hb3]) <;> (repeat' with_reducible apply And.intro) <;> first | assumption | rfl | omega | (unfold maxLen; omega)) (by (simp only [go_sem, hb1, hb3]) <;> (repeat' with_reducible apply And.intro) <;> first | assumption | rfl | omega | (unfold maxLen; omega))) ?_
        intro st1 x7 h hd6
        unfold linealref03_Valid_b1 at h
        refine AW.seq ?_
        refine AW.ops ?_
        refine AO.allF tab_ok (by decide) [(1, .bp 1 0), (16, .sl (.pair (.int .i64) (.int .i64)) l.2), (17, .int .i64 (l.2.length : Int)), (18, .int .i64 st1), (19, .bool (decide (st1 < (l.2.length : Int))))] [(1, .box 24 [.int .i64 l.1, .sl (.pair (.int .i64) (.int .i64)) l.2])] (by (simp only [go_sem, hb1, hb3]) <;> (repeat' with_reducible apply And.intro) <;> first | assumption | rfl | omega | (unfold maxLen; omega)) ?_
        refine athen_n ?_
        refine AW.seq ?_
        refine AW.cond (b := (decide (st1 < (l.2.length : Int)))) rfl (fun hb9 => ?_) (fun hb9 => ?_)
        · rw [if_pos hb9] at h
          refine AW.skip ?_
          refine athen_n ?_
          refine AW.have1 (fun _ : Unit => linealref03_Valid_k2 st1 = some x7) (fun _ => ⟨fr [(1, .bp 1 0), (16, .sl (.pair (.int .i64) (.int .i64)) l.2), (17, .int .i64 (l.2.length : Int)), (18, .int .i64 st1)], hpGet [(1, .box 24 [.int .i64 l.1, .sl (.pair (.int .i64) (.int .i64)) l.2])], gt⟩) (fun _ h => ?_) (fun hk_linealref03_Valid_k2 => ?_)
          · unfold linealref03_Valid_k2 at h
            refine AW.ops ?_
            obtain ⟨c10, h⟩ := ck_some.1 h
            refine AO.allF tab_ok (by decide) [(1, .bp 1 0), (16, .sl (.pair (.int .i64) (.int .i64)) l.2), (17, .int .i64 (l.2.length : Int)), (18, .int .i64 (st1 + 1))] [(1, .box 24 [.int .i64 l.1, .sl (.pair (.int .i64) (.int .i64)) l.2])] (by (simp only [go_sem, hb1, hb3, hb9]) <;> (repeat' with_reducible apply And.intro) <;> first | assumption | rfl | omega | (unfold maxLen; omega)) ?_
            obtain rfl := Option.some.inj h
            exact ⟨_, rfl, Wk.le [] [] [] rfl (by (simp only [go_sem, hb1, hb3, hb9]) <;> (repeat' with_reducible apply And.intro) <;> first | assumption | rfl | omega | (unfold maxLen; omega)) (by (simp only [go_sem, hb1, hb3, hb9]) <;> (repeat' with_reducible apply And.intro) <;> first | assumption | rfl | omega | (unfold maxLen; omega))⟩
          · refine AW.seq ?_
            refine AW.block ?_
            refine AW.seq ?_
            refine AW.ops ?_
            obtain ⟨c11, h⟩ := ck_some.1 h
            obtain ⟨c12, h⟩ := ck_some.1 h
            refine AO.allF tab_ok (by decide) [(1, .bp 1 0), (3, .int .i64 st1), (4, .bp 4 0), (16, .sl (.pair (.int .i64) (.int .i64)) l.2), (17, .int .i64 (l.2.length : Int)), (18, .int .i64 st1)] [(1, .box 24 [.int .i64 l.1, .sl (.pair (.int .i64) (.int .i64)) l.2]), (4, .box 56 [.int .i64 (l.2.getD st1.toNat (0, 0)).1, .int .i64 (l.2.getD st1.toNat (0, 0)).2])] (by (simp only [go_sem, hb1, hb3, hb9]) <;> (repeat' with_reducible apply And.intro) <;> first | assumption | rfl | omega | (unfold maxLen; omega)) ?_
            refine athen_n ?_
            refine AW.seq ?_
            refine AW.seq ?_
            refine AW.ops ?_
            refine AO.segF tab_ok 4 (by decide) [(1, .bp 1 0), (3, .int .i64 st1), (4, .bp 4 0), (16, .sl (.pair (.int .i64) (.int .i64)) l.2), (17, .int .i64 (l.2.length : Int)), (18, .int .i64 st1), (26, .bool (decide ((l.2.getD st1.toNat (0, 0)).1 < 0)))] [(1, .box 24 [.int .i64 l.1, .sl (.pair (.int .i64) (.int .i64)) l.2]), (4, .box 56 [.int .i64 (l.2.getD st1.toNat (0, 0)).1, .int .i64 (l.2.getD st1.toNat (0, 0)).2])] (by (simp only [go_sem, hb1, hb3, hb9]) <;> (repeat' with_reducible apply And.intro) <;> first | assumption | rfl | omega | (unfold maxLen; omega)) ?_
            rcases Bool.eq_false_or_eq_true (decide ((l.2.getD st1.toNat (0, 0)).1 < 0)) with hb13 | hb13
            · rw [if_pos hb13] at h
              refine AO.weaken (s' := ⟨fr [(1, .bp 1 0), (3, .int .i64 st1), (4, .bp 4 0), (16, .sl (.pair (.int .i64) (.int .i64)) l.2), (17, .int .i64 (l.2.length : Int)), (18, .int .i64 st1), (26, .bool true)], hpGet [(1, .box 24 [.int .i64 l.1, .sl (.pair (.int .i64) (.int .i64)) l.2]), (4, .box 56 [.int .i64 (l.2.getD st1.toNat (0, 0)).1, .int .i64 (l.2.getD st1.toNat (0, 0)).2])], gt⟩) (Wk.to (by (simp only [go_sem, hb1, hb3, hb9, hb13]) <;> (repeat' with_reducible apply And.intro) <;> first | assumption | rfl | omega | (unfold maxLen; omega))) ?_
              refine AO.segF tab_ok 6 (by decide) [(1, .bp 1 0), (3, .int .i64 st1), (4, .bp 4 0), (16, .sl (.pair (.int .i64) (.int .i64)) l.2), (17, .int .i64 (l.2.length : Int)), (18, .int .i64 st1), (31, .bool true), (32, .cv (undef))] [(1, .box 24 [.int .i64 l.1, .sl (.pair (.int .i64) (.int .i64)) l.2]), (4, .box 56 [.int .i64 (l.2.getD st1.toNat (0, 0)).1, .int .i64 (l.2.getD st1.toNat (0, 0)).2])] (by (simp only [go_sem, hb1, hb3, hb9, hb13]) <;> (repeat' with_reducible apply And.intro) <;> first | assumption | rfl | omega | (unfold maxLen; omega)) ?_
              refine AO.segF tab_ok 4 (by decide) [(1, .bp 1 0), (3, .int .i64 st1), (4, .bp 4 0), (16, .sl (.pair (.int .i64) (.int .i64)) l.2), (17, .int .i64 (l.2.length : Int)), (18, .int .i64 st1), (31, .bool true), (36, .cv (undef))] [(1, .box 24 [.int .i64 l.1, .sl (.pair (.int .i64) (.int .i64)) l.2]), (4, .box 56 [.int .i64 (l.2.getD st1.toNat (0, 0)).1, .int .i64 (l.2.getD st1.toNat (0, 0)).2])] (by (simp only [go_sem, hb1, hb3, hb9, hb13]) <;> (repeat' with_reducible apply And.intro) <;> first | assumption | rfl | omega | (unfold maxLen; omega)) ?_
              refine AO.segF tab_ok 6 (by decide) [(1, .bp 1 0), (3, .int .i64 st1), (4, .bp 4 0), (16, .sl (.pair (.int .i64) (.int .i64)) l.2), (17, .int .i64 (l.2.length : Int)), (18, .int .i64 st1), (38, .bool true), (40, .cv (undef)), (42, .cv (undef))] [(1, .box 24 [.int .i64 l.1, .sl (.pair (.int .i64) (.int .i64)) l.2]), (4, .box 56 [.int .i64 (l.2.getD st1.toNat (0, 0)).1, .int .i64 (l.2.getD st1.toNat (0, 0)).2])] (by (simp only [go_sem, hb1, hb3, hb9, hb13]) <;> (repeat' with_reducible apply And.intro) <;> first | assumption | rfl | omega | (unfold maxLen; omega)) ?_
              refine AO.segF tab_ok 6 (by decide) [(1, .bp 1 0), (3, .int .i64 st1), (4, .bp 4 0), (16, .sl (.pair (.int .i64) (.int .i64)) l.2), (17, .int .i64 (l.2.length : Int)), (18, .int .i64 st1), (45, .bool true), (47, .cv (undef)), (48, .cv (undef))] [(1, .box 24 [.int .i64 l.1, .sl (.pair (.int .i64) (.int .i64)) l.2]), (4, .box 56 [.int .i64 (l.2.getD st1.toNat (0, 0)).1, .int .i64 (l.2.getD st1.toNat (0, 0)).2])] (by (simp only [go_sem, hb1, hb3, hb9, hb13]) <;> (repeat' with_reducible apply And.intro) <;> first | assumption | rfl | omega | (unfold maxLen; omega)) ?_
              refine AO.allF tab_ok (by decide) [(1, .bp 1 0), (3, .int .i64 st1), (4, .bp 4 0), (16, .sl (.pair (.int .i64) (.int .i64)) l.2), (17, .int .i64 (l.2.length : Int)), (18, .int .i64 st1), (51, .bool true)] [(1, .box 24 [.int .i64 l.1, .sl (.pair (.int .i64) (.int .i64)) l.2]), (4, .box 56 [.int .i64 (l.2.getD st1.toNat (0, 0)).1, .int .i64 (l.2.getD st1.toNat (0, 0)).2])] (by (simp only [go_sem, hb1, hb3, hb9, hb13]) <;> (repeat' with_reducible apply And.intro) <;> first | assumption | rfl | omega | (unfold maxLen; omega)) ?_
              refine athen_n ?_
              refine AW.cond (b := true) rfl (fun _ => ?_) (fun hb14 => by cases hb14)
              refine AW.seq ?_
              refine AW.ops ?_
              refine AO.allF tab_ok (by decide) [(2, .bool false)] [] (by (simp only [go_sem, hb1, hb3, hb9, hb13]) <;> (repeat' with_reducible apply And.intro) <;> first | assumption | rfl | omega | (unfold maxLen; omega)) ?_
              refine athen_n ?_
              refine AW.ret ?_
              refine athen_r ?_
              refine ablock_r ?_
              refine athen_r ?_
              obtain rfl := Option.some.inj h
              rw [← hd6 _ rfl] at ho5
              have h := ho5
              try simp only at h
              refine athen_r ?_
              refine ablock_r ?_
              refine athen_r ?_
              obtain rfl := Option.some.inj h
              exact ⟨rfl, [], [], [], rfl, (by (simp only [go_sem, hb1, hb3, hb9, hb13]) <;> (repeat' with_reducible apply And.intro) <;> first | assumption | rfl | omega | (unfold maxLen; omega))⟩
            · rw [if_neg (Bool.eq_false_iff.1 hb13)] at h
              refine AO.weaken (s' := ⟨fr [(1, .bp 1 0), (3, .int .i64 st1), (4, .bp 4 0), (16, .sl (.pair (.int .i64) (.int .i64)) l.2), (17, .int .i64 (l.2.length : Int)), (18, .int .i64 st1), (26, .bool false)], hpGet [(1, .box 24 [.int .i64 l.1, .sl (.pair (.int .i64) (.int .i64)) l.2]), (4, .box 56 [.int .i64 (l.2.getD st1.toNat (0, 0)).1, .int .i64 (l.2.getD st1.toNat (0, 0)).2])], gt⟩) (Wk.to (by (simp only [go_sem, hb1, hb3, hb9, hb13]) <;> (repeat' with_reducible apply And.intro) <;> first | assumption | rfl | omega | (unfold maxLen; omega))) ?_
              refine AO.segF tab_ok 5 (by decide) [(1, .bp 1 0), (3, .int .i64 st1), (4, .bp 4 0), (16, .sl (.pair (.int .i64) (.int .i64)) l.2), (17, .int .i64 (l.2.length : Int)), (18, .int .i64 st1), (31, .bool (decide ((l.2.getD st1.toNat (0, 0)).2 < 0)))] [(1, .box 24 [.int .i64 l.1, .sl (.pair (.int .i64) (.int .i64)) l.2]), (4, .box 56 [.int .i64 (l.2.getD st1.toNat (0, 0)).1, .int .i64 (l.2.getD st1.toNat (0, 0)).2])] (by (simp only [go_sem, hb1, hb3, hb9, hb13]) <;> (repeat' with_reducible apply And.intro) <;> first | assumption | rfl | omega | (unfold maxLen; omega)) ?_
              rcases Bool.eq_false_or_eq_true (decide ((l.2.getD st1.toNat (0, 0)).2 < 0)) with hb15 | hb15
              · rw [if_pos hb15] at h
                refine AO.weaken (s' := ⟨fr [(1, .bp 1 0), (3, .int .i64 st1), (4, .bp 4 0), (16, .sl (.pair (.int .i64) (.int .i64)) l.2), (17, .int .i64 (l.2.length : Int)), (18, .int .i64 st1), (31, .bool true)], hpGet [(1, .box 24 [.int .i64 l.1, .sl (.pair (.int .i64) (.int .i64)) l.2]), (4, .box 56 [.int .i64 (l.2.getD st1.toNat (0, 0)).1, .int .i64 (l.2.getD st1.toNat (0, 0)).2])], gt⟩) (Wk.to (by (simp only [go_sem, hb1, hb3, hb9, hb13, hb15]) <;> (repeat' with_reducible apply And.intro) <;> first | assumption | rfl | omega | (unfold maxLen; omega))) ?_
                refine AO.segF tab_ok 4 (by decide) [(1, .bp 1 0), (3, .int .i64 st1), (4, .bp 4 0), (16, .sl (.pair (.int .i64) (.int .i64)) l.2), (17, .int .i64 (l.2.length : Int)), (18, .int .i64 st1), (31, .bool true), (33, .cv (undef)), (35, .cv (undef))] [(1, .box 24 [.int .i64 l.1, .sl (.pair (.int .i64) (.int .i64)) l.2]), (4, .box 56 [.int .i64 (l.2.getD st1.toNat (0, 0)).1, .int .i64 (l.2.getD st1.toNat (0, 0)).2])] (by (simp only [go_sem, hb1, hb3, hb9, hb13, hb15]) <;> (repeat' with_reducible apply And.intro) <;> first | assumption | rfl | omega | (unfold maxLen; omega)) ?_
                refine AO.segF tab_ok 6 (by decide) [(1, .bp 1 0), (3, .int .i64 st1), (4, .bp 4 0), (16, .sl (.pair (.int .i64) (.int .i64)) l.2), (17, .int .i64 (l.2.length : Int)), (18, .int .i64 st1), (38, .bool true), (40, .cv (undef)), (41, .cv (undef))] [(1, .box 24 [.int .i64 l.1, .sl (.pair (.int .i64) (.int .i64)) l.2]), (4, .box 56 [.int .i64 (l.2.getD st1.toNat (0, 0)).1, .int .i64 (l.2.getD st1.toNat (0, 0)).2])] (by (simp only [go_sem, hb1, hb3, hb9, hb13, hb15]) <;> (repeat' with_reducible apply And.intro) <;> first | assumption | rfl | omega | (unfold maxLen; omega)) ?_
                refine AO.segF tab_ok 6 (by decide) [(1, .bp 1 0), (3, .int .i64 st1), (4, .bp 4 0), (16, .sl (.pair (.int .i64) (.int .i64)) l.2), (17, .int .i64 (l.2.length : Int)), (18, .int .i64 st1), (45, .bool true), (47, .cv (undef))] [(1, .box 24 [.int .i64 l.1, .sl (.pair (.int .i64) (.int .i64)) l.2]), (4, .box 56 [.int .i64 (l.2.getD st1.toNat (0, 0)).1, .int .i64 (l.2.getD st1.toNat (0, 0)).2])] (by (simp only [go_sem, hb1, hb3, hb9, hb13, hb15]) <;> (repeat' with_reducible apply And.intro) <;> first | assumption | rfl | omega | (unfold maxLen; omega)) ?_
                refine AO.allF tab_ok (by decide) [(1, .bp 1 0), (3, .int .i64 st1), (4, .bp 4 0), (16, .sl (.pair (.int .i64) (.int .i64)) l.2), (17, .int .i64 (l.2.length : Int)), (18, .int .i64 st1), (51, .bool true)] [(1, .box 24 [.int .i64 l.1, .sl (.pair (.int .i64) (.int .i64)) l.2]), (4, .box 56 [.int .i64 (l.2.getD st1.toNat (0, 0)).1, .int .i64 (l.2.getD st1.toNat (0, 0)).2])] (by (simp only [go_sem, hb1, hb3, hb9, hb13, hb15]) <;> (repeat' with_reducible apply And.intro) <;> first | assumption | rfl | omega | (unfold maxLen; omega)) ?_
                refine athen_n ?_
                refine AW.cond (b := true) rfl (fun _ => ?_) (fun hb16 => by cases hb16)
                refine AW.seq ?_
                refine AW.ops ?_
                refine AO.allF tab_ok (by decide) [(2, .bool false)] [] (by (simp only [go_sem, hb1, hb3, hb9, hb13, hb15]) <;> (repeat' with_reducible apply And.intro) <;> first | assumption | rfl | omega | (unfold maxLen; omega)) ?_
                refine athen_n ?_
                refine AW.ret ?_
                refine athen_r ?_
                refine ablock_r ?_
                refine athen_r ?_
                obtain rfl := Option.some.inj h
                rw [← hd6 _ rfl] at ho5
                have h := ho5
                try simp only at h
                refine athen_r ?_
                refine ablock_r ?_
                refine athen_r ?_
                obtain rfl := Option.some.inj h
                exact ⟨rfl, [], [], [], rfl, (by (simp only [go_sem, hb1, hb3, hb9, hb13, hb15]) <;> (repeat' with_reducible apply And.intro) <;> first | assumption | rfl | omega | (unfold maxLen; omega))⟩
              · rw [if_neg (Bool.eq_false_iff.1 hb15)] at h
                refine AO.weaken (s' := ⟨fr [(1, .bp 1 0), (3, .int .i64 st1), (4, .bp 4 0), (16, .sl (.pair (.int .i64) (.int .i64)) l.2), (17, .int .i64 (l.2.length : Int)), (18, .int .i64 st1), (31, .bool false)], hpGet [(1, .box 24 [.int .i64 l.1, .sl (.pair (.int .i64) (.int .i64)) l.2]), (4, .box 56 [.int .i64 (l.2.getD st1.toNat (0, 0)).1, .int .i64 (l.2.getD st1.toNat (0, 0)).2])], gt⟩) (Wk.to (by (simp only [go_sem, hb1, hb3, hb9, hb13, hb15]) <;> (repeat' with_reducible apply And.intro) <;> first | assumption | rfl | omega | (unfold maxLen; omega))) ?_
                refine AO.segF tab_ok 7 (by decide) [(1, .bp 1 0), (3, .int .i64 st1), (4, .bp 4 0), (16, .sl (.pair (.int .i64) (.int .i64)) l.2), (17, .int .i64 (l.2.length : Int)), (18, .int .i64 st1), (38, .bool (decide (l.1 ≤ (l.2.getD st1.toNat (0, 0)).1)))] [(1, .box 24 [.int .i64 l.1, .sl (.pair (.int .i64) (.int .i64)) l.2]), (4, .box 56 [.int .i64 (l.2.getD st1.toNat (0, 0)).1, .int .i64 (l.2.getD st1.toNat (0, 0)).2])] (by (simp only [go_sem, hb1, hb3, hb9, hb13, hb15]) <;> (repeat' with_reducible apply And.intro) <;> first | assumption | rfl | omega | (unfold maxLen; omega)) ?_
                rcases Bool.eq_false_or_eq_true (decide (l.1 ≤ (l.2.getD st1.toNat (0, 0)).1)) with hb17 | hb17
                · rw [if_pos hb17] at h
                  refine AO.weaken (s' := ⟨fr [(1, .bp 1 0), (3, .int .i64 st1), (4, .bp 4 0), (16, .sl (.pair (.int .i64) (.int .i64)) l.2), (17, .int .i64 (l.2.length : Int)), (18, .int .i64 st1), (38, .bool true)], hpGet [(1, .box 24 [.int .i64 l.1, .sl (.pair (.int .i64) (.int .i64)) l.2]), (4, .box 56 [.int .i64 (l.2.getD st1.toNat (0, 0)).1, .int .i64 (l.2.getD st1.toNat (0, 0)).2])], gt⟩) (Wk.to (by (simp only [go_sem, hb1, hb3, hb9, hb13, hb15, hb17]) <;> (repeat' with_reducible apply And.intro) <;> first | assumption | rfl | omega | (unfold maxLen; omega))) ?_
                  refine AO.segF tab_ok 4 (by decide) [(1, .bp 1 0), (3, .int .i64 st1), (4, .bp 4 0), (16, .sl (.pair (.int .i64) (.int .i64)) l.2), (17, .int .i64 (l.2.length : Int)), (18, .int .i64 st1), (38, .bool true), (40, .cv (undef)), (42, .cv (undef))] [(1, .box 24 [.int .i64 l.1, .sl (.pair (.int .i64) (.int .i64)) l.2]), (4, .box 56 [.int .i64 (l.2.getD st1.toNat (0, 0)).1, .int .i64 (l.2.getD st1.toNat (0, 0)).2])] (by (simp only [go_sem, hb1, hb3, hb9, hb13, hb15, hb17]) <;> (repeat' with_reducible apply And.intro) <;> first | assumption | rfl | omega | (unfold maxLen; omega)) ?_
                  refine AO.segF tab_ok 6 (by decide) [(1, .bp 1 0), (3, .int .i64 st1), (4, .bp 4 0), (16, .sl (.pair (.int .i64) (.int .i64)) l.2), (17, .int .i64 (l.2.length : Int)), (18, .int .i64 st1), (45, .bool true), (47, .cv (undef)), (48, .cv (undef))] [(1, .box 24 [.int .i64 l.1, .sl (.pair (.int .i64) (.int .i64)) l.2]), (4, .box 56 [.int .i64 (l.2.getD st1.toNat (0, 0)).1, .int .i64 (l.2.getD st1.toNat (0, 0)).2])] (by (simp only [go_sem, hb1, hb3, hb9, hb13, hb15, hb17]) <;> (repeat' with_reducible apply And.intro) <;> first | assumption | rfl | omega | (unfold maxLen; omega)) ?_
                  refine AO.allF tab_ok (by decide) [(1, .bp 1 0), (3, .int .i64 st1), (4, .bp 4 0), (16, .sl (.pair (.int .i64) (.int .i64)) l.2), (17, .int .i64 (l.2.length : Int)), (18, .int .i64 st1), (51, .bool true)] [(1, .box 24 [.int .i64 l.1, .sl (.pair (.int .i64) (.int .i64)) l.2]), (4, .box 56 [.int .i64 (l.2.getD st1.toNat (0, 0)).1, .int .i64 (l.2.getD st1.toNat (0, 0)).2])] (by (simp only [go_sem, hb1, hb3, hb9, hb13, hb15, hb17]) <;> (repeat' with_reducible apply And.intro) <;> first | assumption | rfl | omega | (unfold maxLen; omega)) ?_
                  refine athen_n ?_
                  refine AW.cond (b := true) rfl (fun _ => ?_) (fun hb18 => by cases hb18)
                  refine AW.seq ?_
                  refine AW.ops ?_
                  refine AO.allF tab_ok (by decide) [(2, .bool false)] [] (by (simp only [go_sem, hb1, hb3, hb9, hb13, hb15, hb17]) <;> (repeat' with_reducible apply And.intro) <;> first | assumption | rfl | omega | (unfold maxLen; omega)) ?_
                  refine athen_n ?_
                  refine AW.ret ?_
                  refine athen_r ?_
                  refine ablock_r ?_
                  refine athen_r ?_
                  obtain rfl := Option.some.inj h
                  rw [← hd6 _ rfl] at ho5
                  have h := ho5
                  try simp only at h
                  refine athen_r ?_
                  refine ablock_r ?_
                  refine athen_r ?_
                  obtain rfl := Option.some.inj h
                  exact ⟨rfl, [], [], [], rfl, (by (simp only [go_sem, hb1, hb3, hb9, hb13, hb15, hb17]) <;> (repeat' with_reducible apply And.intro) <;> first | assumption | rfl | omega | (unfold maxLen; omega))⟩
                · rw [if_neg (Bool.eq_false_iff.1 hb17)] at h
                  refine AO.weaken (s' := ⟨fr [(1, .bp 1 0), (3, .int .i64 st1), (4, .bp 4 0), (16, .sl (.pair (.int .i64) (.int .i64)) l.2), (17, .int .i64 (l.2.length : Int)), (18, .int .i64 st1), (38, .bool false)], hpGet [(1, .box 24 [.int .i64 l.1, .sl (.pair (.int .i64) (.int .i64)) l.2]), (4, .box 56 [.int .i64 (l.2.getD st1.toNat (0, 0)).1, .int .i64 (l.2.getD st1.toNat (0, 0)).2])], gt⟩) (Wk.to (by (simp only [go_sem, hb1, hb3, hb9, hb13, hb15, hb17]) <;> (repeat' with_reducible apply And.intro) <;> first | assumption | rfl | omega | (unfold maxLen; omega))) ?_
                  refine AO.segF tab_ok 7 (by decide) [(1, .bp 1 0), (3, .int .i64 st1), (4, .bp 4 0), (16, .sl (.pair (.int .i64) (.int .i64)) l.2), (17, .int .i64 (l.2.length : Int)), (18, .int .i64 st1), (45, .bool (decide (l.1 ≤ (l.2.getD st1.toNat (0, 0)).2)))] [(1, .box 24 [.int .i64 l.1, .sl (.pair (.int .i64) (.int .i64)) l.2]), (4, .box 56 [.int .i64 (l.2.getD st1.toNat (0, 0)).1, .int .i64 (l.2.getD st1.toNat (0, 0)).2])] (by (simp only [go_sem, hb1, hb3, hb9, hb13, hb15, hb17]) <;> (repeat' with_reducible apply And.intro) <;> first | assumption | rfl | omega | (unfold maxLen; omega)) ?_
                  rcases Bool.eq_false_or_eq_true (decide (l.1 ≤ (l.2.getD st1.toNat (0, 0)).2)) with hb19 | hb19
                  · rw [if_pos hb19] at h
                    refine AO.weaken (s' := ⟨fr [(1, .bp 1 0), (3, .int .i64 st1), (4, .bp 4 0), (16, .sl (.pair (.int .i64) (.int .i64)) l.2), (17, .int .i64 (l.2.length : Int)), (18, .int .i64 st1), (45, .bool true)], hpGet [(1, .box 24 [.int .i64 l.1, .sl (.pair (.int .i64) (.int .i64)) l.2]), (4, .box 56 [.int .i64 (l.2.getD st1.toNat (0, 0)).1, .int .i64 (l.2.getD st1.toNat (0, 0)).2])], gt⟩) (Wk.to (by (simp only [go_sem, hb1, hb3, hb9, hb13, hb15, hb17, hb19]) <;> (repeat' with_reducible apply And.intro) <;> first | assumption | rfl | omega | (unfold maxLen; omega))) ?_
                    refine AO.segF tab_ok 4 (by decide) [(1, .bp 1 0), (3, .int .i64 st1), (4, .bp 4 0), (16, .sl (.pair (.int .i64) (.int .i64)) l.2), (17, .int .i64 (l.2.length : Int)), (18, .int .i64 st1), (45, .bool true), (47, .cv (undef)), (49, .cv (undef))] [(1, .box 24 [.int .i64 l.1, .sl (.pair (.int .i64) (.int .i64)) l.2]), (4, .box 56 [.int .i64 (l.2.getD st1.toNat (0, 0)).1, .int .i64 (l.2.getD st1.toNat (0, 0)).2])] (by (simp only [go_sem, hb1, hb3, hb9, hb13, hb15, hb17, hb19]) <;> (repeat' with_reducible apply And.intro) <;> first | assumption | rfl | omega | (unfold maxLen; omega)) ?_
                    refine AO.allF tab_ok (by decide) [(1, .bp 1 0), (3, .int .i64 st1), (4, .bp 4 0), (16, .sl (.pair (.int .i64) (.int .i64)) l.2), (17, .int .i64 (l.2.length : Int)), (18, .int .i64 st1), (51, .bool true)] [(1, .box 24 [.int .i64 l.1, .sl (.pair (.int .i64) (.int .i64)) l.2]), (4, .box 56 [.int .i64 (l.2.getD st1.toNat (0, 0)).1, .int .i64 (l.2.getD st1.toNat (0, 0)).2])] (by (simp only [go_sem, hb1, hb3, hb9, hb13, hb15, hb17, hb19]) <;> (repeat' with_reducible apply And.intro) <;> first | assumption | rfl | omega | (unfold maxLen; omega)) ?_
                    refine athen_n ?_
                    refine AW.cond (b := true) rfl (fun _ => ?_) (fun hb20 => by cases hb20)
                    refine AW.seq ?_
                    refine AW.ops ?_
                    refine AO.allF tab_ok (by decide) [(2, .bool false)] [] (by (simp only [go_sem, hb1, hb3, hb9, hb13, hb15, hb17, hb19]) <;> (repeat' with_reducible apply And.intro) <;> first | assumption | rfl | omega | (unfold maxLen; omega)) ?_
                    refine athen_n ?_
                    refine AW.ret ?_
                    refine athen_r ?_
                    refine ablock_r ?_
                    refine athen_r ?_
                    obtain rfl := Option.some.inj h
                    rw [← hd6 _ rfl] at ho5
                    have h := ho5
                    try simp only at h
                    refine athen_r ?_
                    refine ablock_r ?_
                    refine athen_r ?_
                    obtain rfl := Option.some.inj h
                    exact ⟨rfl, [], [], [], rfl, (by (simp only [go_sem, hb1, hb3, hb9, hb13, hb15, hb17, hb19]) <;> (repeat' with_reducible apply And.intro) <;> first | assumption | rfl | omega | (unfold maxLen; omega))⟩
                  · rw [if_neg (Bool.eq_false_iff.1 hb19)] at h
                    refine AO.weaken (s' := ⟨fr [(1, .bp 1 0), (3, .int .i64 st1), (4, .bp 4 0), (16, .sl (.pair (.int .i64) (.int .i64)) l.2), (17, .int .i64 (l.2.length : Int)), (18, .int .i64 st1), (45, .bool false)], hpGet [(1, .box 24 [.int .i64 l.1, .sl (.pair (.int .i64) (.int .i64)) l.2]), (4, .box 56 [.int .i64 (l.2.getD st1.toNat (0, 0)).1, .int .i64 (l.2.getD st1.toNat (0, 0)).2])], gt⟩) (Wk.to (by (simp only [go_sem, hb1, hb3, hb9, hb13, hb15, hb17, hb19]) <;> (repeat' with_reducible apply And.intro) <;> first | assumption | rfl | omega | (unfold maxLen; omega))) ?_
                    refine AO.allF tab_ok (by decide) [(1, .bp 1 0), (3, .int .i64 st1), (4, .bp 4 0), (16, .sl (.pair (.int .i64) (.int .i64)) l.2), (17, .int .i64 (l.2.length : Int)), (18, .int .i64 st1), (51, .bool (decide ((l.2.getD st1.toNat (0, 0)).2 ≤ (l.2.getD st1.toNat (0, 0)).1)))] [(1, .box 24 [.int .i64 l.1, .sl (.pair (.int .i64) (.int .i64)) l.2]), (4, .box 56 [.int .i64 (l.2.getD st1.toNat (0, 0)).1, .int .i64 (l.2.getD st1.toNat (0, 0)).2])] (by (simp only [go_sem, hb1, hb3, hb9, hb13, hb15, hb17, hb19]) <;> (repeat' with_reducible apply And.intro) <;> first | assumption | rfl | omega | (unfold maxLen; omega)) ?_
                    refine athen_n ?_
                    refine AW.cond (b := (decide ((l.2.getD st1.toNat (0, 0)).2 ≤ (l.2.getD st1.toNat (0, 0)).1))) rfl (fun hb21 => ?_) (fun hb21 => ?_)
                    · rw [if_pos hb21] at h
                      refine AW.seq ?_
                      refine AW.ops ?_
                      refine AO.allF tab_ok (by decide) [(2, .bool false)] [] (by (simp only [go_sem, hb1, hb3, hb9, hb13, hb15, hb17, hb19, hb21]) <;> (repeat' with_reducible apply And.intro) <;> first | assumption | rfl | omega | (unfold maxLen; omega)) ?_
                      refine athen_n ?_
                      refine AW.ret ?_
                      refine athen_r ?_
                      refine ablock_r ?_
                      refine athen_r ?_
                      obtain rfl := Option.some.inj h
                      rw [← hd6 _ rfl] at ho5
                      have h := ho5
                      try simp only at h
                      refine athen_r ?_
                      refine ablock_r ?_
                      refine athen_r ?_
                      obtain rfl := Option.some.inj h
                      exact ⟨rfl, [], [], [], rfl, (by (simp only [go_sem, hb1, hb3, hb9, hb13, hb15, hb17, hb19, hb21]) <;> (repeat' with_reducible apply And.intro) <;> first | assumption | rfl | omega | (unfold maxLen; omega))⟩
                    · rw [if_neg (Bool.eq_false_iff.1 hb21)] at h
                      refine AW.skip ?_
                      refine athen_n ?_
                      refine AW.seq ?_
                      refine AW.ops ?_
                      obtain ⟨c22, h⟩ := ck_some.1 h
                      obtain ⟨c23, h⟩ := ck_some.1 h
                      refine AO.allF tab_ok (by decide) [(1, .bp 1 0), (4, .bp 4 0), (16, .sl (.pair (.int .i64) (.int .i64)) l.2), (17, .int .i64 (l.2.length : Int)), (18, .int .i64 st1), (55, .sl (.pair (.int .i64) (.int .i64)) (l.2.take st1.toNat)), (56, .int .i64 ((l.2.take st1.toNat).length : Int)), (57, .int .i64 0)] [(1, .box 24 [.int .i64 l.1, .sl (.pair (.int .i64) (.int .i64)) l.2]), (4, .box 56 [.int .i64 (l.2.getD st1.toNat (0, 0)).1, .int .i64 (l.2.getD st1.toNat (0, 0)).2])] (by (simp only [go_sem, hb1, hb3, hb9, hb13, hb15, hb17, hb19, hb21]) <;> (repeat' with_reducible apply And.intro) <;> first | assumption | rfl | omega | (unfold maxLen; omega)) ?_
                      refine athen_n ?_
                      refine AW.block ?_
                      obtain ⟨rv28, hw24, ho25⟩ := Option.bind_eq_some_iff.1 h
                      refine AW.loopO (linealref03_Valid_b2 l st1) (fun st2 => ⟨fr [(1, .bp 1 0), (4, .bp 4 0), (16, .sl (.pair (.int .i64) (.int .i64)) l.2), (17, .int .i64 (l.2.length : Int)), (18, .int .i64 st1), (55, .sl (.pair (.int .i64) (.int .i64)) (l.2.take st1.toNat)), (56, .int .i64 ((l.2.take st1.toNat).length : Int)), (57, .int .i64 st2)], hpGet [(1, .box 24 [.int .i64 l.1, .sl (.pair (.int .i64) (.int .i64)) l.2]), (4, .box 56 [.int .i64 (l.2.getD st1.toNat (0, 0)).1, .int .i64 (l.2.getD st1.toNat (0, 0)).2])], gt⟩) 0 hw24 (Wk.le [] [] [] rfl (by (simp only [go_sem, hb1, hb3, hb9, hb13, hb15, hb17, hb19, hb21]) <;> (repeat' with_reducible apply And.intro) <;> first | assumption | rfl | omega | (unfold maxLen; omega)) (by (simp only [go_sem, hb1, hb3, hb9, hb13, hb15, hb17, hb19, hb21]) <;> (repeat' with_reducible apply And.intro) <;> first | assumption | rfl | omega | (unfold maxLen; omega))) ?_
                      intro st2 x27 h hd26
                      unfold linealref03_Valid_b2 at h
                      refine AW.seq ?_
                      refine AW.ops ?_
                      refine AO.allF tab_ok (by decide) [(1, .bp 1 0), (4, .bp 4 0), (16, .sl (.pair (.int .i64) (.int .i64)) l.2), (17, .int .i64 (l.2.length : Int)), (18, .int .i64 st1), (55, .sl (.pair (.int .i64) (.int .i64)) (l.2.take st1.toNat)), (56, .int .i64 ((l.2.take st1.toNat).length : Int)), (57, .int .i64 st2), (58, .bool (decide (st2 < ((l.2.take st1.toNat).length : Int))))] [(1, .box 24 [.int .i64 l.1, .sl (.pair (.int .i64) (.int .i64)) l.2]), (4, .box 56 [.int .i64 (l.2.getD st1.toNat (0, 0)).1, .int .i64 (l.2.getD st1.toNat (0, 0)).2])] (by (simp only [go_sem, hb1, hb3, hb9, hb13, hb15, hb17, hb19, hb21]) <;> (repeat' with_reducible apply And.intro) <;> first | assumption | rfl | omega | (unfold maxLen; omega)) ?_
                      refine athen_n ?_
                      refine AW.seq ?_
                      refine AW.cond (b := (decide (st2 < ((l.2.take st1.toNat).length : Int)))) rfl (fun hb29 => ?_) (fun hb29 => ?_)
                      · rw [if_pos hb29] at h
                        refine AW.skip ?_
                        refine athen_n ?_
                        refine AW.seq ?_
                        refine AW.block ?_
                        refine AW.seq ?_
                        refine AW.ops ?_
                        obtain ⟨c30, h⟩ := ck_some.1 h
                        obtain ⟨c31, h⟩ := ck_some.1 h
                        refine AO.allF tab_ok (by decide) [(1, .bp 1 0), (4, .bp 4 0), (6, .bp 6 0), (16, .sl (.pair (.int .i64) (.int .i64)) l.2), (17, .int .i64 (l.2.length : Int)), (18, .int .i64 st1), (55, .sl (.pair (.int .i64) (.int .i64)) (l.2.take st1.toNat)), (56, .int .i64 ((l.2.take st1.toNat).length : Int)), (57, .int .i64 st2)] [(1, .box 24 [.int .i64 l.1, .sl (.pair (.int .i64) (.int .i64)) l.2]), (4, .box 56 [.int .i64 (l.2.getD st1.toNat (0, 0)).1, .int .i64 (l.2.getD st1.toNat (0, 0)).2]), (6, .box 56 [.int .i64 ((l.2.take st1.toNat).getD st2.toNat (0, 0)).1, .int .i64 ((l.2.take st1.toNat).getD st2.toNat (0, 0)).2])] (by (simp only [go_sem, hb1, hb3, hb9, hb13, hb15, hb17, hb19, hb21, hb29]) <;> (repeat' with_reducible apply And.intro) <;> first | assumption | rfl | omega | (unfold maxLen; omega)) ?_
                        refine athen_n ?_
                        refine AW.seq ?_
                        refine AW.ops ?_
                        refine AO.segF tab_ok 2 (by decide) [(1, .bp 1 0), (4, .bp 4 0), (16, .sl (.pair (.int .i64) (.int .i64)) l.2), (17, .int .i64 (l.2.length : Int)), (18, .int .i64 st1), (55, .sl (.pair (.int .i64) (.int .i64)) (l.2.take st1.toNat)), (56, .int .i64 ((l.2.take st1.toNat).length : Int)), (57, .int .i64 st2), (61, .agg [.int .i64 (l.2.getD st1.toNat (0, 0)).1, .int .i64 (l.2.getD st1.toNat (0, 0)).2]), (62, .agg [.int .i64 ((l.2.take st1.toNat).getD st2.toNat (0, 0)).1, .int .i64 ((l.2.take st1.toNat).getD st2.toNat (0, 0)).2])] [(1, .box 24 [.int .i64 l.1, .sl (.pair (.int .i64) (.int .i64)) l.2]), (4, .box 56 [.int .i64 (l.2.getD st1.toNat (0, 0)).1, .int .i64 (l.2.getD st1.toNat (0, 0)).2])] (by (simp only [go_sem, hb1, hb3, hb9, hb13, hb15, hb17, hb19, hb21, hb29]) <;> (repeat' with_reducible apply And.intro) <;> first | assumption | rfl | omega | (unfold maxLen; omega)) ?_
                        obtain ⟨c32, h⟩ := ck_some.1 h
                        obtain ⟨c33, h⟩ := ck_some.1 h
                        obtain ⟨c34, h⟩ := ck_some.1 h
                        obtain ⟨c35, h⟩ := ck_some.1 h
                        refine AO.aggEq (neg := false) eqty_56 (by decide) rfl rfl (lx := [.int .i64 (l.2.getD st1.toNat (0, 0)).1, .int .i64 (l.2.getD st1.toNat (0, 0)).2]) (ly := [.int .i64 ((l.2.take st1.toNat).getD st2.toNat (0, 0)).1, .int .i64 ((l.2.take st1.toNat).getD st2.toNat (0, 0)).2]) (by first | rfl | (simp only [go_sem, hb1, hb3, hb9, hb13, hb15, hb17, hb19, hb21, hb29]) <;> (repeat' with_reducible apply And.intro) <;> first | assumption | rfl | omega | (unfold maxLen; omega)) (by first | rfl | (simp only [go_sem, hb1, hb3, hb9, hb13, hb15, hb17, hb19, hb21, hb29]) <;> (repeat' with_reducible apply And.intro) <;> first | assumption | rfl | omega | (unfold maxLen; omega)) (by first | rfl | (simp only [go_sem, hb1, hb3, hb9, hb13, hb15, hb17, hb19, hb21, hb29]) <;> (repeat' with_reducible apply And.intro) <;> first | assumption | rfl | omega | (unfold maxLen; omega)) (by first | rfl | (simp only [go_sem, hb1, hb3, hb9, hb13, hb15, hb17, hb19, hb21, hb29]) <;> (repeat' with_reducible apply And.intro) <;> first | assumption | rfl | omega | (unfold maxLen; omega)) (by first | assumption | omega | (simp only [go_sem, hb1, hb3, hb9, hb13, hb15, hb17, hb19, hb21, hb29]) <;> (repeat' with_reducible apply And.intro) <;> first | assumption | rfl | omega | (unfold maxLen; omega)) (by first | assumption | omega | (simp only [go_sem, hb1, hb3, hb9, hb13, hb15, hb17, hb19, hb21, hb29]) <;> (repeat' with_reducible apply And.intro) <;> first | assumption | rfl | omega | (unfold maxLen; omega)) ?_
                        refine AO.weaken (s' := ⟨fr [(1, .bp 1 0), (4, .bp 4 0), (16, .sl (.pair (.int .i64) (.int .i64)) l.2), (17, .int .i64 (l.2.length : Int)), (18, .int .i64 st1), (55, .sl (.pair (.int .i64) (.int .i64)) (l.2.take st1.toNat)), (56, .int .i64 ((l.2.take st1.toNat).length : Int)), (57, .int .i64 st2), (63, .bool (decide ((l.2.getD st1.toNat (0, 0)) = ((l.2.take st1.toNat).getD st2.toNat (0, 0)))))], hpGet [(1, .box 24 [.int .i64 l.1, .sl (.pair (.int .i64) (.int .i64)) l.2]), (4, .box 56 [.int .i64 (l.2.getD st1.toNat (0, 0)).1, .int .i64 (l.2.getD st1.toNat (0, 0)).2])], gt⟩) (Wk.to (by (simp only [go_sem, hb1, hb3, hb9, hb13, hb15, hb17, hb19, hb21, hb29]) <;> (repeat' with_reducible apply And.intro) <;> first | assumption | rfl | omega | (unfold maxLen; omega))) ?_
                        refine AO.allF tab_ok (by decide) [(1, .bp 1 0), (4, .bp 4 0), (16, .sl (.pair (.int .i64) (.int .i64)) l.2), (17, .int .i64 (l.2.length : Int)), (18, .int .i64 st1), (55, .sl (.pair (.int .i64) (.int .i64)) (l.2.take st1.toNat)), (56, .int .i64 ((l.2.take st1.toNat).length : Int)), (57, .int .i64 st2), (63, .bool (decide ((l.2.getD st1.toNat (0, 0)) = ((l.2.take st1.toNat).getD st2.toNat (0, 0)))))] [(1, .box 24 [.int .i64 l.1, .sl (.pair (.int .i64) (.int .i64)) l.2]), (4, .box 56 [.int .i64 (l.2.getD st1.toNat (0, 0)).1, .int .i64 (l.2.getD st1.toNat (0, 0)).2])] (by (simp only [go_sem, hb1, hb3, hb9, hb13, hb15, hb17, hb19, hb21, hb29]) <;> (repeat' with_reducible apply And.intro) <;> first | assumption | rfl | omega | (unfold maxLen; omega)) ?_
                        refine athen_n ?_
                        refine AW.cond (b := (decide ((l.2.getD st1.toNat (0, 0)) = ((l.2.take st1.toNat).getD st2.toNat (0, 0))))) rfl (fun hb36 => ?_) (fun hb36 => ?_)
                        · rw [if_pos hb36] at h
                          refine AW.seq ?_
                          refine AW.ops ?_
                          refine AO.allF tab_ok (by decide) [(2, .bool false)] [] (by (simp only [go_sem, hb1, hb3, hb9, hb13, hb15, hb17, hb19, hb21, hb29, hb36]) <;> (repeat' with_reducible apply And.intro) <;> first | assumption | rfl | omega | (unfold maxLen; omega)) ?_
                          refine athen_n ?_
                          refine AW.ret ?_
                          refine ablock_r ?_
                          refine athen_r ?_
                          obtain rfl := Option.some.inj h
                          rw [← hd26 _ rfl] at ho25
                          have h := ho25
                          try simp only at h
                          refine athen_r ?_
                          refine ablock_r ?_
                          refine ablock_r ?_
                          refine athen_r ?_
                          obtain rfl := Option.some.inj h
                          rw [← hd6 _ rfl] at ho5
                          have h := ho5
                          try simp only at h
                          refine athen_r ?_
                          refine ablock_r ?_
                          refine athen_r ?_
                          obtain rfl := Option.some.inj h
                          exact ⟨rfl, [], [], [], rfl, (by (simp only [go_sem, hb1, hb3, hb9, hb13, hb15, hb17, hb19, hb21, hb29, hb36]) <;> (repeat' with_reducible apply And.intro) <;> first | assumption | rfl | omega | (unfold maxLen; omega))⟩
                        · rw [if_neg (Bool.eq_false_iff.1 hb36)] at h
                          refine AW.skip ?_
                          refine ablock_n ?_
                          refine athen_n ?_
                          refine AW.ops ?_
                          obtain ⟨c37, h⟩ := ck_some.1 h
                          refine AO.allF tab_ok (by decide) [(1, .bp 1 0), (4, .bp 4 0), (16, .sl (.pair (.int .i64) (.int .i64)) l.2), (17, .int .i64 (l.2.length : Int)), (18, .int .i64 st1), (55, .sl (.pair (.int .i64) (.int .i64)) (l.2.take st1.toNat)), (56, .int .i64 ((l.2.take st1.toNat).length : Int)), (57, .int .i64 (st2 + 1))] [(1, .box 24 [.int .i64 l.1, .sl (.pair (.int .i64) (.int .i64)) l.2]), (4, .box 56 [.int .i64 (l.2.getD st1.toNat (0, 0)).1, .int .i64 (l.2.getD st1.toNat (0, 0)).2])] (by (simp only [go_sem, hb1, hb3, hb9, hb13, hb15, hb17, hb19, hb21, hb29, hb36]) <;> (repeat' with_reducible apply And.intro) <;> first | assumption | rfl | omega | (unfold maxLen; omega)) ?_
                          obtain rfl := Option.some.inj h
                          exact ⟨_, rfl, Wk.le [] [] [] rfl (by (simp only [go_sem, hb1, hb3, hb9, hb13, hb15, hb17, hb19, hb21, hb29, hb36]) <;> (repeat' with_reducible apply And.intro) <;> first | assumption | rfl | omega | (unfold maxLen; omega)) (by (simp only [go_sem, hb1, hb3, hb9, hb13, hb15, hb17, hb19, hb21, hb29, hb36]) <;> (repeat' with_reducible apply And.intro) <;> first | assumption | rfl | omega | (unfold maxLen; omega))⟩
                      · rw [if_neg (Bool.eq_false_iff.1 hb29)] at h
                        refine AW.exit ?_
                        refine athen_e ?_
                        obtain rfl := Option.some.inj h
                        rw [← hd26 _ rfl] at ho25
                        have h := ho25
                        try simp only at h
                        refine athen_e ?_
                        refine ablock_s ?_
                        refine ablock_n ?_
                        refine athen_n ?_
                        exact AW.weaken (Wk.le [] [] [] rfl (by (simp only [go_sem, hb1, hb3, hb9, hb13, hb15, hb17, hb19, hb21, hb29]) <;> (repeat' with_reducible apply And.intro) <;> first | assumption | rfl | omega | (unfold maxLen; omega)) (by (simp only [go_sem, hb1, hb3, hb9, hb13, hb15, hb17, hb19, hb21, hb29]) <;> (repeat' with_reducible apply And.intro) <;> first | assumption | rfl | omega | (unfold maxLen; omega))) (hk_linealref03_Valid_k2 () h)
        · rw [if_neg (Bool.eq_false_iff.1 hb9)] at h
          refine AW.exit ?_
          refine athen_e ?_
          obtain rfl := Option.some.inj h
          rw [← hd6 _ rfl] at ho5
          have h := ho5
          try simp only at h
          refine athen_e ?_
          refine ablock_s ?_
          refine athen_n ?_
          exact AW.weaken (Wk.le [] [] [] rfl (by (simp only [go_sem, hb1, hb3, hb9]) <;> (repeat' with_reducible apply And.intro) <;> first | assumption | rfl | omega | (unfold maxLen; omega)) (by (simp only [go_sem, hb1, hb3, hb9]) <;> (repeat' with_reducible apply And.intro) <;> first | assumption | rfl | omega | (unfold maxLen; omega))) (hk_linealref03_Valid_k1 () h)

set_option maxRecDepth 100000 in
set_option maxHeartbeats 2000000 in
theorem hc_linealref03_IsLetter (l : Int × (List (Int × Int))) (a : Int) {r : Bool} (h : linealref03_IsLetter l a = some r) : HC Try.prog 61 [] [.agg [.int .i64 l.1, .sl (.pair (.int .i64) (.int .i64)) l.2], .int .i64 a] [] (.bool r) := by
  unfold linealref03_IsLetter at h
  refine HC.of_body tab_ok (res := [.tmp 4]) Try.func61 rfl (by kernel_rfl) rfl (nt := 13) rfl (by decide) (by simp) ?_
  refine AW.seq ?_
  refine AW.ops ?_
  refine AO.allF tab_ok (by decide) [(1, .int .i64 a), (2, .bp 2 0)] [(2, .box 24 [.int .i64 l.1, .sl (.pair (.int .i64) (.int .i64)) l.2])] (by (simp only [go_sem]) <;> (repeat' with_reducible apply And.intro) <;> first | assumption | rfl | omega | (unfold maxLen; omega)) ?_
  refine athen_n ?_
  refine AW.seq ?_
  refine AW.ops ?_
  refine AO.segF tab_ok 3 (by decide) [(1, .int .i64 a), (2, .bp 2 0), (7, .bool (decide (0 ≤ a)))] [(2, .box 24 [.int .i64 l.1, .sl (.pair (.int .i64) (.int .i64)) l.2])] (by (simp only [go_sem]) <;> (repeat' with_reducible apply And.intro) <;> first | assumption | rfl | omega | (unfold maxLen; omega)) ?_
  rcases Bool.eq_false_or_eq_true (decide (0 ≤ a)) with hb1 | hb1
  · rw [if_pos hb1] at h
    refine AO.weaken (s' := ⟨fr [(1, .int .i64 a), (2, .bp 2 0), (7, .bool true)], hpGet [(2, .box 24 [.int .i64 l.1, .sl (.pair (.int .i64) (.int .i64)) l.2])], gt⟩) (Wk.to (by (simp only [go_sem, hb1]) <;> (repeat' with_reducible apply And.intro) <;> first | assumption | rfl | omega | (unfold maxLen; omega))) ?_
    refine AO.allF tab_ok (by decide) [(4, .bool (decide (a < l.1)))] [] (by (simp only [go_sem, hb1]) <;> (repeat' with_reducible apply And.intro) <;> first | assumption | rfl | omega | (unfold maxLen; omega)) ?_
    refine athen_n ?_
    refine AW.ret ?_
    obtain rfl := Option.some.inj h
    exact ⟨rfl, [], [], [], rfl, (by (simp only [go_sem, hb1]) <;> (repeat' with_reducible apply And.intro) <;> first | assumption | rfl | omega | (unfold maxLen; omega))⟩
  · rw [if_neg (Bool.eq_false_iff.1 hb1)] at h
    refine AO.weaken (s' := ⟨fr [(1, .int .i64 a), (2, .bp 2 0), (7, .bool false)], hpGet [(2, .box 24 [.int .i64 l.1, .sl (.pair (.int .i64) (.int .i64)) l.2])], gt⟩) (Wk.to (by (simp only [go_sem, hb1]) <;> (repeat' with_reducible apply And.intro) <;> first | assumption | rfl | omega | (unfold maxLen; omega))) ?_
    refine AO.segF tab_ok 4 (by decide) [(7, .bool false), (11, .cv (undef))] [] (by (simp only [go_sem, hb1]) <;> (repeat' with_reducible apply And.intro) <;> first | assumption | rfl | omega | (unfold maxLen; omega)) ?_
    refine AO.allF tab_ok (by decide) [(4, .bool false)] [] (by (simp only [go_sem, hb1]) <;> (repeat' with_reducible apply And.intro) <;> first | assumption | rfl | omega | (unfold maxLen; omega)) ?_
    refine athen_n ?_
    refine AW.ret ?_
    obtain rfl := Option.some.inj h
    exact ⟨rfl, [], [], [], rfl, (by (simp only [go_sem, hb1]) <;> (repeat' with_reducible apply And.intro) <;> first | assumption | rfl | omega | (unfold maxLen; omega))⟩

set_option maxRecDepth 100000 in
set_option maxHeartbeats 2000000 in
theorem hc_linealref03_depend (l : Int × (List (Int × Int))) (a : Int) (b : Int) {r : Bool} (h : linealref03_depend l a b = some r) : HC Try.prog 62 [] [.agg [.int .i64 l.1, .sl (.pair (.int .i64) (.int .i64)) l.2], .int .i64 a, .int .i64 b] [] (.bool r) := by
  unfold linealref03_depend at h
  refine HC.of_body tab_ok (res := [.tmp 6]) Try.func62 rfl (by kernel_rfl) rfl (nt := 47) rfl (by decide) (by simp) ?_
  refine AW.seq ?_
  refine AW.ops ?_
  refine AO.allF tab_ok (by decide) [(1, .int .i64 a), (2, .int .i64 b), (3, .bp 3 0)] [(3, .box 24 [.int .i64 l.1, .sl (.pair (.int .i64) (.int .i64)) l.2])] (by (simp only [go_sem]) <;> (repeat' with_reducible apply And.intro) <;> first | assumption | rfl | omega | (unfold maxLen; omega)) ?_
  refine athen_n ?_
  refine AW.seq ?_
  refine AW.ops ?_
  refine AO.allF tab_ok (by decide) [(1, .int .i64 a), (2, .int .i64 b), (3, .bp 3 0), (7, .bool (decide (a = b)))] [(3, .box 24 [.int .i64 l.1, .sl (.pair (.int .i64) (.int .i64)) l.2])] (by (simp only [go_sem]) <;> (repeat' with_reducible apply And.intro) <;> first | assumption | rfl | omega | (unfold maxLen; omega)) ?_
  refine athen_n ?_
  refine AW.have1 (fun b1 : Bool => linealref03_depend_k1 b1 = some r) (fun b1 => ⟨fr [(7, .bool b1)], hpGet [], gt⟩) (fun b1 h => ?_) (fun hk_linealref03_depend_k1 => ?_)
  · unfold linealref03_depend_k1 at h
    refine AW.seq ?_
    refine AW.ops ?_
    refine AO.allF tab_ok (by decide) [(6, .bool b1)] [] (by (simp only [go_sem]) <;> (repeat' with_reducible apply And.intro) <;> first | assumption | rfl | omega | (unfold maxLen; omega)) ?_
    refine athen_n ?_
    refine AW.ret ?_
    obtain rfl := Option.some.inj h
    exact ⟨rfl, [], [], [], rfl, (by (simp only [go_sem]) <;> (repeat' with_reducible apply And.intro) <;> first | assumption | rfl | omega | (unfold maxLen; omega))⟩
  · refine AW.seq ?_
    refine AW.seq ?_
    refine AW.ops ?_
    refine AO.allF tab_ok (by decide) [(1, .int .i64 a), (2, .int .i64 b), (7, .bool (decide (a = b))), (14, .sl (.pair (.int .i64) (.int .i64)) l.2), (15, .int .i64 (l.2.length : Int)), (16, .int .i64 0)] [] (by (simp only [go_sem]) <;> (repeat' with_reducible apply And.intro) <;> first | assumption | rfl | omega | (unfold maxLen; omega)) ?_
    refine athen_n ?_
    refine AW.block ?_
    obtain ⟨rv5, hw1, ho2⟩ := Option.bind_eq_some_iff.1 h
    refine AW.loopO (linealref03_depend_b1 l a b) (fun st1 => ⟨fr [(1, .int .i64 a), (2, .int .i64 b), (7, .bool st1.1), (14, .sl (.pair (.int .i64) (.int .i64)) l.2), (15, .int .i64 (l.2.length : Int)), (16, .int .i64 st1.2)], hpGet [], gt⟩) ((decide (a = b)), 0) hw1 (Wk.le [] [] [] rfl (by (simp only [go_sem]) <;> (repeat' with_reducible apply And.intro) <;> first | assumption | rfl | omega | (unfold maxLen; omega)) (by (simp only [go_sem]) <;> (repeat' with_reducible apply And.intro) <;> first | assumption | rfl | omega | (unfold maxLen; omega))) ?_
    intro st1 x4 h hd3
    unfold linealref03_depend_b1 at h
    refine AW.seq ?_
    refine AW.ops ?_
    refine AO.allF tab_ok (by decide) [(1, .int .i64 a), (2, .int .i64 b), (7, .bool st1.1), (14, .sl (.pair (.int .i64) (.int .i64)) l.2), (15, .int .i64 (l.2.length : Int)), (16, .int .i64 st1.2), (17, .bool (decide (st1.2 < (l.2.length : Int))))] [] (by (simp only [go_sem]) <;> (repeat' with_reducible apply And.intro) <;> first | assumption | rfl | omega | (unfold maxLen; omega)) ?_
    refine athen_n ?_
    refine AW.seq ?_
    refine AW.cond (b := (decide (st1.2 < (l.2.length : Int)))) rfl (fun hb6 => ?_) (fun hb6 => ?_)
    · rw [if_pos hb6] at h
      refine AW.skip ?_
      refine athen_n ?_
      refine AW.seq ?_
      refine AW.block ?_
      refine AW.seq ?_
      refine AW.ops ?_
      obtain ⟨c7, h⟩ := ck_some.1 h
      obtain ⟨c8, h⟩ := ck_some.1 h
      refine AO.allF tab_ok (by decide) [(1, .int .i64 a), (2, .int .i64 b), (7, .bool st1.1), (9, .bp 9 0), (14, .sl (.pair (.int .i64) (.int .i64)) l.2), (15, .int .i64 (l.2.length : Int)), (16, .int .i64 st1.2)] [(9, .box 56 [.int .i64 (l.2.getD st1.2.toNat (0, 0)).1, .int .i64 (l.2.getD st1.2.toNat (0, 0)).2])] (by (simp only [go_sem, hb6]) <;> (repeat' with_reducible apply And.intro) <;> first | assumption | rfl | omega | (unfold maxLen; omega)) ?_
      refine athen_n ?_
      refine AW.ops ?_
      refine AO.segF tab_ok 2 (by decide) [(1, .int .i64 a), (2, .int .i64 b), (9, .bp 9 0), (14, .sl (.pair (.int .i64) (.int .i64)) l.2), (15, .int .i64 (l.2.length : Int)), (16, .int .i64 st1.2), (21, .bool st1.1)] [(9, .box 56 [.int .i64 (l.2.getD st1.2.toNat (0, 0)).1, .int .i64 (l.2.getD st1.2.toNat (0, 0)).2])] (by (simp only [go_sem, hb6]) <;> (repeat' with_reducible apply And.intro) <;> first | assumption | rfl | omega | (unfold maxLen; omega)) ?_
      rcases Bool.eq_false_or_eq_true st1.1 with hb9 | hb9
      · rw [if_pos hb9] at h
        refine AO.weaken (s' := ⟨fr [(1, .int .i64 a), (2, .int .i64 b), (9, .bp 9 0), (14, .sl (.pair (.int .i64) (.int .i64)) l.2), (15, .int .i64 (l.2.length : Int)), (16, .int .i64 st1.2), (21, .bool true)], hpGet [(9, .box 56 [.int .i64 (l.2.getD st1.2.toNat (0, 0)).1, .int .i64 (l.2.getD st1.2.toNat (0, 0)).2])], gt⟩) (Wk.to (by (simp only [go_sem, hb6, hb9]) <;> (repeat' with_reducible apply And.intro) <;> first | assumption | rfl | omega | (unfold maxLen; omega))) ?_
        refine AO.segF tab_ok 4 (by decide) [(1, .int .i64 a), (2, .int .i64 b), (9, .bp 9 0), (14, .sl (.pair (.int .i64) (.int .i64)) l.2), (15, .int .i64 (l.2.length : Int)), (16, .int .i64 st1.2), (21, .bool true), (25, .cv (undef))] [(9, .box 56 [.int .i64 (l.2.getD st1.2.toNat (0, 0)).1, .int .i64 (l.2.getD st1.2.toNat (0, 0)).2])] (by (simp only [go_sem, hb6, hb9]) <;> (repeat' with_reducible apply And.intro) <;> first | assumption | rfl | omega | (unfold maxLen; omega)) ?_
        refine AO.segF tab_ok 4 (by decide) [(1, .int .i64 a), (2, .int .i64 b), (9, .bp 9 0), (14, .sl (.pair (.int .i64) (.int .i64)) l.2), (15, .int .i64 (l.2.length : Int)), (16, .int .i64 st1.2), (21, .bool true), (26, .cv (undef)), (28, .cv (undef)), (29, .cv (undef))] [(9, .box 56 [.int .i64 (l.2.getD st1.2.toNat (0, 0)).1, .int .i64 (l.2.getD st1.2.toNat (0, 0)).2])] (by (simp only [go_sem, hb6, hb9]) <;> (repeat' with_reducible apply And.intro) <;> first | assumption | rfl | omega | (unfold maxLen; omega)) ?_
        refine AO.segF tab_ok 6 (by decide) [(1, .int .i64 a), (2, .int .i64 b), (9, .bp 9 0), (14, .sl (.pair (.int .i64) (.int .i64)) l.2), (15, .int .i64 (l.2.length : Int)), (16, .int .i64 st1.2), (33, .bool true), (35, .cv (undef))] [(9, .box 56 [.int .i64 (l.2.getD st1.2.toNat (0, 0)).1, .int .i64 (l.2.getD st1.2.toNat (0, 0)).2])] (by (simp only [go_sem, hb6, hb9]) <;> (repeat' with_reducible apply And.intro) <;> first | assumption | rfl | omega | (unfold maxLen; omega)) ?_
        refine AO.segF tab_ok 4 (by decide) [(1, .int .i64 a), (2, .int .i64 b), (14, .sl (.pair (.int .i64) (.int .i64)) l.2), (15, .int .i64 (l.2.length : Int)), (16, .int .i64 st1.2), (33, .bool true), (38, .cv (undef)), (39, .cv (undef))] [] (by (simp only [go_sem, hb6, hb9]) <;> (repeat' with_reducible apply And.intro) <;> first | assumption | rfl | omega | (unfold maxLen; omega)) ?_
        refine AO.segF tab_ok 4 (by decide) [(1, .int .i64 a), (2, .int .i64 b), (14, .sl (.pair (.int .i64) (.int .i64)) l.2), (15, .int .i64 (l.2.length : Int)), (16, .int .i64 st1.2), (33, .bool true), (43, .cv (undef))] [] (by (simp only [go_sem, hb6, hb9]) <;> (repeat' with_reducible apply And.intro) <;> first | assumption | rfl | omega | (unfold maxLen; omega)) ?_
        refine AO.allF tab_ok (by decide) [(1, .int .i64 a), (2, .int .i64 b), (7, .bool true), (14, .sl (.pair (.int .i64) (.int .i64)) l.2), (15, .int .i64 (l.2.length : Int)), (16, .int .i64 st1.2)] [] (by (simp only [go_sem, hb6, hb9]) <;> (repeat' with_reducible apply And.intro) <;> first | assumption | rfl | omega | (unfold maxLen; omega)) ?_
        refine ablock_n ?_
        refine athen_n ?_
        refine AW.ops ?_
        obtain ⟨c10, h⟩ := ck_some.1 h
        refine AO.allF tab_ok (by decide) [(1, .int .i64 a), (2, .int .i64 b), (7, .bool true), (14, .sl (.pair (.int .i64) (.int .i64)) l.2), (15, .int .i64 (l.2.length : Int)), (16, .int .i64 (st1.2 + 1))] [] (by (simp only [go_sem, hb6, hb9]) <;> (repeat' with_reducible apply And.intro) <;> first | assumption | rfl | omega | (unfold maxLen; omega)) ?_
        obtain rfl := Option.some.inj h
        exact ⟨_, rfl, Wk.le [] [] [] rfl (by (simp only [go_sem, hb6, hb9]) <;> (repeat' with_reducible apply And.intro) <;> first | assumption | rfl | omega | (unfold maxLen; omega)) (by (simp only [go_sem, hb6, hb9]) <;> (repeat' with_reducible apply And.intro) <;> first | assumption | rfl | omega | (unfold maxLen; omega))⟩
      · rw [if_neg (Bool.eq_false_iff.1 hb9)] at h
        refine AO.weaken (s' := ⟨fr [(1, .int .i64 a), (2, .int .i64 b), (9, .bp 9 0), (14, .sl (.pair (.int .i64) (.int .i64)) l.2), (15, .int .i64 (l.2.length : Int)), (16, .int .i64 st1.2), (21, .bool false)], hpGet [(9, .box 56 [.int .i64 (l.2.getD st1.2.toNat (0, 0)).1, .int .i64 (l.2.getD st1.2.toNat (0, 0)).2])], gt⟩) (Wk.to (by (simp only [go_sem, hb6, hb9]) <;> (repeat' with_reducible apply And.intro) <;> first | assumption | rfl | omega | (unfold maxLen; omega))) ?_
        refine AO.segF tab_ok 5 (by decide) [(1, .int .i64 a), (2, .int .i64 b), (9, .bp 9 0), (14, .sl (.pair (.int .i64) (.int .i64)) l.2), (15, .int .i64 (l.2.length : Int)), (16, .int .i64 st1.2), (21, .bool false), (26, .bool (decide ((l.2.getD st1.2.toNat (0, 0)).1 = a)))] [(9, .box 56 [.int .i64 (l.2.getD st1.2.toNat (0, 0)).1, .int .i64 (l.2.getD st1.2.toNat (0, 0)).2])] (by (simp only [go_sem, hb6, hb9]) <;> (repeat' with_reducible apply And.intro) <;> first | assumption | rfl | omega | (unfold maxLen; omega)) ?_
        rcases Bool.eq_false_or_eq_true (decide ((l.2.getD st1.2.toNat (0, 0)).1 = a)) with hb11 | hb11
        · rw [if_pos hb11] at h
          refine AO.weaken (s' := ⟨fr [(1, .int .i64 a), (2, .int .i64 b), (9, .bp 9 0), (14, .sl (.pair (.int .i64) (.int .i64)) l.2), (15, .int .i64 (l.2.length : Int)), (16, .int .i64 st1.2), (21, .bool false), (26, .bool true)], hpGet [(9, .box 56 [.int .i64 (l.2.getD st1.2.toNat (0, 0)).1, .int .i64 (l.2.getD st1.2.toNat (0, 0)).2])], gt⟩) (Wk.to (by (simp only [go_sem, hb6, hb9, hb11]) <;> (repeat' with_reducible apply And.intro) <;> first | assumption | rfl | omega | (unfold maxLen; omega))) ?_
          refine AO.segF tab_ok 7 (by decide) [(1, .int .i64 a), (2, .int .i64 b), (9, .bp 9 0), (14, .sl (.pair (.int .i64) (.int .i64)) l.2), (15, .int .i64 (l.2.length : Int)), (16, .int .i64 st1.2), (33, .bool (decide ((l.2.getD st1.2.toNat (0, 0)).2 = b)))] [(9, .box 56 [.int .i64 (l.2.getD st1.2.toNat (0, 0)).1, .int .i64 (l.2.getD st1.2.toNat (0, 0)).2])] (by (simp only [go_sem, hb6, hb9, hb11]) <;> (repeat' with_reducible apply And.intro) <;> first | assumption | rfl | omega | (unfold maxLen; omega)) ?_
          rcases Bool.eq_false_or_eq_true (decide ((l.2.getD st1.2.toNat (0, 0)).2 = b)) with hb12 | hb12
          · rw [if_pos hb12] at h
            refine AO.weaken (s' := ⟨fr [(1, .int .i64 a), (2, .int .i64 b), (9, .bp 9 0), (14, .sl (.pair (.int .i64) (.int .i64)) l.2), (15, .int .i64 (l.2.length : Int)), (16, .int .i64 st1.2), (33, .bool true)], hpGet [(9, .box 56 [.int .i64 (l.2.getD st1.2.toNat (0, 0)).1, .int .i64 (l.2.getD st1.2.toNat (0, 0)).2])], gt⟩) (Wk.to (by (simp only [go_sem, hb6, hb9, hb11, hb12]) <;> (repeat' with_reducible apply And.intro) <;> first | assumption | rfl | omega | (unfold maxLen; omega))) ?_
            refine AO.segF tab_ok 4 (by decide) [(1, .int .i64 a), (2, .int .i64 b), (9, .bp 9 0), (14, .sl (.pair (.int .i64) (.int .i64)) l.2), (15, .int .i64 (l.2.length : Int)), (16, .int .i64 st1.2), (33, .bool true), (37, .cv (undef))] [(9, .box 56 [.int .i64 (l.2.getD st1.2.toNat (0, 0)).1, .int .i64 (l.2.getD st1.2.toNat (0, 0)).2])] (by (simp only [go_sem, hb6, hb9, hb11, hb12]) <;> (repeat' with_reducible apply And.intro) <;> first | assumption | rfl | omega | (unfold maxLen; omega)) ?_
            refine AO.segF tab_ok 4 (by decide) [(1, .int .i64 a), (2, .int .i64 b), (14, .sl (.pair (.int .i64) (.int .i64)) l.2), (15, .int .i64 (l.2.length : Int)), (16, .int .i64 st1.2), (33, .bool true), (38, .cv (undef)), (40, .cv (undef)), (41, .cv (undef))] [] (by (simp only [go_sem, hb6, hb9, hb11, hb12]) <;> (repeat' with_reducible apply And.intro) <;> first | assumption | rfl | omega | (unfold maxLen; omega)) ?_
            refine AO.allF tab_ok (by decide) [(1, .int .i64 a), (2, .int .i64 b), (7, .bool true), (14, .sl (.pair (.int .i64) (.int .i64)) l.2), (15, .int .i64 (l.2.length : Int)), (16, .int .i64 st1.2)] [] (by (simp only [go_sem, hb6, hb9, hb11, hb12]) <;> (repeat' with_reducible apply And.intro) <;> first | assumption | rfl | omega | (unfold maxLen; omega)) ?_
            refine ablock_n ?_
            refine athen_n ?_
            refine AW.ops ?_
            obtain ⟨c13, h⟩ := ck_some.1 h
            refine AO.allF tab_ok (by decide) [(1, .int .i64 a), (2, .int .i64 b), (7, .bool true), (14, .sl (.pair (.int .i64) (.int .i64)) l.2), (15, .int .i64 (l.2.length : Int)), (16, .int .i64 (st1.2 + 1))] [] (by (simp only [go_sem, hb6, hb9, hb11, hb12]) <;> (repeat' with_reducible apply And.intro) <;> first | assumption | rfl | omega | (unfold maxLen; omega)) ?_
            obtain rfl := Option.some.inj h
            exact ⟨_, rfl, Wk.le [] [] [] rfl (by (simp only [go_sem, hb6, hb9, hb11, hb12]) <;> (repeat' with_reducible apply And.intro) <;> first | assumption | rfl | omega | (unfold maxLen; omega)) (by (simp only [go_sem, hb6, hb9, hb11, hb12]) <;> (repeat' with_reducible apply And.intro) <;> first | assumption | rfl | omega | (unfold maxLen; omega))⟩
          · rw [if_neg (Bool.eq_false_iff.1 hb12)] at h
            refine AO.weaken (s' := ⟨fr [(1, .int .i64 a), (2, .int .i64 b), (9, .bp 9 0), (14, .sl (.pair (.int .i64) (.int .i64)) l.2), (15, .int .i64 (l.2.length : Int)), (16, .int .i64 st1.2), (33, .bool false)], hpGet [(9, .box 56 [.int .i64 (l.2.getD st1.2.toNat (0, 0)).1, .int .i64 (l.2.getD st1.2.toNat (0, 0)).2])], gt⟩) (Wk.to (by (simp only [go_sem, hb6, hb9, hb11, hb12]) <;> (repeat' with_reducible apply And.intro) <;> first | assumption | rfl | omega | (unfold maxLen; omega))) ?_
            refine AO.segF tab_ok 5 (by decide) [(1, .int .i64 a), (2, .int .i64 b), (9, .bp 9 0), (14, .sl (.pair (.int .i64) (.int .i64)) l.2), (15, .int .i64 (l.2.length : Int)), (16, .int .i64 st1.2), (33, .bool false), (38, .bool (decide ((l.2.getD st1.2.toNat (0, 0)).1 = b)))] [(9, .box 56 [.int .i64 (l.2.getD st1.2.toNat (0, 0)).1, .int .i64 (l.2.getD st1.2.toNat (0, 0)).2])] (by (simp only [go_sem, hb6, hb9, hb11, hb12]) <;> (repeat' with_reducible apply And.intro) <;> first | assumption | rfl | omega | (unfold maxLen; omega)) ?_
            rcases Bool.eq_false_or_eq_true (decide ((l.2.getD st1.2.toNat (0, 0)).1 = b)) with hb14 | hb14
            · rw [if_pos hb14] at h
              refine AO.weaken (s' := ⟨fr [(1, .int .i64 a), (2, .int .i64 b), (9, .bp 9 0), (14, .sl (.pair (.int .i64) (.int .i64)) l.2), (15, .int .i64 (l.2.length : Int)), (16, .int .i64 st1.2), (33, .bool false), (38, .bool true)], hpGet [(9, .box 56 [.int .i64 (l.2.getD st1.2.toNat (0, 0)).1, .int .i64 (l.2.getD st1.2.toNat (0, 0)).2])], gt⟩) (Wk.to (by (simp only [go_sem, hb6, hb9, hb11, hb12, hb14]) <;> (repeat' with_reducible apply And.intro) <;> first | assumption | rfl | omega | (unfold maxLen; omega))) ?_
              refine AO.allF tab_ok (by decide) [(1, .int .i64 a), (2, .int .i64 b), (7, .bool (decide ((l.2.getD st1.2.toNat (0, 0)).2 = a))), (14, .sl (.pair (.int .i64) (.int .i64)) l.2), (15, .int .i64 (l.2.length : Int)), (16, .int .i64 st1.2)] [] (by (simp only [go_sem, hb6, hb9, hb11, hb12, hb14]) <;> (repeat' with_reducible apply And.intro) <;> first | assumption | rfl | omega | (unfold maxLen; omega)) ?_
              refine ablock_n ?_
              refine athen_n ?_
              refine AW.ops ?_
              obtain ⟨c15, h⟩ := ck_some.1 h
              refine AO.allF tab_ok (by decide) [(1, .int .i64 a), (2, .int .i64 b), (7, .bool (decide ((l.2.getD st1.2.toNat (0, 0)).2 = a))), (14, .sl (.pair (.int .i64) (.int .i64)) l.2), (15, .int .i64 (l.2.length : Int)), (16, .int .i64 (st1.2 + 1))] [] (by (simp only [go_sem, hb6, hb9, hb11, hb12, hb14]) <;> (repeat' with_reducible apply And.intro) <;> first | assumption | rfl | omega | (unfold maxLen; omega)) ?_
              obtain rfl := Option.some.inj h
              exact ⟨_, rfl, Wk.le [] [] [] rfl (by (simp only [go_sem, hb6, hb9, hb11, hb12, hb14]) <;> (repeat' with_reducible apply And.intro) <;> first | assumption | rfl | omega | (unfold maxLen; omega)) (by (simp only [go_sem, hb6, hb9, hb11, hb12, hb14]) <;> (repeat' with_reducible apply And.intro) <;> first | assumption | rfl | omega | (unfold maxLen; omega))⟩
            · rw [if_neg (Bool.eq_false_iff.1 hb14)] at h
              refine AO.weaken (s' := ⟨fr [(1, .int .i64 a), (2, .int .i64 b), (9, .bp 9 0), (14, .sl (.pair (.int .i64) (.int .i64)) l.2), (15, .int .i64 (l.2.length : Int)), (16, .int .i64 st1.2), (33, .bool false), (38, .bool false)], hpGet [(9, .box 56 [.int .i64 (l.2.getD st1.2.toNat (0, 0)).1, .int .i64 (l.2.getD st1.2.toNat (0, 0)).2])], gt⟩) (Wk.to (by (simp only [go_sem, hb6, hb9, hb11, hb12, hb14]) <;> (repeat' with_reducible apply And.intro) <;> first | assumption | rfl | omega | (unfold maxLen; omega))) ?_
              refine AO.segF tab_ok 4 (by decide) [(1, .int .i64 a), (2, .int .i64 b), (14, .sl (.pair (.int .i64) (.int .i64)) l.2), (15, .int .i64 (l.2.length : Int)), (16, .int .i64 st1.2), (33, .bool false), (38, .bool false), (42, .cv (undef))] [] (by (simp only [go_sem, hb6, hb9, hb11, hb12, hb14]) <;> (repeat' with_reducible apply And.intro) <;> first | assumption | rfl | omega | (unfold maxLen; omega)) ?_
              refine AO.allF tab_ok (by decide) [(1, .int .i64 a), (2, .int .i64 b), (7, .bool false), (14, .sl (.pair (.int .i64) (.int .i64)) l.2), (15, .int .i64 (l.2.length : Int)), (16, .int .i64 st1.2)] [] (by (simp only [go_sem, hb6, hb9, hb11, hb12, hb14]) <;> (repeat' with_reducible apply And.intro) <;> first | assumption | rfl | omega | (unfold maxLen; omega)) ?_
              refine ablock_n ?_
              refine athen_n ?_
              refine AW.ops ?_
              obtain ⟨c16, h⟩ := ck_some.1 h
              refine AO.allF tab_ok (by decide) [(1, .int .i64 a), (2, .int .i64 b), (7, .bool false), (14, .sl (.pair (.int .i64) (.int .i64)) l.2), (15, .int .i64 (l.2.length : Int)), (16, .int .i64 (st1.2 + 1))] [] (by (simp only [go_sem, hb6, hb9, hb11, hb12, hb14]) <;> (repeat' with_reducible apply And.intro) <;> first | assumption | rfl | omega | (unfold maxLen; omega)) ?_
              obtain rfl := Option.some.inj h
              exact ⟨_, rfl, Wk.le [] [] [] rfl (by (simp only [go_sem, hb6, hb9, hb11, hb12, hb14]) <;> (repeat' with_reducible apply And.intro) <;> first | assumption | rfl | omega | (unfold maxLen; omega)) (by (simp only [go_sem, hb6, hb9, hb11, hb12, hb14]) <;> (repeat' with_reducible apply And.intro) <;> first | assumption | rfl | omega | (unfold maxLen; omega))⟩
        · rw [if_neg (Bool.eq_false_iff.1 hb11)] at h
          refine AO.weaken (s' := ⟨fr [(1, .int .i64 a), (2, .int .i64 b), (9, .bp 9 0), (14, .sl (.pair (.int .i64) (.int .i64)) l.2), (15, .int .i64 (l.2.length : Int)), (16, .int .i64 st1.2), (21, .bool false), (26, .bool false)], hpGet [(9, .box 56 [.int .i64 (l.2.getD st1.2.toNat (0, 0)).1, .int .i64 (l.2.getD st1.2.toNat (0, 0)).2])], gt⟩) (Wk.to (by (simp only [go_sem, hb6, hb9, hb11]) <;> (repeat' with_reducible apply And.intro) <;> first | assumption | rfl | omega | (unfold maxLen; omega))) ?_
          refine AO.segF tab_ok 4 (by decide) [(1, .int .i64 a), (2, .int .i64 b), (9, .bp 9 0), (14, .sl (.pair (.int .i64) (.int .i64)) l.2), (15, .int .i64 (l.2.length : Int)), (16, .int .i64 st1.2), (21, .bool false), (26, .bool false), (30, .cv (undef))] [(9, .box 56 [.int .i64 (l.2.getD st1.2.toNat (0, 0)).1, .int .i64 (l.2.getD st1.2.toNat (0, 0)).2])] (by (simp only [go_sem, hb6, hb9, hb11]) <;> (repeat' with_reducible apply And.intro) <;> first | assumption | rfl | omega | (unfold maxLen; omega)) ?_
          refine AO.segF tab_ok 8 (by decide) [(1, .int .i64 a), (2, .int .i64 b), (9, .bp 9 0), (14, .sl (.pair (.int .i64) (.int .i64)) l.2), (15, .int .i64 (l.2.length : Int)), (16, .int .i64 st1.2), (33, .bool false), (38, .bool (decide ((l.2.getD st1.2.toNat (0, 0)).1 = b)))] [(9, .box 56 [.int .i64 (l.2.getD st1.2.toNat (0, 0)).1, .int .i64 (l.2.getD st1.2.toNat (0, 0)).2])] (by (simp only [go_sem, hb6, hb9, hb11]) <;> (repeat' with_reducible apply And.intro) <;> first | assumption | rfl | omega | (unfold maxLen; omega)) ?_
          rcases Bool.eq_false_or_eq_true (decide ((l.2.getD st1.2.toNat (0, 0)).1 = b)) with hb17 | hb17
          · rw [if_pos hb17] at h
            refine AO.weaken (s' := ⟨fr [(1, .int .i64 a), (2, .int .i64 b), (9, .bp 9 0), (14, .sl (.pair (.int .i64) (.int .i64)) l.2), (15, .int .i64 (l.2.length : Int)), (16, .int .i64 st1.2), (33, .bool false), (38, .bool true)], hpGet [(9, .box 56 [.int .i64 (l.2.getD st1.2.toNat (0, 0)).1, .int .i64 (l.2.getD st1.2.toNat (0, 0)).2])], gt⟩) (Wk.to (by (simp only [go_sem, hb6, hb9, hb11, hb17]) <;> (repeat' with_reducible apply And.intro) <;> first | assumption | rfl | omega | (unfold maxLen; omega))) ?_
            refine AO.allF tab_ok (by decide) [(1, .int .i64 a), (2, .int .i64 b), (7, .bool (decide ((l.2.getD st1.2.toNat (0, 0)).2 = a))), (14, .sl (.pair (.int .i64) (.int .i64)) l.2), (15, .int .i64 (l.2.length : Int)), (16, .int .i64 st1.2)] [] (by (simp only [go_sem, hb6, hb9, hb11, hb17]) <;> (repeat' with_reducible apply And.intro) <;> first | assumption | rfl | omega | (unfold maxLen; omega)) ?_
            refine ablock_n ?_
            refine athen_n ?_
            refine AW.ops ?_
            obtain ⟨c18, h⟩ := ck_some.1 h
            refine AO.allF tab_ok (by decide) [(1, .int .i64 a), (2, .int .i64 b), (7, .bool (decide ((l.2.getD st1.2.toNat (0, 0)).2 = a))), (14, .sl (.pair (.int .i64) (.int .i64)) l.2), (15, .int .i64 (l.2.length : Int)), (16, .int .i64 (st1.2 + 1))] [] (by (simp only [go_sem, hb6, hb9, hb11, hb17]) <;> (repeat' with_reducible apply And.intro) <;> first | assumption | rfl | omega | (unfold maxLen; omega)) ?_
            obtain rfl := Option.some.inj h
            exact ⟨_, rfl, Wk.le [] [] [] rfl (by (simp only [go_sem, hb6, hb9, hb11, hb17]) <;> (repeat' with_reducible apply And.intro) <;> first | assumption | rfl | omega | (unfold maxLen; omega)) (by (simp only [go_sem, hb6, hb9, hb11, hb17]) <;> (repeat' with_reducible apply And.intro) <;> first | assumption | rfl | omega | (unfold maxLen; omega))⟩
          · rw [if_neg (Bool.eq_false_iff.1 hb17)] at h
            refine AO.weaken (s' := ⟨fr [(1, .int .i64 a), (2, .int .i64 b), (9, .bp 9 0), (14, .sl (.pair (.int .i64) (.int .i64)) l.2), (15, .int .i64 (l.2.length : Int)), (16, .int .i64 st1.2), (33, .bool false), (38, .bool false)], hpGet [(9, .box 56 [.int .i64 (l.2.getD st1.2.toNat (0, 0)).1, .int .i64 (l.2.getD st1.2.toNat (0, 0)).2])], gt⟩) (Wk.to (by (simp only [go_sem, hb6, hb9, hb11, hb17]) <;> (repeat' with_reducible apply And.intro) <;> first | assumption | rfl | omega | (unfold maxLen; omega))) ?_
            refine AO.segF tab_ok 4 (by decide) [(1, .int .i64 a), (2, .int .i64 b), (14, .sl (.pair (.int .i64) (.int .i64)) l.2), (15, .int .i64 (l.2.length : Int)), (16, .int .i64 st1.2), (33, .bool false), (38, .bool false), (42, .cv (undef))] [] (by (simp only [go_sem, hb6, hb9, hb11, hb17]) <;> (repeat' with_reducible apply And.intro) <;> first | assumption | rfl | omega | (unfold maxLen; omega)) ?_
            refine AO.allF tab_ok (by decide) [(1, .int .i64 a), (2, .int .i64 b), (7, .bool false), (14, .sl (.pair (.int .i64) (.int .i64)) l.2), (15, .int .i64 (l.2.length : Int)), (16, .int .i64 st1.2)] [] (by (simp only [go_sem, hb6, hb9, hb11, hb17]) <;> (repeat' with_reducible apply And.intro) <;> first | assumption | rfl | omega | (unfold maxLen; omega)) ?_
            refine ablock_n ?_
            refine athen_n ?_
            refine AW.ops ?_
            obtain ⟨c19, h⟩ := ck_some.1 h
            refine AO.allF tab_ok (by decide) [(1, .int .i64 a), (2, .int .i64 b), (7, .bool false), (14, .sl (.pair (.int .i64) (.int .i64)) l.2), (15, .int .i64 (l.2.length : Int)), (16, .int .i64 (st1.2 + 1))] [] (by (simp only [go_sem, hb6, hb9, hb11, hb17]) <;> (repeat' with_reducible apply And.intro) <;> first | assumption | rfl | omega | (unfold maxLen; omega)) ?_
            obtain rfl := Option.some.inj h
            exact ⟨_, rfl, Wk.le [] [] [] rfl (by (simp only [go_sem, hb6, hb9, hb11, hb17]) <;> (repeat' with_reducible apply And.intro) <;> first | assumption | rfl | omega | (unfold maxLen; omega)) (by (simp only [go_sem, hb6, hb9, hb11, hb17]) <;> (repeat' with_reducible apply And.intro) <;> first | assumption | rfl | omega | (unfold maxLen; omega))⟩
    · rw [if_neg (Bool.eq_false_iff.1 hb6)] at h
      refine AW.exit ?_
      refine athen_e ?_
      obtain rfl := Option.some.inj h
      rw [← hd3 _ rfl] at ho2
      have h := ho2
      refine athen_e ?_
      refine ablock_s ?_
      refine athen_n ?_
      exact AW.weaken (Wk.le [] [] [] rfl (by (simp only [go_sem, hb6]) <;> (repeat' with_reducible apply And.intro) <;> first | assumption | rfl | omega | (unfold maxLen; omega)) (by (simp only [go_sem, hb6]) <;> (repeat' with_reducible apply And.intro) <;> first | assumption | rfl | omega | (unfold maxLen; omega))) (hk_linealref03_depend_k1 _ h)

set_option maxRecDepth 100000 in
set_option maxHeartbeats 2000000 in
theorem hc_linealref03_IsWord (l : Int × (List (Int × Int))) (w : List Int) {r : Bool} (h : linealref03_IsWord l w = some r) : HC Try.prog 55 [] [.agg [.int .i64 l.1, .sl (.pair (.int .i64) (.int .i64)) l.2], .sl (.int .i64) w] [] (.bool r) := by
  unfold linealref03_IsWord at h
  refine HC.of_body tab_ok (res := [.tmp 4]) Try.func55 rfl (by kernel_rfl) rfl (nt := 21) rfl (by decide) (by simp) ?_
  refine AW.seq ?_
  refine AW.ops ?_
  refine AO.allF tab_ok (by decide) [(1, .sl (.int .i64) w), (2, .bp 2 0)] [(2, .box 24 [.int .i64 l.1, .sl (.pair (.int .i64) (.int .i64)) l.2])] (by (simp only [go_sem]) <;> (repeat' with_reducible apply And.intro) <;> first | assumption | rfl | omega | (unfold maxLen; omega)) ?_
  refine athen_n ?_
  refine AW.have1 (fun _ : Unit => linealref03_IsWord_k1 w = some r) (fun _ => ⟨fr [(1, .sl (.int .i64) w)], hpGet [], gt⟩) (fun _ h => ?_) (fun hk_linealref03_IsWord_k1 => ?_)
  · unfold linealref03_IsWord_k1 at h
    refine AW.seq ?_
    refine AW.ops ?_
    refine AO.allF tab_ok (by decide) [(4, .bool (decide ((w.length : Int) ≤ 10)))] [] (by (simp only [go_sem]) <;> (repeat' with_reducible apply And.intro) <;> first | assumption | rfl | omega | (unfold maxLen; omega)) ?_
    refine athen_n ?_
    refine AW.ret ?_
    obtain rfl := Option.some.inj h
    exact ⟨rfl, [], [], [], rfl, (by (simp only [go_sem]) <;> (repeat' with_reducible apply And.intro) <;> first | assumption | rfl | omega | (unfold maxLen; omega))⟩
  · refine AW.seq ?_
    refine AW.seq ?_
    refine AW.ops ?_
    refine AO.allF tab_ok (by decide) [(1, .sl (.int .i64) w), (2, .bp 2 0), (7, .sl (.int .i64) w), (8, .int .i64 (w.length : Int)), (9, .int .i64 0)] [(2, .box 24 [.int .i64 l.1, .sl (.pair (.int .i64) (.int .i64)) l.2])] (by (simp only [go_sem]) <;> (repeat' with_reducible apply And.intro) <;> first | assumption | rfl | omega | (unfold maxLen; omega)) ?_
    refine athen_n ?_
    refine AW.block ?_
    obtain ⟨rv5, hw1, ho2⟩ := Option.bind_eq_some_iff.1 h
    refine AW.loopO (linealref03_IsWord_b1 l w) (fun st1 => ⟨fr [(1, .sl (.int .i64) w), (2, .bp 2 0), (7, .sl (.int .i64) w), (8, .int .i64 (w.length : Int)), (9, .int .i64 st1)], hpGet [(2, .box 24 [.int .i64 l.1, .sl (.pair (.int .i64) (.int .i64)) l.2])], gt⟩) 0 hw1 (Wk.le [] [] [] rfl (by (simp only [go_sem]) <;> (repeat' with_reducible apply And.intro) <;> first | assumption | rfl | omega | (unfold maxLen; omega)) (by (simp only [go_sem]) <;> (repeat' with_reducible apply And.intro) <;> first | assumption | rfl | omega | (unfold maxLen; omega))) ?_
    intro st1 x4 h hd3
    unfold linealref03_IsWord_b1 at h
    refine AW.seq ?_
    refine AW.ops ?_
    refine AO.allF tab_ok (by decide) [(1, .sl (.int .i64) w), (2, .bp 2 0), (7, .sl (.int .i64) w), (8, .int .i64 (w.length : Int)), (9, .int .i64 st1), (10, .bool (decide (st1 < (w.length : Int))))] [(2, .box 24 [.int .i64 l.1, .sl (.pair (.int .i64) (.int .i64)) l.2])] (by (simp only [go_sem]) <;> (repeat' with_reducible apply And.intro) <;> first | assumption | rfl | omega | (unfold maxLen; omega)) ?_
    refine athen_n ?_
    refine AW.seq ?_
    refine AW.cond (b := (decide (st1 < (w.length : Int)))) rfl (fun hb6 => ?_) (fun hb6 => ?_)
    · rw [if_pos hb6] at h
      refine AW.skip ?_
      refine athen_n ?_
      refine AW.seq ?_
      refine AW.block ?_
      refine AW.seq ?_
      refine AW.ops ?_
      obtain ⟨c7, h⟩ := ck_some.1 h
      obtain ⟨c8, h⟩ := ck_some.1 h
      refine AO.allF tab_ok (by decide) [(1, .sl (.int .i64) w), (2, .bp 2 0), (6, .int .i64 (w.getD st1.toNat 0)), (7, .sl (.int .i64) w), (8, .int .i64 (w.length : Int)), (9, .int .i64 st1)] [(2, .box 24 [.int .i64 l.1, .sl (.pair (.int .i64) (.int .i64)) l.2])] (by (simp only [go_sem, hb6]) <;> (repeat' with_reducible apply And.intro) <;> first | assumption | rfl | omega | (unfold maxLen; omega)) ?_
      refine athen_n ?_
      refine AW.seq ?_
      refine AW.ops ?_
      refine AO.segF tab_ok 2 (by decide) [(1, .sl (.int .i64) w), (2, .bp 2 0), (7, .sl (.int .i64) w), (8, .int .i64 (w.length : Int)), (9, .int .i64 st1), (13, .agg [.int .i64 l.1, .sl (.pair (.int .i64) (.int .i64)) l.2]), (14, .int .i64 (w.getD st1.toNat 0))] [(2, .box 24 [.int .i64 l.1, .sl (.pair (.int .i64) (.int .i64)) l.2])] (by (simp only [go_sem, hb6]) <;> (repeat' with_reducible apply And.intro) <;> first | assumption | rfl | omega | (unfold maxLen; omega)) ?_
      obtain ⟨v0, hv9, h⟩ := Option.bind_eq_some_iff.1 h
      refine AO.call tab_ok (by decide) rfl rfl rfl (fun _ h => h) [] [] (hc_linealref03_IsLetter l (w.getD st1.toNat 0) hv9) rfl (by (simp only [go_sem, hb6]) <;> (repeat' with_reducible apply And.intro) <;> first | assumption | rfl | omega | (unfold maxLen; omega)) (by (simp only [go_sem, hb6]) <;> (repeat' with_reducible apply And.intro) <;> first | assumption | rfl | omega | (unfold maxLen; omega)) [(1, .sl (.int .i64) w), (2, .bp 2 0), (7, .sl (.int .i64) w), (8, .int .i64 (w.length : Int)), (9, .int .i64 st1), (15, .bool v0)] [(2, .box 24 [.int .i64 l.1, .sl (.pair (.int .i64) (.int .i64)) l.2])] (by (simp only [go_sem, hb6]) <;> (repeat' with_reducible apply And.intro) <;> first | assumption | rfl | omega | (unfold maxLen; omega)) ?_
      refine AO.allF tab_ok (by decide) [(1, .sl (.int .i64) w), (2, .bp 2 0), (7, .sl (.int .i64) w), (8, .int .i64 (w.length : Int)), (9, .int .i64 st1), (16, .bool (!v0))] [(2, .box 24 [.int .i64 l.1, .sl (.pair (.int .i64) (.int .i64)) l.2])] (by (simp only [go_sem, hb6]) <;> (repeat' with_reducible apply And.intro) <;> first | assumption | rfl | omega | (unfold maxLen; omega)) ?_
      refine athen_n ?_
      refine AW.cond (b := (!v0)) rfl (fun hb10 => ?_) (fun hb10 => ?_)
      · rw [if_pos hb10] at h
        refine AW.seq ?_
        refine AW.ops ?_
        refine AO.allF tab_ok (by decide) [(4, .bool false)] [] (by (simp only [go_sem, hb6, hb10]) <;> (repeat' with_reducible apply And.intro) <;> first | assumption | rfl | omega | (unfold maxLen; omega)) ?_
        refine athen_n ?_
        refine AW.ret ?_
        refine ablock_r ?_
        refine athen_r ?_
        obtain rfl := Option.some.inj h
        rw [← hd3 _ rfl] at ho2
        have h := ho2
        try simp only at h
        refine athen_r ?_
        refine ablock_r ?_
        refine athen_r ?_
        obtain rfl := Option.some.inj h
        exact ⟨rfl, [], [], [], rfl, (by (simp only [go_sem, hb6, hb10]) <;> (repeat' with_reducible apply And.intro) <;> first | assumption | rfl | omega | (unfold maxLen; omega))⟩
      · rw [if_neg (Bool.eq_false_iff.1 hb10)] at h
        refine AW.skip ?_
        refine ablock_n ?_
        refine athen_n ?_
        refine AW.ops ?_
        obtain ⟨c11, h⟩ := ck_some.1 h
        refine AO.allF tab_ok (by decide) [(1, .sl (.int .i64) w), (2, .bp 2 0), (7, .sl (.int .i64) w), (8, .int .i64 (w.length : Int)), (9, .int .i64 (st1 + 1))] [(2, .box 24 [.int .i64 l.1, .sl (.pair (.int .i64) (.int .i64)) l.2])] (by (simp only [go_sem, hb6, hb10]) <;> (repeat' with_reducible apply And.intro) <;> first | assumption | rfl | omega | (unfold maxLen; omega)) ?_
        obtain rfl := Option.some.inj h
        exact ⟨_, rfl, Wk.le [] [] [] rfl (by (simp only [go_sem, hb6, hb10]) <;> (repeat' with_reducible apply And.intro) <;> first | assumption | rfl | omega | (unfold maxLen; omega)) (by (simp only [go_sem, hb6, hb10]) <;> (repeat' with_reducible apply And.intro) <;> first | assumption | rfl | omega | (unfold maxLen; omega))⟩
    · rw [if_neg (Bool.eq_false_iff.1 hb6)] at h
      refine AW.exit ?_
      refine athen_e ?_
      obtain rfl := Option.some.inj h
      rw [← hd3 _ rfl] at ho2
      have h := ho2
      try simp only at h
      refine athen_e ?_
      refine ablock_s ?_
      refine athen_n ?_
      exact AW.weaken (Wk.le [] [] [] rfl (by (simp only [go_sem, hb6]) <;> (repeat' with_reducible apply And.intro) <;> first | assumption | rfl | omega | (unfold maxLen; omega)) (by (simp only [go_sem, hb6]) <;> (repeat' with_reducible apply And.intro) <;> first | assumption | rfl | omega | (unfold maxLen; omega))) (hk_linealref03_IsWord_k1 () h)

end Go.Proofs.Ytcijihofjcfpoab
