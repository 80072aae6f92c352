/-
  Made by wip/tool/dc.py out of the print of the program: contracts.
-/
import Derived.Test.YtcijihofjcfpoabWp
import Derived.Test.YtcijihofjcfpoabTb3
namespace Go.Proofs.Ytcijihofjcfpoab
open Go.RowKit

set_option linter.unusedSimpArgs false
set_option linter.unusedVariables false
set_option linter.constructorNameAsVariable false

set_option maxRecDepth 100000 in
set_option maxHeartbeats 2000000 in
theorem hc_weave_tiesOf (l : Int × (List (Int × Int))) {r : (El T59) × Bool} (h : weave_tiesOf l = some r) : HC Try.prog 63 [] [.agg [.int .i64 l.1, .sl (.pair (.int .i64) (.int .i64)) l.2]] [] (.tup [.agg (cellsX T59 r.1), .bool r.2]) := by
  unfold weave_tiesOf at h
  refine HC.of_body tab_ok (res := [.cell 2 59, .tmp 3]) Try.func63 rfl (by kernel_rfl) rfl (nt := 69) rfl (by decide) (by simp) ?_
  refine AW.seq ?_
  refine AW.ops ?_
  refine AO.allF tab_ok (by decide) [(1, .bp 1 0), (2, .bp 2 0)] [(1, .box 24 [.int .i64 l.1, .sl (.pair (.int .i64) (.int .i64)) l.2]), (2, .box 59 (cellsX T59 (Ty.dflt T59)))] (by (simp only [go_sem]) <;> (repeat' with_reducible apply And.intro) <;> first | assumption | rfl | omega | (unfold maxLen; omega)) ?_
  refine athen_n ?_
  refine AW.seq ?_
  refine AW.ops ?_
  refine AO.allF tab_ok (by decide) [(1, .bp 1 0), (2, .bp 2 0), (4, .bp 4 0)] [(1, .box 24 [.int .i64 l.1, .sl (.pair (.int .i64) (.int .i64)) l.2]), (2, .box 59 (cellsX T59 (Ty.dflt T59))), (4, .box 59 (cellsX T59 (Ty.dflt T59)))] (by (simp only [go_sem]) <;> (repeat' with_reducible apply And.intro) <;> first | assumption | rfl | omega | (unfold maxLen; omega)) ?_
  refine athen_n ?_
  refine AW.seq ?_
  refine AW.seq ?_
  refine AW.ops ?_
  refine AO.segF tab_ok 4 (by decide) [(1, .bp 1 0), (2, .bp 2 0), (4, .bp 4 0), (13, .bool (decide (l.1 < 1)))] [(1, .box 24 [.int .i64 l.1, .sl (.pair (.int .i64) (.int .i64)) l.2]), (2, .box 59 (cellsX T59 (Ty.dflt T59))), (4, .box 59 (cellsX T59 (Ty.dflt T59)))] (by (simp only [go_sem]) <;> (repeat' with_reducible apply And.intro) <;> first | assumption | rfl | omega | (unfold maxLen; omega)) ?_
  rcases Bool.eq_false_or_eq_true (decide (l.1 < 1)) with hb1 | hb1
  · rw [if_pos hb1] at h
    refine AO.weaken (s' := ⟨fr [(1, .bp 1 0), (2, .bp 2 0), (4, .bp 4 0), (13, .bool true)], hpGet [(1, .box 24 [.int .i64 l.1, .sl (.pair (.int .i64) (.int .i64)) l.2]), (2, .box 59 (cellsX T59 (Ty.dflt T59))), (4, .box 59 (cellsX T59 (Ty.dflt T59)))], gt⟩) (Wk.to (by (simp only [go_sem, hb1]) <;> (repeat' with_reducible apply And.intro) <;> first | assumption | rfl | omega | (unfold maxLen; omega))) ?_
    refine AO.allF tab_ok (by decide) [(1, .bp 1 0), (2, .bp 2 0), (4, .bp 4 0), (17, .bool true)] [(1, .box 24 [.int .i64 l.1, .sl (.pair (.int .i64) (.int .i64)) l.2]), (2, .box 59 (cellsX T59 (Ty.dflt T59))), (4, .box 59 (cellsX T59 (Ty.dflt T59)))] (by (simp only [go_sem, hb1]) <;> (repeat' with_reducible apply And.intro) <;> first | assumption | rfl | omega | (unfold maxLen; omega)) ?_
    refine athen_n ?_
    refine AW.cond (b := true) rfl (fun _ => ?_) (fun hb2 => by cases hb2)
    refine AW.seq ?_
    refine AW.ops ?_
    refine AO.allF tab_ok (by decide) [(2, .bp 2 0), (3, .bool false)] [(2, .box 59 (cellsX T59 (Ty.dflt T59)))] (by (simp only [go_sem, hb1]) <;> (repeat' with_reducible apply And.intro) <;> first | assumption | rfl | omega | (unfold maxLen; omega)) ?_
    refine athen_n ?_
    refine AW.ret ?_
    refine athen_r ?_
    obtain rfl := Option.some.inj h
    exact ⟨rfl, [], [], [], rfl, (by (simp only [go_sem, hb1]) <;> (repeat' with_reducible apply And.intro) <;> first | assumption | rfl | omega | (unfold maxLen; omega))⟩
  · rw [if_neg (Bool.eq_false_iff.1 hb1)] at h
    refine AO.weaken (s' := ⟨fr [(1, .bp 1 0), (2, .bp 2 0), (4, .bp 4 0), (13, .bool false)], hpGet [(1, .box 24 [.int .i64 l.1, .sl (.pair (.int .i64) (.int .i64)) l.2]), (2, .box 59 (cellsX T59 (Ty.dflt T59))), (4, .box 59 (cellsX T59 (Ty.dflt T59)))], gt⟩) (Wk.to (by (simp only [go_sem, hb1]) <;> (repeat' with_reducible apply And.intro) <;> first | assumption | rfl | omega | (unfold maxLen; omega))) ?_
    refine AO.allF tab_ok (by decide) [(1, .bp 1 0), (2, .bp 2 0), (4, .bp 4 0), (17, .bool (decide (6 < l.1)))] [(1, .box 24 [.int .i64 l.1, .sl (.pair (.int .i64) (.int .i64)) l.2]), (2, .box 59 (cellsX T59 (Ty.dflt T59))), (4, .box 59 (cellsX T59 (Ty.dflt T59)))] (by (simp only [go_sem, hb1]) <;> (repeat' with_reducible apply And.intro) <;> first | assumption | rfl | omega | (unfold maxLen; omega)) ?_
    refine athen_n ?_
    refine AW.cond (b := (decide (6 < l.1))) rfl (fun hb3 => ?_) (fun hb3 => ?_)
    · rw [if_pos hb3] at h
      refine AW.seq ?_
      refine AW.ops ?_
      refine AO.allF tab_ok (by decide) [(2, .bp 2 0), (3, .bool false)] [(2, .box 59 (cellsX T59 (Ty.dflt T59)))] (by (simp only [go_sem, hb1, hb3]) <;> (repeat' with_reducible apply And.intro) <;> first | assumption | rfl | omega | (unfold maxLen; omega)) ?_
      refine athen_n ?_
      refine AW.ret ?_
      refine athen_r ?_
      obtain rfl := Option.some.inj h
      exact ⟨rfl, [], [], [], rfl, (by (simp only [go_sem, hb1, hb3]) <;> (repeat' with_reducible apply And.intro) <;> first | assumption | rfl | omega | (unfold maxLen; omega))⟩
    · rw [if_neg (Bool.eq_false_iff.1 hb3)] at h
      refine AW.skip ?_
      refine athen_n ?_
      refine AW.have1 (fun b1 : (El T59) => weave_tiesOf_k1 l b1 = some r) (fun b1 => ⟨fr [(1, .bp 1 0), (2, .bp 2 0), (4, .bp 4 0)], hpGet [(1, .box 24 [.int .i64 l.1, .sl (.pair (.int .i64) (.int .i64)) l.2]), (2, .box 59 (cellsX T59 (Ty.dflt T59))), (4, .box 59 (cellsX T59 b1))], gt⟩) (fun b1 h => ?_) (fun hk_weave_tiesOf_k1 => ?_)
      · unfold weave_tiesOf_k1 at h
        refine AW.have1 (fun b2 : (El T59) => weave_tiesOf_k2 b2 = some r) (fun b2 => ⟨fr [(2, .bp 2 0), (4, .bp 4 0)], hpGet [(2, .box 59 (cellsX T59 (Ty.dflt T59))), (4, .box 59 (cellsX T59 b2))], gt⟩) (fun b2 h => ?_) (fun hk_weave_tiesOf_k2 => ?_)
        · unfold weave_tiesOf_k2 at h
          refine AW.seq ?_
          refine AW.ops ?_
          refine AO.allF tab_ok (by decide) [(2, .bp 2 0), (3, .bool true)] [(2, .box 59 (cellsX T59 b2))] (by (simp only [go_sem, hb1, hb3]) <;> (repeat' with_reducible apply And.intro) <;> first | assumption | rfl | omega | (unfold maxLen; omega)) ?_
          refine athen_n ?_
          refine AW.ret ?_
          obtain rfl := Option.some.inj h
          exact ⟨rfl, [], [], [], rfl, (by (simp only [go_sem, hb1, hb3]) <;> (repeat' with_reducible apply And.intro) <;> first | assumption | rfl | omega | (unfold maxLen; omega))⟩
        · refine AW.seq ?_
          refine AW.seq ?_
          refine AW.ops ?_
          refine AO.allF tab_ok (by decide) [(1, .bp 1 0), (2, .bp 2 0), (4, .bp 4 0), (28, .sl (.pair (.int .i64) (.int .i64)) l.2), (29, .int .i64 (l.2.length : Int)), (30, .int .i64 0)] [(1, .box 24 [.int .i64 l.1, .sl (.pair (.int .i64) (.int .i64)) l.2]), (2, .box 59 (cellsX T59 (Ty.dflt T59))), (4, .box 59 (cellsX T59 b1))] (by (simp only [go_sem, hb1, hb3]) <;> (repeat' with_reducible apply And.intro) <;> first | assumption | rfl | omega | (unfold maxLen; omega)) ?_
          refine athen_n ?_
          refine AW.block ?_
          obtain ⟨rv8, hw4, ho5⟩ := Option.bind_eq_some_iff.1 h
          refine AW.loopO (weave_tiesOf_b2 l) (fun st2 => ⟨fr [(1, .bp 1 0), (2, .bp 2 0), (4, .bp 4 0), (28, .sl (.pair (.int .i64) (.int .i64)) l.2), (29, .int .i64 (l.2.length : Int)), (30, .int .i64 st2.2)], hpGet [(1, .box 24 [.int .i64 l.1, .sl (.pair (.int .i64) (.int .i64)) l.2]), (2, .box 59 (cellsX T59 (Ty.dflt T59))), (4, .box 59 (cellsX T59 st2.1))], gt⟩) (b1, 0) hw4 (Wk.le [] [] [] rfl (by (simp only [go_sem, hb1, hb3]) <;> (repeat' with_reducible apply And.intro) <;> first | assumption | rfl | omega | (unfold maxLen; omega)) (by (simp only [go_sem, hb1, hb3]) <;> (repeat' with_reducible apply And.intro) <;> first | assumption | rfl | omega | (unfold maxLen; omega))) ?_
          intro st2 x7 h hd6
          unfold weave_tiesOf_b2 at h
          refine AW.seq ?_
          refine AW.ops ?_
          refine AO.allF tab_ok (by decide) [(1, .bp 1 0), (2, .bp 2 0), (4, .bp 4 0), (28, .sl (.pair (.int .i64) (.int .i64)) l.2), (29, .int .i64 (l.2.length : Int)), (30, .int .i64 st2.2), (31, .bool (decide (st2.2 < (l.2.length : Int))))] [(1, .box 24 [.int .i64 l.1, .sl (.pair (.int .i64) (.int .i64)) l.2]), (2, .box 59 (cellsX T59 (Ty.dflt T59))), (4, .box 59 (cellsX T59 st2.1))] (by (simp only [go_sem, hb1, hb3]) <;> (repeat' with_reducible apply And.intro) <;> first | assumption | rfl | omega | (unfold maxLen; omega)) ?_
          refine athen_n ?_
          refine AW.seq ?_
          refine AW.cond (b := (decide (st2.2 < (l.2.length : Int)))) rfl (fun hb9 => ?_) (fun hb9 => ?_)
          · rw [if_pos hb9] at h
            refine AW.skip ?_
            refine athen_n ?_
            refine AW.seq ?_
            refine AW.block ?_
            refine AW.seq ?_
            refine AW.ops ?_
            obtain ⟨c10, h⟩ := ck_some.1 h
            obtain ⟨c11, h⟩ := ck_some.1 h
            refine AO.allF tab_ok (by decide) [(1, .bp 1 0), (2, .bp 2 0), (4, .bp 4 0), (7, .bp 7 0), (28, .sl (.pair (.int .i64) (.int .i64)) l.2), (29, .int .i64 (l.2.length : Int)), (30, .int .i64 st2.2)] [(1, .box 24 [.int .i64 l.1, .sl (.pair (.int .i64) (.int .i64)) l.2]), (2, .box 59 (cellsX T59 (Ty.dflt T59))), (4, .box 59 (cellsX T59 st2.1)), (7, .box 56 [.int .i64 (l.2.getD st2.2.toNat (0, 0)).1, .int .i64 (l.2.getD st2.2.toNat (0, 0)).2])] (by (simp only [go_sem, hb1, hb3, hb9]) <;> (repeat' with_reducible apply And.intro) <;> first | assumption | rfl | omega | (unfold maxLen; omega)) ?_
            refine athen_n ?_
            refine AW.seq ?_
            refine AW.draw tab_ok mixed_ok [] [] (by decide) (by kernel_rfl) ?_
            refine adops_cut 6 (fun K' hK12 => ?_)
            try dsimp only [List.drop_succ_cons, List.drop_zero, List.take_succ_cons, List.take_zero]
            simp only [go_sem, hb1, hb3, hb9]
            repeat (with_reducible refine And.intro (by first | assumption | rfl | omega | trivial | (unfold maxLen; omega)) ?_)
            refine hK12 _ ?_
            refine adops_nil ?_
            refine athen_n ?_
            refine AW.weaken (s' := ⟨fr [(1, .bp 1 0), (2, .bp 2 0), (4, .bp 4 0), (8, .int .i64 (l.2.getD st2.2.toNat (0, 0)).1), (9, .int .i64 (l.2.getD st2.2.toNat (0, 0)).2), (28, .sl (.pair (.int .i64) (.int .i64)) l.2), (29, .int .i64 (l.2.length : Int)), (30, .int .i64 st2.2)], hpGet [(1, .box 24 [.int .i64 l.1, .sl (.pair (.int .i64) (.int .i64)) l.2]), (2, .box 59 (cellsX T59 (Ty.dflt T59))), (4, .box 59 (cellsX T59 st2.1))], gt⟩) (Wk.to (by (simp only [go_sem, hb1, hb3, hb9]) <;> (repeat' with_reducible apply And.intro) <;> first | assumption | rfl | omega | (unfold maxLen; omega))) ?_
            refine AW.seq ?_
            refine AW.seq ?_
            refine AW.ops ?_
            refine AO.segF tab_ok 3 (by decide) [(1, .bp 1 0), (2, .bp 2 0), (4, .bp 4 0), (8, .int .i64 (l.2.getD st2.2.toNat (0, 0)).1), (9, .int .i64 (l.2.getD st2.2.toNat (0, 0)).2), (28, .sl (.pair (.int .i64) (.int .i64)) l.2), (29, .int .i64 (l.2.length : Int)), (30, .int .i64 st2.2), (40, .bool (decide ((l.2.getD st2.2.toNat (0, 0)).1 < 0)))] [(1, .box 24 [.int .i64 l.1, .sl (.pair (.int .i64) (.int .i64)) l.2]), (2, .box 59 (cellsX T59 (Ty.dflt T59))), (4, .box 59 (cellsX T59 st2.1))] (by (simp only [go_sem, hb1, hb3, hb9]) <;> (repeat' with_reducible apply And.intro) <;> first | assumption | rfl | omega | (unfold maxLen; omega)) ?_
            rcases Bool.eq_false_or_eq_true (decide ((l.2.getD st2.2.toNat (0, 0)).1 < 0)) with hb13 | hb13
            · rw [if_pos hb13] at h
              refine AO.weaken (s' := ⟨fr [(1, .bp 1 0), (2, .bp 2 0), (4, .bp 4 0), (8, .int .i64 (l.2.getD st2.2.toNat (0, 0)).1), (9, .int .i64 (l.2.getD st2.2.toNat (0, 0)).2), (28, .sl (.pair (.int .i64) (.int .i64)) l.2), (29, .int .i64 (l.2.length : Int)), (30, .int .i64 st2.2), (40, .bool true)], hpGet [(1, .box 24 [.int .i64 l.1, .sl (.pair (.int .i64) (.int .i64)) l.2]), (2, .box 59 (cellsX T59 (Ty.dflt T59))), (4, .box 59 (cellsX T59 st2.1))], gt⟩) (Wk.to (by (simp only [go_sem, hb1, hb3, hb9, hb13]) <;> (repeat' with_reducible apply And.intro) <;> first | assumption | rfl | omega | (unfold maxLen; omega))) ?_
              refine AO.segF tab_ok 6 (by decide) [(1, .bp 1 0), (2, .bp 2 0), (4, .bp 4 0), (8, .int .i64 (l.2.getD st2.2.toNat (0, 0)).1), (9, .int .i64 (l.2.getD st2.2.toNat (0, 0)).2), (28, .sl (.pair (.int .i64) (.int .i64)) l.2), (29, .int .i64 (l.2.length : Int)), (30, .int .i64 st2.2), (45, .bool true), (46, .cv (undef))] [(1, .box 24 [.int .i64 l.1, .sl (.pair (.int .i64) (.int .i64)) l.2]), (2, .box 59 (cellsX T59 (Ty.dflt T59))), (4, .box 59 (cellsX T59 st2.1))] (by (simp only [go_sem, hb1, hb3, hb9, hb13]) <;> (repeat' with_reducible apply And.intro) <;> first | assumption | rfl | omega | (unfold maxLen; omega)) ?_
              refine AO.segF tab_ok 6 (by decide) [(1, .bp 1 0), (2, .bp 2 0), (4, .bp 4 0), (8, .int .i64 (l.2.getD st2.2.toNat (0, 0)).1), (9, .int .i64 (l.2.getD st2.2.toNat (0, 0)).2), (28, .sl (.pair (.int .i64) (.int .i64)) l.2), (29, .int .i64 (l.2.length : Int)), (30, .int .i64 st2.2), (51, .bool true), (52, .cv (undef))] [(1, .box 24 [.int .i64 l.1, .sl (.pair (.int .i64) (.int .i64)) l.2]), (2, .box 59 (cellsX T59 (Ty.dflt T59))), (4, .box 59 (cellsX T59 st2.1))] (by (simp only [go_sem, hb1, hb3, hb9, hb13]) <;> (repeat' with_reducible apply And.intro) <;> first | assumption | rfl | omega | (unfold maxLen; omega)) ?_
              refine AO.segF tab_ok 4 (by decide) [(1, .bp 1 0), (2, .bp 2 0), (4, .bp 4 0), (8, .int .i64 (l.2.getD st2.2.toNat (0, 0)).1), (9, .int .i64 (l.2.getD st2.2.toNat (0, 0)).2), (28, .sl (.pair (.int .i64) (.int .i64)) l.2), (29, .int .i64 (l.2.length : Int)), (30, .int .i64 st2.2), (51, .bool true), (56, .cv (undef))] [(1, .box 24 [.int .i64 l.1, .sl (.pair (.int .i64) (.int .i64)) l.2]), (2, .box 59 (cellsX T59 (Ty.dflt T59))), (4, .box 59 (cellsX T59 st2.1))] (by (simp only [go_sem, hb1, hb3, hb9, hb13]) <;> (repeat' with_reducible apply And.intro) <;> first | assumption | rfl | omega | (unfold maxLen; omega)) ?_
              refine AO.allF tab_ok (by decide) [(1, .bp 1 0), (2, .bp 2 0), (4, .bp 4 0), (8, .int .i64 (l.2.getD st2.2.toNat (0, 0)).1), (9, .int .i64 (l.2.getD st2.2.toNat (0, 0)).2), (28, .sl (.pair (.int .i64) (.int .i64)) l.2), (29, .int .i64 (l.2.length : Int)), (30, .int .i64 st2.2), (57, .bool true)] [(1, .box 24 [.int .i64 l.1, .sl (.pair (.int .i64) (.int .i64)) l.2]), (2, .box 59 (cellsX T59 (Ty.dflt T59))), (4, .box 59 (cellsX T59 st2.1))] (by (simp only [go_sem, hb1, hb3, hb9, hb13]) <;> (repeat' with_reducible apply And.intro) <;> first | assumption | rfl | omega | (unfold maxLen; omega)) ?_
              refine athen_n ?_
              refine AW.cond (b := true) rfl (fun _ => ?_) (fun hb14 => by cases hb14)
              refine AW.seq ?_
              refine AW.ops ?_
              refine AO.allF tab_ok (by decide) [(2, .bp 2 0), (3, .bool false)] [(2, .box 59 (cellsX T59 (Ty.dflt T59)))] (by (simp only [go_sem, hb1, hb3, hb9, hb13]) <;> (repeat' with_reducible apply And.intro) <;> first | assumption | rfl | omega | (unfold maxLen; omega)) ?_
              refine athen_n ?_
              refine AW.ret ?_
              refine athen_r ?_
              refine ablock_r ?_
              refine athen_r ?_
              obtain rfl := Option.some.inj h
              rw [← hd6 _ rfl] at ho5
              have h := ho5
              try simp only at h
              refine athen_r ?_
              refine ablock_r ?_
              refine athen_r ?_
              obtain rfl := Option.some.inj h
              exact ⟨rfl, [], [], [], rfl, (by (simp only [go_sem, hb1, hb3, hb9, hb13]) <;> (repeat' with_reducible apply And.intro) <;> first | assumption | rfl | omega | (unfold maxLen; omega))⟩
            · rw [if_neg (Bool.eq_false_iff.1 hb13)] at h
              refine AO.weaken (s' := ⟨fr [(1, .bp 1 0), (2, .bp 2 0), (4, .bp 4 0), (8, .int .i64 (l.2.getD st2.2.toNat (0, 0)).1), (9, .int .i64 (l.2.getD st2.2.toNat (0, 0)).2), (28, .sl (.pair (.int .i64) (.int .i64)) l.2), (29, .int .i64 (l.2.length : Int)), (30, .int .i64 st2.2), (40, .bool false)], hpGet [(1, .box 24 [.int .i64 l.1, .sl (.pair (.int .i64) (.int .i64)) l.2]), (2, .box 59 (cellsX T59 (Ty.dflt T59))), (4, .box 59 (cellsX T59 st2.1))], gt⟩) (Wk.to (by (simp only [go_sem, hb1, hb3, hb9, hb13]) <;> (repeat' with_reducible apply And.intro) <;> first | assumption | rfl | omega | (unfold maxLen; omega))) ?_
              refine AO.segF tab_ok 5 (by decide) [(1, .bp 1 0), (2, .bp 2 0), (4, .bp 4 0), (8, .int .i64 (l.2.getD st2.2.toNat (0, 0)).1), (9, .int .i64 (l.2.getD st2.2.toNat (0, 0)).2), (28, .sl (.pair (.int .i64) (.int .i64)) l.2), (29, .int .i64 (l.2.length : Int)), (30, .int .i64 st2.2), (45, .bool (decide ((l.2.getD st2.2.toNat (0, 0)).2 ≤ (l.2.getD st2.2.toNat (0, 0)).1)))] [(1, .box 24 [.int .i64 l.1, .sl (.pair (.int .i64) (.int .i64)) l.2]), (2, .box 59 (cellsX T59 (Ty.dflt T59))), (4, .box 59 (cellsX T59 st2.1))] (by (simp only [go_sem, hb1, hb3, hb9, hb13]) <;> (repeat' with_reducible apply And.intro) <;> first | assumption | rfl | omega | (unfold maxLen; omega)) ?_
              rcases Bool.eq_false_or_eq_true (decide ((l.2.getD st2.2.toNat (0, 0)).2 ≤ (l.2.getD st2.2.toNat (0, 0)).1)) with hb15 | hb15
              · rw [if_pos hb15] at h
                refine AO.weaken (s' := ⟨fr [(1, .bp 1 0), (2, .bp 2 0), (4, .bp 4 0), (8, .int .i64 (l.2.getD st2.2.toNat (0, 0)).1), (9, .int .i64 (l.2.getD st2.2.toNat (0, 0)).2), (28, .sl (.pair (.int .i64) (.int .i64)) l.2), (29, .int .i64 (l.2.length : Int)), (30, .int .i64 st2.2), (45, .bool true)], hpGet [(1, .box 24 [.int .i64 l.1, .sl (.pair (.int .i64) (.int .i64)) l.2]), (2, .box 59 (cellsX T59 (Ty.dflt T59))), (4, .box 59 (cellsX T59 st2.1))], gt⟩) (Wk.to (by (simp only [go_sem, hb1, hb3, hb9, hb13, hb15]) <;> (repeat' with_reducible apply And.intro) <;> first | assumption | rfl | omega | (unfold maxLen; omega))) ?_
                refine AO.segF tab_ok 4 (by decide) [(1, .bp 1 0), (2, .bp 2 0), (4, .bp 4 0), (8, .int .i64 (l.2.getD st2.2.toNat (0, 0)).1), (9, .int .i64 (l.2.getD st2.2.toNat (0, 0)).2), (28, .sl (.pair (.int .i64) (.int .i64)) l.2), (29, .int .i64 (l.2.length : Int)), (30, .int .i64 st2.2), (45, .bool true), (49, .cv (undef))] [(1, .box 24 [.int .i64 l.1, .sl (.pair (.int .i64) (.int .i64)) l.2]), (2, .box 59 (cellsX T59 (Ty.dflt T59))), (4, .box 59 (cellsX T59 st2.1))] (by (simp only [go_sem, hb1, hb3, hb9, hb13, hb15]) <;> (repeat' with_reducible apply And.intro) <;> first | assumption | rfl | omega | (unfold maxLen; omega)) ?_
                refine AO.segF tab_ok 6 (by decide) [(1, .bp 1 0), (2, .bp 2 0), (4, .bp 4 0), (8, .int .i64 (l.2.getD st2.2.toNat (0, 0)).1), (9, .int .i64 (l.2.getD st2.2.toNat (0, 0)).2), (28, .sl (.pair (.int .i64) (.int .i64)) l.2), (29, .int .i64 (l.2.length : Int)), (30, .int .i64 st2.2), (51, .bool true), (55, .cv (undef))] [(1, .box 24 [.int .i64 l.1, .sl (.pair (.int .i64) (.int .i64)) l.2]), (2, .box 59 (cellsX T59 (Ty.dflt T59))), (4, .box 59 (cellsX T59 st2.1))] (by (simp only [go_sem, hb1, hb3, hb9, hb13, hb15]) <;> (repeat' with_reducible apply And.intro) <;> first | assumption | rfl | omega | (unfold maxLen; omega)) ?_
                refine AO.allF tab_ok (by decide) [(1, .bp 1 0), (2, .bp 2 0), (4, .bp 4 0), (8, .int .i64 (l.2.getD st2.2.toNat (0, 0)).1), (9, .int .i64 (l.2.getD st2.2.toNat (0, 0)).2), (28, .sl (.pair (.int .i64) (.int .i64)) l.2), (29, .int .i64 (l.2.length : Int)), (30, .int .i64 st2.2), (57, .bool true)] [(1, .box 24 [.int .i64 l.1, .sl (.pair (.int .i64) (.int .i64)) l.2]), (2, .box 59 (cellsX T59 (Ty.dflt T59))), (4, .box 59 (cellsX T59 st2.1))] (by (simp only [go_sem, hb1, hb3, hb9, hb13, hb15]) <;> (repeat' with_reducible apply And.intro) <;> first | assumption | rfl | omega | (unfold maxLen; omega)) ?_
                refine athen_n ?_
                refine AW.cond (b := true) rfl (fun _ => ?_) (fun hb16 => by cases hb16)
                refine AW.seq ?_
                refine AW.ops ?_
                refine AO.allF tab_ok (by decide) [(2, .bp 2 0), (3, .bool false)] [(2, .box 59 (cellsX T59 (Ty.dflt T59)))] (by (simp only [go_sem, hb1, hb3, hb9, hb13, hb15]) <;> (repeat' with_reducible apply And.intro) <;> first | assumption | rfl | omega | (unfold maxLen; omega)) ?_
                refine athen_n ?_
                refine AW.ret ?_
                refine athen_r ?_
                refine ablock_r ?_
                refine athen_r ?_
                obtain rfl := Option.some.inj h
                rw [← hd6 _ rfl] at ho5
                have h := ho5
                try simp only at h
                refine athen_r ?_
                refine ablock_r ?_
                refine athen_r ?_
                obtain rfl := Option.some.inj h
                exact ⟨rfl, [], [], [], rfl, (by (simp only [go_sem, hb1, hb3, hb9, hb13, hb15]) <;> (repeat' with_reducible apply And.intro) <;> first | assumption | rfl | omega | (unfold maxLen; omega))⟩
              · rw [if_neg (Bool.eq_false_iff.1 hb15)] at h
                refine AO.weaken (s' := ⟨fr [(1, .bp 1 0), (2, .bp 2 0), (4, .bp 4 0), (8, .int .i64 (l.2.getD st2.2.toNat (0, 0)).1), (9, .int .i64 (l.2.getD st2.2.toNat (0, 0)).2), (28, .sl (.pair (.int .i64) (.int .i64)) l.2), (29, .int .i64 (l.2.length : Int)), (30, .int .i64 st2.2), (45, .bool false)], hpGet [(1, .box 24 [.int .i64 l.1, .sl (.pair (.int .i64) (.int .i64)) l.2]), (2, .box 59 (cellsX T59 (Ty.dflt T59))), (4, .box 59 (cellsX T59 st2.1))], gt⟩) (Wk.to (by (simp only [go_sem, hb1, hb3, hb9, hb13, hb15]) <;> (repeat' with_reducible apply And.intro) <;> first | assumption | rfl | omega | (unfold maxLen; omega))) ?_
                refine AO.segF tab_ok 6 (by decide) [(1, .bp 1 0), (2, .bp 2 0), (4, .bp 4 0), (8, .int .i64 (l.2.getD st2.2.toNat (0, 0)).1), (9, .int .i64 (l.2.getD st2.2.toNat (0, 0)).2), (28, .sl (.pair (.int .i64) (.int .i64)) l.2), (29, .int .i64 (l.2.length : Int)), (30, .int .i64 st2.2), (51, .bool (decide (l.1 ≤ (l.2.getD st2.2.toNat (0, 0)).2)))] [(1, .box 24 [.int .i64 l.1, .sl (.pair (.int .i64) (.int .i64)) l.2]), (2, .box 59 (cellsX T59 (Ty.dflt T59))), (4, .box 59 (cellsX T59 st2.1))] (by (simp only [go_sem, hb1, hb3, hb9, hb13, hb15]) <;> (repeat' with_reducible apply And.intro) <;> first | assumption | rfl | omega | (unfold maxLen; omega)) ?_
                rcases Bool.eq_false_or_eq_true (decide (l.1 ≤ (l.2.getD st2.2.toNat (0, 0)).2)) with hb17 | hb17
                · rw [if_pos hb17] at h
                  refine AO.weaken (s' := ⟨fr [(1, .bp 1 0), (2, .bp 2 0), (4, .bp 4 0), (8, .int .i64 (l.2.getD st2.2.toNat (0, 0)).1), (9, .int .i64 (l.2.getD st2.2.toNat (0, 0)).2), (28, .sl (.pair (.int .i64) (.int .i64)) l.2), (29, .int .i64 (l.2.length : Int)), (30, .int .i64 st2.2), (51, .bool true)], hpGet [(1, .box 24 [.int .i64 l.1, .sl (.pair (.int .i64) (.int .i64)) l.2]), (2, .box 59 (cellsX T59 (Ty.dflt T59))), (4, .box 59 (cellsX T59 st2.1))], gt⟩) (Wk.to (by (simp only [go_sem, hb1, hb3, hb9, hb13, hb15, hb17]) <;> (repeat' with_reducible apply And.intro) <;> first | assumption | rfl | omega | (unfold maxLen; omega))) ?_
                  refine AO.segF tab_ok 4 (by decide) [(1, .bp 1 0), (2, .bp 2 0), (4, .bp 4 0), (8, .int .i64 (l.2.getD st2.2.toNat (0, 0)).1), (9, .int .i64 (l.2.getD st2.2.toNat (0, 0)).2), (28, .sl (.pair (.int .i64) (.int .i64)) l.2), (29, .int .i64 (l.2.length : Int)), (30, .int .i64 st2.2), (51, .bool true), (55, .cv (undef))] [(1, .box 24 [.int .i64 l.1, .sl (.pair (.int .i64) (.int .i64)) l.2]), (2, .box 59 (cellsX T59 (Ty.dflt T59))), (4, .box 59 (cellsX T59 st2.1))] (by (simp only [go_sem, hb1, hb3, hb9, hb13, hb15, hb17]) <;> (repeat' with_reducible apply And.intro) <;> first | assumption | rfl | omega | (unfold maxLen; omega)) ?_
                  refine AO.allF tab_ok (by decide) [(1, .bp 1 0), (2, .bp 2 0), (4, .bp 4 0), (8, .int .i64 (l.2.getD st2.2.toNat (0, 0)).1), (9, .int .i64 (l.2.getD st2.2.toNat (0, 0)).2), (28, .sl (.pair (.int .i64) (.int .i64)) l.2), (29, .int .i64 (l.2.length : Int)), (30, .int .i64 st2.2), (57, .bool true)] [(1, .box 24 [.int .i64 l.1, .sl (.pair (.int .i64) (.int .i64)) l.2]), (2, .box 59 (cellsX T59 (Ty.dflt T59))), (4, .box 59 (cellsX T59 st2.1))] (by (simp only [go_sem, hb1, hb3, hb9, hb13, hb15, hb17]) <;> (repeat' with_reducible apply And.intro) <;> first | assumption | rfl | omega | (unfold maxLen; omega)) ?_
                  refine athen_n ?_
                  refine AW.cond (b := true) rfl (fun _ => ?_) (fun hb18 => by cases hb18)
                  refine AW.seq ?_
                  refine AW.ops ?_
                  refine AO.allF tab_ok (by decide) [(2, .bp 2 0), (3, .bool false)] [(2, .box 59 (cellsX T59 (Ty.dflt T59)))] (by (simp only [go_sem, hb1, hb3, hb9, hb13, hb15, hb17]) <;> (repeat' with_reducible apply And.intro) <;> first | assumption | rfl | omega | (unfold maxLen; omega)) ?_
                  refine athen_n ?_
                  refine AW.ret ?_
                  refine athen_r ?_
                  refine ablock_r ?_
                  refine athen_r ?_
                  obtain rfl := Option.some.inj h
                  rw [← hd6 _ rfl] at ho5
                  have h := ho5
                  try simp only at h
                  refine athen_r ?_
                  refine ablock_r ?_
                  refine athen_r ?_
                  obtain rfl := Option.some.inj h
                  exact ⟨rfl, [], [], [], rfl, (by (simp only [go_sem, hb1, hb3, hb9, hb13, hb15, hb17]) <;> (repeat' with_reducible apply And.intro) <;> first | assumption | rfl | omega | (unfold maxLen; omega))⟩
                · rw [if_neg (Bool.eq_false_iff.1 hb17)] at h
                  refine AO.weaken (s' := ⟨fr [(1, .bp 1 0), (2, .bp 2 0), (4, .bp 4 0), (8, .int .i64 (l.2.getD st2.2.toNat (0, 0)).1), (9, .int .i64 (l.2.getD st2.2.toNat (0, 0)).2), (28, .sl (.pair (.int .i64) (.int .i64)) l.2), (29, .int .i64 (l.2.length : Int)), (30, .int .i64 st2.2), (51, .bool false)], hpGet [(1, .box 24 [.int .i64 l.1, .sl (.pair (.int .i64) (.int .i64)) l.2]), (2, .box 59 (cellsX T59 (Ty.dflt T59))), (4, .box 59 (cellsX T59 st2.1))], gt⟩) (Wk.to (by (simp only [go_sem, hb1, hb3, hb9, hb13, hb15, hb17]) <;> (repeat' with_reducible apply And.intro) <;> first | assumption | rfl | omega | (unfold maxLen; omega))) ?_
                  obtain ⟨c19, h⟩ := ck_some.1 h
                  obtain ⟨c20, h⟩ := ck_some.1 h
                  obtain ⟨c21, h⟩ := ck_some.1 h
                  obtain ⟨c22, h⟩ := ck_some.1 h
                  have hx23 : ((0 + (l.2.getD st2.2.toNat (0, 0)).1.toNat * 6) + (l.2.getD st2.2.toNat (0, 0)).2.toNat * 1) < 36 := by omega
                  refine AO.allF tab_ok (by decide) [(1, .bp 1 0), (2, .bp 2 0), (4, .bp 4 0), (8, .int .i64 (l.2.getD st2.2.toNat (0, 0)).1), (9, .int .i64 (l.2.getD st2.2.toNat (0, 0)).2), (28, .sl (.pair (.int .i64) (.int .i64)) l.2), (29, .int .i64 (l.2.length : Int)), (30, .int .i64 st2.2), (57, .bool (boolAt T59 st2.1 ((0 + (l.2.getD st2.2.toNat (0, 0)).1.toNat * 6) + (l.2.getD st2.2.toNat (0, 0)).2.toNat * 1)))] [(1, .box 24 [.int .i64 l.1, .sl (.pair (.int .i64) (.int .i64)) l.2]), (2, .box 59 (cellsX T59 (Ty.dflt T59))), (4, .box 59 (cellsX T59 st2.1))] (by (simp only [go_sem, hb1, hb3, hb9, hb13, hb15, hb17, hx23]) <;> (repeat' with_reducible apply And.intro) <;> first | assumption | rfl | omega | (unfold maxLen; omega)) ?_
                  refine athen_n ?_
                  refine AW.cond (b := (boolAt T59 st2.1 ((0 + (l.2.getD st2.2.toNat (0, 0)).1.toNat * 6) + (l.2.getD st2.2.toNat (0, 0)).2.toNat * 1))) rfl (fun hb24 => ?_) (fun hb24 => ?_)
                  · rw [if_pos hb24] at h
                    refine AW.seq ?_
                    refine AW.ops ?_
                    refine AO.allF tab_ok (by decide) [(2, .bp 2 0), (3, .bool false)] [(2, .box 59 (cellsX T59 (Ty.dflt T59)))] (by (simp only [go_sem, hb1, hb3, hb9, hb13, hb15, hb17, hx23, hb24]) <;> (repeat' with_reducible apply And.intro) <;> first | assumption | rfl | omega | (unfold maxLen; omega)) ?_
                    refine athen_n ?_
                    refine AW.ret ?_
                    refine athen_r ?_
                    refine ablock_r ?_
                    refine athen_r ?_
                    obtain rfl := Option.some.inj h
                    rw [← hd6 _ rfl] at ho5
                    have h := ho5
                    try simp only at h
                    refine athen_r ?_
                    refine ablock_r ?_
                    refine athen_r ?_
                    obtain rfl := Option.some.inj h
                    exact ⟨rfl, [], [], [], rfl, (by (simp only [go_sem, hb1, hb3, hb9, hb13, hb15, hb17, hx23, hb24]) <;> (repeat' with_reducible apply And.intro) <;> first | assumption | rfl | omega | (unfold maxLen; omega))⟩
                  · rw [if_neg (Bool.eq_false_iff.1 hb24)] at h
                    refine AW.skip ?_
                    refine athen_n ?_
                    refine AW.draw tab_ok mixed_ok [(6, [4]), (9, [4])] [(2, []), (3, []), (7, [4, 999999]), (100006, []), (100009, [])] (by decide) (by kernel_rfl) ?_
                    obtain ⟨c26, h⟩ := ck_some.1 h
                    obtain ⟨c27, h⟩ := ck_some.1 h
                    obtain ⟨c28, h⟩ := ck_some.1 h
                    obtain ⟨c29, h⟩ := ck_some.1 h
                    refine adops_cut 6 (fun K' hK25 => ?_)
                    try dsimp only [List.drop_succ_cons, List.drop_zero, List.take_succ_cons, List.take_zero]
                    simp only [go_sem, hb1, hb3, hb9, hb13, hb15, hb17, hx23, hb24]
                    repeat (with_reducible refine And.intro (by first | assumption | rfl | omega | trivial | (unfold maxLen; omega)) ?_)
                    refine hK25 _ ?_
                    have hx31 : ((0 + (l.2.getD st2.2.toNat (0, 0)).1.toNat * 6) + (l.2.getD st2.2.toNat (0, 0)).2.toNat * 1) < 36 := by omega
                    obtain ⟨c32, h⟩ := ck_some.1 h
                    obtain ⟨c33, h⟩ := ck_some.1 h
                    obtain ⟨c34, h⟩ := ck_some.1 h
                    obtain ⟨c35, h⟩ := ck_some.1 h
                    have hx36 : ((0 + (l.2.getD st2.2.toNat (0, 0)).2.toNat * 6) + (l.2.getD st2.2.toNat (0, 0)).1.toNat * 1) < 36 := by omega
                    refine adops_cut 4 (fun K' hK30 => ?_)
                    try dsimp only [List.drop_succ_cons, List.drop_zero, List.take_succ_cons, List.take_zero]
                    simp only [go_sem, hb1, hb3, hb9, hb13, hb15, hb17, hx23, hb24, hx31, hx36]
                    repeat (with_reducible refine And.intro (by first | assumption | rfl | omega | trivial | (unfold maxLen; omega)) ?_)
                    refine hK30 _ ?_
                    refine adops_nil ?_
                    refine ablock_n ?_
                    refine athen_n ?_
                    refine AW.weaken (s' := ⟨fr [(1, .bp 1 0), (2, .bp 2 0), (4, .bp 4 0), (28, .sl (.pair (.int .i64) (.int .i64)) l.2), (29, .int .i64 (l.2.length : Int)), (30, .int .i64 st2.2)], hpGet [(1, .box 24 [.int .i64 l.1, .sl (.pair (.int .i64) (.int .i64)) l.2]), (2, .box 59 (cellsX T59 (Ty.dflt T59))), (4, .box 59 (cellsX T59 (setBool T59 (setBool T59 st2.1 ((0 + (l.2.getD st2.2.toNat (0, 0)).1.toNat * 6) + (l.2.getD st2.2.toNat (0, 0)).2.toNat * 1) true) ((0 + (l.2.getD st2.2.toNat (0, 0)).2.toNat * 6) + (l.2.getD st2.2.toNat (0, 0)).1.toNat * 1) true)))], gt⟩) (Wk.to (by (simp only [go_sem, hb1, hb3, hb9, hb13, hb15, hb17, hx23, hb24, hx31, hx36]) <;> (repeat' with_reducible apply And.intro) <;> first | assumption | rfl | omega | (unfold maxLen; omega))) ?_
                    refine AW.ops ?_
                    obtain ⟨c37, h⟩ := ck_some.1 h
                    refine AO.allF tab_ok (by decide) [(1, .bp 1 0), (2, .bp 2 0), (4, .bp 4 0), (28, .sl (.pair (.int .i64) (.int .i64)) l.2), (29, .int .i64 (l.2.length : Int)), (30, .int .i64 (st2.2 + 1))] [(1, .box 24 [.int .i64 l.1, .sl (.pair (.int .i64) (.int .i64)) l.2]), (2, .box 59 (cellsX T59 (Ty.dflt T59))), (4, .box 59 (cellsX T59 (setBool T59 (setBool T59 st2.1 ((0 + (l.2.getD st2.2.toNat (0, 0)).1.toNat * 6) + (l.2.getD st2.2.toNat (0, 0)).2.toNat * 1) true) ((0 + (l.2.getD st2.2.toNat (0, 0)).2.toNat * 6) + (l.2.getD st2.2.toNat (0, 0)).1.toNat * 1) true)))] (by (simp only [go_sem, hb1, hb3, hb9, hb13, hb15, hb17, hx23, hb24, hx31, hx36]) <;> (repeat' with_reducible apply And.intro) <;> first | assumption | rfl | omega | (unfold maxLen; omega)) ?_
                    obtain rfl := Option.some.inj h
                    exact ⟨_, rfl, Wk.le [] [] [] rfl (by (simp only [go_sem, hb1, hb3, hb9, hb13, hb15, hb17, hx23, hb24, hx31, hx36]) <;> (repeat' with_reducible apply And.intro) <;> first | assumption | rfl | omega | (unfold maxLen; omega)) (by (simp only [go_sem, hb1, hb3, hb9, hb13, hb15, hb17, hx23, hb24, hx31, hx36]) <;> (repeat' with_reducible apply And.intro) <;> first | assumption | rfl | omega | (unfold maxLen; omega))⟩
          · rw [if_neg (Bool.eq_false_iff.1 hb9)] at h
            refine AW.exit ?_
            refine athen_e ?_
            obtain rfl := Option.some.inj h
            rw [← hd6 _ rfl] at ho5
            have h := ho5
            try simp only at h
            refine athen_e ?_
            refine ablock_s ?_
            refine athen_n ?_
            exact AW.weaken (Wk.le [] [] [] rfl (by (simp only [go_sem, hb1, hb3, hb9]) <;> (repeat' with_reducible apply And.intro) <;> first | assumption | rfl | omega | (unfold maxLen; omega)) (by (simp only [go_sem, hb1, hb3, hb9]) <;> (repeat' with_reducible apply And.intro) <;> first | assumption | rfl | omega | (unfold maxLen; omega))) (hk_weave_tiesOf_k2 _ h)
      · refine AW.seq ?_
        refine AW.seq ?_
        refine AW.ops ?_
        refine AO.allF tab_ok (by decide) [(1, .bp 1 0), (2, .bp 2 0), (4, .bp 4 0), (19, .int .i64 0)] [(1, .box 24 [.int .i64 l.1, .sl (.pair (.int .i64) (.int .i64)) l.2]), (2, .box 59 (cellsX T59 (Ty.dflt T59))), (4, .box 59 (cellsX T59 (Ty.dflt T59)))] (by (simp only [go_sem, hb1, hb3]) <;> (repeat' with_reducible apply And.intro) <;> first | assumption | rfl | omega | (unfold maxLen; omega)) ?_
        refine athen_n ?_
        refine AW.block ?_
        obtain ⟨rv42, hw38, ho39⟩ := Option.bind_eq_some_iff.1 h
        refine AW.loopO (weave_tiesOf_b1) (fun st1 => ⟨fr [(1, .bp 1 0), (2, .bp 2 0), (4, .bp 4 0), (19, .int .i64 st1.2)], hpGet [(1, .box 24 [.int .i64 l.1, .sl (.pair (.int .i64) (.int .i64)) l.2]), (2, .box 59 (cellsX T59 (Ty.dflt T59))), (4, .box 59 (cellsX T59 st1.1))], gt⟩) ((Ty.dflt T59), 0) hw38 (Wk.le [] [] [] rfl (by (simp only [go_sem, hb1, hb3]) <;> (repeat' with_reducible apply And.intro) <;> first | assumption | rfl | omega | (unfold maxLen; omega)) (by (simp only [go_sem, hb1, hb3]) <;> (repeat' with_reducible apply And.intro) <;> first | assumption | rfl | omega | (unfold maxLen; omega))) ?_
        intro st1 x41 h hd40
        unfold weave_tiesOf_b1 at h
        refine AW.seq ?_
        refine AW.ops ?_
        refine AO.allF tab_ok (by decide) [(1, .bp 1 0), (2, .bp 2 0), (4, .bp 4 0), (19, .int .i64 st1.2), (20, .bool (decide (st1.2 < 6)))] [(1, .box 24 [.int .i64 l.1, .sl (.pair (.int .i64) (.int .i64)) l.2]), (2, .box 59 (cellsX T59 (Ty.dflt T59))), (4, .box 59 (cellsX T59 st1.1))] (by (simp only [go_sem, hb1, hb3]) <;> (repeat' with_reducible apply And.intro) <;> first | assumption | rfl | omega | (unfold maxLen; omega)) ?_
        refine athen_n ?_
        refine AW.seq ?_
        refine AW.cond (b := (decide (st1.2 < 6))) rfl (fun hb43 => ?_) (fun hb43 => ?_)
        · rw [if_pos hb43] at h
          refine AW.skip ?_
          refine athen_n ?_
          refine AW.seq ?_
          refine AW.block ?_
          refine AW.seq ?_
          refine AW.ops ?_
          refine AO.allF tab_ok (by decide) [(1, .bp 1 0), (2, .bp 2 0), (4, .bp 4 0), (5, .int .i64 st1.2), (19, .int .i64 st1.2)] [(1, .box 24 [.int .i64 l.1, .sl (.pair (.int .i64) (.int .i64)) l.2]), (2, .box 59 (cellsX T59 (Ty.dflt T59))), (4, .box 59 (cellsX T59 st1.1))] (by (simp only [go_sem, hb1, hb3, hb43]) <;> (repeat' with_reducible apply And.intro) <;> first | assumption | rfl | omega | (unfold maxLen; omega)) ?_
          refine athen_n ?_
          refine AW.ops ?_
          obtain ⟨c44, h⟩ := ck_some.1 h
          obtain ⟨c45, h⟩ := ck_some.1 h
          obtain ⟨c46, h⟩ := ck_some.1 h
          obtain ⟨c47, h⟩ := ck_some.1 h
          have hx48 : ((0 + st1.2.toNat * 6) + st1.2.toNat * 1) < 36 := by omega
          refine AO.allF tab_ok (by decide) [(1, .bp 1 0), (2, .bp 2 0), (4, .bp 4 0), (19, .int .i64 st1.2)] [(1, .box 24 [.int .i64 l.1, .sl (.pair (.int .i64) (.int .i64)) l.2]), (2, .box 59 (cellsX T59 (Ty.dflt T59))), (4, .box 59 (cellsX T59 (setBool T59 st1.1 ((0 + st1.2.toNat * 6) + st1.2.toNat * 1) true)))] (by (simp only [go_sem, hb1, hb3, hb43, hx48]) <;> (repeat' with_reducible apply And.intro) <;> first | assumption | rfl | omega | (unfold maxLen; omega)) ?_
          refine ablock_n ?_
          refine athen_n ?_
          refine AW.ops ?_
          obtain ⟨c49, h⟩ := ck_some.1 h
          refine AO.allF tab_ok (by decide) [(1, .bp 1 0), (2, .bp 2 0), (4, .bp 4 0), (19, .int .i64 (st1.2 + 1))] [(1, .box 24 [.int .i64 l.1, .sl (.pair (.int .i64) (.int .i64)) l.2]), (2, .box 59 (cellsX T59 (Ty.dflt T59))), (4, .box 59 (cellsX T59 (setBool T59 st1.1 ((0 + st1.2.toNat * 6) + st1.2.toNat * 1) true)))] (by (simp only [go_sem, hb1, hb3, hb43, hx48]) <;> (repeat' with_reducible apply And.intro) <;> first | assumption | rfl | omega | (unfold maxLen; omega)) ?_
          obtain rfl := Option.some.inj h
          exact ⟨_, rfl, Wk.le [] [] [] rfl (by (simp only [go_sem, hb1, hb3, hb43, hx48]) <;> (repeat' with_reducible apply And.intro) <;> first | assumption | rfl | omega | (unfold maxLen; omega)) (by (simp only [go_sem, hb1, hb3, hb43, hx48]) <;> (repeat' with_reducible apply And.intro) <;> first | assumption | rfl | omega | (unfold maxLen; omega))⟩
        · rw [if_neg (Bool.eq_false_iff.1 hb43)] at h
          refine AW.exit ?_
          refine athen_e ?_
          obtain rfl := Option.some.inj h
          rw [← hd40 _ rfl] at ho39
          have h := ho39
          refine athen_e ?_
          refine ablock_s ?_
          refine athen_n ?_
          exact AW.weaken (Wk.le [] [] [] rfl (by (simp only [go_sem, hb1, hb3, hb43]) <;> (repeat' with_reducible apply And.intro) <;> first | assumption | rfl | omega | (unfold maxLen; omega)) (by (simp only [go_sem, hb1, hb3, hb43]) <;> (repeat' with_reducible apply And.intro) <;> first | assumption | rfl | omega | (unfold maxLen; omega))) (hk_weave_tiesOf_k1 _ h)

set_option maxRecDepth 100000 in
set_option maxHeartbeats 2000000 in
theorem hc_weave_isLetter (l : Int × (List (Int × Int))) (a : Int) {r : Bool} (h : weave_isLetter l a = some r) : HC Try.prog 60 [] [.agg [.int .i64 l.1, .sl (.pair (.int .i64) (.int .i64)) l.2], .int .i64 a] [] (.bool r) := by
  unfold weave_isLetter at h
  refine HC.of_body tab_ok (res := [.tmp 4]) Try.func60 rfl (by kernel_rfl) rfl (nt := 13) rfl (by decide) (by simp) ?_
  refine AW.seq ?_
  refine AW.ops ?_
  refine AO.allF tab_ok (by decide) [(1, .int .i64 a), (2, .bp 2 0)] [(2, .box 24 [.int .i64 l.1, .sl (.pair (.int .i64) (.int .i64)) l.2])] (by (simp only [go_sem]) <;> (repeat' with_reducible apply And.intro) <;> first | assumption | rfl | omega | (unfold maxLen; omega)) ?_
  refine athen_n ?_
  refine AW.seq ?_
  refine AW.ops ?_
  refine AO.segF tab_ok 3 (by decide) [(1, .int .i64 a), (2, .bp 2 0), (7, .bool (decide (0 ≤ a)))] [(2, .box 24 [.int .i64 l.1, .sl (.pair (.int .i64) (.int .i64)) l.2])] (by (simp only [go_sem]) <;> (repeat' with_reducible apply And.intro) <;> first | assumption | rfl | omega | (unfold maxLen; omega)) ?_
  rcases Bool.eq_false_or_eq_true (decide (0 ≤ a)) with hb1 | hb1
  · rw [if_pos hb1] at h
    refine AO.weaken (s' := ⟨fr [(1, .int .i64 a), (2, .bp 2 0), (7, .bool true)], hpGet [(2, .box 24 [.int .i64 l.1, .sl (.pair (.int .i64) (.int .i64)) l.2])], gt⟩) (Wk.to (by (simp only [go_sem, hb1]) <;> (repeat' with_reducible apply And.intro) <;> first | assumption | rfl | omega | (unfold maxLen; omega))) ?_
    refine AO.allF tab_ok (by decide) [(4, .bool (decide (a < l.1)))] [] (by (simp only [go_sem, hb1]) <;> (repeat' with_reducible apply And.intro) <;> first | assumption | rfl | omega | (unfold maxLen; omega)) ?_
    refine athen_n ?_
    refine AW.ret ?_
    obtain rfl := Option.some.inj h
    exact ⟨rfl, [], [], [], rfl, (by (simp only [go_sem, hb1]) <;> (repeat' with_reducible apply And.intro) <;> first | assumption | rfl | omega | (unfold maxLen; omega))⟩
  · rw [if_neg (Bool.eq_false_iff.1 hb1)] at h
    refine AO.weaken (s' := ⟨fr [(1, .int .i64 a), (2, .bp 2 0), (7, .bool false)], hpGet [(2, .box 24 [.int .i64 l.1, .sl (.pair (.int .i64) (.int .i64)) l.2])], gt⟩) (Wk.to (by (simp only [go_sem, hb1]) <;> (repeat' with_reducible apply And.intro) <;> first | assumption | rfl | omega | (unfold maxLen; omega))) ?_
    refine AO.segF tab_ok 4 (by decide) [(7, .bool false), (11, .cv (undef))] [] (by (simp only [go_sem, hb1]) <;> (repeat' with_reducible apply And.intro) <;> first | assumption | rfl | omega | (unfold maxLen; omega)) ?_
    refine AO.allF tab_ok (by decide) [(4, .bool false)] [] (by (simp only [go_sem, hb1]) <;> (repeat' with_reducible apply And.intro) <;> first | assumption | rfl | omega | (unfold maxLen; omega)) ?_
    refine athen_n ?_
    refine AW.ret ?_
    obtain rfl := Option.some.inj h
    exact ⟨rfl, [], [], [], rfl, (by (simp only [go_sem, hb1]) <;> (repeat' with_reducible apply And.intro) <;> first | assumption | rfl | omega | (unfold maxLen; omega))⟩

set_option maxRecDepth 100000 in
set_option maxHeartbeats 2000000 in
theorem hc_weave_isWord (l : Int × (List (Int × Int))) (w : List Int) {r : Bool} (h : weave_isWord l w = some r) : HC Try.prog 89 [] [.agg [.int .i64 l.1, .sl (.pair (.int .i64) (.int .i64)) l.2], .sl (.int .i64) w] [] (.bool r) := by
  unfold weave_isWord at h
  refine HC.of_body tab_ok (res := [.tmp 4]) Try.func89 rfl (by kernel_rfl) rfl (nt := 21) rfl (by decide) (by simp) ?_
  refine AW.seq ?_
  refine AW.ops ?_
  refine AO.allF tab_ok (by decide) [(1, .sl (.int .i64) w), (2, .bp 2 0)] [(2, .box 24 [.int .i64 l.1, .sl (.pair (.int .i64) (.int .i64)) l.2])] (by (simp only [go_sem]) <;> (repeat' with_reducible apply And.intro) <;> first | assumption | rfl | omega | (unfold maxLen; omega)) ?_
  refine athen_n ?_
  refine AW.seq ?_
  refine AW.seq ?_
  refine AW.ops ?_
  refine AO.allF tab_ok (by decide) [(1, .sl (.int .i64) w), (2, .bp 2 0), (9, .bool (decide (10 < (w.length : Int))))] [(2, .box 24 [.int .i64 l.1, .sl (.pair (.int .i64) (.int .i64)) l.2])] (by (simp only [go_sem]) <;> (repeat' with_reducible apply And.intro) <;> first | assumption | rfl | omega | (unfold maxLen; omega)) ?_
  refine athen_n ?_
  refine AW.cond (b := (decide (10 < (w.length : Int)))) rfl (fun hb1 => ?_) (fun hb1 => ?_)
  · rw [if_pos hb1] at h
    refine AW.seq ?_
    refine AW.ops ?_
    refine AO.allF tab_ok (by decide) [(4, .bool false)] [] (by (simp only [go_sem, hb1]) <;> (repeat' with_reducible apply And.intro) <;> first | assumption | rfl | omega | (unfold maxLen; omega)) ?_
    refine athen_n ?_
    refine AW.ret ?_
    refine athen_r ?_
    obtain rfl := Option.some.inj h
    exact ⟨rfl, [], [], [], rfl, (by (simp only [go_sem, hb1]) <;> (repeat' with_reducible apply And.intro) <;> first | assumption | rfl | omega | (unfold maxLen; omega))⟩
  · rw [if_neg (Bool.eq_false_iff.1 hb1)] at h
    refine AW.skip ?_
    refine athen_n ?_
    refine AW.have1 (fun _ : Unit => weave_isWord_k1 = some r) (fun _ => ⟨fr [], hpGet [], gt⟩) (fun _ h => ?_) (fun hk_weave_isWord_k1 => ?_)
    · unfold weave_isWord_k1 at h
      refine AW.seq ?_
      refine AW.ops ?_
      refine AO.allF tab_ok (by decide) [(4, .bool true)] [] (by (simp only [go_sem, hb1]) <;> (repeat' with_reducible apply And.intro) <;> first | assumption | rfl | omega | (unfold maxLen; omega)) ?_
      refine athen_n ?_
      refine AW.ret ?_
      obtain rfl := Option.some.inj h
      exact ⟨rfl, [], [], [], rfl, (by (simp only [go_sem, hb1]) <;> (repeat' with_reducible apply And.intro) <;> first | assumption | rfl | omega | (unfold maxLen; omega))⟩
    · refine AW.seq ?_
      refine AW.seq ?_
      refine AW.ops ?_
      refine AO.allF tab_ok (by decide) [(2, .bp 2 0), (10, .sl (.int .i64) w), (11, .int .i64 (w.length : Int)), (12, .int .i64 0)] [(2, .box 24 [.int .i64 l.1, .sl (.pair (.int .i64) (.int .i64)) l.2])] (by (simp only [go_sem, hb1]) <;> (repeat' with_reducible apply And.intro) <;> first | assumption | rfl | omega | (unfold maxLen; omega)) ?_
      refine athen_n ?_
      refine AW.block ?_
      obtain ⟨rv6, hw2, ho3⟩ := Option.bind_eq_some_iff.1 h
      refine AW.loopO (weave_isWord_b1 l w) (fun st1 => ⟨fr [(2, .bp 2 0), (10, .sl (.int .i64) w), (11, .int .i64 (w.length : Int)), (12, .int .i64 st1)], hpGet [(2, .box 24 [.int .i64 l.1, .sl (.pair (.int .i64) (.int .i64)) l.2])], gt⟩) 0 hw2 (Wk.le [] [] [] rfl (by (simp only [go_sem, hb1]) <;> (repeat' with_reducible apply And.intro) <;> first | assumption | rfl | omega | (unfold maxLen; omega)) (by (simp only [go_sem, hb1]) <;> (repeat' with_reducible apply And.intro) <;> first | assumption | rfl | omega | (unfold maxLen; omega))) ?_
      intro st1 x5 h hd4
      unfold weave_isWord_b1 at h
      refine AW.seq ?_
      refine AW.ops ?_
      refine AO.allF tab_ok (by decide) [(2, .bp 2 0), (10, .sl (.int .i64) w), (11, .int .i64 (w.length : Int)), (12, .int .i64 st1), (13, .bool (decide (st1 < (w.length : Int))))] [(2, .box 24 [.int .i64 l.1, .sl (.pair (.int .i64) (.int .i64)) l.2])] (by (simp only [go_sem, hb1]) <;> (repeat' with_reducible apply And.intro) <;> first | assumption | rfl | omega | (unfold maxLen; omega)) ?_
      refine athen_n ?_
      refine AW.seq ?_
      refine AW.cond (b := (decide (st1 < (w.length : Int)))) rfl (fun hb7 => ?_) (fun hb7 => ?_)
      · rw [if_pos hb7] at h
        refine AW.skip ?_
        refine athen_n ?_
        refine AW.seq ?_
        refine AW.block ?_
        refine AW.seq ?_
        refine AW.ops ?_
        obtain ⟨c8, h⟩ := ck_some.1 h
        obtain ⟨c9, h⟩ := ck_some.1 h
        refine AO.allF tab_ok (by decide) [(2, .bp 2 0), (6, .int .i64 (w.getD st1.toNat 0)), (10, .sl (.int .i64) w), (11, .int .i64 (w.length : Int)), (12, .int .i64 st1)] [(2, .box 24 [.int .i64 l.1, .sl (.pair (.int .i64) (.int .i64)) l.2])] (by (simp only [go_sem, hb1, hb7]) <;> (repeat' with_reducible apply And.intro) <;> first | assumption | rfl | omega | (unfold maxLen; omega)) ?_
        refine athen_n ?_
        refine AW.seq ?_
        refine AW.ops ?_
        refine AO.segF tab_ok 2 (by decide) [(2, .bp 2 0), (10, .sl (.int .i64) w), (11, .int .i64 (w.length : Int)), (12, .int .i64 st1), (16, .agg [.int .i64 l.1, .sl (.pair (.int .i64) (.int .i64)) l.2]), (17, .int .i64 (w.getD st1.toNat 0))] [(2, .box 24 [.int .i64 l.1, .sl (.pair (.int .i64) (.int .i64)) l.2])] (by (simp only [go_sem, hb1, hb7]) <;> (repeat' with_reducible apply And.intro) <;> first | assumption | rfl | omega | (unfold maxLen; omega)) ?_
        obtain ⟨v0, hv10, h⟩ := Option.bind_eq_some_iff.1 h
        refine AO.call tab_ok (by decide) rfl rfl rfl (fun _ h => h) [] [] (hc_weave_isLetter l (w.getD st1.toNat 0) hv10) rfl (by (simp only [go_sem, hb1, hb7]) <;> (repeat' with_reducible apply And.intro) <;> first | assumption | rfl | omega | (unfold maxLen; omega)) (by (simp only [go_sem, hb1, hb7]) <;> (repeat' with_reducible apply And.intro) <;> first | assumption | rfl | omega | (unfold maxLen; omega)) [(2, .bp 2 0), (10, .sl (.int .i64) w), (11, .int .i64 (w.length : Int)), (12, .int .i64 st1), (18, .bool v0)] [(2, .box 24 [.int .i64 l.1, .sl (.pair (.int .i64) (.int .i64)) l.2])] (by (simp only [go_sem, hb1, hb7]) <;> (repeat' with_reducible apply And.intro) <;> first | assumption | rfl | omega | (unfold maxLen; omega)) ?_
        refine AO.allF tab_ok (by decide) [(2, .bp 2 0), (10, .sl (.int .i64) w), (11, .int .i64 (w.length : Int)), (12, .int .i64 st1), (19, .bool (!v0))] [(2, .box 24 [.int .i64 l.1, .sl (.pair (.int .i64) (.int .i64)) l.2])] (by (simp only [go_sem, hb1, hb7]) <;> (repeat' with_reducible apply And.intro) <;> first | assumption | rfl | omega | (unfold maxLen; omega)) ?_
        refine athen_n ?_
        refine AW.cond (b := (!v0)) rfl (fun hb11 => ?_) (fun hb11 => ?_)
        · rw [if_pos hb11] at h
          refine AW.seq ?_
          refine AW.ops ?_
          refine AO.allF tab_ok (by decide) [(4, .bool false)] [] (by (simp only [go_sem, hb1, hb7, hb11]) <;> (repeat' with_reducible apply And.intro) <;> first | assumption | rfl | omega | (unfold maxLen; omega)) ?_
          refine athen_n ?_
          refine AW.ret ?_
          refine ablock_r ?_
          refine athen_r ?_
          obtain rfl := Option.some.inj h
          rw [← hd4 _ rfl] at ho3
          have h := ho3
          try simp only at h
          refine athen_r ?_
          refine ablock_r ?_
          refine athen_r ?_
          obtain rfl := Option.some.inj h
          exact ⟨rfl, [], [], [], rfl, (by (simp only [go_sem, hb1, hb7, hb11]) <;> (repeat' with_reducible apply And.intro) <;> first | assumption | rfl | omega | (unfold maxLen; omega))⟩
        · rw [if_neg (Bool.eq_false_iff.1 hb11)] at h
          refine AW.skip ?_
          refine ablock_n ?_
          refine athen_n ?_
          refine AW.ops ?_
          obtain ⟨c12, h⟩ := ck_some.1 h
          refine AO.allF tab_ok (by decide) [(2, .bp 2 0), (10, .sl (.int .i64) w), (11, .int .i64 (w.length : Int)), (12, .int .i64 (st1 + 1))] [(2, .box 24 [.int .i64 l.1, .sl (.pair (.int .i64) (.int .i64)) l.2])] (by (simp only [go_sem, hb1, hb7, hb11]) <;> (repeat' with_reducible apply And.intro) <;> first | assumption | rfl | omega | (unfold maxLen; omega)) ?_
          obtain rfl := Option.some.inj h
          exact ⟨_, rfl, Wk.le [] [] [] rfl (by (simp only [go_sem, hb1, hb7, hb11]) <;> (repeat' with_reducible apply And.intro) <;> first | assumption | rfl | omega | (unfold maxLen; omega)) (by (simp only [go_sem, hb1, hb7, hb11]) <;> (repeat' with_reducible apply And.intro) <;> first | assumption | rfl | omega | (unfold maxLen; omega))⟩
      · rw [if_neg (Bool.eq_false_iff.1 hb7)] at h
        refine AW.exit ?_
        refine athen_e ?_
        obtain rfl := Option.some.inj h
        rw [← hd4 _ rfl] at ho3
        have h := ho3
        try simp only at h
        refine athen_e ?_
        refine ablock_s ?_
        refine athen_n ?_
        exact AW.weaken (Wk.le [] [] [] rfl (by (simp only [go_sem, hb1, hb7]) <;> (repeat' with_reducible apply And.intro) <;> first | assumption | rfl | omega | (unfold maxLen; omega)) (by (simp only [go_sem, hb1, hb7]) <;> (repeat' with_reducible apply And.intro) <;> first | assumption | rfl | omega | (unfold maxLen; omega))) (hk_weave_isWord_k1 () h)

set_option maxRecDepth 100000 in
set_option maxHeartbeats 2000000 in
theorem hc_weave_checked (l : Int × (List (Int × Int))) (words : List (List Int)) {r : (El T59) × Int} (h : weave_checked l words = some r) : HC Try.prog 59 [] [.agg [.int .i64 l.1, .sl (.pair (.int .i64) (.int .i64)) l.2], .sl (.sl (.int .i64)) words] [] (.tup [.agg (cellsX T59 r.1), .int .i64 r.2]) := by
  unfold weave_checked at h
  refine HC.of_body tab_ok (res := [.cell 4 59, .tmp 5]) Try.func59 rfl (by kernel_rfl) rfl (nt := 31) rfl (by decide) (by simp) ?_
  refine AW.seq ?_
  refine AW.ops ?_
  refine AO.allF tab_ok (by decide) [(1, .sl (.sl (.int .i64)) words), (2, .bp 2 0), (4, .bp 4 0)] [(2, .box 24 [.int .i64 l.1, .sl (.pair (.int .i64) (.int .i64)) l.2]), (4, .box 59 (cellsX T59 (Ty.dflt T59)))] (by (simp only [go_sem]) <;> (repeat' with_reducible apply And.intro) <;> first | assumption | rfl | omega | (unfold maxLen; omega)) ?_
  refine athen_n ?_
  refine AW.seq ?_
  refine AW.ops ?_
  refine AO.segF tab_ok 1 (by decide) [(1, .sl (.sl (.int .i64)) words), (2, .bp 2 0), (4, .bp 4 0), (11, .agg [.int .i64 l.1, .sl (.pair (.int .i64) (.int .i64)) l.2])] [(2, .box 24 [.int .i64 l.1, .sl (.pair (.int .i64) (.int .i64)) l.2]), (4, .box 59 (cellsX T59 (Ty.dflt T59)))] (by (simp only [go_sem]) <;> (repeat' with_reducible apply And.intro) <;> first | assumption | rfl | omega | (unfold maxLen; omega)) ?_
  obtain ⟨v0, hv1, h⟩ := Option.bind_eq_some_iff.1 h
  refine AO.call tab_ok (by decide) rfl rfl rfl (fun _ h => h) [] [] (hc_weave_tiesOf l hv1) rfl (by (simp only [go_sem]) <;> (repeat' with_reducible apply And.intro) <;> first | assumption | rfl | omega | (unfold maxLen; omega)) (by (simp only [go_sem]) <;> (repeat' with_reducible apply And.intro) <;> first | assumption | rfl | omega | (unfold maxLen; omega)) [(1, .sl (.sl (.int .i64)) words), (2, .bp 2 0), (4, .bp 4 0), (12, .tup [.agg (cellsX T59 v0.1), .bool v0.2])] [(2, .box 24 [.int .i64 l.1, .sl (.pair (.int .i64) (.int .i64)) l.2]), (4, .box 59 (cellsX T59 (Ty.dflt T59)))] (by (simp only [go_sem]) <;> (repeat' with_reducible apply And.intro) <;> first | assumption | rfl | omega | (unfold maxLen; omega)) ?_
  refine AO.allF tab_ok (by decide) [(1, .sl (.sl (.int .i64)) words), (2, .bp 2 0), (4, .bp 4 0), (6, .bp 6 0), (7, .bool v0.2)] [(2, .box 24 [.int .i64 l.1, .sl (.pair (.int .i64) (.int .i64)) l.2]), (4, .box 59 (cellsX T59 (Ty.dflt T59))), (6, .box 59 (cellsX T59 v0.1))] (by (simp only [go_sem]) <;> (repeat' with_reducible apply And.intro) <;> first | assumption | rfl | omega | (unfold maxLen; omega)) ?_
  refine athen_n ?_
  refine AW.seq ?_
  refine AW.seq ?_
  refine AW.ops ?_
  refine AO.allF tab_ok (by decide) [(1, .sl (.sl (.int .i64)) words), (2, .bp 2 0), (4, .bp 4 0), (6, .bp 6 0), (16, .bool (!v0.2))] [(2, .box 24 [.int .i64 l.1, .sl (.pair (.int .i64) (.int .i64)) l.2]), (4, .box 59 (cellsX T59 (Ty.dflt T59))), (6, .box 59 (cellsX T59 v0.1))] (by (simp only [go_sem]) <;> (repeat' with_reducible apply And.intro) <;> first | assumption | rfl | omega | (unfold maxLen; omega)) ?_
  refine athen_n ?_
  refine AW.cond (b := (!v0.2)) rfl (fun hb2 => ?_) (fun hb2 => ?_)
  · rw [if_pos hb2] at h
    refine AW.seq ?_
    refine AW.ops ?_
    refine AO.allF tab_ok (by decide) [(4, .bp 4 0), (5, .int .i64 30)] [(4, .box 59 (cellsX T59 (Ty.dflt T59)))] (by (simp only [go_sem, hb2]) <;> (repeat' with_reducible apply And.intro) <;> first | assumption | rfl | omega | (unfold maxLen; omega)) ?_
    refine athen_n ?_
    refine AW.ret ?_
    refine athen_r ?_
    obtain rfl := Option.some.inj h
    exact ⟨rfl, [], [], [], rfl, (by (simp only [go_sem, hb2]) <;> (repeat' with_reducible apply And.intro) <;> first | assumption | rfl | omega | (unfold maxLen; omega))⟩
  · rw [if_neg (Bool.eq_false_iff.1 hb2)] at h
    refine AW.skip ?_
    refine athen_n ?_
    refine AW.have1 (fun _ : Unit => weave_checked_k1 v0 = some r) (fun _ => ⟨fr [(4, .bp 4 0), (6, .bp 6 0)], hpGet [(4, .box 59 (cellsX T59 (Ty.dflt T59))), (6, .box 59 (cellsX T59 v0.1))], gt⟩) (fun _ h => ?_) (fun hk_weave_checked_k1 => ?_)
    · unfold weave_checked_k1 at h
      refine AW.seq ?_
      refine AW.ops ?_
      refine AO.allF tab_ok (by decide) [(4, .bp 4 0), (5, .int .i64 0)] [(4, .box 59 (cellsX T59 v0.1))] (by (simp only [go_sem, hb2]) <;> (repeat' with_reducible apply And.intro) <;> first | assumption | rfl | omega | (unfold maxLen; omega)) ?_
      refine athen_n ?_
      refine AW.ret ?_
      obtain rfl := Option.some.inj h
      exact ⟨rfl, [], [], [], rfl, (by (simp only [go_sem, hb2]) <;> (repeat' with_reducible apply And.intro) <;> first | assumption | rfl | omega | (unfold maxLen; omega))⟩
    · refine AW.seq ?_
      refine AW.seq ?_
      refine AW.ops ?_
      refine AO.allF tab_ok (by decide) [(2, .bp 2 0), (4, .bp 4 0), (6, .bp 6 0), (18, .sl (.sl (.int .i64)) words), (19, .int .i64 (words.length : Int)), (20, .int .i64 0)] [(2, .box 24 [.int .i64 l.1, .sl (.pair (.int .i64) (.int .i64)) l.2]), (4, .box 59 (cellsX T59 (Ty.dflt T59))), (6, .box 59 (cellsX T59 v0.1))] (by (simp only [go_sem, hb2]) <;> (repeat' with_reducible apply And.intro) <;> first | assumption | rfl | omega | (unfold maxLen; omega)) ?_
      refine athen_n ?_
      refine AW.block ?_
      obtain ⟨rv7, hw3, ho4⟩ := Option.bind_eq_some_iff.1 h
      refine AW.loopO (weave_checked_b1 l words) (fun st1 => ⟨fr [(2, .bp 2 0), (4, .bp 4 0), (6, .bp 6 0), (18, .sl (.sl (.int .i64)) words), (19, .int .i64 (words.length : Int)), (20, .int .i64 st1)], hpGet [(2, .box 24 [.int .i64 l.1, .sl (.pair (.int .i64) (.int .i64)) l.2]), (4, .box 59 (cellsX T59 (Ty.dflt T59))), (6, .box 59 (cellsX T59 v0.1))], gt⟩) 0 hw3 (Wk.le [] [] [] rfl (by (simp only [go_sem, hb2]) <;> (repeat' with_reducible apply And.intro) <;> first | assumption | rfl | omega | (unfold maxLen; omega)) (by (simp only [go_sem, hb2]) <;> (repeat' with_reducible apply And.intro) <;> first | assumption | rfl | omega | (unfold maxLen; omega))) ?_
      intro st1 x6 h hd5
      unfold weave_checked_b1 at h
      refine AW.seq ?_
      refine AW.ops ?_
      refine AO.allF tab_ok (by decide) [(2, .bp 2 0), (4, .bp 4 0), (6, .bp 6 0), (18, .sl (.sl (.int .i64)) words), (19, .int .i64 (words.length : Int)), (20, .int .i64 st1), (21, .bool (decide (st1 < (words.length : Int))))] [(2, .box 24 [.int .i64 l.1, .sl (.pair (.int .i64) (.int .i64)) l.2]), (4, .box 59 (cellsX T59 (Ty.dflt T59))), (6, .box 59 (cellsX T59 v0.1))] (by (simp only [go_sem, hb2]) <;> (repeat' with_reducible apply And.intro) <;> first | assumption | rfl | omega | (unfold maxLen; omega)) ?_
      refine athen_n ?_
      refine AW.seq ?_
      refine AW.cond (b := (decide (st1 < (words.length : Int)))) rfl (fun hb8 => ?_) (fun hb8 => ?_)
      · rw [if_pos hb8] at h
        refine AW.skip ?_
        refine athen_n ?_
        refine AW.seq ?_
        refine AW.block ?_
        refine AW.seq ?_
        refine AW.ops ?_
        obtain ⟨c9, h⟩ := ck_some.1 h
        obtain ⟨c10, h⟩ := ck_some.1 h
        refine AO.allF tab_ok (by decide) [(2, .bp 2 0), (4, .bp 4 0), (6, .bp 6 0), (9, .sl (.int .i64) (words.getD st1.toNat [])), (18, .sl (.sl (.int .i64)) words), (19, .int .i64 (words.length : Int)), (20, .int .i64 st1)] [(2, .box 24 [.int .i64 l.1, .sl (.pair (.int .i64) (.int .i64)) l.2]), (4, .box 59 (cellsX T59 (Ty.dflt T59))), (6, .box 59 (cellsX T59 v0.1))] (by (simp only [go_sem, hb2, hb8]) <;> (repeat' with_reducible apply And.intro) <;> first | assumption | rfl | omega | (unfold maxLen; omega)) ?_
        refine athen_n ?_
        refine AW.seq ?_
        refine AW.ops ?_
        refine AO.segF tab_ok 2 (by decide) [(2, .bp 2 0), (4, .bp 4 0), (6, .bp 6 0), (18, .sl (.sl (.int .i64)) words), (19, .int .i64 (words.length : Int)), (20, .int .i64 st1), (24, .agg [.int .i64 l.1, .sl (.pair (.int .i64) (.int .i64)) l.2]), (25, .sl (.int .i64) (words.getD st1.toNat []))] [(2, .box 24 [.int .i64 l.1, .sl (.pair (.int .i64) (.int .i64)) l.2]), (4, .box 59 (cellsX T59 (Ty.dflt T59))), (6, .box 59 (cellsX T59 v0.1))] (by (simp only [go_sem, hb2, hb8]) <;> (repeat' with_reducible apply And.intro) <;> first | assumption | rfl | omega | (unfold maxLen; omega)) ?_
        obtain ⟨v0_2, hv11, h⟩ := Option.bind_eq_some_iff.1 h
        refine AO.call tab_ok (by decide) rfl rfl rfl (fun _ h => h) [] [] (hc_weave_isWord l (words.getD st1.toNat []) hv11) rfl (by (simp only [go_sem, hb2, hb8]) <;> (repeat' with_reducible apply And.intro) <;> first | assumption | rfl | omega | (unfold maxLen; omega)) (by (simp only [go_sem, hb2, hb8]) <;> (repeat' with_reducible apply And.intro) <;> first | assumption | rfl | omega | (unfold maxLen; omega)) [(2, .bp 2 0), (4, .bp 4 0), (6, .bp 6 0), (18, .sl (.sl (.int .i64)) words), (19, .int .i64 (words.length : Int)), (20, .int .i64 st1), (26, .bool v0_2)] [(2, .box 24 [.int .i64 l.1, .sl (.pair (.int .i64) (.int .i64)) l.2]), (4, .box 59 (cellsX T59 (Ty.dflt T59))), (6, .box 59 (cellsX T59 v0.1))] (by (simp only [go_sem, hb2, hb8]) <;> (repeat' with_reducible apply And.intro) <;> first | assumption | rfl | omega | (unfold maxLen; omega)) ?_
        refine AO.allF tab_ok (by decide) [(2, .bp 2 0), (4, .bp 4 0), (6, .bp 6 0), (18, .sl (.sl (.int .i64)) words), (19, .int .i64 (words.length : Int)), (20, .int .i64 st1), (27, .bool (!v0_2))] [(2, .box 24 [.int .i64 l.1, .sl (.pair (.int .i64) (.int .i64)) l.2]), (4, .box 59 (cellsX T59 (Ty.dflt T59))), (6, .box 59 (cellsX T59 v0.1))] (by (simp only [go_sem, hb2, hb8]) <;> (repeat' with_reducible apply And.intro) <;> first | assumption | rfl | omega | (unfold maxLen; omega)) ?_
        refine athen_n ?_
        refine AW.cond (b := (!v0_2)) rfl (fun hb12 => ?_) (fun hb12 => ?_)
        · rw [if_pos hb12] at h
          refine AW.seq ?_
          refine AW.ops ?_
          refine AO.allF tab_ok (by decide) [(4, .bp 4 0), (5, .int .i64 31)] [(4, .box 59 (cellsX T59 (Ty.dflt T59)))] (by (simp only [go_sem, hb2, hb8, hb12]) <;> (repeat' with_reducible apply And.intro) <;> first | assumption | rfl | omega | (unfold maxLen; omega)) ?_
          refine athen_n ?_
          refine AW.ret ?_
          refine ablock_r ?_
          refine athen_r ?_
          obtain rfl := Option.some.inj h
          rw [← hd5 _ rfl] at ho4
          have h := ho4
          try simp only at h
          refine athen_r ?_
          refine ablock_r ?_
          refine athen_r ?_
          obtain rfl := Option.some.inj h
          exact ⟨rfl, [], [], [], rfl, (by (simp only [go_sem, hb2, hb8, hb12]) <;> (repeat' with_reducible apply And.intro) <;> first | assumption | rfl | omega | (unfold maxLen; omega))⟩
        · rw [if_neg (Bool.eq_false_iff.1 hb12)] at h
          refine AW.skip ?_
          refine ablock_n ?_
          refine athen_n ?_
          refine AW.ops ?_
          obtain ⟨c13, h⟩ := ck_some.1 h
          refine AO.allF tab_ok (by decide) [(2, .bp 2 0), (4, .bp 4 0), (6, .bp 6 0), (18, .sl (.sl (.int .i64)) words), (19, .int .i64 (words.length : Int)), (20, .int .i64 (st1 + 1))] [(2, .box 24 [.int .i64 l.1, .sl (.pair (.int .i64) (.int .i64)) l.2]), (4, .box 59 (cellsX T59 (Ty.dflt T59))), (6, .box 59 (cellsX T59 v0.1))] (by (simp only [go_sem, hb2, hb8, hb12]) <;> (repeat' with_reducible apply And.intro) <;> first | assumption | rfl | omega | (unfold maxLen; omega)) ?_
          obtain rfl := Option.some.inj h
          exact ⟨_, rfl, Wk.le [] [] [] rfl (by (simp only [go_sem, hb2, hb8, hb12]) <;> (repeat' with_reducible apply And.intro) <;> first | assumption | rfl | omega | (unfold maxLen; omega)) (by (simp only [go_sem, hb2, hb8, hb12]) <;> (repeat' with_reducible apply And.intro) <;> first | assumption | rfl | omega | (unfold maxLen; omega))⟩
      · rw [if_neg (Bool.eq_false_iff.1 hb8)] at h
        refine AW.exit ?_
        refine athen_e ?_
        obtain rfl := Option.some.inj h
        rw [← hd5 _ rfl] at ho4
        have h := ho4
        try simp only at h
        refine athen_e ?_
        refine ablock_s ?_
        refine athen_n ?_
        exact AW.weaken (Wk.le [] [] [] rfl (by (simp only [go_sem, hb2, hb8]) <;> (repeat' with_reducible apply And.intro) <;> first | assumption | rfl | omega | (unfold maxLen; omega)) (by (simp only [go_sem, hb2, hb8]) <;> (repeat' with_reducible apply And.intro) <;> first | assumption | rfl | omega | (unfold maxLen; omega))) (hk_weave_checked_k1 () h)

set_option maxRecDepth 100000 in
set_option maxHeartbeats 2000000 in
theorem hc_weave_keyOf (w : List Int) {r : (El T94)} (h : weave_keyOf w = some r) : HC Try.prog 96 [] [.sl (.int .i64) w] [] (.agg (cellsX T94 r)) := by
  unfold weave_keyOf at h
  refine HC.of_body tab_ok (res := [.cell 2 94]) Try.func96 rfl (by kernel_rfl) rfl (nt := 19) rfl (by decide) (by simp) ?_
  refine AW.seq ?_
  refine AW.ops ?_
  refine AO.allF tab_ok (by decide) [(0, .sl (.int .i64) w), (2, .bp 2 0)] [(2, .box 94 (cellsX T94 (Ty.dflt T94)))] (by (simp only [go_sem]) <;> (repeat' with_reducible apply And.intro) <;> first | assumption | rfl | omega | (unfold maxLen; omega)) ?_
  refine athen_n ?_
  refine AW.seq ?_
  refine AW.ops ?_
  refine AO.allF tab_ok (by decide) [(0, .sl (.int .i64) w), (2, .bp 2 0), (3, .bp 3 0)] [(2, .box 94 (cellsX T94 (Ty.dflt T94))), (3, .box 94 (cellsX T94 (Ty.dflt T94)))] (by (simp only [go_sem]) <;> (repeat' with_reducible apply And.intro) <;> first | assumption | rfl | omega | (unfold maxLen; omega)) ?_
  refine athen_n ?_
  refine AW.have1 (fun b1 : (El T94) => weave_keyOf_k1 b1 = some r) (fun b1 => ⟨fr [(2, .bp 2 0), (3, .bp 3 0)], hpGet [(2, .box 94 (cellsX T94 (Ty.dflt T94))), (3, .box 94 (cellsX T94 b1))], gt⟩) (fun b1 h => ?_) (fun hk_weave_keyOf_k1 => ?_)
  · unfold weave_keyOf_k1 at h
    refine AW.seq ?_
    refine AW.ops ?_
    refine AO.allF tab_ok (by decide) [(2, .bp 2 0)] [(2, .box 94 (cellsX T94 b1))] (by (simp only [go_sem]) <;> (repeat' with_reducible apply And.intro) <;> first | assumption | rfl | omega | (unfold maxLen; omega)) ?_
    refine athen_n ?_
    refine AW.ret ?_
    obtain rfl := Option.some.inj h
    exact ⟨rfl, [], [], [], rfl, (by (simp only [go_sem]) <;> (repeat' with_reducible apply And.intro) <;> first | assumption | rfl | omega | (unfold maxLen; omega))⟩
  · refine AW.seq ?_
    refine AW.seq ?_
    refine AW.ops ?_
    refine AO.allF tab_ok (by decide) [(2, .bp 2 0), (3, .bp 3 0), (6, .sl (.int .i64) w), (7, .int .i64 (w.length : Int)), (8, .int .i64 0)] [(2, .box 94 (cellsX T94 (Ty.dflt T94))), (3, .box 94 (cellsX T94 (Ty.dflt T94)))] (by (simp only [go_sem]) <;> (repeat' with_reducible apply And.intro) <;> first | assumption | rfl | omega | (unfold maxLen; omega)) ?_
    refine athen_n ?_
    refine AW.block ?_
    obtain ⟨rv5, hw1, ho2⟩ := Option.bind_eq_some_iff.1 h
    refine AW.loopO (weave_keyOf_b1 w) (fun st1 => ⟨fr [(2, .bp 2 0), (3, .bp 3 0), (6, .sl (.int .i64) w), (7, .int .i64 (w.length : Int)), (8, .int .i64 st1.2)], hpGet [(2, .box 94 (cellsX T94 (Ty.dflt T94))), (3, .box 94 (cellsX T94 st1.1))], gt⟩) ((Ty.dflt T94), 0) hw1 (Wk.le [] [] [] rfl (by (simp only [go_sem]) <;> (repeat' with_reducible apply And.intro) <;> first | assumption | rfl | omega | (unfold maxLen; omega)) (by (simp only [go_sem]) <;> (repeat' with_reducible apply And.intro) <;> first | assumption | rfl | omega | (unfold maxLen; omega))) ?_
    intro st1 x4 h hd3
    unfold weave_keyOf_b1 at h
    refine AW.seq ?_
    refine AW.ops ?_
    refine AO.allF tab_ok (by decide) [(2, .bp 2 0), (3, .bp 3 0), (6, .sl (.int .i64) w), (7, .int .i64 (w.length : Int)), (8, .int .i64 st1.2), (9, .bool (decide (st1.2 < (w.length : Int))))] [(2, .box 94 (cellsX T94 (Ty.dflt T94))), (3, .box 94 (cellsX T94 st1.1))] (by (simp only [go_sem]) <;> (repeat' with_reducible apply And.intro) <;> first | assumption | rfl | omega | (unfold maxLen; omega)) ?_
    refine athen_n ?_
    refine AW.seq ?_
    refine AW.cond (b := (decide (st1.2 < (w.length : Int)))) rfl (fun hb6 => ?_) (fun hb6 => ?_)
    · rw [if_pos hb6] at h
      refine AW.skip ?_
      refine athen_n ?_
      refine AW.seq ?_
      refine AW.block ?_
      refine AW.seq ?_
      refine AW.ops ?_
      obtain ⟨c7, h⟩ := ck_some.1 h
      obtain ⟨c8, h⟩ := ck_some.1 h
      refine AO.allF tab_ok (by decide) [(2, .bp 2 0), (3, .bp 3 0), (4, .int .i64 st1.2), (5, .int .i64 (w.getD st1.2.toNat 0)), (6, .sl (.int .i64) w), (7, .int .i64 (w.length : Int)), (8, .int .i64 st1.2)] [(2, .box 94 (cellsX T94 (Ty.dflt T94))), (3, .box 94 (cellsX T94 st1.1))] (by (simp only [go_sem, hb6]) <;> (repeat' with_reducible apply And.intro) <;> first | assumption | rfl | omega | (unfold maxLen; omega)) ?_
      refine athen_n ?_
      refine AW.ops ?_
      obtain ⟨c9, h⟩ := ck_some.1 h
      obtain ⟨c10, h⟩ := ck_some.1 h
      obtain ⟨c11, h⟩ := ck_some.1 h
      have hx12 : (0 + st1.2.toNat * 1) < 10 := by omega
      refine AO.allF tab_ok (by decide) [(2, .bp 2 0), (3, .bp 3 0), (6, .sl (.int .i64) w), (7, .int .i64 (w.length : Int)), (8, .int .i64 st1.2)] [(2, .box 94 (cellsX T94 (Ty.dflt T94))), (3, .box 94 (cellsX T94 (setInt T94 st1.1 (0 + st1.2.toNat * 1) ((w.getD st1.2.toNat 0) + 1))))] (by (simp only [go_sem, hb6, hx12]) <;> (repeat' with_reducible apply And.intro) <;> first | assumption | rfl | omega | (unfold maxLen; omega)) ?_
      refine ablock_n ?_
      refine athen_n ?_
      refine AW.ops ?_
      obtain ⟨c13, h⟩ := ck_some.1 h
      refine AO.allF tab_ok (by decide) [(2, .bp 2 0), (3, .bp 3 0), (6, .sl (.int .i64) w), (7, .int .i64 (w.length : Int)), (8, .int .i64 (st1.2 + 1))] [(2, .box 94 (cellsX T94 (Ty.dflt T94))), (3, .box 94 (cellsX T94 (setInt T94 st1.1 (0 + st1.2.toNat * 1) ((w.getD st1.2.toNat 0) + 1))))] (by (simp only [go_sem, hb6, hx12]) <;> (repeat' with_reducible apply And.intro) <;> first | assumption | rfl | omega | (unfold maxLen; omega)) ?_
      obtain rfl := Option.some.inj h
      exact ⟨_, rfl, Wk.le [] [] [] rfl (by (simp only [go_sem, hb6, hx12]) <;> (repeat' with_reducible apply And.intro) <;> first | assumption | rfl | omega | (unfold maxLen; omega)) (by (simp only [go_sem, hb6, hx12]) <;> (repeat' with_reducible apply And.intro) <;> first | assumption | rfl | omega | (unfold maxLen; omega))⟩
    · rw [if_neg (Bool.eq_false_iff.1 hb6)] at h
      refine AW.exit ?_
      refine athen_e ?_
      obtain rfl := Option.some.inj h
      rw [← hd3 _ rfl] at ho2
      have h := ho2
      refine athen_e ?_
      refine ablock_s ?_
      refine athen_n ?_
      exact AW.weaken (Wk.le [] [] [] rfl (by (simp only [go_sem, hb6]) <;> (repeat' with_reducible apply And.intro) <;> first | assumption | rfl | omega | (unfold maxLen; omega)) (by (simp only [go_sem, hb6]) <;> (repeat' with_reducible apply And.intro) <;> first | assumption | rfl | omega | (unfold maxLen; omega))) (hk_weave_keyOf_k1 _ h)

set_option maxRecDepth 100000 in
set_option maxHeartbeats 2000000 in
theorem hc_weave_ties_starts (t : (El T59)) (w : List Int) {r : Unit} (h : weave_ties_starts t w = some r) : HC Try.prog 77 [] [.agg (cellsX T59 t), .sl (.int .i64) w] [(2000, .box 59 (cellsX T59 t)), (2001, .box 25 [.sl (.int .i64) w])] (.fn (.func 94) [] [.bp 2000 0, .bp 2001 0]) := by
  unfold weave_ties_starts at h
  refine HC.of_body tab_ok (res := [.tmp 4]) Try.func77 rfl (by kernel_rfl) rfl (nt := 6) rfl (by decide) (by simp) ?_
  refine AW.seq ?_
  refine AW.ops ?_
  refine AO.allF tab_ok (by decide) [(2, .bp 2 0), (3, .bp 3 0)] [(2, .box 59 (cellsX T59 t)), (3, .box 25 [.sl (.int .i64) w])] (by (simp only [go_sem]) <;> (repeat' with_reducible apply And.intro) <;> first | assumption | rfl | omega | (unfold maxLen; omega)) ?_
  refine athen_n ?_
  refine AW.seq ?_
  refine AW.ops ?_
  refine AO.allF tab_ok (by decide) [(4, .fn (.func 94) [] [.bp 2 0, .bp 3 0])] [(2, .box 59 (cellsX T59 t)), (3, .box 25 [.sl (.int .i64) w])] (by (simp only [go_sem]) <;> (repeat' with_reducible apply And.intro) <;> first | assumption | rfl | omega | (unfold maxLen; omega)) ?_
  refine athen_n ?_
  refine AW.ret ?_
  obtain rfl := Option.some.inj h
  exact ⟨rfl, [], [], [(2000, 2), (2001, 3)], rfl, (by (simp only [go_sem]) <;> (repeat' with_reducible apply And.intro) <;> first | assumption | rfl | omega | (unfold maxLen; omega))⟩

set_option maxRecDepth 100000 in
set_option maxHeartbeats 2000000 in
theorem hc_slices_Index (s : List Int) (v0 : Int) {r : Int} (h : slices_Index s v0 = some r) : HC Try.prog 90 [] [.sl (.int .i64) s, .int .i64 v0] [] (.int .i64 r) := by
  unfold slices_Index at h
  refine HC.of_body tab_ok (res := [.tmp 4]) Try.func90 rfl (by kernel_rfl) rfl (nt := 19) rfl (by decide) (by simp) ?_
  refine AW.seq ?_
  refine AW.ops ?_
  refine AO.allF tab_ok (by decide) [(0, .sl (.int .i64) s), (1, .int .i64 v0)] [] (by (simp only [go_sem]) <;> (repeat' with_reducible apply And.intro) <;> first | assumption | rfl | omega | (unfold maxLen; omega)) ?_
  refine athen_n ?_
  refine AW.have1 (fun _ : Unit => slices_Index_k1 = some r) (fun _ => ⟨fr [], hpGet [], gt⟩) (fun _ h => ?_) (fun hk_slices_Index_k1 => ?_)
  · unfold slices_Index_k1 at h
    refine AW.seq ?_
    refine AW.ops ?_
    refine AO.allF tab_ok (by decide) [(4, .int .i64 (-1))] [] (by (simp only [go_sem]) <;> (repeat' with_reducible apply And.intro) <;> first | assumption | rfl | omega | (unfold maxLen; omega)) ?_
    refine athen_n ?_
    refine AW.ret ?_
    obtain rfl := Option.some.inj h
    exact ⟨rfl, [], [], [], rfl, (by (simp only [go_sem]) <;> (repeat' with_reducible apply And.intro) <;> first | assumption | rfl | omega | (unfold maxLen; omega))⟩
  · refine AW.seq ?_
    refine AW.seq ?_
    refine AW.ops ?_
    refine AO.allF tab_ok (by decide) [(0, .sl (.int .i64) s), (1, .int .i64 v0), (7, .int .i64 (s.length : Int)), (8, .int .i64 0)] [] (by (simp only [go_sem]) <;> (repeat' with_reducible apply And.intro) <;> first | assumption | rfl | omega | (unfold maxLen; omega)) ?_
    refine athen_n ?_
    refine AW.block ?_
    obtain ⟨rv5, hw1, ho2⟩ := Option.bind_eq_some_iff.1 h
    refine AW.loopO (slices_Index_b1 s v0) (fun st1 => ⟨fr [(0, .sl (.int .i64) s), (1, .int .i64 v0), (7, .int .i64 (s.length : Int)), (8, .int .i64 st1)], hpGet [], gt⟩) 0 hw1 (Wk.le [] [] [] rfl (by (simp only [go_sem]) <;> (repeat' with_reducible apply And.intro) <;> first | assumption | rfl | omega | (unfold maxLen; omega)) (by (simp only [go_sem]) <;> (repeat' with_reducible apply And.intro) <;> first | assumption | rfl | omega | (unfold maxLen; omega))) ?_
    intro st1 x4 h hd3
    unfold slices_Index_b1 at h
    refine AW.seq ?_
    refine AW.ops ?_
    refine AO.allF tab_ok (by decide) [(0, .sl (.int .i64) s), (1, .int .i64 v0), (7, .int .i64 (s.length : Int)), (8, .int .i64 st1), (9, .bool (decide (st1 < (s.length : Int))))] [] (by (simp only [go_sem]) <;> (repeat' with_reducible apply And.intro) <;> first | assumption | rfl | omega | (unfold maxLen; omega)) ?_
    refine athen_n ?_
    refine AW.seq ?_
    refine AW.cond (b := (decide (st1 < (s.length : Int)))) rfl (fun hb6 => ?_) (fun hb6 => ?_)
    · rw [if_pos hb6] at h
      refine AW.skip ?_
      refine athen_n ?_
      refine AW.seq ?_
      refine AW.block ?_
      refine AW.seq ?_
      refine AW.ops ?_
      refine AO.allF tab_ok (by decide) [(0, .sl (.int .i64) s), (1, .int .i64 v0), (5, .int .i64 st1), (7, .int .i64 (s.length : Int)), (8, .int .i64 st1)] [] (by (simp only [go_sem, hb6]) <;> (repeat' with_reducible apply And.intro) <;> first | assumption | rfl | omega | (unfold maxLen; omega)) ?_
      refine athen_n ?_
      refine AW.seq ?_
      refine AW.ops ?_
      obtain ⟨c7, h⟩ := ck_some.1 h
      obtain ⟨c8, h⟩ := ck_some.1 h
      refine AO.allF tab_ok (by decide) [(0, .sl (.int .i64) s), (1, .int .i64 v0), (5, .int .i64 st1), (7, .int .i64 (s.length : Int)), (8, .int .i64 st1), (16, .bool (decide (v0 = (s.getD st1.toNat 0))))] [] (by (simp only [go_sem, hb6]) <;> (repeat' with_reducible apply And.intro) <;> first | assumption | rfl | omega | (unfold maxLen; omega)) ?_
      refine athen_n ?_
      refine AW.cond (b := (decide (v0 = (s.getD st1.toNat 0)))) rfl (fun hb9 => ?_) (fun hb9 => ?_)
      · rw [if_pos hb9] at h
        refine AW.seq ?_
        refine AW.ops ?_
        refine AO.allF tab_ok (by decide) [(4, .int .i64 st1)] [] (by (simp only [go_sem, hb6, hb9]) <;> (repeat' with_reducible apply And.intro) <;> first | assumption | rfl | omega | (unfold maxLen; omega)) ?_
        refine athen_n ?_
        refine AW.ret ?_
        refine ablock_r ?_
        refine athen_r ?_
        obtain rfl := Option.some.inj h
        rw [← hd3 _ rfl] at ho2
        have h := ho2
        try simp only at h
        refine athen_r ?_
        refine ablock_r ?_
        refine athen_r ?_
        obtain rfl := Option.some.inj h
        exact ⟨rfl, [], [], [], rfl, (by (simp only [go_sem, hb6, hb9]) <;> (repeat' with_reducible apply And.intro) <;> first | assumption | rfl | omega | (unfold maxLen; omega))⟩
      · rw [if_neg (Bool.eq_false_iff.1 hb9)] at h
        refine AW.skip ?_
        refine ablock_n ?_
        refine athen_n ?_
        refine AW.ops ?_
        obtain ⟨c10, h⟩ := ck_some.1 h
        refine AO.allF tab_ok (by decide) [(0, .sl (.int .i64) s), (1, .int .i64 v0), (7, .int .i64 (s.length : Int)), (8, .int .i64 (st1 + 1))] [] (by (simp only [go_sem, hb6, hb9]) <;> (repeat' with_reducible apply And.intro) <;> first | assumption | rfl | omega | (unfold maxLen; omega)) ?_
        obtain rfl := Option.some.inj h
        exact ⟨_, rfl, Wk.le [] [] [] rfl (by (simp only [go_sem, hb6, hb9]) <;> (repeat' with_reducible apply And.intro) <;> first | assumption | rfl | omega | (unfold maxLen; omega)) (by (simp only [go_sem, hb6, hb9]) <;> (repeat' with_reducible apply And.intro) <;> first | assumption | rfl | omega | (unfold maxLen; omega))⟩
    · rw [if_neg (Bool.eq_false_iff.1 hb6)] at h
      refine AW.exit ?_
      refine athen_e ?_
      obtain rfl := Option.some.inj h
      rw [← hd3 _ rfl] at ho2
      have h := ho2
      try simp only at h
      refine athen_e ?_
      refine ablock_s ?_
      refine athen_n ?_
      exact AW.weaken (Wk.le [] [] [] rfl (by (simp only [go_sem, hb6]) <;> (repeat' with_reducible apply And.intro) <;> first | assumption | rfl | omega | (unfold maxLen; omega)) (by (simp only [go_sem, hb6]) <;> (repeat' with_reducible apply And.intro) <;> first | assumption | rfl | omega | (unfold maxLen; omega))) (hk_slices_Index_k1 () h)

set_option maxRecDepth 100000 in
set_option maxHeartbeats 2000000 in
theorem hc_weave_ties_onAny (t : (El T59)) (letter : Int) (w : List Int) {r : Bool} (h : weave_ties_onAny t letter w = some r) : HC Try.prog 88 [] [.agg (cellsX T59 t), .int .i64 letter, .sl (.int .i64) w] [] (.bool r) := by
  unfold weave_ties_onAny at h
  refine HC.of_body tab_ok (res := [.tmp 6]) Try.func88 rfl (by kernel_rfl) rfl (nt := 21) rfl (by decide) (by simp) ?_
  refine AW.seq ?_
  refine AW.ops ?_
  refine AO.allF tab_ok (by decide) [(1, .int .i64 letter), (2, .sl (.int .i64) w), (3, .bp 3 0)] [(3, .box 59 (cellsX T59 t))] (by (simp only [go_sem]) <;> (repeat' with_reducible apply And.intro) <;> first | assumption | rfl | omega | (unfold maxLen; omega)) ?_
  refine athen_n ?_
  refine AW.have1 (fun _ : Unit => weave_ties_onAny_k1 = some r) (fun _ => ⟨fr [], hpGet [], gt⟩) (fun _ h => ?_) (fun hk_weave_ties_onAny_k1 => ?_)
  · unfold weave_ties_onAny_k1 at h
    refine AW.seq ?_
    refine AW.ops ?_
    refine AO.allF tab_ok (by decide) [(6, .bool false)] [] (by (simp only [go_sem]) <;> (repeat' with_reducible apply And.intro) <;> first | assumption | rfl | omega | (unfold maxLen; omega)) ?_
    refine athen_n ?_
    refine AW.ret ?_
    obtain rfl := Option.some.inj h
    exact ⟨rfl, [], [], [], rfl, (by (simp only [go_sem]) <;> (repeat' with_reducible apply And.intro) <;> first | assumption | rfl | omega | (unfold maxLen; omega))⟩
  · refine AW.seq ?_
    refine AW.seq ?_
    refine AW.ops ?_
    refine AO.allF tab_ok (by decide) [(1, .int .i64 letter), (3, .bp 3 0), (9, .sl (.int .i64) w), (10, .int .i64 (w.length : Int)), (11, .int .i64 0)] [(3, .box 59 (cellsX T59 t))] (by (simp only [go_sem]) <;> (repeat' with_reducible apply And.intro) <;> first | assumption | rfl | omega | (unfold maxLen; omega)) ?_
    refine athen_n ?_
    refine AW.block ?_
    obtain ⟨rv5, hw1, ho2⟩ := Option.bind_eq_some_iff.1 h
    refine AW.loopO (weave_ties_onAny_b1 t letter w) (fun st1 => ⟨fr [(1, .int .i64 letter), (3, .bp 3 0), (9, .sl (.int .i64) w), (10, .int .i64 (w.length : Int)), (11, .int .i64 st1)], hpGet [(3, .box 59 (cellsX T59 t))], gt⟩) 0 hw1 (Wk.le [] [] [] rfl (by (simp only [go_sem]) <;> (repeat' with_reducible apply And.intro) <;> first | assumption | rfl | omega | (unfold maxLen; omega)) (by (simp only [go_sem]) <;> (repeat' with_reducible apply And.intro) <;> first | assumption | rfl | omega | (unfold maxLen; omega))) ?_
    intro st1 x4 h hd3
    unfold weave_ties_onAny_b1 at h
    refine AW.seq ?_
    refine AW.ops ?_
    refine AO.allF tab_ok (by decide) [(1, .int .i64 letter), (3, .bp 3 0), (9, .sl (.int .i64) w), (10, .int .i64 (w.length : Int)), (11, .int .i64 st1), (12, .bool (decide (st1 < (w.length : Int))))] [(3, .box 59 (cellsX T59 t))] (by (simp only [go_sem]) <;> (repeat' with_reducible apply And.intro) <;> first | assumption | rfl | omega | (unfold maxLen; omega)) ?_
    refine athen_n ?_
    refine AW.seq ?_
    refine AW.cond (b := (decide (st1 < (w.length : Int)))) rfl (fun hb6 => ?_) (fun hb6 => ?_)
    · rw [if_pos hb6] at h
      refine AW.skip ?_
      refine athen_n ?_
      refine AW.seq ?_
      refine AW.block ?_
      refine AW.seq ?_
      refine AW.ops ?_
      obtain ⟨c7, h⟩ := ck_some.1 h
      obtain ⟨c8, h⟩ := ck_some.1 h
      refine AO.allF tab_ok (by decide) [(1, .int .i64 letter), (3, .bp 3 0), (8, .int .i64 (w.getD st1.toNat 0)), (9, .sl (.int .i64) w), (10, .int .i64 (w.length : Int)), (11, .int .i64 st1)] [(3, .box 59 (cellsX T59 t))] (by (simp only [go_sem, hb6]) <;> (repeat' with_reducible apply And.intro) <;> first | assumption | rfl | omega | (unfold maxLen; omega)) ?_
      refine athen_n ?_
      refine AW.seq ?_
      refine AW.ops ?_
      obtain ⟨c9, h⟩ := ck_some.1 h
      obtain ⟨c10, h⟩ := ck_some.1 h
      obtain ⟨c11, h⟩ := ck_some.1 h
      obtain ⟨c12, h⟩ := ck_some.1 h
      have hx13 : ((0 + letter.toNat * 6) + (w.getD st1.toNat 0).toNat * 1) < 36 := by omega
      refine AO.allF tab_ok (by decide) [(1, .int .i64 letter), (3, .bp 3 0), (9, .sl (.int .i64) w), (10, .int .i64 (w.length : Int)), (11, .int .i64 st1), (19, .bool (boolAt T59 t ((0 + letter.toNat * 6) + (w.getD st1.toNat 0).toNat * 1)))] [(3, .box 59 (cellsX T59 t))] (by (simp only [go_sem, hb6, hx13]) <;> (repeat' with_reducible apply And.intro) <;> first | assumption | rfl | omega | (unfold maxLen; omega)) ?_
      refine athen_n ?_
      refine AW.cond (b := (boolAt T59 t ((0 + letter.toNat * 6) + (w.getD st1.toNat 0).toNat * 1))) rfl (fun hb14 => ?_) (fun hb14 => ?_)
      · rw [if_pos hb14] at h
        refine AW.seq ?_
        refine AW.ops ?_
        refine AO.allF tab_ok (by decide) [(6, .bool true)] [] (by (simp only [go_sem, hb6, hx13, hb14]) <;> (repeat' with_reducible apply And.intro) <;> first | assumption | rfl | omega | (unfold maxLen; omega)) ?_
        refine athen_n ?_
        refine AW.ret ?_
        refine ablock_r ?_
        refine athen_r ?_
        obtain rfl := Option.some.inj h
        rw [← hd3 _ rfl] at ho2
        have h := ho2
        try simp only at h
        refine athen_r ?_
        refine ablock_r ?_
        refine athen_r ?_
        obtain rfl := Option.some.inj h
        exact ⟨rfl, [], [], [], rfl, (by (simp only [go_sem, hb6, hx13, hb14]) <;> (repeat' with_reducible apply And.intro) <;> first | assumption | rfl | omega | (unfold maxLen; omega))⟩
      · rw [if_neg (Bool.eq_false_iff.1 hb14)] at h
        refine AW.skip ?_
        refine ablock_n ?_
        refine athen_n ?_
        refine AW.ops ?_
        obtain ⟨c15, h⟩ := ck_some.1 h
        refine AO.allF tab_ok (by decide) [(1, .int .i64 letter), (3, .bp 3 0), (9, .sl (.int .i64) w), (10, .int .i64 (w.length : Int)), (11, .int .i64 (st1 + 1))] [(3, .box 59 (cellsX T59 t))] (by (simp only [go_sem, hb6, hx13, hb14]) <;> (repeat' with_reducible apply And.intro) <;> first | assumption | rfl | omega | (unfold maxLen; omega)) ?_
        obtain rfl := Option.some.inj h
        exact ⟨_, rfl, Wk.le [] [] [] rfl (by (simp only [go_sem, hb6, hx13, hb14]) <;> (repeat' with_reducible apply And.intro) <;> first | assumption | rfl | omega | (unfold maxLen; omega)) (by (simp only [go_sem, hb6, hx13, hb14]) <;> (repeat' with_reducible apply And.intro) <;> first | assumption | rfl | omega | (unfold maxLen; omega))⟩
    · rw [if_neg (Bool.eq_false_iff.1 hb6)] at h
      refine AW.exit ?_
      refine athen_e ?_
      obtain rfl := Option.some.inj h
      rw [← hd3 _ rfl] at ho2
      have h := ho2
      try simp only at h
      refine athen_e ?_
      refine ablock_s ?_
      refine athen_n ?_
      exact AW.weaken (Wk.le [] [] [] rfl (by (simp only [go_sem, hb6]) <;> (repeat' with_reducible apply And.intro) <;> first | assumption | rfl | omega | (unfold maxLen; omega)) (by (simp only [go_sem, hb6]) <;> (repeat' with_reducible apply And.intro) <;> first | assumption | rfl | omega | (unfold maxLen; omega))) (hk_weave_ties_onAny_k1 () h)

end Go.Proofs.Ytcijihofjcfpoab
