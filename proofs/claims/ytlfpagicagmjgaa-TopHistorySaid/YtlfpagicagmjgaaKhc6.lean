/-
  Made by wip/tool/dc.py out of the print of the program: contracts.
-/
import Derived.Test.YtlfpagicagmjgaaHp
import Derived.Test.YtlfpagicagmjgaaShh
import Derived.Test.YtlfpagicagmjgaaAvd
import Derived.Test.YtlfpagicagmjgaaKhc2
import Derived.Test.YtlfpagicagmjgaaKhc3
import Derived.Test.YtlfpagicagmjgaaKhc4
import Derived.Test.YtlfpagicagmjgaaKhc5
namespace Go.Proofs.Ytlfpagicagmjgaa
open Go.RowKit

set_option linter.unusedSimpArgs false
set_option linter.unusedVariables false
set_option linter.constructorNameAsVariable false

set_option maxRecDepth 100000
set_option maxHeartbeats 2000000

theorem hc_history_told_22 (err : Int) (c0 : List (Int × Int × (List (List Int)) × (List (List Int)))) (c1 : List (Int × Int × Int × Int × Int × Int)) (hnz_err : decide (err = 0) = false) {r : Unit} (h : history_told_22 err c0 c1 = some r) : HC Try.prog 58 [(1000, .box 22 [.sl Y0 c0]), (1001, .box 23 [.sl Y1 c1])] [.int .i64 err, .fn (.func 93) [] [.bp 1000 0, .bp 1001 0]] [(1000, .box 22 [.sl Y0 c0]), (1001, .box 23 [.sl Y1 c1])] (.tup [.bool false, .int .i64 err]) := by
  unfold history_told_22 at h
  refine zH Try.func58 [.tmp 4, .tmp 5] 13 ?_
  refine zo ?_
  refine zB [(0, .int .i64 err), (1, .fn (.func 93) [] [.bp 1000 0, .bp 1001 0])] [(1000, .box 22 [.sl Y0 c0]), (1001, .box 23 [.sl Y1 c1])] ?_
  refine AW.seq ?_
  refine zo ?_
  refine zB [(0, .int .i64 err), (1, .fn (.func 93) [] [.bp 1000 0, .bp 1001 0]), (8, .bool true)] [(1000, .box 22 [.sl Y0 c0]), (1001, .box 23 [.sl Y1 c1])] ?_
  refine AW.cond (b := true) rfl (fun _ => ?_) (fun hb1 => by cases hb1)
  refine zo ?_
  refine zB [(0, .int .i64 err), (6, .bool false)] [(1000, .box 22 [.sl Y0 c0]), (1001, .box 23 [.sl Y1 c1])] ?_
  refine zo ?_
  refine zB [(4, .bool false), (5, .int .i64 err)] [(1000, .box 22 [.sl Y0 c0]), (1001, .box 23 [.sl Y1 c1])] ?_
  refine zr ?_
  obtain rfl := Option.some.inj h
  exact zR [] [] []

theorem hc_history_Linear (specs : List (Int × Int × (List (List Int)) × (List (List Int)))) (h0 : List (Int × Int × Int × Int × Int × Int)) {r : Bool × Int} (h : history_Linear specs h0 = some r) : HC Try.prog 35 [] [.sl Y0 specs, .sl Y1 h0] [] (.tup [.bool r.1, .int .i64 r.2]) := by
  unfold history_Linear at h
  refine zH Try.func35 [.tmp 4, .tmp 5] 13 ?_
  refine zo ?_
  refine zB [(2, .bp 2 0), (3, .bp 3 0)] [(2, .box 22 [.sl Y0 specs]), (3, .box 23 [.sl Y1 h0])] ?_
  refine zo ?_
  refine zS 2 [(2, .bp 2 0), (3, .bp 3 0), (6, .sl Y0 specs), (7, .sl Y1 h0)] [(2, .box 22 [.sl Y0 specs]), (3, .box 23 [.sl Y1 h0])] ?_
  obtain ⟨v0, hv1, h⟩ := Option.bind_eq_some_iff.1 h
  refine zC [] [] (hc_history_checkFor specs h0 hv1) [(2, .bp 2 0), (3, .bp 3 0), (8, .int .i64 v0)] [(2, .box 22 [.sl Y0 specs]), (3, .box 23 [.sl Y1 h0])] ?_
  refine zS 1 [(8, .int .i64 v0), (9, .fn (.func 93) [] [.bp 2 0, .bp 3 0])] [(2, .box 22 [.sl Y0 specs]), (3, .box 23 [.sl Y1 h0])] ?_
  rcases Bool.eq_false_or_eq_true (decide (v0 = 0)) with hb2 | hb2
  · rw [if_pos hb2] at h
    have hz3 : v0 = 0 := by simpa using hb2
    refine zT [(8, .int .i64 0), (9, .fn (.func 93) [] [.bp 2 0, .bp 3 0])] [(2, .box 22 [.sl Y0 specs]), (3, .box 23 [.sl Y1 h0])] gt ?_
    obtain ⟨v0_2, hv4, h⟩ := Option.bind_eq_some_iff.1 h
    refine zC [] [(1000, 2), (1001, 3)] (hc_history_told_21 specs h0 hv4) [(10, .tup [.bool v0_2, .int .i64 0])] [] ?_
    refine zB [(4, .bool v0_2), (5, .int .i64 0)] [] ?_
    refine AW.ret ?_
    obtain rfl := Option.some.inj h
    exact zR [] [] []
  · rw [if_neg (Bool.eq_false_iff.1 hb2)] at h
    refine zT [(8, .int .i64 v0), (9, .fn (.func 93) [] [.bp 2 0, .bp 3 0])] [(2, .box 22 [.sl Y0 specs]), (3, .box 23 [.sl Y1 h0])] gt ?_
    obtain ⟨v0_3, hv5, h⟩ := Option.bind_eq_some_iff.1 h
    refine zC [] [(1000, 2), (1001, 3)] (hc_history_told_22 v0 specs h0 hb2 hv5) [(10, .tup [.bool false, .int .i64 v0])] [] ?_
    refine zB [(4, .bool false), (5, .int .i64 v0)] [] ?_
    refine AW.ret ?_
    obtain rfl := Option.some.inj h
    exact zR [] [] []

theorem hc_linealref02_asked (specs : List (Int × Int × (List (List Int)) × (List (List Int)))) (h0 : List (Int × Int × Int × Int × Int × Int)) {r : Int} (h : linealref02_asked specs h0 = some r) : HC Try.prog 79 [] [.sl Y0 specs, .sl Y1 h0] [] (.int .i64 r) := by
  unfold linealref02_asked at h
  refine zH Try.func79 [.tmp 4] 12 ?_
  refine zo ?_
  refine zB [(0, .sl Y0 specs), (1, .sl Y1 h0)] [] ?_
  refine AW.seq ?_
  refine zo ?_
  refine zS 1 [(0, .sl Y0 specs), (1, .sl Y1 h0), (5, .sl Y0 specs)] [] ?_
  obtain ⟨v0, hv1, h⟩ := Option.bind_eq_some_iff.1 h
  refine zC [] [] (hc_linealref02_areSpecs specs hv1) [(0, .sl Y0 specs), (1, .sl Y1 h0), (6, .bool v0)] [] ?_
  refine zB [(0, .sl Y0 specs), (1, .sl Y1 h0), (7, .bool (!v0))] [] ?_
  refine zQ h (fun hb2 h => ?_) (fun hb2 h => ?_)
  ·
    refine zo ?_
    refine zB [(4, .int .i64 10)] [] ?_
    refine zr ?_
    obtain rfl := Option.some.inj h
    exact zR [] [] []
  ·
    refine zk ?_
    refine AW.seq ?_
    refine zo ?_
    refine zS 2 [(8, .sl Y0 specs), (9, .sl Y1 h0)] [] ?_
    obtain ⟨v0_2, hv3, h⟩ := Option.bind_eq_some_iff.1 h
    refine zC [] [] (hc_linealref02_isFor specs h0 hv3) [(10, .bool v0_2)] [] ?_
    refine zB [(11, .bool (!v0_2))] [] ?_
    refine zQ h (fun hb4 h => ?_) (fun hb4 h => ?_)
    ·
      refine zo ?_
      refine zB [(4, .int .i64 20)] [] ?_
      refine zr ?_
      obtain rfl := Option.some.inj h
      exact zR [] [] []
    ·
      refine zk ?_
      refine zo ?_
      refine zB [(4, .int .i64 0)] [] ?_
      refine AW.ret ?_
      obtain rfl := Option.some.inj h
      exact zR [] [] []

theorem hc_linealref02_allows (specs : List (Int × Int × (List (List Int)) × (List (List Int)))) (h0 : List (Int × Int × Int × Int × Int × Int)) (l : List Int) {r : Bool} (h : linealref02_allows specs h0 l = some r) : HC Try.prog 82 [] [.sl Y0 specs, .sl Y1 h0, .sl (.int .i64) l] [] (.bool r) := by
  unfold linealref02_allows at h
  refine zH Try.func82 [.tmp 6] 70 ?_
  refine zo ?_
  refine zB [(0, .sl Y0 specs), (1, .sl Y1 h0), (2, .sl (.int .i64) l)] [] ?_
  refine zo ?_
  obtain ⟨c1, h⟩ := ck_some.1 h
  refine zB [(0, .sl Y0 specs), (1, .sl Y1 h0), (2, .sl (.int .i64) l), (7, .own 13)] [(13, .arr 3 (.int .i64) (List.replicate specs.length (0 : Int)))] ?_
  refine AW.have1 (fun _ : Unit => linealref02_allows_k1 = some r) (fun _ => ⟨fr [], hpGet [], gt⟩) (fun _ h => ?_) (fun hk_linealref02_allows_k1 => ?_)
  · unfold linealref02_allows_k1 at h
    refine zo ?_
    refine zB [(6, .bool true)] [] ?_
    refine AW.ret ?_
    obtain rfl := Option.some.inj h
    exact zR [] [] []
  · refine AW.seq ?_
    refine zo ?_
    refine zB [(0, .sl Y0 specs), (1, .sl Y1 h0), (2, .sl (.int .i64) l), (7, .own 13), (8, .int .i64 0)] [(13, .arr 3 (.int .i64) (List.replicate specs.length (0 : Int)))] ?_
    refine AW.block ?_
    obtain ⟨rv6, hw2, ho3⟩ := Option.bind_eq_some_iff.1 h
    refine AW.loopO (linealref02_allows_b1 specs h0 l) (fun st1 => ⟨fr [(0, .sl Y0 specs), (1, .sl Y1 h0), (2, .sl (.int .i64) l), (7, .own 13), (8, .int .i64 st1.2)], hpGet [(13, .arr 3 (.int .i64) st1.1)], gt⟩) ((List.replicate specs.length (0 : Int)), 0) hw2 (zL [] [] []) ?_
    intro st1 x5 h hd4
    unfold linealref02_allows_b1 at h
    refine AW.seq ?_
    refine zo ?_
    refine zB [(0, .sl Y0 specs), (1, .sl Y1 h0), (2, .sl (.int .i64) l), (7, .own 13), (8, .int .i64 st1.2), (17, .bool (decide (st1.2 < (l.length : Int))))] [(13, .arr 3 (.int .i64) st1.1)] ?_
    refine zQ h (fun hb7 h => ?_) (fun hb7 h => ?_)
    ·
      refine zk ?_
      refine AW.seq ?_
      refine AW.block ?_
      refine zo ?_
      obtain ⟨c8, h⟩ := ck_some.1 h
      obtain ⟨c9, h⟩ := ck_some.1 h
      obtain ⟨c10, h⟩ := ck_some.1 h
      obtain ⟨c11, h⟩ := ck_some.1 h
      refine zB [(0, .sl Y0 specs), (1, .sl Y1 h0), (2, .sl (.int .i64) l), (7, .own 13), (8, .int .i64 st1.2), (9, .bp 9 0)] [(9, .box 55 [.int .i64 (h0.getD (l.getD st1.2.toNat 0).toNat (0, 0, 0, 0, 0, 0)).1, .int .i64 (h0.getD (l.getD st1.2.toNat 0).toNat (0, 0, 0, 0, 0, 0)).2.1, .int .i64 (h0.getD (l.getD st1.2.toNat 0).toNat (0, 0, 0, 0, 0, 0)).2.2.1, .int .i64 (h0.getD (l.getD st1.2.toNat 0).toNat (0, 0, 0, 0, 0, 0)).2.2.2.1, .int .i64 (h0.getD (l.getD st1.2.toNat 0).toNat (0, 0, 0, 0, 0, 0)).2.2.2.2.1, .int .i64 (h0.getD (l.getD st1.2.toNat 0).toNat (0, 0, 0, 0, 0, 0)).2.2.2.2.2]), (13, .arr 3 (.int .i64) st1.1)] ?_
      refine zo ?_
      obtain ⟨c12, h⟩ := ck_some.1 h
      obtain ⟨c13, h⟩ := ck_some.1 h
      refine zB [(0, .sl Y0 specs), (1, .sl Y1 h0), (2, .sl (.int .i64) l), (7, .own 13), (8, .int .i64 st1.2), (9, .bp 9 0), (10, .bp 10 0)] [(9, .box 55 [.int .i64 (h0.getD (l.getD st1.2.toNat 0).toNat (0, 0, 0, 0, 0, 0)).1, .int .i64 (h0.getD (l.getD st1.2.toNat 0).toNat (0, 0, 0, 0, 0, 0)).2.1, .int .i64 (h0.getD (l.getD st1.2.toNat 0).toNat (0, 0, 0, 0, 0, 0)).2.2.1, .int .i64 (h0.getD (l.getD st1.2.toNat 0).toNat (0, 0, 0, 0, 0, 0)).2.2.2.1, .int .i64 (h0.getD (l.getD st1.2.toNat 0).toNat (0, 0, 0, 0, 0, 0)).2.2.2.2.1, .int .i64 (h0.getD (l.getD st1.2.toNat 0).toNat (0, 0, 0, 0, 0, 0)).2.2.2.2.2]), (10, .box 64 [.int .i64 (specs.getD (h0.getD (l.getD st1.2.toNat 0).toNat (0, 0, 0, 0, 0, 0)).2.1.toNat (0, 0, [], [])).1, .int .i64 (specs.getD (h0.getD (l.getD st1.2.toNat 0).toNat (0, 0, 0, 0, 0, 0)).2.1.toNat (0, 0, [], [])).2.1, .sl (.sl (.int .i64)) (specs.getD (h0.getD (l.getD st1.2.toNat 0).toNat (0, 0, 0, 0, 0, 0)).2.1.toNat (0, 0, [], [])).2.2.1, .sl (.sl (.int .i64)) (specs.getD (h0.getD (l.getD st1.2.toNat 0).toNat (0, 0, 0, 0, 0, 0)).2.1.toNat (0, 0, [], [])).2.2.2]), (13, .arr 3 (.int .i64) st1.1)] ?_
      refine AW.have1 (fun _ : Unit => linealref02_allows_k2 specs h0 l st1 = some x5) (fun _ => ⟨fr [(0, .sl Y0 specs), (1, .sl Y1 h0), (2, .sl (.int .i64) l), (7, .own 13), (8, .int .i64 st1.2), (9, .bp 9 0), (10, .bp 10 0)], hpGet [(9, .box 55 [.int .i64 (h0.getD (l.getD st1.2.toNat 0).toNat (0, 0, 0, 0, 0, 0)).1, .int .i64 (h0.getD (l.getD st1.2.toNat 0).toNat (0, 0, 0, 0, 0, 0)).2.1, .int .i64 (h0.getD (l.getD st1.2.toNat 0).toNat (0, 0, 0, 0, 0, 0)).2.2.1, .int .i64 (h0.getD (l.getD st1.2.toNat 0).toNat (0, 0, 0, 0, 0, 0)).2.2.2.1, .int .i64 (h0.getD (l.getD st1.2.toNat 0).toNat (0, 0, 0, 0, 0, 0)).2.2.2.2.1, .int .i64 (h0.getD (l.getD st1.2.toNat 0).toNat (0, 0, 0, 0, 0, 0)).2.2.2.2.2]), (10, .box 64 [.int .i64 (specs.getD (h0.getD (l.getD st1.2.toNat 0).toNat (0, 0, 0, 0, 0, 0)).2.1.toNat (0, 0, [], [])).1, .int .i64 (specs.getD (h0.getD (l.getD st1.2.toNat 0).toNat (0, 0, 0, 0, 0, 0)).2.1.toNat (0, 0, [], [])).2.1, .sl (.sl (.int .i64)) (specs.getD (h0.getD (l.getD st1.2.toNat 0).toNat (0, 0, 0, 0, 0, 0)).2.1.toNat (0, 0, [], [])).2.2.1, .sl (.sl (.int .i64)) (specs.getD (h0.getD (l.getD st1.2.toNat 0).toNat (0, 0, 0, 0, 0, 0)).2.1.toNat (0, 0, [], [])).2.2.2]), (13, .arr 3 (.int .i64) st1.1)], gt⟩) (fun _ h => ?_) (fun hk_linealref02_allows_k2 => ?_)
      · unfold linealref02_allows_k2 at h
        refine AW.draw tab_ok mixed_ok [(17, [13])] [] (by decide) (by kernel_rfl) ?_
        refine adops_cut 6 (fun K' hK14 => ?_)
        try dsimp only [List.drop_succ_cons, List.drop_zero, List.take_succ_cons, List.take_zero]
        simp only [go_sem, hb7]
        repeat (with_reducible refine And.intro (by first | assumption | rfl | omega | trivial | (unfold maxLen; omega)) ?_)
        refine hK14 _ ?_
        obtain ⟨c16, h⟩ := ck_some.1 h
        obtain ⟨c17, h⟩ := ck_some.1 h
        obtain ⟨c18, h⟩ := ck_some.1 h
        obtain ⟨c19, h⟩ := ck_some.1 h
        refine adops_cut 6 (fun K' hK15 => ?_)
        try dsimp only [List.drop_succ_cons, List.drop_zero, List.take_succ_cons, List.take_zero]
        simp only [go_sem, hb7]
        repeat (with_reducible refine And.intro (by first | assumption | rfl | omega | trivial | (unfold maxLen; omega)) ?_)
        refine hK15 _ ?_
        obtain ⟨c21, h⟩ := ck_some.1 h
        obtain ⟨c22, h⟩ := ck_some.1 h
        obtain ⟨c23, h⟩ := ck_some.1 h
        obtain ⟨c24, h⟩ := ck_some.1 h
        refine adops_cut 6 (fun K' hK20 => ?_)
        try dsimp only [List.drop_succ_cons, List.drop_zero, List.take_succ_cons, List.take_zero]
        simp only [go_sem, hb7]
        repeat (with_reducible refine And.intro (by first | assumption | rfl | omega | trivial | (unfold maxLen; omega)) ?_)
        refine hK20 _ ?_
        refine adops_nil ?_
        refine ablock_n ?_
        refine athen_n ?_
        refine zV [(0, .sl Y0 specs), (1, .sl Y1 h0), (2, .sl (.int .i64) l), (7, .own 13), (8, .int .i64 st1.2)] [(13, .arr 3 (.int .i64) (st1.1.set (h0.getD (l.getD st1.2.toNat 0).toNat (0, 0, 0, 0, 0, 0)).2.1.toNat (((specs.getD (h0.getD (l.getD st1.2.toNat 0).toNat (0, 0, 0, 0, 0, 0)).2.1.toNat (0, 0, [], [])).2.2.1.getD (st1.1.getD (h0.getD (l.getD st1.2.toNat 0).toNat (0, 0, 0, 0, 0, 0)).2.1.toNat 0).toNat []).getD (h0.getD (l.getD st1.2.toNat 0).toNat (0, 0, 0, 0, 0, 0)).2.2.1.toNat 0)))] gt ?_
        refine AW.ops ?_
        obtain ⟨c25, h⟩ := ck_some.1 h
        refine zA [(0, .sl Y0 specs), (1, .sl Y1 h0), (2, .sl (.int .i64) l), (7, .own 13), (8, .int .i64 (st1.2 + 1))] [(13, .arr 3 (.int .i64) (st1.1.set (h0.getD (l.getD st1.2.toNat 0).toNat (0, 0, 0, 0, 0, 0)).2.1.toNat (((specs.getD (h0.getD (l.getD st1.2.toNat 0).toNat (0, 0, 0, 0, 0, 0)).2.1.toNat (0, 0, [], [])).2.2.1.getD (st1.1.getD (h0.getD (l.getD st1.2.toNat 0).toNat (0, 0, 0, 0, 0, 0)).2.1.toNat 0).toNat []).getD (h0.getD (l.getD st1.2.toNat 0).toNat (0, 0, 0, 0, 0, 0)).2.2.1.toNat 0)))] ?_
        obtain rfl := Option.some.inj h
        exact ⟨_, rfl, zL [] [] []⟩
      · refine AW.seq ?_
        refine AW.seq ?_
        refine AW.draw tab_ok mixed_ok [] [] (by decide) (by kernel_rfl) ?_
        refine adops_cut 4 (fun K' hK26 => ?_)
        try dsimp only [List.drop_succ_cons, List.drop_zero, List.take_succ_cons, List.take_zero]
        simp only [go_sem, hb7]
        repeat (with_reducible refine And.intro (by first | assumption | rfl | omega | trivial | (unfold maxLen; omega)) ?_)
        refine hK26 _ ?_
        rcases zI h with ⟨hb27, h⟩ | ⟨hb27, h⟩
        ·
          simp only [hb27]
          obtain ⟨c29, h⟩ := ck_some.1 h
          obtain ⟨c30, h⟩ := ck_some.1 h
          refine adops_cut 6 (fun K' hK28 => ?_)
          try dsimp only [List.drop_succ_cons, List.drop_zero, List.take_succ_cons, List.take_zero]
          simp only [go_sem, hb7, hb27]
          repeat (with_reducible refine And.intro (by first | assumption | rfl | omega | trivial | (unfold maxLen; omega)) ?_)
          refine hK28 _ ?_
          obtain ⟨c32, h⟩ := ck_some.1 h
          obtain ⟨c33, h⟩ := ck_some.1 h
          obtain ⟨c34, h⟩ := ck_some.1 h
          obtain ⟨c35, h⟩ := ck_some.1 h
          refine adops_cut 6 (fun K' hK31 => ?_)
          try dsimp only [List.drop_succ_cons, List.drop_zero, List.take_succ_cons, List.take_zero]
          simp only [go_sem, hb7, hb27]
          repeat (with_reducible refine And.intro (by first | assumption | rfl | omega | trivial | (unfold maxLen; omega)) ?_)
          refine hK31 _ ?_
          refine adops_cut 5 (fun K' hK36 => ?_)
          try dsimp only [List.drop_succ_cons, List.drop_zero, List.take_succ_cons, List.take_zero]
          simp only [go_sem, hb7, hb27]
          repeat (with_reducible refine And.intro (by first | assumption | rfl | omega | trivial | (unfold maxLen; omega)) ?_)
          refine hK36 _ ?_
          refine adops_nil ?_
          refine athen_n ?_
          refine zV [(0, .sl Y0 specs), (1, .sl Y1 h0), (2, .sl (.int .i64) l), (7, .own 13), (8, .int .i64 st1.2), (9, .bp 9 0), (10, .bp 10 0), (52, .bool (!(decide ((((specs.getD (h0.getD (l.getD st1.2.toNat 0).toNat (0, 0, 0, 0, 0, 0)).2.1.toNat (0, 0, [], [])).2.2.2.getD (st1.1.getD (h0.getD (l.getD st1.2.toNat 0).toNat (0, 0, 0, 0, 0, 0)).2.1.toNat 0).toNat []).getD (h0.getD (l.getD st1.2.toNat 0).toNat (0, 0, 0, 0, 0, 0)).2.2.1.toNat 0) = (h0.getD (l.getD st1.2.toNat 0).toNat (0, 0, 0, 0, 0, 0)).2.2.2.1))))] [(9, .box 55 [.int .i64 (h0.getD (l.getD st1.2.toNat 0).toNat (0, 0, 0, 0, 0, 0)).1, .int .i64 (h0.getD (l.getD st1.2.toNat 0).toNat (0, 0, 0, 0, 0, 0)).2.1, .int .i64 (h0.getD (l.getD st1.2.toNat 0).toNat (0, 0, 0, 0, 0, 0)).2.2.1, .int .i64 (h0.getD (l.getD st1.2.toNat 0).toNat (0, 0, 0, 0, 0, 0)).2.2.2.1, .int .i64 (h0.getD (l.getD st1.2.toNat 0).toNat (0, 0, 0, 0, 0, 0)).2.2.2.2.1, .int .i64 (h0.getD (l.getD st1.2.toNat 0).toNat (0, 0, 0, 0, 0, 0)).2.2.2.2.2]), (10, .box 64 [.int .i64 (specs.getD (h0.getD (l.getD st1.2.toNat 0).toNat (0, 0, 0, 0, 0, 0)).2.1.toNat (0, 0, [], [])).1, .int .i64 (specs.getD (h0.getD (l.getD st1.2.toNat 0).toNat (0, 0, 0, 0, 0, 0)).2.1.toNat (0, 0, [], [])).2.1, .sl (.sl (.int .i64)) (specs.getD (h0.getD (l.getD st1.2.toNat 0).toNat (0, 0, 0, 0, 0, 0)).2.1.toNat (0, 0, [], [])).2.2.1, .sl (.sl (.int .i64)) (specs.getD (h0.getD (l.getD st1.2.toNat 0).toNat (0, 0, 0, 0, 0, 0)).2.1.toNat (0, 0, [], [])).2.2.2]), (13, .arr 3 (.int .i64) st1.1)] gt ?_
          refine zQ h (fun hb37 h => ?_) (fun hb37 h => ?_)
          ·
            refine zo ?_
            refine zB [(6, .bool false)] [] ?_
            refine zr ?_
            refine ablock_r ?_
            refine athen_r ?_
            obtain rfl := Option.some.inj h
            rw [← hd4 _ rfl] at ho3
            have h := ho3
            try simp only at h
            refine athen_r ?_
            refine ablock_r ?_
            refine athen_r ?_
            obtain rfl := Option.some.inj h
            exact zR [] [] []
          ·
            refine zk ?_
            exact AW.weaken (zL [] [] []) (hk_linealref02_allows_k2 () h)
        ·
          simp only [hb27]
          refine adops_cut 4 (fun K' hK38 => ?_)
          try dsimp only [List.drop_succ_cons, List.drop_zero, List.take_succ_cons, List.take_zero]
          simp only [go_sem, hb7, hb27]
          repeat (with_reducible refine And.intro (by first | assumption | rfl | omega | trivial | (unfold maxLen; omega)) ?_)
          refine hK38 _ ?_
          refine adops_cut 4 (fun K' hK39 => ?_)
          try dsimp only [List.drop_succ_cons, List.drop_zero, List.take_succ_cons, List.take_zero]
          simp only [go_sem, hb7, hb27]
          repeat (with_reducible refine And.intro (by first | assumption | rfl | omega | trivial | (unfold maxLen; omega)) ?_)
          refine hK39 _ ?_
          refine adops_cut 4 (fun K' hK40 => ?_)
          try dsimp only [List.drop_succ_cons, List.drop_zero, List.take_succ_cons, List.take_zero]
          simp only [go_sem, hb7, hb27]
          repeat (with_reducible refine And.intro (by first | assumption | rfl | omega | trivial | (unfold maxLen; omega)) ?_)
          refine hK40 _ ?_
          refine adops_cut 4 (fun K' hK41 => ?_)
          try dsimp only [List.drop_succ_cons, List.drop_zero, List.take_succ_cons, List.take_zero]
          simp only [go_sem, hb7, hb27]
          repeat (with_reducible refine And.intro (by first | assumption | rfl | omega | trivial | (unfold maxLen; omega)) ?_)
          refine hK41 _ ?_
          refine adops_cut 1 (fun K' hK42 => ?_)
          try dsimp only [List.drop_succ_cons, List.drop_zero, List.take_succ_cons, List.take_zero]
          simp only [go_sem, hb7, hb27]
          repeat (with_reducible refine And.intro (by first | assumption | rfl | omega | trivial | (unfold maxLen; omega)) ?_)
          refine hK42 _ ?_
          refine adops_nil ?_
          refine athen_n ?_
          refine zV [(0, .sl Y0 specs), (1, .sl Y1 h0), (2, .sl (.int .i64) l), (7, .own 13), (8, .int .i64 st1.2), (9, .bp 9 0), (10, .bp 10 0), (52, .bool false)] [(9, .box 55 [.int .i64 (h0.getD (l.getD st1.2.toNat 0).toNat (0, 0, 0, 0, 0, 0)).1, .int .i64 (h0.getD (l.getD st1.2.toNat 0).toNat (0, 0, 0, 0, 0, 0)).2.1, .int .i64 (h0.getD (l.getD st1.2.toNat 0).toNat (0, 0, 0, 0, 0, 0)).2.2.1, .int .i64 (h0.getD (l.getD st1.2.toNat 0).toNat (0, 0, 0, 0, 0, 0)).2.2.2.1, .int .i64 (h0.getD (l.getD st1.2.toNat 0).toNat (0, 0, 0, 0, 0, 0)).2.2.2.2.1, .int .i64 (h0.getD (l.getD st1.2.toNat 0).toNat (0, 0, 0, 0, 0, 0)).2.2.2.2.2]), (10, .box 64 [.int .i64 (specs.getD (h0.getD (l.getD st1.2.toNat 0).toNat (0, 0, 0, 0, 0, 0)).2.1.toNat (0, 0, [], [])).1, .int .i64 (specs.getD (h0.getD (l.getD st1.2.toNat 0).toNat (0, 0, 0, 0, 0, 0)).2.1.toNat (0, 0, [], [])).2.1, .sl (.sl (.int .i64)) (specs.getD (h0.getD (l.getD st1.2.toNat 0).toNat (0, 0, 0, 0, 0, 0)).2.1.toNat (0, 0, [], [])).2.2.1, .sl (.sl (.int .i64)) (specs.getD (h0.getD (l.getD st1.2.toNat 0).toNat (0, 0, 0, 0, 0, 0)).2.1.toNat (0, 0, [], [])).2.2.2]), (13, .arr 3 (.int .i64) st1.1)] gt ?_
          refine AW.cond (b := false) rfl (fun hb43 => by cases hb43) (fun _ => ?_)
          refine zk ?_
          exact AW.weaken (zL [] [] []) (hk_linealref02_allows_k2 () h)
    ·
      refine AW.exit ?_
      refine athen_e ?_
      obtain rfl := Option.some.inj h
      rw [← hd4 _ rfl] at ho3
      have h := ho3
      try simp only at h
      refine athen_e ?_
      refine ablock_s ?_
      refine athen_n ?_
      exact AW.weaken (zL [] [] []) (hk_linealref02_allows_k1 () h)

theorem hc_linealref02_IsOrder (specs : List (Int × Int × (List (List Int)) × (List (List Int)))) (h0 : List (Int × Int × Int × Int × Int × Int)) (l : List Int) {r : Bool × Int} (h : linealref02_IsOrder specs h0 l = some r) : HC Try.prog 27 [] [.sl Y0 specs, .sl Y1 h0, .sl (.int .i64) l] [] (.tup [.bool r.1, .int .i64 r.2]) := by
  unfold linealref02_IsOrder at h
  refine zH Try.func27 [.tmp 6, .tmp 7] 29 ?_
  refine zo ?_
  refine zB [(0, .sl Y0 specs), (1, .sl Y1 h0), (2, .sl (.int .i64) l)] [] ?_
  refine zo ?_
  refine zS 2 [(0, .sl Y0 specs), (1, .sl Y1 h0), (2, .sl (.int .i64) l), (9, .sl Y0 specs), (10, .sl Y1 h0)] [] ?_
  obtain ⟨v0, hv1, h⟩ := Option.bind_eq_some_iff.1 h
  refine zC [] [] (hc_linealref02_asked specs h0 hv1) [(0, .sl Y0 specs), (1, .sl Y1 h0), (2, .sl (.int .i64) l), (11, .int .i64 v0)] [] ?_
  refine zB [(0, .sl Y0 specs), (1, .sl Y1 h0), (2, .sl (.int .i64) l), (8, .int .i64 v0)] [] ?_
  refine AW.seq ?_
  refine zo ?_
  refine zB [(0, .sl Y0 specs), (1, .sl Y1 h0), (2, .sl (.int .i64) l), (8, .int .i64 v0), (13, .bool (!(decide (v0 = 0))))] [] ?_
  refine zQ h (fun hb2 h => ?_) (fun hb2 h => ?_)
  ·
    refine zo ?_
    refine zB [(6, .bool false), (7, .int .i64 v0)] [] ?_
    refine zr ?_
    obtain rfl := Option.some.inj h
    exact zR [] [] []
  ·
    refine zk ?_
    refine zo ?_
    refine zS 2 [(0, .sl Y0 specs), (1, .sl Y1 h0), (2, .sl (.int .i64) l), (15, .sl Y1 h0), (16, .sl (.int .i64) l)] [] ?_
    obtain ⟨v0_2, hv3, h⟩ := Option.bind_eq_some_iff.1 h
    refine zC [] [] (hc_linealref02_isList h0 l hv3) [(0, .sl Y0 specs), (1, .sl Y1 h0), (2, .sl (.int .i64) l), (17, .bool v0_2)] [] ?_
    refine zS 1 [(0, .sl Y0 specs), (1, .sl Y1 h0), (2, .sl (.int .i64) l), (18, .bool v0_2)] [] ?_
    rcases zI h with ⟨hb4, h⟩ | ⟨hb4, h⟩
    ·
      refine zT [(0, .sl Y0 specs), (1, .sl Y1 h0), (2, .sl (.int .i64) l), (18, .bool true)] [] gt ?_
      refine zS 2 [(0, .sl Y0 specs), (1, .sl Y1 h0), (2, .sl (.int .i64) l), (18, .bool true), (19, .sl Y1 h0), (20, .sl (.int .i64) l)] [] ?_
      obtain ⟨v0_3, hv5, h⟩ := Option.bind_eq_some_iff.1 h
      refine zG [] [] (hc_linealref02_keepsTime h0 l hv5) [(0, .sl Y0 specs), (1, .sl Y1 h0), (2, .sl (.int .i64) l), (18, .bool true), (21, .bool v0_3)] [] ?_
      refine zS 2 [(0, .sl Y0 specs), (1, .sl Y1 h0), (2, .sl (.int .i64) l), (23, .bool v0_3)] [] ?_
      rcases zI h with ⟨hb6, h⟩ | ⟨hb6, h⟩
      ·
        refine zT [(0, .sl Y0 specs), (1, .sl Y1 h0), (2, .sl (.int .i64) l), (23, .bool true)] [] gt ?_
        refine zS 3 [(23, .bool true), (24, .sl Y0 specs), (25, .sl Y1 h0), (26, .sl (.int .i64) l)] [] ?_
        obtain ⟨v0_4, hv7, h⟩ := Option.bind_eq_some_iff.1 h
        refine zG [] [] (hc_linealref02_allows specs h0 l hv7) [(23, .bool true), (27, .bool v0_4)] [] ?_
        refine zB [(6, .bool v0_4), (7, .int .i64 0)] [] ?_
        refine AW.ret ?_
        obtain rfl := Option.some.inj h
        exact zR [] [] []
      ·
        refine zT [(0, .sl Y0 specs), (1, .sl Y1 h0), (2, .sl (.int .i64) l), (23, .bool false)] [] gt ?_
        refine zS 4 [(23, .bool false), (27, .cv (undef))] [] ?_
        refine zB [(6, .bool false), (7, .int .i64 0)] [] ?_
        refine AW.ret ?_
        obtain rfl := Option.some.inj h
        exact zR [] [] []
    ·
      refine zT [(0, .sl Y0 specs), (1, .sl Y1 h0), (2, .sl (.int .i64) l), (18, .bool false)] [] gt ?_
      refine zS 6 [(1, .sl Y1 h0), (2, .sl (.int .i64) l), (23, .bool false), (24, .cv (undef))] [] ?_
      refine zB [(6, .bool false), (7, .int .i64 0)] [] ?_
      refine AW.ret ?_
      obtain rfl := Option.some.inj h
      exact zR [] [] []

theorem hc_history_states_allow_2 (specs : List (Int × Int × (List (List Int)) × (List (List Int)))) (c : Int × Int × Int × Int × Int × Int) (s : Int × Int) {r : Bool × Int × Int} (h : history_states_allow_2 specs c s = some r) : HC Try.prog 117 [(1000, .box 92 [.int .i64 s.1, .int .i64 s.2])] [.bp 1000 0, .sl Y0 specs, .agg [.int .i64 c.1, .int .i64 c.2.1, .int .i64 c.2.2.1, .int .i64 c.2.2.2.1, .int .i64 c.2.2.2.2.1, .int .i64 c.2.2.2.2.2]] [(1000, .box 92 [.int .i64 r.2.1, .int .i64 r.2.2])] (.bool r.1) := by
  unfold history_states_allow_2 at h
  refine zH Try.func117 [.tmp 6] 21 ?_
  refine zo ?_
  refine zB [(0, .bp 1000 0), (1, .sl Y0 specs), (5, .bp 5 0)] [(5, .box 55 [.int .i64 c.1, .int .i64 c.2.1, .int .i64 c.2.2.1, .int .i64 c.2.2.2.1, .int .i64 c.2.2.2.2.1, .int .i64 c.2.2.2.2.2]), (1000, .box 92 [.int .i64 s.1, .int .i64 s.2])] ?_
  refine zo ?_
  refine zS 3 [(5, .bp 5 0), (8, .bp 1000 0), (9, .sl Y0 specs), (10, .agg [.int .i64 c.1, .int .i64 c.2.1, .int .i64 c.2.2.1, .int .i64 c.2.2.2.1, .int .i64 c.2.2.2.2.1, .int .i64 c.2.2.2.2.2])] [(5, .box 55 [.int .i64 c.1, .int .i64 c.2.1, .int .i64 c.2.2.1, .int .i64 c.2.2.2.1, .int .i64 c.2.2.2.2.1, .int .i64 c.2.2.2.2.2]), (1000, .box 92 [.int .i64 s.1, .int .i64 s.2])] ?_
  obtain ⟨v0, hv1, h⟩ := Option.bind_eq_some_iff.1 h
  refine zC [] [(1000, 1000)] (hc_history_states_answer_2 specs c s hv1) [(5, .bp 5 0), (11, .int .i64 v0.1)] [(5, .box 55 [.int .i64 c.1, .int .i64 c.2.1, .int .i64 c.2.2.1, .int .i64 c.2.2.2.1, .int .i64 c.2.2.2.2.1, .int .i64 c.2.2.2.2.2]), (1000, .box 92 [.int .i64 v0.2.1, .int .i64 v0.2.2])] ?_
  refine zB [(5, .bp 5 0), (7, .int .i64 v0.1)] [(5, .box 55 [.int .i64 c.1, .int .i64 c.2.1, .int .i64 c.2.2.1, .int .i64 c.2.2.2.1, .int .i64 c.2.2.2.2.1, .int .i64 c.2.2.2.2.2]), (1000, .box 92 [.int .i64 v0.2.1, .int .i64 v0.2.2])] ?_
  refine zo ?_
  refine zS 4 [(5, .bp 5 0), (7, .int .i64 v0.1), (15, .bool (decide (c.2.2.2.2.2 = 0)))] [(5, .box 55 [.int .i64 c.1, .int .i64 c.2.1, .int .i64 c.2.2.1, .int .i64 c.2.2.2.1, .int .i64 c.2.2.2.2.1, .int .i64 c.2.2.2.2.2]), (1000, .box 92 [.int .i64 v0.2.1, .int .i64 v0.2.2])] ?_
  rcases zI h with ⟨hb2, h⟩ | ⟨hb2, h⟩
  ·
    refine zT [(5, .bp 5 0), (7, .int .i64 v0.1), (15, .bool true)] [(5, .box 55 [.int .i64 c.1, .int .i64 c.2.1, .int .i64 c.2.2.1, .int .i64 c.2.2.2.1, .int .i64 c.2.2.2.2.1, .int .i64 c.2.2.2.2.2]), (1000, .box 92 [.int .i64 v0.2.1, .int .i64 v0.2.2])] gt ?_
    refine zS 4 [(15, .bool true), (19, .cv (undef))] [(1000, .box 92 [.int .i64 v0.2.1, .int .i64 v0.2.2])] ?_
    refine zB [(6, .bool true)] [(1000, .box 92 [.int .i64 v0.2.1, .int .i64 v0.2.2])] ?_
    refine AW.ret ?_
    obtain rfl := Option.some.inj h
    exact zR [] [] []
  ·
    refine zT [(5, .bp 5 0), (7, .int .i64 v0.1), (15, .bool false)] [(5, .box 55 [.int .i64 c.1, .int .i64 c.2.1, .int .i64 c.2.2.1, .int .i64 c.2.2.2.1, .int .i64 c.2.2.2.2.1, .int .i64 c.2.2.2.2.2]), (1000, .box 92 [.int .i64 v0.2.1, .int .i64 v0.2.2])] gt ?_
    refine zB [(6, .bool (decide (v0.1 = c.2.2.2.1)))] [(1000, .box 92 [.int .i64 v0.2.1, .int .i64 v0.2.2])] ?_
    refine AW.ret ?_
    obtain rfl := Option.some.inj h
    exact zR [] [] []

theorem hc_history_allows (specs : List (Int × Int × (List (List Int)) × (List (List Int)))) (h0 : List (Int × Int × Int × Int × Int × Int)) (order : List Int) {r : Bool} (h : history_allows specs h0 order = some r) : HC Try.prog 78 [] [.sl Y0 specs, .sl Y1 h0, .sl (.int .i64) order] [] (.bool r) := by
  unfold history_allows at h
  refine zH Try.func78 [.tmp 6] 24 ?_
  refine zo ?_
  refine zB [(0, .sl Y0 specs), (1, .sl Y1 h0), (2, .sl (.int .i64) order)] [] ?_
  refine zo ?_
  refine zB [(0, .sl Y0 specs), (1, .sl Y1 h0), (2, .sl (.int .i64) order), (7, .bp 7 0)] [(7, .box 92 [.int .i64 0, .int .i64 0])] ?_
  refine AW.have1 (fun _ : Unit => history_allows_k1 = some r) (fun _ => ⟨fr [], hpGet [], gt⟩) (fun _ h => ?_) (fun hk_history_allows_k1 => ?_)
  · unfold history_allows_k1 at h
    refine zo ?_
    refine zB [(6, .bool true)] [] ?_
    refine AW.ret ?_
    obtain rfl := Option.some.inj h
    exact zR [] [] []
  · refine AW.seq ?_
    refine zo ?_
    refine zB [(0, .sl Y0 specs), (1, .sl Y1 h0), (7, .bp 7 0), (10, .sl (.int .i64) order), (11, .int .i64 (order.length : Int)), (12, .int .i64 0)] [(7, .box 92 [.int .i64 0, .int .i64 0])] ?_
    refine AW.block ?_
    obtain ⟨rv5, hw1, ho2⟩ := Option.bind_eq_some_iff.1 h
    refine AW.loopO (history_allows_b1 specs h0 order) (fun st1 => ⟨fr [(0, .sl Y0 specs), (1, .sl Y1 h0), (7, .bp 7 0), (10, .sl (.int .i64) order), (11, .int .i64 (order.length : Int)), (12, .int .i64 st1.2.2)], hpGet [(7, .box 92 [.int .i64 st1.1, .int .i64 st1.2.1])], gt⟩) (0, 0, 0) hw1 (zL [] [] []) ?_
    intro st1 x4 h hd3
    unfold history_allows_b1 at h
    refine zo ?_
    refine zB [(0, .sl Y0 specs), (1, .sl Y1 h0), (7, .bp 7 0), (10, .sl (.int .i64) order), (11, .int .i64 (order.length : Int)), (12, .int .i64 st1.2.2), (13, .bool (decide (st1.2.2 < (order.length : Int))))] [(7, .box 92 [.int .i64 st1.1, .int .i64 st1.2.1])] ?_
    refine AW.seq ?_
    refine zQ h (fun hb6 h => ?_) (fun hb6 h => ?_)
    ·
      refine zk ?_
      refine AW.seq ?_
      refine AW.block ?_
      refine zo ?_
      obtain ⟨c7, h⟩ := ck_some.1 h
      obtain ⟨c8, h⟩ := ck_some.1 h
      refine zB [(0, .sl Y0 specs), (1, .sl Y1 h0), (7, .bp 7 0), (9, .int .i64 (order.getD st1.2.2.toNat 0)), (10, .sl (.int .i64) order), (11, .int .i64 (order.length : Int)), (12, .int .i64 st1.2.2)] [(7, .box 92 [.int .i64 st1.1, .int .i64 st1.2.1])] ?_
      refine zo ?_
      obtain ⟨c9, h⟩ := ck_some.1 h
      obtain ⟨c10, h⟩ := ck_some.1 h
      refine zS 5 [(0, .sl Y0 specs), (1, .sl Y1 h0), (7, .bp 7 0), (10, .sl (.int .i64) order), (11, .int .i64 (order.length : Int)), (12, .int .i64 st1.2.2), (16, .sl Y0 specs), (20, .agg [.int .i64 (h0.getD (order.getD st1.2.2.toNat 0).toNat (0, 0, 0, 0, 0, 0)).1, .int .i64 (h0.getD (order.getD st1.2.2.toNat 0).toNat (0, 0, 0, 0, 0, 0)).2.1, .int .i64 (h0.getD (order.getD st1.2.2.toNat 0).toNat (0, 0, 0, 0, 0, 0)).2.2.1, .int .i64 (h0.getD (order.getD st1.2.2.toNat 0).toNat (0, 0, 0, 0, 0, 0)).2.2.2.1, .int .i64 (h0.getD (order.getD st1.2.2.toNat 0).toNat (0, 0, 0, 0, 0, 0)).2.2.2.2.1, .int .i64 (h0.getD (order.getD st1.2.2.toNat 0).toNat (0, 0, 0, 0, 0, 0)).2.2.2.2.2])] [(7, .box 92 [.int .i64 st1.1, .int .i64 st1.2.1])] ?_
      obtain ⟨v0, hv11, h⟩ := Option.bind_eq_some_iff.1 h
      refine zC [] [(1000, 7)] (hc_history_states_allow_2 specs (h0.getD (order.getD st1.2.2.toNat 0).toNat (0, 0, 0, 0, 0, 0)) (st1.1, st1.2.1) hv11) [(0, .sl Y0 specs), (1, .sl Y1 h0), (7, .bp 7 0), (10, .sl (.int .i64) order), (11, .int .i64 (order.length : Int)), (12, .int .i64 st1.2.2), (21, .bool v0.1)] [(7, .box 92 [.int .i64 v0.2.1, .int .i64 v0.2.2])] ?_
      refine zB [(0, .sl Y0 specs), (1, .sl Y1 h0), (7, .bp 7 0), (10, .sl (.int .i64) order), (11, .int .i64 (order.length : Int)), (12, .int .i64 st1.2.2), (22, .bool (!v0.1))] [(7, .box 92 [.int .i64 v0.2.1, .int .i64 v0.2.2])] ?_
      refine zQ h (fun hb12 h => ?_) (fun hb12 h => ?_)
      ·
        refine zo ?_
        refine zB [(6, .bool false)] [] ?_
        refine AW.ret ?_
        refine ablock_r ?_
        refine athen_r ?_
        obtain rfl := Option.some.inj h
        rw [← hd3 _ rfl] at ho2
        have h := ho2
        try simp only at h
        refine athen_r ?_
        refine ablock_r ?_
        refine athen_r ?_
        obtain rfl := Option.some.inj h
        exact zR [] [] []
      ·
        refine zm ?_
        refine athen_n ?_
        refine AW.ops ?_
        obtain ⟨c13, h⟩ := ck_some.1 h
        refine zA [(0, .sl Y0 specs), (1, .sl Y1 h0), (7, .bp 7 0), (10, .sl (.int .i64) order), (11, .int .i64 (order.length : Int)), (12, .int .i64 (st1.2.2 + 1))] [(7, .box 92 [.int .i64 v0.2.1, .int .i64 v0.2.2])] ?_
        obtain rfl := Option.some.inj h
        exact ⟨_, rfl, zL [] [] []⟩
    ·
      refine AW.exit ?_
      refine athen_e ?_
      obtain rfl := Option.some.inj h
      rw [← hd3 _ rfl] at ho2
      have h := ho2
      try simp only at h
      refine athen_e ?_
      refine ablock_s ?_
      refine athen_n ?_
      exact AW.weaken (zL [] [] []) (hk_history_allows_k1 () h)

theorem hc_history_IsOrder_1 (a0 : List (Int × Int × Int × Int × Int × Int)) (a1 : List Int) (a2 : List (Int × Int × (List (List Int)) × (List (List Int)))) {r : Bool} (h : history_IsOrder_1 a0 a1 a2 = some r) : HC Try.prog 74 [(1000, .box 23 [.sl Y1 a0]), (1001, .box 33 [.sl (.int .i64) a1]), (1002, .box 22 [.sl Y0 a2])] [.bp 1000 0, .bp 1001 0, .bp 1002 0] [(1000, .box 23 [.sl Y1 a0]), (1001, .box 33 [.sl (.int .i64) a1]), (1002, .box 22 [.sl Y0 a2])] (.bool r) := by
  unfold history_IsOrder_1 at h
  refine zH Try.func74 [.tmp 3] 18 ?_
  refine zo ?_
  refine zB [(0, .bp 1000 0), (1, .bp 1001 0), (2, .bp 1002 0)] [(1000, .box 23 [.sl Y1 a0]), (1001, .box 33 [.sl (.int .i64) a1]), (1002, .box 22 [.sl Y0 a2])] ?_
  refine zo ?_
  refine zS 2 [(0, .bp 1000 0), (1, .bp 1001 0), (2, .bp 1002 0), (4, .sl Y1 a0), (5, .sl (.int .i64) a1)] [(1000, .box 23 [.sl Y1 a0]), (1001, .box 33 [.sl (.int .i64) a1]), (1002, .box 22 [.sl Y0 a2])] ?_
  obtain ⟨v0, hv1, h⟩ := Option.bind_eq_some_iff.1 h
  refine zC [] [] (hc_history_isOrder a0 a1 hv1) [(0, .bp 1000 0), (1, .bp 1001 0), (2, .bp 1002 0), (6, .bool v0)] [(1000, .box 23 [.sl Y1 a0]), (1001, .box 33 [.sl (.int .i64) a1]), (1002, .box 22 [.sl Y0 a2])] ?_
  refine zS 1 [(0, .bp 1000 0), (1, .bp 1001 0), (2, .bp 1002 0), (7, .bool v0)] [(1000, .box 23 [.sl Y1 a0]), (1001, .box 33 [.sl (.int .i64) a1]), (1002, .box 22 [.sl Y0 a2])] ?_
  rcases zI h with ⟨hb2, h⟩ | ⟨hb2, h⟩
  ·
    refine zT [(0, .bp 1000 0), (1, .bp 1001 0), (2, .bp 1002 0), (7, .bool true)] [(1000, .box 23 [.sl Y1 a0]), (1001, .box 33 [.sl (.int .i64) a1]), (1002, .box 22 [.sl Y0 a2])] gt ?_
    refine zS 2 [(0, .bp 1000 0), (1, .bp 1001 0), (2, .bp 1002 0), (7, .bool true), (8, .sl Y1 a0), (9, .sl (.int .i64) a1)] [(1000, .box 23 [.sl Y1 a0]), (1001, .box 33 [.sl (.int .i64) a1]), (1002, .box 22 [.sl Y0 a2])] ?_
    obtain ⟨v0_2, hv3, h⟩ := Option.bind_eq_some_iff.1 h
    refine zG [] [] (hc_history_keeps a0 a1 hv3) [(0, .bp 1000 0), (1, .bp 1001 0), (2, .bp 1002 0), (7, .bool true), (10, .bool v0_2)] [(1000, .box 23 [.sl Y1 a0]), (1001, .box 33 [.sl (.int .i64) a1]), (1002, .box 22 [.sl Y0 a2])] ?_
    refine zS 2 [(0, .bp 1000 0), (1, .bp 1001 0), (2, .bp 1002 0), (12, .bool v0_2)] [(1000, .box 23 [.sl Y1 a0]), (1001, .box 33 [.sl (.int .i64) a1]), (1002, .box 22 [.sl Y0 a2])] ?_
    rcases zI h with ⟨hb4, h⟩ | ⟨hb4, h⟩
    ·
      refine zT [(0, .bp 1000 0), (1, .bp 1001 0), (2, .bp 1002 0), (12, .bool true)] [(1000, .box 23 [.sl Y1 a0]), (1001, .box 33 [.sl (.int .i64) a1]), (1002, .box 22 [.sl Y0 a2])] gt ?_
      refine zS 3 [(12, .bool true), (13, .sl Y0 a2), (14, .sl Y1 a0), (15, .sl (.int .i64) a1)] [(1000, .box 23 [.sl Y1 a0]), (1001, .box 33 [.sl (.int .i64) a1]), (1002, .box 22 [.sl Y0 a2])] ?_
      obtain ⟨v0_3, hv5, h⟩ := Option.bind_eq_some_iff.1 h
      refine zG [] [] (hc_history_allows a2 a0 a1 hv5) [(12, .bool true), (16, .bool v0_3)] [(1000, .box 23 [.sl Y1 a0]), (1001, .box 33 [.sl (.int .i64) a1]), (1002, .box 22 [.sl Y0 a2])] ?_
      refine zB [(3, .bool v0_3)] [(1000, .box 23 [.sl Y1 a0]), (1001, .box 33 [.sl (.int .i64) a1]), (1002, .box 22 [.sl Y0 a2])] ?_
      refine AW.ret ?_
      obtain rfl := Option.some.inj h
      exact zR [] [] []
    ·
      refine zT [(0, .bp 1000 0), (1, .bp 1001 0), (2, .bp 1002 0), (12, .bool false)] [(1000, .box 23 [.sl Y1 a0]), (1001, .box 33 [.sl (.int .i64) a1]), (1002, .box 22 [.sl Y0 a2])] gt ?_
      refine zS 4 [(12, .bool false), (16, .cv (undef))] [(1000, .box 23 [.sl Y1 a0]), (1001, .box 33 [.sl (.int .i64) a1]), (1002, .box 22 [.sl Y0 a2])] ?_
      refine zB [(3, .bool false)] [(1000, .box 23 [.sl Y1 a0]), (1001, .box 33 [.sl (.int .i64) a1]), (1002, .box 22 [.sl Y0 a2])] ?_
      refine AW.ret ?_
      obtain rfl := Option.some.inj h
      exact zR [] [] []
  ·
    refine zT [(0, .bp 1000 0), (1, .bp 1001 0), (2, .bp 1002 0), (7, .bool false)] [(1000, .box 23 [.sl Y1 a0]), (1001, .box 33 [.sl (.int .i64) a1]), (1002, .box 22 [.sl Y0 a2])] gt ?_
    refine zS 6 [(0, .bp 1000 0), (1, .bp 1001 0), (12, .bool false), (13, .cv (undef))] [(1000, .box 23 [.sl Y1 a0]), (1001, .box 33 [.sl (.int .i64) a1]), (1002, .box 22 [.sl Y0 a2])] ?_
    refine zB [(3, .bool false)] [(1000, .box 23 [.sl Y1 a0]), (1001, .box 33 [.sl (.int .i64) a1]), (1002, .box 22 [.sl Y0 a2])] ?_
    refine AW.ret ?_
    obtain rfl := Option.some.inj h
    exact zR [] [] []

theorem hc_history_told_23 (c0 : List (Int × Int × Int × Int × Int × Int)) (c1 : List Int) (c2 : List (Int × Int × (List (List Int)) × (List (List Int)))) {r : Bool} (h : history_told_23 c0 c1 c2 = some r) : HC Try.prog 58 [(1000, .box 23 [.sl Y1 c0]), (1001, .box 33 [.sl (.int .i64) c1]), (1002, .box 22 [.sl Y0 c2])] [.int .i64 0, .fn (.func 74) [] [.bp 1000 0, .bp 1001 0, .bp 1002 0]] [(1000, .box 23 [.sl Y1 c0]), (1001, .box 33 [.sl (.int .i64) c1]), (1002, .box 22 [.sl Y0 c2])] (.tup [.bool r, .int .i64 0]) := by
  unfold history_told_23 at h
  refine zH Try.func58 [.tmp 4, .tmp 5] 13 ?_
  refine zo ?_
  refine zB [(0, .int .i64 0), (1, .fn (.func 74) [] [.bp 1000 0, .bp 1001 0, .bp 1002 0])] [(1000, .box 23 [.sl Y1 c0]), (1001, .box 33 [.sl (.int .i64) c1]), (1002, .box 22 [.sl Y0 c2])] ?_
  refine AW.seq ?_
  refine zo ?_
  refine zB [(0, .int .i64 0), (1, .fn (.func 74) [] [.bp 1000 0, .bp 1001 0, .bp 1002 0]), (8, .bool false)] [(1000, .box 23 [.sl Y1 c0]), (1001, .box 33 [.sl (.int .i64) c1]), (1002, .box 22 [.sl Y0 c2])] ?_
  refine AW.cond (b := false) rfl (fun hb1 => by cases hb1) (fun _ => ?_)
  refine zk ?_
  refine zo ?_
  refine zS 1 [(11, .fn (.func 74) [] [.bp 1000 0, .bp 1001 0, .bp 1002 0])] [(1000, .box 23 [.sl Y1 c0]), (1001, .box 33 [.sl (.int .i64) c1]), (1002, .box 22 [.sl Y0 c2])] ?_
  obtain ⟨v0, hv2, h⟩ := Option.bind_eq_some_iff.1 h
  refine zC [] [(1000, 1000), (1001, 1001), (1002, 1002)] (hc_history_IsOrder_1 c0 c1 c2 hv2) [(12, .bool v0)] [(1000, .box 23 [.sl Y1 c0]), (1001, .box 33 [.sl (.int .i64) c1]), (1002, .box 22 [.sl Y0 c2])] ?_
  refine zB [(4, .bool v0), (5, .int .i64 0)] [(1000, .box 23 [.sl Y1 c0]), (1001, .box 33 [.sl (.int .i64) c1]), (1002, .box 22 [.sl Y0 c2])] ?_
  refine AW.ret ?_
  obtain rfl := Option.some.inj h
  exact zR [] [] []

theorem hc_history_told_24 (err : Int) (c0 : List (Int × Int × Int × Int × Int × Int)) (c1 : List Int) (c2 : List (Int × Int × (List (List Int)) × (List (List Int)))) (hnz_err : decide (err = 0) = false) {r : Unit} (h : history_told_24 err c0 c1 c2 = some r) : HC Try.prog 58 [(1000, .box 23 [.sl Y1 c0]), (1001, .box 33 [.sl (.int .i64) c1]), (1002, .box 22 [.sl Y0 c2])] [.int .i64 err, .fn (.func 74) [] [.bp 1000 0, .bp 1001 0, .bp 1002 0]] [(1000, .box 23 [.sl Y1 c0]), (1001, .box 33 [.sl (.int .i64) c1]), (1002, .box 22 [.sl Y0 c2])] (.tup [.bool false, .int .i64 err]) := by
  unfold history_told_24 at h
  refine zH Try.func58 [.tmp 4, .tmp 5] 13 ?_
  refine zo ?_
  refine zB [(0, .int .i64 err), (1, .fn (.func 74) [] [.bp 1000 0, .bp 1001 0, .bp 1002 0])] [(1000, .box 23 [.sl Y1 c0]), (1001, .box 33 [.sl (.int .i64) c1]), (1002, .box 22 [.sl Y0 c2])] ?_
  refine AW.seq ?_
  refine zo ?_
  refine zB [(0, .int .i64 err), (1, .fn (.func 74) [] [.bp 1000 0, .bp 1001 0, .bp 1002 0]), (8, .bool true)] [(1000, .box 23 [.sl Y1 c0]), (1001, .box 33 [.sl (.int .i64) c1]), (1002, .box 22 [.sl Y0 c2])] ?_
  refine AW.cond (b := true) rfl (fun _ => ?_) (fun hb1 => by cases hb1)
  refine zo ?_
  refine zB [(0, .int .i64 err), (6, .bool false)] [(1000, .box 23 [.sl Y1 c0]), (1001, .box 33 [.sl (.int .i64) c1]), (1002, .box 22 [.sl Y0 c2])] ?_
  refine zo ?_
  refine zB [(4, .bool false), (5, .int .i64 err)] [(1000, .box 23 [.sl Y1 c0]), (1001, .box 33 [.sl (.int .i64) c1]), (1002, .box 22 [.sl Y0 c2])] ?_
  refine zr ?_
  obtain rfl := Option.some.inj h
  exact zR [] [] []

theorem hc_history_IsOrder (specs : List (Int × Int × (List (List Int)) × (List (List Int)))) (h0 : List (Int × Int × Int × Int × Int × Int)) (order : List Int) {r : Bool × Int} (h : history_IsOrder specs h0 order = some r) : HC Try.prog 26 [] [.sl Y0 specs, .sl Y1 h0, .sl (.int .i64) order] [] (.tup [.bool r.1, .int .i64 r.2]) := by
  unfold history_IsOrder at h
  refine zH Try.func26 [.tmp 6, .tmp 7] 15 ?_
  refine zo ?_
  refine zB [(3, .bp 3 0), (4, .bp 4 0), (5, .bp 5 0)] [(3, .box 22 [.sl Y0 specs]), (4, .box 23 [.sl Y1 h0]), (5, .box 33 [.sl (.int .i64) order])] ?_
  refine zo ?_
  refine zS 2 [(3, .bp 3 0), (4, .bp 4 0), (5, .bp 5 0), (8, .sl Y0 specs), (9, .sl Y1 h0)] [(3, .box 22 [.sl Y0 specs]), (4, .box 23 [.sl Y1 h0]), (5, .box 33 [.sl (.int .i64) order])] ?_
  obtain ⟨v0, hv1, h⟩ := Option.bind_eq_some_iff.1 h
  refine zC [] [] (hc_history_checkFor specs h0 hv1) [(3, .bp 3 0), (4, .bp 4 0), (5, .bp 5 0), (10, .int .i64 v0)] [(3, .box 22 [.sl Y0 specs]), (4, .box 23 [.sl Y1 h0]), (5, .box 33 [.sl (.int .i64) order])] ?_
  refine zS 1 [(10, .int .i64 v0), (11, .fn (.func 74) [] [.bp 4 0, .bp 5 0, .bp 3 0])] [(3, .box 22 [.sl Y0 specs]), (4, .box 23 [.sl Y1 h0]), (5, .box 33 [.sl (.int .i64) order])] ?_
  rcases Bool.eq_false_or_eq_true (decide (v0 = 0)) with hb2 | hb2
  · rw [if_pos hb2] at h
    have hz3 : v0 = 0 := by simpa using hb2
    refine zT [(10, .int .i64 0), (11, .fn (.func 74) [] [.bp 4 0, .bp 5 0, .bp 3 0])] [(3, .box 22 [.sl Y0 specs]), (4, .box 23 [.sl Y1 h0]), (5, .box 33 [.sl (.int .i64) order])] gt ?_
    obtain ⟨v0_2, hv4, h⟩ := Option.bind_eq_some_iff.1 h
    refine zC [] [(1000, 4), (1001, 5), (1002, 3)] (hc_history_told_23 h0 order specs hv4) [(12, .tup [.bool v0_2, .int .i64 0])] [] ?_
    refine zB [(6, .bool v0_2), (7, .int .i64 0)] [] ?_
    refine AW.ret ?_
    obtain rfl := Option.some.inj h
    exact zR [] [] []
  · rw [if_neg (Bool.eq_false_iff.1 hb2)] at h
    refine zT [(10, .int .i64 v0), (11, .fn (.func 74) [] [.bp 4 0, .bp 5 0, .bp 3 0])] [(3, .box 22 [.sl Y0 specs]), (4, .box 23 [.sl Y1 h0]), (5, .box 33 [.sl (.int .i64) order])] gt ?_
    obtain ⟨v0_3, hv5, h⟩ := Option.bind_eq_some_iff.1 h
    refine zC [] [(1000, 4), (1001, 5), (1002, 3)] (hc_history_told_24 v0 h0 order specs hb2 hv5) [(12, .tup [.bool false, .int .i64 v0])] [] ?_
    refine zB [(6, .bool false), (7, .int .i64 v0)] [] ?_
    refine AW.ret ?_
    obtain rfl := Option.some.inj h
    exact zR [] [] []

theorem hc_linealtop_TopHistory (specs : List (Int × Int × (List (List Int)) × (List (List Int)))) (h0 : List (Int × Int × Int × Int × Int × Int)) (v0 : Int × Int × Int × Int) {r : Bool} (h : linealtop_TopHistory specs h0 v0 = some r) : HC Try.prog 16 [] [.sl Y0 specs, .sl Y1 h0, .agg [.int .u8 v0.1, .int .u8 v0.2.1, .int .u8 v0.2.2.1, .int .u8 v0.2.2.2]] [] (.bool r) := by
  unfold linealtop_TopHistory at h
  refine zH Try.func16 [.tmp 6] 217 ?_
  refine zo ?_
  refine zB [(0, .sl Y0 specs), (1, .sl Y1 h0), (5, .bp 5 0)] [(5, .box 60 [.int .u8 v0.1, .int .u8 v0.2.1, .int .u8 v0.2.2.1, .int .u8 v0.2.2.2])] ?_
  refine AW.seq ?_
  refine zo ?_
  refine zS 1 [(0, .sl Y0 specs), (1, .sl Y1 h0), (5, .bp 5 0), (27, .sl Y0 specs)] [(5, .box 60 [.int .u8 v0.1, .int .u8 v0.2.1, .int .u8 v0.2.2.1, .int .u8 v0.2.2.2])] ?_
  obtain ⟨v0_2, hv1, h⟩ := Option.bind_eq_some_iff.1 h
  refine zC [] [] (hc_lineallaw02_Large specs hv1) [(0, .sl Y0 specs), (1, .sl Y1 h0), (5, .bp 5 0), (28, .bool v0_2)] [(5, .box 60 [.int .u8 v0.1, .int .u8 v0.2.1, .int .u8 v0.2.2.1, .int .u8 v0.2.2.2])] ?_
  refine zS 1 [(0, .sl Y0 specs), (1, .sl Y1 h0), (5, .bp 5 0), (29, .bool v0_2)] [(5, .box 60 [.int .u8 v0.1, .int .u8 v0.2.1, .int .u8 v0.2.2.1, .int .u8 v0.2.2.2])] ?_
  rcases zI h with ⟨hb2, h⟩ | ⟨hb2, h⟩
  ·
    refine zT [(0, .sl Y0 specs), (1, .sl Y1 h0), (5, .bp 5 0), (29, .bool true)] [(5, .box 60 [.int .u8 v0.1, .int .u8 v0.2.1, .int .u8 v0.2.2.1, .int .u8 v0.2.2.2])] gt ?_
    refine zB [(0, .sl Y0 specs), (1, .sl Y1 h0), (5, .bp 5 0), (32, .bool true)] [(5, .box 60 [.int .u8 v0.1, .int .u8 v0.2.1, .int .u8 v0.2.2.1, .int .u8 v0.2.2.2])] ?_
    refine AW.cond (b := true) rfl (fun _ => ?_) (fun hb3 => by cases hb3)
    refine zo ?_
    obtain ⟨v0_3, hv4, h⟩ := Option.bind_eq_some_iff.1 h
    refine zC [] [] (hc_lineallaw02_Sane hv4) [(33, .bool v0_3)] [] ?_
    refine zB [(6, .bool v0_3)] [] ?_
    refine zr ?_
    obtain rfl := Option.some.inj h
    exact zR [] [] []
  ·
    refine zT [(0, .sl Y0 specs), (1, .sl Y1 h0), (5, .bp 5 0), (29, .bool false)] [(5, .box 60 [.int .u8 v0.1, .int .u8 v0.2.1, .int .u8 v0.2.2.1, .int .u8 v0.2.2.2])] gt ?_
    refine zS 1 [(0, .sl Y0 specs), (1, .sl Y1 h0), (5, .bp 5 0), (29, .bool false), (30, .sl Y1 h0)] [(5, .box 60 [.int .u8 v0.1, .int .u8 v0.2.1, .int .u8 v0.2.2.1, .int .u8 v0.2.2.2])] ?_
    obtain ⟨v0_4, hv5, h⟩ := Option.bind_eq_some_iff.1 h
    refine zG [] [] (hc_lineallaw02_Long h0 hv5) [(0, .sl Y0 specs), (1, .sl Y1 h0), (5, .bp 5 0), (29, .bool false), (31, .bool (decide (40 < (h0.length : Int))))] [(5, .box 60 [.int .u8 v0.1, .int .u8 v0.2.1, .int .u8 v0.2.2.1, .int .u8 v0.2.2.2])] ?_
    refine zB [(0, .sl Y0 specs), (1, .sl Y1 h0), (5, .bp 5 0), (32, .bool (decide (40 < (h0.length : Int))))] [(5, .box 60 [.int .u8 v0.1, .int .u8 v0.2.1, .int .u8 v0.2.2.1, .int .u8 v0.2.2.2])] ?_
    refine zQ h (fun hb6 h => ?_) (fun hb6 h => ?_)
    ·
      refine zo ?_
      obtain ⟨v0_5, hv7, h⟩ := Option.bind_eq_some_iff.1 h
      refine zC [] [] (hc_lineallaw02_Sane hv7) [(33, .bool v0_5)] [] ?_
      refine zB [(6, .bool v0_5)] [] ?_
      refine zr ?_
      obtain rfl := Option.some.inj h
      exact zR [] [] []
    ·
      refine zk ?_
      refine zo ?_
      refine zS 2 [(0, .sl Y0 specs), (1, .sl Y1 h0), (5, .bp 5 0), (35, .sl Y0 specs), (36, .sl Y1 h0)] [(5, .box 60 [.int .u8 v0.1, .int .u8 v0.2.1, .int .u8 v0.2.2.1, .int .u8 v0.2.2.2])] ?_
      obtain ⟨v0_6, hv8, h⟩ := Option.bind_eq_some_iff.1 h
      refine zC [] [] (hc_linealref02_For specs h0 hv8) [(0, .sl Y0 specs), (1, .sl Y1 h0), (5, .bp 5 0), (37, .tup [.bool v0_6.1, .int .i64 v0_6.2])] [(5, .box 60 [.int .u8 v0.1, .int .u8 v0.2.1, .int .u8 v0.2.2.1, .int .u8 v0.2.2.2])] ?_
      refine zB [(0, .sl Y0 specs), (1, .sl Y1 h0), (5, .bp 5 0), (7, .bool v0_6.1), (8, .int .i64 v0_6.2)] [(5, .box 60 [.int .u8 v0.1, .int .u8 v0.2.1, .int .u8 v0.2.2.1, .int .u8 v0.2.2.2])] ?_
      refine AW.seq ?_
      refine zo ?_
      refine zS 3 [(0, .sl Y0 specs), (1, .sl Y1 h0), (5, .bp 5 0), (7, .bool v0_6.1), (42, .bool (!(decide (v0_6.2 = 0))))] [(5, .box 60 [.int .u8 v0.1, .int .u8 v0.2.1, .int .u8 v0.2.2.1, .int .u8 v0.2.2.2])] ?_
      rcases zI h with ⟨hb9, h⟩ | ⟨hb9, h⟩
      ·
        refine zT [(0, .sl Y0 specs), (1, .sl Y1 h0), (5, .bp 5 0), (7, .bool v0_6.1), (42, .bool true)] [(5, .box 60 [.int .u8 v0.1, .int .u8 v0.2.1, .int .u8 v0.2.2.1, .int .u8 v0.2.2.2])] gt ?_
        refine zB [(0, .sl Y0 specs), (1, .sl Y1 h0), (5, .bp 5 0), (45, .bool true)] [(5, .box 60 [.int .u8 v0.1, .int .u8 v0.2.1, .int .u8 v0.2.2.1, .int .u8 v0.2.2.2])] ?_
        refine AW.cond (b := true) rfl (fun _ => ?_) (fun hb10 => by cases hb10)
        refine zo ?_
        obtain ⟨v0_7, hv11, h⟩ := Option.bind_eq_some_iff.1 h
        refine zC [] [] (hc_lineallaw02_Sane hv11) [(46, .bool v0_7)] [] ?_
        refine zB [(6, .bool v0_7)] [] ?_
        refine zr ?_
        obtain rfl := Option.some.inj h
        exact zR [] [] []
      ·
        refine zT [(0, .sl Y0 specs), (1, .sl Y1 h0), (5, .bp 5 0), (7, .bool v0_6.1), (42, .bool false)] [(5, .box 60 [.int .u8 v0.1, .int .u8 v0.2.1, .int .u8 v0.2.2.1, .int .u8 v0.2.2.2])] gt ?_
        refine zB [(0, .sl Y0 specs), (1, .sl Y1 h0), (5, .bp 5 0), (45, .bool (!v0_6.1))] [(5, .box 60 [.int .u8 v0.1, .int .u8 v0.2.1, .int .u8 v0.2.2.1, .int .u8 v0.2.2.2])] ?_
        refine zQ h (fun hb12 h => ?_) (fun hb12 h => ?_)
        ·
          refine zo ?_
          obtain ⟨v0_8, hv13, h⟩ := Option.bind_eq_some_iff.1 h
          refine zC [] [] (hc_lineallaw02_Sane hv13) [(46, .bool v0_8)] [] ?_
          refine zB [(6, .bool v0_8)] [] ?_
          refine zr ?_
          obtain rfl := Option.some.inj h
          exact zR [] [] []
        ·
          refine zk ?_
          refine zo ?_
          refine zS 2 [(0, .sl Y0 specs), (1, .sl Y1 h0), (5, .bp 5 0), (48, .sl Y0 specs), (49, .sl Y1 h0)] [(5, .box 60 [.int .u8 v0.1, .int .u8 v0.2.1, .int .u8 v0.2.2.1, .int .u8 v0.2.2.2])] ?_
          obtain ⟨v0_9, hv14, h⟩ := Option.bind_eq_some_iff.1 h
          refine zC [] [] (hc_history_Linear specs h0 hv14) [(0, .sl Y0 specs), (1, .sl Y1 h0), (5, .bp 5 0), (50, .tup [.bool v0_9.1, .int .i64 v0_9.2])] [(5, .box 60 [.int .u8 v0.1, .int .u8 v0.2.1, .int .u8 v0.2.2.1, .int .u8 v0.2.2.2])] ?_
          refine zB [(0, .sl Y0 specs), (1, .sl Y1 h0), (5, .bp 5 0), (8, .int .i64 v0_9.2), (9, .bool v0_9.1)] [(5, .box 60 [.int .u8 v0.1, .int .u8 v0.2.1, .int .u8 v0.2.2.1, .int .u8 v0.2.2.2])] ?_
          refine AW.seq ?_
          refine zo ?_
          refine zB [(0, .sl Y0 specs), (1, .sl Y1 h0), (5, .bp 5 0), (9, .bool v0_9.1), (54, .bool (!(decide (v0_9.2 = 0))))] [(5, .box 60 [.int .u8 v0.1, .int .u8 v0.2.1, .int .u8 v0.2.2.1, .int .u8 v0.2.2.2])] ?_
          refine zQ h (fun hb15 h => ?_) (fun hb15 h => ?_)
          ·
            refine zo ?_
            refine zB [(6, .bool false)] [] ?_
            refine zr ?_
            obtain rfl := Option.some.inj h
            exact zR [] [] []
          ·
            refine zk ?_
            refine zo ?_
            refine zB [(0, .sl Y0 specs), (1, .sl Y1 h0), (5, .bp 5 0), (9, .bool v0_9.1), (10, .bool true)] [(5, .box 60 [.int .u8 v0.1, .int .u8 v0.2.1, .int .u8 v0.2.2.1, .int .u8 v0.2.2.2])] ?_
            refine AW.have1 (fun b1 : Bool => linealtop_TopHistory_k1 specs h0 v0 v0_9 b1 = some r) (fun b1 => ⟨fr [(0, .sl Y0 specs), (1, .sl Y1 h0), (5, .bp 5 0), (9, .bool v0_9.1), (10, .bool b1)], hpGet [(5, .box 60 [.int .u8 v0.1, .int .u8 v0.2.1, .int .u8 v0.2.2.1, .int .u8 v0.2.2.2])], gt⟩) (fun b1 h => ?_) (fun hk_linealtop_TopHistory_k1 => ?_)
            · unfold linealtop_TopHistory_k1 at h
              refine AW.seq ?_
              refine zo ?_
              refine zB [(0, .sl Y0 specs), (1, .sl Y1 h0), (5, .bp 5 0), (9, .bool v0_9.1), (83, .bool ((b1 == v0_9.1) != true))] [(5, .box 60 [.int .u8 v0.1, .int .u8 v0.2.1, .int .u8 v0.2.2.1, .int .u8 v0.2.2.2])] ?_
              refine zQ h (fun hb16 h => ?_) (fun hb16 h => ?_)
              ·
                refine zo ?_
                refine zB [(6, .bool false)] [] ?_
                refine zr ?_
                obtain rfl := Option.some.inj h
                exact zR [] [] []
              ·
                refine zk ?_
                refine AW.seq ?_
                refine zo ?_
                refine zB [(0, .sl Y0 specs), (1, .sl Y1 h0), (5, .bp 5 0), (85, .bool (!v0_9.1))] [(5, .box 60 [.int .u8 v0.1, .int .u8 v0.2.1, .int .u8 v0.2.2.1, .int .u8 v0.2.2.2])] ?_
                refine zQ h (fun hb17 h => ?_) (fun hb17 h => ?_)
                ·
                  refine zo ?_
                  refine zS 2 [(87, .sl Y0 specs), (88, .sl Y1 h0)] [] ?_
                  obtain ⟨v0_12, hv18, h⟩ := Option.bind_eq_some_iff.1 h
                  refine zC [] [] (hc_history_Order specs h0 hv18) [(89, .tup [.own 99000, .int .i64 v0_12.2])] [(99000, .arr 3 (.int .i64) v0_12.1)] ?_
                  refine zB [(17, .int .i64 v0_12.2)] [] ?_
                  refine zo ?_
                  refine zS 3 [(94, .bool (decide (v0_12.2 = 5)))] [] ?_
                  rcases zI h with ⟨hb19, h⟩ | ⟨hb19, h⟩
                  ·
                    refine zT [(94, .bool true)] [] gt ?_
                    obtain ⟨v0_13, hv20, h⟩ := Option.bind_eq_some_iff.1 h
                    refine zG [] [] (hc_lineallaw02_Sane hv20) [(94, .bool true), (95, .bool v0_13)] [] ?_
                    refine zB [(6, .bool v0_13)] [] ?_
                    refine zr ?_
                    obtain rfl := Option.some.inj h
                    exact zR [] [] []
                  ·
                    refine zT [(94, .bool false)] [] gt ?_
                    refine zB [(6, .bool false)] [] ?_
                    refine zr ?_
                    obtain rfl := Option.some.inj h
                    exact zR [] [] []
                ·
                  refine zk ?_
                  refine zo ?_
                  refine zS 2 [(0, .sl Y0 specs), (1, .sl Y1 h0), (5, .bp 5 0), (98, .sl Y0 specs), (99, .sl Y1 h0)] [(5, .box 60 [.int .u8 v0.1, .int .u8 v0.2.1, .int .u8 v0.2.2.1, .int .u8 v0.2.2.2])] ?_
                  obtain ⟨v0_14, hv21, h⟩ := Option.bind_eq_some_iff.1 h
                  refine zC [] [] (hc_history_Order specs h0 hv21) [(0, .sl Y0 specs), (1, .sl Y1 h0), (5, .bp 5 0), (100, .tup [.own 110000, .int .i64 v0_14.2])] [(5, .box 60 [.int .u8 v0.1, .int .u8 v0.2.1, .int .u8 v0.2.2.1, .int .u8 v0.2.2.2]), (110000, .arr 3 (.int .i64) v0_14.1)] ?_
                  refine zB [(0, .sl Y0 specs), (1, .sl Y1 h0), (5, .bp 5 0), (8, .int .i64 v0_14.2), (18, .own 110000)] [(5, .box 60 [.int .u8 v0.1, .int .u8 v0.2.1, .int .u8 v0.2.2.1, .int .u8 v0.2.2.2]), (110000, .arr 3 (.int .i64) v0_14.1)] ?_
                  refine zo ?_
                  refine zS 3 [(0, .sl Y0 specs), (1, .sl Y1 h0), (5, .bp 5 0), (8, .int .i64 v0_14.2), (18, .own 110000), (104, .sl Y0 specs), (105, .sl Y1 h0), (106, .own 110000)] [(5, .box 60 [.int .u8 v0.1, .int .u8 v0.2.1, .int .u8 v0.2.2.1, .int .u8 v0.2.2.2]), (110000, .arr 3 (.int .i64) v0_14.1)] ?_
                  obtain ⟨v0_15, hv22, h⟩ := Option.bind_eq_some_iff.1 h
                  refine zC [110000] [] (hc_linealref02_IsOrder specs h0 v0_14.1 hv22) [(0, .sl Y0 specs), (1, .sl Y1 h0), (5, .bp 5 0), (8, .int .i64 v0_14.2), (18, .own 110000), (107, .tup [.bool v0_15.1, .int .i64 v0_15.2])] [(5, .box 60 [.int .u8 v0.1, .int .u8 v0.2.1, .int .u8 v0.2.2.1, .int .u8 v0.2.2.2]), (110000, .arr 3 (.int .i64) v0_14.1)] ?_
                  refine zB [(0, .sl Y0 specs), (1, .sl Y1 h0), (5, .bp 5 0), (8, .int .i64 v0_14.2), (18, .own 110000), (19, .bool v0_15.1), (20, .int .i64 v0_15.2)] [(5, .box 60 [.int .u8 v0.1, .int .u8 v0.2.1, .int .u8 v0.2.2.1, .int .u8 v0.2.2.2]), (110000, .arr 3 (.int .i64) v0_14.1)] ?_
                  refine AW.seq ?_
                  refine zo ?_
                  refine zS 3 [(0, .sl Y0 specs), (1, .sl Y1 h0), (5, .bp 5 0), (18, .own 110000), (19, .bool v0_15.1), (20, .int .i64 v0_15.2), (112, .bool (!(decide (v0_14.2 = 0))))] [(5, .box 60 [.int .u8 v0.1, .int .u8 v0.2.1, .int .u8 v0.2.2.1, .int .u8 v0.2.2.2]), (110000, .arr 3 (.int .i64) v0_14.1)] ?_
                  rcases zI h with ⟨hb23, h⟩ | ⟨hb23, h⟩
                  ·
                    refine zT [(0, .sl Y0 specs), (1, .sl Y1 h0), (5, .bp 5 0), (18, .own 110000), (19, .bool v0_15.1), (20, .int .i64 v0_15.2), (112, .bool true)] [(5, .box 60 [.int .u8 v0.1, .int .u8 v0.2.1, .int .u8 v0.2.2.1, .int .u8 v0.2.2.2]), (110000, .arr 3 (.int .i64) v0_14.1)] gt ?_
                    refine zS 6 [(0, .sl Y0 specs), (1, .sl Y1 h0), (5, .bp 5 0), (18, .own 110000), (116, .bool true), (118, .cv (undef))] [(5, .box 60 [.int .u8 v0.1, .int .u8 v0.2.1, .int .u8 v0.2.2.1, .int .u8 v0.2.2.2]), (110000, .arr 3 (.int .i64) v0_14.1)] ?_
                    refine zB [(0, .sl Y0 specs), (1, .sl Y1 h0), (5, .bp 5 0), (18, .own 110000), (119, .bool true)] [(5, .box 60 [.int .u8 v0.1, .int .u8 v0.2.1, .int .u8 v0.2.2.1, .int .u8 v0.2.2.2]), (110000, .arr 3 (.int .i64) v0_14.1)] ?_
                    refine AW.cond (b := true) rfl (fun _ => ?_) (fun hb24 => by cases hb24)
                    refine zo ?_
                    refine zB [(6, .bool false)] [] ?_
                    refine zr ?_
                    obtain rfl := Option.some.inj h
                    exact zR [] [] []
                  ·
                    refine zT [(0, .sl Y0 specs), (1, .sl Y1 h0), (5, .bp 5 0), (18, .own 110000), (19, .bool v0_15.1), (20, .int .i64 v0_15.2), (112, .bool false)] [(5, .box 60 [.int .u8 v0.1, .int .u8 v0.2.1, .int .u8 v0.2.2.1, .int .u8 v0.2.2.2]), (110000, .arr 3 (.int .i64) v0_14.1)] gt ?_
                    refine zS 4 [(0, .sl Y0 specs), (1, .sl Y1 h0), (5, .bp 5 0), (18, .own 110000), (19, .bool v0_15.1), (116, .bool (!(decide (v0_15.2 = 0))))] [(5, .box 60 [.int .u8 v0.1, .int .u8 v0.2.1, .int .u8 v0.2.2.1, .int .u8 v0.2.2.2]), (110000, .arr 3 (.int .i64) v0_14.1)] ?_
                    rcases zI h with ⟨hb25, h⟩ | ⟨hb25, h⟩
                    ·
                      refine zT [(0, .sl Y0 specs), (1, .sl Y1 h0), (5, .bp 5 0), (18, .own 110000), (19, .bool v0_15.1), (116, .bool true)] [(5, .box 60 [.int .u8 v0.1, .int .u8 v0.2.1, .int .u8 v0.2.2.1, .int .u8 v0.2.2.2]), (110000, .arr 3 (.int .i64) v0_14.1)] gt ?_
                      refine zB [(0, .sl Y0 specs), (1, .sl Y1 h0), (5, .bp 5 0), (18, .own 110000), (119, .bool true)] [(5, .box 60 [.int .u8 v0.1, .int .u8 v0.2.1, .int .u8 v0.2.2.1, .int .u8 v0.2.2.2]), (110000, .arr 3 (.int .i64) v0_14.1)] ?_
                      refine AW.cond (b := true) rfl (fun _ => ?_) (fun hb26 => by cases hb26)
                      refine zo ?_
                      refine zB [(6, .bool false)] [] ?_
                      refine zr ?_
                      obtain rfl := Option.some.inj h
                      exact zR [] [] []
                    ·
                      refine zT [(0, .sl Y0 specs), (1, .sl Y1 h0), (5, .bp 5 0), (18, .own 110000), (19, .bool v0_15.1), (116, .bool false)] [(5, .box 60 [.int .u8 v0.1, .int .u8 v0.2.1, .int .u8 v0.2.2.1, .int .u8 v0.2.2.2]), (110000, .arr 3 (.int .i64) v0_14.1)] gt ?_
                      refine zB [(0, .sl Y0 specs), (1, .sl Y1 h0), (5, .bp 5 0), (18, .own 110000), (119, .bool (!v0_15.1))] [(5, .box 60 [.int .u8 v0.1, .int .u8 v0.2.1, .int .u8 v0.2.2.1, .int .u8 v0.2.2.2]), (110000, .arr 3 (.int .i64) v0_14.1)] ?_
                      refine zQ h (fun hb27 h => ?_) (fun hb27 h => ?_)
                      ·
                        refine zo ?_
                        refine zB [(6, .bool false)] [] ?_
                        refine zr ?_
                        obtain rfl := Option.some.inj h
                        exact zR [] [] []
                      ·
                        refine zk ?_
                        refine zo ?_
                        obtain ⟨c28, h⟩ := ck_some.1 h
                        obtain ⟨c29, h⟩ := ck_some.1 h
                        refine zS 5 [(0, .sl Y0 specs), (1, .sl Y1 h0), (5, .bp 5 0), (18, .own 110000), (121, .sl Y1 h0), (125, .int .i64 (v0.1 % 101))] [(5, .box 60 [.int .u8 v0.1, .int .u8 v0.2.1, .int .u8 v0.2.2.1, .int .u8 v0.2.2.2]), (110000, .arr 3 (.int .i64) v0_14.1)] ?_
                        obtain ⟨v0_16, hv30, h⟩ := Option.bind_eq_some_iff.1 h
                        refine zC [] [] (hc_history_Until h0 (v0.1 % 101) hv30) [(0, .sl Y0 specs), (1, .sl Y1 h0), (5, .bp 5 0), (18, .own 110000), (126, .tup [.own 136000, .int .i64 v0_16.2])] [(5, .box 60 [.int .u8 v0.1, .int .u8 v0.2.1, .int .u8 v0.2.2.1, .int .u8 v0.2.2.2]), (110000, .arr 3 (.int .i64) v0_14.1), (136000, .arr 55 Y1 v0_16.1)] ?_
                        refine zB [(0, .sl Y0 specs), (1, .sl Y1 h0), (5, .bp 5 0), (8, .int .i64 v0_16.2), (18, .own 110000), (21, .own 136000)] [(5, .box 60 [.int .u8 v0.1, .int .u8 v0.2.1, .int .u8 v0.2.2.1, .int .u8 v0.2.2.2]), (110000, .arr 3 (.int .i64) v0_14.1), (136000, .arr 55 Y1 v0_16.1)] ?_
                        refine zo ?_
                        refine zS 2 [(0, .sl Y0 specs), (1, .sl Y1 h0), (5, .bp 5 0), (8, .int .i64 v0_16.2), (18, .own 110000), (130, .sl Y0 specs), (131, .own 136000)] [(5, .box 60 [.int .u8 v0.1, .int .u8 v0.2.1, .int .u8 v0.2.2.1, .int .u8 v0.2.2.2]), (110000, .arr 3 (.int .i64) v0_14.1), (136000, .arr 55 Y1 v0_16.1)] ?_
                        obtain ⟨v0_17, hv31, h⟩ := Option.bind_eq_some_iff.1 h
                        refine zC [136000] [] (hc_history_Linear specs v0_16.1 hv31) [(0, .sl Y0 specs), (1, .sl Y1 h0), (5, .bp 5 0), (8, .int .i64 v0_16.2), (18, .own 110000), (132, .tup [.bool v0_17.1, .int .i64 v0_17.2])] [(5, .box 60 [.int .u8 v0.1, .int .u8 v0.2.1, .int .u8 v0.2.2.1, .int .u8 v0.2.2.2]), (110000, .arr 3 (.int .i64) v0_14.1)] ?_
                        refine zB [(0, .sl Y0 specs), (1, .sl Y1 h0), (5, .bp 5 0), (8, .int .i64 v0_16.2), (18, .own 110000), (20, .int .i64 v0_17.2), (22, .bool v0_17.1)] [(5, .box 60 [.int .u8 v0.1, .int .u8 v0.2.1, .int .u8 v0.2.2.1, .int .u8 v0.2.2.2]), (110000, .arr 3 (.int .i64) v0_14.1)] ?_
                        refine AW.seq ?_
                        refine zo ?_
                        refine zS 3 [(0, .sl Y0 specs), (1, .sl Y1 h0), (5, .bp 5 0), (18, .own 110000), (20, .int .i64 v0_17.2), (22, .bool v0_17.1), (137, .bool (!(decide (v0_16.2 = 0))))] [(5, .box 60 [.int .u8 v0.1, .int .u8 v0.2.1, .int .u8 v0.2.2.1, .int .u8 v0.2.2.2]), (110000, .arr 3 (.int .i64) v0_14.1)] ?_
                        rcases zI h with ⟨hb32, h⟩ | ⟨hb32, h⟩
                        ·
                          refine zT [(0, .sl Y0 specs), (1, .sl Y1 h0), (5, .bp 5 0), (18, .own 110000), (20, .int .i64 v0_17.2), (22, .bool v0_17.1), (137, .bool true)] [(5, .box 60 [.int .u8 v0.1, .int .u8 v0.2.1, .int .u8 v0.2.2.1, .int .u8 v0.2.2.2]), (110000, .arr 3 (.int .i64) v0_14.1)] gt ?_
                          refine zS 6 [(0, .sl Y0 specs), (1, .sl Y1 h0), (5, .bp 5 0), (18, .own 110000), (141, .bool true), (143, .cv (undef))] [(5, .box 60 [.int .u8 v0.1, .int .u8 v0.2.1, .int .u8 v0.2.2.1, .int .u8 v0.2.2.2]), (110000, .arr 3 (.int .i64) v0_14.1)] ?_
                          refine zB [(0, .sl Y0 specs), (1, .sl Y1 h0), (5, .bp 5 0), (18, .own 110000), (144, .bool true)] [(5, .box 60 [.int .u8 v0.1, .int .u8 v0.2.1, .int .u8 v0.2.2.1, .int .u8 v0.2.2.2]), (110000, .arr 3 (.int .i64) v0_14.1)] ?_
                          refine AW.cond (b := true) rfl (fun _ => ?_) (fun hb33 => by cases hb33)
                          refine zo ?_
                          refine zB [(6, .bool false)] [] ?_
                          refine zr ?_
                          obtain rfl := Option.some.inj h
                          exact zR [] [] []
                        ·
                          refine zT [(0, .sl Y0 specs), (1, .sl Y1 h0), (5, .bp 5 0), (18, .own 110000), (20, .int .i64 v0_17.2), (22, .bool v0_17.1), (137, .bool false)] [(5, .box 60 [.int .u8 v0.1, .int .u8 v0.2.1, .int .u8 v0.2.2.1, .int .u8 v0.2.2.2]), (110000, .arr 3 (.int .i64) v0_14.1)] gt ?_
                          refine zS 4 [(0, .sl Y0 specs), (1, .sl Y1 h0), (5, .bp 5 0), (18, .own 110000), (22, .bool v0_17.1), (141, .bool (!(decide (v0_17.2 = 0))))] [(5, .box 60 [.int .u8 v0.1, .int .u8 v0.2.1, .int .u8 v0.2.2.1, .int .u8 v0.2.2.2]), (110000, .arr 3 (.int .i64) v0_14.1)] ?_
                          rcases zI h with ⟨hb34, h⟩ | ⟨hb34, h⟩
                          ·
                            refine zT [(0, .sl Y0 specs), (1, .sl Y1 h0), (5, .bp 5 0), (18, .own 110000), (22, .bool v0_17.1), (141, .bool true)] [(5, .box 60 [.int .u8 v0.1, .int .u8 v0.2.1, .int .u8 v0.2.2.1, .int .u8 v0.2.2.2]), (110000, .arr 3 (.int .i64) v0_14.1)] gt ?_
                            refine zB [(0, .sl Y0 specs), (1, .sl Y1 h0), (5, .bp 5 0), (18, .own 110000), (144, .bool true)] [(5, .box 60 [.int .u8 v0.1, .int .u8 v0.2.1, .int .u8 v0.2.2.1, .int .u8 v0.2.2.2]), (110000, .arr 3 (.int .i64) v0_14.1)] ?_
                            refine AW.cond (b := true) rfl (fun _ => ?_) (fun hb35 => by cases hb35)
                            refine zo ?_
                            refine zB [(6, .bool false)] [] ?_
                            refine zr ?_
                            obtain rfl := Option.some.inj h
                            exact zR [] [] []
                          ·
                            refine zT [(0, .sl Y0 specs), (1, .sl Y1 h0), (5, .bp 5 0), (18, .own 110000), (22, .bool v0_17.1), (141, .bool false)] [(5, .box 60 [.int .u8 v0.1, .int .u8 v0.2.1, .int .u8 v0.2.2.1, .int .u8 v0.2.2.2]), (110000, .arr 3 (.int .i64) v0_14.1)] gt ?_
                            refine zB [(0, .sl Y0 specs), (1, .sl Y1 h0), (5, .bp 5 0), (18, .own 110000), (144, .bool (!v0_17.1))] [(5, .box 60 [.int .u8 v0.1, .int .u8 v0.2.1, .int .u8 v0.2.2.1, .int .u8 v0.2.2.2]), (110000, .arr 3 (.int .i64) v0_14.1)] ?_
                            refine zQ h (fun hb36 h => ?_) (fun hb36 h => ?_)
                            ·
                              refine zo ?_
                              refine zB [(6, .bool false)] [] ?_
                              refine zr ?_
                              obtain rfl := Option.some.inj h
                              exact zR [] [] []
                            ·
                              refine zk ?_
                              refine AW.seq ?_
                              refine zo ?_
                              refine zB [(0, .sl Y0 specs), (1, .sl Y1 h0), (5, .bp 5 0), (18, .own 110000), (147, .bool (decide ((h0.length : Int) = 0)))] [(5, .box 60 [.int .u8 v0.1, .int .u8 v0.2.1, .int .u8 v0.2.2.1, .int .u8 v0.2.2.2]), (110000, .arr 3 (.int .i64) v0_14.1)] ?_
                              refine zQ h (fun hb37 h => ?_) (fun hb37 h => ?_)
                              ·
                                refine zo ?_
                                obtain ⟨v0_18, hv38, h⟩ := Option.bind_eq_some_iff.1 h
                                refine zC [] [] (hc_lineallaw02_Sane hv38) [(148, .bool v0_18)] [] ?_
                                refine zB [(6, .bool v0_18)] [] ?_
                                refine zr ?_
                                obtain rfl := Option.some.inj h
                                exact zR [] [] []
                              ·
                                refine zk ?_
                                refine zo ?_
                                obtain ⟨c39, h⟩ := ck_some.1 h
                                obtain ⟨c40, h⟩ := ck_some.1 h
                                obtain ⟨c41, h⟩ := ck_some.1 h
                                refine zB [(0, .sl Y0 specs), (1, .sl Y1 h0), (5, .bp 5 0), (18, .own 110000), (23, .int .i64 (v0.2.1 % (h0.length : Int)))] [(5, .box 60 [.int .u8 v0.1, .int .u8 v0.2.1, .int .u8 v0.2.2.1, .int .u8 v0.2.2.2]), (110000, .arr 3 (.int .i64) v0_14.1)] ?_
                                refine AW.seq ?_
                                refine AW.draw tab_ok mixed_ok [(23, [189000])] [] (by decide) (lex_fast (by kernel_rfl)) ?_
                                obtain ⟨c43, h⟩ := ck_some.1 h
                                obtain ⟨c44, h⟩ := ck_some.1 h
                                refine adops_cut 6 (fun K' hK42 => ?_)
                                try dsimp only [List.drop_succ_cons, List.drop_zero, List.take_succ_cons, List.take_zero]
                                simp only [go_sem, hb2, hb6, hb9, hb12, hb15, hb16, hb17, hb23, hb25, hb27, hb32, hb34, hb36, hb37]
                                repeat (with_reducible refine And.intro (by first | assumption | rfl | omega | trivial | (unfold maxLen; omega)) ?_)
                                refine hK42 _ ?_
                                obtain ⟨c46, h⟩ := ck_some.1 h
                                obtain ⟨c47, h⟩ := ck_some.1 h
                                obtain ⟨c48, h⟩ := ck_some.1 h
                                refine adops_cut 6 (fun K' hK45 => ?_)
                                try dsimp only [List.drop_succ_cons, List.drop_zero, List.take_succ_cons, List.take_zero]
                                simp only [go_sem, hb2, hb6, hb9, hb12, hb15, hb16, hb17, hb23, hb25, hb27, hb32, hb34, hb36, hb37]
                                repeat (with_reducible refine And.intro (by first | assumption | rfl | omega | trivial | (unfold maxLen; omega)) ?_)
                                refine hK45 _ ?_
                                obtain ⟨c50, h⟩ := ck_some.1 h
                                obtain ⟨c51, h⟩ := ck_some.1 h
                                refine adops_cut 6 (fun K' hK49 => ?_)
                                try dsimp only [List.drop_succ_cons, List.drop_zero, List.take_succ_cons, List.take_zero]
                                simp only [go_sem, hb2, hb6, hb9, hb12, hb15, hb16, hb17, hb23, hb25, hb27, hb32, hb34, hb36, hb37]
                                repeat (with_reducible refine And.intro (by first | assumption | rfl | omega | trivial | (unfold maxLen; omega)) ?_)
                                refine hK49 _ ?_
                                obtain ⟨c53, h⟩ := ck_some.1 h
                                obtain ⟨c54, h⟩ := ck_some.1 h
                                obtain ⟨c55, h⟩ := ck_some.1 h
                                refine adops_cut 5 (fun K' hK52 => ?_)
                                try dsimp only [List.drop_succ_cons, List.drop_zero, List.take_succ_cons, List.take_zero]
                                simp only [go_sem, hb2, hb6, hb9, hb12, hb15, hb16, hb17, hb23, hb25, hb27, hb32, hb34, hb36, hb37]
                                repeat (with_reducible refine And.intro (by first | assumption | rfl | omega | trivial | (unfold maxLen; omega)) ?_)
                                refine hK52 _ ?_
                                obtain ⟨v0_19, hv56, h⟩ := Option.bind_eq_some_iff.1 h
                                refine adops.call (by first | trivial | rfl) rfl rfl rfl (fun _ h => h) [] [] (hc_history_Longer h0 (v0.2.1 % (h0.length : Int)) (max ((h0.getD (v0.2.1 % (h0.length : Int)).toNat (0, 0, 0, 0, 0, 0)).2.2.2.2.1 - (v0.2.2.1 % 10)) 1) ((h0.getD (v0.2.1 % (h0.length : Int)).toNat (0, 0, 0, 0, 0, 0)).2.2.2.2.2 + (v0.2.2.2 % 10)) hv56) rfl (by (simp only [go_sem, hb2, hb6, hb9, hb12, hb15, hb16, hb17, hb23, hb25, hb27, hb32, hb34, hb36, hb37]) <;> (with_reducible and_intros) <;> first | assumption | rfl | omega | (unfold maxLen; omega)) (by (simp only [go_sem, hb2, hb6, hb9, hb12, hb15, hb16, hb17, hb23, hb25, hb27, hb32, hb34, hb36, hb37]) <;> (with_reducible and_intros) <;> first | assumption | rfl | omega | (unfold maxLen; omega)) rfl ?_
                                refine adops_cut 5 (fun K' hK57 => ?_)
                                try dsimp only [List.drop_succ_cons, List.drop_zero, List.take_succ_cons, List.take_zero]
                                simp only [go_sem, hb2, hb6, hb9, hb12, hb15, hb16, hb17, hb23, hb25, hb27, hb32, hb34, hb36, hb37]
                                repeat (with_reducible refine And.intro (by first | assumption | rfl | omega | trivial | (unfold maxLen; omega)) ?_)
                                refine hK57 _ ?_
                                refine adops_nil ?_
                                refine athen_n ?_
                                refine zV [(0, .sl Y0 specs), (8, .int .i64 v0_19.2), (18, .own 110000), (24, .own 189000)] [(110000, .arr 3 (.int .i64) v0_14.1), (189000, .arr 55 Y1 v0_19.1)] gt ?_
                                refine AW.seq ?_
                                refine zo ?_
                                refine zB [(0, .sl Y0 specs), (8, .int .i64 v0_19.2), (18, .own 110000), (24, .own 189000), (183, .bool (!(decide (v0_19.2 = 0))))] [(110000, .arr 3 (.int .i64) v0_14.1), (189000, .arr 55 Y1 v0_19.1)] ?_
                                refine zQ h (fun hb58 h => ?_) (fun hb58 h => ?_)
                                ·
                                  refine zo ?_
                                  refine zS 3 [(186, .bool (decide (v0_19.2 = 2)))] [] ?_
                                  rcases zI h with ⟨hb59, h⟩ | ⟨hb59, h⟩
                                  ·
                                    refine zT [(186, .bool true)] [] gt ?_
                                    obtain ⟨v0_20, hv60, h⟩ := Option.bind_eq_some_iff.1 h
                                    refine zG [] [] (hc_lineallaw02_Sane hv60) [(186, .bool true), (187, .bool v0_20)] [] ?_
                                    refine zB [(6, .bool v0_20)] [] ?_
                                    refine zr ?_
                                    obtain rfl := Option.some.inj h
                                    exact zR [] [] []
                                  ·
                                    refine zT [(186, .bool false)] [] gt ?_
                                    refine zB [(6, .bool false)] [] ?_
                                    refine zr ?_
                                    obtain rfl := Option.some.inj h
                                    exact zR [] [] []
                                ·
                                  refine zk ?_
                                  refine zo ?_
                                  refine zS 2 [(0, .sl Y0 specs), (18, .own 110000), (24, .own 189000), (190, .sl Y0 specs), (191, .own 189000)] [(110000, .arr 3 (.int .i64) v0_14.1), (189000, .arr 55 Y1 v0_19.1)] ?_
                                  obtain ⟨v0_21, hv61, h⟩ := Option.bind_eq_some_iff.1 h
                                  refine zC [189000] [] (hc_history_Linear specs v0_19.1 hv61) [(0, .sl Y0 specs), (18, .own 110000), (24, .own 189000), (192, .tup [.bool v0_21.1, .int .i64 v0_21.2])] [(110000, .arr 3 (.int .i64) v0_14.1), (189000, .arr 55 Y1 v0_19.1)] ?_
                                  refine zB [(0, .sl Y0 specs), (8, .int .i64 v0_21.2), (18, .own 110000), (24, .own 189000), (25, .bool v0_21.1)] [(110000, .arr 3 (.int .i64) v0_14.1), (189000, .arr 55 Y1 v0_19.1)] ?_
                                  refine zo ?_
                                  refine zS 3 [(8, .int .i64 v0_21.2), (25, .bool v0_21.1), (196, .sl Y0 specs), (197, .own 189000), (198, .own 110000)] [(110000, .arr 3 (.int .i64) v0_14.1), (189000, .arr 55 Y1 v0_19.1)] ?_
                                  obtain ⟨v0_22, hv62, h⟩ := Option.bind_eq_some_iff.1 h
                                  refine zC [110000, 189000] [] (hc_history_IsOrder specs v0_19.1 v0_14.1 hv62) [(8, .int .i64 v0_21.2), (25, .bool v0_21.1), (199, .tup [.bool v0_22.1, .int .i64 v0_22.2])] [] ?_
                                  refine zB [(8, .int .i64 v0_21.2), (20, .int .i64 v0_22.2), (25, .bool v0_21.1), (26, .bool v0_22.1)] [] ?_
                                  refine zo ?_
                                  refine zS 3 [(20, .int .i64 v0_22.2), (25, .bool v0_21.1), (26, .bool v0_22.1), (204, .bool (decide (v0_21.2 = 0)))] [] ?_
                                  rcases zI h with ⟨hb63, h⟩ | ⟨hb63, h⟩
                                  ·
                                    refine zT [(20, .int .i64 v0_22.2), (25, .bool v0_21.1), (26, .bool v0_22.1), (204, .bool true)] [] gt ?_
                                    refine zS 4 [(25, .bool v0_21.1), (26, .bool v0_22.1), (208, .bool (decide (v0_22.2 = 0)))] [] ?_
                                    rcases zI h with ⟨hb64, h⟩ | ⟨hb64, h⟩
                                    ·
                                      refine zT [(25, .bool v0_21.1), (26, .bool v0_22.1), (208, .bool true)] [] gt ?_
                                      refine zS 3 [(26, .bool v0_22.1), (211, .bool v0_21.1)] [] ?_
                                      rcases zI h with ⟨hb65, h⟩ | ⟨hb65, h⟩
                                      ·
                                        refine zT [(26, .bool v0_22.1), (211, .bool true)] [] gt ?_
                                        refine zS 3 [(214, .bool v0_22.1)] [] ?_
                                        rcases zI h with ⟨hb66, h⟩ | ⟨hb66, h⟩
                                        ·
                                          refine zT [(214, .bool true)] [] gt ?_
                                          obtain ⟨v0_23, hv67, h⟩ := Option.bind_eq_some_iff.1 h
                                          refine zG [] [] (hc_lineallaw02_Sane hv67) [(214, .bool true), (215, .bool v0_23)] [] ?_
                                          refine zB [(6, .bool v0_23)] [] ?_
                                          refine AW.ret ?_
                                          obtain rfl := Option.some.inj h
                                          exact zR [] [] []
                                        ·
                                          refine zT [(214, .bool false)] [] gt ?_
                                          refine zB [(6, .bool false)] [] ?_
                                          refine AW.ret ?_
                                          obtain rfl := Option.some.inj h
                                          exact zR [] [] []
                                      ·
                                        refine zT [(26, .bool v0_22.1), (211, .bool false)] [] gt ?_
                                        refine zB [(6, .bool false)] [] ?_
                                        refine AW.ret ?_
                                        obtain rfl := Option.some.inj h
                                        exact zR [] [] []
                                    ·
                                      refine zT [(25, .bool v0_21.1), (26, .bool v0_22.1), (208, .bool false)] [] gt ?_
                                      refine zB [(6, .bool false)] [] ?_
                                      refine AW.ret ?_
                                      obtain rfl := Option.some.inj h
                                      exact zR [] [] []
                                  ·
                                    refine zT [(20, .int .i64 v0_22.2), (25, .bool v0_21.1), (26, .bool v0_22.1), (204, .bool false)] [] gt ?_
                                    refine zS 8 [(211, .bool false), (212, .cv (undef))] [] ?_
                                    refine zB [(6, .bool false)] [] ?_
                                    refine AW.ret ?_
                                    obtain rfl := Option.some.inj h
                                    exact zR [] [] []
            · refine AW.seq ?_
              refine zo ?_
              refine zB [(0, .sl Y0 specs), (1, .sl Y1 h0), (5, .bp 5 0), (9, .bool v0_9.1), (10, .bool true), (11, .int .i64 0)] [(5, .box 60 [.int .u8 v0.1, .int .u8 v0.2.1, .int .u8 v0.2.2.1, .int .u8 v0.2.2.2])] ?_
              refine AW.block ?_
              obtain ⟨rv72, hw68, ho69⟩ := Option.bind_eq_some_iff.1 h
              refine AW.loopO (linealtop_TopHistory_b1 specs h0) (fun st1 => ⟨fr [(0, .sl Y0 specs), (1, .sl Y1 h0), (5, .bp 5 0), (9, .bool v0_9.1), (10, .bool st1.1), (11, .int .i64 st1.2)], hpGet [(5, .box 60 [.int .u8 v0.1, .int .u8 v0.2.1, .int .u8 v0.2.2.1, .int .u8 v0.2.2.2])], gt⟩) (true, 0) hw68 (zL [] [] []) ?_
              intro st1 x71 h hd70
              unfold linealtop_TopHistory_b1 at h
              refine AW.seq ?_
              refine zo ?_
              refine zB [(0, .sl Y0 specs), (1, .sl Y1 h0), (5, .bp 5 0), (9, .bool v0_9.1), (10, .bool st1.1), (11, .int .i64 st1.2), (56, .bool (decide (st1.2 < 2)))] [(5, .box 60 [.int .u8 v0.1, .int .u8 v0.2.1, .int .u8 v0.2.2.1, .int .u8 v0.2.2.2])] ?_
              refine zQ h (fun hb73 h => ?_) (fun hb73 h => ?_)
              ·
                refine zk ?_
                refine AW.seq ?_
                refine AW.block ?_
                refine zo ?_
                refine zS 2 [(0, .sl Y0 specs), (1, .sl Y1 h0), (5, .bp 5 0), (9, .bool v0_9.1), (10, .bool st1.1), (11, .int .i64 st1.2), (60, .sl Y1 h0), (61, .int .i64 st1.2)] [(5, .box 60 [.int .u8 v0.1, .int .u8 v0.2.1, .int .u8 v0.2.2.1, .int .u8 v0.2.2.2])] ?_
                obtain ⟨v0_10, hv74, h⟩ := Option.bind_eq_some_iff.1 h
                refine zC [] [] (hc_history_Of h0 st1.2 hv74) [(0, .sl Y0 specs), (1, .sl Y1 h0), (5, .bp 5 0), (9, .bool v0_9.1), (10, .bool st1.1), (11, .int .i64 st1.2), (62, .tup [.own 72000, .int .i64 v0_10.2])] [(5, .box 60 [.int .u8 v0.1, .int .u8 v0.2.1, .int .u8 v0.2.2.1, .int .u8 v0.2.2.2]), (72000, .arr 55 Y1 v0_10.1)] ?_
                refine zB [(0, .sl Y0 specs), (1, .sl Y1 h0), (5, .bp 5 0), (9, .bool v0_9.1), (10, .bool st1.1), (11, .int .i64 st1.2), (12, .own 72000), (13, .int .i64 v0_10.2)] [(5, .box 60 [.int .u8 v0.1, .int .u8 v0.2.1, .int .u8 v0.2.2.1, .int .u8 v0.2.2.2]), (72000, .arr 55 Y1 v0_10.1)] ?_
                refine zo ?_
                refine zS 2 [(0, .sl Y0 specs), (1, .sl Y1 h0), (5, .bp 5 0), (9, .bool v0_9.1), (10, .bool st1.1), (11, .int .i64 st1.2), (13, .int .i64 v0_10.2), (66, .sl Y0 specs), (67, .own 72000)] [(5, .box 60 [.int .u8 v0.1, .int .u8 v0.2.1, .int .u8 v0.2.2.1, .int .u8 v0.2.2.2]), (72000, .arr 55 Y1 v0_10.1)] ?_
                obtain ⟨v0_11, hv75, h⟩ := Option.bind_eq_some_iff.1 h
                refine zC [72000] [] (hc_history_Linear specs v0_10.1 hv75) [(0, .sl Y0 specs), (1, .sl Y1 h0), (5, .bp 5 0), (9, .bool v0_9.1), (10, .bool st1.1), (11, .int .i64 st1.2), (13, .int .i64 v0_10.2), (68, .tup [.bool v0_11.1, .int .i64 v0_11.2])] [(5, .box 60 [.int .u8 v0.1, .int .u8 v0.2.1, .int .u8 v0.2.2.1, .int .u8 v0.2.2.2])] ?_
                refine zB [(0, .sl Y0 specs), (1, .sl Y1 h0), (5, .bp 5 0), (9, .bool v0_9.1), (10, .bool st1.1), (11, .int .i64 st1.2), (13, .int .i64 v0_10.2), (14, .bool v0_11.1), (15, .int .i64 v0_11.2)] [(5, .box 60 [.int .u8 v0.1, .int .u8 v0.2.1, .int .u8 v0.2.2.1, .int .u8 v0.2.2.2])] ?_
                refine AW.seq ?_
                refine zo ?_
                refine zS 3 [(0, .sl Y0 specs), (1, .sl Y1 h0), (5, .bp 5 0), (9, .bool v0_9.1), (10, .bool st1.1), (11, .int .i64 st1.2), (14, .bool v0_11.1), (15, .int .i64 v0_11.2), (73, .bool (!(decide (v0_10.2 = 0))))] [(5, .box 60 [.int .u8 v0.1, .int .u8 v0.2.1, .int .u8 v0.2.2.1, .int .u8 v0.2.2.2])] ?_
                rcases zI h with ⟨hb76, h⟩ | ⟨hb76, h⟩
                ·
                  refine zT [(0, .sl Y0 specs), (1, .sl Y1 h0), (5, .bp 5 0), (9, .bool v0_9.1), (10, .bool st1.1), (11, .int .i64 st1.2), (14, .bool v0_11.1), (15, .int .i64 v0_11.2), (73, .bool true)] [(5, .box 60 [.int .u8 v0.1, .int .u8 v0.2.1, .int .u8 v0.2.2.1, .int .u8 v0.2.2.2])] gt ?_
                  refine zB [(0, .sl Y0 specs), (1, .sl Y1 h0), (5, .bp 5 0), (9, .bool v0_9.1), (10, .bool st1.1), (11, .int .i64 st1.2), (14, .bool v0_11.1), (76, .bool true)] [(5, .box 60 [.int .u8 v0.1, .int .u8 v0.2.1, .int .u8 v0.2.2.1, .int .u8 v0.2.2.2])] ?_
                  refine AW.cond (b := true) rfl (fun _ => ?_) (fun hb77 => by cases hb77)
                  refine zo ?_
                  refine zB [(6, .bool false)] [] ?_
                  refine zr ?_
                  refine ablock_r ?_
                  refine athen_r ?_
                  obtain rfl := Option.some.inj h
                  rw [← hd70 _ rfl] at ho69
                  have h := ho69
                  try simp only at h
                  refine athen_r ?_
                  refine ablock_r ?_
                  refine athen_r ?_
                  obtain rfl := Option.some.inj h
                  exact zR [] [] []
                ·
                  refine zT [(0, .sl Y0 specs), (1, .sl Y1 h0), (5, .bp 5 0), (9, .bool v0_9.1), (10, .bool st1.1), (11, .int .i64 st1.2), (14, .bool v0_11.1), (15, .int .i64 v0_11.2), (73, .bool false)] [(5, .box 60 [.int .u8 v0.1, .int .u8 v0.2.1, .int .u8 v0.2.2.1, .int .u8 v0.2.2.2])] gt ?_
                  refine zB [(0, .sl Y0 specs), (1, .sl Y1 h0), (5, .bp 5 0), (9, .bool v0_9.1), (10, .bool st1.1), (11, .int .i64 st1.2), (14, .bool v0_11.1), (76, .bool (!(decide (v0_11.2 = 0))))] [(5, .box 60 [.int .u8 v0.1, .int .u8 v0.2.1, .int .u8 v0.2.2.1, .int .u8 v0.2.2.2])] ?_
                  refine zQ h (fun hb78 h => ?_) (fun hb78 h => ?_)
                  ·
                    refine zo ?_
                    refine zB [(6, .bool false)] [] ?_
                    refine zr ?_
                    refine ablock_r ?_
                    refine athen_r ?_
                    obtain rfl := Option.some.inj h
                    rw [← hd70 _ rfl] at ho69
                    have h := ho69
                    try simp only at h
                    refine athen_r ?_
                    refine ablock_r ?_
                    refine athen_r ?_
                    obtain rfl := Option.some.inj h
                    exact zR [] [] []
                  ·
                    refine zk ?_
                    refine AW.ops ?_
                    refine zS 2 [(0, .sl Y0 specs), (1, .sl Y1 h0), (5, .bp 5 0), (9, .bool v0_9.1), (11, .int .i64 st1.2), (14, .bool v0_11.1), (78, .bool st1.1)] [(5, .box 60 [.int .u8 v0.1, .int .u8 v0.2.1, .int .u8 v0.2.2.1, .int .u8 v0.2.2.2])] ?_
                    rcases zI h with ⟨hb79, h⟩ | ⟨hb79, h⟩
                    ·
                      refine zT [(0, .sl Y0 specs), (1, .sl Y1 h0), (5, .bp 5 0), (9, .bool v0_9.1), (11, .int .i64 st1.2), (14, .bool v0_11.1), (78, .bool true)] [(5, .box 60 [.int .u8 v0.1, .int .u8 v0.2.1, .int .u8 v0.2.2.1, .int .u8 v0.2.2.2])] gt ?_
                      refine zA [(0, .sl Y0 specs), (1, .sl Y1 h0), (5, .bp 5 0), (9, .bool v0_9.1), (10, .bool v0_11.1), (11, .int .i64 st1.2)] [(5, .box 60 [.int .u8 v0.1, .int .u8 v0.2.1, .int .u8 v0.2.2.1, .int .u8 v0.2.2.2])] ?_
                      refine ablock_n ?_
                      refine athen_n ?_
                      refine AW.ops ?_
                      obtain ⟨c80, h⟩ := ck_some.1 h
                      refine zA [(0, .sl Y0 specs), (1, .sl Y1 h0), (5, .bp 5 0), (9, .bool v0_9.1), (10, .bool v0_11.1), (11, .int .i64 (st1.2 + 1))] [(5, .box 60 [.int .u8 v0.1, .int .u8 v0.2.1, .int .u8 v0.2.2.1, .int .u8 v0.2.2.2])] ?_
                      obtain rfl := Option.some.inj h
                      exact ⟨_, rfl, zL [] [] []⟩
                    ·
                      refine zT [(0, .sl Y0 specs), (1, .sl Y1 h0), (5, .bp 5 0), (9, .bool v0_9.1), (11, .int .i64 st1.2), (14, .bool v0_11.1), (78, .bool false)] [(5, .box 60 [.int .u8 v0.1, .int .u8 v0.2.1, .int .u8 v0.2.2.1, .int .u8 v0.2.2.2])] gt ?_
                      refine zA [(0, .sl Y0 specs), (1, .sl Y1 h0), (5, .bp 5 0), (9, .bool v0_9.1), (10, .bool false), (11, .int .i64 st1.2)] [(5, .box 60 [.int .u8 v0.1, .int .u8 v0.2.1, .int .u8 v0.2.2.1, .int .u8 v0.2.2.2])] ?_
                      refine ablock_n ?_
                      refine athen_n ?_
                      refine AW.ops ?_
                      obtain ⟨c81, h⟩ := ck_some.1 h
                      refine zA [(0, .sl Y0 specs), (1, .sl Y1 h0), (5, .bp 5 0), (9, .bool v0_9.1), (10, .bool false), (11, .int .i64 (st1.2 + 1))] [(5, .box 60 [.int .u8 v0.1, .int .u8 v0.2.1, .int .u8 v0.2.2.1, .int .u8 v0.2.2.2])] ?_
                      obtain rfl := Option.some.inj h
                      exact ⟨_, rfl, zL [] [] []⟩
              ·
                refine AW.exit ?_
                refine athen_e ?_
                obtain rfl := Option.some.inj h
                rw [← hd70 _ rfl] at ho69
                have h := ho69
                try simp only at h
                refine athen_e ?_
                refine ablock_s ?_
                refine athen_n ?_
                exact AW.weaken (zL [] [] []) (hk_linealtop_TopHistory_k1 _ h)

end Go.Proofs.Ytlfpagicagmjgaa
