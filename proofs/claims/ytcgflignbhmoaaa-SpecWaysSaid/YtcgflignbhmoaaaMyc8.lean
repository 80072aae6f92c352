/-
  Made by wip/tool/dc.py out of the print of the program: contracts.
-/
import Derived.Test.YtcgflignbhmoaaaQp
import Derived.Test.YtcgflignbhmoaaaShs
import Derived.Test.YtcgflignbhmoaaaAvd
import Derived.Test.YtcgflignbhmoaaaMyc1
import Derived.Test.YtcgflignbhmoaaaMyc3
import Derived.Test.YtcgflignbhmoaaaMyc4
import Derived.Test.YtcgflignbhmoaaaMyc5
import Derived.Test.YtcgflignbhmoaaaMyc7
namespace Go.Proofs.Ytcgflignbhmoaaa
open Go.RowKit

set_option linter.unusedSimpArgs false
set_option linter.unusedVariables false
set_option linter.constructorNameAsVariable false

set_option maxRecDepth 100000
set_option maxHeartbeats 2000000

theorem hc_linealref01_Least (s : Int × Int × (List (List Int)) × (List (List Int))) {r : Int × Int × (List (List Int)) × (List (List Int)) × Int} (h : linealref01_Least s = some r) : HC Try.prog 36 [] [.agg [.int .i64 s.1, .int .i64 s.2.1, .sl (.sl (.int .i64)) s.2.2.1, .sl (.sl (.int .i64)) s.2.2.2]] [(2000, .arr 25 (.sl (.int .i64)) r.2.2.1), (2001, .arr 25 (.sl (.int .i64)) r.2.2.2.1)] (.tup [.agg [.int .i64 r.1, .int .i64 r.2.1, .own 2000, .own 2001], .int .i64 r.2.2.2.2]) := by
 unfold linealref01_Least at h
 refine zH Try.func36 [.cell 2 24, .tmp 3] 104 ?_
 refine zo ?_
 refine zB [(1, .bp 1 0), (2, .bp 2 0)] [(1, .box 24 [.int .i64 s.1, .int .i64 s.2.1, .sl (.sl (.int .i64)) s.2.2.1, .sl (.sl (.int .i64)) s.2.2.2]), (2, .box 24 [.int .i64 0, .int .i64 0, .cv (.slice none 0 0), .cv (.slice none 0 0)])] ?_
 refine AW.seq ?_
 refine zo ?_
 refine zS 1 [(1, .bp 1 0), (2, .bp 2 0), (14, .agg [.int .i64 s.1, .int .i64 s.2.1, .sl (.sl (.int .i64)) s.2.2.1, .sl (.sl (.int .i64)) s.2.2.2])] [(1, .box 24 [.int .i64 s.1, .int .i64 s.2.1, .sl (.sl (.int .i64)) s.2.2.1, .sl (.sl (.int .i64)) s.2.2.2]), (2, .box 24 [.int .i64 0, .int .i64 0, .cv (.slice none 0 0), .cv (.slice none 0 0)])] ?_
 obtain ⟨v0, hv1, h⟩ := Option.bind_eq_some_iff.1 h
 refine zC [] [] (hc_linealref01_Valid s hv1) [(1, .bp 1 0), (2, .bp 2 0), (15, .bool v0)] [(1, .box 24 [.int .i64 s.1, .int .i64 s.2.1, .sl (.sl (.int .i64)) s.2.2.1, .sl (.sl (.int .i64)) s.2.2.2]), (2, .box 24 [.int .i64 0, .int .i64 0, .cv (.slice none 0 0), .cv (.slice none 0 0)])] ?_
 refine zB [(1, .bp 1 0), (2, .bp 2 0), (16, .bool (!v0))] [(1, .box 24 [.int .i64 s.1, .int .i64 s.2.1, .sl (.sl (.int .i64)) s.2.2.1, .sl (.sl (.int .i64)) s.2.2.2]), (2, .box 24 [.int .i64 0, .int .i64 0, .cv (.slice none 0 0), .cv (.slice none 0 0)])] ?_
 refine zQ h (fun hb2 h => ?_) (fun hb2 h => ?_)
 ·refine zo ?_
  refine zB [(2, .bp 2 0), (3, .int .i64 10)] [(2, .box 24 [.int .i64 0, .int .i64 0, .cv (.slice none 0 0), .cv (.slice none 0 0)])] ?_
  refine zr ?_
  obtain rfl := Option.some.inj h
  exact zR [] [2000, 2001] []
 ·refine zk ?_
  refine zo ?_
  refine zS 1 [(1, .bp 1 0), (2, .bp 2 0), (18, .agg [.int .i64 s.1, .int .i64 s.2.1, .sl (.sl (.int .i64)) s.2.2.1, .sl (.sl (.int .i64)) s.2.2.2])] [(1, .box 24 [.int .i64 s.1, .int .i64 s.2.1, .sl (.sl (.int .i64)) s.2.2.1, .sl (.sl (.int .i64)) s.2.2.2]), (2, .box 24 [.int .i64 0, .int .i64 0, .cv (.slice none 0 0), .cv (.slice none 0 0)])] ?_
  obtain ⟨v0_2, hv3, h⟩ := Option.bind_eq_some_iff.1 h
  refine zC [] [] (hc_linealref01_classes s hv3) [(1, .bp 1 0), (2, .bp 2 0), (19, .own 29000)] [(1, .box 24 [.int .i64 s.1, .int .i64 s.2.1, .sl (.sl (.int .i64)) s.2.2.1, .sl (.sl (.int .i64)) s.2.2.2]), (2, .box 24 [.int .i64 0, .int .i64 0, .cv (.slice none 0 0), .cv (.slice none 0 0)]), (29000, .arr 3 (.int .i64) v0_2)] ?_
  refine zB [(1, .bp 1 0), (2, .bp 2 0), (4, .own 29000)] [(1, .box 24 [.int .i64 s.1, .int .i64 s.2.1, .sl (.sl (.int .i64)) s.2.2.1, .sl (.sl (.int .i64)) s.2.2.2]), (2, .box 24 [.int .i64 0, .int .i64 0, .cv (.slice none 0 0), .cv (.slice none 0 0)]), (29000, .arr 3 (.int .i64) v0_2)] ?_
  refine zo ?_
  refine zB [(1, .bp 1 0), (2, .bp 2 0), (4, .own 29000), (5, .own 20)] [(1, .box 24 [.int .i64 s.1, .int .i64 s.2.1, .sl (.sl (.int .i64)) s.2.2.1, .sl (.sl (.int .i64)) s.2.2.2]), (2, .box 24 [.int .i64 0, .int .i64 0, .cv (.slice none 0 0), .cv (.slice none 0 0)]), (20, .arr 3 (.int .i64) [0]), (29000, .arr 3 (.int .i64) v0_2)] ?_
  refine AW.have1 (fun b2_2 : (List Int) => linealref01_Least_k1 s v0_2 b2_2 = some r) (fun b2_2 => ⟨fr [(1, .bp 1 0), (2, .bp 2 0), (4, .own 29000), (5, .own 20)], hpGet [(1, .box 24 [.int .i64 s.1, .int .i64 s.2.1, .sl (.sl (.int .i64)) s.2.2.1, .sl (.sl (.int .i64)) s.2.2.2]), (2, .box 24 [.int .i64 0, .int .i64 0, .cv (.slice none 0 0), .cv (.slice none 0 0)]), (20, .arr 3 (.int .i64) b2_2), (29000, .arr 3 (.int .i64) v0_2)], gt⟩) (fun b2_2 h => ?_) (fun hk_linealref01_Least_k1 => ?_)
  ·as_aux_lemma =>
    unfold linealref01_Least_k1 at h
    refine zo ?_
    refine zS 5 [(1, .bp 1 0), (2, .bp 2 0), (4, .own 29000), (5, .own 20), (57, .agg [.int .i64 (b2_2.length : Int), .int .i64 s.2.1, .cv (.slice none 0 0), .cv (.slice none 0 0)])] [(1, .box 24 [.int .i64 s.1, .int .i64 s.2.1, .sl (.sl (.int .i64)) s.2.2.1, .sl (.sl (.int .i64)) s.2.2.2]), (2, .box 24 [.int .i64 0, .int .i64 0, .cv (.slice none 0 0), .cv (.slice none 0 0)]), (20, .arr 3 (.int .i64) b2_2), (29000, .arr 3 (.int .i64) v0_2)] ?_
    refine zB [(1, .bp 1 0), (2, .bp 2 0), (4, .own 29000), (5, .own 20), (9, .bp 9 0)] [(1, .box 24 [.int .i64 s.1, .int .i64 s.2.1, .sl (.sl (.int .i64)) s.2.2.1, .sl (.sl (.int .i64)) s.2.2.2]), (2, .box 24 [.int .i64 0, .int .i64 0, .cv (.slice none 0 0), .cv (.slice none 0 0)]), (9, .box 24 [.int .i64 (b2_2.length : Int), .int .i64 s.2.1, .cv (.slice none 0 0), .cv (.slice none 0 0)]), (20, .arr 3 (.int .i64) b2_2), (29000, .arr 3 (.int .i64) v0_2)] ?_
    refine AW.have1 (fun b5_3 : (List (List Int)) × (List (List Int)) => linealref01_Least_k3 s b2_2 b5_3 = some r) (fun b5_3 => ⟨fr [(2, .bp 2 0), (9, .bp 9 0)], hpGet [(2, .box 24 [.int .i64 0, .int .i64 0, .cv (.slice none 0 0), .cv (.slice none 0 0)]), (9, .box 24 [.int .i64 (b2_2.length : Int), .int .i64 s.2.1, .own 88, .own 100]), (88, .arr 25 (.sl (.int .i64)) b5_3.1), (100, .arr 25 (.sl (.int .i64)) b5_3.2)], gt⟩) (fun b5_3 h => ?_) (fun hk_linealref01_Least_k3 => ?_)
    ·as_aux_lemma =>
      unfold linealref01_Least_k3 at h
      refine zo ?_
      refine zB [(2, .bp 2 0), (3, .int .i64 0)] [(2, .box 24 [.int .i64 (b2_2.length : Int), .int .i64 s.2.1, .own 88, .own 100]), (88, .arr 25 (.sl (.int .i64)) b5_3.1), (100, .arr 25 (.sl (.int .i64)) b5_3.2)] ?_
      refine AW.ret ?_
      obtain rfl := Option.some.inj h
      exact zR [] [] [(2000, 88), (2001, 100)]
    ·refine AW.seq ?_
     refine zo ?_
     refine zB [(1, .bp 1 0), (2, .bp 2 0), (4, .own 29000), (5, .own 20), (9, .bp 9 0), (58, .own 20), (59, .int .i64 (b2_2.length : Int)), (60, .int .i64 0)] [(1, .box 24 [.int .i64 s.1, .int .i64 s.2.1, .sl (.sl (.int .i64)) s.2.2.1, .sl (.sl (.int .i64)) s.2.2.2]), (2, .box 24 [.int .i64 0, .int .i64 0, .cv (.slice none 0 0), .cv (.slice none 0 0)]), (9, .box 24 [.int .i64 (b2_2.length : Int), .int .i64 s.2.1, .cv (.slice none 0 0), .cv (.slice none 0 0)]), (20, .arr 3 (.int .i64) b2_2), (29000, .arr 3 (.int .i64) v0_2)] ?_
     refine AW.block ?_
     obtain ⟨rv8, hw4, ho5⟩ := Option.bind_eq_some_iff.1 h
     refine AW.loopO (linealref01_Least_b3 s v0_2 b2_2) (fun st3 => ⟨fr [(1, .bp 1 0), (2, .bp 2 0), (4, .own 29000), (5, .own 20), (9, .bp 9 0), (58, .own 20), (59, .int .i64 (b2_2.length : Int)), (60, .int .i64 st3.2.2)], hpGet [(1, .box 24 [.int .i64 s.1, .int .i64 s.2.1, .sl (.sl (.int .i64)) s.2.2.1, .sl (.sl (.int .i64)) s.2.2.2]), (2, .box 24 [.int .i64 0, .int .i64 0, .cv (.slice none 0 0), .cv (.slice none 0 0)]), (9, .box 24 [.int .i64 (b2_2.length : Int), .int .i64 s.2.1, .own 88, .own 100]), (20, .arr 3 (.int .i64) b2_2), (88, .arr 25 (.sl (.int .i64)) st3.1), (100, .arr 25 (.sl (.int .i64)) st3.2.1), (29000, .arr 3 (.int .i64) v0_2)], gt⟩) ([], [], 0) hw4 (zL [] [88, 100] []) ?_
     as_aux_lemma =>
      intro st3 x7 h hd6
      unfold linealref01_Least_b3 at h
      refine zo ?_
      refine zB [(1, .bp 1 0), (2, .bp 2 0), (4, .own 29000), (5, .own 20), (9, .bp 9 0), (58, .own 20), (59, .int .i64 (b2_2.length : Int)), (60, .int .i64 st3.2.2), (61, .bool (decide (st3.2.2 < (b2_2.length : Int))))] [(1, .box 24 [.int .i64 s.1, .int .i64 s.2.1, .sl (.sl (.int .i64)) s.2.2.1, .sl (.sl (.int .i64)) s.2.2.2]), (2, .box 24 [.int .i64 0, .int .i64 0, .cv (.slice none 0 0), .cv (.slice none 0 0)]), (9, .box 24 [.int .i64 (b2_2.length : Int), .int .i64 s.2.1, .own 88, .own 100]), (20, .arr 3 (.int .i64) b2_2), (88, .arr 25 (.sl (.int .i64)) st3.1), (100, .arr 25 (.sl (.int .i64)) st3.2.1), (29000, .arr 3 (.int .i64) v0_2)] ?_
      refine AW.seq ?_
      refine zQ h (fun hb9 h => ?_) (fun hb9 h => ?_)
      ·refine zk ?_
       refine AW.have1 (fun b5_2 : (List (List Int)) => linealref01_Least_k4 s b2_2 st3 b5_2 = some x7) (fun b5_2 => ⟨fr [(1, .bp 1 0), (2, .bp 2 0), (4, .own 29000), (5, .own 20), (9, .bp 9 0), (58, .own 20), (59, .int .i64 (b2_2.length : Int)), (60, .int .i64 st3.2.2)], hpGet [(1, .box 24 [.int .i64 s.1, .int .i64 s.2.1, .sl (.sl (.int .i64)) s.2.2.1, .sl (.sl (.int .i64)) s.2.2.2]), (2, .box 24 [.int .i64 0, .int .i64 0, .cv (.slice none 0 0), .cv (.slice none 0 0)]), (9, .box 24 [.int .i64 (b2_2.length : Int), .int .i64 s.2.1, .own 88, .own 100]), (20, .arr 3 (.int .i64) b2_2), (88, .arr 25 (.sl (.int .i64)) b5_2), (100, .arr 25 (.sl (.int .i64)) (st3.2.1 ++ [(s.2.2.2.getD (b2_2.getD st3.2.2.toNat 0).toNat [])])), (29000, .arr 3 (.int .i64) v0_2)], gt⟩) (fun b5_2 h => ?_) (fun hk_linealref01_Least_k4 => ?_)
       ·as_aux_lemma =>
         unfold linealref01_Least_k4 at h
         refine AW.ops ?_
         obtain ⟨c10, h⟩ := ck_some.1 h
         refine zA [(1, .bp 1 0), (2, .bp 2 0), (4, .own 29000), (5, .own 20), (9, .bp 9 0), (58, .own 20), (59, .int .i64 (b2_2.length : Int)), (60, .int .i64 (st3.2.2 + 1))] [(1, .box 24 [.int .i64 s.1, .int .i64 s.2.1, .sl (.sl (.int .i64)) s.2.2.1, .sl (.sl (.int .i64)) s.2.2.2]), (2, .box 24 [.int .i64 0, .int .i64 0, .cv (.slice none 0 0), .cv (.slice none 0 0)]), (9, .box 24 [.int .i64 (b2_2.length : Int), .int .i64 s.2.1, .own 88, .own 100]), (20, .arr 3 (.int .i64) b2_2), (88, .arr 25 (.sl (.int .i64)) b5_2), (100, .arr 25 (.sl (.int .i64)) (st3.2.1 ++ [(s.2.2.2.getD (b2_2.getD st3.2.2.toNat 0).toNat [])])), (29000, .arr 3 (.int .i64) v0_2)] ?_
         obtain rfl := Option.some.inj h
         exact ⟨_, rfl, zL [] [] []⟩
       ·refine AW.seq ?_
        refine AW.block ?_
        refine zo ?_
        obtain ⟨c11, h⟩ := ck_some.1 h
        obtain ⟨c12, h⟩ := ck_some.1 h
        refine zB [(1, .bp 1 0), (2, .bp 2 0), (4, .own 29000), (5, .own 20), (9, .bp 9 0), (11, .int .i64 (b2_2.getD st3.2.2.toNat 0)), (58, .own 20), (59, .int .i64 (b2_2.length : Int)), (60, .int .i64 st3.2.2)] [(1, .box 24 [.int .i64 s.1, .int .i64 s.2.1, .sl (.sl (.int .i64)) s.2.2.1, .sl (.sl (.int .i64)) s.2.2.2]), (2, .box 24 [.int .i64 0, .int .i64 0, .cv (.slice none 0 0), .cv (.slice none 0 0)]), (9, .box 24 [.int .i64 (b2_2.length : Int), .int .i64 s.2.1, .own 88, .own 100]), (20, .arr 3 (.int .i64) b2_2), (88, .arr 25 (.sl (.int .i64)) st3.1), (100, .arr 25 (.sl (.int .i64)) st3.2.1), (29000, .arr 3 (.int .i64) v0_2)] ?_
        refine zo ?_
        refine zB [(1, .bp 1 0), (2, .bp 2 0), (4, .own 29000), (5, .own 20), (9, .bp 9 0), (11, .int .i64 (b2_2.getD st3.2.2.toNat 0)), (12, .cv (.slice none 0 0)), (58, .own 20), (59, .int .i64 (b2_2.length : Int)), (60, .int .i64 st3.2.2)] [(1, .box 24 [.int .i64 s.1, .int .i64 s.2.1, .sl (.sl (.int .i64)) s.2.2.1, .sl (.sl (.int .i64)) s.2.2.2]), (2, .box 24 [.int .i64 0, .int .i64 0, .cv (.slice none 0 0), .cv (.slice none 0 0)]), (9, .box 24 [.int .i64 (b2_2.length : Int), .int .i64 s.2.1, .own 88, .own 100]), (20, .arr 3 (.int .i64) b2_2), (88, .arr 25 (.sl (.int .i64)) st3.1), (100, .arr 25 (.sl (.int .i64)) st3.2.1), (29000, .arr 3 (.int .i64) v0_2)] ?_
        refine AW.have1 (fun b5 : (List Int) => linealref01_Least_k5 s b2_2 st3 b5 = some x7) (fun b5 => ⟨fr [(1, .bp 1 0), (2, .bp 2 0), (4, .own 29000), (5, .own 20), (9, .bp 9 0), (11, .int .i64 (b2_2.getD st3.2.2.toNat 0)), (12, .own 82), (58, .own 20), (59, .int .i64 (b2_2.length : Int)), (60, .int .i64 st3.2.2)], hpGet [(1, .box 24 [.int .i64 s.1, .int .i64 s.2.1, .sl (.sl (.int .i64)) s.2.2.1, .sl (.sl (.int .i64)) s.2.2.2]), (2, .box 24 [.int .i64 0, .int .i64 0, .cv (.slice none 0 0), .cv (.slice none 0 0)]), (9, .box 24 [.int .i64 (b2_2.length : Int), .int .i64 s.2.1, .own 88, .own 100]), (20, .arr 3 (.int .i64) b2_2), (82, .arr 3 (.int .i64) b5), (88, .arr 25 (.sl (.int .i64)) st3.1), (100, .arr 25 (.sl (.int .i64)) st3.2.1), (29000, .arr 3 (.int .i64) v0_2)], gt⟩) (fun b5 h => ?_) (fun hk_linealref01_Least_k5 => ?_)
        ·as_aux_lemma =>
          unfold linealref01_Least_k5 at h
          refine zo ?_
          obtain ⟨c13, h⟩ := ck_some.1 h
          refine zS 5 [(1, .bp 1 0), (2, .bp 2 0), (4, .own 29000), (5, .own 20), (9, .bp 9 0), (11, .int .i64 (b2_2.getD st3.2.2.toNat 0)), (58, .own 20), (59, .int .i64 (b2_2.length : Int)), (60, .int .i64 st3.2.2), (88, .own 88)] [(1, .box 24 [.int .i64 s.1, .int .i64 s.2.1, .sl (.sl (.int .i64)) s.2.2.1, .sl (.sl (.int .i64)) s.2.2.2]), (2, .box 24 [.int .i64 0, .int .i64 0, .cv (.slice none 0 0), .cv (.slice none 0 0)]), (9, .box 24 [.int .i64 (b2_2.length : Int), .int .i64 s.2.1, .un, .own 100]), (20, .arr 3 (.int .i64) b2_2), (88, .arr 25 (.sl (.int .i64)) (st3.1 ++ [b5])), (100, .arr 25 (.sl (.int .i64)) st3.2.1), (29000, .arr 3 (.int .i64) v0_2)] ?_
          refine zB [(1, .bp 1 0), (2, .bp 2 0), (4, .own 29000), (5, .own 20), (9, .bp 9 0), (11, .int .i64 (b2_2.getD st3.2.2.toNat 0)), (58, .own 20), (59, .int .i64 (b2_2.length : Int)), (60, .int .i64 st3.2.2)] [(1, .box 24 [.int .i64 s.1, .int .i64 s.2.1, .sl (.sl (.int .i64)) s.2.2.1, .sl (.sl (.int .i64)) s.2.2.2]), (2, .box 24 [.int .i64 0, .int .i64 0, .cv (.slice none 0 0), .cv (.slice none 0 0)]), (9, .box 24 [.int .i64 (b2_2.length : Int), .int .i64 s.2.1, .own 88, .own 100]), (20, .arr 3 (.int .i64) b2_2), (88, .arr 25 (.sl (.int .i64)) (st3.1 ++ [b5])), (100, .arr 25 (.sl (.int .i64)) st3.2.1), (29000, .arr 3 (.int .i64) v0_2)] ?_
          refine AW.draw tab_ok mixed_ok [(2, [92]), (8, [92, 98]), (9, [98, 99]), (10, [100]), (12, [9])] [(0, [9, 88, 100]), (1, [9, 88, 100, 1000000088, 1000000100]), (3, [1]), (4, [1]), (5, []), (6, []), (7, []), (100012, [])] (by decide) (lex_fast (by kernel_rfl)) ?_
          as_aux_lemma =>
           refine adops_cut 6 (fun K' hK14 => ?_)
           try dsimp only [List.drop_succ_cons, List.drop_zero, List.take_succ_cons, List.take_zero]
           simp only [go_sem, hb2, hb9]
           repeat with_reducible refine zN ?_
           refine hK14 _ ?_
           as_aux_lemma =>
            obtain ⟨c16, h⟩ := ck_some.1 h
            obtain ⟨c17, h⟩ := ck_some.1 h
            obtain ⟨c18, h⟩ := ck_some.1 h
            obtain ⟨c19, h⟩ := ck_some.1 h
            refine adops_cut 6 (fun K' hK15 => ?_)
            try dsimp only [List.drop_succ_cons, List.drop_zero, List.take_succ_cons, List.take_zero]
            simp only [go_sem, hb2, hb9]
            repeat with_reducible refine zN ?_
            refine hK15 _ ?_
            as_aux_lemma =>
             refine adops_cut 1 (fun K' hK20 => ?_)
             try dsimp only [List.drop_succ_cons, List.drop_zero, List.take_succ_cons, List.take_zero]
             simp only [go_sem, hb2, hb9]
             repeat with_reducible refine zN ?_
             refine hK20 _ ?_
             refine adops_nil ?_
             refine ablock_n ?_
             refine athen_n ?_
             refine zV [(1, .bp 1 0), (2, .bp 2 0), (4, .own 29000), (5, .own 20), (9, .bp 9 0), (58, .own 20), (59, .int .i64 (b2_2.length : Int)), (60, .int .i64 st3.2.2)] [(1, .box 24 [.int .i64 s.1, .int .i64 s.2.1, .sl (.sl (.int .i64)) s.2.2.1, .sl (.sl (.int .i64)) s.2.2.2]), (2, .box 24 [.int .i64 0, .int .i64 0, .cv (.slice none 0 0), .cv (.slice none 0 0)]), (9, .box 24 [.int .i64 (b2_2.length : Int), .int .i64 s.2.1, .own 88, .own 100]), (20, .arr 3 (.int .i64) b2_2), (88, .arr 25 (.sl (.int .i64)) (st3.1 ++ [b5])), (100, .arr 25 (.sl (.int .i64)) (st3.2.1 ++ [(s.2.2.2.getD (b2_2.getD st3.2.2.toNat 0).toNat [])])), (29000, .arr 3 (.int .i64) v0_2)] gt ?_
             as_aux_lemma =>
              exact AW.weaken (zL [] [] []) (hk_linealref01_Least_k4 _ h)
        ·refine AW.seq ?_
         refine zo ?_
         refine zB [(1, .bp 1 0), (2, .bp 2 0), (4, .own 29000), (5, .own 20), (9, .bp 9 0), (11, .int .i64 (b2_2.getD st3.2.2.toNat 0)), (12, .cv (.slice none 0 0)), (58, .own 20), (59, .int .i64 (b2_2.length : Int)), (60, .int .i64 st3.2.2), (65, .int .i64 s.2.1), (66, .int .i64 0)] [(1, .box 24 [.int .i64 s.1, .int .i64 s.2.1, .sl (.sl (.int .i64)) s.2.2.1, .sl (.sl (.int .i64)) s.2.2.2]), (2, .box 24 [.int .i64 0, .int .i64 0, .cv (.slice none 0 0), .cv (.slice none 0 0)]), (9, .box 24 [.int .i64 (b2_2.length : Int), .int .i64 s.2.1, .own 88, .own 100]), (20, .arr 3 (.int .i64) b2_2), (88, .arr 25 (.sl (.int .i64)) st3.1), (100, .arr 25 (.sl (.int .i64)) st3.2.1), (29000, .arr 3 (.int .i64) v0_2)] ?_
         refine AW.block ?_
         obtain ⟨rv25, hw21, ho22⟩ := Option.bind_eq_some_iff.1 h
         refine AW.loopO (linealref01_Least_b4 s v0_2 b2_2 st3) (fun st4 => ⟨fr [(1, .bp 1 0), (2, .bp 2 0), (4, .own 29000), (5, .own 20), (9, .bp 9 0), (11, .int .i64 (b2_2.getD st3.2.2.toNat 0)), (12, .own 82), (58, .own 20), (59, .int .i64 (b2_2.length : Int)), (60, .int .i64 st3.2.2), (65, .int .i64 s.2.1), (66, .int .i64 st4.2)], hpGet [(1, .box 24 [.int .i64 s.1, .int .i64 s.2.1, .sl (.sl (.int .i64)) s.2.2.1, .sl (.sl (.int .i64)) s.2.2.2]), (2, .box 24 [.int .i64 0, .int .i64 0, .cv (.slice none 0 0), .cv (.slice none 0 0)]), (9, .box 24 [.int .i64 (b2_2.length : Int), .int .i64 s.2.1, .own 88, .own 100]), (20, .arr 3 (.int .i64) b2_2), (82, .arr 3 (.int .i64) st4.1), (88, .arr 25 (.sl (.int .i64)) st3.1), (100, .arr 25 (.sl (.int .i64)) st3.2.1), (29000, .arr 3 (.int .i64) v0_2)], gt⟩) ([], 0) hw21 (zL [] [82] []) ?_
         as_aux_lemma =>
          intro st4 x24 h hd23
          unfold linealref01_Least_b4 at h
          refine zo ?_
          refine zB [(1, .bp 1 0), (2, .bp 2 0), (4, .own 29000), (5, .own 20), (9, .bp 9 0), (11, .int .i64 (b2_2.getD st3.2.2.toNat 0)), (12, .own 82), (58, .own 20), (59, .int .i64 (b2_2.length : Int)), (60, .int .i64 st3.2.2), (65, .int .i64 s.2.1), (66, .int .i64 st4.2), (67, .bool (decide (st4.2 < s.2.1)))] [(1, .box 24 [.int .i64 s.1, .int .i64 s.2.1, .sl (.sl (.int .i64)) s.2.2.1, .sl (.sl (.int .i64)) s.2.2.2]), (2, .box 24 [.int .i64 0, .int .i64 0, .cv (.slice none 0 0), .cv (.slice none 0 0)]), (9, .box 24 [.int .i64 (b2_2.length : Int), .int .i64 s.2.1, .own 88, .own 100]), (20, .arr 3 (.int .i64) b2_2), (82, .arr 3 (.int .i64) st4.1), (88, .arr 25 (.sl (.int .i64)) st3.1), (100, .arr 25 (.sl (.int .i64)) st3.2.1), (29000, .arr 3 (.int .i64) v0_2)] ?_
          refine AW.seq ?_
          refine zQ h (fun hb26 h => ?_) (fun hb26 h => ?_)
          ·refine zk ?_
           refine AW.seq ?_
           refine AW.block ?_
           refine zo ?_
           refine zB [(1, .bp 1 0), (2, .bp 2 0), (4, .own 29000), (5, .own 20), (9, .bp 9 0), (11, .int .i64 (b2_2.getD st3.2.2.toNat 0)), (12, .own 82), (13, .int .i64 st4.2), (58, .own 20), (59, .int .i64 (b2_2.length : Int)), (60, .int .i64 st3.2.2), (65, .int .i64 s.2.1), (66, .int .i64 st4.2)] [(1, .box 24 [.int .i64 s.1, .int .i64 s.2.1, .sl (.sl (.int .i64)) s.2.2.1, .sl (.sl (.int .i64)) s.2.2.2]), (2, .box 24 [.int .i64 0, .int .i64 0, .cv (.slice none 0 0), .cv (.slice none 0 0)]), (9, .box 24 [.int .i64 (b2_2.length : Int), .int .i64 s.2.1, .own 88, .own 100]), (20, .arr 3 (.int .i64) b2_2), (82, .arr 3 (.int .i64) st4.1), (88, .arr 25 (.sl (.int .i64)) st3.1), (100, .arr 25 (.sl (.int .i64)) st3.2.1), (29000, .arr 3 (.int .i64) v0_2)] ?_
           refine AW.ops ?_
           refine zS 5 [(1, .bp 1 0), (2, .bp 2 0), (4, .own 29000), (5, .own 20), (9, .bp 9 0), (11, .int .i64 (b2_2.getD st3.2.2.toNat 0)), (13, .int .i64 st4.2), (58, .own 20), (59, .int .i64 (b2_2.length : Int)), (60, .int .i64 st3.2.2), (65, .int .i64 s.2.1), (66, .int .i64 st4.2), (69, .own 82), (70, .own 29000), (71, .own 20), (73, .sl (.sl (.int .i64)) s.2.2.1)] [(1, .box 24 [.int .i64 s.1, .int .i64 s.2.1, .sl (.sl (.int .i64)) s.2.2.1, .sl (.sl (.int .i64)) s.2.2.2]), (2, .box 24 [.int .i64 0, .int .i64 0, .cv (.slice none 0 0), .cv (.slice none 0 0)]), (9, .box 24 [.int .i64 (b2_2.length : Int), .int .i64 s.2.1, .own 88, .own 100]), (20, .arr 3 (.int .i64) b2_2), (82, .arr 3 (.int .i64) st4.1), (88, .arr 25 (.sl (.int .i64)) st3.1), (100, .arr 25 (.sl (.int .i64)) st3.2.1), (29000, .arr 3 (.int .i64) v0_2)] ?_
           obtain ⟨c27, h⟩ := ck_some.1 h
           obtain ⟨c28, h⟩ := ck_some.1 h
           obtain ⟨c29, h⟩ := ck_some.1 h
           obtain ⟨c30, h⟩ := ck_some.1 h
           refine zS 5 [(1, .bp 1 0), (2, .bp 2 0), (4, .own 29000), (5, .own 20), (9, .bp 9 0), (11, .int .i64 (b2_2.getD st3.2.2.toNat 0)), (58, .own 20), (59, .int .i64 (b2_2.length : Int)), (60, .int .i64 st3.2.2), (65, .int .i64 s.2.1), (66, .int .i64 st4.2), (69, .own 82), (70, .own 29000), (71, .own 20), (78, .dp (.int .i64) ((s.2.2.1.getD (b2_2.getD st3.2.2.toNat 0).toNat []).getD st4.2.toNat 0) 0)] [(1, .box 24 [.int .i64 s.1, .int .i64 s.2.1, .sl (.sl (.int .i64)) s.2.2.1, .sl (.sl (.int .i64)) s.2.2.2]), (2, .box 24 [.int .i64 0, .int .i64 0, .cv (.slice none 0 0), .cv (.slice none 0 0)]), (9, .box 24 [.int .i64 (b2_2.length : Int), .int .i64 s.2.1, .own 88, .own 100]), (20, .arr 3 (.int .i64) b2_2), (82, .arr 3 (.int .i64) st4.1), (88, .arr 25 (.sl (.int .i64)) st3.1), (100, .arr 25 (.sl (.int .i64)) st3.2.1), (29000, .arr 3 (.int .i64) v0_2)] ?_
           refine zS 1 [(1, .bp 1 0), (2, .bp 2 0), (4, .own 29000), (5, .own 20), (9, .bp 9 0), (11, .int .i64 (b2_2.getD st3.2.2.toNat 0)), (58, .own 20), (59, .int .i64 (b2_2.length : Int)), (60, .int .i64 st3.2.2), (65, .int .i64 s.2.1), (66, .int .i64 st4.2), (69, .own 82), (70, .own 29000), (71, .own 20), (79, .int .i64 ((s.2.2.1.getD (b2_2.getD st3.2.2.toNat 0).toNat []).getD st4.2.toNat 0))] [(1, .box 24 [.int .i64 s.1, .int .i64 s.2.1, .sl (.sl (.int .i64)) s.2.2.1, .sl (.sl (.int .i64)) s.2.2.2]), (2, .box 24 [.int .i64 0, .int .i64 0, .cv (.slice none 0 0), .cv (.slice none 0 0)]), (9, .box 24 [.int .i64 (b2_2.length : Int), .int .i64 s.2.1, .own 88, .own 100]), (20, .arr 3 (.int .i64) b2_2), (82, .arr 3 (.int .i64) st4.1), (88, .arr 25 (.sl (.int .i64)) st3.1), (100, .arr 25 (.sl (.int .i64)) st3.2.1), (29000, .arr 3 (.int .i64) v0_2)] ?_
           obtain ⟨v0_4, hv31, h⟩ := Option.bind_eq_some_iff.1 h
           refine zC [20, 29000] [] (hc_linealref01_number v0_2 b2_2 ((s.2.2.1.getD (b2_2.getD st3.2.2.toNat 0).toNat []).getD st4.2.toNat 0) hv31) [(1, .bp 1 0), (2, .bp 2 0), (4, .own 29000), (5, .own 20), (9, .bp 9 0), (11, .int .i64 (b2_2.getD st3.2.2.toNat 0)), (58, .own 20), (59, .int .i64 (b2_2.length : Int)), (60, .int .i64 st3.2.2), (65, .int .i64 s.2.1), (66, .int .i64 st4.2), (69, .own 82), (80, .int .i64 v0_4)] [(1, .box 24 [.int .i64 s.1, .int .i64 s.2.1, .sl (.sl (.int .i64)) s.2.2.1, .sl (.sl (.int .i64)) s.2.2.2]), (2, .box 24 [.int .i64 0, .int .i64 0, .cv (.slice none 0 0), .cv (.slice none 0 0)]), (9, .box 24 [.int .i64 (b2_2.length : Int), .int .i64 s.2.1, .own 88, .own 100]), (20, .arr 3 (.int .i64) b2_2), (82, .arr 3 (.int .i64) st4.1), (88, .arr 25 (.sl (.int .i64)) st3.1), (100, .arr 25 (.sl (.int .i64)) st3.2.1), (29000, .arr 3 (.int .i64) v0_2)] ?_
           obtain ⟨c32, h⟩ := ck_some.1 h
           refine zA [(1, .bp 1 0), (2, .bp 2 0), (4, .own 29000), (5, .own 20), (9, .bp 9 0), (11, .int .i64 (b2_2.getD st3.2.2.toNat 0)), (12, .own 82), (58, .own 20), (59, .int .i64 (b2_2.length : Int)), (60, .int .i64 st3.2.2), (65, .int .i64 s.2.1), (66, .int .i64 st4.2)] [(1, .box 24 [.int .i64 s.1, .int .i64 s.2.1, .sl (.sl (.int .i64)) s.2.2.1, .sl (.sl (.int .i64)) s.2.2.2]), (2, .box 24 [.int .i64 0, .int .i64 0, .cv (.slice none 0 0), .cv (.slice none 0 0)]), (9, .box 24 [.int .i64 (b2_2.length : Int), .int .i64 s.2.1, .own 88, .own 100]), (20, .arr 3 (.int .i64) b2_2), (82, .arr 3 (.int .i64) (st4.1 ++ [v0_4])), (88, .arr 25 (.sl (.int .i64)) st3.1), (100, .arr 25 (.sl (.int .i64)) st3.2.1), (29000, .arr 3 (.int .i64) v0_2)] ?_
           refine ablock_n ?_
           refine athen_n ?_
           refine AW.ops ?_
           obtain ⟨c33, h⟩ := ck_some.1 h
           refine zA [(1, .bp 1 0), (2, .bp 2 0), (4, .own 29000), (5, .own 20), (9, .bp 9 0), (11, .int .i64 (b2_2.getD st3.2.2.toNat 0)), (12, .own 82), (58, .own 20), (59, .int .i64 (b2_2.length : Int)), (60, .int .i64 st3.2.2), (65, .int .i64 s.2.1), (66, .int .i64 (st4.2 + 1))] [(1, .box 24 [.int .i64 s.1, .int .i64 s.2.1, .sl (.sl (.int .i64)) s.2.2.1, .sl (.sl (.int .i64)) s.2.2.2]), (2, .box 24 [.int .i64 0, .int .i64 0, .cv (.slice none 0 0), .cv (.slice none 0 0)]), (9, .box 24 [.int .i64 (b2_2.length : Int), .int .i64 s.2.1, .own 88, .own 100]), (20, .arr 3 (.int .i64) b2_2), (82, .arr 3 (.int .i64) (st4.1 ++ [v0_4])), (88, .arr 25 (.sl (.int .i64)) st3.1), (100, .arr 25 (.sl (.int .i64)) st3.2.1), (29000, .arr 3 (.int .i64) v0_2)] ?_
           obtain rfl := Option.some.inj h
           exact ⟨_, rfl, zL [] [] []⟩
          ·refine AW.exit ?_
           refine athen_e ?_
           obtain rfl := Option.some.inj h
           rw [← hd23 _ rfl] at ho22
           have h := ho22
           refine athen_e ?_
           refine ablock_s ?_
           refine athen_n ?_
           exact AW.weaken (zL [] [] []) (hk_linealref01_Least_k5 _ h)
      ·refine AW.exit ?_
       refine athen_e ?_
       obtain rfl := Option.some.inj h
       rw [← hd6 _ rfl] at ho5
       have h := ho5
       refine athen_e ?_
       refine ablock_s ?_
       refine athen_n ?_
       exact AW.weaken (zL [] [] []) (hk_linealref01_Least_k3 _ h)
  ·refine AW.seq ?_
   refine zo ?_
   refine zB [(1, .bp 1 0), (2, .bp 2 0), (4, .own 29000), (5, .own 20), (6, .int .i64 0)] [(1, .box 24 [.int .i64 s.1, .int .i64 s.2.1, .sl (.sl (.int .i64)) s.2.2.1, .sl (.sl (.int .i64)) s.2.2.2]), (2, .box 24 [.int .i64 0, .int .i64 0, .cv (.slice none 0 0), .cv (.slice none 0 0)]), (20, .arr 3 (.int .i64) [0]), (29000, .arr 3 (.int .i64) v0_2)] ?_
   refine AW.block ?_
   obtain ⟨rv38, hw34, ho35⟩ := Option.bind_eq_some_iff.1 h
   refine AW.loopO (linealref01_Least_b1 s v0_2) (fun st1 => ⟨fr [(1, .bp 1 0), (2, .bp 2 0), (4, .own 29000), (5, .own 20), (6, .int .i64 st1.2)], hpGet [(1, .box 24 [.int .i64 s.1, .int .i64 s.2.1, .sl (.sl (.int .i64)) s.2.2.1, .sl (.sl (.int .i64)) s.2.2.2]), (2, .box 24 [.int .i64 0, .int .i64 0, .cv (.slice none 0 0), .cv (.slice none 0 0)]), (20, .arr 3 (.int .i64) st1.1), (29000, .arr 3 (.int .i64) v0_2)], gt⟩) ([0], 0) hw34 (zL [] [] []) ?_
   as_aux_lemma =>
    intro st1 x37 h hd36
    unfold linealref01_Least_b1 at h
    refine AW.seq ?_
    refine zo ?_
    refine zB [(1, .bp 1 0), (2, .bp 2 0), (4, .own 29000), (5, .own 20), (6, .int .i64 st1.2), (24, .bool (decide (st1.2 < (st1.1.length : Int))))] [(1, .box 24 [.int .i64 s.1, .int .i64 s.2.1, .sl (.sl (.int .i64)) s.2.2.1, .sl (.sl (.int .i64)) s.2.2.2]), (2, .box 24 [.int .i64 0, .int .i64 0, .cv (.slice none 0 0), .cv (.slice none 0 0)]), (20, .arr 3 (.int .i64) st1.1), (29000, .arr 3 (.int .i64) v0_2)] ?_
    refine zQ h (fun hb39 h => ?_) (fun hb39 h => ?_)
    ·refine zk ?_
     refine AW.have1 (fun b2 : (List Int) => linealref01_Least_k2 st1 b2 = some x37) (fun b2 => ⟨fr [(1, .bp 1 0), (2, .bp 2 0), (4, .own 29000), (5, .own 20), (6, .int .i64 st1.2)], hpGet [(1, .box 24 [.int .i64 s.1, .int .i64 s.2.1, .sl (.sl (.int .i64)) s.2.2.1, .sl (.sl (.int .i64)) s.2.2.2]), (2, .box 24 [.int .i64 0, .int .i64 0, .cv (.slice none 0 0), .cv (.slice none 0 0)]), (20, .arr 3 (.int .i64) b2), (29000, .arr 3 (.int .i64) v0_2)], gt⟩) (fun b2 h => ?_) (fun hk_linealref01_Least_k2 => ?_)
     ·as_aux_lemma =>
       unfold linealref01_Least_k2 at h
       refine AW.ops ?_
       obtain ⟨c40, h⟩ := ck_some.1 h
       refine zA [(1, .bp 1 0), (2, .bp 2 0), (4, .own 29000), (5, .own 20), (6, .int .i64 (st1.2 + 1))] [(1, .box 24 [.int .i64 s.1, .int .i64 s.2.1, .sl (.sl (.int .i64)) s.2.2.1, .sl (.sl (.int .i64)) s.2.2.2]), (2, .box 24 [.int .i64 0, .int .i64 0, .cv (.slice none 0 0), .cv (.slice none 0 0)]), (20, .arr 3 (.int .i64) b2), (29000, .arr 3 (.int .i64) v0_2)] ?_
       obtain rfl := Option.some.inj h
       exact ⟨_, rfl, zL [] [] []⟩
     ·refine AW.seq ?_
      refine AW.block ?_
      refine zo ?_
      refine zB [(1, .bp 1 0), (2, .bp 2 0), (4, .own 29000), (5, .own 20), (6, .int .i64 st1.2), (28, .int .i64 s.2.1), (29, .int .i64 0)] [(1, .box 24 [.int .i64 s.1, .int .i64 s.2.1, .sl (.sl (.int .i64)) s.2.2.1, .sl (.sl (.int .i64)) s.2.2.2]), (2, .box 24 [.int .i64 0, .int .i64 0, .cv (.slice none 0 0), .cv (.slice none 0 0)]), (20, .arr 3 (.int .i64) st1.1), (29000, .arr 3 (.int .i64) v0_2)] ?_
      refine AW.block ?_
      obtain ⟨rv45, hw41, ho42⟩ := Option.bind_eq_some_iff.1 h
      refine AW.loopO (linealref01_Least_b2 s v0_2 st1) (fun st2 => ⟨fr [(1, .bp 1 0), (2, .bp 2 0), (4, .own 29000), (5, .own 20), (6, .int .i64 st1.2), (28, .int .i64 s.2.1), (29, .int .i64 st2.2)], hpGet [(1, .box 24 [.int .i64 s.1, .int .i64 s.2.1, .sl (.sl (.int .i64)) s.2.2.1, .sl (.sl (.int .i64)) s.2.2.2]), (2, .box 24 [.int .i64 0, .int .i64 0, .cv (.slice none 0 0), .cv (.slice none 0 0)]), (20, .arr 3 (.int .i64) st2.1), (29000, .arr 3 (.int .i64) v0_2)], gt⟩) (st1.1, 0) hw41 (zL [] [] []) ?_
      as_aux_lemma =>
       intro st2 x44 h hd43
       unfold linealref01_Least_b2 at h
       refine zo ?_
       refine zB [(1, .bp 1 0), (2, .bp 2 0), (4, .own 29000), (5, .own 20), (6, .int .i64 st1.2), (28, .int .i64 s.2.1), (29, .int .i64 st2.2), (30, .bool (decide (st2.2 < s.2.1)))] [(1, .box 24 [.int .i64 s.1, .int .i64 s.2.1, .sl (.sl (.int .i64)) s.2.2.1, .sl (.sl (.int .i64)) s.2.2.2]), (2, .box 24 [.int .i64 0, .int .i64 0, .cv (.slice none 0 0), .cv (.slice none 0 0)]), (20, .arr 3 (.int .i64) st2.1), (29000, .arr 3 (.int .i64) v0_2)] ?_
       refine AW.seq ?_
       refine zQ h (fun hb46 h => ?_) (fun hb46 h => ?_)
       ·refine zk ?_
        refine AW.seq ?_
        refine AW.block ?_
        refine zo ?_
        refine zB [(1, .bp 1 0), (2, .bp 2 0), (4, .own 29000), (5, .own 20), (6, .int .i64 st1.2), (7, .int .i64 st2.2), (28, .int .i64 s.2.1), (29, .int .i64 st2.2)] [(1, .box 24 [.int .i64 s.1, .int .i64 s.2.1, .sl (.sl (.int .i64)) s.2.2.1, .sl (.sl (.int .i64)) s.2.2.2]), (2, .box 24 [.int .i64 0, .int .i64 0, .cv (.slice none 0 0), .cv (.slice none 0 0)]), (20, .arr 3 (.int .i64) st2.1), (29000, .arr 3 (.int .i64) v0_2)] ?_
        refine AW.seq ?_
        refine AW.draw tab_ok mixed_ok [] [] (by decide) (lex_fast (by kernel_rfl)) ?_
        as_aux_lemma =>
         obtain ⟨c48, h⟩ := ck_some.1 h
         obtain ⟨c49, h⟩ := ck_some.1 h
         refine adops_cut 6 (fun K' hK47 => ?_)
         try dsimp only [List.drop_succ_cons, List.drop_zero, List.take_succ_cons, List.take_zero]
         simp only [go_sem, hb2, hb39, hb46]
         repeat with_reducible refine zN ?_
         refine hK47 _ ?_
         as_aux_lemma =>
          obtain ⟨c51, h⟩ := ck_some.1 h
          obtain ⟨c52, h⟩ := ck_some.1 h
          obtain ⟨c53, h⟩ := ck_some.1 h
          obtain ⟨c54, h⟩ := ck_some.1 h
          refine adops_cut 6 (fun K' hK50 => ?_)
          try dsimp only [List.drop_succ_cons, List.drop_zero, List.take_succ_cons, List.take_zero]
          simp only [go_sem, hb2, hb39, hb46]
          repeat with_reducible refine zN ?_
          refine hK50 _ ?_
          refine adops_nil ?_
          refine athen_n ?_
          refine zV [(1, .bp 1 0), (2, .bp 2 0), (4, .own 29000), (5, .own 20), (6, .int .i64 st1.2), (8, .int .i64 ((s.2.2.1.getD (st2.1.getD st1.2.toNat 0).toNat []).getD st2.2.toNat 0)), (28, .int .i64 s.2.1), (29, .int .i64 st2.2)] [(1, .box 24 [.int .i64 s.1, .int .i64 s.2.1, .sl (.sl (.int .i64)) s.2.2.1, .sl (.sl (.int .i64)) s.2.2.2]), (2, .box 24 [.int .i64 0, .int .i64 0, .cv (.slice none 0 0), .cv (.slice none 0 0)]), (20, .arr 3 (.int .i64) st2.1), (29000, .arr 3 (.int .i64) v0_2)] gt ?_
          as_aux_lemma =>
           refine zo ?_
           refine zS 3 [(1, .bp 1 0), (2, .bp 2 0), (4, .own 29000), (5, .own 20), (6, .int .i64 st1.2), (8, .int .i64 ((s.2.2.1.getD (st2.1.getD st1.2.toNat 0).toNat []).getD st2.2.toNat 0)), (28, .int .i64 s.2.1), (29, .int .i64 st2.2), (43, .own 29000), (44, .own 20), (45, .int .i64 ((s.2.2.1.getD (st2.1.getD st1.2.toNat 0).toNat []).getD st2.2.toNat 0))] [(1, .box 24 [.int .i64 s.1, .int .i64 s.2.1, .sl (.sl (.int .i64)) s.2.2.1, .sl (.sl (.int .i64)) s.2.2.2]), (2, .box 24 [.int .i64 0, .int .i64 0, .cv (.slice none 0 0), .cv (.slice none 0 0)]), (20, .arr 3 (.int .i64) st2.1), (29000, .arr 3 (.int .i64) v0_2)] ?_
           obtain ⟨v0_3, hv55, h⟩ := Option.bind_eq_some_iff.1 h
           refine zC [20, 29000] [] (hc_linealref01_number v0_2 st2.1 ((s.2.2.1.getD (st2.1.getD st1.2.toNat 0).toNat []).getD st2.2.toNat 0) hv55) [(1, .bp 1 0), (2, .bp 2 0), (4, .own 29000), (5, .own 20), (6, .int .i64 st1.2), (8, .int .i64 ((s.2.2.1.getD (st2.1.getD st1.2.toNat 0).toNat []).getD st2.2.toNat 0)), (28, .int .i64 s.2.1), (29, .int .i64 st2.2), (46, .int .i64 v0_3)] [(1, .box 24 [.int .i64 s.1, .int .i64 s.2.1, .sl (.sl (.int .i64)) s.2.2.1, .sl (.sl (.int .i64)) s.2.2.2]), (2, .box 24 [.int .i64 0, .int .i64 0, .cv (.slice none 0 0), .cv (.slice none 0 0)]), (20, .arr 3 (.int .i64) st2.1), (29000, .arr 3 (.int .i64) v0_2)] ?_
           refine zB [(1, .bp 1 0), (2, .bp 2 0), (4, .own 29000), (5, .own 20), (6, .int .i64 st1.2), (8, .int .i64 ((s.2.2.1.getD (st2.1.getD st1.2.toNat 0).toNat []).getD st2.2.toNat 0)), (28, .int .i64 s.2.1), (29, .int .i64 st2.2), (47, .bool (decide (v0_3 < 0)))] [(1, .box 24 [.int .i64 s.1, .int .i64 s.2.1, .sl (.sl (.int .i64)) s.2.2.1, .sl (.sl (.int .i64)) s.2.2.2]), (2, .box 24 [.int .i64 0, .int .i64 0, .cv (.slice none 0 0), .cv (.slice none 0 0)]), (20, .arr 3 (.int .i64) st2.1), (29000, .arr 3 (.int .i64) v0_2)] ?_
           refine zQ h (fun hb56 h => ?_) (fun hb56 h => ?_)
           ·refine AW.ops ?_
            obtain ⟨c57, h⟩ := ck_some.1 h
            refine zA [(1, .bp 1 0), (2, .bp 2 0), (4, .own 29000), (5, .own 51), (6, .int .i64 st1.2), (28, .int .i64 s.2.1), (29, .int .i64 st2.2)] [(1, .box 24 [.int .i64 s.1, .int .i64 s.2.1, .sl (.sl (.int .i64)) s.2.2.1, .sl (.sl (.int .i64)) s.2.2.2]), (2, .box 24 [.int .i64 0, .int .i64 0, .cv (.slice none 0 0), .cv (.slice none 0 0)]), (51, .arr 3 (.int .i64) (st2.1 ++ [((s.2.2.1.getD (st2.1.getD st1.2.toNat 0).toNat []).getD st2.2.toNat 0)])), (29000, .arr 3 (.int .i64) v0_2)] ?_
            refine ablock_n ?_
            refine athen_n ?_
            refine AW.ops ?_
            obtain ⟨c58, h⟩ := ck_some.1 h
            refine zA [(1, .bp 1 0), (2, .bp 2 0), (4, .own 29000), (5, .own 51), (6, .int .i64 st1.2), (28, .int .i64 s.2.1), (29, .int .i64 (st2.2 + 1))] [(1, .box 24 [.int .i64 s.1, .int .i64 s.2.1, .sl (.sl (.int .i64)) s.2.2.1, .sl (.sl (.int .i64)) s.2.2.2]), (2, .box 24 [.int .i64 0, .int .i64 0, .cv (.slice none 0 0), .cv (.slice none 0 0)]), (51, .arr 3 (.int .i64) (st2.1 ++ [((s.2.2.1.getD (st2.1.getD st1.2.toNat 0).toNat []).getD st2.2.toNat 0)])), (29000, .arr 3 (.int .i64) v0_2)] ?_
            obtain rfl := Option.some.inj h
            exact ⟨_, rfl, zL [] [] [(20, 51)]⟩
           ·refine zm ?_
            refine athen_n ?_
            refine AW.ops ?_
            obtain ⟨c59, h⟩ := ck_some.1 h
            refine zA [(1, .bp 1 0), (2, .bp 2 0), (4, .own 29000), (5, .own 20), (6, .int .i64 st1.2), (28, .int .i64 s.2.1), (29, .int .i64 (st2.2 + 1))] [(1, .box 24 [.int .i64 s.1, .int .i64 s.2.1, .sl (.sl (.int .i64)) s.2.2.1, .sl (.sl (.int .i64)) s.2.2.2]), (2, .box 24 [.int .i64 0, .int .i64 0, .cv (.slice none 0 0), .cv (.slice none 0 0)]), (20, .arr 3 (.int .i64) st2.1), (29000, .arr 3 (.int .i64) v0_2)] ?_
            obtain rfl := Option.some.inj h
            exact ⟨_, rfl, zL [] [] []⟩
       ·refine AW.exit ?_
        refine athen_e ?_
        obtain rfl := Option.some.inj h
        rw [← hd43 _ rfl] at ho42
        have h := ho42
        refine athen_e ?_
        refine ablock_s ?_
        refine ablock_n ?_
        refine athen_n ?_
        exact AW.weaken (zL [] [] []) (hk_linealref01_Least_k2 _ h)
    ·refine AW.exit ?_
     refine athen_e ?_
     obtain rfl := Option.some.inj h
     rw [← hd36 _ rfl] at ho35
     have h := ho35
     refine athen_e ?_
     refine ablock_s ?_
     refine athen_n ?_
     exact AW.weaken (zL [] [] []) (hk_linealref01_Least_k1 _ h)

theorem hc_lineallaw01_SpecWays (s : Int × Int × (List (List Int)) × (List (List Int))) (to0 : Int) {r : Bool} (h : lineallaw01_SpecWays s to0 = some r) : HC Try.prog 5 [] [.agg [.int .i64 s.1, .int .i64 s.2.1, .sl (.sl (.int .i64)) s.2.2.1, .sl (.sl (.int .i64)) s.2.2.2], .int .i64 to0] [] (.bool r) := by
 unfold lineallaw01_SpecWays at h
 refine zH Try.func5 [.tmp 4] 78 ?_
 refine zo ?_
 refine zB [(1, .int .i64 to0), (2, .bp 2 0)] [(2, .box 24 [.int .i64 s.1, .int .i64 s.2.1, .sl (.sl (.int .i64)) s.2.2.1, .sl (.sl (.int .i64)) s.2.2.2])] ?_
 refine AW.seq ?_
 refine zo ?_
 refine zS 1 [(1, .int .i64 to0), (2, .bp 2 0), (13, .agg [.int .i64 s.1, .int .i64 s.2.1, .sl (.sl (.int .i64)) s.2.2.1, .sl (.sl (.int .i64)) s.2.2.2])] [(2, .box 24 [.int .i64 s.1, .int .i64 s.2.1, .sl (.sl (.int .i64)) s.2.2.1, .sl (.sl (.int .i64)) s.2.2.2])] ?_
 obtain ⟨v0, hv1, h⟩ := Option.bind_eq_some_iff.1 h
 refine zC [] [] (hc_lineallaw01_Long s hv1) [(1, .int .i64 to0), (2, .bp 2 0), (14, .bool v0)] [(2, .box 24 [.int .i64 s.1, .int .i64 s.2.1, .sl (.sl (.int .i64)) s.2.2.1, .sl (.sl (.int .i64)) s.2.2.2])] ?_
 refine zB [(1, .int .i64 to0), (2, .bp 2 0), (14, .bool v0)] [(2, .box 24 [.int .i64 s.1, .int .i64 s.2.1, .sl (.sl (.int .i64)) s.2.2.1, .sl (.sl (.int .i64)) s.2.2.2])] ?_
 refine zQ h (fun hb2 h => ?_) (fun hb2 h => ?_)
 ·refine zo ?_
  obtain ⟨v0_2, hv3, h⟩ := Option.bind_eq_some_iff.1 h
  refine zC [] [] (hc_lineallaw01_Awake hv3) [(15, .bool v0_2)] [] ?_
  refine zB [(4, .bool v0_2)] [] ?_
  refine zr ?_
  obtain rfl := Option.some.inj h
  exact zR [] [] []
 ·refine zk ?_
  refine zo ?_
  refine zS 1 [(1, .int .i64 to0), (2, .bp 2 0), (17, .agg [.int .i64 s.1, .int .i64 s.2.1, .sl (.sl (.int .i64)) s.2.2.1, .sl (.sl (.int .i64)) s.2.2.2])] [(2, .box 24 [.int .i64 s.1, .int .i64 s.2.1, .sl (.sl (.int .i64)) s.2.2.1, .sl (.sl (.int .i64)) s.2.2.2])] ?_
  obtain ⟨v0_3, hv4, h⟩ := Option.bind_eq_some_iff.1 h
  refine zC [] [] (hc_spec_Reached s hv4) [(1, .int .i64 to0), (2, .bp 2 0), (18, .tup [.own 28000, .int .i64 v0_3.2])] [(2, .box 24 [.int .i64 s.1, .int .i64 s.2.1, .sl (.sl (.int .i64)) s.2.2.1, .sl (.sl (.int .i64)) s.2.2.2]), (28000, .arr 3 (.int .i64) v0_3.1)] ?_
  refine zB [(1, .int .i64 to0), (2, .bp 2 0), (5, .own 28000), (6, .int .i64 v0_3.2)] [(2, .box 24 [.int .i64 s.1, .int .i64 s.2.1, .sl (.sl (.int .i64)) s.2.2.1, .sl (.sl (.int .i64)) s.2.2.2]), (28000, .arr 3 (.int .i64) v0_3.1)] ?_
  refine zo ?_
  refine zS 1 [(1, .int .i64 to0), (2, .bp 2 0), (5, .own 28000), (6, .int .i64 v0_3.2), (22, .agg [.int .i64 s.1, .int .i64 s.2.1, .sl (.sl (.int .i64)) s.2.2.1, .sl (.sl (.int .i64)) s.2.2.2])] [(2, .box 24 [.int .i64 s.1, .int .i64 s.2.1, .sl (.sl (.int .i64)) s.2.2.1, .sl (.sl (.int .i64)) s.2.2.2]), (28000, .arr 3 (.int .i64) v0_3.1)] ?_
  obtain ⟨v0_4, hv5, h⟩ := Option.bind_eq_some_iff.1 h
  refine zC [] [] (hc_linealref01_Reached s hv5) [(1, .int .i64 to0), (2, .bp 2 0), (5, .own 28000), (6, .int .i64 v0_3.2), (23, .tup [.own 33000, .int .i64 v0_4.2])] [(2, .box 24 [.int .i64 s.1, .int .i64 s.2.1, .sl (.sl (.int .i64)) s.2.2.1, .sl (.sl (.int .i64)) s.2.2.2]), (28000, .arr 3 (.int .i64) v0_3.1), (33000, .arr 3 (.int .i64) v0_4.1)] ?_
  refine zB [(1, .int .i64 to0), (2, .bp 2 0), (5, .own 28000), (6, .int .i64 v0_3.2), (7, .own 33000), (8, .int .i64 v0_4.2)] [(2, .box 24 [.int .i64 s.1, .int .i64 s.2.1, .sl (.sl (.int .i64)) s.2.2.1, .sl (.sl (.int .i64)) s.2.2.2]), (28000, .arr 3 (.int .i64) v0_3.1), (33000, .arr 3 (.int .i64) v0_4.1)] ?_
  refine AW.seq ?_
  refine zo ?_
  refine zS 2 [(1, .int .i64 to0), (2, .bp 2 0), (6, .int .i64 v0_3.2), (8, .int .i64 v0_4.2), (26, .own 28000), (27, .own 33000)] [(2, .box 24 [.int .i64 s.1, .int .i64 s.2.1, .sl (.sl (.int .i64)) s.2.2.1, .sl (.sl (.int .i64)) s.2.2.2]), (28000, .arr 3 (.int .i64) v0_3.1), (33000, .arr 3 (.int .i64) v0_4.1)] ?_
  obtain ⟨v0_5, hv6, h⟩ := Option.bind_eq_some_iff.1 h
  refine zC [28000, 33000] [] (hc_linealref01_SameInts v0_3.1 v0_4.1 hv6) [(1, .int .i64 to0), (2, .bp 2 0), (6, .int .i64 v0_3.2), (8, .int .i64 v0_4.2), (28, .bool v0_5)] [(2, .box 24 [.int .i64 s.1, .int .i64 s.2.1, .sl (.sl (.int .i64)) s.2.2.1, .sl (.sl (.int .i64)) s.2.2.2])] ?_
  refine zS 2 [(1, .int .i64 to0), (2, .bp 2 0), (6, .int .i64 v0_3.2), (8, .int .i64 v0_4.2), (30, .bool (!v0_5))] [(2, .box 24 [.int .i64 s.1, .int .i64 s.2.1, .sl (.sl (.int .i64)) s.2.2.1, .sl (.sl (.int .i64)) s.2.2.2])] ?_
  rcases zI h with ⟨hb7, h⟩ | ⟨hb7, h⟩
  ·refine zB [(1, .int .i64 to0), (2, .bp 2 0), (34, .bool true)] [(2, .box 24 [.int .i64 s.1, .int .i64 s.2.1, .sl (.sl (.int .i64)) s.2.2.1, .sl (.sl (.int .i64)) s.2.2.2])] ?_
   refine AW.cond (b := true) rfl (fun _ => ?_) (fun hb8 => by cases hb8)
   refine zo ?_
   refine zB [(4, .bool false)] [] ?_
   refine zr ?_
   obtain rfl := Option.some.inj h
   exact zR [] [] []
  ·refine zB [(1, .int .i64 to0), (2, .bp 2 0), (34, .bool (!(decide (v0_3.2 = v0_4.2))))] [(2, .box 24 [.int .i64 s.1, .int .i64 s.2.1, .sl (.sl (.int .i64)) s.2.2.1, .sl (.sl (.int .i64)) s.2.2.2])] ?_
   refine zQ h (fun hb9 h => ?_) (fun hb9 h => ?_)
   ·refine zo ?_
    refine zB [(4, .bool false)] [] ?_
    refine zr ?_
    obtain rfl := Option.some.inj h
    exact zR [] [] []
   ·refine zk ?_
    refine zo ?_
    refine zS 2 [(1, .int .i64 to0), (2, .bp 2 0), (36, .agg [.int .i64 s.1, .int .i64 s.2.1, .sl (.sl (.int .i64)) s.2.2.1, .sl (.sl (.int .i64)) s.2.2.2]), (37, .int .i64 to0)] [(2, .box 24 [.int .i64 s.1, .int .i64 s.2.1, .sl (.sl (.int .i64)) s.2.2.1, .sl (.sl (.int .i64)) s.2.2.2])] ?_
    obtain ⟨v0_6, hv10, h⟩ := Option.bind_eq_some_iff.1 h
    refine zC [] [] (hc_spec_Way s to0 hv10) [(1, .int .i64 to0), (2, .bp 2 0), (38, .tup [.sl (.int .i64) v0_6.1, .int .i64 v0_6.2])] [(2, .box 24 [.int .i64 s.1, .int .i64 s.2.1, .sl (.sl (.int .i64)) s.2.2.1, .sl (.sl (.int .i64)) s.2.2.2])] ?_
    refine zB [(1, .int .i64 to0), (2, .bp 2 0), (5, .sl (.int .i64) v0_6.1), (6, .int .i64 v0_6.2)] [(2, .box 24 [.int .i64 s.1, .int .i64 s.2.1, .sl (.sl (.int .i64)) s.2.2.1, .sl (.sl (.int .i64)) s.2.2.2])] ?_
    refine zo ?_
    refine zS 2 [(2, .bp 2 0), (5, .sl (.int .i64) v0_6.1), (6, .int .i64 v0_6.2), (42, .agg [.int .i64 s.1, .int .i64 s.2.1, .sl (.sl (.int .i64)) s.2.2.1, .sl (.sl (.int .i64)) s.2.2.2]), (43, .int .i64 to0)] [(2, .box 24 [.int .i64 s.1, .int .i64 s.2.1, .sl (.sl (.int .i64)) s.2.2.1, .sl (.sl (.int .i64)) s.2.2.2])] ?_
    obtain ⟨v0_7, hv11, h⟩ := Option.bind_eq_some_iff.1 h
    refine zC [] [] (hc_linealref01_Way s to0 hv11) [(2, .bp 2 0), (5, .sl (.int .i64) v0_6.1), (6, .int .i64 v0_6.2), (44, .tup [.sl (.int .i64) v0_7.1, .int .i64 v0_7.2])] [(2, .box 24 [.int .i64 s.1, .int .i64 s.2.1, .sl (.sl (.int .i64)) s.2.2.1, .sl (.sl (.int .i64)) s.2.2.2])] ?_
    refine zB [(2, .bp 2 0), (5, .sl (.int .i64) v0_6.1), (6, .int .i64 v0_6.2), (7, .sl (.int .i64) v0_7.1), (8, .int .i64 v0_7.2)] [(2, .box 24 [.int .i64 s.1, .int .i64 s.2.1, .sl (.sl (.int .i64)) s.2.2.1, .sl (.sl (.int .i64)) s.2.2.2])] ?_
    refine zo ?_
    refine zS 1 [(2, .bp 2 0), (5, .sl (.int .i64) v0_6.1), (6, .int .i64 v0_6.2), (7, .sl (.int .i64) v0_7.1), (8, .int .i64 v0_7.2), (48, .agg [.int .i64 s.1, .int .i64 s.2.1, .sl (.sl (.int .i64)) s.2.2.1, .sl (.sl (.int .i64)) s.2.2.2])] [(2, .box 24 [.int .i64 s.1, .int .i64 s.2.1, .sl (.sl (.int .i64)) s.2.2.1, .sl (.sl (.int .i64)) s.2.2.2])] ?_
    obtain ⟨v0_8, hv12, h⟩ := Option.bind_eq_some_iff.1 h
    refine zC [] [] (hc_spec_Least s hv12) [(2, .bp 2 0), (5, .sl (.int .i64) v0_6.1), (6, .int .i64 v0_6.2), (7, .sl (.int .i64) v0_7.1), (8, .int .i64 v0_7.2), (49, .tup [.agg [.int .i64 v0_8.1, .int .i64 v0_8.2.1, .own 59000, .own 59001], .int .i64 v0_8.2.2.2.2])] [(2, .box 24 [.int .i64 s.1, .int .i64 s.2.1, .sl (.sl (.int .i64)) s.2.2.1, .sl (.sl (.int .i64)) s.2.2.2]), (59000, .arr 25 (.sl (.int .i64)) v0_8.2.2.1), (59001, .arr 25 (.sl (.int .i64)) v0_8.2.2.2.1)] ?_
    refine zS 5 [(2, .bp 2 0), (5, .sl (.int .i64) v0_6.1), (6, .int .i64 v0_6.2), (7, .sl (.int .i64) v0_7.1), (8, .int .i64 v0_7.2), (9, .bp 9 0), (51, .int .i64 v0_8.2.2.2.2)] [(2, .box 24 [.int .i64 s.1, .int .i64 s.2.1, .sl (.sl (.int .i64)) s.2.2.1, .sl (.sl (.int .i64)) s.2.2.2]), (9, .box 24 [.int .i64 v0_8.1, .int .i64 v0_8.2.1, .own 59000, .own 59001]), (59000, .arr 25 (.sl (.int .i64)) v0_8.2.2.1), (59001, .arr 25 (.sl (.int .i64)) v0_8.2.2.2.1)] ?_
    refine zB [(2, .bp 2 0), (5, .sl (.int .i64) v0_6.1), (6, .int .i64 v0_6.2), (7, .sl (.int .i64) v0_7.1), (8, .int .i64 v0_7.2), (9, .bp 9 0), (10, .int .i64 v0_8.2.2.2.2)] [(2, .box 24 [.int .i64 s.1, .int .i64 s.2.1, .sl (.sl (.int .i64)) s.2.2.1, .sl (.sl (.int .i64)) s.2.2.2]), (9, .box 24 [.int .i64 v0_8.1, .int .i64 v0_8.2.1, .own 59000, .own 59001]), (59000, .arr 25 (.sl (.int .i64)) v0_8.2.2.1), (59001, .arr 25 (.sl (.int .i64)) v0_8.2.2.2.1)] ?_
    refine zo ?_
    refine zS 1 [(5, .sl (.int .i64) v0_6.1), (6, .int .i64 v0_6.2), (7, .sl (.int .i64) v0_7.1), (8, .int .i64 v0_7.2), (9, .bp 9 0), (10, .int .i64 v0_8.2.2.2.2), (53, .agg [.int .i64 s.1, .int .i64 s.2.1, .sl (.sl (.int .i64)) s.2.2.1, .sl (.sl (.int .i64)) s.2.2.2])] [(9, .box 24 [.int .i64 v0_8.1, .int .i64 v0_8.2.1, .own 59000, .own 59001]), (59000, .arr 25 (.sl (.int .i64)) v0_8.2.2.1), (59001, .arr 25 (.sl (.int .i64)) v0_8.2.2.2.1)] ?_
    obtain ⟨v0_9, hv13, h⟩ := Option.bind_eq_some_iff.1 h
    refine zC [] [] (hc_linealref01_Least s hv13) [(5, .sl (.int .i64) v0_6.1), (6, .int .i64 v0_6.2), (7, .sl (.int .i64) v0_7.1), (8, .int .i64 v0_7.2), (9, .bp 9 0), (10, .int .i64 v0_8.2.2.2.2), (54, .tup [.agg [.int .i64 v0_9.1, .int .i64 v0_9.2.1, .own 64000, .own 64001], .int .i64 v0_9.2.2.2.2])] [(9, .box 24 [.int .i64 v0_8.1, .int .i64 v0_8.2.1, .own 59000, .own 59001]), (59000, .arr 25 (.sl (.int .i64)) v0_8.2.2.1), (59001, .arr 25 (.sl (.int .i64)) v0_8.2.2.2.1), (64000, .arr 25 (.sl (.int .i64)) v0_9.2.2.1), (64001, .arr 25 (.sl (.int .i64)) v0_9.2.2.2.1)] ?_
    refine zS 5 [(5, .sl (.int .i64) v0_6.1), (6, .int .i64 v0_6.2), (7, .sl (.int .i64) v0_7.1), (8, .int .i64 v0_7.2), (9, .bp 9 0), (10, .int .i64 v0_8.2.2.2.2), (11, .bp 11 0), (56, .int .i64 v0_9.2.2.2.2)] [(9, .box 24 [.int .i64 v0_8.1, .int .i64 v0_8.2.1, .own 59000, .own 59001]), (11, .box 24 [.int .i64 v0_9.1, .int .i64 v0_9.2.1, .own 64000, .own 64001]), (59000, .arr 25 (.sl (.int .i64)) v0_8.2.2.1), (59001, .arr 25 (.sl (.int .i64)) v0_8.2.2.2.1), (64000, .arr 25 (.sl (.int .i64)) v0_9.2.2.1), (64001, .arr 25 (.sl (.int .i64)) v0_9.2.2.2.1)] ?_
    refine zB [(5, .sl (.int .i64) v0_6.1), (6, .int .i64 v0_6.2), (7, .sl (.int .i64) v0_7.1), (8, .int .i64 v0_7.2), (9, .bp 9 0), (10, .int .i64 v0_8.2.2.2.2), (11, .bp 11 0), (12, .int .i64 v0_9.2.2.2.2)] [(9, .box 24 [.int .i64 v0_8.1, .int .i64 v0_8.2.1, .own 59000, .own 59001]), (11, .box 24 [.int .i64 v0_9.1, .int .i64 v0_9.2.1, .own 64000, .own 64001]), (59000, .arr 25 (.sl (.int .i64)) v0_8.2.2.1), (59001, .arr 25 (.sl (.int .i64)) v0_8.2.2.2.1), (64000, .arr 25 (.sl (.int .i64)) v0_9.2.2.1), (64001, .arr 25 (.sl (.int .i64)) v0_9.2.2.2.1)] ?_
    refine zo ?_
    refine zS 2 [(6, .int .i64 v0_6.2), (8, .int .i64 v0_7.2), (9, .bp 9 0), (10, .int .i64 v0_8.2.2.2.2), (11, .bp 11 0), (12, .int .i64 v0_9.2.2.2.2), (57, .sl (.int .i64) v0_6.1), (58, .sl (.int .i64) v0_7.1)] [(9, .box 24 [.int .i64 v0_8.1, .int .i64 v0_8.2.1, .own 59000, .own 59001]), (11, .box 24 [.int .i64 v0_9.1, .int .i64 v0_9.2.1, .own 64000, .own 64001]), (59000, .arr 25 (.sl (.int .i64)) v0_8.2.2.1), (59001, .arr 25 (.sl (.int .i64)) v0_8.2.2.2.1), (64000, .arr 25 (.sl (.int .i64)) v0_9.2.2.1), (64001, .arr 25 (.sl (.int .i64)) v0_9.2.2.2.1)] ?_
    obtain ⟨v0_10, hv14, h⟩ := Option.bind_eq_some_iff.1 h
    refine zC [] [] (hc_linealref01_SameInts v0_6.1 v0_7.1 hv14) [(6, .int .i64 v0_6.2), (8, .int .i64 v0_7.2), (9, .bp 9 0), (10, .int .i64 v0_8.2.2.2.2), (11, .bp 11 0), (12, .int .i64 v0_9.2.2.2.2), (59, .bool v0_10)] [(9, .box 24 [.int .i64 v0_8.1, .int .i64 v0_8.2.1, .own 59000, .own 59001]), (11, .box 24 [.int .i64 v0_9.1, .int .i64 v0_9.2.1, .own 64000, .own 64001]), (59000, .arr 25 (.sl (.int .i64)) v0_8.2.2.1), (59001, .arr 25 (.sl (.int .i64)) v0_8.2.2.2.1), (64000, .arr 25 (.sl (.int .i64)) v0_9.2.2.1), (64001, .arr 25 (.sl (.int .i64)) v0_9.2.2.2.1)] ?_
    refine zS 1 [(6, .int .i64 v0_6.2), (8, .int .i64 v0_7.2), (9, .bp 9 0), (10, .int .i64 v0_8.2.2.2.2), (11, .bp 11 0), (12, .int .i64 v0_9.2.2.2.2), (60, .bool v0_10)] [(9, .box 24 [.int .i64 v0_8.1, .int .i64 v0_8.2.1, .own 59000, .own 59001]), (11, .box 24 [.int .i64 v0_9.1, .int .i64 v0_9.2.1, .own 64000, .own 64001]), (59000, .arr 25 (.sl (.int .i64)) v0_8.2.2.1), (59001, .arr 25 (.sl (.int .i64)) v0_8.2.2.2.1), (64000, .arr 25 (.sl (.int .i64)) v0_9.2.2.1), (64001, .arr 25 (.sl (.int .i64)) v0_9.2.2.2.1)] ?_
    rcases zI h with ⟨hb15, h⟩ | ⟨hb15, h⟩
    ·refine zS 5 [(9, .bp 9 0), (10, .int .i64 v0_8.2.2.2.2), (11, .bp 11 0), (12, .int .i64 v0_9.2.2.2.2), (65, .bool (decide (v0_6.2 = v0_7.2)))] [(9, .box 24 [.int .i64 v0_8.1, .int .i64 v0_8.2.1, .own 59000, .own 59001]), (11, .box 24 [.int .i64 v0_9.1, .int .i64 v0_9.2.1, .own 64000, .own 64001]), (59000, .arr 25 (.sl (.int .i64)) v0_8.2.2.1), (59001, .arr 25 (.sl (.int .i64)) v0_8.2.2.2.1), (64000, .arr 25 (.sl (.int .i64)) v0_9.2.2.1), (64001, .arr 25 (.sl (.int .i64)) v0_9.2.2.2.1)] ?_
     rcases zI h with ⟨hb16, h⟩ | ⟨hb16, h⟩
     ·refine zS 2 [(10, .int .i64 v0_8.2.2.2.2), (12, .int .i64 v0_9.2.2.2.2), (65, .bool true), (66, .agg [.int .i64 v0_8.1, .int .i64 v0_8.2.1, .own 59000, .own 59001]), (67, .agg [.int .i64 v0_9.1, .int .i64 v0_9.2.1, .own 64000, .own 64001])] [(59000, .arr 25 (.sl (.int .i64)) v0_8.2.2.1), (59001, .arr 25 (.sl (.int .i64)) v0_8.2.2.2.1), (64000, .arr 25 (.sl (.int .i64)) v0_9.2.2.1), (64001, .arr 25 (.sl (.int .i64)) v0_9.2.2.2.1)] ?_
      obtain ⟨v0_11, hv17, h⟩ := Option.bind_eq_some_iff.1 h
      refine zG [59000, 59001, 64000, 64001] [] (hc_linealref01_Equal (v0_8.1, v0_8.2.1, v0_8.2.2.1, v0_8.2.2.2.1) (v0_9.1, v0_9.2.1, v0_9.2.2.1, v0_9.2.2.2.1) hv17) [(10, .int .i64 v0_8.2.2.2.2), (12, .int .i64 v0_9.2.2.2.2), (65, .bool true), (68, .bool v0_11)] [] ?_
      refine zS 2 [(10, .int .i64 v0_8.2.2.2.2), (12, .int .i64 v0_9.2.2.2.2), (70, .bool v0_11)] [] ?_
      rcases zI h with ⟨hb18, h⟩ | ⟨hb18, h⟩
      ·refine zS 5 [(75, .bool (decide (v0_8.2.2.2.2 = v0_9.2.2.2.2)))] [] ?_
       rcases zI h with ⟨hb19, h⟩ | ⟨hb19, h⟩
       ·refine zT [(75, .bool true)] [] gt ?_
        obtain ⟨v0_12, hv20, h⟩ := Option.bind_eq_some_iff.1 h
        refine zG [] [] (hc_lineallaw01_Awake hv20) [(75, .bool true), (76, .bool v0_12)] [] ?_
        refine zB [(4, .bool v0_12)] [] ?_
        refine AW.ret ?_
        obtain rfl := Option.some.inj h
        exact zR [] [] []
       ·refine zB [(4, .bool false)] [] ?_
        refine AW.ret ?_
        obtain rfl := Option.some.inj h
        exact zR [] [] []
      ·refine zS 5 [(75, .bool false)] [] ?_
       refine zB [(4, .bool false)] [] ?_
       refine AW.ret ?_
       obtain rfl := Option.some.inj h
       exact zR [] [] []
     ·refine zS 5 [(10, .int .i64 v0_8.2.2.2.2), (12, .int .i64 v0_9.2.2.2.2), (70, .bool false)] [] ?_
      refine zS 5 [(75, .bool false)] [] ?_
      refine zB [(4, .bool false)] [] ?_
      refine AW.ret ?_
      obtain rfl := Option.some.inj h
      exact zR [] [] []
    ·refine zS 5 [(9, .bp 9 0), (10, .int .i64 v0_8.2.2.2.2), (11, .bp 11 0), (12, .int .i64 v0_9.2.2.2.2), (65, .bool false)] [(9, .box 24 [.int .i64 v0_8.1, .int .i64 v0_8.2.1, .own 59000, .own 59001]), (11, .box 24 [.int .i64 v0_9.1, .int .i64 v0_9.2.1, .own 64000, .own 64001]), (59000, .arr 25 (.sl (.int .i64)) v0_8.2.2.1), (59001, .arr 25 (.sl (.int .i64)) v0_8.2.2.2.1), (64000, .arr 25 (.sl (.int .i64)) v0_9.2.2.1), (64001, .arr 25 (.sl (.int .i64)) v0_9.2.2.2.1)] ?_
     refine zS 5 [(10, .int .i64 v0_8.2.2.2.2), (12, .int .i64 v0_9.2.2.2.2), (70, .bool false)] [] ?_
     refine zS 5 [(75, .bool false)] [] ?_
     refine zB [(4, .bool false)] [] ?_
     refine AW.ret ?_
     obtain rfl := Option.some.inj h
     exact zR [] [] []

end Go.Proofs.Ytcgflignbhmoaaa
