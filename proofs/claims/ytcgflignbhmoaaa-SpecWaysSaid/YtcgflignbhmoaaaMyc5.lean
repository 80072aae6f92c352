/-
  Made by wip/tool/dc.py out of the print of the program: contracts.
-/
import Derived.Test.YtcgflignbhmoaaaQp
import Derived.Test.YtcgflignbhmoaaaShs
import Derived.Test.YtcgflignbhmoaaaAvd
import Derived.Test.YtcgflignbhmoaaaMyc1
import Derived.Test.YtcgflignbhmoaaaMyc3
import Derived.Test.YtcgflignbhmoaaaMyc4
namespace Go.Proofs.Ytcgflignbhmoaaa
open Go.RowKit

set_option linter.unusedSimpArgs false
set_option linter.unusedVariables false
set_option linter.constructorNameAsVariable false

set_option maxRecDepth 100000
set_option maxHeartbeats 2000000

theorem hc_spec_Least (s : Int × Int × (List (List Int)) × (List (List Int))) {r : Int × Int × (List (List Int)) × (List (List Int)) × Int} (h : spec_Least s = some r) : HC Try.prog 35 [] [.agg [.int .i64 s.1, .int .i64 s.2.1, .sl (.sl (.int .i64)) s.2.2.1, .sl (.sl (.int .i64)) s.2.2.2]] [(2000, .arr 25 (.sl (.int .i64)) r.2.2.1), (2001, .arr 25 (.sl (.int .i64)) r.2.2.2.1)] (.tup [.agg [.int .i64 r.1, .int .i64 r.2.1, .own 2000, .own 2001], .int .i64 r.2.2.2.2]) := by
 unfold spec_Least at h
 refine zH Try.func35 [.cell 2 24, .tmp 3] 98 ?_
 refine zo ?_
 refine zB [(1, .bp 1 0), (2, .bp 2 0)] [(1, .box 24 [.int .i64 s.1, .int .i64 s.2.1, .sl (.sl (.int .i64)) s.2.2.1, .sl (.sl (.int .i64)) s.2.2.2]), (2, .box 24 [.int .i64 0, .int .i64 0, .cv (.slice none 0 0), .cv (.slice none 0 0)])] ?_
 refine zo ?_
 refine zS 1 [(1, .bp 1 0), (2, .bp 2 0), (16, .agg [.int .i64 s.1, .int .i64 s.2.1, .sl (.sl (.int .i64)) s.2.2.1, .sl (.sl (.int .i64)) s.2.2.2])] [(1, .box 24 [.int .i64 s.1, .int .i64 s.2.1, .sl (.sl (.int .i64)) s.2.2.1, .sl (.sl (.int .i64)) s.2.2.2]), (2, .box 24 [.int .i64 0, .int .i64 0, .cv (.slice none 0 0), .cv (.slice none 0 0)])] ?_
 obtain ⟨v0, hv1, h⟩ := Option.bind_eq_some_iff.1 h
 refine zC [] [] (hc_spec_checked s [] hv1) [(1, .bp 1 0), (2, .bp 2 0), (17, .tup [.agg [.int .i64 v0.1, .int .i64 v0.2.1, .sl (.sl (.int .i64)) v0.2.2.1, .sl (.sl (.int .i64)) v0.2.2.2.1], .int .i64 v0.2.2.2.2])] [(1, .box 24 [.int .i64 s.1, .int .i64 s.2.1, .sl (.sl (.int .i64)) s.2.2.1, .sl (.sl (.int .i64)) s.2.2.2]), (2, .box 24 [.int .i64 0, .int .i64 0, .cv (.slice none 0 0), .cv (.slice none 0 0)])] ?_
 refine zS 5 [(1, .bp 1 0), (2, .bp 2 0), (4, .bp 4 0), (19, .int .i64 v0.2.2.2.2)] [(1, .box 24 [.int .i64 s.1, .int .i64 s.2.1, .sl (.sl (.int .i64)) s.2.2.1, .sl (.sl (.int .i64)) s.2.2.2]), (2, .box 24 [.int .i64 0, .int .i64 0, .cv (.slice none 0 0), .cv (.slice none 0 0)]), (4, .box 60 [.int .i64 v0.1, .int .i64 v0.2.1, .sl (.sl (.int .i64)) v0.2.2.1, .sl (.sl (.int .i64)) v0.2.2.2.1])] ?_
 refine zB [(1, .bp 1 0), (2, .bp 2 0), (4, .bp 4 0), (5, .int .i64 v0.2.2.2.2)] [(1, .box 24 [.int .i64 s.1, .int .i64 s.2.1, .sl (.sl (.int .i64)) s.2.2.1, .sl (.sl (.int .i64)) s.2.2.2]), (2, .box 24 [.int .i64 0, .int .i64 0, .cv (.slice none 0 0), .cv (.slice none 0 0)]), (4, .box 60 [.int .i64 v0.1, .int .i64 v0.2.1, .sl (.sl (.int .i64)) v0.2.2.1, .sl (.sl (.int .i64)) v0.2.2.2.1])] ?_
 refine AW.seq ?_
 refine zo ?_
 refine zB [(1, .bp 1 0), (2, .bp 2 0), (4, .bp 4 0), (5, .int .i64 v0.2.2.2.2), (21, .bool (!(decide (v0.2.2.2.2 = 0))))] [(1, .box 24 [.int .i64 s.1, .int .i64 s.2.1, .sl (.sl (.int .i64)) s.2.2.1, .sl (.sl (.int .i64)) s.2.2.2]), (2, .box 24 [.int .i64 0, .int .i64 0, .cv (.slice none 0 0), .cv (.slice none 0 0)]), (4, .box 60 [.int .i64 v0.1, .int .i64 v0.2.1, .sl (.sl (.int .i64)) v0.2.2.1, .sl (.sl (.int .i64)) v0.2.2.2.1])] ?_
 refine zQ h (fun hb2 h => ?_) (fun hb2 h => ?_)
 ·refine zo ?_
  refine zB [(2, .bp 2 0), (3, .int .i64 v0.2.2.2.2)] [(2, .box 24 [.int .i64 0, .int .i64 0, .cv (.slice none 0 0), .cv (.slice none 0 0)])] ?_
  refine zr ?_
  obtain rfl := Option.some.inj h
  exact zR [] [2000, 2001] []
 ·refine zk ?_
  refine zo ?_
  refine zS 1 [(1, .bp 1 0), (2, .bp 2 0), (4, .bp 4 0), (24, .agg [.int .i64 v0.1, .int .i64 v0.2.1, .sl (.sl (.int .i64)) v0.2.2.1, .sl (.sl (.int .i64)) v0.2.2.2.1])] [(1, .box 24 [.int .i64 s.1, .int .i64 s.2.1, .sl (.sl (.int .i64)) s.2.2.1, .sl (.sl (.int .i64)) s.2.2.2]), (2, .box 24 [.int .i64 0, .int .i64 0, .cv (.slice none 0 0), .cv (.slice none 0 0)]), (4, .box 60 [.int .i64 v0.1, .int .i64 v0.2.1, .sl (.sl (.int .i64)) v0.2.2.1, .sl (.sl (.int .i64)) v0.2.2.2.1])] ?_
  obtain ⟨v0_2, hv3, h⟩ := Option.bind_eq_some_iff.1 h
  refine zC [] [] (hc_spec_machine_classes (v0.1, v0.2.1, v0.2.2.1, v0.2.2.2.1) hv3) [(1, .bp 1 0), (2, .bp 2 0), (4, .bp 4 0), (25, .own 35000)] [(1, .box 24 [.int .i64 s.1, .int .i64 s.2.1, .sl (.sl (.int .i64)) s.2.2.1, .sl (.sl (.int .i64)) s.2.2.2]), (2, .box 24 [.int .i64 0, .int .i64 0, .cv (.slice none 0 0), .cv (.slice none 0 0)]), (4, .box 60 [.int .i64 v0.1, .int .i64 v0.2.1, .sl (.sl (.int .i64)) v0.2.2.1, .sl (.sl (.int .i64)) v0.2.2.2.1]), (35000, .arr 3 (.int .i64) v0_2)] ?_
  refine zB [(1, .bp 1 0), (2, .bp 2 0), (4, .bp 4 0), (6, .bp 6 0)] [(1, .box 24 [.int .i64 s.1, .int .i64 s.2.1, .sl (.sl (.int .i64)) s.2.2.1, .sl (.sl (.int .i64)) s.2.2.2]), (2, .box 24 [.int .i64 0, .int .i64 0, .cv (.slice none 0 0), .cv (.slice none 0 0)]), (4, .box 60 [.int .i64 v0.1, .int .i64 v0.2.1, .sl (.sl (.int .i64)) v0.2.2.1, .sl (.sl (.int .i64)) v0.2.2.2.1]), (6, .box 25 [.own 35000]), (35000, .arr 3 (.int .i64) v0_2)] ?_
  refine zo ?_
  refine zB [(1, .bp 1 0), (2, .bp 2 0), (4, .bp 4 0), (6, .bp 6 0), (7, .bp 7 0)] [(1, .box 24 [.int .i64 s.1, .int .i64 s.2.1, .sl (.sl (.int .i64)) s.2.2.1, .sl (.sl (.int .i64)) s.2.2.2]), (2, .box 24 [.int .i64 0, .int .i64 0, .cv (.slice none 0 0), .cv (.slice none 0 0)]), (4, .box 60 [.int .i64 v0.1, .int .i64 v0.2.1, .sl (.sl (.int .i64)) v0.2.2.1, .sl (.sl (.int .i64)) v0.2.2.2.1]), (6, .box 25 [.own 35000]), (7, .box 25 [.cv (.slice none 0 0)]), (35000, .arr 3 (.int .i64) v0_2)] ?_
  refine AW.have1 (fun b1 : (List Int) => spec_Least_k1 s v0_2 b1 = some r) (fun b1 => ⟨fr [(1, .bp 1 0), (2, .bp 2 0), (6, .bp 6 0), (7, .bp 7 0)], hpGet [(1, .box 24 [.int .i64 s.1, .int .i64 s.2.1, .sl (.sl (.int .i64)) s.2.2.1, .sl (.sl (.int .i64)) s.2.2.2]), (2, .box 24 [.int .i64 0, .int .i64 0, .cv (.slice none 0 0), .cv (.slice none 0 0)]), (6, .box 25 [.own 35000]), (7, .box 25 [.own 43]), (43, .arr 3 (.int .i64) b1), (35000, .arr 3 (.int .i64) v0_2)], gt⟩) (fun b1 h => ?_) (fun hk_spec_Least_k1 => ?_)
  ·as_aux_lemma =>
    unfold spec_Least_k1 at h
    refine zo ?_
    refine zS 5 [(1, .bp 1 0), (2, .bp 2 0), (6, .bp 6 0), (7, .bp 7 0), (48, .agg [.int .i64 (b1.length : Int), .int .i64 s.2.1, .cv (.slice none 0 0), .cv (.slice none 0 0)])] [(1, .box 24 [.int .i64 s.1, .int .i64 s.2.1, .sl (.sl (.int .i64)) s.2.2.1, .sl (.sl (.int .i64)) s.2.2.2]), (2, .box 24 [.int .i64 0, .int .i64 0, .cv (.slice none 0 0), .cv (.slice none 0 0)]), (6, .box 25 [.own 35000]), (7, .box 25 [.own 43]), (43, .arr 3 (.int .i64) b1), (35000, .arr 3 (.int .i64) v0_2)] ?_
    refine zB [(1, .bp 1 0), (2, .bp 2 0), (6, .bp 6 0), (7, .bp 7 0), (9, .bp 9 0)] [(1, .box 24 [.int .i64 s.1, .int .i64 s.2.1, .sl (.sl (.int .i64)) s.2.2.1, .sl (.sl (.int .i64)) s.2.2.2]), (2, .box 24 [.int .i64 0, .int .i64 0, .cv (.slice none 0 0), .cv (.slice none 0 0)]), (6, .box 25 [.own 35000]), (7, .box 25 [.own 43]), (9, .box 24 [.int .i64 (b1.length : Int), .int .i64 s.2.1, .cv (.slice none 0 0), .cv (.slice none 0 0)]), (43, .arr 3 (.int .i64) b1), (35000, .arr 3 (.int .i64) v0_2)] ?_
    refine AW.have1 (fun b4_3 : (List (List Int)) × (List (List Int)) => spec_Least_k2 s b1 b4_3 = some r) (fun b4_3 => ⟨fr [(2, .bp 2 0), (9, .bp 9 0)], hpGet [(2, .box 24 [.int .i64 0, .int .i64 0, .cv (.slice none 0 0), .cv (.slice none 0 0)]), (9, .box 24 [.int .i64 (b1.length : Int), .int .i64 s.2.1, .own 83, .own 94]), (83, .arr 25 (.sl (.int .i64)) b4_3.1), (94, .arr 25 (.sl (.int .i64)) b4_3.2)], gt⟩) (fun b4_3 h => ?_) (fun hk_spec_Least_k2 => ?_)
    ·as_aux_lemma =>
      unfold spec_Least_k2 at h
      refine zo ?_
      refine zB [(2, .bp 2 0), (3, .int .i64 0)] [(2, .box 24 [.int .i64 (b1.length : Int), .int .i64 s.2.1, .own 83, .own 94]), (83, .arr 25 (.sl (.int .i64)) b4_3.1), (94, .arr 25 (.sl (.int .i64)) b4_3.2)] ?_
      refine AW.ret ?_
      obtain rfl := Option.some.inj h
      exact zR [] [] [(2000, 83), (2001, 94)]
    ·refine AW.seq ?_
     refine zo ?_
     refine zB [(1, .bp 1 0), (2, .bp 2 0), (6, .bp 6 0), (7, .bp 7 0), (9, .bp 9 0), (49, .own 43), (50, .int .i64 (b1.length : Int)), (51, .int .i64 0)] [(1, .box 24 [.int .i64 s.1, .int .i64 s.2.1, .sl (.sl (.int .i64)) s.2.2.1, .sl (.sl (.int .i64)) s.2.2.2]), (2, .box 24 [.int .i64 0, .int .i64 0, .cv (.slice none 0 0), .cv (.slice none 0 0)]), (6, .box 25 [.own 35000]), (7, .box 25 [.own 43]), (9, .box 24 [.int .i64 (b1.length : Int), .int .i64 s.2.1, .cv (.slice none 0 0), .cv (.slice none 0 0)]), (43, .arr 3 (.int .i64) b1), (35000, .arr 3 (.int .i64) v0_2)] ?_
     refine AW.block ?_
     obtain ⟨rv8, hw4, ho5⟩ := Option.bind_eq_some_iff.1 h
     refine AW.loopO (spec_Least_b2 s v0_2 b1) (fun st2 => ⟨fr [(1, .bp 1 0), (2, .bp 2 0), (6, .bp 6 0), (7, .bp 7 0), (9, .bp 9 0), (49, .own 43), (50, .int .i64 (b1.length : Int)), (51, .int .i64 st2.2.2)], hpGet [(1, .box 24 [.int .i64 s.1, .int .i64 s.2.1, .sl (.sl (.int .i64)) s.2.2.1, .sl (.sl (.int .i64)) s.2.2.2]), (2, .box 24 [.int .i64 0, .int .i64 0, .cv (.slice none 0 0), .cv (.slice none 0 0)]), (6, .box 25 [.own 35000]), (7, .box 25 [.own 43]), (9, .box 24 [.int .i64 (b1.length : Int), .int .i64 s.2.1, .own 83, .own 94]), (43, .arr 3 (.int .i64) b1), (83, .arr 25 (.sl (.int .i64)) st2.1), (94, .arr 25 (.sl (.int .i64)) st2.2.1), (35000, .arr 3 (.int .i64) v0_2)], gt⟩) ([], [], 0) hw4 (zL [] [83, 94] []) ?_
     as_aux_lemma =>
      intro st2 x7 h hd6
      unfold spec_Least_b2 at h
      refine zo ?_
      refine zB [(1, .bp 1 0), (2, .bp 2 0), (6, .bp 6 0), (7, .bp 7 0), (9, .bp 9 0), (49, .own 43), (50, .int .i64 (b1.length : Int)), (51, .int .i64 st2.2.2), (52, .bool (decide (st2.2.2 < (b1.length : Int))))] [(1, .box 24 [.int .i64 s.1, .int .i64 s.2.1, .sl (.sl (.int .i64)) s.2.2.1, .sl (.sl (.int .i64)) s.2.2.2]), (2, .box 24 [.int .i64 0, .int .i64 0, .cv (.slice none 0 0), .cv (.slice none 0 0)]), (6, .box 25 [.own 35000]), (7, .box 25 [.own 43]), (9, .box 24 [.int .i64 (b1.length : Int), .int .i64 s.2.1, .own 83, .own 94]), (43, .arr 3 (.int .i64) b1), (83, .arr 25 (.sl (.int .i64)) st2.1), (94, .arr 25 (.sl (.int .i64)) st2.2.1), (35000, .arr 3 (.int .i64) v0_2)] ?_
      refine AW.seq ?_
      refine zQ h (fun hb9 h => ?_) (fun hb9 h => ?_)
      ·refine zk ?_
       refine AW.have1 (fun b4_2 : (List (List Int)) × (List (List Int)) => spec_Least_k3 st2 b4_2 = some x7) (fun b4_2 => ⟨fr [(1, .bp 1 0), (2, .bp 2 0), (6, .bp 6 0), (7, .bp 7 0), (9, .bp 9 0), (49, .own 43), (50, .int .i64 (b1.length : Int)), (51, .int .i64 st2.2.2)], hpGet [(1, .box 24 [.int .i64 s.1, .int .i64 s.2.1, .sl (.sl (.int .i64)) s.2.2.1, .sl (.sl (.int .i64)) s.2.2.2]), (2, .box 24 [.int .i64 0, .int .i64 0, .cv (.slice none 0 0), .cv (.slice none 0 0)]), (6, .box 25 [.own 35000]), (7, .box 25 [.own 43]), (9, .box 24 [.int .i64 (b1.length : Int), .int .i64 s.2.1, .own 83, .own 94]), (43, .arr 3 (.int .i64) b1), (83, .arr 25 (.sl (.int .i64)) b4_2.1), (94, .arr 25 (.sl (.int .i64)) b4_2.2), (35000, .arr 3 (.int .i64) v0_2)], gt⟩) (fun b4_2 h => ?_) (fun hk_spec_Least_k3 => ?_)
       ·as_aux_lemma =>
         unfold spec_Least_k3 at h
         refine AW.ops ?_
         obtain ⟨c10, h⟩ := ck_some.1 h
         refine zA [(1, .bp 1 0), (2, .bp 2 0), (6, .bp 6 0), (7, .bp 7 0), (9, .bp 9 0), (49, .own 43), (50, .int .i64 (b1.length : Int)), (51, .int .i64 (st2.2.2 + 1))] [(1, .box 24 [.int .i64 s.1, .int .i64 s.2.1, .sl (.sl (.int .i64)) s.2.2.1, .sl (.sl (.int .i64)) s.2.2.2]), (2, .box 24 [.int .i64 0, .int .i64 0, .cv (.slice none 0 0), .cv (.slice none 0 0)]), (6, .box 25 [.own 35000]), (7, .box 25 [.own 43]), (9, .box 24 [.int .i64 (b1.length : Int), .int .i64 s.2.1, .own 83, .own 94]), (43, .arr 3 (.int .i64) b1), (83, .arr 25 (.sl (.int .i64)) b4_2.1), (94, .arr 25 (.sl (.int .i64)) b4_2.2), (35000, .arr 3 (.int .i64) v0_2)] ?_
         obtain rfl := Option.some.inj h
         exact ⟨_, rfl, zL [] [] []⟩
       ·refine AW.seq ?_
        refine AW.block ?_
        refine zo ?_
        obtain ⟨c11, h⟩ := ck_some.1 h
        obtain ⟨c12, h⟩ := ck_some.1 h
        refine zB [(1, .bp 1 0), (2, .bp 2 0), (6, .bp 6 0), (7, .bp 7 0), (9, .bp 9 0), (11, .int .i64 (b1.getD st2.2.2.toNat 0)), (49, .own 43), (50, .int .i64 (b1.length : Int)), (51, .int .i64 st2.2.2)] [(1, .box 24 [.int .i64 s.1, .int .i64 s.2.1, .sl (.sl (.int .i64)) s.2.2.1, .sl (.sl (.int .i64)) s.2.2.2]), (2, .box 24 [.int .i64 0, .int .i64 0, .cv (.slice none 0 0), .cv (.slice none 0 0)]), (6, .box 25 [.own 35000]), (7, .box 25 [.own 43]), (9, .box 24 [.int .i64 (b1.length : Int), .int .i64 s.2.1, .own 83, .own 94]), (43, .arr 3 (.int .i64) b1), (83, .arr 25 (.sl (.int .i64)) st2.1), (94, .arr 25 (.sl (.int .i64)) st2.2.1), (35000, .arr 3 (.int .i64) v0_2)] ?_
        refine zo ?_
        obtain ⟨c13, h⟩ := ck_some.1 h
        obtain ⟨c14, h⟩ := ck_some.1 h
        refine zB [(1, .bp 1 0), (2, .bp 2 0), (6, .bp 6 0), (7, .bp 7 0), (9, .bp 9 0), (11, .int .i64 (b1.getD st2.2.2.toNat 0)), (12, .own 57), (49, .own 43), (50, .int .i64 (b1.length : Int)), (51, .int .i64 st2.2.2)] [(1, .box 24 [.int .i64 s.1, .int .i64 s.2.1, .sl (.sl (.int .i64)) s.2.2.1, .sl (.sl (.int .i64)) s.2.2.2]), (2, .box 24 [.int .i64 0, .int .i64 0, .cv (.slice none 0 0), .cv (.slice none 0 0)]), (6, .box 25 [.own 35000]), (7, .box 25 [.own 43]), (9, .box 24 [.int .i64 (b1.length : Int), .int .i64 s.2.1, .own 83, .own 94]), (43, .arr 3 (.int .i64) b1), (57, .arr 3 (.int .i64) (List.replicate s.2.1.toNat (0 : Int))), (83, .arr 25 (.sl (.int .i64)) st2.1), (94, .arr 25 (.sl (.int .i64)) st2.2.1), (35000, .arr 3 (.int .i64) v0_2)] ?_
        refine AW.have1 (fun b4 : (List Int) => spec_Least_k4 s b1 st2 b4 = some x7) (fun b4 => ⟨fr [(1, .bp 1 0), (2, .bp 2 0), (6, .bp 6 0), (7, .bp 7 0), (9, .bp 9 0), (11, .int .i64 (b1.getD st2.2.2.toNat 0)), (12, .own 57), (49, .own 43), (50, .int .i64 (b1.length : Int)), (51, .int .i64 st2.2.2)], hpGet [(1, .box 24 [.int .i64 s.1, .int .i64 s.2.1, .sl (.sl (.int .i64)) s.2.2.1, .sl (.sl (.int .i64)) s.2.2.2]), (2, .box 24 [.int .i64 0, .int .i64 0, .cv (.slice none 0 0), .cv (.slice none 0 0)]), (6, .box 25 [.own 35000]), (7, .box 25 [.own 43]), (9, .box 24 [.int .i64 (b1.length : Int), .int .i64 s.2.1, .own 83, .own 94]), (43, .arr 3 (.int .i64) b1), (57, .arr 3 (.int .i64) b4), (83, .arr 25 (.sl (.int .i64)) st2.1), (94, .arr 25 (.sl (.int .i64)) st2.2.1), (35000, .arr 3 (.int .i64) v0_2)], gt⟩) (fun b4 h => ?_) (fun hk_spec_Least_k4 => ?_)
        ·as_aux_lemma =>
          unfold spec_Least_k4 at h
          refine zo ?_
          obtain ⟨c15, h⟩ := ck_some.1 h
          refine zS 5 [(1, .bp 1 0), (2, .bp 2 0), (6, .bp 6 0), (7, .bp 7 0), (9, .bp 9 0), (11, .int .i64 (b1.getD st2.2.2.toNat 0)), (49, .own 43), (50, .int .i64 (b1.length : Int)), (51, .int .i64 st2.2.2), (83, .own 83)] [(1, .box 24 [.int .i64 s.1, .int .i64 s.2.1, .sl (.sl (.int .i64)) s.2.2.1, .sl (.sl (.int .i64)) s.2.2.2]), (2, .box 24 [.int .i64 0, .int .i64 0, .cv (.slice none 0 0), .cv (.slice none 0 0)]), (6, .box 25 [.own 35000]), (7, .box 25 [.own 43]), (9, .box 24 [.int .i64 (b1.length : Int), .int .i64 s.2.1, .un, .own 94]), (43, .arr 3 (.int .i64) b1), (83, .arr 25 (.sl (.int .i64)) (st2.1 ++ [b4])), (94, .arr 25 (.sl (.int .i64)) st2.2.1), (35000, .arr 3 (.int .i64) v0_2)] ?_
          refine zB [(1, .bp 1 0), (2, .bp 2 0), (6, .bp 6 0), (7, .bp 7 0), (9, .bp 9 0), (11, .int .i64 (b1.getD st2.2.2.toNat 0)), (49, .own 43), (50, .int .i64 (b1.length : Int)), (51, .int .i64 st2.2.2)] [(1, .box 24 [.int .i64 s.1, .int .i64 s.2.1, .sl (.sl (.int .i64)) s.2.2.1, .sl (.sl (.int .i64)) s.2.2.2]), (2, .box 24 [.int .i64 0, .int .i64 0, .cv (.slice none 0 0), .cv (.slice none 0 0)]), (6, .box 25 [.own 35000]), (7, .box 25 [.own 43]), (9, .box 24 [.int .i64 (b1.length : Int), .int .i64 s.2.1, .own 83, .own 94]), (43, .arr 3 (.int .i64) b1), (83, .arr 25 (.sl (.int .i64)) (st2.1 ++ [b4])), (94, .arr 25 (.sl (.int .i64)) st2.2.1), (35000, .arr 3 (.int .i64) v0_2)] ?_
          refine AW.draw tab_ok mixed_ok [(7, [102000]), (8, [93, 102000]), (9, [94]), (11, [9])] [(0, [9, 83, 94]), (1, [9, 83, 94, 1000000083, 1000000094]), (100011, [])] (by decide) (lex_fast (by kernel_rfl)) ?_
          as_aux_lemma =>
           obtain ⟨c17, h⟩ := ck_some.1 h
           obtain ⟨c18, h⟩ := ck_some.1 h
           refine adops_cut 6 (fun K' hK16 => ?_)
           try dsimp only [List.drop_succ_cons, List.drop_zero, List.take_succ_cons, List.take_zero]
           simp only [go_sem, hb2, hb9]
           repeat with_reducible refine zN ?_
           refine hK16 _ ?_
           as_aux_lemma =>
            refine adops_cut 1 (fun K' hK19 => ?_)
            try dsimp only [List.drop_succ_cons, List.drop_zero, List.take_succ_cons, List.take_zero]
            simp only [go_sem, hb2, hb9]
            repeat with_reducible refine zN ?_
            refine hK19 _ ?_
            as_aux_lemma =>
             obtain ⟨v0_6, hv20, h⟩ := Option.bind_eq_some_iff.1 h
             refine adops.call (by first | trivial | rfl) rfl rfl rfl (fun _ h => h) [] [] (hc_slices_Clone (s.2.2.2.getD (b1.getD st2.2.2.toNat 0).toNat []) hv20) rfl (by (simp only [go_sem, hb2, hb9]) <;> (with_reducible and_intros) <;> first | assumption | rfl | omega | (unfold maxLen; omega)) (by (simp only [go_sem, hb2, hb9]) <;> (with_reducible and_intros) <;> first | assumption | rfl | omega | (unfold maxLen; omega)) rfl ?_
             obtain ⟨c22, h⟩ := ck_some.1 h
             refine adops_cut 4 (fun K' hK21 => ?_)
             try dsimp only [List.drop_succ_cons, List.drop_zero, List.take_succ_cons, List.take_zero]
             simp only [go_sem, hb2, hb9]
             repeat with_reducible refine zN ?_
             refine hK21 _ ?_
             refine adops_nil ?_
             refine ablock_n ?_
             refine athen_n ?_
             refine zV [(1, .bp 1 0), (2, .bp 2 0), (6, .bp 6 0), (7, .bp 7 0), (9, .bp 9 0), (49, .own 43), (50, .int .i64 (b1.length : Int)), (51, .int .i64 st2.2.2)] [(1, .box 24 [.int .i64 s.1, .int .i64 s.2.1, .sl (.sl (.int .i64)) s.2.2.1, .sl (.sl (.int .i64)) s.2.2.2]), (2, .box 24 [.int .i64 0, .int .i64 0, .cv (.slice none 0 0), .cv (.slice none 0 0)]), (6, .box 25 [.own 35000]), (7, .box 25 [.own 43]), (9, .box 24 [.int .i64 (b1.length : Int), .int .i64 s.2.1, .own 83, .own 94]), (43, .arr 3 (.int .i64) b1), (83, .arr 25 (.sl (.int .i64)) (st2.1 ++ [b4])), (94, .arr 25 (.sl (.int .i64)) (st2.2.1 ++ [v0_6])), (35000, .arr 3 (.int .i64) v0_2)] gt ?_
             as_aux_lemma =>
              exact AW.weaken (zL [] [] []) (hk_spec_Least_k3 _ h)
        ·refine AW.seq ?_
         refine zo ?_
         obtain ⟨c23, h⟩ := ck_some.1 h
         obtain ⟨c24, h⟩ := ck_some.1 h
         refine zS 5 [(1, .bp 1 0), (2, .bp 2 0), (6, .bp 6 0), (7, .bp 7 0), (9, .bp 9 0), (11, .int .i64 (b1.getD st2.2.2.toNat 0)), (12, .own 57), (49, .own 43), (50, .int .i64 (b1.length : Int)), (51, .int .i64 st2.2.2), (62, .sl (.int .i64) (s.2.2.1.getD (b1.getD st2.2.2.toNat 0).toNat []))] [(1, .box 24 [.int .i64 s.1, .int .i64 s.2.1, .sl (.sl (.int .i64)) s.2.2.1, .sl (.sl (.int .i64)) s.2.2.2]), (2, .box 24 [.int .i64 0, .int .i64 0, .cv (.slice none 0 0), .cv (.slice none 0 0)]), (6, .box 25 [.own 35000]), (7, .box 25 [.own 43]), (9, .box 24 [.int .i64 (b1.length : Int), .int .i64 s.2.1, .own 83, .own 94]), (43, .arr 3 (.int .i64) b1), (57, .arr 3 (.int .i64) (List.replicate s.2.1.toNat (0 : Int))), (83, .arr 25 (.sl (.int .i64)) st2.1), (94, .arr 25 (.sl (.int .i64)) st2.2.1), (35000, .arr 3 (.int .i64) v0_2)] ?_
         refine zB [(1, .bp 1 0), (2, .bp 2 0), (6, .bp 6 0), (7, .bp 7 0), (9, .bp 9 0), (11, .int .i64 (b1.getD st2.2.2.toNat 0)), (12, .own 57), (49, .own 43), (50, .int .i64 (b1.length : Int)), (51, .int .i64 st2.2.2), (62, .sl (.int .i64) (s.2.2.1.getD (b1.getD st2.2.2.toNat 0).toNat [])), (63, .int .i64 ((s.2.2.1.getD (b1.getD st2.2.2.toNat 0).toNat []).length : Int)), (64, .int .i64 0)] [(1, .box 24 [.int .i64 s.1, .int .i64 s.2.1, .sl (.sl (.int .i64)) s.2.2.1, .sl (.sl (.int .i64)) s.2.2.2]), (2, .box 24 [.int .i64 0, .int .i64 0, .cv (.slice none 0 0), .cv (.slice none 0 0)]), (6, .box 25 [.own 35000]), (7, .box 25 [.own 43]), (9, .box 24 [.int .i64 (b1.length : Int), .int .i64 s.2.1, .own 83, .own 94]), (43, .arr 3 (.int .i64) b1), (57, .arr 3 (.int .i64) (List.replicate s.2.1.toNat (0 : Int))), (83, .arr 25 (.sl (.int .i64)) st2.1), (94, .arr 25 (.sl (.int .i64)) st2.2.1), (35000, .arr 3 (.int .i64) v0_2)] ?_
         refine AW.block ?_
         obtain ⟨rv29, hw25, ho26⟩ := Option.bind_eq_some_iff.1 h
         refine AW.loopO (spec_Least_b3 s v0_2 b1 st2) (fun st3 => ⟨fr [(1, .bp 1 0), (2, .bp 2 0), (6, .bp 6 0), (7, .bp 7 0), (9, .bp 9 0), (11, .int .i64 (b1.getD st2.2.2.toNat 0)), (12, .own 57), (49, .own 43), (50, .int .i64 (b1.length : Int)), (51, .int .i64 st2.2.2), (62, .sl (.int .i64) (s.2.2.1.getD (b1.getD st2.2.2.toNat 0).toNat [])), (63, .int .i64 ((s.2.2.1.getD (b1.getD st2.2.2.toNat 0).toNat []).length : Int)), (64, .int .i64 st3.2)], hpGet [(1, .box 24 [.int .i64 s.1, .int .i64 s.2.1, .sl (.sl (.int .i64)) s.2.2.1, .sl (.sl (.int .i64)) s.2.2.2]), (2, .box 24 [.int .i64 0, .int .i64 0, .cv (.slice none 0 0), .cv (.slice none 0 0)]), (6, .box 25 [.own 35000]), (7, .box 25 [.own 43]), (9, .box 24 [.int .i64 (b1.length : Int), .int .i64 s.2.1, .own 83, .own 94]), (43, .arr 3 (.int .i64) b1), (57, .arr 3 (.int .i64) st3.1), (83, .arr 25 (.sl (.int .i64)) st2.1), (94, .arr 25 (.sl (.int .i64)) st2.2.1), (35000, .arr 3 (.int .i64) v0_2)], gt⟩) ((List.replicate s.2.1.toNat (0 : Int)), 0) hw25 (zL [] [] []) ?_
         as_aux_lemma =>
          intro st3 x28 h hd27
          unfold spec_Least_b3 at h
          refine zo ?_
          refine zB [(1, .bp 1 0), (2, .bp 2 0), (6, .bp 6 0), (7, .bp 7 0), (9, .bp 9 0), (11, .int .i64 (b1.getD st2.2.2.toNat 0)), (12, .own 57), (49, .own 43), (50, .int .i64 (b1.length : Int)), (51, .int .i64 st2.2.2), (62, .sl (.int .i64) (s.2.2.1.getD (b1.getD st2.2.2.toNat 0).toNat [])), (63, .int .i64 ((s.2.2.1.getD (b1.getD st2.2.2.toNat 0).toNat []).length : Int)), (64, .int .i64 st3.2), (65, .bool (decide (st3.2 < ((s.2.2.1.getD (b1.getD st2.2.2.toNat 0).toNat []).length : Int))))] [(1, .box 24 [.int .i64 s.1, .int .i64 s.2.1, .sl (.sl (.int .i64)) s.2.2.1, .sl (.sl (.int .i64)) s.2.2.2]), (2, .box 24 [.int .i64 0, .int .i64 0, .cv (.slice none 0 0), .cv (.slice none 0 0)]), (6, .box 25 [.own 35000]), (7, .box 25 [.own 43]), (9, .box 24 [.int .i64 (b1.length : Int), .int .i64 s.2.1, .own 83, .own 94]), (43, .arr 3 (.int .i64) b1), (57, .arr 3 (.int .i64) st3.1), (83, .arr 25 (.sl (.int .i64)) st2.1), (94, .arr 25 (.sl (.int .i64)) st2.2.1), (35000, .arr 3 (.int .i64) v0_2)] ?_
          refine AW.seq ?_
          refine zQ h (fun hb30 h => ?_) (fun hb30 h => ?_)
          ·refine zk ?_
           refine AW.seq ?_
           refine AW.block ?_
           refine zo ?_
           obtain ⟨c31, h⟩ := ck_some.1 h
           obtain ⟨c32, h⟩ := ck_some.1 h
           refine zB [(1, .bp 1 0), (2, .bp 2 0), (6, .bp 6 0), (7, .bp 7 0), (9, .bp 9 0), (11, .int .i64 (b1.getD st2.2.2.toNat 0)), (12, .own 57), (13, .int .i64 st3.2), (14, .int .i64 ((s.2.2.1.getD (b1.getD st2.2.2.toNat 0).toNat []).getD st3.2.toNat 0)), (49, .own 43), (50, .int .i64 (b1.length : Int)), (51, .int .i64 st2.2.2), (62, .sl (.int .i64) (s.2.2.1.getD (b1.getD st2.2.2.toNat 0).toNat [])), (63, .int .i64 ((s.2.2.1.getD (b1.getD st2.2.2.toNat 0).toNat []).length : Int)), (64, .int .i64 st3.2)] [(1, .box 24 [.int .i64 s.1, .int .i64 s.2.1, .sl (.sl (.int .i64)) s.2.2.1, .sl (.sl (.int .i64)) s.2.2.2]), (2, .box 24 [.int .i64 0, .int .i64 0, .cv (.slice none 0 0), .cv (.slice none 0 0)]), (6, .box 25 [.own 35000]), (7, .box 25 [.own 43]), (9, .box 24 [.int .i64 (b1.length : Int), .int .i64 s.2.1, .own 83, .own 94]), (43, .arr 3 (.int .i64) b1), (57, .arr 3 (.int .i64) st3.1), (83, .arr 25 (.sl (.int .i64)) st2.1), (94, .arr 25 (.sl (.int .i64)) st2.2.1), (35000, .arr 3 (.int .i64) v0_2)] ?_
           refine AW.draw tab_ok mixed_ok [(9, [57])] [] (by decide) (lex_fast (by kernel_rfl)) ?_
           as_aux_lemma =>
            obtain ⟨c34, h⟩ := ck_some.1 h
            obtain ⟨c35, h⟩ := ck_some.1 h
            refine adops_cut 6 (fun K' hK33 => ?_)
            try dsimp only [List.drop_succ_cons, List.drop_zero, List.take_succ_cons, List.take_zero]
            simp only [go_sem, hb2, hb9, hb30]
            repeat with_reducible refine zN ?_
            refine hK33 _ ?_
            as_aux_lemma =>
             refine adops_cut 1 (fun K' hK36 => ?_)
             try dsimp only [List.drop_succ_cons, List.drop_zero, List.take_succ_cons, List.take_zero]
             simp only [go_sem, hb2, hb9, hb30]
             repeat with_reducible refine zN ?_
             refine hK36 _ ?_
             as_aux_lemma =>
              obtain ⟨v0_5, hv37, h⟩ := Option.bind_eq_some_iff.1 h
              refine adops.call (by first | trivial | rfl) rfl rfl rfl (fun _ h => h) [43] [] (hc_slices_Index b1 (v0_2.getD ((s.2.2.1.getD (b1.getD st2.2.2.toNat 0).toNat []).getD st3.2.toNat 0).toNat 0) hv37) rfl (by (simp only [go_sem, hb2, hb9, hb30]) <;> (with_reducible and_intros) <;> first | assumption | rfl | omega | (unfold maxLen; omega)) (by (simp only [go_sem, hb2, hb9, hb30]) <;> (with_reducible and_intros) <;> first | assumption | rfl | omega | (unfold maxLen; omega)) rfl ?_
              obtain ⟨c39, h⟩ := ck_some.1 h
              obtain ⟨c40, h⟩ := ck_some.1 h
              refine adops_cut 2 (fun K' hK38 => ?_)
              try dsimp only [List.drop_succ_cons, List.drop_zero, List.take_succ_cons, List.take_zero]
              simp only [go_sem, hb2, hb9, hb30]
              repeat with_reducible refine zN ?_
              refine hK38 _ ?_
              refine adops_nil ?_
              refine ablock_n ?_
              refine athen_n ?_
              refine zV [(1, .bp 1 0), (2, .bp 2 0), (6, .bp 6 0), (7, .bp 7 0), (9, .bp 9 0), (11, .int .i64 (b1.getD st2.2.2.toNat 0)), (12, .own 57), (49, .own 43), (50, .int .i64 (b1.length : Int)), (51, .int .i64 st2.2.2), (62, .sl (.int .i64) (s.2.2.1.getD (b1.getD st2.2.2.toNat 0).toNat [])), (63, .int .i64 ((s.2.2.1.getD (b1.getD st2.2.2.toNat 0).toNat []).length : Int)), (64, .int .i64 st3.2)] [(1, .box 24 [.int .i64 s.1, .int .i64 s.2.1, .sl (.sl (.int .i64)) s.2.2.1, .sl (.sl (.int .i64)) s.2.2.2]), (2, .box 24 [.int .i64 0, .int .i64 0, .cv (.slice none 0 0), .cv (.slice none 0 0)]), (6, .box 25 [.own 35000]), (7, .box 25 [.own 43]), (9, .box 24 [.int .i64 (b1.length : Int), .int .i64 s.2.1, .own 83, .own 94]), (43, .arr 3 (.int .i64) b1), (57, .arr 3 (.int .i64) (st3.1.set st3.2.toNat v0_5)), (83, .arr 25 (.sl (.int .i64)) st2.1), (94, .arr 25 (.sl (.int .i64)) st2.2.1), (35000, .arr 3 (.int .i64) v0_2)] gt ?_
              as_aux_lemma =>
               refine AW.ops ?_
               obtain ⟨c41, h⟩ := ck_some.1 h
               refine zA [(1, .bp 1 0), (2, .bp 2 0), (6, .bp 6 0), (7, .bp 7 0), (9, .bp 9 0), (11, .int .i64 (b1.getD st2.2.2.toNat 0)), (12, .own 57), (49, .own 43), (50, .int .i64 (b1.length : Int)), (51, .int .i64 st2.2.2), (62, .sl (.int .i64) (s.2.2.1.getD (b1.getD st2.2.2.toNat 0).toNat [])), (63, .int .i64 ((s.2.2.1.getD (b1.getD st2.2.2.toNat 0).toNat []).length : Int)), (64, .int .i64 (st3.2 + 1))] [(1, .box 24 [.int .i64 s.1, .int .i64 s.2.1, .sl (.sl (.int .i64)) s.2.2.1, .sl (.sl (.int .i64)) s.2.2.2]), (2, .box 24 [.int .i64 0, .int .i64 0, .cv (.slice none 0 0), .cv (.slice none 0 0)]), (6, .box 25 [.own 35000]), (7, .box 25 [.own 43]), (9, .box 24 [.int .i64 (b1.length : Int), .int .i64 s.2.1, .own 83, .own 94]), (43, .arr 3 (.int .i64) b1), (57, .arr 3 (.int .i64) (st3.1.set st3.2.toNat v0_5)), (83, .arr 25 (.sl (.int .i64)) st2.1), (94, .arr 25 (.sl (.int .i64)) st2.2.1), (35000, .arr 3 (.int .i64) v0_2)] ?_
               obtain rfl := Option.some.inj h
               exact ⟨_, rfl, zL [] [] []⟩
          ·refine AW.exit ?_
           refine athen_e ?_
           obtain rfl := Option.some.inj h
           rw [← hd27 _ rfl] at ho26
           have h := ho26
           refine athen_e ?_
           refine ablock_s ?_
           refine athen_n ?_
           exact AW.weaken (zL [] [] []) (hk_spec_Least_k4 _ h)
      ·refine AW.exit ?_
       refine athen_e ?_
       obtain rfl := Option.some.inj h
       rw [← hd6 _ rfl] at ho5
       have h := ho5
       refine athen_e ?_
       refine ablock_s ?_
       refine athen_n ?_
       exact AW.weaken (zL [] [] []) (hk_spec_Least_k2 _ h)
  ·refine AW.seq ?_
   refine zo ?_
   refine zS 1 [(1, .bp 1 0), (2, .bp 2 0), (6, .bp 6 0), (7, .bp 7 0), (26, .agg [.int .i64 v0.1, .int .i64 v0.2.1, .sl (.sl (.int .i64)) v0.2.2.1, .sl (.sl (.int .i64)) v0.2.2.2.1])] [(1, .box 24 [.int .i64 s.1, .int .i64 s.2.1, .sl (.sl (.int .i64)) s.2.2.1, .sl (.sl (.int .i64)) s.2.2.2]), (2, .box 24 [.int .i64 0, .int .i64 0, .cv (.slice none 0 0), .cv (.slice none 0 0)]), (6, .box 25 [.own 35000]), (7, .box 25 [.cv (.slice none 0 0)]), (35000, .arr 3 (.int .i64) v0_2)] ?_
   obtain ⟨v0_3, hv42, h⟩ := Option.bind_eq_some_iff.1 h
   refine zC [] [] (hc_spec_machine_ways (v0.1, v0.2.1, v0.2.2.1, v0.2.2.2.1) hv42) [(1, .bp 1 0), (2, .bp 2 0), (6, .bp 6 0), (7, .bp 7 0), (27, .fn (.func 98) [] [.bp 37000 0])] [(1, .box 24 [.int .i64 s.1, .int .i64 s.2.1, .sl (.sl (.int .i64)) s.2.2.1, .sl (.sl (.int .i64)) s.2.2.2]), (2, .box 24 [.int .i64 0, .int .i64 0, .cv (.slice none 0 0), .cv (.slice none 0 0)]), (6, .box 25 [.own 35000]), (7, .box 25 [.cv (.slice none 0 0)]), (35000, .arr 3 (.int .i64) v0_2), (37000, .box 60 [.int .i64 v0.1, .int .i64 v0.2.1, .sl (.sl (.int .i64)) v0.2.2.1, .sl (.sl (.int .i64)) v0.2.2.2.1])] ?_
   refine zB [(1, .bp 1 0), (2, .bp 2 0), (6, .bp 6 0), (7, .bp 7 0), (27, .fn (.func 98) [] [.bp 37000 0])] [(1, .box 24 [.int .i64 s.1, .int .i64 s.2.1, .sl (.sl (.int .i64)) s.2.2.1, .sl (.sl (.int .i64)) s.2.2.2]), (2, .box 24 [.int .i64 0, .int .i64 0, .cv (.slice none 0 0), .cv (.slice none 0 0)]), (6, .box 25 [.own 35000]), (7, .box 25 [.cv (.slice none 0 0)]), (35000, .arr 3 (.int .i64) v0_2), (37000, .box 60 [.int .i64 v0.1, .int .i64 v0.2.1, .sl (.sl (.int .i64)) v0.2.2.1, .sl (.sl (.int .i64)) v0.2.2.2.1])] ?_
   refine AW.block ?_
   obtain ⟨x43, hx44, h⟩ := Option.bind_eq_some_iff.1 h
   refine AW.weaken (s' := ⟨fr [(1, .bp 1 0), (2, .bp 2 0), (6, .bp 6 0), (7, .bp 7 0), (27, .fn (.func 98) [] [.bp 37000 0])], hpGet ([(37000, .box 60 [.int .i64 v0.1, .int .i64 v0.2.1, .sl (.sl (.int .i64)) v0.2.2.1, .sl (.sl (.int .i64)) v0.2.2.2.1])] ++ [(1, .box 24 [.int .i64 s.1, .int .i64 s.2.1, .sl (.sl (.int .i64)) s.2.2.1, .sl (.sl (.int .i64)) s.2.2.2]), (2, .box 24 [.int .i64 0, .int .i64 0, .cv (.slice none 0 0), .cv (.slice none 0 0)]), (6, .box 25 [.own 35000]), (7, .box 25 [.own 43]), (43, .arr 3 (.int .i64) []), (35000, .arr 3 (.int .i64) v0_2)]), gt⟩) (zL [] [43] []) ?_
   refine AW.rangeF (R := Empty) (l0 := [(1, .bp 1 0), (2, .bp 2 0), (6, .bp 6 0), (7, .bp 7 0)]) (hI := [(37000, .box 60 [.int .i64 v0.1, .int .i64 v0.2.1, .sl (.sl (.int .i64)) v0.2.2.1, .sl (.sl (.int .i64)) v0.2.2.2.1])]) (h0 := fun (st1 : (List Int)) => [(1, .box 24 [.int .i64 s.1, .int .i64 s.2.1, .sl (.sl (.int .i64)) s.2.2.1, .sl (.sl (.int .i64)) s.2.2.2]), (2, .box 24 [.int .i64 0, .int .i64 0, .cv (.slice none 0 0), .cv (.slice none 0 0)]), (6, .box 25 [.own 35000]), (7, .box 25 [.own 43]), (43, .arr 3 (.int .i64) st1), (35000, .arr 3 (.int .i64) v0_2)]) (gg := fun (st1 : (List Int)) => gt) (hx0 := (fun (r : Empty) => r.elim)) (gx := (fun (r : Empty) => r.elim)) (ex := (fun (r : Empty) => r.elim)) [] [(37000, 1000)] [(1000, 37000)] [(1, 1900), (2, 1901), (6, 1902), (7, 1903)] [(1900, 1), (1901, 2), (1902, 6), (1903, 7)] (by decide) rfl (by first | exact (ic_spec_machine_ways_1 (v0.1, v0.2.1, v0.2.2.1, v0.2.2.2.1) (spec_Least_y1 v0_2) [] hx44) | simpa only [go_sem] using (ic_spec_machine_ways_1 (v0.1, v0.2.1, v0.2.2.1, v0.2.2.2.1) (spec_Least_y1 v0_2) [] hx44)) (by (simp only [go_sem, hb2]) <;> (with_reducible and_intros) <;> first | assumption | rfl | omega | (unfold maxLen; omega)) rfl rfl rfl (fun _ => rfl) rfl (fun r => r.elim) rfl (fun r => r.elim) (fun r => r.elim) (fun _ => rfl) (fun _ => rfl) rfl (fun _ _ => by first | rfl | (exact (hΓ _).trans (hΓ _).symm) | (exact (hΓx _).trans (hΓ _).symm)) (fun _ r => r.elim) ?_ ?_
   ·intro lpy1 y1 st1 x45 h
    unfold spec_Least_y1 at h
    refine zV [(1, .bp 1900 0), (2, .bp 1901 0), (6, .bp 1902 0), (7, .bp 1903 0), (28, .int .i64 y1.1), (29, .sl (.int .i64) y1.2)] [(43, .arr 3 (.int .i64) st1), (1900, .box 24 [.int .i64 s.1, .int .i64 s.2.1, .sl (.sl (.int .i64)) s.2.2.1, .sl (.sl (.int .i64)) s.2.2.2]), (1901, .box 24 [.int .i64 0, .int .i64 0, .cv (.slice none 0 0), .cv (.slice none 0 0)]), (1902, .box 25 [.own 35000]), (1903, .box 25 [.own 43]), (35000, .arr 3 (.int .i64) v0_2)] gt ?_
    refine AW.ops ?_
    refine zA [(1, .bp 1900 0), (2, .bp 1901 0), (6, .bp 1902 0), (7, .bp 1903 0), (8, .int .i64 y1.1)] [(43, .arr 3 (.int .i64) st1), (1900, .box 24 [.int .i64 s.1, .int .i64 s.2.1, .sl (.sl (.int .i64)) s.2.2.1, .sl (.sl (.int .i64)) s.2.2.2]), (1901, .box 24 [.int .i64 0, .int .i64 0, .cv (.slice none 0 0), .cv (.slice none 0 0)]), (1902, .box 25 [.own 35000]), (1903, .box 25 [.own 43]), (35000, .arr 3 (.int .i64) v0_2)] ?_
    refine And.intro rfl ?_
    refine AW.block ?_
    refine AW.seq ?_
    refine AW.draw tab_ok mixed_ok [] [] (by decide) (by kernel_rfl) ?_
    as_aux_lemma =>
     obtain ⟨c47, h⟩ := ck_some.1 h
     obtain ⟨c48, h⟩ := ck_some.1 h
     refine adops_cut 5 (fun K' hK46 => ?_)
     try dsimp only [List.drop_succ_cons, List.drop_zero, List.take_succ_cons, List.take_zero]
     simp only [go_sem, hb2]
     repeat with_reducible refine zN ?_
     refine hK46 _ ?_
     as_aux_lemma =>
      obtain ⟨v0_4, hv49, h⟩ := Option.bind_eq_some_iff.1 h
      refine adops.call (by first | trivial | rfl) rfl rfl rfl (fun _ h => h) [43] [] (hc_slices_Contains st1 (v0_2.getD y1.1.toNat 0) hv49) rfl (by (simp only [go_sem, hb2]) <;> (with_reducible and_intros) <;> first | assumption | rfl | omega | (unfold maxLen; omega)) (by (simp only [go_sem, hb2]) <;> (with_reducible and_intros) <;> first | assumption | rfl | omega | (unfold maxLen; omega)) rfl ?_
      refine adops_cut 1 (fun K' hK50 => ?_)
      try dsimp only [List.drop_succ_cons, List.drop_zero, List.take_succ_cons, List.take_zero]
      simp only [go_sem, hb2]
      repeat with_reducible refine zN ?_
      refine hK50 _ ?_
      refine adops_nil ?_
      refine athen_n ?_
      refine zV [(1, .bp 1900 0), (2, .bp 1901 0), (6, .bp 1902 0), (7, .bp 1903 0), (8, .int .i64 y1.1), (36, .bool (!v0_4))] [(43, .arr 3 (.int .i64) st1), (1900, .box 24 [.int .i64 s.1, .int .i64 s.2.1, .sl (.sl (.int .i64)) s.2.2.1, .sl (.sl (.int .i64)) s.2.2.2]), (1901, .box 24 [.int .i64 0, .int .i64 0, .cv (.slice none 0 0), .cv (.slice none 0 0)]), (1902, .box 25 [.own 35000]), (1903, .box 25 [.own 43]), (35000, .arr 3 (.int .i64) v0_2)] gt ?_
      as_aux_lemma =>
       refine zQ h (fun hb51 h => ?_) (fun hb51 h => ?_)
       ·refine AW.draw tab_ok mixed_ok [(5, [42]), (6, [43]), (7, [1903])] [(0, [43, 1903, 1000000043]), (100007, [])] (by decide) (by kernel_rfl) ?_
        as_aux_lemma =>
         obtain ⟨c53, h⟩ := ck_some.1 h
         obtain ⟨c54, h⟩ := ck_some.1 h
         refine adops_cut 6 (fun K' hK52 => ?_)
         try dsimp only [List.drop_succ_cons, List.drop_zero, List.take_succ_cons, List.take_zero]
         simp only [go_sem, hb2, hb51]
         repeat with_reducible refine zN ?_
         refine hK52 _ ?_
         as_aux_lemma =>
          obtain ⟨c56, h⟩ := ck_some.1 h
          refine adops_cut 2 (fun K' hK55 => ?_)
          try dsimp only [List.drop_succ_cons, List.drop_zero, List.take_succ_cons, List.take_zero]
          simp only [go_sem, hb2, hb51]
          repeat with_reducible refine zN ?_
          refine hK55 _ ?_
          refine adops_nil ?_
          refine ablock_n ?_
          obtain rfl := Option.some.inj h
          exact rpost_next rfl [] [] [] rfl (by (simp only [go_sem, hb2, hb51]) <;> (with_reducible and_intros) <;> first | assumption | rfl | omega | (unfold maxLen; omega))
       ·refine zm ?_
        obtain rfl := Option.some.inj h
        exact rpost_next rfl [] [] [] rfl (by (simp only [go_sem, hb2, hb51]) <;> (with_reducible and_intros) <;> first | assumption | rfl | omega | (unfold maxLen; omega))
   ·cases x43 with
    | inl st1_2 =>
     try simp only at h
     refine ablock_n ?_
     refine athen_n ?_
     exact AW.weaken (zL [] [] []) (hk_spec_Least_k1 _ h)
    | inr rx =>
     exact rx.elim

end Go.Proofs.Ytcgflignbhmoaaa
