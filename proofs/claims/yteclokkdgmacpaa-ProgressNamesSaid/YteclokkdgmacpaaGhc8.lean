/-
  Made by wip/tool/dc.py out of the print of the program: contracts.
-/
import Derived.Test.YteclokkdgmacpaaGrp
import Derived.Test.YteclokkdgmacpaaSh7
import Derived.Test.YteclokkdgmacpaaGhc1
import Derived.Test.YteclokkdgmacpaaGhc2
import Derived.Test.YteclokkdgmacpaaGhc4
import Derived.Test.YteclokkdgmacpaaGhc5
import Derived.Test.YteclokkdgmacpaaGhc6
import Derived.Test.YteclokkdgmacpaaGhc7
namespace Go.Proofs.Yteclokkdgmacpaa
open Go.RowKit

set_option linter.unusedSimpArgs false
set_option linter.unusedVariables false
set_option linter.constructorNameAsVariable false

set_option maxRecDepth 100000
set_option maxHeartbeats 2000000

theorem hc_progress_Renamed (g : Int × (List (Int × Int × Int × Bool))) (a : Int) (b : Int) {r : Int × (List (Int × Int × Int × Bool)) × Int} (h : progress_Renamed g a b = some r) : HC Try.prog 47 [] [.agg [.int .i64 g.1, .sl (.pair (.int .i64) (.pair (.int .i64) (.pair (.int .i64) .bool))) g.2], .int .i64 a, .int .i64 b] [(2000, .arr 61 (.pair (.int .i64) (.pair (.int .i64) (.pair (.int .i64) .bool))) r.2.1)] (.tup [.agg [.int .i64 r.1, .own 2000], .int .i64 r.2.2]) := by
 unfold progress_Renamed at h
 refine zH Try.func47 [.cell 6 24, .tmp 7] 57 ?_
 refine zo ?_
 refine zB [(1, .int .i64 a), (2, .int .i64 b), (3, .bp 3 0), (6, .bp 6 0)] [(3, .box 24 [.int .i64 g.1, .sl (.pair (.int .i64) (.pair (.int .i64) (.pair (.int .i64) .bool))) g.2]), (6, .box 24 [.int .i64 0, .cv (.slice none 0 0)])] ?_
 refine AW.seq ?_
 refine zo ?_
 refine zS 1 [(1, .int .i64 a), (2, .int .i64 b), (3, .bp 3 0), (6, .bp 6 0), (11, .agg [.int .i64 g.1, .sl (.pair (.int .i64) (.pair (.int .i64) (.pair (.int .i64) .bool))) g.2])] [(3, .box 24 [.int .i64 g.1, .sl (.pair (.int .i64) (.pair (.int .i64) (.pair (.int .i64) .bool))) g.2]), (6, .box 24 [.int .i64 0, .cv (.slice none 0 0)])] ?_
 obtain ⟨v0, hv1, h⟩ := Option.bind_eq_some_iff.1 h
 refine zC [] [] (hc_progress_Valid g hv1) [(1, .int .i64 a), (2, .int .i64 b), (3, .bp 3 0), (6, .bp 6 0), (12, .bool v0)] [(3, .box 24 [.int .i64 g.1, .sl (.pair (.int .i64) (.pair (.int .i64) (.pair (.int .i64) .bool))) g.2]), (6, .box 24 [.int .i64 0, .cv (.slice none 0 0)])] ?_
 refine zB [(1, .int .i64 a), (2, .int .i64 b), (3, .bp 3 0), (6, .bp 6 0), (13, .bool (!v0))] [(3, .box 24 [.int .i64 g.1, .sl (.pair (.int .i64) (.pair (.int .i64) (.pair (.int .i64) .bool))) g.2]), (6, .box 24 [.int .i64 0, .cv (.slice none 0 0)])] ?_
 refine zQ h (fun hb2 h => ?_) (fun hb2 h => ?_)
 ·refine zo ?_
  refine zB [(6, .bp 6 0), (7, .int .i64 70)] [(6, .box 24 [.int .i64 0, .cv (.slice none 0 0)])] ?_
  refine zr ?_
  obtain rfl := Option.some.inj h
  exact zR [] [2000] []
 ·refine zk ?_
  refine AW.seq ?_
  refine zo ?_
  refine zS 1 [(1, .int .i64 a), (2, .int .i64 b), (3, .bp 3 0), (6, .bp 6 0), (15, .int .i64 a)] [(3, .box 24 [.int .i64 g.1, .sl (.pair (.int .i64) (.pair (.int .i64) (.pair (.int .i64) .bool))) g.2]), (6, .box 24 [.int .i64 0, .cv (.slice none 0 0)])] ?_
  obtain ⟨v0_2, hv3, h⟩ := Option.bind_eq_some_iff.1 h
  refine zC [] [] (hc_progress_isThread a hv3) [(1, .int .i64 a), (2, .int .i64 b), (3, .bp 3 0), (6, .bp 6 0), (16, .bool v0_2)] [(3, .box 24 [.int .i64 g.1, .sl (.pair (.int .i64) (.pair (.int .i64) (.pair (.int .i64) .bool))) g.2]), (6, .box 24 [.int .i64 0, .cv (.slice none 0 0)])] ?_
  refine zS 2 [(1, .int .i64 a), (2, .int .i64 b), (3, .bp 3 0), (6, .bp 6 0), (18, .bool (!v0_2))] [(3, .box 24 [.int .i64 g.1, .sl (.pair (.int .i64) (.pair (.int .i64) (.pair (.int .i64) .bool))) g.2]), (6, .box 24 [.int .i64 0, .cv (.slice none 0 0)])] ?_
  rcases zI h with ⟨hb4, h⟩ | ⟨hb4, h⟩
  ·refine zB [(1, .int .i64 a), (2, .int .i64 b), (3, .bp 3 0), (6, .bp 6 0), (22, .bool true)] [(3, .box 24 [.int .i64 g.1, .sl (.pair (.int .i64) (.pair (.int .i64) (.pair (.int .i64) .bool))) g.2]), (6, .box 24 [.int .i64 0, .cv (.slice none 0 0)])] ?_
   refine AW.cond (b := true) rfl (fun _ => ?_) (fun hb5 => by cases hb5)
   refine zo ?_
   refine zB [(6, .bp 6 0), (7, .int .i64 2)] [(6, .box 24 [.int .i64 0, .cv (.slice none 0 0)])] ?_
   refine zr ?_
   obtain rfl := Option.some.inj h
   exact zR [] [2000] []
  ·refine zS 1 [(1, .int .i64 a), (2, .int .i64 b), (3, .bp 3 0), (6, .bp 6 0), (18, .bool false), (19, .int .i64 b)] [(3, .box 24 [.int .i64 g.1, .sl (.pair (.int .i64) (.pair (.int .i64) (.pair (.int .i64) .bool))) g.2]), (6, .box 24 [.int .i64 0, .cv (.slice none 0 0)])] ?_
   obtain ⟨v0_3, hv6, h⟩ := Option.bind_eq_some_iff.1 h
   refine zG [] [] (hc_progress_isThread b hv6) [(1, .int .i64 a), (2, .int .i64 b), (3, .bp 3 0), (6, .bp 6 0), (18, .bool false), (20, .bool v0_3)] [(3, .box 24 [.int .i64 g.1, .sl (.pair (.int .i64) (.pair (.int .i64) (.pair (.int .i64) .bool))) g.2]), (6, .box 24 [.int .i64 0, .cv (.slice none 0 0)])] ?_
   refine zB [(1, .int .i64 a), (2, .int .i64 b), (3, .bp 3 0), (6, .bp 6 0), (22, .bool (!v0_3))] [(3, .box 24 [.int .i64 g.1, .sl (.pair (.int .i64) (.pair (.int .i64) (.pair (.int .i64) .bool))) g.2]), (6, .box 24 [.int .i64 0, .cv (.slice none 0 0)])] ?_
   refine zQ h (fun hb7 h => ?_) (fun hb7 h => ?_)
   ·refine zo ?_
    refine zB [(6, .bp 6 0), (7, .int .i64 2)] [(6, .box 24 [.int .i64 0, .cv (.slice none 0 0)])] ?_
    refine zr ?_
    obtain rfl := Option.some.inj h
    exact zR [] [2000] []
   ·refine zk ?_
    refine zo ?_
    refine zS 2 [(1, .int .i64 a), (2, .int .i64 b), (3, .bp 3 0), (6, .bp 6 0), (25, .sl (.pair (.int .i64) (.pair (.int .i64) (.pair (.int .i64) .bool))) g.2)] [(3, .box 24 [.int .i64 g.1, .sl (.pair (.int .i64) (.pair (.int .i64) (.pair (.int .i64) .bool))) g.2]), (6, .box 24 [.int .i64 0, .cv (.slice none 0 0)])] ?_
    obtain ⟨v0_4, hv8, h⟩ := Option.bind_eq_some_iff.1 h
    refine zC [] [] (hc_slices_Clone g.2 hv8) [(1, .int .i64 a), (2, .int .i64 b), (3, .bp 3 0), (6, .bp 6 0), (26, .own 36000)] [(3, .box 24 [.int .i64 g.1, .sl (.pair (.int .i64) (.pair (.int .i64) (.pair (.int .i64) .bool))) g.2]), (6, .box 24 [.int .i64 0, .cv (.slice none 0 0)]), (36000, .arr 61 (.pair (.int .i64) (.pair (.int .i64) (.pair (.int .i64) .bool))) v0_4)] ?_
    refine zB [(1, .int .i64 a), (2, .int .i64 b), (3, .bp 3 0), (6, .bp 6 0), (8, .own 36000)] [(3, .box 24 [.int .i64 g.1, .sl (.pair (.int .i64) (.pair (.int .i64) (.pair (.int .i64) .bool))) g.2]), (6, .box 24 [.int .i64 0, .cv (.slice none 0 0)]), (36000, .arr 61 (.pair (.int .i64) (.pair (.int .i64) (.pair (.int .i64) .bool))) v0_4)] ?_
    refine AW.have1 (fun b1 : (List (Int × Int × Int × Bool)) => progress_Renamed_k1 g b1 = some r) (fun b1 => ⟨fr [(3, .bp 3 0), (6, .bp 6 0), (8, .own 36000)], hpGet [(3, .box 24 [.int .i64 g.1, .sl (.pair (.int .i64) (.pair (.int .i64) (.pair (.int .i64) .bool))) g.2]), (6, .box 24 [.int .i64 0, .cv (.slice none 0 0)]), (36000, .arr 61 (.pair (.int .i64) (.pair (.int .i64) (.pair (.int .i64) .bool))) b1)], gt⟩) (fun b1 h => ?_) (fun hk_progress_Renamed_k1 => ?_)
    ·as_aux_lemma =>
      unfold progress_Renamed_k1 at h
      refine zo ?_
      refine zS 5 [(6, .bp 6 0)] [(6, .box 24 [.int .i64 g.1, .own 36000]), (36000, .arr 61 (.pair (.int .i64) (.pair (.int .i64) (.pair (.int .i64) .bool))) b1)] ?_
      refine zB [(6, .bp 6 0), (7, .int .i64 0)] [(6, .box 24 [.int .i64 g.1, .own 36000]), (36000, .arr 61 (.pair (.int .i64) (.pair (.int .i64) (.pair (.int .i64) .bool))) b1)] ?_
      refine AW.ret ?_
      obtain rfl := Option.some.inj h
      exact zR [] [] [(2000, 36000)]
    ·refine AW.seq ?_
     refine zo ?_
     refine zB [(1, .int .i64 a), (2, .int .i64 b), (3, .bp 3 0), (6, .bp 6 0), (8, .own 36000), (27, .own 36000), (28, .int .i64 (v0_4.length : Int)), (29, .int .i64 0)] [(3, .box 24 [.int .i64 g.1, .sl (.pair (.int .i64) (.pair (.int .i64) (.pair (.int .i64) .bool))) g.2]), (6, .box 24 [.int .i64 0, .cv (.slice none 0 0)]), (36000, .arr 61 (.pair (.int .i64) (.pair (.int .i64) (.pair (.int .i64) .bool))) v0_4)] ?_
     refine AW.block ?_
     obtain ⟨rv13, hw9, ho10⟩ := Option.bind_eq_some_iff.1 h
     refine AW.loopO (progress_Renamed_b1 a b v0_4) (fun st1 => ⟨fr [(1, .int .i64 a), (2, .int .i64 b), (3, .bp 3 0), (6, .bp 6 0), (8, .own 36000), (27, .own 36000), (28, .int .i64 (v0_4.length : Int)), (29, .int .i64 st1.2)], hpGet [(3, .box 24 [.int .i64 g.1, .sl (.pair (.int .i64) (.pair (.int .i64) (.pair (.int .i64) .bool))) g.2]), (6, .box 24 [.int .i64 0, .cv (.slice none 0 0)]), (36000, .arr 61 (.pair (.int .i64) (.pair (.int .i64) (.pair (.int .i64) .bool))) st1.1)], gt⟩) (v0_4, 0) hw9 (zL [] [] []) ?_
     as_aux_lemma =>
      intro st1 x12 h hd11
      unfold progress_Renamed_b1 at h
      refine zo ?_
      refine zB [(1, .int .i64 a), (2, .int .i64 b), (3, .bp 3 0), (6, .bp 6 0), (8, .own 36000), (27, .own 36000), (28, .int .i64 (v0_4.length : Int)), (29, .int .i64 st1.2), (30, .bool (decide (st1.2 < (v0_4.length : Int))))] [(3, .box 24 [.int .i64 g.1, .sl (.pair (.int .i64) (.pair (.int .i64) (.pair (.int .i64) .bool))) g.2]), (6, .box 24 [.int .i64 0, .cv (.slice none 0 0)]), (36000, .arr 61 (.pair (.int .i64) (.pair (.int .i64) (.pair (.int .i64) .bool))) st1.1)] ?_
      refine AW.seq ?_
      refine zQ h (fun hb14 h => ?_) (fun hb14 h => ?_)
      ·refine zk ?_
       refine AW.seq ?_
       refine AW.block ?_
       refine zo ?_
       obtain ⟨c15, h⟩ := ck_some.1 h
       obtain ⟨c16, h⟩ := ck_some.1 h
       refine zS 5 [(1, .int .i64 a), (2, .int .i64 b), (3, .bp 3 0), (6, .bp 6 0), (8, .own 36000), (9, .int .i64 st1.2), (10, .bp 10 0), (27, .own 36000), (28, .int .i64 (v0_4.length : Int)), (29, .int .i64 st1.2), (33, .agg [.int .i64 (st1.1.getD st1.2.toNat (0, 0, 0, false)).1, .int .i64 (st1.1.getD st1.2.toNat (0, 0, 0, false)).2.1, .int .i64 (st1.1.getD st1.2.toNat (0, 0, 0, false)).2.2.1, .bool (st1.1.getD st1.2.toNat (0, 0, 0, false)).2.2.2])] [(3, .box 24 [.int .i64 g.1, .sl (.pair (.int .i64) (.pair (.int .i64) (.pair (.int .i64) .bool))) g.2]), (6, .box 24 [.int .i64 0, .cv (.slice none 0 0)]), (10, .box 61 [.int .i64 0, .int .i64 0, .int .i64 0, .bool false]), (36000, .arr 61 (.pair (.int .i64) (.pair (.int .i64) (.pair (.int .i64) .bool))) st1.1)] ?_
       refine zB [(1, .int .i64 a), (2, .int .i64 b), (3, .bp 3 0), (6, .bp 6 0), (8, .own 36000), (9, .int .i64 st1.2), (10, .bp 10 0), (27, .own 36000), (28, .int .i64 (v0_4.length : Int)), (29, .int .i64 st1.2)] [(3, .box 24 [.int .i64 g.1, .sl (.pair (.int .i64) (.pair (.int .i64) (.pair (.int .i64) .bool))) g.2]), (6, .box 24 [.int .i64 0, .cv (.slice none 0 0)]), (10, .box 61 [.int .i64 (st1.1.getD st1.2.toNat (0, 0, 0, false)).1, .int .i64 (st1.1.getD st1.2.toNat (0, 0, 0, false)).2.1, .int .i64 (st1.1.getD st1.2.toNat (0, 0, 0, false)).2.2.1, .bool (st1.1.getD st1.2.toNat (0, 0, 0, false)).2.2.2]), (36000, .arr 61 (.pair (.int .i64) (.pair (.int .i64) (.pair (.int .i64) .bool))) st1.1)] ?_
       refine zo ?_
       refine zB [(1, .int .i64 a), (2, .int .i64 b), (3, .bp 3 0), (6, .bp 6 0), (8, .own 36000), (9, .int .i64 st1.2), (27, .own 36000), (28, .int .i64 (v0_4.length : Int)), (29, .int .i64 st1.2), (35, .int .i64 (st1.1.getD st1.2.toNat (0, 0, 0, false)).2.1)] [(3, .box 24 [.int .i64 g.1, .sl (.pair (.int .i64) (.pair (.int .i64) (.pair (.int .i64) .bool))) g.2]), (6, .box 24 [.int .i64 0, .cv (.slice none 0 0)]), (36000, .arr 61 (.pair (.int .i64) (.pair (.int .i64) (.pair (.int .i64) .bool))) st1.1)] ?_
       refine AW.block ?_
       refine zo ?_
       refine zB [(1, .int .i64 a), (2, .int .i64 b), (3, .bp 3 0), (6, .bp 6 0), (8, .own 36000), (9, .int .i64 st1.2), (27, .own 36000), (28, .int .i64 (v0_4.length : Int)), (29, .int .i64 st1.2), (35, .int .i64 (st1.1.getD st1.2.toNat (0, 0, 0, false)).2.1), (36, .bool (decide ((st1.1.getD st1.2.toNat (0, 0, 0, false)).2.1 = a)))] [(3, .box 24 [.int .i64 g.1, .sl (.pair (.int .i64) (.pair (.int .i64) (.pair (.int .i64) .bool))) g.2]), (6, .box 24 [.int .i64 0, .cv (.slice none 0 0)]), (36000, .arr 61 (.pair (.int .i64) (.pair (.int .i64) (.pair (.int .i64) .bool))) st1.1)] ?_
       refine zQ h (fun hb17 h => ?_) (fun hb17 h => ?_)
       ·refine AW.ops ?_
        obtain ⟨c18, h⟩ := ck_some.1 h
        obtain ⟨c19, h⟩ := ck_some.1 h
        refine zS 5 [(1, .int .i64 a), (2, .int .i64 b), (3, .bp 3 0), (6, .bp 6 0), (8, .own 36000), (27, .own 36000), (28, .int .i64 (v0_4.length : Int)), (29, .int .i64 st1.2), (41, .int .i64 b), (43, .ap 36000 4 st1.2.toNat 1)] [(3, .box 24 [.int .i64 g.1, .sl (.pair (.int .i64) (.pair (.int .i64) (.pair (.int .i64) .bool))) g.2]), (6, .box 24 [.int .i64 0, .cv (.slice none 0 0)]), (36000, .arr 61 (.pair (.int .i64) (.pair (.int .i64) (.pair (.int .i64) .bool))) st1.1)] ?_
        refine zA [(1, .int .i64 a), (2, .int .i64 b), (3, .bp 3 0), (6, .bp 6 0), (8, .own 36000), (27, .own 36000), (28, .int .i64 (v0_4.length : Int)), (29, .int .i64 st1.2)] [(3, .box 24 [.int .i64 g.1, .sl (.pair (.int .i64) (.pair (.int .i64) (.pair (.int .i64) .bool))) g.2]), (6, .box 24 [.int .i64 0, .cv (.slice none 0 0)]), (36000, .arr 61 (.pair (.int .i64) (.pair (.int .i64) (.pair (.int .i64) .bool))) (st1.1.set st1.2.toNat ((st1.1.getD st1.2.toNat (0, 0, 0, false)).1, b, (st1.1.getD st1.2.toNat (0, 0, 0, false)).2.2)))] ?_
        refine ablock_n ?_
        refine ablock_n ?_
        refine athen_n ?_
        refine AW.ops ?_
        obtain ⟨c20, h⟩ := ck_some.1 h
        refine zA [(1, .int .i64 a), (2, .int .i64 b), (3, .bp 3 0), (6, .bp 6 0), (8, .own 36000), (27, .own 36000), (28, .int .i64 (v0_4.length : Int)), (29, .int .i64 (st1.2 + 1))] [(3, .box 24 [.int .i64 g.1, .sl (.pair (.int .i64) (.pair (.int .i64) (.pair (.int .i64) .bool))) g.2]), (6, .box 24 [.int .i64 0, .cv (.slice none 0 0)]), (36000, .arr 61 (.pair (.int .i64) (.pair (.int .i64) (.pair (.int .i64) .bool))) (st1.1.set st1.2.toNat ((st1.1.getD st1.2.toNat (0, 0, 0, false)).1, b, (st1.1.getD st1.2.toNat (0, 0, 0, false)).2.2)))] ?_
        obtain rfl := Option.some.inj h
        exact ⟨_, rfl, zL [] [] []⟩
       ·refine zo ?_
        refine zB [(1, .int .i64 a), (2, .int .i64 b), (3, .bp 3 0), (6, .bp 6 0), (8, .own 36000), (9, .int .i64 st1.2), (27, .own 36000), (28, .int .i64 (v0_4.length : Int)), (29, .int .i64 st1.2), (44, .bool (decide ((st1.1.getD st1.2.toNat (0, 0, 0, false)).2.1 = b)))] [(3, .box 24 [.int .i64 g.1, .sl (.pair (.int .i64) (.pair (.int .i64) (.pair (.int .i64) .bool))) g.2]), (6, .box 24 [.int .i64 0, .cv (.slice none 0 0)]), (36000, .arr 61 (.pair (.int .i64) (.pair (.int .i64) (.pair (.int .i64) .bool))) st1.1)] ?_
        refine zQ h (fun hb21 h => ?_) (fun hb21 h => ?_)
        ·refine AW.ops ?_
         obtain ⟨c22, h⟩ := ck_some.1 h
         obtain ⟨c23, h⟩ := ck_some.1 h
         refine zS 5 [(1, .int .i64 a), (2, .int .i64 b), (3, .bp 3 0), (6, .bp 6 0), (8, .own 36000), (27, .own 36000), (28, .int .i64 (v0_4.length : Int)), (29, .int .i64 st1.2), (49, .int .i64 a), (51, .ap 36000 4 st1.2.toNat 1)] [(3, .box 24 [.int .i64 g.1, .sl (.pair (.int .i64) (.pair (.int .i64) (.pair (.int .i64) .bool))) g.2]), (6, .box 24 [.int .i64 0, .cv (.slice none 0 0)]), (36000, .arr 61 (.pair (.int .i64) (.pair (.int .i64) (.pair (.int .i64) .bool))) st1.1)] ?_
         refine zA [(1, .int .i64 a), (2, .int .i64 b), (3, .bp 3 0), (6, .bp 6 0), (8, .own 36000), (27, .own 36000), (28, .int .i64 (v0_4.length : Int)), (29, .int .i64 st1.2)] [(3, .box 24 [.int .i64 g.1, .sl (.pair (.int .i64) (.pair (.int .i64) (.pair (.int .i64) .bool))) g.2]), (6, .box 24 [.int .i64 0, .cv (.slice none 0 0)]), (36000, .arr 61 (.pair (.int .i64) (.pair (.int .i64) (.pair (.int .i64) .bool))) (st1.1.set st1.2.toNat ((st1.1.getD st1.2.toNat (0, 0, 0, false)).1, a, (st1.1.getD st1.2.toNat (0, 0, 0, false)).2.2)))] ?_
         refine ablock_n ?_
         refine ablock_n ?_
         refine athen_n ?_
         refine AW.ops ?_
         obtain ⟨c24, h⟩ := ck_some.1 h
         refine zA [(1, .int .i64 a), (2, .int .i64 b), (3, .bp 3 0), (6, .bp 6 0), (8, .own 36000), (27, .own 36000), (28, .int .i64 (v0_4.length : Int)), (29, .int .i64 (st1.2 + 1))] [(3, .box 24 [.int .i64 g.1, .sl (.pair (.int .i64) (.pair (.int .i64) (.pair (.int .i64) .bool))) g.2]), (6, .box 24 [.int .i64 0, .cv (.slice none 0 0)]), (36000, .arr 61 (.pair (.int .i64) (.pair (.int .i64) (.pair (.int .i64) .bool))) (st1.1.set st1.2.toNat ((st1.1.getD st1.2.toNat (0, 0, 0, false)).1, a, (st1.1.getD st1.2.toNat (0, 0, 0, false)).2.2)))] ?_
         obtain rfl := Option.some.inj h
         exact ⟨_, rfl, zL [] [] []⟩
        ·refine zm ?_
         refine ablock_n ?_
         refine athen_n ?_
         refine AW.ops ?_
         obtain ⟨c25, h⟩ := ck_some.1 h
         refine zA [(1, .int .i64 a), (2, .int .i64 b), (3, .bp 3 0), (6, .bp 6 0), (8, .own 36000), (27, .own 36000), (28, .int .i64 (v0_4.length : Int)), (29, .int .i64 (st1.2 + 1))] [(3, .box 24 [.int .i64 g.1, .sl (.pair (.int .i64) (.pair (.int .i64) (.pair (.int .i64) .bool))) g.2]), (6, .box 24 [.int .i64 0, .cv (.slice none 0 0)]), (36000, .arr 61 (.pair (.int .i64) (.pair (.int .i64) (.pair (.int .i64) .bool))) st1.1)] ?_
         obtain rfl := Option.some.inj h
         exact ⟨_, rfl, zL [] [] []⟩
      ·refine AW.exit ?_
       refine athen_e ?_
       obtain rfl := Option.some.inj h
       rw [← hd11 _ rfl] at ho10
       have h := ho10
       refine athen_e ?_
       refine ablock_s ?_
       refine athen_n ?_
       exact AW.weaken (zL [] [] []) (hk_progress_Renamed_k1 _ h)

theorem hc_linealref07_Swapped (t : Int) (a : Int) (b : Int) {r : Int} (h : linealref07_Swapped t a b = some r) : HC Try.prog 54 [] [.int .i64 t, .int .i64 a, .int .i64 b] [] (.int .i64 r) := by
 unfold linealref07_Swapped at h
 refine zH Try.func54 [.tmp 6] 17 ?_
 refine zo ?_
 refine zB [(0, .int .i64 t), (1, .int .i64 a), (2, .int .i64 b)] [] ?_
 refine AW.seq ?_
 refine zo ?_
 refine zB [(0, .int .i64 t), (1, .int .i64 a), (2, .int .i64 b), (7, .int .i64 t)] [] ?_
 refine AW.block ?_
 refine zo ?_
 refine zB [(0, .int .i64 t), (1, .int .i64 a), (2, .int .i64 b), (7, .int .i64 t), (8, .bool (decide (t = a)))] [] ?_
 refine zQ h (fun hb1 h => ?_) (fun hb1 h => ?_)
 ·refine zo ?_
  refine zB [(6, .int .i64 b)] [] ?_
  refine AW.ret ?_
  refine ablock_r ?_
  refine athen_r ?_
  obtain rfl := Option.some.inj h
  exact zR [] [] []
 ·refine zo ?_
  refine zB [(0, .int .i64 t), (1, .int .i64 a), (12, .bool (decide (t = b)))] [] ?_
  refine zQ h (fun hb2 h => ?_) (fun hb2 h => ?_)
  ·refine zo ?_
   refine zB [(6, .int .i64 a)] [] ?_
   refine AW.ret ?_
   refine ablock_r ?_
   refine athen_r ?_
   obtain rfl := Option.some.inj h
   exact zR [] [] []
  ·refine zm ?_
   refine athen_n ?_
   refine zo ?_
   refine zB [(6, .int .i64 t)] [] ?_
   refine AW.ret ?_
   obtain rfl := Option.some.inj h
   exact zR [] [] []

theorem hc_progress_Holds (g : Int × (List (Int × Int × Int × Bool))) (claim : Int) (thread : Int) {r : Bool × Int} (h : progress_Holds g claim thread = some r) : HC Try.prog 29 [] [.agg [.int .i64 g.1, .sl (.pair (.int .i64) (.pair (.int .i64) (.pair (.int .i64) .bool))) g.2], .int .i64 claim, .int .i64 thread] [] (.tup [.bool r.1, .int .i64 r.2]) := by
 unfold progress_Holds at h
 refine zH Try.func29 [.tmp 6, .tmp 7] 28 ?_
 refine zo ?_
 refine zB [(1, .int .i64 claim), (2, .int .i64 thread), (3, .bp 3 0)] [(3, .box 24 [.int .i64 g.1, .sl (.pair (.int .i64) (.pair (.int .i64) (.pair (.int .i64) .bool))) g.2])] ?_
 refine zo ?_
 refine zS 3 [(13, .agg [.int .i64 g.1, .sl (.pair (.int .i64) (.pair (.int .i64) (.pair (.int .i64) .bool))) g.2]), (14, .int .i64 claim), (15, .int .i64 thread)] [] ?_
 obtain ⟨v0, hv1, h⟩ := Option.bind_eq_some_iff.1 h
 rcases v0 with v0_2 | v0_3 | v0_4 | v0_5
 ·try simp only at h
  refine zC [] [] (hc_progress_statementOf_a0 g claim thread hv1) [(16, .tup [.agg [.int .i64 0, .cv (.slice none 0 0), .cv (.nilFunc), .cv (.nilFunc)], .int .i64 v0_2])] [] ?_
  refine zS 5 [(8, .bp 8 0), (18, .int .i64 v0_2)] [(8, .box 85 [.int .i64 0, .cv (.slice none 0 0), .cv (.nilFunc), .cv (.nilFunc)])] ?_
  refine zB [(8, .bp 8 0), (9, .int .i64 v0_2)] [(8, .box 85 [.int .i64 0, .cv (.slice none 0 0), .cv (.nilFunc), .cv (.nilFunc)])] ?_
  refine AW.seq ?_
  refine zo ?_
  refine zB [(8, .bp 8 0), (9, .int .i64 v0_2), (20, .bool (!(decide (v0_2 = 0))))] [(8, .box 85 [.int .i64 0, .cv (.slice none 0 0), .cv (.nilFunc), .cv (.nilFunc)])] ?_
  refine zQ h (fun hb2 h => ?_) (fun hb2 h => ?_)
  ·refine zo ?_
   refine zB [(6, .bool false), (7, .int .i64 v0_2)] [] ?_
   refine zr ?_
   obtain rfl := Option.some.inj h
   exact zR [] [] []
  ·refine zk ?_
   refine zo ?_
   cases h
 ·try simp only at h
  refine zC [] [] (hc_progress_statementOf_a1 g claim thread hv1) [(16, .tup [.agg [.int .i64 v0_3.1, .sl (.pair (.int .i64) (.pair (.int .i64) (.pair (.int .i64) .bool))) v0_3.2, .fn (.func 94) [] [], .fn (.func 94) [] []], .int .i64 0])] [] ?_
  refine zS 5 [(8, .bp 8 0), (18, .int .i64 0)] [(8, .box 85 [.int .i64 v0_3.1, .sl (.pair (.int .i64) (.pair (.int .i64) (.pair (.int .i64) .bool))) v0_3.2, .fn (.func 94) [] [], .fn (.func 94) [] []])] ?_
  refine zB [(8, .bp 8 0), (9, .int .i64 0)] [(8, .box 85 [.int .i64 v0_3.1, .sl (.pair (.int .i64) (.pair (.int .i64) (.pair (.int .i64) .bool))) v0_3.2, .fn (.func 94) [] [], .fn (.func 94) [] []])] ?_
  refine AW.seq ?_
  refine zo ?_
  refine zB [(8, .bp 8 0), (9, .int .i64 0), (20, .bool false)] [(8, .box 85 [.int .i64 v0_3.1, .sl (.pair (.int .i64) (.pair (.int .i64) (.pair (.int .i64) .bool))) v0_3.2, .fn (.func 94) [] [], .fn (.func 94) [] []])] ?_
  refine AW.cond (b := false) rfl (fun hb3 => by cases hb3) (fun _ => ?_)
  refine zk ?_
  refine zo ?_
  refine zS 1 [(23, .agg [.int .i64 v0_3.1, .sl (.pair (.int .i64) (.pair (.int .i64) (.pair (.int .i64) .bool))) v0_3.2, .fn (.func 94) [] [], .fn (.func 94) [] []])] [] ?_
  obtain ⟨v0_6, hv4, h⟩ := Option.bind_eq_some_iff.1 h
  refine zC [] [] (hc_progress_statement_ranks v0_3.1 v0_3.2 hv4) [(24, .tup [.own 34000, .bool v0_6.2])] [(34000, .arr 3 (.int .i64) v0_6.1)] ?_
  refine zB [(11, .bool v0_6.2)] [] ?_
  refine zo ?_
  refine zB [(6, .bool v0_6.2), (7, .int .i64 0)] [] ?_
  refine AW.ret ?_
  obtain rfl := Option.some.inj h
  exact zR [] [] []
 ·try simp only at h
  refine zC [] [] (hc_progress_statementOf_a2 g claim thread hv1) [(16, .tup [.agg [.int .i64 v0_4.1, .sl (.pair (.int .i64) (.pair (.int .i64) (.pair (.int .i64) .bool))) v0_4.2, .fn (.func 96) [] [.bp 26000 0], .fn (.func 95) [] [.bp 26000 0]], .int .i64 0])] [(26000, .box 3 [.int .i64 thread])] ?_
  refine AO.weaken (s' := ⟨fr [(16, .tup [.agg [.int .i64 v0_4.1, .sl (.pair (.int .i64) (.pair (.int .i64) (.pair (.int .i64) .bool))) v0_4.2, .fn (.func 96) [] [.dp (.int .i64) thread 0], .fn (.func 95) [] [.dp (.int .i64) thread 0]], .int .i64 0])], hpGet [], gt⟩) (Wk.boxes [26000] rfl rfl (by (simp only [go_sem]) <;> (with_reducible and_intros) <;> first | assumption | rfl | omega | (unfold maxLen; omega)) (by (simp only [go_sem]) <;> (with_reducible and_intros) <;> first | assumption | rfl | omega | (unfold maxLen; omega))) ?_
  refine zS 5 [(8, .bp 8 0), (18, .int .i64 0)] [(8, .box 85 [.int .i64 v0_4.1, .sl (.pair (.int .i64) (.pair (.int .i64) (.pair (.int .i64) .bool))) v0_4.2, .fn (.func 96) [] [.dp (.int .i64) thread 0], .fn (.func 95) [] [.dp (.int .i64) thread 0]])] ?_
  refine zB [(8, .bp 8 0), (9, .int .i64 0)] [(8, .box 85 [.int .i64 v0_4.1, .sl (.pair (.int .i64) (.pair (.int .i64) (.pair (.int .i64) .bool))) v0_4.2, .fn (.func 96) [] [.dp (.int .i64) thread 0], .fn (.func 95) [] [.dp (.int .i64) thread 0]])] ?_
  refine AW.seq ?_
  refine zo ?_
  refine zB [(8, .bp 8 0), (9, .int .i64 0), (20, .bool false)] [(8, .box 85 [.int .i64 v0_4.1, .sl (.pair (.int .i64) (.pair (.int .i64) (.pair (.int .i64) .bool))) v0_4.2, .fn (.func 96) [] [.dp (.int .i64) thread 0], .fn (.func 95) [] [.dp (.int .i64) thread 0]])] ?_
  refine AW.cond (b := false) rfl (fun hb5 => by cases hb5) (fun _ => ?_)
  refine zk ?_
  refine zo ?_
  refine zS 1 [(23, .agg [.int .i64 v0_4.1, .sl (.pair (.int .i64) (.pair (.int .i64) (.pair (.int .i64) .bool))) v0_4.2, .fn (.func 96) [] [.dp (.int .i64) thread 0], .fn (.func 95) [] [.dp (.int .i64) thread 0]])] [] ?_
  obtain ⟨v0_7, hv6, h⟩ := Option.bind_eq_some_iff.1 h
  refine zC [] [] (hc_progress_statement_ranks_2 v0_4.1 v0_4.2 thread thread hv6) [(24, .tup [.own 34000, .bool v0_7.2])] [(34000, .arr 3 (.int .i64) v0_7.1)] ?_
  refine zB [(11, .bool v0_7.2)] [] ?_
  refine zo ?_
  refine zB [(6, .bool v0_7.2), (7, .int .i64 0)] [] ?_
  refine AW.ret ?_
  obtain rfl := Option.some.inj h
  exact zR [] [] []
 ·try simp only at h
  refine zC [] [] (hc_progress_statementOf_a3 g claim thread hv1) [(16, .tup [.agg [.int .i64 v0_5.1, .sl (.pair (.int .i64) (.pair (.int .i64) (.pair (.int .i64) .bool))) v0_5.2, .fn (.func 95) [] [.bp 26000 0], .fn (.func 95) [] [.bp 26000 0]], .int .i64 0])] [(26000, .box 3 [.int .i64 thread])] ?_
  refine AO.weaken (s' := ⟨fr [(16, .tup [.agg [.int .i64 v0_5.1, .sl (.pair (.int .i64) (.pair (.int .i64) (.pair (.int .i64) .bool))) v0_5.2, .fn (.func 95) [] [.dp (.int .i64) thread 0], .fn (.func 95) [] [.dp (.int .i64) thread 0]], .int .i64 0])], hpGet [], gt⟩) (Wk.boxes [26000] rfl rfl (by (simp only [go_sem]) <;> (with_reducible and_intros) <;> first | assumption | rfl | omega | (unfold maxLen; omega)) (by (simp only [go_sem]) <;> (with_reducible and_intros) <;> first | assumption | rfl | omega | (unfold maxLen; omega))) ?_
  refine zS 5 [(8, .bp 8 0), (18, .int .i64 0)] [(8, .box 85 [.int .i64 v0_5.1, .sl (.pair (.int .i64) (.pair (.int .i64) (.pair (.int .i64) .bool))) v0_5.2, .fn (.func 95) [] [.dp (.int .i64) thread 0], .fn (.func 95) [] [.dp (.int .i64) thread 0]])] ?_
  refine zB [(8, .bp 8 0), (9, .int .i64 0)] [(8, .box 85 [.int .i64 v0_5.1, .sl (.pair (.int .i64) (.pair (.int .i64) (.pair (.int .i64) .bool))) v0_5.2, .fn (.func 95) [] [.dp (.int .i64) thread 0], .fn (.func 95) [] [.dp (.int .i64) thread 0]])] ?_
  refine AW.seq ?_
  refine zo ?_
  refine zB [(8, .bp 8 0), (9, .int .i64 0), (20, .bool false)] [(8, .box 85 [.int .i64 v0_5.1, .sl (.pair (.int .i64) (.pair (.int .i64) (.pair (.int .i64) .bool))) v0_5.2, .fn (.func 95) [] [.dp (.int .i64) thread 0], .fn (.func 95) [] [.dp (.int .i64) thread 0]])] ?_
  refine AW.cond (b := false) rfl (fun hb7 => by cases hb7) (fun _ => ?_)
  refine zk ?_
  refine zo ?_
  refine zS 1 [(23, .agg [.int .i64 v0_5.1, .sl (.pair (.int .i64) (.pair (.int .i64) (.pair (.int .i64) .bool))) v0_5.2, .fn (.func 95) [] [.dp (.int .i64) thread 0], .fn (.func 95) [] [.dp (.int .i64) thread 0]])] [] ?_
  obtain ⟨v0_8, hv8, h⟩ := Option.bind_eq_some_iff.1 h
  refine zC [] [] (hc_progress_statement_ranks_3 v0_5.1 v0_5.2 thread thread hv8) [(24, .tup [.own 34000, .bool v0_8.2])] [(34000, .arr 3 (.int .i64) v0_8.1)] ?_
  refine zB [(11, .bool v0_8.2)] [] ?_
  refine zo ?_
  refine zB [(6, .bool v0_8.2), (7, .int .i64 0)] [] ?_
  refine AW.ret ?_
  obtain rfl := Option.some.inj h
  exact zR [] [] []

theorem hc_lineallaw07_asked (claim : Int) (thread : Int) {r : Int × Int} (h : lineallaw07_asked claim thread = some r) : HC Try.prog 51 [] [.int .u8 claim, .int .u8 thread] [] (.tup [.int .i64 r.1, .int .i64 r.2]) := by
 unfold lineallaw07_asked at h
 refine zH Try.func51 [.tmp 4, .tmp 5] 16 ?_
 refine zo ?_
 refine zB [(0, .int .u8 claim), (1, .int .u8 thread)] [] ?_
 refine zo ?_
 obtain ⟨c1, h⟩ := ck_some.1 h
 obtain ⟨c2, h⟩ := ck_some.1 h
 refine zB [(1, .int .u8 thread), (6, .int .i64 (claim % 3))] [] ?_
 refine AW.seq ?_
 refine zo ?_
 refine zB [(1, .int .u8 thread), (6, .int .i64 (claim % 3)), (11, .bool (decide ((claim % 3) = 0)))] [] ?_
 refine zQ h (fun hb3 h => ?_) (fun hb3 h => ?_)
 ·refine zo ?_
  refine zB [(4, .int .i64 0), (5, .int .i64 0)] [] ?_
  refine zr ?_
  obtain rfl := Option.some.inj h
  exact zR [] [] []
 ·refine zk ?_
  refine zo ?_
  obtain ⟨c4, h⟩ := ck_some.1 h
  obtain ⟨c5, h⟩ := ck_some.1 h
  refine zS 5 [(4, .int .i64 (claim % 3)), (15, .int .i64 (thread % 3))] [] ?_
  refine zB [(4, .int .i64 (claim % 3)), (5, .int .i64 (thread % 3))] [] ?_
  refine AW.ret ?_
  obtain rfl := Option.some.inj h
  exact zR [] [] []

end Go.Proofs.Yteclokkdgmacpaa
