/-
  Made by wip/tool/dc.py out of the print of the program: contracts.
-/
import Derived.Test.YteclokkdgmacpaaGrp
import Derived.Test.YteclokkdgmacpaaSh7
import Derived.Test.YteclokkdgmacpaaGbc6
import Derived.Test.YteclokkdgmacpaaGbc7
import Derived.Test.YteclokkdgmacpaaGbc8
import Derived.Test.YteclokkdgmacpaaGbc9
namespace Go.Proofs.Yteclokkdgmacpaa
open Go.RowKit

set_option linter.unusedSimpArgs false
set_option linter.unusedVariables false
set_option linter.constructorNameAsVariable false

set_option maxRecDepth 100000
set_option maxHeartbeats 2000000

theorem hc_linealref07_Only (g : Int × (List (Int × Int × Int × Bool))) (thread : Int) {r : Int × (List (Int × Int × Int × Bool)) × Int} (h : linealref07_Only g thread = some r) : HC Try.prog 50 [] [.agg [.int .i64 g.1, .sl (.pair (.int .i64) (.pair (.int .i64) (.pair (.int .i64) .bool))) g.2], .int .i64 thread] [(2000, .arr 61 (.pair (.int .i64) (.pair (.int .i64) (.pair (.int .i64) .bool))) r.2.1)] (.tup [.agg [.int .i64 r.1, .own 2000], .int .i64 r.2.2]) := by
 unfold linealref07_Only at h
 refine zH Try.func50 [.cell 4 24, .tmp 5] 39 ?_
 refine zo ?_
 refine zB [(1, .int .i64 thread), (2, .bp 2 0), (4, .bp 4 0)] [(2, .box 24 [.int .i64 g.1, .sl (.pair (.int .i64) (.pair (.int .i64) (.pair (.int .i64) .bool))) g.2]), (4, .box 24 [.int .i64 0, .cv (.slice none 0 0)])] ?_
 refine AW.seq ?_
 refine zo ?_
 refine zS 1 [(1, .int .i64 thread), (2, .bp 2 0), (4, .bp 4 0), (9, .agg [.int .i64 g.1, .sl (.pair (.int .i64) (.pair (.int .i64) (.pair (.int .i64) .bool))) g.2])] [(2, .box 24 [.int .i64 g.1, .sl (.pair (.int .i64) (.pair (.int .i64) (.pair (.int .i64) .bool))) g.2]), (4, .box 24 [.int .i64 0, .cv (.slice none 0 0)])] ?_
 obtain ⟨v0, hv1, h⟩ := Option.bind_eq_some_iff.1 h
 refine zC [] [] (hc_linealref07_Valid g hv1) [(1, .int .i64 thread), (2, .bp 2 0), (4, .bp 4 0), (10, .bool v0)] [(2, .box 24 [.int .i64 g.1, .sl (.pair (.int .i64) (.pair (.int .i64) (.pair (.int .i64) .bool))) g.2]), (4, .box 24 [.int .i64 0, .cv (.slice none 0 0)])] ?_
 refine zB [(1, .int .i64 thread), (2, .bp 2 0), (4, .bp 4 0), (11, .bool (!v0))] [(2, .box 24 [.int .i64 g.1, .sl (.pair (.int .i64) (.pair (.int .i64) (.pair (.int .i64) .bool))) g.2]), (4, .box 24 [.int .i64 0, .cv (.slice none 0 0)])] ?_
 refine zQ h (fun hb2 h => ?_) (fun hb2 h => ?_)
 ·refine zo ?_
  refine zB [(4, .bp 4 0), (5, .int .i64 70)] [(4, .box 24 [.int .i64 0, .cv (.slice none 0 0)])] ?_
  refine zr ?_
  obtain rfl := Option.some.inj h
  exact zR [] [2000] []
 ·refine zk ?_
  refine AW.seq ?_
  refine zo ?_
  refine zS 1 [(1, .int .i64 thread), (2, .bp 2 0), (4, .bp 4 0), (13, .int .i64 thread)] [(2, .box 24 [.int .i64 g.1, .sl (.pair (.int .i64) (.pair (.int .i64) (.pair (.int .i64) .bool))) g.2]), (4, .box 24 [.int .i64 0, .cv (.slice none 0 0)])] ?_
  obtain ⟨v0_2, hv3, h⟩ := Option.bind_eq_some_iff.1 h
  refine zC [] [] (hc_linealref07_IsThread thread hv3) [(1, .int .i64 thread), (2, .bp 2 0), (4, .bp 4 0), (14, .bool v0_2)] [(2, .box 24 [.int .i64 g.1, .sl (.pair (.int .i64) (.pair (.int .i64) (.pair (.int .i64) .bool))) g.2]), (4, .box 24 [.int .i64 0, .cv (.slice none 0 0)])] ?_
  refine zB [(1, .int .i64 thread), (2, .bp 2 0), (4, .bp 4 0), (15, .bool (!v0_2))] [(2, .box 24 [.int .i64 g.1, .sl (.pair (.int .i64) (.pair (.int .i64) (.pair (.int .i64) .bool))) g.2]), (4, .box 24 [.int .i64 0, .cv (.slice none 0 0)])] ?_
  refine zQ h (fun hb4 h => ?_) (fun hb4 h => ?_)
  ·refine zo ?_
   refine zB [(4, .bp 4 0), (5, .int .i64 2)] [(4, .box 24 [.int .i64 0, .cv (.slice none 0 0)])] ?_
   refine zr ?_
   obtain rfl := Option.some.inj h
   exact zR [] [2000] []
  ·refine zk ?_
   refine zo ?_
   refine zB [(1, .int .i64 thread), (2, .bp 2 0), (4, .bp 4 0), (6, .bp 6 0)] [(2, .box 24 [.int .i64 g.1, .sl (.pair (.int .i64) (.pair (.int .i64) (.pair (.int .i64) .bool))) g.2]), (4, .box 24 [.int .i64 0, .cv (.slice none 0 0)]), (6, .box 24 [.int .i64 g.1, .cv (.slice none 0 0)])] ?_
   refine AW.have1 (fun b1 : (List (Int × Int × Int × Bool)) => linealref07_Only_k1 g b1 = some r) (fun b1 => ⟨fr [(4, .bp 4 0), (6, .bp 6 0)], hpGet [(4, .box 24 [.int .i64 0, .cv (.slice none 0 0)]), (6, .box 24 [.int .i64 g.1, .own 35]), (35, .arr 61 (.pair (.int .i64) (.pair (.int .i64) (.pair (.int .i64) .bool))) b1)], gt⟩) (fun b1 h => ?_) (fun hk_linealref07_Only_k1 => ?_)
   ·as_aux_lemma =>
     unfold linealref07_Only_k1 at h
     refine zo ?_
     refine zB [(4, .bp 4 0), (5, .int .i64 0)] [(4, .box 24 [.int .i64 g.1, .own 35]), (35, .arr 61 (.pair (.int .i64) (.pair (.int .i64) (.pair (.int .i64) .bool))) b1)] ?_
     refine AW.ret ?_
     obtain rfl := Option.some.inj h
     exact zR [] [] [(2000, 35)]
   ·refine AW.seq ?_
    refine zo ?_
    refine zB [(1, .int .i64 thread), (4, .bp 4 0), (6, .bp 6 0), (21, .sl (.pair (.int .i64) (.pair (.int .i64) (.pair (.int .i64) .bool))) g.2), (22, .int .i64 (g.2.length : Int)), (23, .int .i64 0)] [(4, .box 24 [.int .i64 0, .cv (.slice none 0 0)]), (6, .box 24 [.int .i64 g.1, .cv (.slice none 0 0)])] ?_
    refine AW.block ?_
    obtain ⟨rv9, hw5, ho6⟩ := Option.bind_eq_some_iff.1 h
    refine AW.loopO (linealref07_Only_b1 g thread) (fun st1 => ⟨fr [(1, .int .i64 thread), (4, .bp 4 0), (6, .bp 6 0), (21, .sl (.pair (.int .i64) (.pair (.int .i64) (.pair (.int .i64) .bool))) g.2), (22, .int .i64 (g.2.length : Int)), (23, .int .i64 st1.2)], hpGet [(4, .box 24 [.int .i64 0, .cv (.slice none 0 0)]), (6, .box 24 [.int .i64 g.1, .own 35]), (35, .arr 61 (.pair (.int .i64) (.pair (.int .i64) (.pair (.int .i64) .bool))) st1.1)], gt⟩) ([], 0) hw5 (zL [] [35] []) ?_
    as_aux_lemma =>
     intro st1 x8 h hd7
     unfold linealref07_Only_b1 at h
     refine zo ?_
     refine zB [(1, .int .i64 thread), (4, .bp 4 0), (6, .bp 6 0), (21, .sl (.pair (.int .i64) (.pair (.int .i64) (.pair (.int .i64) .bool))) g.2), (22, .int .i64 (g.2.length : Int)), (23, .int .i64 st1.2), (24, .bool (decide (st1.2 < (g.2.length : Int))))] [(4, .box 24 [.int .i64 0, .cv (.slice none 0 0)]), (6, .box 24 [.int .i64 g.1, .own 35]), (35, .arr 61 (.pair (.int .i64) (.pair (.int .i64) (.pair (.int .i64) .bool))) st1.1)] ?_
     refine AW.seq ?_
     refine zQ h (fun hb10 h => ?_) (fun hb10 h => ?_)
     ·refine zk ?_
      refine AW.seq ?_
      refine AW.block ?_
      refine zo ?_
      obtain ⟨c11, h⟩ := ck_some.1 h
      obtain ⟨c12, h⟩ := ck_some.1 h
      refine zB [(1, .int .i64 thread), (4, .bp 4 0), (6, .bp 6 0), (8, .bp 8 0), (21, .sl (.pair (.int .i64) (.pair (.int .i64) (.pair (.int .i64) .bool))) g.2), (22, .int .i64 (g.2.length : Int)), (23, .int .i64 st1.2)] [(4, .box 24 [.int .i64 0, .cv (.slice none 0 0)]), (6, .box 24 [.int .i64 g.1, .own 35]), (8, .box 61 [.int .i64 (g.2.getD st1.2.toNat (0, 0, 0, false)).1, .int .i64 (g.2.getD st1.2.toNat (0, 0, 0, false)).2.1, .int .i64 (g.2.getD st1.2.toNat (0, 0, 0, false)).2.2.1, .bool (g.2.getD st1.2.toNat (0, 0, 0, false)).2.2.2]), (35, .arr 61 (.pair (.int .i64) (.pair (.int .i64) (.pair (.int .i64) .bool))) st1.1)] ?_
      refine zo ?_
      refine zB [(1, .int .i64 thread), (4, .bp 4 0), (6, .bp 6 0), (8, .bp 8 0), (21, .sl (.pair (.int .i64) (.pair (.int .i64) (.pair (.int .i64) .bool))) g.2), (22, .int .i64 (g.2.length : Int)), (23, .int .i64 st1.2), (30, .bool (decide ((g.2.getD st1.2.toNat (0, 0, 0, false)).2.1 = thread)))] [(4, .box 24 [.int .i64 0, .cv (.slice none 0 0)]), (6, .box 24 [.int .i64 g.1, .own 35]), (8, .box 61 [.int .i64 (g.2.getD st1.2.toNat (0, 0, 0, false)).1, .int .i64 (g.2.getD st1.2.toNat (0, 0, 0, false)).2.1, .int .i64 (g.2.getD st1.2.toNat (0, 0, 0, false)).2.2.1, .bool (g.2.getD st1.2.toNat (0, 0, 0, false)).2.2.2]), (35, .arr 61 (.pair (.int .i64) (.pair (.int .i64) (.pair (.int .i64) .bool))) st1.1)] ?_
      refine zQ h (fun hb13 h => ?_) (fun hb13 h => ?_)
      ·refine AW.ops ?_
       obtain ⟨c14, h⟩ := ck_some.1 h
       refine zS 5 [(1, .int .i64 thread), (4, .bp 4 0), (6, .bp 6 0), (21, .sl (.pair (.int .i64) (.pair (.int .i64) (.pair (.int .i64) .bool))) g.2), (22, .int .i64 (g.2.length : Int)), (23, .int .i64 st1.2), (35, .own 35)] [(4, .box 24 [.int .i64 0, .cv (.slice none 0 0)]), (6, .box 24 [.int .i64 g.1, .un]), (35, .arr 61 (.pair (.int .i64) (.pair (.int .i64) (.pair (.int .i64) .bool))) (st1.1 ++ [(g.2.getD st1.2.toNat (0, 0, 0, false))]))] ?_
       refine zA [(1, .int .i64 thread), (4, .bp 4 0), (6, .bp 6 0), (21, .sl (.pair (.int .i64) (.pair (.int .i64) (.pair (.int .i64) .bool))) g.2), (22, .int .i64 (g.2.length : Int)), (23, .int .i64 st1.2)] [(4, .box 24 [.int .i64 0, .cv (.slice none 0 0)]), (6, .box 24 [.int .i64 g.1, .own 35]), (35, .arr 61 (.pair (.int .i64) (.pair (.int .i64) (.pair (.int .i64) .bool))) (st1.1 ++ [(g.2.getD st1.2.toNat (0, 0, 0, false))]))] ?_
       refine ablock_n ?_
       refine athen_n ?_
       refine AW.ops ?_
       obtain ⟨c15, h⟩ := ck_some.1 h
       refine zA [(1, .int .i64 thread), (4, .bp 4 0), (6, .bp 6 0), (21, .sl (.pair (.int .i64) (.pair (.int .i64) (.pair (.int .i64) .bool))) g.2), (22, .int .i64 (g.2.length : Int)), (23, .int .i64 (st1.2 + 1))] [(4, .box 24 [.int .i64 0, .cv (.slice none 0 0)]), (6, .box 24 [.int .i64 g.1, .own 35]), (35, .arr 61 (.pair (.int .i64) (.pair (.int .i64) (.pair (.int .i64) .bool))) (st1.1 ++ [(g.2.getD st1.2.toNat (0, 0, 0, false))]))] ?_
       obtain rfl := Option.some.inj h
       exact ⟨_, rfl, zL [] [] []⟩
      ·refine zm ?_
       refine athen_n ?_
       refine AW.ops ?_
       obtain ⟨c16, h⟩ := ck_some.1 h
       refine zA [(1, .int .i64 thread), (4, .bp 4 0), (6, .bp 6 0), (21, .sl (.pair (.int .i64) (.pair (.int .i64) (.pair (.int .i64) .bool))) g.2), (22, .int .i64 (g.2.length : Int)), (23, .int .i64 (st1.2 + 1))] [(4, .box 24 [.int .i64 0, .cv (.slice none 0 0)]), (6, .box 24 [.int .i64 g.1, .own 35]), (35, .arr 61 (.pair (.int .i64) (.pair (.int .i64) (.pair (.int .i64) .bool))) st1.1)] ?_
       obtain rfl := Option.some.inj h
       exact ⟨_, rfl, zL [] [] []⟩
     ·refine AW.exit ?_
      refine athen_e ?_
      obtain rfl := Option.some.inj h
      rw [← hd7 _ rfl] at ho6
      have h := ho6
      refine athen_e ?_
      refine ablock_s ?_
      refine athen_n ?_
      exact AW.weaken (zL [] [] []) (hk_linealref07_Only_k1 _ h)

theorem hc_lineallaw07_ProgressOthers (g : Int × (List (Int × Int × Int × Bool))) (move : Int) (a : Int) (b : Int) {r : Bool} (h : lineallaw07_ProgressOthers g move a b = some r) : HC Try.prog 7 [] [.agg [.int .i64 g.1, .sl (.pair (.int .i64) (.pair (.int .i64) (.pair (.int .i64) .bool))) g.2], .int .i64 move, .int .i64 a, .int .i64 b] [] (.bool r) := by
 unfold lineallaw07_ProgressOthers at h
 refine zH Try.func7 [.tmp 8] 83 ?_
 refine zo ?_
 refine zB [(1, .int .i64 move), (2, .int .i64 a), (3, .int .i64 b), (4, .bp 4 0)] [(4, .box 24 [.int .i64 g.1, .sl (.pair (.int .i64) (.pair (.int .i64) (.pair (.int .i64) .bool))) g.2])] ?_
 refine AW.seq ?_
 refine zo ?_
 refine zS 1 [(1, .int .i64 move), (2, .int .i64 a), (3, .int .i64 b), (4, .bp 4 0), (13, .agg [.int .i64 g.1, .sl (.pair (.int .i64) (.pair (.int .i64) (.pair (.int .i64) .bool))) g.2])] [(4, .box 24 [.int .i64 g.1, .sl (.pair (.int .i64) (.pair (.int .i64) (.pair (.int .i64) .bool))) g.2])] ?_
 obtain ⟨v0, hv1, h⟩ := Option.bind_eq_some_iff.1 h
 refine zC [] [] (hc_lineallaw07_Long g hv1) [(1, .int .i64 move), (2, .int .i64 a), (3, .int .i64 b), (4, .bp 4 0), (14, .bool (decide (100 < (g.2.length : Int))))] [(4, .box 24 [.int .i64 g.1, .sl (.pair (.int .i64) (.pair (.int .i64) (.pair (.int .i64) .bool))) g.2])] ?_
 refine zB [(1, .int .i64 move), (2, .int .i64 a), (3, .int .i64 b), (4, .bp 4 0), (14, .bool (decide (100 < (g.2.length : Int))))] [(4, .box 24 [.int .i64 g.1, .sl (.pair (.int .i64) (.pair (.int .i64) (.pair (.int .i64) .bool))) g.2])] ?_
 refine zQ h (fun hb2 h => ?_) (fun hb2 h => ?_)
 ·refine zo ?_
  obtain ⟨v0_2, hv3, h⟩ := Option.bind_eq_some_iff.1 h
  refine zC [] [] (hc_lineallaw07_Awake hv3) [(15, .bool v0_2)] [] ?_
  refine zB [(8, .bool v0_2)] [] ?_
  refine zr ?_
  obtain rfl := Option.some.inj h
  exact zR [] [] []
 ·refine zk ?_
  refine zo ?_
  refine zS 2 [(1, .int .i64 move), (2, .int .i64 a), (3, .int .i64 b), (4, .bp 4 0), (17, .agg [.int .i64 g.1, .sl (.pair (.int .i64) (.pair (.int .i64) (.pair (.int .i64) .bool))) g.2]), (18, .int .i64 move)] [(4, .box 24 [.int .i64 g.1, .sl (.pair (.int .i64) (.pair (.int .i64) (.pair (.int .i64) .bool))) g.2])] ?_
  obtain ⟨v0_3, hv4, h⟩ := Option.bind_eq_some_iff.1 h
  refine zC [] [] (hc_progress_Without g move hv4) [(1, .int .i64 move), (2, .int .i64 a), (3, .int .i64 b), (4, .bp 4 0), (19, .tup [.agg [.int .i64 v0_3.1, .own 29000], .int .i64 v0_3.2.2])] [(4, .box 24 [.int .i64 g.1, .sl (.pair (.int .i64) (.pair (.int .i64) (.pair (.int .i64) .bool))) g.2]), (29000, .arr 61 (.pair (.int .i64) (.pair (.int .i64) (.pair (.int .i64) .bool))) v0_3.2.1)] ?_
  refine zS 5 [(1, .int .i64 move), (2, .int .i64 a), (3, .int .i64 b), (4, .bp 4 0), (9, .bp 9 0), (21, .int .i64 v0_3.2.2)] [(4, .box 24 [.int .i64 g.1, .sl (.pair (.int .i64) (.pair (.int .i64) (.pair (.int .i64) .bool))) g.2]), (9, .box 24 [.int .i64 v0_3.1, .own 29000]), (29000, .arr 61 (.pair (.int .i64) (.pair (.int .i64) (.pair (.int .i64) .bool))) v0_3.2.1)] ?_
  refine zB [(1, .int .i64 move), (2, .int .i64 a), (3, .int .i64 b), (4, .bp 4 0), (9, .bp 9 0), (10, .int .i64 v0_3.2.2)] [(4, .box 24 [.int .i64 g.1, .sl (.pair (.int .i64) (.pair (.int .i64) (.pair (.int .i64) .bool))) g.2]), (9, .box 24 [.int .i64 v0_3.1, .own 29000]), (29000, .arr 61 (.pair (.int .i64) (.pair (.int .i64) (.pair (.int .i64) .bool))) v0_3.2.1)] ?_
  refine zo ?_
  refine zS 2 [(2, .int .i64 a), (3, .int .i64 b), (4, .bp 4 0), (9, .bp 9 0), (10, .int .i64 v0_3.2.2), (23, .agg [.int .i64 g.1, .sl (.pair (.int .i64) (.pair (.int .i64) (.pair (.int .i64) .bool))) g.2]), (24, .int .i64 move)] [(4, .box 24 [.int .i64 g.1, .sl (.pair (.int .i64) (.pair (.int .i64) (.pair (.int .i64) .bool))) g.2]), (9, .box 24 [.int .i64 v0_3.1, .own 29000]), (29000, .arr 61 (.pair (.int .i64) (.pair (.int .i64) (.pair (.int .i64) .bool))) v0_3.2.1)] ?_
  obtain ⟨v0_4, hv5, h⟩ := Option.bind_eq_some_iff.1 h
  refine zC [] [] (hc_linealref07_Without g move hv5) [(2, .int .i64 a), (3, .int .i64 b), (4, .bp 4 0), (9, .bp 9 0), (10, .int .i64 v0_3.2.2), (25, .tup [.agg [.int .i64 v0_4.1, .own 35000], .int .i64 v0_4.2.2])] [(4, .box 24 [.int .i64 g.1, .sl (.pair (.int .i64) (.pair (.int .i64) (.pair (.int .i64) .bool))) g.2]), (9, .box 24 [.int .i64 v0_3.1, .own 29000]), (29000, .arr 61 (.pair (.int .i64) (.pair (.int .i64) (.pair (.int .i64) .bool))) v0_3.2.1), (35000, .arr 61 (.pair (.int .i64) (.pair (.int .i64) (.pair (.int .i64) .bool))) v0_4.2.1)] ?_
  refine zS 5 [(2, .int .i64 a), (3, .int .i64 b), (4, .bp 4 0), (9, .bp 9 0), (10, .int .i64 v0_3.2.2), (11, .bp 11 0), (27, .int .i64 v0_4.2.2)] [(4, .box 24 [.int .i64 g.1, .sl (.pair (.int .i64) (.pair (.int .i64) (.pair (.int .i64) .bool))) g.2]), (9, .box 24 [.int .i64 v0_3.1, .own 29000]), (11, .box 24 [.int .i64 v0_4.1, .own 35000]), (29000, .arr 61 (.pair (.int .i64) (.pair (.int .i64) (.pair (.int .i64) .bool))) v0_3.2.1), (35000, .arr 61 (.pair (.int .i64) (.pair (.int .i64) (.pair (.int .i64) .bool))) v0_4.2.1)] ?_
  refine zB [(2, .int .i64 a), (3, .int .i64 b), (4, .bp 4 0), (9, .bp 9 0), (10, .int .i64 v0_3.2.2), (11, .bp 11 0), (12, .int .i64 v0_4.2.2)] [(4, .box 24 [.int .i64 g.1, .sl (.pair (.int .i64) (.pair (.int .i64) (.pair (.int .i64) .bool))) g.2]), (9, .box 24 [.int .i64 v0_3.1, .own 29000]), (11, .box 24 [.int .i64 v0_4.1, .own 35000]), (29000, .arr 61 (.pair (.int .i64) (.pair (.int .i64) (.pair (.int .i64) .bool))) v0_3.2.1), (35000, .arr 61 (.pair (.int .i64) (.pair (.int .i64) (.pair (.int .i64) .bool))) v0_4.2.1)] ?_
  refine AW.seq ?_
  refine zo ?_
  refine zS 2 [(2, .int .i64 a), (3, .int .i64 b), (4, .bp 4 0), (9, .bp 9 0), (10, .int .i64 v0_3.2.2), (11, .bp 11 0), (12, .int .i64 v0_4.2.2), (28, .agg [.int .i64 v0_3.1, .own 29000]), (29, .agg [.int .i64 v0_4.1, .own 35000])] [(4, .box 24 [.int .i64 g.1, .sl (.pair (.int .i64) (.pair (.int .i64) (.pair (.int .i64) .bool))) g.2]), (9, .box 24 [.int .i64 v0_3.1, .own 29000]), (11, .box 24 [.int .i64 v0_4.1, .own 35000]), (29000, .arr 61 (.pair (.int .i64) (.pair (.int .i64) (.pair (.int .i64) .bool))) v0_3.2.1), (35000, .arr 61 (.pair (.int .i64) (.pair (.int .i64) (.pair (.int .i64) .bool))) v0_4.2.1)] ?_
  obtain ⟨v0_5, hv6, h⟩ := Option.bind_eq_some_iff.1 h
  refine zC [29000, 35000] [] (hc_linealref07_Same (v0_3.1, v0_3.2.1) (v0_4.1, v0_4.2.1) hv6) [(2, .int .i64 a), (3, .int .i64 b), (4, .bp 4 0), (9, .bp 9 0), (10, .int .i64 v0_3.2.2), (11, .bp 11 0), (12, .int .i64 v0_4.2.2), (30, .bool v0_5)] [(4, .box 24 [.int .i64 g.1, .sl (.pair (.int .i64) (.pair (.int .i64) (.pair (.int .i64) .bool))) g.2]), (9, .box 24 [.int .i64 v0_3.1, .own 29000]), (11, .box 24 [.int .i64 v0_4.1, .own 35000]), (29000, .arr 61 (.pair (.int .i64) (.pair (.int .i64) (.pair (.int .i64) .bool))) v0_3.2.1), (35000, .arr 61 (.pair (.int .i64) (.pair (.int .i64) (.pair (.int .i64) .bool))) v0_4.2.1)] ?_
  refine zS 2 [(2, .int .i64 a), (3, .int .i64 b), (4, .bp 4 0), (9, .bp 9 0), (10, .int .i64 v0_3.2.2), (11, .bp 11 0), (12, .int .i64 v0_4.2.2), (32, .bool (!v0_5))] [(4, .box 24 [.int .i64 g.1, .sl (.pair (.int .i64) (.pair (.int .i64) (.pair (.int .i64) .bool))) g.2]), (9, .box 24 [.int .i64 v0_3.1, .own 29000]), (11, .box 24 [.int .i64 v0_4.1, .own 35000]), (29000, .arr 61 (.pair (.int .i64) (.pair (.int .i64) (.pair (.int .i64) .bool))) v0_3.2.1), (35000, .arr 61 (.pair (.int .i64) (.pair (.int .i64) (.pair (.int .i64) .bool))) v0_4.2.1)] ?_
  rcases zI h with ⟨hb7, h⟩ | ⟨hb7, h⟩
  ·refine zB [(2, .int .i64 a), (3, .int .i64 b), (4, .bp 4 0), (9, .bp 9 0), (11, .bp 11 0), (36, .bool true)] [(4, .box 24 [.int .i64 g.1, .sl (.pair (.int .i64) (.pair (.int .i64) (.pair (.int .i64) .bool))) g.2]), (9, .box 24 [.int .i64 v0_3.1, .own 29000]), (11, .box 24 [.int .i64 v0_4.1, .own 35000]), (29000, .arr 61 (.pair (.int .i64) (.pair (.int .i64) (.pair (.int .i64) .bool))) v0_3.2.1), (35000, .arr 61 (.pair (.int .i64) (.pair (.int .i64) (.pair (.int .i64) .bool))) v0_4.2.1)] ?_
   refine AW.cond (b := true) rfl (fun _ => ?_) (fun hb8 => by cases hb8)
   refine zo ?_
   refine zB [(8, .bool false)] [] ?_
   refine zr ?_
   obtain rfl := Option.some.inj h
   exact zR [] [] []
  ·refine zB [(2, .int .i64 a), (3, .int .i64 b), (4, .bp 4 0), (9, .bp 9 0), (11, .bp 11 0), (36, .bool (!(decide (v0_3.2.2 = v0_4.2.2))))] [(4, .box 24 [.int .i64 g.1, .sl (.pair (.int .i64) (.pair (.int .i64) (.pair (.int .i64) .bool))) g.2]), (9, .box 24 [.int .i64 v0_3.1, .own 29000]), (11, .box 24 [.int .i64 v0_4.1, .own 35000]), (29000, .arr 61 (.pair (.int .i64) (.pair (.int .i64) (.pair (.int .i64) .bool))) v0_3.2.1), (35000, .arr 61 (.pair (.int .i64) (.pair (.int .i64) (.pair (.int .i64) .bool))) v0_4.2.1)] ?_
   refine zQ h (fun hb9 h => ?_) (fun hb9 h => ?_)
   ·refine zo ?_
    refine zB [(8, .bool false)] [] ?_
    refine zr ?_
    obtain rfl := Option.some.inj h
    exact zR [] [] []
   ·refine zk ?_
    refine zo ?_
    refine zS 3 [(2, .int .i64 a), (3, .int .i64 b), (4, .bp 4 0), (9, .bp 9 0), (11, .bp 11 0), (38, .agg [.int .i64 g.1, .sl (.pair (.int .i64) (.pair (.int .i64) (.pair (.int .i64) .bool))) g.2]), (39, .int .i64 a), (40, .int .i64 b)] [(4, .box 24 [.int .i64 g.1, .sl (.pair (.int .i64) (.pair (.int .i64) (.pair (.int .i64) .bool))) g.2]), (9, .box 24 [.int .i64 v0_3.1, .own 29000]), (11, .box 24 [.int .i64 v0_4.1, .own 35000]), (29000, .arr 61 (.pair (.int .i64) (.pair (.int .i64) (.pair (.int .i64) .bool))) v0_3.2.1), (35000, .arr 61 (.pair (.int .i64) (.pair (.int .i64) (.pair (.int .i64) .bool))) v0_4.2.1)] ?_
    obtain ⟨v0_6, hv10, h⟩ := Option.bind_eq_some_iff.1 h
    refine zC [] [] (hc_progress_Renamed g a b hv10) [(2, .int .i64 a), (3, .int .i64 b), (4, .bp 4 0), (9, .bp 9 0), (11, .bp 11 0), (41, .tup [.agg [.int .i64 v0_6.1, .own 51000], .int .i64 v0_6.2.2])] [(4, .box 24 [.int .i64 g.1, .sl (.pair (.int .i64) (.pair (.int .i64) (.pair (.int .i64) .bool))) g.2]), (9, .box 24 [.int .i64 v0_3.1, .own 29000]), (11, .box 24 [.int .i64 v0_4.1, .own 35000]), (29000, .arr 61 (.pair (.int .i64) (.pair (.int .i64) (.pair (.int .i64) .bool))) v0_3.2.1), (35000, .arr 61 (.pair (.int .i64) (.pair (.int .i64) (.pair (.int .i64) .bool))) v0_4.2.1), (51000, .arr 61 (.pair (.int .i64) (.pair (.int .i64) (.pair (.int .i64) .bool))) v0_6.2.1)] ?_
    refine zB [(2, .int .i64 a), (3, .int .i64 b), (4, .bp 4 0), (9, .bp 9 0), (10, .int .i64 v0_6.2.2), (11, .bp 11 0)] [(4, .box 24 [.int .i64 g.1, .sl (.pair (.int .i64) (.pair (.int .i64) (.pair (.int .i64) .bool))) g.2]), (9, .box 24 [.int .i64 v0_6.1, .own 51000]), (11, .box 24 [.int .i64 v0_4.1, .own 35000]), (35000, .arr 61 (.pair (.int .i64) (.pair (.int .i64) (.pair (.int .i64) .bool))) v0_4.2.1), (51000, .arr 61 (.pair (.int .i64) (.pair (.int .i64) (.pair (.int .i64) .bool))) v0_6.2.1)] ?_
    refine zo ?_
    refine zS 3 [(2, .int .i64 a), (4, .bp 4 0), (9, .bp 9 0), (10, .int .i64 v0_6.2.2), (11, .bp 11 0), (45, .agg [.int .i64 g.1, .sl (.pair (.int .i64) (.pair (.int .i64) (.pair (.int .i64) .bool))) g.2]), (46, .int .i64 a), (47, .int .i64 b)] [(4, .box 24 [.int .i64 g.1, .sl (.pair (.int .i64) (.pair (.int .i64) (.pair (.int .i64) .bool))) g.2]), (9, .box 24 [.int .i64 v0_6.1, .own 51000]), (11, .box 24 [.int .i64 v0_4.1, .own 35000]), (35000, .arr 61 (.pair (.int .i64) (.pair (.int .i64) (.pair (.int .i64) .bool))) v0_4.2.1), (51000, .arr 61 (.pair (.int .i64) (.pair (.int .i64) (.pair (.int .i64) .bool))) v0_6.2.1)] ?_
    obtain ⟨v0_7, hv11, h⟩ := Option.bind_eq_some_iff.1 h
    refine zC [] [] (hc_linealref07_Renamed g a b hv11) [(2, .int .i64 a), (4, .bp 4 0), (9, .bp 9 0), (10, .int .i64 v0_6.2.2), (11, .bp 11 0), (48, .tup [.agg [.int .i64 v0_7.1, .own 58000], .int .i64 v0_7.2.2])] [(4, .box 24 [.int .i64 g.1, .sl (.pair (.int .i64) (.pair (.int .i64) (.pair (.int .i64) .bool))) g.2]), (9, .box 24 [.int .i64 v0_6.1, .own 51000]), (11, .box 24 [.int .i64 v0_4.1, .own 35000]), (35000, .arr 61 (.pair (.int .i64) (.pair (.int .i64) (.pair (.int .i64) .bool))) v0_4.2.1), (51000, .arr 61 (.pair (.int .i64) (.pair (.int .i64) (.pair (.int .i64) .bool))) v0_6.2.1), (58000, .arr 61 (.pair (.int .i64) (.pair (.int .i64) (.pair (.int .i64) .bool))) v0_7.2.1)] ?_
    refine zB [(2, .int .i64 a), (4, .bp 4 0), (9, .bp 9 0), (10, .int .i64 v0_6.2.2), (11, .bp 11 0), (12, .int .i64 v0_7.2.2)] [(4, .box 24 [.int .i64 g.1, .sl (.pair (.int .i64) (.pair (.int .i64) (.pair (.int .i64) .bool))) g.2]), (9, .box 24 [.int .i64 v0_6.1, .own 51000]), (11, .box 24 [.int .i64 v0_7.1, .own 58000]), (51000, .arr 61 (.pair (.int .i64) (.pair (.int .i64) (.pair (.int .i64) .bool))) v0_6.2.1), (58000, .arr 61 (.pair (.int .i64) (.pair (.int .i64) (.pair (.int .i64) .bool))) v0_7.2.1)] ?_
    refine AW.seq ?_
    refine zo ?_
    refine zS 2 [(2, .int .i64 a), (4, .bp 4 0), (9, .bp 9 0), (10, .int .i64 v0_6.2.2), (11, .bp 11 0), (12, .int .i64 v0_7.2.2), (51, .agg [.int .i64 v0_6.1, .own 51000]), (52, .agg [.int .i64 v0_7.1, .own 58000])] [(4, .box 24 [.int .i64 g.1, .sl (.pair (.int .i64) (.pair (.int .i64) (.pair (.int .i64) .bool))) g.2]), (9, .box 24 [.int .i64 v0_6.1, .own 51000]), (11, .box 24 [.int .i64 v0_7.1, .own 58000]), (51000, .arr 61 (.pair (.int .i64) (.pair (.int .i64) (.pair (.int .i64) .bool))) v0_6.2.1), (58000, .arr 61 (.pair (.int .i64) (.pair (.int .i64) (.pair (.int .i64) .bool))) v0_7.2.1)] ?_
    obtain ⟨v0_8, hv12, h⟩ := Option.bind_eq_some_iff.1 h
    refine zC [51000, 58000] [] (hc_linealref07_Same (v0_6.1, v0_6.2.1) (v0_7.1, v0_7.2.1) hv12) [(2, .int .i64 a), (4, .bp 4 0), (9, .bp 9 0), (10, .int .i64 v0_6.2.2), (11, .bp 11 0), (12, .int .i64 v0_7.2.2), (53, .bool v0_8)] [(4, .box 24 [.int .i64 g.1, .sl (.pair (.int .i64) (.pair (.int .i64) (.pair (.int .i64) .bool))) g.2]), (9, .box 24 [.int .i64 v0_6.1, .own 51000]), (11, .box 24 [.int .i64 v0_7.1, .own 58000]), (51000, .arr 61 (.pair (.int .i64) (.pair (.int .i64) (.pair (.int .i64) .bool))) v0_6.2.1), (58000, .arr 61 (.pair (.int .i64) (.pair (.int .i64) (.pair (.int .i64) .bool))) v0_7.2.1)] ?_
    refine zS 2 [(2, .int .i64 a), (4, .bp 4 0), (9, .bp 9 0), (10, .int .i64 v0_6.2.2), (11, .bp 11 0), (12, .int .i64 v0_7.2.2), (55, .bool (!v0_8))] [(4, .box 24 [.int .i64 g.1, .sl (.pair (.int .i64) (.pair (.int .i64) (.pair (.int .i64) .bool))) g.2]), (9, .box 24 [.int .i64 v0_6.1, .own 51000]), (11, .box 24 [.int .i64 v0_7.1, .own 58000]), (51000, .arr 61 (.pair (.int .i64) (.pair (.int .i64) (.pair (.int .i64) .bool))) v0_6.2.1), (58000, .arr 61 (.pair (.int .i64) (.pair (.int .i64) (.pair (.int .i64) .bool))) v0_7.2.1)] ?_
    rcases zI h with ⟨hb13, h⟩ | ⟨hb13, h⟩
    ·refine zB [(2, .int .i64 a), (4, .bp 4 0), (9, .bp 9 0), (11, .bp 11 0), (59, .bool true)] [(4, .box 24 [.int .i64 g.1, .sl (.pair (.int .i64) (.pair (.int .i64) (.pair (.int .i64) .bool))) g.2]), (9, .box 24 [.int .i64 v0_6.1, .own 51000]), (11, .box 24 [.int .i64 v0_7.1, .own 58000]), (51000, .arr 61 (.pair (.int .i64) (.pair (.int .i64) (.pair (.int .i64) .bool))) v0_6.2.1), (58000, .arr 61 (.pair (.int .i64) (.pair (.int .i64) (.pair (.int .i64) .bool))) v0_7.2.1)] ?_
     refine AW.cond (b := true) rfl (fun _ => ?_) (fun hb14 => by cases hb14)
     refine zo ?_
     refine zB [(8, .bool false)] [] ?_
     refine zr ?_
     obtain rfl := Option.some.inj h
     exact zR [] [] []
    ·refine zB [(2, .int .i64 a), (4, .bp 4 0), (9, .bp 9 0), (11, .bp 11 0), (59, .bool (!(decide (v0_6.2.2 = v0_7.2.2))))] [(4, .box 24 [.int .i64 g.1, .sl (.pair (.int .i64) (.pair (.int .i64) (.pair (.int .i64) .bool))) g.2]), (9, .box 24 [.int .i64 v0_6.1, .own 51000]), (11, .box 24 [.int .i64 v0_7.1, .own 58000]), (51000, .arr 61 (.pair (.int .i64) (.pair (.int .i64) (.pair (.int .i64) .bool))) v0_6.2.1), (58000, .arr 61 (.pair (.int .i64) (.pair (.int .i64) (.pair (.int .i64) .bool))) v0_7.2.1)] ?_
     refine zQ h (fun hb15 h => ?_) (fun hb15 h => ?_)
     ·refine zo ?_
      refine zB [(8, .bool false)] [] ?_
      refine zr ?_
      obtain rfl := Option.some.inj h
      exact zR [] [] []
     ·refine zk ?_
      refine zo ?_
      refine zS 2 [(2, .int .i64 a), (4, .bp 4 0), (9, .bp 9 0), (11, .bp 11 0), (61, .agg [.int .i64 g.1, .sl (.pair (.int .i64) (.pair (.int .i64) (.pair (.int .i64) .bool))) g.2]), (62, .int .i64 a)] [(4, .box 24 [.int .i64 g.1, .sl (.pair (.int .i64) (.pair (.int .i64) (.pair (.int .i64) .bool))) g.2]), (9, .box 24 [.int .i64 v0_6.1, .own 51000]), (11, .box 24 [.int .i64 v0_7.1, .own 58000]), (51000, .arr 61 (.pair (.int .i64) (.pair (.int .i64) (.pair (.int .i64) .bool))) v0_6.2.1), (58000, .arr 61 (.pair (.int .i64) (.pair (.int .i64) (.pair (.int .i64) .bool))) v0_7.2.1)] ?_
      obtain ⟨v0_9, hv16, h⟩ := Option.bind_eq_some_iff.1 h
      refine zC [] [] (hc_progress_Only g a hv16) [(2, .int .i64 a), (4, .bp 4 0), (9, .bp 9 0), (11, .bp 11 0), (63, .tup [.agg [.int .i64 v0_9.1, .own 73000], .int .i64 v0_9.2.2])] [(4, .box 24 [.int .i64 g.1, .sl (.pair (.int .i64) (.pair (.int .i64) (.pair (.int .i64) .bool))) g.2]), (9, .box 24 [.int .i64 v0_6.1, .own 51000]), (11, .box 24 [.int .i64 v0_7.1, .own 58000]), (51000, .arr 61 (.pair (.int .i64) (.pair (.int .i64) (.pair (.int .i64) .bool))) v0_6.2.1), (58000, .arr 61 (.pair (.int .i64) (.pair (.int .i64) (.pair (.int .i64) .bool))) v0_7.2.1), (73000, .arr 61 (.pair (.int .i64) (.pair (.int .i64) (.pair (.int .i64) .bool))) v0_9.2.1)] ?_
      refine zB [(2, .int .i64 a), (4, .bp 4 0), (9, .bp 9 0), (10, .int .i64 v0_9.2.2), (11, .bp 11 0)] [(4, .box 24 [.int .i64 g.1, .sl (.pair (.int .i64) (.pair (.int .i64) (.pair (.int .i64) .bool))) g.2]), (9, .box 24 [.int .i64 v0_9.1, .own 73000]), (11, .box 24 [.int .i64 v0_7.1, .own 58000]), (58000, .arr 61 (.pair (.int .i64) (.pair (.int .i64) (.pair (.int .i64) .bool))) v0_7.2.1), (73000, .arr 61 (.pair (.int .i64) (.pair (.int .i64) (.pair (.int .i64) .bool))) v0_9.2.1)] ?_
      refine zo ?_
      refine zS 2 [(9, .bp 9 0), (10, .int .i64 v0_9.2.2), (11, .bp 11 0), (67, .agg [.int .i64 g.1, .sl (.pair (.int .i64) (.pair (.int .i64) (.pair (.int .i64) .bool))) g.2]), (68, .int .i64 a)] [(9, .box 24 [.int .i64 v0_9.1, .own 73000]), (11, .box 24 [.int .i64 v0_7.1, .own 58000]), (58000, .arr 61 (.pair (.int .i64) (.pair (.int .i64) (.pair (.int .i64) .bool))) v0_7.2.1), (73000, .arr 61 (.pair (.int .i64) (.pair (.int .i64) (.pair (.int .i64) .bool))) v0_9.2.1)] ?_
      obtain ⟨v0_10, hv17, h⟩ := Option.bind_eq_some_iff.1 h
      refine zC [] [] (hc_linealref07_Only g a hv17) [(9, .bp 9 0), (10, .int .i64 v0_9.2.2), (11, .bp 11 0), (69, .tup [.agg [.int .i64 v0_10.1, .own 79000], .int .i64 v0_10.2.2])] [(9, .box 24 [.int .i64 v0_9.1, .own 73000]), (11, .box 24 [.int .i64 v0_7.1, .own 58000]), (58000, .arr 61 (.pair (.int .i64) (.pair (.int .i64) (.pair (.int .i64) .bool))) v0_7.2.1), (73000, .arr 61 (.pair (.int .i64) (.pair (.int .i64) (.pair (.int .i64) .bool))) v0_9.2.1), (79000, .arr 61 (.pair (.int .i64) (.pair (.int .i64) (.pair (.int .i64) .bool))) v0_10.2.1)] ?_
      refine zB [(9, .bp 9 0), (10, .int .i64 v0_9.2.2), (11, .bp 11 0), (12, .int .i64 v0_10.2.2)] [(9, .box 24 [.int .i64 v0_9.1, .own 73000]), (11, .box 24 [.int .i64 v0_10.1, .own 79000]), (73000, .arr 61 (.pair (.int .i64) (.pair (.int .i64) (.pair (.int .i64) .bool))) v0_9.2.1), (79000, .arr 61 (.pair (.int .i64) (.pair (.int .i64) (.pair (.int .i64) .bool))) v0_10.2.1)] ?_
      refine zo ?_
      refine zS 2 [(10, .int .i64 v0_9.2.2), (12, .int .i64 v0_10.2.2), (72, .agg [.int .i64 v0_9.1, .own 73000]), (73, .agg [.int .i64 v0_10.1, .own 79000])] [(73000, .arr 61 (.pair (.int .i64) (.pair (.int .i64) (.pair (.int .i64) .bool))) v0_9.2.1), (79000, .arr 61 (.pair (.int .i64) (.pair (.int .i64) (.pair (.int .i64) .bool))) v0_10.2.1)] ?_
      obtain ⟨v0_11, hv18, h⟩ := Option.bind_eq_some_iff.1 h
      refine zC [73000, 79000] [] (hc_linealref07_Same (v0_9.1, v0_9.2.1) (v0_10.1, v0_10.2.1) hv18) [(10, .int .i64 v0_9.2.2), (12, .int .i64 v0_10.2.2), (74, .bool v0_11)] [] ?_
      refine zS 1 [(10, .int .i64 v0_9.2.2), (12, .int .i64 v0_10.2.2), (75, .bool v0_11)] [] ?_
      rcases zI h with ⟨hb19, h⟩ | ⟨hb19, h⟩
      ·refine zS 5 [(80, .bool (decide (v0_9.2.2 = v0_10.2.2)))] [] ?_
       rcases zI h with ⟨hb20, h⟩ | ⟨hb20, h⟩
       ·refine zT [(80, .bool true)] [] gt ?_
        obtain ⟨v0_12, hv21, h⟩ := Option.bind_eq_some_iff.1 h
        refine zG [] [] (hc_lineallaw07_Awake hv21) [(80, .bool true), (81, .bool v0_12)] [] ?_
        refine zB [(8, .bool v0_12)] [] ?_
        refine AW.ret ?_
        obtain rfl := Option.some.inj h
        exact zR [] [] []
       ·refine zB [(8, .bool false)] [] ?_
        refine AW.ret ?_
        obtain rfl := Option.some.inj h
        exact zR [] [] []
      ·refine zS 5 [(80, .bool false)] [] ?_
       refine zB [(8, .bool false)] [] ?_
       refine AW.ret ?_
       obtain rfl := Option.some.inj h
       exact zR [] [] []

end Go.Proofs.Yteclokkdgmacpaa
