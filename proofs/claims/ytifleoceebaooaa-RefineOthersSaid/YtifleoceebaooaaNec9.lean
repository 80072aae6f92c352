/-
  Made by wip/tool/dc.py out of the print of the program: contracts.
-/
import Derived.Test.YtifleoceebaooaaRfp
import Derived.Test.YtifleoceebaooaaShr
import Derived.Test.YtifleoceebaooaaAvd
import Derived.Test.YtifleoceebaooaaNec4
import Derived.Test.YtifleoceebaooaaNec8
namespace Go.Proofs.Ytifleoceebaooaa
open Go.RowKit

set_option linter.unusedSimpArgs false
set_option linter.unusedVariables false
set_option linter.constructorNameAsVariable false

set_option maxRecDepth 100000
set_option maxHeartbeats 2000000

theorem hc_linealref05_Both (s : Int × (List (Int × Int × Int))) (t : Int × (List (Int × Int × Int))) {r : Int × (List (Int × Int × Int)) × Int} (h : linealref05_Both s t = some r) : HC Try.prog 53 [] [.agg [.int .i64 s.1, .sl (.pair (.int .i64) (.pair (.int .i64) (.int .i64))) s.2], .agg [.int .i64 t.1, .sl (.pair (.int .i64) (.pair (.int .i64) (.int .i64))) t.2]] [(2000, .arr 66 (.pair (.int .i64) (.pair (.int .i64) (.int .i64))) r.2.1)] (.tup [.agg [.int .i64 r.1, .own 2000], .int .i64 r.2.2]) := by
 unfold linealref05_Both at h
 refine zH Try.func53 [.cell 4 24, .tmp 5] 112 ?_
 refine zo ?_
 refine zB [(2, .bp 2 0), (3, .bp 3 0), (4, .bp 4 0)] [(2, .box 24 [.int .i64 s.1, .sl (.pair (.int .i64) (.pair (.int .i64) (.int .i64))) s.2]), (3, .box 24 [.int .i64 t.1, .sl (.pair (.int .i64) (.pair (.int .i64) (.int .i64))) t.2]), (4, .box 24 [.int .i64 0, .cv (.slice none 0 0)])] ?_
 refine AW.seq ?_
 refine zo ?_
 refine zS 1 [(2, .bp 2 0), (3, .bp 3 0), (4, .bp 4 0), (14, .agg [.int .i64 s.1, .sl (.pair (.int .i64) (.pair (.int .i64) (.int .i64))) s.2])] [(2, .box 24 [.int .i64 s.1, .sl (.pair (.int .i64) (.pair (.int .i64) (.int .i64))) s.2]), (3, .box 24 [.int .i64 t.1, .sl (.pair (.int .i64) (.pair (.int .i64) (.int .i64))) t.2]), (4, .box 24 [.int .i64 0, .cv (.slice none 0 0)])] ?_
 obtain ⟨v0, hv1, h⟩ := Option.bind_eq_some_iff.1 h
 refine zC [] [] (hc_linealref05_Valid s hv1) [(2, .bp 2 0), (3, .bp 3 0), (4, .bp 4 0), (15, .bool v0)] [(2, .box 24 [.int .i64 s.1, .sl (.pair (.int .i64) (.pair (.int .i64) (.int .i64))) s.2]), (3, .box 24 [.int .i64 t.1, .sl (.pair (.int .i64) (.pair (.int .i64) (.int .i64))) t.2]), (4, .box 24 [.int .i64 0, .cv (.slice none 0 0)])] ?_
 refine zS 2 [(2, .bp 2 0), (3, .bp 3 0), (4, .bp 4 0), (17, .bool (!v0))] [(2, .box 24 [.int .i64 s.1, .sl (.pair (.int .i64) (.pair (.int .i64) (.int .i64))) s.2]), (3, .box 24 [.int .i64 t.1, .sl (.pair (.int .i64) (.pair (.int .i64) (.int .i64))) t.2]), (4, .box 24 [.int .i64 0, .cv (.slice none 0 0)])] ?_
 rcases zI h with ⟨hb2, h⟩ | ⟨hb2, h⟩
 ·refine zB [(2, .bp 2 0), (3, .bp 3 0), (4, .bp 4 0), (21, .bool true)] [(2, .box 24 [.int .i64 s.1, .sl (.pair (.int .i64) (.pair (.int .i64) (.int .i64))) s.2]), (3, .box 24 [.int .i64 t.1, .sl (.pair (.int .i64) (.pair (.int .i64) (.int .i64))) t.2]), (4, .box 24 [.int .i64 0, .cv (.slice none 0 0)])] ?_
  refine AW.cond (b := true) rfl (fun _ => ?_) (fun hb3 => by cases hb3)
  refine zo ?_
  refine zB [(4, .bp 4 0), (5, .int .i64 50)] [(4, .box 24 [.int .i64 0, .cv (.slice none 0 0)])] ?_
  refine zr ?_
  obtain rfl := Option.some.inj h
  exact zR [] [2000] []
 ·refine zS 1 [(2, .bp 2 0), (3, .bp 3 0), (4, .bp 4 0), (17, .bool false), (18, .agg [.int .i64 t.1, .sl (.pair (.int .i64) (.pair (.int .i64) (.int .i64))) t.2])] [(2, .box 24 [.int .i64 s.1, .sl (.pair (.int .i64) (.pair (.int .i64) (.int .i64))) s.2]), (3, .box 24 [.int .i64 t.1, .sl (.pair (.int .i64) (.pair (.int .i64) (.int .i64))) t.2]), (4, .box 24 [.int .i64 0, .cv (.slice none 0 0)])] ?_
  obtain ⟨v0_2, hv4, h⟩ := Option.bind_eq_some_iff.1 h
  refine zG [] [] (hc_linealref05_Valid t hv4) [(2, .bp 2 0), (3, .bp 3 0), (4, .bp 4 0), (17, .bool false), (19, .bool v0_2)] [(2, .box 24 [.int .i64 s.1, .sl (.pair (.int .i64) (.pair (.int .i64) (.int .i64))) s.2]), (3, .box 24 [.int .i64 t.1, .sl (.pair (.int .i64) (.pair (.int .i64) (.int .i64))) t.2]), (4, .box 24 [.int .i64 0, .cv (.slice none 0 0)])] ?_
  refine zB [(2, .bp 2 0), (3, .bp 3 0), (4, .bp 4 0), (21, .bool (!v0_2))] [(2, .box 24 [.int .i64 s.1, .sl (.pair (.int .i64) (.pair (.int .i64) (.int .i64))) s.2]), (3, .box 24 [.int .i64 t.1, .sl (.pair (.int .i64) (.pair (.int .i64) (.int .i64))) t.2]), (4, .box 24 [.int .i64 0, .cv (.slice none 0 0)])] ?_
  refine zQ h (fun hb5 h => ?_) (fun hb5 h => ?_)
  ·refine zo ?_
   refine zB [(4, .bp 4 0), (5, .int .i64 50)] [(4, .box 24 [.int .i64 0, .cv (.slice none 0 0)])] ?_
   refine zr ?_
   obtain rfl := Option.some.inj h
   exact zR [] [2000] []
  ·refine zk ?_
   refine zo ?_
   refine zB [(2, .bp 2 0), (3, .bp 3 0), (4, .bp 4 0), (6, .int .i64 t.1)] [(2, .box 24 [.int .i64 s.1, .sl (.pair (.int .i64) (.pair (.int .i64) (.int .i64))) s.2]), (3, .box 24 [.int .i64 t.1, .sl (.pair (.int .i64) (.pair (.int .i64) (.int .i64))) t.2]), (4, .box 24 [.int .i64 0, .cv (.slice none 0 0)])] ?_
   refine zo ?_
   obtain ⟨c6, h⟩ := ck_some.1 h
   refine zS 5 [(2, .bp 2 0), (3, .bp 3 0), (4, .bp 4 0), (6, .int .i64 t.1), (29, .agg [.int .i64 (s.1 * t.1), .cv (.slice none 0 0)])] [(2, .box 24 [.int .i64 s.1, .sl (.pair (.int .i64) (.pair (.int .i64) (.int .i64))) s.2]), (3, .box 24 [.int .i64 t.1, .sl (.pair (.int .i64) (.pair (.int .i64) (.int .i64))) t.2]), (4, .box 24 [.int .i64 0, .cv (.slice none 0 0)])] ?_
   refine zB [(2, .bp 2 0), (3, .bp 3 0), (4, .bp 4 0), (6, .int .i64 t.1), (7, .bp 7 0)] [(2, .box 24 [.int .i64 s.1, .sl (.pair (.int .i64) (.pair (.int .i64) (.int .i64))) s.2]), (3, .box 24 [.int .i64 t.1, .sl (.pair (.int .i64) (.pair (.int .i64) (.int .i64))) t.2]), (4, .box 24 [.int .i64 0, .cv (.slice none 0 0)]), (7, .box 24 [.int .i64 (s.1 * t.1), .cv (.slice none 0 0)])] ?_
   refine AW.seq ?_
   refine zo ?_
   refine zB [(2, .bp 2 0), (3, .bp 3 0), (4, .bp 4 0), (6, .int .i64 t.1), (7, .bp 7 0), (32, .bool (decide (6 < (s.1 * t.1))))] [(2, .box 24 [.int .i64 s.1, .sl (.pair (.int .i64) (.pair (.int .i64) (.int .i64))) s.2]), (3, .box 24 [.int .i64 t.1, .sl (.pair (.int .i64) (.pair (.int .i64) (.int .i64))) t.2]), (4, .box 24 [.int .i64 0, .cv (.slice none 0 0)]), (7, .box 24 [.int .i64 (s.1 * t.1), .cv (.slice none 0 0)])] ?_
   refine zQ h (fun hb7 h => ?_) (fun hb7 h => ?_)
   ·refine zo ?_
    refine zB [(4, .bp 4 0), (5, .int .i64 4)] [(4, .box 24 [.int .i64 0, .cv (.slice none 0 0)])] ?_
    refine zr ?_
    obtain rfl := Option.some.inj h
    exact zR [] [2000] []
   ·refine zk ?_
    refine AW.have1 (fun b4_4 : (List (Int × Int × Int)) => linealref05_Both_k1 s t b4_4 = some r) (fun b4_4 => ⟨fr [(4, .bp 4 0), (7, .bp 7 0)], hpGet [(4, .box 24 [.int .i64 0, .cv (.slice none 0 0)]), (7, .box 24 [.int .i64 (s.1 * t.1), .own 101]), (101, .arr 66 (.pair (.int .i64) (.pair (.int .i64) (.int .i64))) b4_4)], gt⟩) (fun b4_4 h => ?_) (fun hk_linealref05_Both_k1 => ?_)
    ·as_aux_lemma =>
      unfold linealref05_Both_k1 at h
      refine AW.seq ?_
      refine zo ?_
      refine zB [(4, .bp 4 0), (7, .bp 7 0), (109, .bool (decide (24 < (b4_4.length : Int))))] [(4, .box 24 [.int .i64 0, .cv (.slice none 0 0)]), (7, .box 24 [.int .i64 (s.1 * t.1), .own 101]), (101, .arr 66 (.pair (.int .i64) (.pair (.int .i64) (.int .i64))) b4_4)] ?_
      refine zQ h (fun hb8 h => ?_) (fun hb8 h => ?_)
      ·refine zo ?_
       refine zB [(4, .bp 4 0), (5, .int .i64 4)] [(4, .box 24 [.int .i64 0, .cv (.slice none 0 0)])] ?_
       refine zr ?_
       obtain rfl := Option.some.inj h
       exact zR [] [2000] []
      ·refine zk ?_
       refine zo ?_
       refine zB [(4, .bp 4 0), (5, .int .i64 0)] [(4, .box 24 [.int .i64 (s.1 * t.1), .own 101]), (101, .arr 66 (.pair (.int .i64) (.pair (.int .i64) (.int .i64))) b4_4)] ?_
       refine AW.ret ?_
       obtain rfl := Option.some.inj h
       exact zR [] [] [(2000, 101)]
    ·refine AW.seq ?_
     refine zo ?_
     refine zB [(2, .bp 2 0), (3, .bp 3 0), (4, .bp 4 0), (6, .int .i64 t.1), (7, .bp 7 0), (35, .int .i64 (s.1 * t.1)), (36, .int .i64 0)] [(2, .box 24 [.int .i64 s.1, .sl (.pair (.int .i64) (.pair (.int .i64) (.int .i64))) s.2]), (3, .box 24 [.int .i64 t.1, .sl (.pair (.int .i64) (.pair (.int .i64) (.int .i64))) t.2]), (4, .box 24 [.int .i64 0, .cv (.slice none 0 0)]), (7, .box 24 [.int .i64 (s.1 * t.1), .cv (.slice none 0 0)])] ?_
     refine AW.block ?_
     obtain ⟨rv13, hw9, ho10⟩ := Option.bind_eq_some_iff.1 h
     refine AW.loopO (linealref05_Both_b1 s t) (fun st1 => ⟨fr [(2, .bp 2 0), (3, .bp 3 0), (4, .bp 4 0), (6, .int .i64 t.1), (7, .bp 7 0), (35, .int .i64 (s.1 * t.1)), (36, .int .i64 st1.2)], hpGet [(2, .box 24 [.int .i64 s.1, .sl (.pair (.int .i64) (.pair (.int .i64) (.int .i64))) s.2]), (3, .box 24 [.int .i64 t.1, .sl (.pair (.int .i64) (.pair (.int .i64) (.int .i64))) t.2]), (4, .box 24 [.int .i64 0, .cv (.slice none 0 0)]), (7, .box 24 [.int .i64 (s.1 * t.1), .own 101]), (101, .arr 66 (.pair (.int .i64) (.pair (.int .i64) (.int .i64))) st1.1)], gt⟩) ([], 0) hw9 (zL [] [101] []) ?_
     as_aux_lemma =>
      intro st1 x12 h hd11
      unfold linealref05_Both_b1 at h
      refine zo ?_
      refine zB [(2, .bp 2 0), (3, .bp 3 0), (4, .bp 4 0), (6, .int .i64 t.1), (7, .bp 7 0), (35, .int .i64 (s.1 * t.1)), (36, .int .i64 st1.2), (37, .bool (decide (st1.2 < (s.1 * t.1))))] [(2, .box 24 [.int .i64 s.1, .sl (.pair (.int .i64) (.pair (.int .i64) (.int .i64))) s.2]), (3, .box 24 [.int .i64 t.1, .sl (.pair (.int .i64) (.pair (.int .i64) (.int .i64))) t.2]), (4, .box 24 [.int .i64 0, .cv (.slice none 0 0)]), (7, .box 24 [.int .i64 (s.1 * t.1), .own 101]), (101, .arr 66 (.pair (.int .i64) (.pair (.int .i64) (.int .i64))) st1.1)] ?_
      refine AW.seq ?_
      refine zQ h (fun hb14 h => ?_) (fun hb14 h => ?_)
      ·refine zk ?_
       refine AW.have1 (fun b4_3 : (List (Int × Int × Int)) => linealref05_Both_k2 st1 b4_3 = some x12) (fun b4_3 => ⟨fr [(2, .bp 2 0), (3, .bp 3 0), (4, .bp 4 0), (6, .int .i64 t.1), (7, .bp 7 0), (35, .int .i64 (s.1 * t.1)), (36, .int .i64 st1.2)], hpGet [(2, .box 24 [.int .i64 s.1, .sl (.pair (.int .i64) (.pair (.int .i64) (.int .i64))) s.2]), (3, .box 24 [.int .i64 t.1, .sl (.pair (.int .i64) (.pair (.int .i64) (.int .i64))) t.2]), (4, .box 24 [.int .i64 0, .cv (.slice none 0 0)]), (7, .box 24 [.int .i64 (s.1 * t.1), .own 101]), (101, .arr 66 (.pair (.int .i64) (.pair (.int .i64) (.int .i64))) b4_3)], gt⟩) (fun b4_3 h => ?_) (fun hk_linealref05_Both_k2 => ?_)
       ·as_aux_lemma =>
         unfold linealref05_Both_k2 at h
         refine AW.ops ?_
         obtain ⟨c15, h⟩ := ck_some.1 h
         refine zA [(2, .bp 2 0), (3, .bp 3 0), (4, .bp 4 0), (6, .int .i64 t.1), (7, .bp 7 0), (35, .int .i64 (s.1 * t.1)), (36, .int .i64 (st1.2 + 1))] [(2, .box 24 [.int .i64 s.1, .sl (.pair (.int .i64) (.pair (.int .i64) (.int .i64))) s.2]), (3, .box 24 [.int .i64 t.1, .sl (.pair (.int .i64) (.pair (.int .i64) (.int .i64))) t.2]), (4, .box 24 [.int .i64 0, .cv (.slice none 0 0)]), (7, .box 24 [.int .i64 (s.1 * t.1), .own 101]), (101, .arr 66 (.pair (.int .i64) (.pair (.int .i64) (.int .i64))) b4_3)] ?_
         obtain rfl := Option.some.inj h
         exact ⟨_, rfl, zL [] [] []⟩
       ·refine AW.seq ?_
        refine AW.block ?_
        refine zo ?_
        refine zB [(2, .bp 2 0), (3, .bp 3 0), (4, .bp 4 0), (6, .int .i64 t.1), (7, .bp 7 0), (8, .int .i64 st1.2), (35, .int .i64 (s.1 * t.1)), (36, .int .i64 st1.2)] [(2, .box 24 [.int .i64 s.1, .sl (.pair (.int .i64) (.pair (.int .i64) (.int .i64))) s.2]), (3, .box 24 [.int .i64 t.1, .sl (.pair (.int .i64) (.pair (.int .i64) (.int .i64))) t.2]), (4, .box 24 [.int .i64 0, .cv (.slice none 0 0)]), (7, .box 24 [.int .i64 (s.1 * t.1), .own 101]), (101, .arr 66 (.pair (.int .i64) (.pair (.int .i64) (.int .i64))) st1.1)] ?_
        refine zo ?_
        refine zB [(2, .bp 2 0), (3, .bp 3 0), (4, .bp 4 0), (6, .int .i64 t.1), (7, .bp 7 0), (8, .int .i64 st1.2), (35, .int .i64 (s.1 * t.1)), (36, .int .i64 st1.2), (39, .int .i64 0)] [(2, .box 24 [.int .i64 s.1, .sl (.pair (.int .i64) (.pair (.int .i64) (.int .i64))) s.2]), (3, .box 24 [.int .i64 t.1, .sl (.pair (.int .i64) (.pair (.int .i64) (.int .i64))) t.2]), (4, .box 24 [.int .i64 0, .cv (.slice none 0 0)]), (7, .box 24 [.int .i64 (s.1 * t.1), .own 101]), (101, .arr 66 (.pair (.int .i64) (.pair (.int .i64) (.int .i64))) st1.1)] ?_
        refine AW.block ?_
        obtain ⟨rv20, hw16, ho17⟩ := Option.bind_eq_some_iff.1 h
        refine AW.loopO (linealref05_Both_b2 s t st1) (fun st2 => ⟨fr [(2, .bp 2 0), (3, .bp 3 0), (4, .bp 4 0), (6, .int .i64 t.1), (7, .bp 7 0), (8, .int .i64 st1.2), (35, .int .i64 (s.1 * t.1)), (36, .int .i64 st1.2), (39, .int .i64 st2.2)], hpGet [(2, .box 24 [.int .i64 s.1, .sl (.pair (.int .i64) (.pair (.int .i64) (.int .i64))) s.2]), (3, .box 24 [.int .i64 t.1, .sl (.pair (.int .i64) (.pair (.int .i64) (.int .i64))) t.2]), (4, .box 24 [.int .i64 0, .cv (.slice none 0 0)]), (7, .box 24 [.int .i64 (s.1 * t.1), .own 101]), (101, .arr 66 (.pair (.int .i64) (.pair (.int .i64) (.int .i64))) st2.1)], gt⟩) (st1.1, 0) hw16 (zL [] [] []) ?_
        as_aux_lemma =>
         intro st2 x19 h hd18
         unfold linealref05_Both_b2 at h
         refine zo ?_
         refine zB [(2, .bp 2 0), (3, .bp 3 0), (4, .bp 4 0), (6, .int .i64 t.1), (7, .bp 7 0), (8, .int .i64 st1.2), (35, .int .i64 (s.1 * t.1)), (36, .int .i64 st1.2), (39, .int .i64 st2.2), (40, .bool (decide (st2.2 < 4)))] [(2, .box 24 [.int .i64 s.1, .sl (.pair (.int .i64) (.pair (.int .i64) (.int .i64))) s.2]), (3, .box 24 [.int .i64 t.1, .sl (.pair (.int .i64) (.pair (.int .i64) (.int .i64))) t.2]), (4, .box 24 [.int .i64 0, .cv (.slice none 0 0)]), (7, .box 24 [.int .i64 (s.1 * t.1), .own 101]), (101, .arr 66 (.pair (.int .i64) (.pair (.int .i64) (.int .i64))) st2.1)] ?_
         refine AW.seq ?_
         refine zQ h (fun hb21 h => ?_) (fun hb21 h => ?_)
         ·refine zk ?_
          refine AW.have1 (fun b4_2 : (List (Int × Int × Int)) => linealref05_Both_k3 st2 b4_2 = some x19) (fun b4_2 => ⟨fr [(2, .bp 2 0), (3, .bp 3 0), (4, .bp 4 0), (6, .int .i64 t.1), (7, .bp 7 0), (8, .int .i64 st1.2), (35, .int .i64 (s.1 * t.1)), (36, .int .i64 st1.2), (39, .int .i64 st2.2)], hpGet [(2, .box 24 [.int .i64 s.1, .sl (.pair (.int .i64) (.pair (.int .i64) (.int .i64))) s.2]), (3, .box 24 [.int .i64 t.1, .sl (.pair (.int .i64) (.pair (.int .i64) (.int .i64))) t.2]), (4, .box 24 [.int .i64 0, .cv (.slice none 0 0)]), (7, .box 24 [.int .i64 (s.1 * t.1), .own 101]), (101, .arr 66 (.pair (.int .i64) (.pair (.int .i64) (.int .i64))) b4_2)], gt⟩) (fun b4_2 h => ?_) (fun hk_linealref05_Both_k3 => ?_)
          ·as_aux_lemma =>
            unfold linealref05_Both_k3 at h
            refine AW.ops ?_
            obtain ⟨c22, h⟩ := ck_some.1 h
            refine zA [(2, .bp 2 0), (3, .bp 3 0), (4, .bp 4 0), (6, .int .i64 t.1), (7, .bp 7 0), (8, .int .i64 st1.2), (35, .int .i64 (s.1 * t.1)), (36, .int .i64 st1.2), (39, .int .i64 (st2.2 + 1))] [(2, .box 24 [.int .i64 s.1, .sl (.pair (.int .i64) (.pair (.int .i64) (.int .i64))) s.2]), (3, .box 24 [.int .i64 t.1, .sl (.pair (.int .i64) (.pair (.int .i64) (.int .i64))) t.2]), (4, .box 24 [.int .i64 0, .cv (.slice none 0 0)]), (7, .box 24 [.int .i64 (s.1 * t.1), .own 101]), (101, .arr 66 (.pair (.int .i64) (.pair (.int .i64) (.int .i64))) b4_2)] ?_
            obtain rfl := Option.some.inj h
            exact ⟨_, rfl, zL [] [] []⟩
          ·refine AW.seq ?_
           refine AW.block ?_
           refine zo ?_
           refine zB [(2, .bp 2 0), (3, .bp 3 0), (4, .bp 4 0), (6, .int .i64 t.1), (7, .bp 7 0), (8, .int .i64 st1.2), (9, .int .i64 st2.2), (35, .int .i64 (s.1 * t.1)), (36, .int .i64 st1.2), (39, .int .i64 st2.2)] [(2, .box 24 [.int .i64 s.1, .sl (.pair (.int .i64) (.pair (.int .i64) (.int .i64))) s.2]), (3, .box 24 [.int .i64 t.1, .sl (.pair (.int .i64) (.pair (.int .i64) (.int .i64))) t.2]), (4, .box 24 [.int .i64 0, .cv (.slice none 0 0)]), (7, .box 24 [.int .i64 (s.1 * t.1), .own 101]), (101, .arr 66 (.pair (.int .i64) (.pair (.int .i64) (.int .i64))) st2.1)] ?_
           refine zo ?_
           refine zB [(2, .bp 2 0), (3, .bp 3 0), (4, .bp 4 0), (6, .int .i64 t.1), (7, .bp 7 0), (8, .int .i64 st1.2), (9, .int .i64 st2.2), (35, .int .i64 (s.1 * t.1)), (36, .int .i64 st1.2), (39, .int .i64 st2.2), (43, .int .i64 (s.1 * t.1)), (44, .int .i64 0)] [(2, .box 24 [.int .i64 s.1, .sl (.pair (.int .i64) (.pair (.int .i64) (.int .i64))) s.2]), (3, .box 24 [.int .i64 t.1, .sl (.pair (.int .i64) (.pair (.int .i64) (.int .i64))) t.2]), (4, .box 24 [.int .i64 0, .cv (.slice none 0 0)]), (7, .box 24 [.int .i64 (s.1 * t.1), .own 101]), (101, .arr 66 (.pair (.int .i64) (.pair (.int .i64) (.int .i64))) st2.1)] ?_
           refine AW.block ?_
           obtain ⟨rv27, hw23, ho24⟩ := Option.bind_eq_some_iff.1 h
           refine AW.loopO (linealref05_Both_b3 s t st1 st2) (fun st3 => ⟨fr [(2, .bp 2 0), (3, .bp 3 0), (4, .bp 4 0), (6, .int .i64 t.1), (7, .bp 7 0), (8, .int .i64 st1.2), (9, .int .i64 st2.2), (35, .int .i64 (s.1 * t.1)), (36, .int .i64 st1.2), (39, .int .i64 st2.2), (43, .int .i64 (s.1 * t.1)), (44, .int .i64 st3.2)], hpGet [(2, .box 24 [.int .i64 s.1, .sl (.pair (.int .i64) (.pair (.int .i64) (.int .i64))) s.2]), (3, .box 24 [.int .i64 t.1, .sl (.pair (.int .i64) (.pair (.int .i64) (.int .i64))) t.2]), (4, .box 24 [.int .i64 0, .cv (.slice none 0 0)]), (7, .box 24 [.int .i64 (s.1 * t.1), .own 101]), (101, .arr 66 (.pair (.int .i64) (.pair (.int .i64) (.int .i64))) st3.1)], gt⟩) (st2.1, 0) hw23 (zL [] [] []) ?_
           as_aux_lemma =>
            intro st3 x26 h hd25
            unfold linealref05_Both_b3 at h
            refine zo ?_
            refine zB [(2, .bp 2 0), (3, .bp 3 0), (4, .bp 4 0), (6, .int .i64 t.1), (7, .bp 7 0), (8, .int .i64 st1.2), (9, .int .i64 st2.2), (35, .int .i64 (s.1 * t.1)), (36, .int .i64 st1.2), (39, .int .i64 st2.2), (43, .int .i64 (s.1 * t.1)), (44, .int .i64 st3.2), (45, .bool (decide (st3.2 < (s.1 * t.1))))] [(2, .box 24 [.int .i64 s.1, .sl (.pair (.int .i64) (.pair (.int .i64) (.int .i64))) s.2]), (3, .box 24 [.int .i64 t.1, .sl (.pair (.int .i64) (.pair (.int .i64) (.int .i64))) t.2]), (4, .box 24 [.int .i64 0, .cv (.slice none 0 0)]), (7, .box 24 [.int .i64 (s.1 * t.1), .own 101]), (101, .arr 66 (.pair (.int .i64) (.pair (.int .i64) (.int .i64))) st3.1)] ?_
            refine AW.seq ?_
            refine zQ h (fun hb28 h => ?_) (fun hb28 h => ?_)
            ·refine zk ?_
             refine AW.seq ?_
             refine AW.block ?_
             refine zo ?_
             refine zB [(2, .bp 2 0), (3, .bp 3 0), (4, .bp 4 0), (6, .int .i64 t.1), (7, .bp 7 0), (8, .int .i64 st1.2), (9, .int .i64 st2.2), (10, .int .i64 st3.2), (35, .int .i64 (s.1 * t.1)), (36, .int .i64 st1.2), (39, .int .i64 st2.2), (43, .int .i64 (s.1 * t.1)), (44, .int .i64 st3.2)] [(2, .box 24 [.int .i64 s.1, .sl (.pair (.int .i64) (.pair (.int .i64) (.int .i64))) s.2]), (3, .box 24 [.int .i64 t.1, .sl (.pair (.int .i64) (.pair (.int .i64) (.int .i64))) t.2]), (4, .box 24 [.int .i64 0, .cv (.slice none 0 0)]), (7, .box 24 [.int .i64 (s.1 * t.1), .own 101]), (101, .arr 66 (.pair (.int .i64) (.pair (.int .i64) (.int .i64))) st3.1)] ?_
             refine AW.seq ?_
             refine AW.draw tab_ok mixed_ok [] [] (by decide) (lex_fast (by kernel_rfl)) ?_
             as_aux_lemma =>
              obtain ⟨c30, h⟩ := ck_some.1 h
              obtain ⟨c31, h⟩ := ck_some.1 h
              obtain ⟨c32, h⟩ := ck_some.1 h
              refine adops_cut 6 (fun K' hK29 => ?_)
              try dsimp only [List.drop_succ_cons, List.drop_zero, List.take_succ_cons, List.take_zero]
              simp only [go_sem, hb2, hb5, hb7, hb14, hb21, hb28]
              repeat with_reducible refine zN ?_
              refine hK29 _ ?_
              as_aux_lemma =>
               obtain ⟨c34, h⟩ := ck_some.1 h
               obtain ⟨c35, h⟩ := ck_some.1 h
               obtain ⟨c36, h⟩ := ck_some.1 h
               refine adops_cut 2 (fun K' hK33 => ?_)
               try dsimp only [List.drop_succ_cons, List.drop_zero, List.take_succ_cons, List.take_zero]
               simp only [go_sem, hb2, hb5, hb7, hb14, hb21, hb28]
               repeat with_reducible refine zN ?_
               refine hK33 _ ?_
               as_aux_lemma =>
                obtain ⟨v0_3, hv37, h⟩ := Option.bind_eq_some_iff.1 h
                refine adops.call (by first | trivial | rfl) rfl rfl rfl (fun _ h => h) [] [] (hc_linealref05_has s (st1.2 / t.1) st2.2 (st3.2 / t.1) hv37) rfl (by (simp only [go_sem, hb2, hb5, hb7, hb14, hb21, hb28]) <;> (with_reducible and_intros) <;> first | assumption | rfl | omega | (unfold maxLen; omega)) (by (simp only [go_sem, hb2, hb5, hb7, hb14, hb21, hb28]) <;> (with_reducible and_intros) <;> first | assumption | rfl | omega | (unfold maxLen; omega)) rfl ?_
                refine adops_cut 1 (fun K' hK38 => ?_)
                try dsimp only [List.drop_succ_cons, List.drop_zero, List.take_succ_cons, List.take_zero]
                simp only [go_sem, hb2, hb5, hb7, hb14, hb21, hb28]
                repeat with_reducible refine zN ?_
                refine hK38 _ ?_
                refine adops_nil ?_
                refine athen_n ?_
                refine zV [(2, .bp 2 0), (3, .bp 3 0), (4, .bp 4 0), (6, .int .i64 t.1), (7, .bp 7 0), (8, .int .i64 st1.2), (9, .int .i64 st2.2), (10, .int .i64 st3.2), (11, .bool v0_3), (35, .int .i64 (s.1 * t.1)), (36, .int .i64 st1.2), (39, .int .i64 st2.2), (43, .int .i64 (s.1 * t.1)), (44, .int .i64 st3.2)] [(2, .box 24 [.int .i64 s.1, .sl (.pair (.int .i64) (.pair (.int .i64) (.int .i64))) s.2]), (3, .box 24 [.int .i64 t.1, .sl (.pair (.int .i64) (.pair (.int .i64) (.int .i64))) t.2]), (4, .box 24 [.int .i64 0, .cv (.slice none 0 0)]), (7, .box 24 [.int .i64 (s.1 * t.1), .own 101]), (101, .arr 66 (.pair (.int .i64) (.pair (.int .i64) (.int .i64))) st3.1)] gt ?_
                as_aux_lemma =>
                 refine AW.seq ?_
                 refine AW.draw tab_ok mixed_ok [] [] (by decide) (lex_fast (by kernel_rfl)) ?_
                 as_aux_lemma =>
                  obtain ⟨c40, h⟩ := ck_some.1 h
                  obtain ⟨c41, h⟩ := ck_some.1 h
                  refine adops_cut 6 (fun K' hK39 => ?_)
                  try dsimp only [List.drop_succ_cons, List.drop_zero, List.take_succ_cons, List.take_zero]
                  simp only [go_sem, hb2, hb5, hb7, hb14, hb21, hb28]
                  repeat with_reducible refine zN ?_
                  refine hK39 _ ?_
                  as_aux_lemma =>
                   obtain ⟨c43, h⟩ := ck_some.1 h
                   obtain ⟨c44, h⟩ := ck_some.1 h
                   refine adops_cut 2 (fun K' hK42 => ?_)
                   try dsimp only [List.drop_succ_cons, List.drop_zero, List.take_succ_cons, List.take_zero]
                   simp only [go_sem, hb2, hb5, hb7, hb14, hb21, hb28]
                   repeat with_reducible refine zN ?_
                   refine hK42 _ ?_
                   as_aux_lemma =>
                    obtain ⟨v0_4, hv45, h⟩ := Option.bind_eq_some_iff.1 h
                    refine adops.call (by first | trivial | rfl) rfl rfl rfl (fun _ h => h) [] [] (hc_linealref05_has t (st1.2 % t.1) st2.2 (st3.2 % t.1) hv45) rfl (by (simp only [go_sem, hb2, hb5, hb7, hb14, hb21, hb28]) <;> (with_reducible and_intros) <;> first | assumption | rfl | omega | (unfold maxLen; omega)) (by (simp only [go_sem, hb2, hb5, hb7, hb14, hb21, hb28]) <;> (with_reducible and_intros) <;> first | assumption | rfl | omega | (unfold maxLen; omega)) rfl ?_
                    refine adops_cut 1 (fun K' hK46 => ?_)
                    try dsimp only [List.drop_succ_cons, List.drop_zero, List.take_succ_cons, List.take_zero]
                    simp only [go_sem, hb2, hb5, hb7, hb14, hb21, hb28]
                    repeat with_reducible refine zN ?_
                    refine hK46 _ ?_
                    refine adops_nil ?_
                    refine athen_n ?_
                    refine zV [(2, .bp 2 0), (3, .bp 3 0), (4, .bp 4 0), (6, .int .i64 t.1), (7, .bp 7 0), (8, .int .i64 st1.2), (9, .int .i64 st2.2), (10, .int .i64 st3.2), (11, .bool v0_3), (12, .bool v0_4), (35, .int .i64 (s.1 * t.1)), (36, .int .i64 st1.2), (39, .int .i64 st2.2), (43, .int .i64 (s.1 * t.1)), (44, .int .i64 st3.2)] [(2, .box 24 [.int .i64 s.1, .sl (.pair (.int .i64) (.pair (.int .i64) (.int .i64))) s.2]), (3, .box 24 [.int .i64 t.1, .sl (.pair (.int .i64) (.pair (.int .i64) (.int .i64))) t.2]), (4, .box 24 [.int .i64 0, .cv (.slice none 0 0)]), (7, .box 24 [.int .i64 (s.1 * t.1), .own 101]), (101, .arr 66 (.pair (.int .i64) (.pair (.int .i64) (.int .i64))) st3.1)] gt ?_
                    as_aux_lemma =>
                     refine AW.have1 (fun b4 : Bool × Bool => linealref05_Both_k4 t st1 st2 st3 v0_4 b4 = some x26) (fun b4 => ⟨fr [(2, .bp 2 0), (3, .bp 3 0), (4, .bp 4 0), (6, .int .i64 t.1), (7, .bp 7 0), (8, .int .i64 st1.2), (9, .int .i64 st2.2), (10, .int .i64 st3.2), (11, .bool b4.1), (12, .bool v0_4), (13, .bool b4.2), (35, .int .i64 (s.1 * t.1)), (36, .int .i64 st1.2), (39, .int .i64 st2.2), (43, .int .i64 (s.1 * t.1)), (44, .int .i64 st3.2)], hpGet [(2, .box 24 [.int .i64 s.1, .sl (.pair (.int .i64) (.pair (.int .i64) (.int .i64))) s.2]), (3, .box 24 [.int .i64 t.1, .sl (.pair (.int .i64) (.pair (.int .i64) (.int .i64))) t.2]), (4, .box 24 [.int .i64 0, .cv (.slice none 0 0)]), (7, .box 24 [.int .i64 (s.1 * t.1), .own 101]), (101, .arr 66 (.pair (.int .i64) (.pair (.int .i64) (.int .i64))) st3.1)], gt⟩) (fun b4 h => ?_) (fun hk_linealref05_Both_k4 => ?_)
                     ·as_aux_lemma =>
                       unfold linealref05_Both_k4 at h
                       refine AW.seq ?_
                       refine zo ?_
                       refine zB [(2, .bp 2 0), (3, .bp 3 0), (4, .bp 4 0), (6, .int .i64 t.1), (7, .bp 7 0), (8, .int .i64 st1.2), (9, .int .i64 st2.2), (10, .int .i64 st3.2), (11, .bool b4.1), (12, .bool v0_4), (13, .bool b4.2), (35, .int .i64 (s.1 * t.1)), (36, .int .i64 st1.2), (39, .int .i64 st2.2), (43, .int .i64 (s.1 * t.1)), (44, .int .i64 st3.2), (70, .bool (decide (st2.2 = 0)))] [(2, .box 24 [.int .i64 s.1, .sl (.pair (.int .i64) (.pair (.int .i64) (.int .i64))) s.2]), (3, .box 24 [.int .i64 t.1, .sl (.pair (.int .i64) (.pair (.int .i64) (.int .i64))) t.2]), (4, .box 24 [.int .i64 0, .cv (.slice none 0 0)]), (7, .box 24 [.int .i64 (s.1 * t.1), .own 101]), (101, .arr 66 (.pair (.int .i64) (.pair (.int .i64) (.int .i64))) st3.1)] ?_
                       refine zQ h (fun hb47 h => ?_) (fun hb47 h => ?_)
                       ·refine AW.draw tab_ok mixed_ok [] [] (by decide) (lex_fast (by kernel_rfl)) ?_
                        as_aux_lemma =>
                         refine adops_cut 2 (fun K' hK48 => ?_)
                         try dsimp only [List.drop_succ_cons, List.drop_zero, List.take_succ_cons, List.take_zero]
                         simp only [go_sem, hb2, hb5, hb7, hb14, hb21, hb28, hb47]
                         repeat with_reducible refine zN ?_
                         refine hK48 _ ?_
                         as_aux_lemma =>
                          rcases zI h with ⟨hb49, h⟩ | ⟨hb49, h⟩
                          ·simp only [hb49]
                           as_aux_lemma =>
                            obtain ⟨c51, h⟩ := ck_some.1 h
                            obtain ⟨c52, h⟩ := ck_some.1 h
                            obtain ⟨c53, h⟩ := ck_some.1 h
                            obtain ⟨c54, h⟩ := ck_some.1 h
                            refine adops_cut 6 (fun K' hK50 => ?_)
                            try dsimp only [List.drop_succ_cons, List.drop_zero, List.take_succ_cons, List.take_zero]
                            simp only [go_sem, hb2, hb5, hb7, hb14, hb21, hb28, hb47, hb49]
                            repeat with_reducible refine zN ?_
                            refine hK50 _ ?_
                            as_aux_lemma =>
                             refine adops_cut 3 (fun K' hK55 => ?_)
                             try dsimp only [List.drop_succ_cons, List.drop_zero, List.take_succ_cons, List.take_zero]
                             simp only [go_sem, hb2, hb5, hb7, hb14, hb21, hb28, hb47, hb49]
                             repeat with_reducible refine zN ?_
                             refine hK55 _ ?_
                             as_aux_lemma =>
                              rcases zI h with ⟨hb56, h⟩ | ⟨hb56, h⟩
                              ·simp only [hb56]
                               as_aux_lemma =>
                                refine adops_cut 4 (fun K' hK57 => ?_)
                                try dsimp only [List.drop_succ_cons, List.drop_zero, List.take_succ_cons, List.take_zero]
                                simp only [go_sem, hb2, hb5, hb7, hb14, hb21, hb28, hb47, hb49, hb56]
                                repeat with_reducible refine zN ?_
                                refine hK57 _ ?_
                                as_aux_lemma =>
                                 refine adops_cut 4 (fun K' hK58 => ?_)
                                 try dsimp only [List.drop_succ_cons, List.drop_zero, List.take_succ_cons, List.take_zero]
                                 simp only [go_sem, hb2, hb5, hb7, hb14, hb21, hb28, hb47, hb49, hb56]
                                 repeat with_reducible refine zN ?_
                                 refine hK58 _ ?_
                                 as_aux_lemma =>
                                  refine adops_cut 4 (fun K' hK59 => ?_)
                                  try dsimp only [List.drop_succ_cons, List.drop_zero, List.take_succ_cons, List.take_zero]
                                  simp only [go_sem, hb2, hb5, hb7, hb14, hb21, hb28, hb47, hb49, hb56]
                                  repeat with_reducible refine zN ?_
                                  refine hK59 _ ?_
                                  refine adops_nil ?_
                                  refine athen_n ?_
                                  refine zV [(2, .bp 2 0), (3, .bp 3 0), (4, .bp 4 0), (6, .int .i64 t.1), (7, .bp 7 0), (8, .int .i64 st1.2), (9, .int .i64 st2.2), (10, .int .i64 st3.2), (13, .bool true), (35, .int .i64 (s.1 * t.1)), (36, .int .i64 st1.2), (39, .int .i64 st2.2), (43, .int .i64 (s.1 * t.1)), (44, .int .i64 st3.2)] [(2, .box 24 [.int .i64 s.1, .sl (.pair (.int .i64) (.pair (.int .i64) (.int .i64))) s.2]), (3, .box 24 [.int .i64 t.1, .sl (.pair (.int .i64) (.pair (.int .i64) (.int .i64))) t.2]), (4, .box 24 [.int .i64 0, .cv (.slice none 0 0)]), (7, .box 24 [.int .i64 (s.1 * t.1), .own 101]), (101, .arr 66 (.pair (.int .i64) (.pair (.int .i64) (.int .i64))) st3.1)] gt ?_
                                  as_aux_lemma =>
                                   refine zo ?_
                                   refine zB [(2, .bp 2 0), (3, .bp 3 0), (4, .bp 4 0), (6, .int .i64 t.1), (7, .bp 7 0), (8, .int .i64 st1.2), (9, .int .i64 st2.2), (10, .int .i64 st3.2), (35, .int .i64 (s.1 * t.1)), (36, .int .i64 st1.2), (39, .int .i64 st2.2), (43, .int .i64 (s.1 * t.1)), (44, .int .i64 st3.2), (93, .bool true)] [(2, .box 24 [.int .i64 s.1, .sl (.pair (.int .i64) (.pair (.int .i64) (.int .i64))) s.2]), (3, .box 24 [.int .i64 t.1, .sl (.pair (.int .i64) (.pair (.int .i64) (.int .i64))) t.2]), (4, .box 24 [.int .i64 0, .cv (.slice none 0 0)]), (7, .box 24 [.int .i64 (s.1 * t.1), .own 101]), (101, .arr 66 (.pair (.int .i64) (.pair (.int .i64) (.int .i64))) st3.1)] ?_
                                   refine AW.cond (b := true) rfl (fun _ => ?_) (fun hb60 => by cases hb60)
                                   refine AW.ops ?_
                                   refine zS 5 [(2, .bp 2 0), (3, .bp 3 0), (4, .bp 4 0), (6, .int .i64 t.1), (7, .bp 7 0), (8, .int .i64 st1.2), (9, .int .i64 st2.2), (35, .int .i64 (s.1 * t.1)), (36, .int .i64 st1.2), (39, .int .i64 st2.2), (43, .int .i64 (s.1 * t.1)), (44, .int .i64 st3.2), (95, .own 101), (96, .int .i64 st1.2), (97, .int .i64 st2.2), (98, .int .i64 st3.2)] [(2, .box 24 [.int .i64 s.1, .sl (.pair (.int .i64) (.pair (.int .i64) (.int .i64))) s.2]), (3, .box 24 [.int .i64 t.1, .sl (.pair (.int .i64) (.pair (.int .i64) (.int .i64))) t.2]), (4, .box 24 [.int .i64 0, .cv (.slice none 0 0)]), (7, .box 24 [.int .i64 (s.1 * t.1), .own 101]), (101, .arr 66 (.pair (.int .i64) (.pair (.int .i64) (.int .i64))) st3.1)] ?_
                                   obtain ⟨c61, h⟩ := ck_some.1 h
                                   refine zA [(2, .bp 2 0), (3, .bp 3 0), (4, .bp 4 0), (6, .int .i64 t.1), (7, .bp 7 0), (8, .int .i64 st1.2), (9, .int .i64 st2.2), (35, .int .i64 (s.1 * t.1)), (36, .int .i64 st1.2), (39, .int .i64 st2.2), (43, .int .i64 (s.1 * t.1)), (44, .int .i64 st3.2)] [(2, .box 24 [.int .i64 s.1, .sl (.pair (.int .i64) (.pair (.int .i64) (.int .i64))) s.2]), (3, .box 24 [.int .i64 t.1, .sl (.pair (.int .i64) (.pair (.int .i64) (.int .i64))) t.2]), (4, .box 24 [.int .i64 0, .cv (.slice none 0 0)]), (7, .box 24 [.int .i64 (s.1 * t.1), .own 101]), (101, .arr 66 (.pair (.int .i64) (.pair (.int .i64) (.int .i64))) (st3.1 ++ [(st1.2, st2.2, st3.2)]))] ?_
                                   refine ablock_n ?_
                                   refine athen_n ?_
                                   refine AW.ops ?_
                                   obtain ⟨c62, h⟩ := ck_some.1 h
                                   refine zA [(2, .bp 2 0), (3, .bp 3 0), (4, .bp 4 0), (6, .int .i64 t.1), (7, .bp 7 0), (8, .int .i64 st1.2), (9, .int .i64 st2.2), (35, .int .i64 (s.1 * t.1)), (36, .int .i64 st1.2), (39, .int .i64 st2.2), (43, .int .i64 (s.1 * t.1)), (44, .int .i64 (st3.2 + 1))] [(2, .box 24 [.int .i64 s.1, .sl (.pair (.int .i64) (.pair (.int .i64) (.int .i64))) s.2]), (3, .box 24 [.int .i64 t.1, .sl (.pair (.int .i64) (.pair (.int .i64) (.int .i64))) t.2]), (4, .box 24 [.int .i64 0, .cv (.slice none 0 0)]), (7, .box 24 [.int .i64 (s.1 * t.1), .own 101]), (101, .arr 66 (.pair (.int .i64) (.pair (.int .i64) (.int .i64))) (st3.1 ++ [(st1.2, st2.2, st3.2)]))] ?_
                                   obtain rfl := Option.some.inj h
                                   exact ⟨_, rfl, zL [] [] []⟩
                              ·simp only [hb56]
                               as_aux_lemma =>
                                refine adops_cut 2 (fun K' hK63 => ?_)
                                try dsimp only [List.drop_succ_cons, List.drop_zero, List.take_succ_cons, List.take_zero]
                                simp only [go_sem, hb2, hb5, hb7, hb14, hb21, hb28, hb47, hb49, hb56]
                                repeat with_reducible refine zN ?_
                                refine hK63 _ ?_
                                as_aux_lemma =>
                                 rcases zI h with ⟨hb64, h⟩ | ⟨hb64, h⟩
                                 ·simp only [hb64]
                                  as_aux_lemma =>
                                   obtain ⟨c66, h⟩ := ck_some.1 h
                                   obtain ⟨c67, h⟩ := ck_some.1 h
                                   obtain ⟨c68, h⟩ := ck_some.1 h
                                   obtain ⟨c69, h⟩ := ck_some.1 h
                                   obtain ⟨c70, h⟩ := ck_some.1 h
                                   obtain ⟨c71, h⟩ := ck_some.1 h
                                   refine adops_cut 6 (fun K' hK65 => ?_)
                                   try dsimp only [List.drop_succ_cons, List.drop_zero, List.take_succ_cons, List.take_zero]
                                   simp only [go_sem, hb2, hb5, hb7, hb14, hb21, hb28, hb47, hb49, hb56, hb64]
                                   repeat with_reducible refine zN ?_
                                   refine hK65 _ ?_
                                   as_aux_lemma =>
                                    refine adops_cut 4 (fun K' hK72 => ?_)
                                    try dsimp only [List.drop_succ_cons, List.drop_zero, List.take_succ_cons, List.take_zero]
                                    simp only [go_sem, hb2, hb5, hb7, hb14, hb21, hb28, hb47, hb49, hb56, hb64]
                                    repeat with_reducible refine zN ?_
                                    refine hK72 _ ?_
                                    refine adops_nil ?_
                                    refine athen_n ?_
                                    refine zV [(2, .bp 2 0), (3, .bp 3 0), (4, .bp 4 0), (6, .int .i64 t.1), (7, .bp 7 0), (8, .int .i64 st1.2), (9, .int .i64 st2.2), (10, .int .i64 st3.2), (13, .bool (decide ((st1.2 / t.1) = (st3.2 / t.1)))), (35, .int .i64 (s.1 * t.1)), (36, .int .i64 st1.2), (39, .int .i64 st2.2), (43, .int .i64 (s.1 * t.1)), (44, .int .i64 st3.2)] [(2, .box 24 [.int .i64 s.1, .sl (.pair (.int .i64) (.pair (.int .i64) (.int .i64))) s.2]), (3, .box 24 [.int .i64 t.1, .sl (.pair (.int .i64) (.pair (.int .i64) (.int .i64))) t.2]), (4, .box 24 [.int .i64 0, .cv (.slice none 0 0)]), (7, .box 24 [.int .i64 (s.1 * t.1), .own 101]), (101, .arr 66 (.pair (.int .i64) (.pair (.int .i64) (.int .i64))) st3.1)] gt ?_
                                    as_aux_lemma =>
                                     refine zo ?_
                                     refine zB [(2, .bp 2 0), (3, .bp 3 0), (4, .bp 4 0), (6, .int .i64 t.1), (7, .bp 7 0), (8, .int .i64 st1.2), (9, .int .i64 st2.2), (10, .int .i64 st3.2), (35, .int .i64 (s.1 * t.1)), (36, .int .i64 st1.2), (39, .int .i64 st2.2), (43, .int .i64 (s.1 * t.1)), (44, .int .i64 st3.2), (93, .bool (decide ((st1.2 / t.1) = (st3.2 / t.1))))] [(2, .box 24 [.int .i64 s.1, .sl (.pair (.int .i64) (.pair (.int .i64) (.int .i64))) s.2]), (3, .box 24 [.int .i64 t.1, .sl (.pair (.int .i64) (.pair (.int .i64) (.int .i64))) t.2]), (4, .box 24 [.int .i64 0, .cv (.slice none 0 0)]), (7, .box 24 [.int .i64 (s.1 * t.1), .own 101]), (101, .arr 66 (.pair (.int .i64) (.pair (.int .i64) (.int .i64))) st3.1)] ?_
                                     refine zQ h (fun hb73 h => ?_) (fun hb73 h => ?_)
                                     ·refine AW.ops ?_
                                      refine zS 5 [(2, .bp 2 0), (3, .bp 3 0), (4, .bp 4 0), (6, .int .i64 t.1), (7, .bp 7 0), (8, .int .i64 st1.2), (9, .int .i64 st2.2), (35, .int .i64 (s.1 * t.1)), (36, .int .i64 st1.2), (39, .int .i64 st2.2), (43, .int .i64 (s.1 * t.1)), (44, .int .i64 st3.2), (95, .own 101), (96, .int .i64 st1.2), (97, .int .i64 st2.2), (98, .int .i64 st3.2)] [(2, .box 24 [.int .i64 s.1, .sl (.pair (.int .i64) (.pair (.int .i64) (.int .i64))) s.2]), (3, .box 24 [.int .i64 t.1, .sl (.pair (.int .i64) (.pair (.int .i64) (.int .i64))) t.2]), (4, .box 24 [.int .i64 0, .cv (.slice none 0 0)]), (7, .box 24 [.int .i64 (s.1 * t.1), .own 101]), (101, .arr 66 (.pair (.int .i64) (.pair (.int .i64) (.int .i64))) st3.1)] ?_
                                      obtain ⟨c74, h⟩ := ck_some.1 h
                                      refine zA [(2, .bp 2 0), (3, .bp 3 0), (4, .bp 4 0), (6, .int .i64 t.1), (7, .bp 7 0), (8, .int .i64 st1.2), (9, .int .i64 st2.2), (35, .int .i64 (s.1 * t.1)), (36, .int .i64 st1.2), (39, .int .i64 st2.2), (43, .int .i64 (s.1 * t.1)), (44, .int .i64 st3.2)] [(2, .box 24 [.int .i64 s.1, .sl (.pair (.int .i64) (.pair (.int .i64) (.int .i64))) s.2]), (3, .box 24 [.int .i64 t.1, .sl (.pair (.int .i64) (.pair (.int .i64) (.int .i64))) t.2]), (4, .box 24 [.int .i64 0, .cv (.slice none 0 0)]), (7, .box 24 [.int .i64 (s.1 * t.1), .own 101]), (101, .arr 66 (.pair (.int .i64) (.pair (.int .i64) (.int .i64))) (st3.1 ++ [(st1.2, st2.2, st3.2)]))] ?_
                                      refine ablock_n ?_
                                      refine athen_n ?_
                                      refine AW.ops ?_
                                      obtain ⟨c75, h⟩ := ck_some.1 h
                                      refine zA [(2, .bp 2 0), (3, .bp 3 0), (4, .bp 4 0), (6, .int .i64 t.1), (7, .bp 7 0), (8, .int .i64 st1.2), (9, .int .i64 st2.2), (35, .int .i64 (s.1 * t.1)), (36, .int .i64 st1.2), (39, .int .i64 st2.2), (43, .int .i64 (s.1 * t.1)), (44, .int .i64 (st3.2 + 1))] [(2, .box 24 [.int .i64 s.1, .sl (.pair (.int .i64) (.pair (.int .i64) (.int .i64))) s.2]), (3, .box 24 [.int .i64 t.1, .sl (.pair (.int .i64) (.pair (.int .i64) (.int .i64))) t.2]), (4, .box 24 [.int .i64 0, .cv (.slice none 0 0)]), (7, .box 24 [.int .i64 (s.1 * t.1), .own 101]), (101, .arr 66 (.pair (.int .i64) (.pair (.int .i64) (.int .i64))) (st3.1 ++ [(st1.2, st2.2, st3.2)]))] ?_
                                      obtain rfl := Option.some.inj h
                                      exact ⟨_, rfl, zL [] [] []⟩
                                     ·refine zm ?_
                                      refine athen_n ?_
                                      refine AW.ops ?_
                                      obtain ⟨c76, h⟩ := ck_some.1 h
                                      refine zA [(2, .bp 2 0), (3, .bp 3 0), (4, .bp 4 0), (6, .int .i64 t.1), (7, .bp 7 0), (8, .int .i64 st1.2), (9, .int .i64 st2.2), (35, .int .i64 (s.1 * t.1)), (36, .int .i64 st1.2), (39, .int .i64 st2.2), (43, .int .i64 (s.1 * t.1)), (44, .int .i64 (st3.2 + 1))] [(2, .box 24 [.int .i64 s.1, .sl (.pair (.int .i64) (.pair (.int .i64) (.int .i64))) s.2]), (3, .box 24 [.int .i64 t.1, .sl (.pair (.int .i64) (.pair (.int .i64) (.int .i64))) t.2]), (4, .box 24 [.int .i64 0, .cv (.slice none 0 0)]), (7, .box 24 [.int .i64 (s.1 * t.1), .own 101]), (101, .arr 66 (.pair (.int .i64) (.pair (.int .i64) (.int .i64))) st3.1)] ?_
                                      obtain rfl := Option.some.inj h
                                      exact ⟨_, rfl, zL [] [] []⟩
                                 ·simp only [hb64]
                                  as_aux_lemma =>
                                   refine adops_cut 4 (fun K' hK77 => ?_)
                                   try dsimp only [List.drop_succ_cons, List.drop_zero, List.take_succ_cons, List.take_zero]
                                   simp only [go_sem, hb2, hb5, hb7, hb14, hb21, hb28, hb47, hb49, hb56, hb64]
                                   repeat with_reducible refine zN ?_
                                   refine hK77 _ ?_
                                   as_aux_lemma =>
                                    refine adops_cut 6 (fun K' hK78 => ?_)
                                    try dsimp only [List.drop_succ_cons, List.drop_zero, List.take_succ_cons, List.take_zero]
                                    simp only [go_sem, hb2, hb5, hb7, hb14, hb21, hb28, hb47, hb49, hb56, hb64]
                                    repeat with_reducible refine zN ?_
                                    refine hK78 _ ?_
                                    refine adops_nil ?_
                                    refine athen_n ?_
                                    refine zV [(2, .bp 2 0), (3, .bp 3 0), (4, .bp 4 0), (6, .int .i64 t.1), (7, .bp 7 0), (8, .int .i64 st1.2), (9, .int .i64 st2.2), (10, .int .i64 st3.2), (13, .bool false), (35, .int .i64 (s.1 * t.1)), (36, .int .i64 st1.2), (39, .int .i64 st2.2), (43, .int .i64 (s.1 * t.1)), (44, .int .i64 st3.2)] [(2, .box 24 [.int .i64 s.1, .sl (.pair (.int .i64) (.pair (.int .i64) (.int .i64))) s.2]), (3, .box 24 [.int .i64 t.1, .sl (.pair (.int .i64) (.pair (.int .i64) (.int .i64))) t.2]), (4, .box 24 [.int .i64 0, .cv (.slice none 0 0)]), (7, .box 24 [.int .i64 (s.1 * t.1), .own 101]), (101, .arr 66 (.pair (.int .i64) (.pair (.int .i64) (.int .i64))) st3.1)] gt ?_
                                    as_aux_lemma =>
                                     refine zo ?_
                                     refine zB [(2, .bp 2 0), (3, .bp 3 0), (4, .bp 4 0), (6, .int .i64 t.1), (7, .bp 7 0), (8, .int .i64 st1.2), (9, .int .i64 st2.2), (10, .int .i64 st3.2), (35, .int .i64 (s.1 * t.1)), (36, .int .i64 st1.2), (39, .int .i64 st2.2), (43, .int .i64 (s.1 * t.1)), (44, .int .i64 st3.2), (93, .bool false)] [(2, .box 24 [.int .i64 s.1, .sl (.pair (.int .i64) (.pair (.int .i64) (.int .i64))) s.2]), (3, .box 24 [.int .i64 t.1, .sl (.pair (.int .i64) (.pair (.int .i64) (.int .i64))) t.2]), (4, .box 24 [.int .i64 0, .cv (.slice none 0 0)]), (7, .box 24 [.int .i64 (s.1 * t.1), .own 101]), (101, .arr 66 (.pair (.int .i64) (.pair (.int .i64) (.int .i64))) st3.1)] ?_
                                     refine AW.cond (b := false) rfl (fun hb79 => by cases hb79) (fun _ => ?_)
                                     refine zm ?_
                                     refine athen_n ?_
                                     refine AW.ops ?_
                                     obtain ⟨c80, h⟩ := ck_some.1 h
                                     refine zA [(2, .bp 2 0), (3, .bp 3 0), (4, .bp 4 0), (6, .int .i64 t.1), (7, .bp 7 0), (8, .int .i64 st1.2), (9, .int .i64 st2.2), (35, .int .i64 (s.1 * t.1)), (36, .int .i64 st1.2), (39, .int .i64 st2.2), (43, .int .i64 (s.1 * t.1)), (44, .int .i64 (st3.2 + 1))] [(2, .box 24 [.int .i64 s.1, .sl (.pair (.int .i64) (.pair (.int .i64) (.int .i64))) s.2]), (3, .box 24 [.int .i64 t.1, .sl (.pair (.int .i64) (.pair (.int .i64) (.int .i64))) t.2]), (4, .box 24 [.int .i64 0, .cv (.slice none 0 0)]), (7, .box 24 [.int .i64 (s.1 * t.1), .own 101]), (101, .arr 66 (.pair (.int .i64) (.pair (.int .i64) (.int .i64))) st3.1)] ?_
                                     obtain rfl := Option.some.inj h
                                     exact ⟨_, rfl, zL [] [] []⟩
                          ·simp only [hb49]
                           as_aux_lemma =>
                            refine adops_cut 4 (fun K' hK81 => ?_)
                            try dsimp only [List.drop_succ_cons, List.drop_zero, List.take_succ_cons, List.take_zero]
                            simp only [go_sem, hb2, hb5, hb7, hb14, hb21, hb28, hb47, hb49]
                            repeat with_reducible refine zN ?_
                            refine hK81 _ ?_
                            as_aux_lemma =>
                             refine adops_cut 6 (fun K' hK82 => ?_)
                             try dsimp only [List.drop_succ_cons, List.drop_zero, List.take_succ_cons, List.take_zero]
                             simp only [go_sem, hb2, hb5, hb7, hb14, hb21, hb28, hb47, hb49]
                             repeat with_reducible refine zN ?_
                             refine hK82 _ ?_
                             as_aux_lemma =>
                              refine adops_cut 1 (fun K' hK83 => ?_)
                              try dsimp only [List.drop_succ_cons, List.drop_zero, List.take_succ_cons, List.take_zero]
                              simp only [go_sem, hb2, hb5, hb7, hb14, hb21, hb28, hb47, hb49]
                              repeat with_reducible refine zN ?_
                              refine hK83 _ ?_
                              as_aux_lemma =>
                               rcases zI h with ⟨hb84, h⟩ | ⟨hb84, h⟩
                               ·simp only [hb84]
                                as_aux_lemma =>
                                 obtain ⟨c86, h⟩ := ck_some.1 h
                                 obtain ⟨c87, h⟩ := ck_some.1 h
                                 obtain ⟨c88, h⟩ := ck_some.1 h
                                 obtain ⟨c89, h⟩ := ck_some.1 h
                                 obtain ⟨c90, h⟩ := ck_some.1 h
                                 obtain ⟨c91, h⟩ := ck_some.1 h
                                 refine adops_cut 6 (fun K' hK85 => ?_)
                                 try dsimp only [List.drop_succ_cons, List.drop_zero, List.take_succ_cons, List.take_zero]
                                 simp only [go_sem, hb2, hb5, hb7, hb14, hb21, hb28, hb47, hb49, hb84]
                                 repeat with_reducible refine zN ?_
                                 refine hK85 _ ?_
                                 as_aux_lemma =>
                                  refine adops_cut 4 (fun K' hK92 => ?_)
                                  try dsimp only [List.drop_succ_cons, List.drop_zero, List.take_succ_cons, List.take_zero]
                                  simp only [go_sem, hb2, hb5, hb7, hb14, hb21, hb28, hb47, hb49, hb84]
                                  repeat with_reducible refine zN ?_
                                  refine hK92 _ ?_
                                  refine adops_nil ?_
                                  refine athen_n ?_
                                  refine zV [(2, .bp 2 0), (3, .bp 3 0), (4, .bp 4 0), (6, .int .i64 t.1), (7, .bp 7 0), (8, .int .i64 st1.2), (9, .int .i64 st2.2), (10, .int .i64 st3.2), (13, .bool (decide ((st1.2 / t.1) = (st3.2 / t.1)))), (35, .int .i64 (s.1 * t.1)), (36, .int .i64 st1.2), (39, .int .i64 st2.2), (43, .int .i64 (s.1 * t.1)), (44, .int .i64 st3.2)] [(2, .box 24 [.int .i64 s.1, .sl (.pair (.int .i64) (.pair (.int .i64) (.int .i64))) s.2]), (3, .box 24 [.int .i64 t.1, .sl (.pair (.int .i64) (.pair (.int .i64) (.int .i64))) t.2]), (4, .box 24 [.int .i64 0, .cv (.slice none 0 0)]), (7, .box 24 [.int .i64 (s.1 * t.1), .own 101]), (101, .arr 66 (.pair (.int .i64) (.pair (.int .i64) (.int .i64))) st3.1)] gt ?_
                                  as_aux_lemma =>
                                   refine zo ?_
                                   refine zB [(2, .bp 2 0), (3, .bp 3 0), (4, .bp 4 0), (6, .int .i64 t.1), (7, .bp 7 0), (8, .int .i64 st1.2), (9, .int .i64 st2.2), (10, .int .i64 st3.2), (35, .int .i64 (s.1 * t.1)), (36, .int .i64 st1.2), (39, .int .i64 st2.2), (43, .int .i64 (s.1 * t.1)), (44, .int .i64 st3.2), (93, .bool (decide ((st1.2 / t.1) = (st3.2 / t.1))))] [(2, .box 24 [.int .i64 s.1, .sl (.pair (.int .i64) (.pair (.int .i64) (.int .i64))) s.2]), (3, .box 24 [.int .i64 t.1, .sl (.pair (.int .i64) (.pair (.int .i64) (.int .i64))) t.2]), (4, .box 24 [.int .i64 0, .cv (.slice none 0 0)]), (7, .box 24 [.int .i64 (s.1 * t.1), .own 101]), (101, .arr 66 (.pair (.int .i64) (.pair (.int .i64) (.int .i64))) st3.1)] ?_
                                   refine zQ h (fun hb93 h => ?_) (fun hb93 h => ?_)
                                   ·refine AW.ops ?_
                                    refine zS 5 [(2, .bp 2 0), (3, .bp 3 0), (4, .bp 4 0), (6, .int .i64 t.1), (7, .bp 7 0), (8, .int .i64 st1.2), (9, .int .i64 st2.2), (35, .int .i64 (s.1 * t.1)), (36, .int .i64 st1.2), (39, .int .i64 st2.2), (43, .int .i64 (s.1 * t.1)), (44, .int .i64 st3.2), (95, .own 101), (96, .int .i64 st1.2), (97, .int .i64 st2.2), (98, .int .i64 st3.2)] [(2, .box 24 [.int .i64 s.1, .sl (.pair (.int .i64) (.pair (.int .i64) (.int .i64))) s.2]), (3, .box 24 [.int .i64 t.1, .sl (.pair (.int .i64) (.pair (.int .i64) (.int .i64))) t.2]), (4, .box 24 [.int .i64 0, .cv (.slice none 0 0)]), (7, .box 24 [.int .i64 (s.1 * t.1), .own 101]), (101, .arr 66 (.pair (.int .i64) (.pair (.int .i64) (.int .i64))) st3.1)] ?_
                                    obtain ⟨c94, h⟩ := ck_some.1 h
                                    refine zA [(2, .bp 2 0), (3, .bp 3 0), (4, .bp 4 0), (6, .int .i64 t.1), (7, .bp 7 0), (8, .int .i64 st1.2), (9, .int .i64 st2.2), (35, .int .i64 (s.1 * t.1)), (36, .int .i64 st1.2), (39, .int .i64 st2.2), (43, .int .i64 (s.1 * t.1)), (44, .int .i64 st3.2)] [(2, .box 24 [.int .i64 s.1, .sl (.pair (.int .i64) (.pair (.int .i64) (.int .i64))) s.2]), (3, .box 24 [.int .i64 t.1, .sl (.pair (.int .i64) (.pair (.int .i64) (.int .i64))) t.2]), (4, .box 24 [.int .i64 0, .cv (.slice none 0 0)]), (7, .box 24 [.int .i64 (s.1 * t.1), .own 101]), (101, .arr 66 (.pair (.int .i64) (.pair (.int .i64) (.int .i64))) (st3.1 ++ [(st1.2, st2.2, st3.2)]))] ?_
                                    refine ablock_n ?_
                                    refine athen_n ?_
                                    refine AW.ops ?_
                                    obtain ⟨c95, h⟩ := ck_some.1 h
                                    refine zA [(2, .bp 2 0), (3, .bp 3 0), (4, .bp 4 0), (6, .int .i64 t.1), (7, .bp 7 0), (8, .int .i64 st1.2), (9, .int .i64 st2.2), (35, .int .i64 (s.1 * t.1)), (36, .int .i64 st1.2), (39, .int .i64 st2.2), (43, .int .i64 (s.1 * t.1)), (44, .int .i64 (st3.2 + 1))] [(2, .box 24 [.int .i64 s.1, .sl (.pair (.int .i64) (.pair (.int .i64) (.int .i64))) s.2]), (3, .box 24 [.int .i64 t.1, .sl (.pair (.int .i64) (.pair (.int .i64) (.int .i64))) t.2]), (4, .box 24 [.int .i64 0, .cv (.slice none 0 0)]), (7, .box 24 [.int .i64 (s.1 * t.1), .own 101]), (101, .arr 66 (.pair (.int .i64) (.pair (.int .i64) (.int .i64))) (st3.1 ++ [(st1.2, st2.2, st3.2)]))] ?_
                                    obtain rfl := Option.some.inj h
                                    exact ⟨_, rfl, zL [] [] []⟩
                                   ·refine zm ?_
                                    refine athen_n ?_
                                    refine AW.ops ?_
                                    obtain ⟨c96, h⟩ := ck_some.1 h
                                    refine zA [(2, .bp 2 0), (3, .bp 3 0), (4, .bp 4 0), (6, .int .i64 t.1), (7, .bp 7 0), (8, .int .i64 st1.2), (9, .int .i64 st2.2), (35, .int .i64 (s.1 * t.1)), (36, .int .i64 st1.2), (39, .int .i64 st2.2), (43, .int .i64 (s.1 * t.1)), (44, .int .i64 (st3.2 + 1))] [(2, .box 24 [.int .i64 s.1, .sl (.pair (.int .i64) (.pair (.int .i64) (.int .i64))) s.2]), (3, .box 24 [.int .i64 t.1, .sl (.pair (.int .i64) (.pair (.int .i64) (.int .i64))) t.2]), (4, .box 24 [.int .i64 0, .cv (.slice none 0 0)]), (7, .box 24 [.int .i64 (s.1 * t.1), .own 101]), (101, .arr 66 (.pair (.int .i64) (.pair (.int .i64) (.int .i64))) st3.1)] ?_
                                    obtain rfl := Option.some.inj h
                                    exact ⟨_, rfl, zL [] [] []⟩
                               ·simp only [hb84]
                                as_aux_lemma =>
                                 refine adops_cut 4 (fun K' hK97 => ?_)
                                 try dsimp only [List.drop_succ_cons, List.drop_zero, List.take_succ_cons, List.take_zero]
                                 simp only [go_sem, hb2, hb5, hb7, hb14, hb21, hb28, hb47, hb49, hb84]
                                 repeat with_reducible refine zN ?_
                                 refine hK97 _ ?_
                                 as_aux_lemma =>
                                  refine adops_cut 6 (fun K' hK98 => ?_)
                                  try dsimp only [List.drop_succ_cons, List.drop_zero, List.take_succ_cons, List.take_zero]
                                  simp only [go_sem, hb2, hb5, hb7, hb14, hb21, hb28, hb47, hb49, hb84]
                                  repeat with_reducible refine zN ?_
                                  refine hK98 _ ?_
                                  refine adops_nil ?_
                                  refine athen_n ?_
                                  refine zV [(2, .bp 2 0), (3, .bp 3 0), (4, .bp 4 0), (6, .int .i64 t.1), (7, .bp 7 0), (8, .int .i64 st1.2), (9, .int .i64 st2.2), (10, .int .i64 st3.2), (13, .bool false), (35, .int .i64 (s.1 * t.1)), (36, .int .i64 st1.2), (39, .int .i64 st2.2), (43, .int .i64 (s.1 * t.1)), (44, .int .i64 st3.2)] [(2, .box 24 [.int .i64 s.1, .sl (.pair (.int .i64) (.pair (.int .i64) (.int .i64))) s.2]), (3, .box 24 [.int .i64 t.1, .sl (.pair (.int .i64) (.pair (.int .i64) (.int .i64))) t.2]), (4, .box 24 [.int .i64 0, .cv (.slice none 0 0)]), (7, .box 24 [.int .i64 (s.1 * t.1), .own 101]), (101, .arr 66 (.pair (.int .i64) (.pair (.int .i64) (.int .i64))) st3.1)] gt ?_
                                  as_aux_lemma =>
                                   refine zo ?_
                                   refine zB [(2, .bp 2 0), (3, .bp 3 0), (4, .bp 4 0), (6, .int .i64 t.1), (7, .bp 7 0), (8, .int .i64 st1.2), (9, .int .i64 st2.2), (10, .int .i64 st3.2), (35, .int .i64 (s.1 * t.1)), (36, .int .i64 st1.2), (39, .int .i64 st2.2), (43, .int .i64 (s.1 * t.1)), (44, .int .i64 st3.2), (93, .bool false)] [(2, .box 24 [.int .i64 s.1, .sl (.pair (.int .i64) (.pair (.int .i64) (.int .i64))) s.2]), (3, .box 24 [.int .i64 t.1, .sl (.pair (.int .i64) (.pair (.int .i64) (.int .i64))) t.2]), (4, .box 24 [.int .i64 0, .cv (.slice none 0 0)]), (7, .box 24 [.int .i64 (s.1 * t.1), .own 101]), (101, .arr 66 (.pair (.int .i64) (.pair (.int .i64) (.int .i64))) st3.1)] ?_
                                   refine AW.cond (b := false) rfl (fun hb99 => by cases hb99) (fun _ => ?_)
                                   refine zm ?_
                                   refine athen_n ?_
                                   refine AW.ops ?_
                                   obtain ⟨c100, h⟩ := ck_some.1 h
                                   refine zA [(2, .bp 2 0), (3, .bp 3 0), (4, .bp 4 0), (6, .int .i64 t.1), (7, .bp 7 0), (8, .int .i64 st1.2), (9, .int .i64 st2.2), (35, .int .i64 (s.1 * t.1)), (36, .int .i64 st1.2), (39, .int .i64 st2.2), (43, .int .i64 (s.1 * t.1)), (44, .int .i64 (st3.2 + 1))] [(2, .box 24 [.int .i64 s.1, .sl (.pair (.int .i64) (.pair (.int .i64) (.int .i64))) s.2]), (3, .box 24 [.int .i64 t.1, .sl (.pair (.int .i64) (.pair (.int .i64) (.int .i64))) t.2]), (4, .box 24 [.int .i64 0, .cv (.slice none 0 0)]), (7, .box 24 [.int .i64 (s.1 * t.1), .own 101]), (101, .arr 66 (.pair (.int .i64) (.pair (.int .i64) (.int .i64))) st3.1)] ?_
                                   obtain rfl := Option.some.inj h
                                   exact ⟨_, rfl, zL [] [] []⟩
                       ·refine zk ?_
                        refine zo ?_
                        refine zB [(2, .bp 2 0), (3, .bp 3 0), (4, .bp 4 0), (6, .int .i64 t.1), (7, .bp 7 0), (8, .int .i64 st1.2), (9, .int .i64 st2.2), (10, .int .i64 st3.2), (35, .int .i64 (s.1 * t.1)), (36, .int .i64 st1.2), (39, .int .i64 st2.2), (43, .int .i64 (s.1 * t.1)), (44, .int .i64 st3.2), (93, .bool b4.2)] [(2, .box 24 [.int .i64 s.1, .sl (.pair (.int .i64) (.pair (.int .i64) (.int .i64))) s.2]), (3, .box 24 [.int .i64 t.1, .sl (.pair (.int .i64) (.pair (.int .i64) (.int .i64))) t.2]), (4, .box 24 [.int .i64 0, .cv (.slice none 0 0)]), (7, .box 24 [.int .i64 (s.1 * t.1), .own 101]), (101, .arr 66 (.pair (.int .i64) (.pair (.int .i64) (.int .i64))) st3.1)] ?_
                        refine zQ h (fun hb101 h => ?_) (fun hb101 h => ?_)
                        ·refine AW.ops ?_
                         refine zS 5 [(2, .bp 2 0), (3, .bp 3 0), (4, .bp 4 0), (6, .int .i64 t.1), (7, .bp 7 0), (8, .int .i64 st1.2), (9, .int .i64 st2.2), (35, .int .i64 (s.1 * t.1)), (36, .int .i64 st1.2), (39, .int .i64 st2.2), (43, .int .i64 (s.1 * t.1)), (44, .int .i64 st3.2), (95, .own 101), (96, .int .i64 st1.2), (97, .int .i64 st2.2), (98, .int .i64 st3.2)] [(2, .box 24 [.int .i64 s.1, .sl (.pair (.int .i64) (.pair (.int .i64) (.int .i64))) s.2]), (3, .box 24 [.int .i64 t.1, .sl (.pair (.int .i64) (.pair (.int .i64) (.int .i64))) t.2]), (4, .box 24 [.int .i64 0, .cv (.slice none 0 0)]), (7, .box 24 [.int .i64 (s.1 * t.1), .own 101]), (101, .arr 66 (.pair (.int .i64) (.pair (.int .i64) (.int .i64))) st3.1)] ?_
                         obtain ⟨c102, h⟩ := ck_some.1 h
                         refine zA [(2, .bp 2 0), (3, .bp 3 0), (4, .bp 4 0), (6, .int .i64 t.1), (7, .bp 7 0), (8, .int .i64 st1.2), (9, .int .i64 st2.2), (35, .int .i64 (s.1 * t.1)), (36, .int .i64 st1.2), (39, .int .i64 st2.2), (43, .int .i64 (s.1 * t.1)), (44, .int .i64 st3.2)] [(2, .box 24 [.int .i64 s.1, .sl (.pair (.int .i64) (.pair (.int .i64) (.int .i64))) s.2]), (3, .box 24 [.int .i64 t.1, .sl (.pair (.int .i64) (.pair (.int .i64) (.int .i64))) t.2]), (4, .box 24 [.int .i64 0, .cv (.slice none 0 0)]), (7, .box 24 [.int .i64 (s.1 * t.1), .own 101]), (101, .arr 66 (.pair (.int .i64) (.pair (.int .i64) (.int .i64))) (st3.1 ++ [(st1.2, st2.2, st3.2)]))] ?_
                         refine ablock_n ?_
                         refine athen_n ?_
                         refine AW.ops ?_
                         obtain ⟨c103, h⟩ := ck_some.1 h
                         refine zA [(2, .bp 2 0), (3, .bp 3 0), (4, .bp 4 0), (6, .int .i64 t.1), (7, .bp 7 0), (8, .int .i64 st1.2), (9, .int .i64 st2.2), (35, .int .i64 (s.1 * t.1)), (36, .int .i64 st1.2), (39, .int .i64 st2.2), (43, .int .i64 (s.1 * t.1)), (44, .int .i64 (st3.2 + 1))] [(2, .box 24 [.int .i64 s.1, .sl (.pair (.int .i64) (.pair (.int .i64) (.int .i64))) s.2]), (3, .box 24 [.int .i64 t.1, .sl (.pair (.int .i64) (.pair (.int .i64) (.int .i64))) t.2]), (4, .box 24 [.int .i64 0, .cv (.slice none 0 0)]), (7, .box 24 [.int .i64 (s.1 * t.1), .own 101]), (101, .arr 66 (.pair (.int .i64) (.pair (.int .i64) (.int .i64))) (st3.1 ++ [(st1.2, st2.2, st3.2)]))] ?_
                         obtain rfl := Option.some.inj h
                         exact ⟨_, rfl, zL [] [] []⟩
                        ·refine zm ?_
                         refine athen_n ?_
                         refine AW.ops ?_
                         obtain ⟨c104, h⟩ := ck_some.1 h
                         refine zA [(2, .bp 2 0), (3, .bp 3 0), (4, .bp 4 0), (6, .int .i64 t.1), (7, .bp 7 0), (8, .int .i64 st1.2), (9, .int .i64 st2.2), (35, .int .i64 (s.1 * t.1)), (36, .int .i64 st1.2), (39, .int .i64 st2.2), (43, .int .i64 (s.1 * t.1)), (44, .int .i64 (st3.2 + 1))] [(2, .box 24 [.int .i64 s.1, .sl (.pair (.int .i64) (.pair (.int .i64) (.int .i64))) s.2]), (3, .box 24 [.int .i64 t.1, .sl (.pair (.int .i64) (.pair (.int .i64) (.int .i64))) t.2]), (4, .box 24 [.int .i64 0, .cv (.slice none 0 0)]), (7, .box 24 [.int .i64 (s.1 * t.1), .own 101]), (101, .arr 66 (.pair (.int .i64) (.pair (.int .i64) (.int .i64))) st3.1)] ?_
                         obtain rfl := Option.some.inj h
                         exact ⟨_, rfl, zL [] [] []⟩
                     ·refine zo ?_
                      refine zS 2 [(2, .bp 2 0), (3, .bp 3 0), (4, .bp 4 0), (6, .int .i64 t.1), (7, .bp 7 0), (8, .int .i64 st1.2), (9, .int .i64 st2.2), (10, .int .i64 st3.2), (11, .bool v0_3), (12, .bool v0_4), (35, .int .i64 (s.1 * t.1)), (36, .int .i64 st1.2), (39, .int .i64 st2.2), (43, .int .i64 (s.1 * t.1)), (44, .int .i64 st3.2), (66, .bool v0_3)] [(2, .box 24 [.int .i64 s.1, .sl (.pair (.int .i64) (.pair (.int .i64) (.int .i64))) s.2]), (3, .box 24 [.int .i64 t.1, .sl (.pair (.int .i64) (.pair (.int .i64) (.int .i64))) t.2]), (4, .box 24 [.int .i64 0, .cv (.slice none 0 0)]), (7, .box 24 [.int .i64 (s.1 * t.1), .own 101]), (101, .arr 66 (.pair (.int .i64) (.pair (.int .i64) (.int .i64))) st3.1)] ?_
                      rcases zI h with ⟨hb105, h⟩ | ⟨hb105, h⟩
                      ·refine zB [(2, .bp 2 0), (3, .bp 3 0), (4, .bp 4 0), (6, .int .i64 t.1), (7, .bp 7 0), (8, .int .i64 st1.2), (9, .int .i64 st2.2), (10, .int .i64 st3.2), (11, .bool true), (12, .bool v0_4), (13, .bool v0_4), (35, .int .i64 (s.1 * t.1)), (36, .int .i64 st1.2), (39, .int .i64 st2.2), (43, .int .i64 (s.1 * t.1)), (44, .int .i64 st3.2)] [(2, .box 24 [.int .i64 s.1, .sl (.pair (.int .i64) (.pair (.int .i64) (.int .i64))) s.2]), (3, .box 24 [.int .i64 t.1, .sl (.pair (.int .i64) (.pair (.int .i64) (.int .i64))) t.2]), (4, .box 24 [.int .i64 0, .cv (.slice none 0 0)]), (7, .box 24 [.int .i64 (s.1 * t.1), .own 101]), (101, .arr 66 (.pair (.int .i64) (.pair (.int .i64) (.int .i64))) st3.1)] ?_
                       exact AW.weaken (zL [] [] []) (hk_linealref05_Both_k4 _ h)
                      ·refine zB [(2, .bp 2 0), (3, .bp 3 0), (4, .bp 4 0), (6, .int .i64 t.1), (7, .bp 7 0), (8, .int .i64 st1.2), (9, .int .i64 st2.2), (10, .int .i64 st3.2), (11, .bool false), (12, .bool v0_4), (13, .bool false), (35, .int .i64 (s.1 * t.1)), (36, .int .i64 st1.2), (39, .int .i64 st2.2), (43, .int .i64 (s.1 * t.1)), (44, .int .i64 st3.2)] [(2, .box 24 [.int .i64 s.1, .sl (.pair (.int .i64) (.pair (.int .i64) (.int .i64))) s.2]), (3, .box 24 [.int .i64 t.1, .sl (.pair (.int .i64) (.pair (.int .i64) (.int .i64))) t.2]), (4, .box 24 [.int .i64 0, .cv (.slice none 0 0)]), (7, .box 24 [.int .i64 (s.1 * t.1), .own 101]), (101, .arr 66 (.pair (.int .i64) (.pair (.int .i64) (.int .i64))) st3.1)] ?_
                       exact AW.weaken (zL [] [] []) (hk_linealref05_Both_k4 _ h)
            ·refine AW.exit ?_
             refine athen_e ?_
             obtain rfl := Option.some.inj h
             rw [← hd25 _ rfl] at ho24
             have h := ho24
             refine athen_e ?_
             refine ablock_s ?_
             refine ablock_n ?_
             refine athen_n ?_
             exact AW.weaken (zL [] [] []) (hk_linealref05_Both_k3 _ h)
         ·refine AW.exit ?_
          refine athen_e ?_
          obtain rfl := Option.some.inj h
          rw [← hd18 _ rfl] at ho17
          have h := ho17
          refine athen_e ?_
          refine ablock_s ?_
          refine ablock_n ?_
          refine athen_n ?_
          exact AW.weaken (zL [] [] []) (hk_linealref05_Both_k2 _ h)
      ·refine AW.exit ?_
       refine athen_e ?_
       obtain rfl := Option.some.inj h
       rw [← hd11 _ rfl] at ho10
       have h := ho10
       refine athen_e ?_
       refine ablock_s ?_
       refine athen_n ?_
       exact AW.weaken (zL [] [] []) (hk_linealref05_Both_k1 _ h)

end Go.Proofs.Ytifleoceebaooaa
