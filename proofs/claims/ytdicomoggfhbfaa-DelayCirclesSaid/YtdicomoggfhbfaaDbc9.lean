/-
  Made by wip/tool/dc.py out of the print of the program: contracts.
-/
import Derived.Test.YtdicomoggfhbfaaDlp
import Derived.Test.YtdicomoggfhbfaaShd
import Derived.Test.YtdicomoggfhbfaaAvd
import Derived.Test.YtdicomoggfhbfaaDbc1
import Derived.Test.YtdicomoggfhbfaaDbc3
import Derived.Test.YtdicomoggfhbfaaDbc5
import Derived.Test.YtdicomoggfhbfaaDbc7
import Derived.Test.YtdicomoggfhbfaaDbc8
namespace Go.Proofs.Ytdicomoggfhbfaa
open Go.RowKit

set_option linter.unusedSimpArgs false
set_option linter.unusedVariables false
set_option linter.constructorNameAsVariable false

set_option maxRecDepth 100000
set_option maxHeartbeats 40000000

theorem hc_linealref09_needed (x0 : List (List (Int × Bool))) {r : (List (Int × Int × Int))} (h : linealref09_needed x0 = some r) : HC Try.prog 76 [] [.sl (.sl (.pair (.int .i64) .bool)) x0] [(2000, .arr 35 (.pair (.int .i64) (.pair (.int .i64) (.int .i64))) r)] (.own 2000) := by
 unfold linealref09_needed at h
 refine zH Try.func76 [.tmp 2] 55 ?_
 refine zo ?_
 refine zB [(0, .sl (.sl (.pair (.int .i64) .bool)) x0)] [] ?_
 refine zo ?_
 refine zB [(0, .sl (.sl (.pair (.int .i64) .bool)) x0), (3, .cv (.slice none 0 0))] [] ?_
 refine zo ?_
 refine zS 1 [(0, .sl (.sl (.pair (.int .i64) .bool)) x0), (3, .cv (.slice none 0 0)), (12, .sl (.sl (.pair (.int .i64) .bool)) x0)] [] ?_
 obtain ⟨v0, hv1, h⟩ := Option.bind_eq_some_iff.1 h
 refine zC [] [] (hc_linealref09_circles x0 hv1) [(0, .sl (.sl (.pair (.int .i64) .bool)) x0), (3, .cv (.slice none 0 0)), (13, .own 23000)] [(23000, .arr 30 (.sl (.pair (.int .i64) (.pair (.int .i64) (.int .i64)))) v0)] ?_
 refine zB [(0, .sl (.sl (.pair (.int .i64) .bool)) x0), (3, .cv (.slice none 0 0)), (4, .own 23000)] [(23000, .arr 30 (.sl (.pair (.int .i64) (.pair (.int .i64) (.int .i64)))) v0)] ?_
 refine AW.have1 (fun b4_4 : (List (Int × Int × Int)) => linealref09_needed_k1 b4_4 = some r) (fun b4_4 => ⟨fr [(3, .own 52)], hpGet [(52, .arr 35 (.pair (.int .i64) (.pair (.int .i64) (.int .i64))) b4_4)], gt⟩) (fun b4_4 h => ?_) (fun hk_linealref09_needed_k1 => ?_)
 ·as_aux_lemma =>
   unfold linealref09_needed_k1 at h
   refine zo ?_
   refine zB [(2, .own 52)] [(52, .arr 35 (.pair (.int .i64) (.pair (.int .i64) (.int .i64))) b4_4)] ?_
   refine AW.ret ?_
   obtain rfl := Option.some.inj h
   exact zR [] [] [(2000, 52)]
 ·refine AW.seq ?_
  refine zo ?_
  refine zS 1 [(3, .cv (.slice none 0 0)), (4, .own 23000), (14, .sl (.sl (.pair (.int .i64) .bool)) x0)] [(23000, .arr 30 (.sl (.pair (.int .i64) (.pair (.int .i64) (.int .i64)))) v0)] ?_
  obtain ⟨v0_2, hv2, h⟩ := Option.bind_eq_some_iff.1 h
  refine zC [] [] (hc_linealref09_stations x0 hv2) [(3, .cv (.slice none 0 0)), (4, .own 23000), (15, .own 25000)] [(23000, .arr 30 (.sl (.pair (.int .i64) (.pair (.int .i64) (.int .i64)))) v0), (25000, .arr 35 (.pair (.int .i64) (.pair (.int .i64) (.int .i64))) v0_2)] ?_
  refine zB [(3, .cv (.slice none 0 0)), (4, .own 23000), (15, .own 25000), (16, .int .i64 (v0_2.length : Int)), (17, .int .i64 0)] [(23000, .arr 30 (.sl (.pair (.int .i64) (.pair (.int .i64) (.int .i64)))) v0), (25000, .arr 35 (.pair (.int .i64) (.pair (.int .i64) (.int .i64))) v0_2)] ?_
  refine AW.block ?_
  obtain ⟨rv7, hw3, ho4⟩ := Option.bind_eq_some_iff.1 h
  refine AW.loopO (linealref09_needed_b1 v0 v0_2) (fun st1 => ⟨fr [(3, .own 52), (4, .own 23000), (15, .own 25000), (16, .int .i64 (v0_2.length : Int)), (17, .int .i64 st1.2)], hpGet [(52, .arr 35 (.pair (.int .i64) (.pair (.int .i64) (.int .i64))) st1.1), (23000, .arr 30 (.sl (.pair (.int .i64) (.pair (.int .i64) (.int .i64)))) v0), (25000, .arr 35 (.pair (.int .i64) (.pair (.int .i64) (.int .i64))) v0_2)], gt⟩) ([], 0) hw3 (zL [] [52] []) ?_
  as_aux_lemma =>
   intro st1 x6 h hd5
   unfold linealref09_needed_b1 at h
   refine zo ?_
   refine zB [(3, .own 52), (4, .own 23000), (15, .own 25000), (16, .int .i64 (v0_2.length : Int)), (17, .int .i64 st1.2), (18, .bool (decide (st1.2 < (v0_2.length : Int))))] [(52, .arr 35 (.pair (.int .i64) (.pair (.int .i64) (.int .i64))) st1.1), (23000, .arr 30 (.sl (.pair (.int .i64) (.pair (.int .i64) (.int .i64)))) v0), (25000, .arr 35 (.pair (.int .i64) (.pair (.int .i64) (.int .i64))) v0_2)] ?_
   refine AW.seq ?_
   refine zQ h (fun hb8 h => ?_) (fun hb8 h => ?_)
   ·refine zk ?_
    refine AW.have1 (fun b4_3 : (List (Int × Int × Int)) => linealref09_needed_k2 st1 b4_3 = some x6) (fun b4_3 => ⟨fr [(3, .own 52), (4, .own 23000), (15, .own 25000), (16, .int .i64 (v0_2.length : Int)), (17, .int .i64 st1.2)], hpGet [(52, .arr 35 (.pair (.int .i64) (.pair (.int .i64) (.int .i64))) b4_3), (23000, .arr 30 (.sl (.pair (.int .i64) (.pair (.int .i64) (.int .i64)))) v0), (25000, .arr 35 (.pair (.int .i64) (.pair (.int .i64) (.int .i64))) v0_2)], gt⟩) (fun b4_3 h => ?_) (fun hk_linealref09_needed_k2 => ?_)
    ·as_aux_lemma =>
      unfold linealref09_needed_k2 at h
      refine AW.ops ?_
      obtain ⟨c9, h⟩ := ck_some.1 h
      refine zA [(3, .own 52), (4, .own 23000), (15, .own 25000), (16, .int .i64 (v0_2.length : Int)), (17, .int .i64 (st1.2 + 1))] [(52, .arr 35 (.pair (.int .i64) (.pair (.int .i64) (.int .i64))) b4_3), (23000, .arr 30 (.sl (.pair (.int .i64) (.pair (.int .i64) (.int .i64)))) v0), (25000, .arr 35 (.pair (.int .i64) (.pair (.int .i64) (.int .i64))) v0_2)] ?_
      obtain rfl := Option.some.inj h
      exact ⟨_, rfl, zL [] [] []⟩
    ·refine AW.seq ?_
     refine AW.block ?_
     refine zo ?_
     obtain ⟨c10, h⟩ := ck_some.1 h
     obtain ⟨c11, h⟩ := ck_some.1 h
     refine zB [(3, .own 52), (4, .own 23000), (6, .bp 6 0), (15, .own 25000), (16, .int .i64 (v0_2.length : Int)), (17, .int .i64 st1.2)] [(6, .box 35 [.int .i64 (v0_2.getD st1.2.toNat (0, 0, 0)).1, .int .i64 (v0_2.getD st1.2.toNat (0, 0, 0)).2.1, .int .i64 (v0_2.getD st1.2.toNat (0, 0, 0)).2.2]), (52, .arr 35 (.pair (.int .i64) (.pair (.int .i64) (.int .i64))) st1.1), (23000, .arr 30 (.sl (.pair (.int .i64) (.pair (.int .i64) (.int .i64)))) v0), (25000, .arr 35 (.pair (.int .i64) (.pair (.int .i64) (.int .i64))) v0_2)] ?_
     refine zo ?_
     refine zB [(3, .own 52), (4, .own 23000), (6, .bp 6 0), (7, .bool false), (15, .own 25000), (16, .int .i64 (v0_2.length : Int)), (17, .int .i64 st1.2)] [(6, .box 35 [.int .i64 (v0_2.getD st1.2.toNat (0, 0, 0)).1, .int .i64 (v0_2.getD st1.2.toNat (0, 0, 0)).2.1, .int .i64 (v0_2.getD st1.2.toNat (0, 0, 0)).2.2]), (52, .arr 35 (.pair (.int .i64) (.pair (.int .i64) (.int .i64))) st1.1), (23000, .arr 30 (.sl (.pair (.int .i64) (.pair (.int .i64) (.int .i64)))) v0), (25000, .arr 35 (.pair (.int .i64) (.pair (.int .i64) (.int .i64))) v0_2)] ?_
     refine AW.have1 (fun b4_2 : Bool => linealref09_needed_k3 v0_2 st1 b4_2 = some x6) (fun b4_2 => ⟨fr [(3, .own 52), (4, .own 23000), (6, .bp 6 0), (7, .bool b4_2), (15, .own 25000), (16, .int .i64 (v0_2.length : Int)), (17, .int .i64 st1.2)], hpGet [(6, .box 35 [.int .i64 (v0_2.getD st1.2.toNat (0, 0, 0)).1, .int .i64 (v0_2.getD st1.2.toNat (0, 0, 0)).2.1, .int .i64 (v0_2.getD st1.2.toNat (0, 0, 0)).2.2]), (52, .arr 35 (.pair (.int .i64) (.pair (.int .i64) (.int .i64))) st1.1), (23000, .arr 30 (.sl (.pair (.int .i64) (.pair (.int .i64) (.int .i64)))) v0), (25000, .arr 35 (.pair (.int .i64) (.pair (.int .i64) (.int .i64))) v0_2)], gt⟩) (fun b4_2 h => ?_) (fun hk_linealref09_needed_k3 => ?_)
     ·as_aux_lemma =>
       unfold linealref09_needed_k3 at h
       refine zo ?_
       refine zB [(3, .own 52), (4, .own 23000), (6, .bp 6 0), (15, .own 25000), (16, .int .i64 (v0_2.length : Int)), (17, .int .i64 st1.2), (48, .bool b4_2)] [(6, .box 35 [.int .i64 (v0_2.getD st1.2.toNat (0, 0, 0)).1, .int .i64 (v0_2.getD st1.2.toNat (0, 0, 0)).2.1, .int .i64 (v0_2.getD st1.2.toNat (0, 0, 0)).2.2]), (52, .arr 35 (.pair (.int .i64) (.pair (.int .i64) (.int .i64))) st1.1), (23000, .arr 30 (.sl (.pair (.int .i64) (.pair (.int .i64) (.int .i64)))) v0), (25000, .arr 35 (.pair (.int .i64) (.pair (.int .i64) (.int .i64))) v0_2)] ?_
       refine zQ h (fun hb12 h => ?_) (fun hb12 h => ?_)
       ·refine AW.ops ?_
        obtain ⟨c13, h⟩ := ck_some.1 h
        refine zA [(3, .own 52), (4, .own 23000), (15, .own 25000), (16, .int .i64 (v0_2.length : Int)), (17, .int .i64 st1.2)] [(52, .arr 35 (.pair (.int .i64) (.pair (.int .i64) (.int .i64))) (st1.1 ++ [(v0_2.getD st1.2.toNat (0, 0, 0))])), (23000, .arr 30 (.sl (.pair (.int .i64) (.pair (.int .i64) (.int .i64)))) v0), (25000, .arr 35 (.pair (.int .i64) (.pair (.int .i64) (.int .i64))) v0_2)] ?_
        refine ablock_n ?_
        refine athen_n ?_
        exact AW.weaken (zL [] [] []) (hk_linealref09_needed_k2 _ h)
       ·refine zm ?_
        refine athen_n ?_
        exact AW.weaken (zL [] [] []) (hk_linealref09_needed_k2 _ h)
     ·refine AW.seq ?_
      refine zo ?_
      refine zB [(3, .own 52), (4, .own 23000), (6, .bp 6 0), (7, .bool false), (15, .own 25000), (16, .int .i64 (v0_2.length : Int)), (17, .int .i64 st1.2), (21, .own 23000), (22, .int .i64 (v0.length : Int)), (23, .int .i64 0)] [(6, .box 35 [.int .i64 (v0_2.getD st1.2.toNat (0, 0, 0)).1, .int .i64 (v0_2.getD st1.2.toNat (0, 0, 0)).2.1, .int .i64 (v0_2.getD st1.2.toNat (0, 0, 0)).2.2]), (52, .arr 35 (.pair (.int .i64) (.pair (.int .i64) (.int .i64))) st1.1), (23000, .arr 30 (.sl (.pair (.int .i64) (.pair (.int .i64) (.int .i64)))) v0), (25000, .arr 35 (.pair (.int .i64) (.pair (.int .i64) (.int .i64))) v0_2)] ?_
      refine AW.block ?_
      obtain ⟨rv18, hw14, ho15⟩ := Option.bind_eq_some_iff.1 h
      refine AW.loopO (linealref09_needed_b2 v0 v0_2 st1) (fun st2 => ⟨fr [(3, .own 52), (4, .own 23000), (6, .bp 6 0), (7, .bool st2.1), (15, .own 25000), (16, .int .i64 (v0_2.length : Int)), (17, .int .i64 st1.2), (21, .own 23000), (22, .int .i64 (v0.length : Int)), (23, .int .i64 st2.2)], hpGet [(6, .box 35 [.int .i64 (v0_2.getD st1.2.toNat (0, 0, 0)).1, .int .i64 (v0_2.getD st1.2.toNat (0, 0, 0)).2.1, .int .i64 (v0_2.getD st1.2.toNat (0, 0, 0)).2.2]), (52, .arr 35 (.pair (.int .i64) (.pair (.int .i64) (.int .i64))) st1.1), (23000, .arr 30 (.sl (.pair (.int .i64) (.pair (.int .i64) (.int .i64)))) v0), (25000, .arr 35 (.pair (.int .i64) (.pair (.int .i64) (.int .i64))) v0_2)], gt⟩) (false, 0) hw14 (zL [] [] []) ?_
      as_aux_lemma =>
       intro st2 x17 h hd16
       unfold linealref09_needed_b2 at h
       refine zo ?_
       refine zB [(3, .own 52), (4, .own 23000), (6, .bp 6 0), (7, .bool st2.1), (15, .own 25000), (16, .int .i64 (v0_2.length : Int)), (17, .int .i64 st1.2), (21, .own 23000), (22, .int .i64 (v0.length : Int)), (23, .int .i64 st2.2), (24, .bool (decide (st2.2 < (v0.length : Int))))] [(6, .box 35 [.int .i64 (v0_2.getD st1.2.toNat (0, 0, 0)).1, .int .i64 (v0_2.getD st1.2.toNat (0, 0, 0)).2.1, .int .i64 (v0_2.getD st1.2.toNat (0, 0, 0)).2.2]), (52, .arr 35 (.pair (.int .i64) (.pair (.int .i64) (.int .i64))) st1.1), (23000, .arr 30 (.sl (.pair (.int .i64) (.pair (.int .i64) (.int .i64)))) v0), (25000, .arr 35 (.pair (.int .i64) (.pair (.int .i64) (.int .i64))) v0_2)] ?_
       refine AW.seq ?_
       refine zQ h (fun hb19 h => ?_) (fun hb19 h => ?_)
       ·refine zk ?_
        refine AW.have1 (fun b4 : Bool => linealref09_needed_k4 st2 b4 = some x17) (fun b4 => ⟨fr [(3, .own 52), (4, .own 23000), (6, .bp 6 0), (7, .bool b4), (15, .own 25000), (16, .int .i64 (v0_2.length : Int)), (17, .int .i64 st1.2), (21, .own 23000), (22, .int .i64 (v0.length : Int)), (23, .int .i64 st2.2)], hpGet [(6, .box 35 [.int .i64 (v0_2.getD st1.2.toNat (0, 0, 0)).1, .int .i64 (v0_2.getD st1.2.toNat (0, 0, 0)).2.1, .int .i64 (v0_2.getD st1.2.toNat (0, 0, 0)).2.2]), (52, .arr 35 (.pair (.int .i64) (.pair (.int .i64) (.int .i64))) st1.1), (23000, .arr 30 (.sl (.pair (.int .i64) (.pair (.int .i64) (.int .i64)))) v0), (25000, .arr 35 (.pair (.int .i64) (.pair (.int .i64) (.int .i64))) v0_2)], gt⟩) (fun b4 h => ?_) (fun hk_linealref09_needed_k4 => ?_)
        ·as_aux_lemma =>
          unfold linealref09_needed_k4 at h
          refine AW.ops ?_
          obtain ⟨c20, h⟩ := ck_some.1 h
          refine zA [(3, .own 52), (4, .own 23000), (6, .bp 6 0), (7, .bool b4), (15, .own 25000), (16, .int .i64 (v0_2.length : Int)), (17, .int .i64 st1.2), (21, .own 23000), (22, .int .i64 (v0.length : Int)), (23, .int .i64 (st2.2 + 1))] [(6, .box 35 [.int .i64 (v0_2.getD st1.2.toNat (0, 0, 0)).1, .int .i64 (v0_2.getD st1.2.toNat (0, 0, 0)).2.1, .int .i64 (v0_2.getD st1.2.toNat (0, 0, 0)).2.2]), (52, .arr 35 (.pair (.int .i64) (.pair (.int .i64) (.int .i64))) st1.1), (23000, .arr 30 (.sl (.pair (.int .i64) (.pair (.int .i64) (.int .i64)))) v0), (25000, .arr 35 (.pair (.int .i64) (.pair (.int .i64) (.int .i64))) v0_2)] ?_
          obtain rfl := Option.some.inj h
          exact ⟨_, rfl, zL [] [] []⟩
        ·refine AW.seq ?_
         refine AW.block ?_
         refine zo ?_
         obtain ⟨c21, h⟩ := ck_some.1 h
         obtain ⟨c22, h⟩ := ck_some.1 h
         refine zB [(3, .own 52), (4, .own 23000), (6, .bp 6 0), (7, .bool st2.1), (9, .sl (.pair (.int .i64) (.pair (.int .i64) (.int .i64))) (v0.getD st2.2.toNat [])), (15, .own 25000), (16, .int .i64 (v0_2.length : Int)), (17, .int .i64 st1.2), (21, .own 23000), (22, .int .i64 (v0.length : Int)), (23, .int .i64 st2.2)] [(6, .box 35 [.int .i64 (v0_2.getD st1.2.toNat (0, 0, 0)).1, .int .i64 (v0_2.getD st1.2.toNat (0, 0, 0)).2.1, .int .i64 (v0_2.getD st1.2.toNat (0, 0, 0)).2.2]), (52, .arr 35 (.pair (.int .i64) (.pair (.int .i64) (.int .i64))) st1.1), (23000, .arr 30 (.sl (.pair (.int .i64) (.pair (.int .i64) (.int .i64)))) v0), (25000, .arr 35 (.pair (.int .i64) (.pair (.int .i64) (.int .i64))) v0_2)] ?_
         refine zo ?_
         refine zB [(3, .own 52), (4, .own 23000), (6, .bp 6 0), (7, .bool st2.1), (15, .own 25000), (16, .int .i64 (v0_2.length : Int)), (17, .int .i64 st1.2), (21, .own 23000), (22, .int .i64 (v0.length : Int)), (23, .int .i64 st2.2), (27, .sl (.pair (.int .i64) (.pair (.int .i64) (.int .i64))) (v0.getD st2.2.toNat [])), (28, .int .i64 ((v0.getD st2.2.toNat []).length : Int)), (29, .int .i64 0)] [(6, .box 35 [.int .i64 (v0_2.getD st1.2.toNat (0, 0, 0)).1, .int .i64 (v0_2.getD st1.2.toNat (0, 0, 0)).2.1, .int .i64 (v0_2.getD st1.2.toNat (0, 0, 0)).2.2]), (52, .arr 35 (.pair (.int .i64) (.pair (.int .i64) (.int .i64))) st1.1), (23000, .arr 30 (.sl (.pair (.int .i64) (.pair (.int .i64) (.int .i64)))) v0), (25000, .arr 35 (.pair (.int .i64) (.pair (.int .i64) (.int .i64))) v0_2)] ?_
         refine AW.block ?_
         obtain ⟨rv27, hw23, ho24⟩ := Option.bind_eq_some_iff.1 h
         refine AW.loopO (linealref09_needed_b3 v0 v0_2 st1 st2) (fun st3 => ⟨fr [(3, .own 52), (4, .own 23000), (6, .bp 6 0), (7, .bool st3.1), (15, .own 25000), (16, .int .i64 (v0_2.length : Int)), (17, .int .i64 st1.2), (21, .own 23000), (22, .int .i64 (v0.length : Int)), (23, .int .i64 st2.2), (27, .sl (.pair (.int .i64) (.pair (.int .i64) (.int .i64))) (v0.getD st2.2.toNat [])), (28, .int .i64 ((v0.getD st2.2.toNat []).length : Int)), (29, .int .i64 st3.2)], hpGet [(6, .box 35 [.int .i64 (v0_2.getD st1.2.toNat (0, 0, 0)).1, .int .i64 (v0_2.getD st1.2.toNat (0, 0, 0)).2.1, .int .i64 (v0_2.getD st1.2.toNat (0, 0, 0)).2.2]), (52, .arr 35 (.pair (.int .i64) (.pair (.int .i64) (.int .i64))) st1.1), (23000, .arr 30 (.sl (.pair (.int .i64) (.pair (.int .i64) (.int .i64)))) v0), (25000, .arr 35 (.pair (.int .i64) (.pair (.int .i64) (.int .i64))) v0_2)], gt⟩) (st2.1, 0) hw23 (zL [] [] []) ?_
         as_aux_lemma =>
          intro st3 x26 h hd25
          unfold linealref09_needed_b3 at h
          refine zo ?_
          refine zB [(3, .own 52), (4, .own 23000), (6, .bp 6 0), (7, .bool st3.1), (15, .own 25000), (16, .int .i64 (v0_2.length : Int)), (17, .int .i64 st1.2), (21, .own 23000), (22, .int .i64 (v0.length : Int)), (23, .int .i64 st2.2), (27, .sl (.pair (.int .i64) (.pair (.int .i64) (.int .i64))) (v0.getD st2.2.toNat [])), (28, .int .i64 ((v0.getD st2.2.toNat []).length : Int)), (29, .int .i64 st3.2), (30, .bool (decide (st3.2 < ((v0.getD st2.2.toNat []).length : Int))))] [(6, .box 35 [.int .i64 (v0_2.getD st1.2.toNat (0, 0, 0)).1, .int .i64 (v0_2.getD st1.2.toNat (0, 0, 0)).2.1, .int .i64 (v0_2.getD st1.2.toNat (0, 0, 0)).2.2]), (52, .arr 35 (.pair (.int .i64) (.pair (.int .i64) (.int .i64))) st1.1), (23000, .arr 30 (.sl (.pair (.int .i64) (.pair (.int .i64) (.int .i64)))) v0), (25000, .arr 35 (.pair (.int .i64) (.pair (.int .i64) (.int .i64))) v0_2)] ?_
          refine AW.seq ?_
          refine zQ h (fun hb28 h => ?_) (fun hb28 h => ?_)
          ·refine zk ?_
           refine AW.seq ?_
           refine AW.block ?_
           refine zo ?_
           obtain ⟨c29, h⟩ := ck_some.1 h
           obtain ⟨c30, h⟩ := ck_some.1 h
           refine zB [(3, .own 52), (4, .own 23000), (6, .bp 6 0), (7, .bool st3.1), (11, .bp 11 0), (15, .own 25000), (16, .int .i64 (v0_2.length : Int)), (17, .int .i64 st1.2), (21, .own 23000), (22, .int .i64 (v0.length : Int)), (23, .int .i64 st2.2), (27, .sl (.pair (.int .i64) (.pair (.int .i64) (.int .i64))) (v0.getD st2.2.toNat [])), (28, .int .i64 ((v0.getD st2.2.toNat []).length : Int)), (29, .int .i64 st3.2)] [(6, .box 35 [.int .i64 (v0_2.getD st1.2.toNat (0, 0, 0)).1, .int .i64 (v0_2.getD st1.2.toNat (0, 0, 0)).2.1, .int .i64 (v0_2.getD st1.2.toNat (0, 0, 0)).2.2]), (11, .box 35 [.int .i64 ((v0.getD st2.2.toNat []).getD st3.2.toNat (0, 0, 0)).1, .int .i64 ((v0.getD st2.2.toNat []).getD st3.2.toNat (0, 0, 0)).2.1, .int .i64 ((v0.getD st2.2.toNat []).getD st3.2.toNat (0, 0, 0)).2.2]), (52, .arr 35 (.pair (.int .i64) (.pair (.int .i64) (.int .i64))) st1.1), (23000, .arr 30 (.sl (.pair (.int .i64) (.pair (.int .i64) (.int .i64)))) v0), (25000, .arr 35 (.pair (.int .i64) (.pair (.int .i64) (.int .i64))) v0_2)] ?_
           refine AW.ops ?_
           refine zS 2 [(3, .own 52), (4, .own 23000), (6, .bp 6 0), (11, .bp 11 0), (15, .own 25000), (16, .int .i64 (v0_2.length : Int)), (17, .int .i64 st1.2), (21, .own 23000), (22, .int .i64 (v0.length : Int)), (23, .int .i64 st2.2), (27, .sl (.pair (.int .i64) (.pair (.int .i64) (.int .i64))) (v0.getD st2.2.toNat [])), (28, .int .i64 ((v0.getD st2.2.toNat []).length : Int)), (29, .int .i64 st3.2), (34, .bool st3.1)] [(6, .box 35 [.int .i64 (v0_2.getD st1.2.toNat (0, 0, 0)).1, .int .i64 (v0_2.getD st1.2.toNat (0, 0, 0)).2.1, .int .i64 (v0_2.getD st1.2.toNat (0, 0, 0)).2.2]), (11, .box 35 [.int .i64 ((v0.getD st2.2.toNat []).getD st3.2.toNat (0, 0, 0)).1, .int .i64 ((v0.getD st2.2.toNat []).getD st3.2.toNat (0, 0, 0)).2.1, .int .i64 ((v0.getD st2.2.toNat []).getD st3.2.toNat (0, 0, 0)).2.2]), (52, .arr 35 (.pair (.int .i64) (.pair (.int .i64) (.int .i64))) st1.1), (23000, .arr 30 (.sl (.pair (.int .i64) (.pair (.int .i64) (.int .i64)))) v0), (25000, .arr 35 (.pair (.int .i64) (.pair (.int .i64) (.int .i64))) v0_2)] ?_
           rcases zI h with ⟨hb31, h⟩ | ⟨hb31, h⟩
           ·refine zS 4 [(3, .own 52), (4, .own 23000), (6, .bp 6 0), (15, .own 25000), (16, .int .i64 (v0_2.length : Int)), (17, .int .i64 st1.2), (21, .own 23000), (22, .int .i64 (v0.length : Int)), (23, .int .i64 st2.2), (27, .sl (.pair (.int .i64) (.pair (.int .i64) (.int .i64))) (v0.getD st2.2.toNat [])), (28, .int .i64 ((v0.getD st2.2.toNat []).length : Int)), (29, .int .i64 st3.2), (34, .bool true), (38, .cv (undef))] [(6, .box 35 [.int .i64 (v0_2.getD st1.2.toNat (0, 0, 0)).1, .int .i64 (v0_2.getD st1.2.toNat (0, 0, 0)).2.1, .int .i64 (v0_2.getD st1.2.toNat (0, 0, 0)).2.2]), (52, .arr 35 (.pair (.int .i64) (.pair (.int .i64) (.int .i64))) st1.1), (23000, .arr 30 (.sl (.pair (.int .i64) (.pair (.int .i64) (.int .i64)))) v0), (25000, .arr 35 (.pair (.int .i64) (.pair (.int .i64) (.int .i64))) v0_2)] ?_
            refine zS 4 [(3, .own 52), (4, .own 23000), (6, .bp 6 0), (15, .own 25000), (16, .int .i64 (v0_2.length : Int)), (17, .int .i64 st1.2), (21, .own 23000), (22, .int .i64 (v0.length : Int)), (23, .int .i64 st2.2), (27, .sl (.pair (.int .i64) (.pair (.int .i64) (.int .i64))) (v0.getD st2.2.toNat [])), (28, .int .i64 ((v0.getD st2.2.toNat []).length : Int)), (29, .int .i64 st3.2), (34, .bool true), (38, .cv (undef)), (40, .cv (undef)), (42, .cv (undef))] [(6, .box 35 [.int .i64 (v0_2.getD st1.2.toNat (0, 0, 0)).1, .int .i64 (v0_2.getD st1.2.toNat (0, 0, 0)).2.1, .int .i64 (v0_2.getD st1.2.toNat (0, 0, 0)).2.2]), (52, .arr 35 (.pair (.int .i64) (.pair (.int .i64) (.int .i64))) st1.1), (23000, .arr 30 (.sl (.pair (.int .i64) (.pair (.int .i64) (.int .i64)))) v0), (25000, .arr 35 (.pair (.int .i64) (.pair (.int .i64) (.int .i64))) v0_2)] ?_
            refine zA [(3, .own 52), (4, .own 23000), (6, .bp 6 0), (7, .bool true), (15, .own 25000), (16, .int .i64 (v0_2.length : Int)), (17, .int .i64 st1.2), (21, .own 23000), (22, .int .i64 (v0.length : Int)), (23, .int .i64 st2.2), (27, .sl (.pair (.int .i64) (.pair (.int .i64) (.int .i64))) (v0.getD st2.2.toNat [])), (28, .int .i64 ((v0.getD st2.2.toNat []).length : Int)), (29, .int .i64 st3.2)] [(6, .box 35 [.int .i64 (v0_2.getD st1.2.toNat (0, 0, 0)).1, .int .i64 (v0_2.getD st1.2.toNat (0, 0, 0)).2.1, .int .i64 (v0_2.getD st1.2.toNat (0, 0, 0)).2.2]), (52, .arr 35 (.pair (.int .i64) (.pair (.int .i64) (.int .i64))) st1.1), (23000, .arr 30 (.sl (.pair (.int .i64) (.pair (.int .i64) (.int .i64)))) v0), (25000, .arr 35 (.pair (.int .i64) (.pair (.int .i64) (.int .i64))) v0_2)] ?_
            refine ablock_n ?_
            refine athen_n ?_
            refine AW.ops ?_
            obtain ⟨c32, h⟩ := ck_some.1 h
            refine zA [(3, .own 52), (4, .own 23000), (6, .bp 6 0), (7, .bool true), (15, .own 25000), (16, .int .i64 (v0_2.length : Int)), (17, .int .i64 st1.2), (21, .own 23000), (22, .int .i64 (v0.length : Int)), (23, .int .i64 st2.2), (27, .sl (.pair (.int .i64) (.pair (.int .i64) (.int .i64))) (v0.getD st2.2.toNat [])), (28, .int .i64 ((v0.getD st2.2.toNat []).length : Int)), (29, .int .i64 (st3.2 + 1))] [(6, .box 35 [.int .i64 (v0_2.getD st1.2.toNat (0, 0, 0)).1, .int .i64 (v0_2.getD st1.2.toNat (0, 0, 0)).2.1, .int .i64 (v0_2.getD st1.2.toNat (0, 0, 0)).2.2]), (52, .arr 35 (.pair (.int .i64) (.pair (.int .i64) (.int .i64))) st1.1), (23000, .arr 30 (.sl (.pair (.int .i64) (.pair (.int .i64) (.int .i64)))) v0), (25000, .arr 35 (.pair (.int .i64) (.pair (.int .i64) (.int .i64))) v0_2)] ?_
            obtain rfl := Option.some.inj h
            exact ⟨_, rfl, zL [] [] []⟩
           ·refine zS 2 [(3, .own 52), (4, .own 23000), (6, .bp 6 0), (15, .own 25000), (16, .int .i64 (v0_2.length : Int)), (17, .int .i64 st1.2), (21, .own 23000), (22, .int .i64 (v0.length : Int)), (23, .int .i64 st2.2), (27, .sl (.pair (.int .i64) (.pair (.int .i64) (.int .i64))) (v0.getD st2.2.toNat [])), (28, .int .i64 ((v0.getD st2.2.toNat []).length : Int)), (29, .int .i64 st3.2), (34, .bool false), (35, .agg [.int .i64 ((v0.getD st2.2.toNat []).getD st3.2.toNat (0, 0, 0)).1, .int .i64 ((v0.getD st2.2.toNat []).getD st3.2.toNat (0, 0, 0)).2.1, .int .i64 ((v0.getD st2.2.toNat []).getD st3.2.toNat (0, 0, 0)).2.2]), (36, .agg [.int .i64 (v0_2.getD st1.2.toNat (0, 0, 0)).1, .int .i64 (v0_2.getD st1.2.toNat (0, 0, 0)).2.1, .int .i64 (v0_2.getD st1.2.toNat (0, 0, 0)).2.2])] [(6, .box 35 [.int .i64 (v0_2.getD st1.2.toNat (0, 0, 0)).1, .int .i64 (v0_2.getD st1.2.toNat (0, 0, 0)).2.1, .int .i64 (v0_2.getD st1.2.toNat (0, 0, 0)).2.2]), (52, .arr 35 (.pair (.int .i64) (.pair (.int .i64) (.int .i64))) st1.1), (23000, .arr 30 (.sl (.pair (.int .i64) (.pair (.int .i64) (.int .i64)))) v0), (25000, .arr 35 (.pair (.int .i64) (.pair (.int .i64) (.int .i64))) v0_2)] ?_
            obtain ⟨c33, h⟩ := ck_some.1 h
            obtain ⟨c34, h⟩ := ck_some.1 h
            obtain ⟨c35, h⟩ := ck_some.1 h
            obtain ⟨c36, h⟩ := ck_some.1 h
            obtain ⟨c37, h⟩ := ck_some.1 h
            obtain ⟨c38, h⟩ := ck_some.1 h
            refine AO.aggEqG (neg := false) eqty_35 (by decide) (.inr ⟨_, _, _, rfl, rfl, rfl⟩) rfl (lx := [.int .i64 ((v0.getD st2.2.toNat []).getD st3.2.toNat (0, 0, 0)).1, .int .i64 ((v0.getD st2.2.toNat []).getD st3.2.toNat (0, 0, 0)).2.1, .int .i64 ((v0.getD st2.2.toNat []).getD st3.2.toNat (0, 0, 0)).2.2]) (ly := [.int .i64 (v0_2.getD st1.2.toNat (0, 0, 0)).1, .int .i64 (v0_2.getD st1.2.toNat (0, 0, 0)).2.1, .int .i64 (v0_2.getD st1.2.toNat (0, 0, 0)).2.2]) (by first | rfl | (simp only [go_sem, hb8, hb19, hb28, hb31]) <;> (with_reducible and_intros) <;> first | assumption | rfl | omega | (unfold maxLen; omega)) (by first | rfl | (simp only [go_sem, hb8, hb19, hb28, hb31]) <;> (with_reducible and_intros) <;> first | assumption | rfl | omega | (unfold maxLen; omega)) (by first | rfl | (simp only [go_sem, hb8, hb19, hb28, hb31]) <;> (with_reducible and_intros) <;> first | assumption | rfl | omega | (unfold maxLen; omega)) (by first | rfl | (simp only [go_sem, hb8, hb19, hb28, hb31]) <;> (with_reducible and_intros) <;> first | assumption | rfl | omega | (unfold maxLen; omega)) (by first | assumption | omega | (simp only [go_sem, hb8, hb19, hb28, hb31]) <;> (with_reducible and_intros) <;> first | assumption | rfl | omega | (unfold maxLen; omega)) (by first | assumption | omega | (simp only [go_sem, hb8, hb19, hb28, hb31]) <;> (with_reducible and_intros) <;> first | assumption | rfl | omega | (unfold maxLen; omega)) ?_
            refine zT [(3, .own 52), (4, .own 23000), (6, .bp 6 0), (15, .own 25000), (16, .int .i64 (v0_2.length : Int)), (17, .int .i64 st1.2), (21, .own 23000), (22, .int .i64 (v0.length : Int)), (23, .int .i64 st2.2), (27, .sl (.pair (.int .i64) (.pair (.int .i64) (.int .i64))) (v0.getD st2.2.toNat [])), (28, .int .i64 ((v0.getD st2.2.toNat []).length : Int)), (29, .int .i64 st3.2), (34, .bool false), (37, .bool (decide (((v0.getD st2.2.toNat []).getD st3.2.toNat (0, 0, 0)) = (v0_2.getD st1.2.toNat (0, 0, 0)))))] [(6, .box 35 [.int .i64 (v0_2.getD st1.2.toNat (0, 0, 0)).1, .int .i64 (v0_2.getD st1.2.toNat (0, 0, 0)).2.1, .int .i64 (v0_2.getD st1.2.toNat (0, 0, 0)).2.2]), (52, .arr 35 (.pair (.int .i64) (.pair (.int .i64) (.int .i64))) st1.1), (23000, .arr 30 (.sl (.pair (.int .i64) (.pair (.int .i64) (.int .i64)))) v0), (25000, .arr 35 (.pair (.int .i64) (.pair (.int .i64) (.int .i64))) v0_2)] gt ?_
            refine zS 1 [(3, .own 52), (4, .own 23000), (6, .bp 6 0), (15, .own 25000), (16, .int .i64 (v0_2.length : Int)), (17, .int .i64 st1.2), (21, .own 23000), (22, .int .i64 (v0.length : Int)), (23, .int .i64 st2.2), (27, .sl (.pair (.int .i64) (.pair (.int .i64) (.int .i64))) (v0.getD st2.2.toNat [])), (28, .int .i64 ((v0.getD st2.2.toNat []).length : Int)), (29, .int .i64 st3.2), (34, .bool false), (38, .bool (decide (((v0.getD st2.2.toNat []).getD st3.2.toNat (0, 0, 0)) = (v0_2.getD st1.2.toNat (0, 0, 0)))))] [(6, .box 35 [.int .i64 (v0_2.getD st1.2.toNat (0, 0, 0)).1, .int .i64 (v0_2.getD st1.2.toNat (0, 0, 0)).2.1, .int .i64 (v0_2.getD st1.2.toNat (0, 0, 0)).2.2]), (52, .arr 35 (.pair (.int .i64) (.pair (.int .i64) (.int .i64))) st1.1), (23000, .arr 30 (.sl (.pair (.int .i64) (.pair (.int .i64) (.int .i64)))) v0), (25000, .arr 35 (.pair (.int .i64) (.pair (.int .i64) (.int .i64))) v0_2)] ?_
            rcases zI h with ⟨hb39, h⟩ | ⟨hb39, h⟩
            ·refine zS 5 [(3, .own 52), (4, .own 23000), (6, .bp 6 0), (15, .own 25000), (16, .int .i64 (v0_2.length : Int)), (17, .int .i64 st1.2), (21, .own 23000), (22, .int .i64 (v0.length : Int)), (23, .int .i64 st2.2), (27, .sl (.pair (.int .i64) (.pair (.int .i64) (.int .i64))) (v0.getD st2.2.toNat [])), (28, .int .i64 ((v0.getD st2.2.toNat []).length : Int)), (29, .int .i64 st3.2), (34, .bool false), (38, .bool true), (43, .bool (decide ((v0_2.getD st1.2.toNat (0, 0, 0)).2.1 < (v0_2.getD st1.2.toNat (0, 0, 0)).2.2)))] [(6, .box 35 [.int .i64 (v0_2.getD st1.2.toNat (0, 0, 0)).1, .int .i64 (v0_2.getD st1.2.toNat (0, 0, 0)).2.1, .int .i64 (v0_2.getD st1.2.toNat (0, 0, 0)).2.2]), (52, .arr 35 (.pair (.int .i64) (.pair (.int .i64) (.int .i64))) st1.1), (23000, .arr 30 (.sl (.pair (.int .i64) (.pair (.int .i64) (.int .i64)))) v0), (25000, .arr 35 (.pair (.int .i64) (.pair (.int .i64) (.int .i64))) v0_2)] ?_
             refine zA [(3, .own 52), (4, .own 23000), (6, .bp 6 0), (7, .bool (decide ((v0_2.getD st1.2.toNat (0, 0, 0)).2.1 < (v0_2.getD st1.2.toNat (0, 0, 0)).2.2))), (15, .own 25000), (16, .int .i64 (v0_2.length : Int)), (17, .int .i64 st1.2), (21, .own 23000), (22, .int .i64 (v0.length : Int)), (23, .int .i64 st2.2), (27, .sl (.pair (.int .i64) (.pair (.int .i64) (.int .i64))) (v0.getD st2.2.toNat [])), (28, .int .i64 ((v0.getD st2.2.toNat []).length : Int)), (29, .int .i64 st3.2)] [(6, .box 35 [.int .i64 (v0_2.getD st1.2.toNat (0, 0, 0)).1, .int .i64 (v0_2.getD st1.2.toNat (0, 0, 0)).2.1, .int .i64 (v0_2.getD st1.2.toNat (0, 0, 0)).2.2]), (52, .arr 35 (.pair (.int .i64) (.pair (.int .i64) (.int .i64))) st1.1), (23000, .arr 30 (.sl (.pair (.int .i64) (.pair (.int .i64) (.int .i64)))) v0), (25000, .arr 35 (.pair (.int .i64) (.pair (.int .i64) (.int .i64))) v0_2)] ?_
             refine ablock_n ?_
             refine athen_n ?_
             refine AW.ops ?_
             obtain ⟨c40, h⟩ := ck_some.1 h
             refine zA [(3, .own 52), (4, .own 23000), (6, .bp 6 0), (7, .bool (decide ((v0_2.getD st1.2.toNat (0, 0, 0)).2.1 < (v0_2.getD st1.2.toNat (0, 0, 0)).2.2))), (15, .own 25000), (16, .int .i64 (v0_2.length : Int)), (17, .int .i64 st1.2), (21, .own 23000), (22, .int .i64 (v0.length : Int)), (23, .int .i64 st2.2), (27, .sl (.pair (.int .i64) (.pair (.int .i64) (.int .i64))) (v0.getD st2.2.toNat [])), (28, .int .i64 ((v0.getD st2.2.toNat []).length : Int)), (29, .int .i64 (st3.2 + 1))] [(6, .box 35 [.int .i64 (v0_2.getD st1.2.toNat (0, 0, 0)).1, .int .i64 (v0_2.getD st1.2.toNat (0, 0, 0)).2.1, .int .i64 (v0_2.getD st1.2.toNat (0, 0, 0)).2.2]), (52, .arr 35 (.pair (.int .i64) (.pair (.int .i64) (.int .i64))) st1.1), (23000, .arr 30 (.sl (.pair (.int .i64) (.pair (.int .i64) (.int .i64)))) v0), (25000, .arr 35 (.pair (.int .i64) (.pair (.int .i64) (.int .i64))) v0_2)] ?_
             obtain rfl := Option.some.inj h
             exact ⟨_, rfl, zL [] [] []⟩
            ·refine zS 4 [(3, .own 52), (4, .own 23000), (6, .bp 6 0), (15, .own 25000), (16, .int .i64 (v0_2.length : Int)), (17, .int .i64 st1.2), (21, .own 23000), (22, .int .i64 (v0.length : Int)), (23, .int .i64 st2.2), (27, .sl (.pair (.int .i64) (.pair (.int .i64) (.int .i64))) (v0.getD st2.2.toNat [])), (28, .int .i64 ((v0.getD st2.2.toNat []).length : Int)), (29, .int .i64 st3.2), (34, .bool false), (38, .bool false), (40, .cv (undef)), (42, .cv (undef))] [(6, .box 35 [.int .i64 (v0_2.getD st1.2.toNat (0, 0, 0)).1, .int .i64 (v0_2.getD st1.2.toNat (0, 0, 0)).2.1, .int .i64 (v0_2.getD st1.2.toNat (0, 0, 0)).2.2]), (52, .arr 35 (.pair (.int .i64) (.pair (.int .i64) (.int .i64))) st1.1), (23000, .arr 30 (.sl (.pair (.int .i64) (.pair (.int .i64) (.int .i64)))) v0), (25000, .arr 35 (.pair (.int .i64) (.pair (.int .i64) (.int .i64))) v0_2)] ?_
             refine zA [(3, .own 52), (4, .own 23000), (6, .bp 6 0), (7, .bool false), (15, .own 25000), (16, .int .i64 (v0_2.length : Int)), (17, .int .i64 st1.2), (21, .own 23000), (22, .int .i64 (v0.length : Int)), (23, .int .i64 st2.2), (27, .sl (.pair (.int .i64) (.pair (.int .i64) (.int .i64))) (v0.getD st2.2.toNat [])), (28, .int .i64 ((v0.getD st2.2.toNat []).length : Int)), (29, .int .i64 st3.2)] [(6, .box 35 [.int .i64 (v0_2.getD st1.2.toNat (0, 0, 0)).1, .int .i64 (v0_2.getD st1.2.toNat (0, 0, 0)).2.1, .int .i64 (v0_2.getD st1.2.toNat (0, 0, 0)).2.2]), (52, .arr 35 (.pair (.int .i64) (.pair (.int .i64) (.int .i64))) st1.1), (23000, .arr 30 (.sl (.pair (.int .i64) (.pair (.int .i64) (.int .i64)))) v0), (25000, .arr 35 (.pair (.int .i64) (.pair (.int .i64) (.int .i64))) v0_2)] ?_
             refine ablock_n ?_
             refine athen_n ?_
             refine AW.ops ?_
             obtain ⟨c41, h⟩ := ck_some.1 h
             refine zA [(3, .own 52), (4, .own 23000), (6, .bp 6 0), (7, .bool false), (15, .own 25000), (16, .int .i64 (v0_2.length : Int)), (17, .int .i64 st1.2), (21, .own 23000), (22, .int .i64 (v0.length : Int)), (23, .int .i64 st2.2), (27, .sl (.pair (.int .i64) (.pair (.int .i64) (.int .i64))) (v0.getD st2.2.toNat [])), (28, .int .i64 ((v0.getD st2.2.toNat []).length : Int)), (29, .int .i64 (st3.2 + 1))] [(6, .box 35 [.int .i64 (v0_2.getD st1.2.toNat (0, 0, 0)).1, .int .i64 (v0_2.getD st1.2.toNat (0, 0, 0)).2.1, .int .i64 (v0_2.getD st1.2.toNat (0, 0, 0)).2.2]), (52, .arr 35 (.pair (.int .i64) (.pair (.int .i64) (.int .i64))) st1.1), (23000, .arr 30 (.sl (.pair (.int .i64) (.pair (.int .i64) (.int .i64)))) v0), (25000, .arr 35 (.pair (.int .i64) (.pair (.int .i64) (.int .i64))) v0_2)] ?_
             obtain rfl := Option.some.inj h
             exact ⟨_, rfl, zL [] [] []⟩
          ·refine AW.exit ?_
           refine athen_e ?_
           obtain rfl := Option.some.inj h
           rw [← hd25 _ rfl] at ho24
           have h := ho24
           refine athen_e ?_
           refine ablock_s ?_
           refine ablock_n ?_
           refine athen_n ?_
           exact AW.weaken (zL [] [] []) (hk_linealref09_needed_k4 _ h)
       ·refine AW.exit ?_
        refine athen_e ?_
        obtain rfl := Option.some.inj h
        rw [← hd16 _ rfl] at ho15
        have h := ho15
        refine athen_e ?_
        refine ablock_s ?_
        refine athen_n ?_
        exact AW.weaken (zL [] [] []) (hk_linealref09_needed_k3 _ h)
   ·refine AW.exit ?_
    refine athen_e ?_
    obtain rfl := Option.some.inj h
    rw [← hd5 _ rfl] at ho4
    have h := ho4
    refine athen_e ?_
    refine ablock_s ?_
    refine athen_n ?_
    exact AW.weaken (zL [] [] []) (hk_linealref09_needed_k1 _ h)

theorem hc_linealref09_Needed (x0 : List (List (Int × Bool))) {r : (List (Int × Int × Int)) × Int} (h : linealref09_Needed x0 = some r) : HC Try.prog 29 [] [.sl (.sl (.pair (.int .i64) .bool)) x0] [(2000, .arr 35 (.pair (.int .i64) (.pair (.int .i64) (.int .i64))) r.1)] (.tup [.own 2000, .int .i64 r.2]) := by
 unfold linealref09_Needed at h
 refine zH Try.func29 [.tmp 2, .tmp 3] 9 ?_
 refine zo ?_
 refine zB [(0, .sl (.sl (.pair (.int .i64) .bool)) x0)] [] ?_
 refine AW.seq ?_
 refine zo ?_
 refine zS 1 [(0, .sl (.sl (.pair (.int .i64) .bool)) x0), (4, .sl (.sl (.pair (.int .i64) .bool)) x0)] [] ?_
 obtain ⟨v0, hv1, h⟩ := Option.bind_eq_some_iff.1 h
 refine zC [] [] (hc_linealref09_Valid x0 hv1) [(0, .sl (.sl (.pair (.int .i64) .bool)) x0), (5, .bool v0)] [] ?_
 refine zB [(0, .sl (.sl (.pair (.int .i64) .bool)) x0), (6, .bool (!v0))] [] ?_
 refine zQ h (fun hb2 h => ?_) (fun hb2 h => ?_)
 ·refine zo ?_
  refine zB [(2, .cv (.slice none 0 0)), (3, .int .i64 90)] [] ?_
  refine zr ?_
  obtain rfl := Option.some.inj h
  exact zR [] [2000] []
 ·refine zk ?_
  refine zo ?_
  refine zS 1 [(7, .sl (.sl (.pair (.int .i64) .bool)) x0)] [] ?_
  obtain ⟨v0_2, hv3, h⟩ := Option.bind_eq_some_iff.1 h
  refine zC [] [] (hc_linealref09_needed x0 hv3) [(8, .own 18000)] [(18000, .arr 35 (.pair (.int .i64) (.pair (.int .i64) (.int .i64))) v0_2)] ?_
  refine zB [(2, .own 18000), (3, .int .i64 0)] [(18000, .arr 35 (.pair (.int .i64) (.pair (.int .i64) (.int .i64))) v0_2)] ?_
  refine AW.ret ?_
  obtain rfl := Option.some.inj h
  exact zR [] [] [(2000, 18000)]

theorem hc_delay_Circle (x0 : List (List (Int × Bool))) (pair : Int × Int × Int) {r : (List (Int × Int × Int)) × Int} (h : delay_Circle x0 pair = some r) : HC Try.prog 30 [] [.sl (.sl (.pair (.int .i64) .bool)) x0, .agg [.int .i64 pair.1, .int .i64 pair.2.1, .int .i64 pair.2.2]] [] (.tup [.sl (.pair (.int .i64) (.pair (.int .i64) (.int .i64))) r.1, .int .i64 r.2]) := by
 unfold delay_Circle at h
 refine zH Try.func30 [.tmp 4, .tmp 5] 32 ?_
 refine zo ?_
 refine zB [(0, .sl (.sl (.pair (.int .i64) .bool)) x0), (3, .bp 3 0)] [(3, .box 35 [.int .i64 pair.1, .int .i64 pair.2.1, .int .i64 pair.2.2])] ?_
 refine zo ?_
 refine zS 1 [(3, .bp 3 0), (11, .sl (.sl (.pair (.int .i64) .bool)) x0)] [(3, .box 35 [.int .i64 pair.1, .int .i64 pair.2.1, .int .i64 pair.2.2])] ?_
 obtain ⟨v0, hv1, h⟩ := Option.bind_eq_some_iff.1 h
 refine zC [] [] (hc_delay_accessesOf x0 hv1) [(3, .bp 3 0), (12, .tup [.sl (.sl (.pair (.int .i64) .bool)) v0.1, .int .i64 v0.2])] [(3, .box 35 [.int .i64 pair.1, .int .i64 pair.2.1, .int .i64 pair.2.2])] ?_
 refine zB [(3, .bp 3 0), (6, .sl (.sl (.pair (.int .i64) .bool)) v0.1), (7, .int .i64 v0.2)] [(3, .box 35 [.int .i64 pair.1, .int .i64 pair.2.1, .int .i64 pair.2.2])] ?_
 refine AW.seq ?_
 refine zo ?_
 refine zB [(3, .bp 3 0), (6, .sl (.sl (.pair (.int .i64) .bool)) v0.1), (7, .int .i64 v0.2), (16, .bool (!(decide (v0.2 = 0))))] [(3, .box 35 [.int .i64 pair.1, .int .i64 pair.2.1, .int .i64 pair.2.2])] ?_
 refine zQ h (fun hb2 h => ?_) (fun hb2 h => ?_)
 ·refine zo ?_
  refine zB [(4, .cv (.slice none 0 0)), (5, .int .i64 v0.2)] [] ?_
  refine zr ?_
  obtain rfl := Option.some.inj h
  exact zR [] [] []
 ·refine zk ?_
  refine AW.seq ?_
  refine zo ?_
  refine zS 2 [(3, .bp 3 0), (6, .sl (.sl (.pair (.int .i64) .bool)) v0.1), (18, .sl (.sl (.pair (.int .i64) .bool)) v0.1), (19, .agg [.int .i64 pair.1, .int .i64 pair.2.1, .int .i64 pair.2.2])] [(3, .box 35 [.int .i64 pair.1, .int .i64 pair.2.1, .int .i64 pair.2.2])] ?_
  obtain ⟨v0_2, hv3, h⟩ := Option.bind_eq_some_iff.1 h
  refine zC [] [] (hc_delay_accesses_isPair v0.1 pair hv3) [(3, .bp 3 0), (6, .sl (.sl (.pair (.int .i64) .bool)) v0.1), (20, .bool v0_2)] [(3, .box 35 [.int .i64 pair.1, .int .i64 pair.2.1, .int .i64 pair.2.2])] ?_
  refine zB [(3, .bp 3 0), (6, .sl (.sl (.pair (.int .i64) .bool)) v0.1), (21, .bool (!v0_2))] [(3, .box 35 [.int .i64 pair.1, .int .i64 pair.2.1, .int .i64 pair.2.2])] ?_
  refine zQ h (fun hb4 h => ?_) (fun hb4 h => ?_)
  ·refine zo ?_
   refine zB [(4, .cv (.slice none 0 0)), (5, .int .i64 2)] [] ?_
   refine zr ?_
   obtain rfl := Option.some.inj h
   exact zR [] [] []
  ·refine zk ?_
   refine AW.seq ?_
   refine AW.draw tab_ok mixed_ok [(1, [34000])] [(2, [3])] (by decide) (lex_fast (by kernel_rfl)) ?_
   as_aux_lemma =>
    refine adops_cut 1 (fun K' hK5 => ?_)
    try dsimp only [List.drop_succ_cons, List.drop_zero, List.take_succ_cons, List.take_zero]
    simp only [go_sem, hb2, hb4]
    repeat with_reducible refine zN ?_
    refine hK5 _ ?_
    as_aux_lemma =>
     obtain ⟨v0_3, hv6, h⟩ := Option.bind_eq_some_iff.1 h
     refine adops.call (by first | trivial | rfl) rfl rfl rfl (fun _ h => h) [] [] (hc_delay_accesses_found v0.1 hv6) rfl (by (simp only [go_sem, hb2, hb4]) <;> (with_reducible and_intros) <;> first | assumption | rfl | omega | (unfold maxLen; omega)) (by (simp only [go_sem, hb2, hb4]) <;> (with_reducible and_intros) <;> first | assumption | rfl | omega | (unfold maxLen; omega)) rfl ?_
     refine adops_cut 1 (fun K' hK7 => ?_)
     try dsimp only [List.drop_succ_cons, List.drop_zero, List.take_succ_cons, List.take_zero]
     simp only [go_sem, hb2, hb4]
     repeat with_reducible refine zN ?_
     refine hK7 _ ?_
     as_aux_lemma =>
      obtain ⟨c9, h⟩ := ck_some.1 h
      obtain ⟨c10, h⟩ := ck_some.1 h
      obtain ⟨c11, h⟩ := ck_some.1 h
      refine adops_cut 1 (fun K' hK8 => ?_)
      try dsimp only [List.drop_succ_cons, List.drop_zero, List.take_succ_cons, List.take_zero]
      simp only [go_sem, hb2, hb4]
      refine ⟨.tup [.sl (.pair (.int .i64) (.pair (.int .i64) (.int .i64))) (mget [] v0_3 pair), .bool (mhas v0_3 pair)], mapLook (ok := true) mapty_93 (l := [.int .i64 pair.1, .int .i64 pair.2.1, .int .i64 pair.2.2]) (H := fun _ => none) (by first | rfl | (simp only [go_sem]; done)) (by first | (simp only [go_sem]; done) | rfl) (by first | assumption | (simp only [go_sem, *]; done) | ((simp only [go_sem]) <;> (with_reducible and_intros) <;> assumption)) v0_3, ?_⟩
      repeat with_reducible refine zN ?_
      refine hK8 _ ?_
      as_aux_lemma =>
       refine adops_cut 5 (fun K' hK12 => ?_)
       try dsimp only [List.drop_succ_cons, List.drop_zero, List.take_succ_cons, List.take_zero]
       simp only [go_sem, hb2, hb4]
       repeat with_reducible refine zN ?_
       refine hK12 _ ?_
       refine adops_nil ?_
       refine athen_n ?_
       refine zV [(8, .sl (.pair (.int .i64) (.pair (.int .i64) (.int .i64))) (mget [] v0_3 pair)), (9, .bool (mhas v0_3 pair))] [] gt ?_
       as_aux_lemma =>
        refine AW.seq ?_
        refine zo ?_
        refine zB [(8, .sl (.pair (.int .i64) (.pair (.int .i64) (.int .i64))) (mget [] v0_3 pair)), (30, .bool (!(mhas v0_3 pair)))] [] ?_
        refine zQ h (fun hb13 h => ?_) (fun hb13 h => ?_)
        ·refine zo ?_
         refine zB [(4, .cv (.slice none 0 0)), (5, .int .i64 5)] [] ?_
         refine zr ?_
         obtain rfl := Option.some.inj h
         exact zR [] [] []
        ·refine zk ?_
         refine zo ?_
         refine zB [(4, .sl (.pair (.int .i64) (.pair (.int .i64) (.int .i64))) (mget [] v0_3 pair)), (5, .int .i64 0)] [] ?_
         refine AW.ret ?_
         obtain rfl := Option.some.inj h
         exact zR [] [] []

end Go.Proofs.Ytdicomoggfhbfaa
