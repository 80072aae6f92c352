/-
  Made by wip/tool/dc.py out of the print of the program: contracts.
-/
import Derived.Test.YtifleoceebaooaaRfp
import Derived.Test.YtifleoceebaooaaShr
import Derived.Test.YtifleoceebaooaaAvd
import Derived.Test.YtifleoceebaooaaNpc10
import Derived.Test.YtifleoceebaooaaNpc4
import Derived.Test.YtifleoceebaooaaNpc5
import Derived.Test.YtifleoceebaooaaNpc8
namespace Go.Proofs.Ytifleoceebaooaa
open Go.RowKit

set_option linter.unusedSimpArgs false
set_option linter.unusedVariables false
set_option linter.constructorNameAsVariable false

set_option maxRecDepth 100000
set_option maxHeartbeats 2000000

theorem hc_linealref05_Proof (c : Int × (List (Int × Int × Int))) (a : Int × (List (Int × Int × Int))) {r : (List (Int × Int)) × Int} (h : linealref05_Proof c a = some r) : HC Try.prog 36 [] [.agg [.int .i64 c.1, .sl (.pair (.int .i64) (.pair (.int .i64) (.int .i64))) c.2], .agg [.int .i64 a.1, .sl (.pair (.int .i64) (.pair (.int .i64) (.int .i64))) a.2]] [(2000, .arr 58 (.pair (.int .i64) (.int .i64)) r.1)] (.tup [.own 2000, .int .i64 r.2]) := by
 unfold linealref05_Proof at h
 refine zH Try.func36 [.tmp 4, .tmp 5] 96 ?_
 refine zo ?_
 refine zB [(2, .bp 2 0), (3, .bp 3 0)] [(2, .box 24 [.int .i64 c.1, .sl (.pair (.int .i64) (.pair (.int .i64) (.int .i64))) c.2]), (3, .box 24 [.int .i64 a.1, .sl (.pair (.int .i64) (.pair (.int .i64) (.int .i64))) a.2])] ?_
 refine AW.seq ?_
 refine zo ?_
 refine zS 1 [(2, .bp 2 0), (3, .bp 3 0), (13, .agg [.int .i64 c.1, .sl (.pair (.int .i64) (.pair (.int .i64) (.int .i64))) c.2])] [(2, .box 24 [.int .i64 c.1, .sl (.pair (.int .i64) (.pair (.int .i64) (.int .i64))) c.2]), (3, .box 24 [.int .i64 a.1, .sl (.pair (.int .i64) (.pair (.int .i64) (.int .i64))) a.2])] ?_
 obtain ⟨v0, hv1, h⟩ := Option.bind_eq_some_iff.1 h
 refine zC [] [] (hc_linealref05_Valid c hv1) [(2, .bp 2 0), (3, .bp 3 0), (14, .bool v0)] [(2, .box 24 [.int .i64 c.1, .sl (.pair (.int .i64) (.pair (.int .i64) (.int .i64))) c.2]), (3, .box 24 [.int .i64 a.1, .sl (.pair (.int .i64) (.pair (.int .i64) (.int .i64))) a.2])] ?_
 refine zS 2 [(2, .bp 2 0), (3, .bp 3 0), (16, .bool (!v0))] [(2, .box 24 [.int .i64 c.1, .sl (.pair (.int .i64) (.pair (.int .i64) (.int .i64))) c.2]), (3, .box 24 [.int .i64 a.1, .sl (.pair (.int .i64) (.pair (.int .i64) (.int .i64))) a.2])] ?_
 rcases zI h with ⟨hb2, h⟩ | ⟨hb2, h⟩
 ·refine zB [(2, .bp 2 0), (3, .bp 3 0), (20, .bool true)] [(2, .box 24 [.int .i64 c.1, .sl (.pair (.int .i64) (.pair (.int .i64) (.int .i64))) c.2]), (3, .box 24 [.int .i64 a.1, .sl (.pair (.int .i64) (.pair (.int .i64) (.int .i64))) a.2])] ?_
  refine AW.cond (b := true) rfl (fun _ => ?_) (fun hb3 => by cases hb3)
  refine zo ?_
  refine zB [(4, .cv (.slice none 0 0)), (5, .int .i64 50)] [] ?_
  refine zr ?_
  obtain rfl := Option.some.inj h
  exact zR [] [2000] []
 ·refine zS 1 [(2, .bp 2 0), (3, .bp 3 0), (16, .bool false), (17, .agg [.int .i64 a.1, .sl (.pair (.int .i64) (.pair (.int .i64) (.int .i64))) a.2])] [(2, .box 24 [.int .i64 c.1, .sl (.pair (.int .i64) (.pair (.int .i64) (.int .i64))) c.2]), (3, .box 24 [.int .i64 a.1, .sl (.pair (.int .i64) (.pair (.int .i64) (.int .i64))) a.2])] ?_
  obtain ⟨v0_2, hv4, h⟩ := Option.bind_eq_some_iff.1 h
  refine zG [] [] (hc_linealref05_Valid a hv4) [(2, .bp 2 0), (3, .bp 3 0), (16, .bool false), (18, .bool v0_2)] [(2, .box 24 [.int .i64 c.1, .sl (.pair (.int .i64) (.pair (.int .i64) (.int .i64))) c.2]), (3, .box 24 [.int .i64 a.1, .sl (.pair (.int .i64) (.pair (.int .i64) (.int .i64))) a.2])] ?_
  refine zB [(2, .bp 2 0), (3, .bp 3 0), (20, .bool (!v0_2))] [(2, .box 24 [.int .i64 c.1, .sl (.pair (.int .i64) (.pair (.int .i64) (.int .i64))) c.2]), (3, .box 24 [.int .i64 a.1, .sl (.pair (.int .i64) (.pair (.int .i64) (.int .i64))) a.2])] ?_
  refine zQ h (fun hb5 h => ?_) (fun hb5 h => ?_)
  ·refine zo ?_
   refine zB [(4, .cv (.slice none 0 0)), (5, .int .i64 50)] [] ?_
   refine zr ?_
   obtain rfl := Option.some.inj h
   exact zR [] [2000] []
  ·refine zk ?_
   refine zo ?_
   refine zS 2 [(2, .bp 2 0), (3, .bp 3 0), (21, .agg [.int .i64 c.1, .sl (.pair (.int .i64) (.pair (.int .i64) (.int .i64))) c.2]), (22, .agg [.int .i64 a.1, .sl (.pair (.int .i64) (.pair (.int .i64) (.int .i64))) a.2])] [(2, .box 24 [.int .i64 c.1, .sl (.pair (.int .i64) (.pair (.int .i64) (.int .i64))) c.2]), (3, .box 24 [.int .i64 a.1, .sl (.pair (.int .i64) (.pair (.int .i64) (.int .i64))) a.2])] ?_
   obtain ⟨v0_3, hv6, h⟩ := Option.bind_eq_some_iff.1 h
   refine zC [] [] (hc_linealref05_best c a hv6) [(2, .bp 2 0), (3, .bp 3 0), (23, .own 33000)] [(2, .box 24 [.int .i64 c.1, .sl (.pair (.int .i64) (.pair (.int .i64) (.int .i64))) c.2]), (3, .box 24 [.int .i64 a.1, .sl (.pair (.int .i64) (.pair (.int .i64) (.int .i64))) a.2]), (33000, .arr 3 (.int .i64) v0_3)] ?_
   refine zB [(2, .bp 2 0), (3, .bp 3 0), (6, .own 33000)] [(2, .box 24 [.int .i64 c.1, .sl (.pair (.int .i64) (.pair (.int .i64) (.int .i64))) c.2]), (3, .box 24 [.int .i64 a.1, .sl (.pair (.int .i64) (.pair (.int .i64) (.int .i64))) a.2]), (33000, .arr 3 (.int .i64) v0_3)] ?_
   refine AW.seq ?_
   refine zo ?_
   obtain ⟨c7, h⟩ := ck_some.1 h
   refine zB [(2, .bp 2 0), (3, .bp 3 0), (6, .own 33000), (28, .bool (decide ((iand .i64 (v0_3.getD 0 0) 1) = 0)))] [(2, .box 24 [.int .i64 c.1, .sl (.pair (.int .i64) (.pair (.int .i64) (.int .i64))) c.2]), (3, .box 24 [.int .i64 a.1, .sl (.pair (.int .i64) (.pair (.int .i64) (.int .i64))) a.2]), (33000, .arr 3 (.int .i64) v0_3)] ?_
   refine zQ h (fun hb8 h => ?_) (fun hb8 h => ?_)
   ·refine zo ?_
    refine zB [(4, .cv (.slice none 0 0)), (5, .int .i64 5)] [] ?_
    refine zr ?_
    obtain rfl := Option.some.inj h
    exact zR [] [2000] []
   ·refine zk ?_
    refine zo ?_
    obtain ⟨c9, h⟩ := ck_some.1 h
    obtain ⟨c10, h⟩ := ck_some.1 h
    refine zB [(2, .bp 2 0), (3, .bp 3 0), (6, .own 33000), (7, .own 31)] [(2, .box 24 [.int .i64 c.1, .sl (.pair (.int .i64) (.pair (.int .i64) (.int .i64))) c.2]), (3, .box 24 [.int .i64 a.1, .sl (.pair (.int .i64) (.pair (.int .i64) (.int .i64))) a.2]), (31, .arr 3 (.int .i64) (List.replicate c.1.toNat (0 : Int))), (33000, .arr 3 (.int .i64) v0_3)] ?_
    refine zo ?_
    obtain ⟨c11, h⟩ := ck_some.1 h
    refine zB [(2, .bp 2 0), (3, .bp 3 0), (6, .own 33000), (7, .own 31)] [(2, .box 24 [.int .i64 c.1, .sl (.pair (.int .i64) (.pair (.int .i64) (.int .i64))) c.2]), (3, .box 24 [.int .i64 a.1, .sl (.pair (.int .i64) (.pair (.int .i64) (.int .i64))) a.2]), (31, .arr 3 (.int .i64) ((List.replicate c.1.toNat (0 : Int)).set 0 1)), (33000, .arr 3 (.int .i64) v0_3)] ?_
    refine AW.have1 (fun b4_4 : (List Int) => linealref05_Proof_k1 b4_4 = some r) (fun b4_4 => ⟨fr [(7, .own 31)], hpGet [(31, .arr 3 (.int .i64) b4_4)], gt⟩) (fun b4_4 h => ?_) (fun hk_linealref05_Proof_k1 => ?_)
    ·as_aux_lemma =>
      unfold linealref05_Proof_k1 at h
      refine zo ?_
      refine zS 1 [(94, .own 31)] [(31, .arr 3 (.int .i64) b4_4)] ?_
      obtain ⟨v0_7, hv12, h⟩ := Option.bind_eq_some_iff.1 h
      refine zC [31] [] (hc_linealref05_relation b4_4 hv12) [(95, .own 105000)] [(105000, .arr 58 (.pair (.int .i64) (.int .i64)) v0_7)] ?_
      refine zB [(4, .own 105000), (5, .int .i64 0)] [(105000, .arr 58 (.pair (.int .i64) (.int .i64)) v0_7)] ?_
      refine AW.ret ?_
      obtain rfl := Option.some.inj h
      exact zR [] [] [(2000, 105000)]
    ·refine AW.seq ?_
     refine zo ?_
     obtain ⟨c13, h⟩ := ck_some.1 h
     refine zS 5 [(2, .bp 2 0), (3, .bp 3 0), (6, .own 33000), (7, .own 31), (38, .int .i64 (c.1 * a.1))] [(2, .box 24 [.int .i64 c.1, .sl (.pair (.int .i64) (.pair (.int .i64) (.int .i64))) c.2]), (3, .box 24 [.int .i64 a.1, .sl (.pair (.int .i64) (.pair (.int .i64) (.int .i64))) a.2]), (31, .arr 3 (.int .i64) ((List.replicate c.1.toNat (0 : Int)).set 0 1)), (33000, .arr 3 (.int .i64) v0_3)] ?_
     refine zB [(2, .bp 2 0), (3, .bp 3 0), (6, .own 33000), (7, .own 31), (38, .int .i64 (c.1 * a.1)), (39, .int .i64 0)] [(2, .box 24 [.int .i64 c.1, .sl (.pair (.int .i64) (.pair (.int .i64) (.int .i64))) c.2]), (3, .box 24 [.int .i64 a.1, .sl (.pair (.int .i64) (.pair (.int .i64) (.int .i64))) a.2]), (31, .arr 3 (.int .i64) ((List.replicate c.1.toNat (0 : Int)).set 0 1)), (33000, .arr 3 (.int .i64) v0_3)] ?_
     refine AW.block ?_
     obtain ⟨rv18, hw14, ho15⟩ := Option.bind_eq_some_iff.1 h
     refine AW.loopO (linealref05_Proof_b1 c a v0_3) (fun st1 => ⟨fr [(2, .bp 2 0), (3, .bp 3 0), (6, .own 33000), (7, .own 31), (38, .int .i64 (c.1 * a.1)), (39, .int .i64 st1.2)], hpGet [(2, .box 24 [.int .i64 c.1, .sl (.pair (.int .i64) (.pair (.int .i64) (.int .i64))) c.2]), (3, .box 24 [.int .i64 a.1, .sl (.pair (.int .i64) (.pair (.int .i64) (.int .i64))) a.2]), (31, .arr 3 (.int .i64) st1.1), (33000, .arr 3 (.int .i64) v0_3)], gt⟩) (((List.replicate c.1.toNat (0 : Int)).set 0 1), 0) hw14 (zL [] [] []) ?_
     as_aux_lemma =>
      intro st1 x17 h hd16
      unfold linealref05_Proof_b1 at h
      refine zo ?_
      refine zB [(2, .bp 2 0), (3, .bp 3 0), (6, .own 33000), (7, .own 31), (38, .int .i64 (c.1 * a.1)), (39, .int .i64 st1.2), (40, .bool (decide (st1.2 < (c.1 * a.1))))] [(2, .box 24 [.int .i64 c.1, .sl (.pair (.int .i64) (.pair (.int .i64) (.int .i64))) c.2]), (3, .box 24 [.int .i64 a.1, .sl (.pair (.int .i64) (.pair (.int .i64) (.int .i64))) a.2]), (31, .arr 3 (.int .i64) st1.1), (33000, .arr 3 (.int .i64) v0_3)] ?_
      refine AW.seq ?_
      refine zQ h (fun hb19 h => ?_) (fun hb19 h => ?_)
      ·refine zk ?_
       refine AW.have1 (fun b4_3 : (List Int) => linealref05_Proof_k2 st1 b4_3 = some x17) (fun b4_3 => ⟨fr [(2, .bp 2 0), (3, .bp 3 0), (6, .own 33000), (7, .own 31), (38, .int .i64 (c.1 * a.1)), (39, .int .i64 st1.2)], hpGet [(2, .box 24 [.int .i64 c.1, .sl (.pair (.int .i64) (.pair (.int .i64) (.int .i64))) c.2]), (3, .box 24 [.int .i64 a.1, .sl (.pair (.int .i64) (.pair (.int .i64) (.int .i64))) a.2]), (31, .arr 3 (.int .i64) b4_3), (33000, .arr 3 (.int .i64) v0_3)], gt⟩) (fun b4_3 h => ?_) (fun hk_linealref05_Proof_k2 => ?_)
       ·as_aux_lemma =>
         unfold linealref05_Proof_k2 at h
         refine AW.ops ?_
         obtain ⟨c20, h⟩ := ck_some.1 h
         refine zA [(2, .bp 2 0), (3, .bp 3 0), (6, .own 33000), (7, .own 31), (38, .int .i64 (c.1 * a.1)), (39, .int .i64 (st1.2 + 1))] [(2, .box 24 [.int .i64 c.1, .sl (.pair (.int .i64) (.pair (.int .i64) (.int .i64))) c.2]), (3, .box 24 [.int .i64 a.1, .sl (.pair (.int .i64) (.pair (.int .i64) (.int .i64))) a.2]), (31, .arr 3 (.int .i64) b4_3), (33000, .arr 3 (.int .i64) v0_3)] ?_
         obtain rfl := Option.some.inj h
         exact ⟨_, rfl, zL [] [] []⟩
       ·refine AW.seq ?_
        refine AW.block ?_
        refine zo ?_
        refine zB [(2, .bp 2 0), (3, .bp 3 0), (6, .own 33000), (7, .own 31), (38, .int .i64 (c.1 * a.1)), (39, .int .i64 st1.2), (42, .int .i64 (st1.1.length : Int)), (43, .int .i64 0)] [(2, .box 24 [.int .i64 c.1, .sl (.pair (.int .i64) (.pair (.int .i64) (.int .i64))) c.2]), (3, .box 24 [.int .i64 a.1, .sl (.pair (.int .i64) (.pair (.int .i64) (.int .i64))) a.2]), (31, .arr 3 (.int .i64) st1.1), (33000, .arr 3 (.int .i64) v0_3)] ?_
        refine AW.block ?_
        obtain ⟨rv25, hw21, ho22⟩ := Option.bind_eq_some_iff.1 h
        refine AW.loopO (linealref05_Proof_b2 c a v0_3 st1) (fun st2 => ⟨fr [(2, .bp 2 0), (3, .bp 3 0), (6, .own 33000), (7, .own 31), (38, .int .i64 (c.1 * a.1)), (39, .int .i64 st1.2), (42, .int .i64 (st1.1.length : Int)), (43, .int .i64 st2.2)], hpGet [(2, .box 24 [.int .i64 c.1, .sl (.pair (.int .i64) (.pair (.int .i64) (.int .i64))) c.2]), (3, .box 24 [.int .i64 a.1, .sl (.pair (.int .i64) (.pair (.int .i64) (.int .i64))) a.2]), (31, .arr 3 (.int .i64) st2.1), (33000, .arr 3 (.int .i64) v0_3)], gt⟩) (st1.1, 0) hw21 (zL [] [] []) ?_
        as_aux_lemma =>
         intro st2 x24 h hd23
         unfold linealref05_Proof_b2 at h
         refine zo ?_
         refine zB [(2, .bp 2 0), (3, .bp 3 0), (6, .own 33000), (7, .own 31), (38, .int .i64 (c.1 * a.1)), (39, .int .i64 st1.2), (42, .int .i64 (st1.1.length : Int)), (43, .int .i64 st2.2), (44, .bool (decide (st2.2 < (st1.1.length : Int))))] [(2, .box 24 [.int .i64 c.1, .sl (.pair (.int .i64) (.pair (.int .i64) (.int .i64))) c.2]), (3, .box 24 [.int .i64 a.1, .sl (.pair (.int .i64) (.pair (.int .i64) (.int .i64))) a.2]), (31, .arr 3 (.int .i64) st2.1), (33000, .arr 3 (.int .i64) v0_3)] ?_
         refine AW.seq ?_
         refine zQ h (fun hb26 h => ?_) (fun hb26 h => ?_)
         ·refine zk ?_
          refine AW.have1 (fun b4_2 : (List Int) => linealref05_Proof_k3 st2 b4_2 = some x24) (fun b4_2 => ⟨fr [(2, .bp 2 0), (3, .bp 3 0), (6, .own 33000), (7, .own 31), (38, .int .i64 (c.1 * a.1)), (39, .int .i64 st1.2), (42, .int .i64 (st1.1.length : Int)), (43, .int .i64 st2.2)], hpGet [(2, .box 24 [.int .i64 c.1, .sl (.pair (.int .i64) (.pair (.int .i64) (.int .i64))) c.2]), (3, .box 24 [.int .i64 a.1, .sl (.pair (.int .i64) (.pair (.int .i64) (.int .i64))) a.2]), (31, .arr 3 (.int .i64) b4_2), (33000, .arr 3 (.int .i64) v0_3)], gt⟩) (fun b4_2 h => ?_) (fun hk_linealref05_Proof_k3 => ?_)
          ·as_aux_lemma =>
            unfold linealref05_Proof_k3 at h
            refine AW.ops ?_
            obtain ⟨c27, h⟩ := ck_some.1 h
            refine zA [(2, .bp 2 0), (3, .bp 3 0), (6, .own 33000), (7, .own 31), (38, .int .i64 (c.1 * a.1)), (39, .int .i64 st1.2), (42, .int .i64 (st1.1.length : Int)), (43, .int .i64 (st2.2 + 1))] [(2, .box 24 [.int .i64 c.1, .sl (.pair (.int .i64) (.pair (.int .i64) (.int .i64))) c.2]), (3, .box 24 [.int .i64 a.1, .sl (.pair (.int .i64) (.pair (.int .i64) (.int .i64))) a.2]), (31, .arr 3 (.int .i64) b4_2), (33000, .arr 3 (.int .i64) v0_3)] ?_
            obtain rfl := Option.some.inj h
            exact ⟨_, rfl, zL [] [] []⟩
          ·refine AW.seq ?_
           refine AW.block ?_
           refine zo ?_
           refine zB [(2, .bp 2 0), (3, .bp 3 0), (6, .own 33000), (7, .own 31), (8, .int .i64 st2.2), (38, .int .i64 (c.1 * a.1)), (39, .int .i64 st1.2), (42, .int .i64 (st1.1.length : Int)), (43, .int .i64 st2.2)] [(2, .box 24 [.int .i64 c.1, .sl (.pair (.int .i64) (.pair (.int .i64) (.int .i64))) c.2]), (3, .box 24 [.int .i64 a.1, .sl (.pair (.int .i64) (.pair (.int .i64) (.int .i64))) a.2]), (31, .arr 3 (.int .i64) st2.1), (33000, .arr 3 (.int .i64) v0_3)] ?_
           refine zo ?_
           obtain ⟨c28, h⟩ := ck_some.1 h
           obtain ⟨c29, h⟩ := ck_some.1 h
           refine zS 4 [(2, .bp 2 0), (3, .bp 3 0), (6, .own 33000), (7, .own 31), (8, .int .i64 st2.2), (38, .int .i64 (c.1 * a.1)), (39, .int .i64 st1.2), (42, .int .i64 (st1.1.length : Int)), (43, .int .i64 st2.2), (49, .int .i64 (st2.1.getD st2.2.toNat 0))] [(2, .box 24 [.int .i64 c.1, .sl (.pair (.int .i64) (.pair (.int .i64) (.int .i64))) c.2]), (3, .box 24 [.int .i64 a.1, .sl (.pair (.int .i64) (.pair (.int .i64) (.int .i64))) a.2]), (31, .arr 3 (.int .i64) st2.1), (33000, .arr 3 (.int .i64) v0_3)] ?_
           obtain ⟨v0_4, hv30, h⟩ := Option.bind_eq_some_iff.1 h
           refine zC [] [] (hc_linealref05_list (st2.1.getD st2.2.toNat 0) hv30) [(2, .bp 2 0), (3, .bp 3 0), (6, .own 33000), (7, .own 31), (8, .int .i64 st2.2), (38, .int .i64 (c.1 * a.1)), (39, .int .i64 st1.2), (42, .int .i64 (st1.1.length : Int)), (43, .int .i64 st2.2), (50, .own 60000)] [(2, .box 24 [.int .i64 c.1, .sl (.pair (.int .i64) (.pair (.int .i64) (.int .i64))) c.2]), (3, .box 24 [.int .i64 a.1, .sl (.pair (.int .i64) (.pair (.int .i64) (.int .i64))) a.2]), (31, .arr 3 (.int .i64) st2.1), (33000, .arr 3 (.int .i64) v0_3), (60000, .arr 3 (.int .i64) v0_4)] ?_
           refine zB [(2, .bp 2 0), (3, .bp 3 0), (6, .own 33000), (7, .own 31), (8, .int .i64 st2.2), (38, .int .i64 (c.1 * a.1)), (39, .int .i64 st1.2), (42, .int .i64 (st1.1.length : Int)), (43, .int .i64 st2.2), (50, .own 60000), (51, .int .i64 (v0_4.length : Int)), (52, .int .i64 0)] [(2, .box 24 [.int .i64 c.1, .sl (.pair (.int .i64) (.pair (.int .i64) (.int .i64))) c.2]), (3, .box 24 [.int .i64 a.1, .sl (.pair (.int .i64) (.pair (.int .i64) (.int .i64))) a.2]), (31, .arr 3 (.int .i64) st2.1), (33000, .arr 3 (.int .i64) v0_3), (60000, .arr 3 (.int .i64) v0_4)] ?_
           refine AW.block ?_
           obtain ⟨rv35, hw31, ho32⟩ := Option.bind_eq_some_iff.1 h
           refine AW.loopO (linealref05_Proof_b3 c a v0_3 st2 v0_4) (fun st3 => ⟨fr [(2, .bp 2 0), (3, .bp 3 0), (6, .own 33000), (7, .own 31), (8, .int .i64 st2.2), (38, .int .i64 (c.1 * a.1)), (39, .int .i64 st1.2), (42, .int .i64 (st1.1.length : Int)), (43, .int .i64 st2.2), (50, .own 60000), (51, .int .i64 (v0_4.length : Int)), (52, .int .i64 st3.2)], hpGet [(2, .box 24 [.int .i64 c.1, .sl (.pair (.int .i64) (.pair (.int .i64) (.int .i64))) c.2]), (3, .box 24 [.int .i64 a.1, .sl (.pair (.int .i64) (.pair (.int .i64) (.int .i64))) a.2]), (31, .arr 3 (.int .i64) st3.1), (33000, .arr 3 (.int .i64) v0_3), (60000, .arr 3 (.int .i64) v0_4)], gt⟩) (st2.1, 0) hw31 (zL [] [] []) ?_
           as_aux_lemma =>
            intro st3 x34 h hd33
            unfold linealref05_Proof_b3 at h
            refine zo ?_
            refine zB [(2, .bp 2 0), (3, .bp 3 0), (6, .own 33000), (7, .own 31), (8, .int .i64 st2.2), (38, .int .i64 (c.1 * a.1)), (39, .int .i64 st1.2), (42, .int .i64 (st1.1.length : Int)), (43, .int .i64 st2.2), (50, .own 60000), (51, .int .i64 (v0_4.length : Int)), (52, .int .i64 st3.2), (53, .bool (decide (st3.2 < (v0_4.length : Int))))] [(2, .box 24 [.int .i64 c.1, .sl (.pair (.int .i64) (.pair (.int .i64) (.int .i64))) c.2]), (3, .box 24 [.int .i64 a.1, .sl (.pair (.int .i64) (.pair (.int .i64) (.int .i64))) a.2]), (31, .arr 3 (.int .i64) st3.1), (33000, .arr 3 (.int .i64) v0_3), (60000, .arr 3 (.int .i64) v0_4)] ?_
            refine AW.seq ?_
            refine zQ h (fun hb36 h => ?_) (fun hb36 h => ?_)
            ·refine zk ?_
             refine AW.have1 (fun b4 : (List Int) => linealref05_Proof_k4 st3 b4 = some x34) (fun b4 => ⟨fr [(2, .bp 2 0), (3, .bp 3 0), (6, .own 33000), (7, .own 31), (8, .int .i64 st2.2), (38, .int .i64 (c.1 * a.1)), (39, .int .i64 st1.2), (42, .int .i64 (st1.1.length : Int)), (43, .int .i64 st2.2), (50, .own 60000), (51, .int .i64 (v0_4.length : Int)), (52, .int .i64 st3.2)], hpGet [(2, .box 24 [.int .i64 c.1, .sl (.pair (.int .i64) (.pair (.int .i64) (.int .i64))) c.2]), (3, .box 24 [.int .i64 a.1, .sl (.pair (.int .i64) (.pair (.int .i64) (.int .i64))) a.2]), (31, .arr 3 (.int .i64) b4), (33000, .arr 3 (.int .i64) v0_3), (60000, .arr 3 (.int .i64) v0_4)], gt⟩) (fun b4 h => ?_) (fun hk_linealref05_Proof_k4 => ?_)
             ·as_aux_lemma =>
               unfold linealref05_Proof_k4 at h
               refine AW.ops ?_
               obtain ⟨c37, h⟩ := ck_some.1 h
               refine zA [(2, .bp 2 0), (3, .bp 3 0), (6, .own 33000), (7, .own 31), (8, .int .i64 st2.2), (38, .int .i64 (c.1 * a.1)), (39, .int .i64 st1.2), (42, .int .i64 (st1.1.length : Int)), (43, .int .i64 st2.2), (50, .own 60000), (51, .int .i64 (v0_4.length : Int)), (52, .int .i64 (st3.2 + 1))] [(2, .box 24 [.int .i64 c.1, .sl (.pair (.int .i64) (.pair (.int .i64) (.int .i64))) c.2]), (3, .box 24 [.int .i64 a.1, .sl (.pair (.int .i64) (.pair (.int .i64) (.int .i64))) a.2]), (31, .arr 3 (.int .i64) b4), (33000, .arr 3 (.int .i64) v0_3), (60000, .arr 3 (.int .i64) v0_4)] ?_
               obtain rfl := Option.some.inj h
               exact ⟨_, rfl, zL [] [] []⟩
             ·refine AW.seq ?_
              refine AW.block ?_
              refine zo ?_
              obtain ⟨c38, h⟩ := ck_some.1 h
              obtain ⟨c39, h⟩ := ck_some.1 h
              refine zB [(2, .bp 2 0), (3, .bp 3 0), (6, .own 33000), (7, .own 31), (8, .int .i64 st2.2), (10, .int .i64 (v0_4.getD st3.2.toNat 0)), (38, .int .i64 (c.1 * a.1)), (39, .int .i64 st1.2), (42, .int .i64 (st1.1.length : Int)), (43, .int .i64 st2.2), (50, .own 60000), (51, .int .i64 (v0_4.length : Int)), (52, .int .i64 st3.2)] [(2, .box 24 [.int .i64 c.1, .sl (.pair (.int .i64) (.pair (.int .i64) (.int .i64))) c.2]), (3, .box 24 [.int .i64 a.1, .sl (.pair (.int .i64) (.pair (.int .i64) (.int .i64))) a.2]), (31, .arr 3 (.int .i64) st3.1), (33000, .arr 3 (.int .i64) v0_3), (60000, .arr 3 (.int .i64) v0_4)] ?_
              refine zo ?_
              refine zB [(2, .bp 2 0), (3, .bp 3 0), (6, .own 33000), (7, .own 31), (8, .int .i64 st2.2), (10, .int .i64 (v0_4.getD st3.2.toNat 0)), (38, .int .i64 (c.1 * a.1)), (39, .int .i64 st1.2), (42, .int .i64 (st1.1.length : Int)), (43, .int .i64 st2.2), (50, .own 60000), (51, .int .i64 (v0_4.length : Int)), (52, .int .i64 st3.2), (57, .sl (.pair (.int .i64) (.pair (.int .i64) (.int .i64))) c.2), (58, .int .i64 (c.2.length : Int)), (59, .int .i64 0)] [(2, .box 24 [.int .i64 c.1, .sl (.pair (.int .i64) (.pair (.int .i64) (.int .i64))) c.2]), (3, .box 24 [.int .i64 a.1, .sl (.pair (.int .i64) (.pair (.int .i64) (.int .i64))) a.2]), (31, .arr 3 (.int .i64) st3.1), (33000, .arr 3 (.int .i64) v0_3), (60000, .arr 3 (.int .i64) v0_4)] ?_
              refine AW.block ?_
              obtain ⟨rv44, hw40, ho41⟩ := Option.bind_eq_some_iff.1 h
              refine AW.loopO (linealref05_Proof_b4 c a v0_3 st2 v0_4 st3) (fun st4 => ⟨fr [(2, .bp 2 0), (3, .bp 3 0), (6, .own 33000), (7, .own 31), (8, .int .i64 st2.2), (10, .int .i64 (v0_4.getD st3.2.toNat 0)), (38, .int .i64 (c.1 * a.1)), (39, .int .i64 st1.2), (42, .int .i64 (st1.1.length : Int)), (43, .int .i64 st2.2), (50, .own 60000), (51, .int .i64 (v0_4.length : Int)), (52, .int .i64 st3.2), (57, .sl (.pair (.int .i64) (.pair (.int .i64) (.int .i64))) c.2), (58, .int .i64 (c.2.length : Int)), (59, .int .i64 st4.2)], hpGet [(2, .box 24 [.int .i64 c.1, .sl (.pair (.int .i64) (.pair (.int .i64) (.int .i64))) c.2]), (3, .box 24 [.int .i64 a.1, .sl (.pair (.int .i64) (.pair (.int .i64) (.int .i64))) a.2]), (31, .arr 3 (.int .i64) st4.1), (33000, .arr 3 (.int .i64) v0_3), (60000, .arr 3 (.int .i64) v0_4)], gt⟩) (st3.1, 0) hw40 (zL [] [] []) ?_
              as_aux_lemma =>
               intro st4 x43 h hd42
               unfold linealref05_Proof_b4 at h
               refine zo ?_
               refine zB [(2, .bp 2 0), (3, .bp 3 0), (6, .own 33000), (7, .own 31), (8, .int .i64 st2.2), (10, .int .i64 (v0_4.getD st3.2.toNat 0)), (38, .int .i64 (c.1 * a.1)), (39, .int .i64 st1.2), (42, .int .i64 (st1.1.length : Int)), (43, .int .i64 st2.2), (50, .own 60000), (51, .int .i64 (v0_4.length : Int)), (52, .int .i64 st3.2), (57, .sl (.pair (.int .i64) (.pair (.int .i64) (.int .i64))) c.2), (58, .int .i64 (c.2.length : Int)), (59, .int .i64 st4.2), (60, .bool (decide (st4.2 < (c.2.length : Int))))] [(2, .box 24 [.int .i64 c.1, .sl (.pair (.int .i64) (.pair (.int .i64) (.int .i64))) c.2]), (3, .box 24 [.int .i64 a.1, .sl (.pair (.int .i64) (.pair (.int .i64) (.int .i64))) a.2]), (31, .arr 3 (.int .i64) st4.1), (33000, .arr 3 (.int .i64) v0_3), (60000, .arr 3 (.int .i64) v0_4)] ?_
               refine AW.seq ?_
               refine zQ h (fun hb45 h => ?_) (fun hb45 h => ?_)
               ·refine zk ?_
                refine AW.seq ?_
                refine AW.block ?_
                refine zo ?_
                obtain ⟨c46, h⟩ := ck_some.1 h
                obtain ⟨c47, h⟩ := ck_some.1 h
                refine zB [(2, .bp 2 0), (3, .bp 3 0), (6, .own 33000), (7, .own 31), (8, .int .i64 st2.2), (10, .int .i64 (v0_4.getD st3.2.toNat 0)), (12, .bp 12 0), (38, .int .i64 (c.1 * a.1)), (39, .int .i64 st1.2), (42, .int .i64 (st1.1.length : Int)), (43, .int .i64 st2.2), (50, .own 60000), (51, .int .i64 (v0_4.length : Int)), (52, .int .i64 st3.2), (57, .sl (.pair (.int .i64) (.pair (.int .i64) (.int .i64))) c.2), (58, .int .i64 (c.2.length : Int)), (59, .int .i64 st4.2)] [(2, .box 24 [.int .i64 c.1, .sl (.pair (.int .i64) (.pair (.int .i64) (.int .i64))) c.2]), (3, .box 24 [.int .i64 a.1, .sl (.pair (.int .i64) (.pair (.int .i64) (.int .i64))) a.2]), (12, .box 66 [.int .i64 (c.2.getD st4.2.toNat (0, 0, 0)).1, .int .i64 (c.2.getD st4.2.toNat (0, 0, 0)).2.1, .int .i64 (c.2.getD st4.2.toNat (0, 0, 0)).2.2]), (31, .arr 3 (.int .i64) st4.1), (33000, .arr 3 (.int .i64) v0_3), (60000, .arr 3 (.int .i64) v0_4)] ?_
                refine zo ?_
                refine zB [(2, .bp 2 0), (3, .bp 3 0), (6, .own 33000), (7, .own 31), (8, .int .i64 st2.2), (10, .int .i64 (v0_4.getD st3.2.toNat 0)), (12, .bp 12 0), (38, .int .i64 (c.1 * a.1)), (39, .int .i64 st1.2), (42, .int .i64 (st1.1.length : Int)), (43, .int .i64 st2.2), (50, .own 60000), (51, .int .i64 (v0_4.length : Int)), (52, .int .i64 st3.2), (57, .sl (.pair (.int .i64) (.pair (.int .i64) (.int .i64))) c.2), (58, .int .i64 (c.2.length : Int)), (59, .int .i64 st4.2), (66, .bool (decide ((c.2.getD st4.2.toNat (0, 0, 0)).1 = st2.2)))] [(2, .box 24 [.int .i64 c.1, .sl (.pair (.int .i64) (.pair (.int .i64) (.int .i64))) c.2]), (3, .box 24 [.int .i64 a.1, .sl (.pair (.int .i64) (.pair (.int .i64) (.int .i64))) a.2]), (12, .box 66 [.int .i64 (c.2.getD st4.2.toNat (0, 0, 0)).1, .int .i64 (c.2.getD st4.2.toNat (0, 0, 0)).2.1, .int .i64 (c.2.getD st4.2.toNat (0, 0, 0)).2.2]), (31, .arr 3 (.int .i64) st4.1), (33000, .arr 3 (.int .i64) v0_3), (60000, .arr 3 (.int .i64) v0_4)] ?_
                refine zQ h (fun hb48 h => ?_) (fun hb48 h => ?_)
                ·refine AW.draw tab_ok mixed_ok [(17, [94000]), (23, [31])] [(0, [31]), (1, [12]), (2, [12]), (3, [31]), (4, [31]), (100023, [])] (by decide) (lex_fast (by kernel_rfl)) ?_
                 as_aux_lemma =>
                  obtain ⟨c50, h⟩ := ck_some.1 h
                  obtain ⟨c51, h⟩ := ck_some.1 h
                  refine adops_cut 6 (fun K' hK49 => ?_)
                  try dsimp only [List.drop_succ_cons, List.drop_zero, List.take_succ_cons, List.take_zero]
                  simp only [go_sem, hb2, hb5, hb8, hb19, hb26, hb36, hb45, hb48]
                  repeat with_reducible refine zN ?_
                  refine hK49 _ ?_
                  as_aux_lemma =>
                   obtain ⟨c53, h⟩ := ck_some.1 h
                   refine adops_cut 4 (fun K' hK52 => ?_)
                   try dsimp only [List.drop_succ_cons, List.drop_zero, List.take_succ_cons, List.take_zero]
                   simp only [go_sem, hb2, hb5, hb8, hb19, hb26, hb36, hb45, hb48]
                   repeat with_reducible refine zN ?_
                   refine hK52 _ ?_
                   as_aux_lemma =>
                    obtain ⟨v0_5, hv54, h⟩ := Option.bind_eq_some_iff.1 h
                    refine adops.call (by first | trivial | rfl) rfl rfl rfl (fun _ h => h) [] [] (hc_linealref05_comes a (ishl .i64 1 (v0_4.getD st3.2.toNat 0)) (c.2.getD st4.2.toNat (0, 0, 0)).2.1 hv54) rfl (by (simp only [go_sem, hb2, hb5, hb8, hb19, hb26, hb36, hb45, hb48]) <;> (with_reducible and_intros) <;> first | assumption | rfl | omega | (unfold maxLen; omega)) (by (simp only [go_sem, hb2, hb5, hb8, hb19, hb26, hb36, hb45, hb48]) <;> (with_reducible and_intros) <;> first | assumption | rfl | omega | (unfold maxLen; omega)) rfl ?_
                    obtain ⟨c56, h⟩ := ck_some.1 h
                    obtain ⟨c57, h⟩ := ck_some.1 h
                    refine adops_cut 6 (fun K' hK55 => ?_)
                    try dsimp only [List.drop_succ_cons, List.drop_zero, List.take_succ_cons, List.take_zero]
                    simp only [go_sem, hb2, hb5, hb8, hb19, hb26, hb36, hb45, hb48]
                    repeat with_reducible refine zN ?_
                    refine hK55 _ ?_
                    as_aux_lemma =>
                     obtain ⟨v0_6, hv58, h⟩ := Option.bind_eq_some_iff.1 h
                     refine adops.call (by first | trivial | rfl) rfl rfl rfl (fun _ h => h) [] [] (hc_linealref05_list (iand .i64 v0_5 (v0_3.getD (c.2.getD st4.2.toNat (0, 0, 0)).2.2.toNat 0)) hv58) rfl (by (simp only [go_sem, hb2, hb5, hb8, hb19, hb26, hb36, hb45, hb48]) <;> (with_reducible and_intros) <;> first | assumption | rfl | omega | (unfold maxLen; omega)) (by (simp only [go_sem, hb2, hb5, hb8, hb19, hb26, hb36, hb45, hb48]) <;> (with_reducible and_intros) <;> first | assumption | rfl | omega | (unfold maxLen; omega)) rfl ?_
                     obtain ⟨c60, h⟩ := ck_some.1 h
                     obtain ⟨c61, h⟩ := ck_some.1 h
                     obtain ⟨c62, h⟩ := ck_some.1 h
                     obtain ⟨c63, h⟩ := ck_some.1 h
                     refine adops_cut 6 (fun K' hK59 => ?_)
                     try dsimp only [List.drop_succ_cons, List.drop_zero, List.take_succ_cons, List.take_zero]
                     simp only [go_sem, hb2, hb5, hb8, hb19, hb26, hb36, hb45, hb48]
                     repeat with_reducible refine zN ?_
                     refine hK59 _ ?_
                     refine adops_nil ?_
                     refine ablock_n ?_
                     refine athen_n ?_
                     refine zV [(2, .bp 2 0), (3, .bp 3 0), (6, .own 33000), (7, .own 31), (8, .int .i64 st2.2), (10, .int .i64 (v0_4.getD st3.2.toNat 0)), (38, .int .i64 (c.1 * a.1)), (39, .int .i64 st1.2), (42, .int .i64 (st1.1.length : Int)), (43, .int .i64 st2.2), (50, .own 60000), (51, .int .i64 (v0_4.length : Int)), (52, .int .i64 st3.2), (57, .sl (.pair (.int .i64) (.pair (.int .i64) (.int .i64))) c.2), (58, .int .i64 (c.2.length : Int)), (59, .int .i64 st4.2)] [(2, .box 24 [.int .i64 c.1, .sl (.pair (.int .i64) (.pair (.int .i64) (.int .i64))) c.2]), (3, .box 24 [.int .i64 a.1, .sl (.pair (.int .i64) (.pair (.int .i64) (.int .i64))) a.2]), (31, .arr 3 (.int .i64) (st4.1.set (c.2.getD st4.2.toNat (0, 0, 0)).2.2.toNat (ior .i64 (st4.1.getD (c.2.getD st4.2.toNat (0, 0, 0)).2.2.toNat 0) (ishl .i64 1 (v0_6.getD 0 0))))), (33000, .arr 3 (.int .i64) v0_3), (60000, .arr 3 (.int .i64) v0_4)] gt ?_
                     as_aux_lemma =>
                      refine AW.ops ?_
                      obtain ⟨c64, h⟩ := ck_some.1 h
                      refine zA [(2, .bp 2 0), (3, .bp 3 0), (6, .own 33000), (7, .own 31), (8, .int .i64 st2.2), (10, .int .i64 (v0_4.getD st3.2.toNat 0)), (38, .int .i64 (c.1 * a.1)), (39, .int .i64 st1.2), (42, .int .i64 (st1.1.length : Int)), (43, .int .i64 st2.2), (50, .own 60000), (51, .int .i64 (v0_4.length : Int)), (52, .int .i64 st3.2), (57, .sl (.pair (.int .i64) (.pair (.int .i64) (.int .i64))) c.2), (58, .int .i64 (c.2.length : Int)), (59, .int .i64 (st4.2 + 1))] [(2, .box 24 [.int .i64 c.1, .sl (.pair (.int .i64) (.pair (.int .i64) (.int .i64))) c.2]), (3, .box 24 [.int .i64 a.1, .sl (.pair (.int .i64) (.pair (.int .i64) (.int .i64))) a.2]), (31, .arr 3 (.int .i64) (st4.1.set (c.2.getD st4.2.toNat (0, 0, 0)).2.2.toNat (ior .i64 (st4.1.getD (c.2.getD st4.2.toNat (0, 0, 0)).2.2.toNat 0) (ishl .i64 1 (v0_6.getD 0 0))))), (33000, .arr 3 (.int .i64) v0_3), (60000, .arr 3 (.int .i64) v0_4)] ?_
                      obtain rfl := Option.some.inj h
                      exact ⟨_, rfl, zL [] [] []⟩
                ·refine zm ?_
                 refine athen_n ?_
                 refine AW.ops ?_
                 obtain ⟨c65, h⟩ := ck_some.1 h
                 refine zA [(2, .bp 2 0), (3, .bp 3 0), (6, .own 33000), (7, .own 31), (8, .int .i64 st2.2), (10, .int .i64 (v0_4.getD st3.2.toNat 0)), (38, .int .i64 (c.1 * a.1)), (39, .int .i64 st1.2), (42, .int .i64 (st1.1.length : Int)), (43, .int .i64 st2.2), (50, .own 60000), (51, .int .i64 (v0_4.length : Int)), (52, .int .i64 st3.2), (57, .sl (.pair (.int .i64) (.pair (.int .i64) (.int .i64))) c.2), (58, .int .i64 (c.2.length : Int)), (59, .int .i64 (st4.2 + 1))] [(2, .box 24 [.int .i64 c.1, .sl (.pair (.int .i64) (.pair (.int .i64) (.int .i64))) c.2]), (3, .box 24 [.int .i64 a.1, .sl (.pair (.int .i64) (.pair (.int .i64) (.int .i64))) a.2]), (31, .arr 3 (.int .i64) st4.1), (33000, .arr 3 (.int .i64) v0_3), (60000, .arr 3 (.int .i64) v0_4)] ?_
                 obtain rfl := Option.some.inj h
                 exact ⟨_, rfl, zL [] [] []⟩
               ·refine AW.exit ?_
                refine athen_e ?_
                obtain rfl := Option.some.inj h
                rw [← hd42 _ rfl] at ho41
                have h := ho41
                refine athen_e ?_
                refine ablock_s ?_
                refine ablock_n ?_
                refine athen_n ?_
                exact AW.weaken (zL [] [] []) (hk_linealref05_Proof_k4 _ h)
            ·refine AW.exit ?_
             refine athen_e ?_
             obtain rfl := Option.some.inj h
             rw [← hd33 _ rfl] at ho32
             have h := ho32
             refine athen_e ?_
             refine ablock_s ?_
             refine ablock_n ?_
             refine athen_n ?_
             exact AW.weaken (zL [] [] []) (hk_linealref05_Proof_k3 _ h)
         ·refine AW.exit ?_
          refine athen_e ?_
          obtain rfl := Option.some.inj h
          rw [← hd23 _ rfl] at ho22
          have h := ho22
          refine athen_e ?_
          refine ablock_s ?_
          refine ablock_n ?_
          refine athen_n ?_
          exact AW.weaken (zL [] [] []) (hk_linealref05_Proof_k2 _ h)
      ·refine AW.exit ?_
       refine athen_e ?_
       obtain rfl := Option.some.inj h
       rw [← hd16 _ rfl] at ho15
       have h := ho15
       refine athen_e ?_
       refine ablock_s ?_
       refine athen_n ?_
       exact AW.weaken (zL [] [] []) (hk_linealref05_Proof_k1 _ h)

end Go.Proofs.Ytifleoceebaooaa
