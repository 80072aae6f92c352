/-
  Made by wip/tool/dc.py out of the print of the program: contracts.
-/
import Derived.Test.YtifleoceebaooaaRfp
import Derived.Test.YtifleoceebaooaaShr
import Derived.Test.YtifleoceebaooaaAvd
import Derived.Test.YtifleoceebaooaaNuc1
import Derived.Test.YtifleoceebaooaaNuc10
import Derived.Test.YtifleoceebaooaaNuc3
import Derived.Test.YtifleoceebaooaaNuc4
import Derived.Test.YtifleoceebaooaaNuc5
import Derived.Test.YtifleoceebaooaaNuc6
import Derived.Test.YtifleoceebaooaaNuc7
import Derived.Test.YtifleoceebaooaaNuc8
import Derived.Test.YtifleoceebaooaaNuc9
namespace Go.Proofs.Ytifleoceebaooaa
open Go.RowKit

set_option linter.unusedSimpArgs false
set_option linter.unusedVariables false
set_option linter.constructorNameAsVariable false

set_option maxRecDepth 100000
set_option maxHeartbeats 2000000

theorem hc_linealtop_TopRefine (a : Int × (List (Int × Int × Int))) (b : Int × (List (Int × Int × Int))) (c : Int × (List (Int × Int × Int))) (label : Int) (step : Int) {r : Bool} (h : linealtop_TopRefine a b c label step = some r) : HC Try.prog 15 [] [.agg [.int .i64 a.1, .sl Y0 a.2], .agg [.int .i64 b.1, .sl Y0 b.2], .agg [.int .i64 c.1, .sl Y0 c.2], .int .u8 label, .int .u8 step] [] (.bool r) := by
 unfold linealtop_TopRefine at h
 refine zH Try.func15 [.tmp 10] 307 ?_
 refine zo ?_
 refine zB [(3, .int .u8 label), (4, .int .u8 step), (5, .bp 5 0), (6, .bp 6 0), (7, .bp 7 0)] [(5, .box 24 [.int .i64 a.1, .sl Y0 a.2]), (6, .box 24 [.int .i64 b.1, .sl Y0 b.2]), (7, .box 24 [.int .i64 c.1, .sl Y0 c.2])] ?_
 refine AW.have1 (fun _ : Unit => linealtop_TopRefine_k1 a b c label step = some r) (fun _ => ⟨fr [(3, .int .u8 label), (4, .int .u8 step), (5, .bp 5 0), (6, .bp 6 0), (7, .bp 7 0)], hpGet [(5, .box 24 [.int .i64 a.1, .sl Y0 a.2]), (6, .box 24 [.int .i64 b.1, .sl Y0 b.2]), (7, .box 24 [.int .i64 c.1, .sl Y0 c.2])], gt⟩) (fun _ h => ?_) (fun hk_linealtop_TopRefine_k1 => ?_)
 ·as_aux_lemma =>
   unfold linealtop_TopRefine_k1 at h
   refine zo ?_
   refine zS 2 [(3, .int .u8 label), (4, .int .u8 step), (5, .bp 5 0), (6, .bp 6 0), (7, .bp 7 0), (62, .agg [.int .i64 a.1, .sl Y0 a.2]), (63, .agg [.int .i64 b.1, .sl Y0 b.2])] [(5, .box 24 [.int .i64 a.1, .sl Y0 a.2]), (6, .box 24 [.int .i64 b.1, .sl Y0 b.2]), (7, .box 24 [.int .i64 c.1, .sl Y0 c.2])] ?_
   obtain ⟨v0_5, hv1, h⟩ := Option.bind_eq_some_iff.1 h
   refine zC [] [] (hc_refine_Refines a b hv1) [(3, .int .u8 label), (4, .int .u8 step), (5, .bp 5 0), (6, .bp 6 0), (7, .bp 7 0), (64, .tup [.bool v0_5.1, .int .i64 v0_5.2])] [(5, .box 24 [.int .i64 a.1, .sl Y0 a.2]), (6, .box 24 [.int .i64 b.1, .sl Y0 b.2]), (7, .box 24 [.int .i64 c.1, .sl Y0 c.2])] ?_
   refine zB [(3, .int .u8 label), (4, .int .u8 step), (5, .bp 5 0), (6, .bp 6 0), (7, .bp 7 0), (13, .bool v0_5.1), (14, .int .i64 v0_5.2)] [(5, .box 24 [.int .i64 a.1, .sl Y0 a.2]), (6, .box 24 [.int .i64 b.1, .sl Y0 b.2]), (7, .box 24 [.int .i64 c.1, .sl Y0 c.2])] ?_
   refine zo ?_
   refine zS 2 [(3, .int .u8 label), (4, .int .u8 step), (5, .bp 5 0), (6, .bp 6 0), (7, .bp 7 0), (13, .bool v0_5.1), (14, .int .i64 v0_5.2), (68, .agg [.int .i64 b.1, .sl Y0 b.2]), (69, .agg [.int .i64 c.1, .sl Y0 c.2])] [(5, .box 24 [.int .i64 a.1, .sl Y0 a.2]), (6, .box 24 [.int .i64 b.1, .sl Y0 b.2]), (7, .box 24 [.int .i64 c.1, .sl Y0 c.2])] ?_
   obtain ⟨v0_6, hv2, h⟩ := Option.bind_eq_some_iff.1 h
   refine zC [] [] (hc_refine_Refines b c hv2) [(3, .int .u8 label), (4, .int .u8 step), (5, .bp 5 0), (6, .bp 6 0), (7, .bp 7 0), (13, .bool v0_5.1), (14, .int .i64 v0_5.2), (70, .tup [.bool v0_6.1, .int .i64 v0_6.2])] [(5, .box 24 [.int .i64 a.1, .sl Y0 a.2]), (6, .box 24 [.int .i64 b.1, .sl Y0 b.2]), (7, .box 24 [.int .i64 c.1, .sl Y0 c.2])] ?_
   refine zB [(3, .int .u8 label), (4, .int .u8 step), (5, .bp 5 0), (6, .bp 6 0), (7, .bp 7 0), (13, .bool v0_5.1), (14, .int .i64 v0_5.2), (15, .bool v0_6.1), (16, .int .i64 v0_6.2)] [(5, .box 24 [.int .i64 a.1, .sl Y0 a.2]), (6, .box 24 [.int .i64 b.1, .sl Y0 b.2]), (7, .box 24 [.int .i64 c.1, .sl Y0 c.2])] ?_
   refine zo ?_
   refine zS 2 [(3, .int .u8 label), (4, .int .u8 step), (5, .bp 5 0), (6, .bp 6 0), (7, .bp 7 0), (13, .bool v0_5.1), (14, .int .i64 v0_5.2), (15, .bool v0_6.1), (16, .int .i64 v0_6.2), (74, .agg [.int .i64 a.1, .sl Y0 a.2]), (75, .agg [.int .i64 c.1, .sl Y0 c.2])] [(5, .box 24 [.int .i64 a.1, .sl Y0 a.2]), (6, .box 24 [.int .i64 b.1, .sl Y0 b.2]), (7, .box 24 [.int .i64 c.1, .sl Y0 c.2])] ?_
   obtain ⟨v0_7, hv3, h⟩ := Option.bind_eq_some_iff.1 h
   refine zC [] [] (hc_refine_Refines a c hv3) [(3, .int .u8 label), (4, .int .u8 step), (5, .bp 5 0), (6, .bp 6 0), (7, .bp 7 0), (13, .bool v0_5.1), (14, .int .i64 v0_5.2), (15, .bool v0_6.1), (16, .int .i64 v0_6.2), (76, .tup [.bool v0_7.1, .int .i64 v0_7.2])] [(5, .box 24 [.int .i64 a.1, .sl Y0 a.2]), (6, .box 24 [.int .i64 b.1, .sl Y0 b.2]), (7, .box 24 [.int .i64 c.1, .sl Y0 c.2])] ?_
   refine zB [(3, .int .u8 label), (4, .int .u8 step), (5, .bp 5 0), (6, .bp 6 0), (7, .bp 7 0), (13, .bool v0_5.1), (14, .int .i64 v0_5.2), (15, .bool v0_6.1), (16, .int .i64 v0_6.2), (17, .bool v0_7.1), (18, .int .i64 v0_7.2)] [(5, .box 24 [.int .i64 a.1, .sl Y0 a.2]), (6, .box 24 [.int .i64 b.1, .sl Y0 b.2]), (7, .box 24 [.int .i64 c.1, .sl Y0 c.2])] ?_
   refine zo ?_
   refine zS 2 [(3, .int .u8 label), (4, .int .u8 step), (5, .bp 5 0), (6, .bp 6 0), (7, .bp 7 0), (13, .bool v0_5.1), (14, .int .i64 v0_5.2), (15, .bool v0_6.1), (16, .int .i64 v0_6.2), (17, .bool v0_7.1), (18, .int .i64 v0_7.2), (80, .agg [.int .i64 a.1, .sl Y0 a.2]), (81, .agg [.int .i64 b.1, .sl Y0 b.2])] [(5, .box 24 [.int .i64 a.1, .sl Y0 a.2]), (6, .box 24 [.int .i64 b.1, .sl Y0 b.2]), (7, .box 24 [.int .i64 c.1, .sl Y0 c.2])] ?_
   obtain ⟨v0_8, hv4, h⟩ := Option.bind_eq_some_iff.1 h
   refine zC [] [] (hc_refine_Shows a b hv4) [(3, .int .u8 label), (4, .int .u8 step), (5, .bp 5 0), (6, .bp 6 0), (7, .bp 7 0), (13, .bool v0_5.1), (14, .int .i64 v0_5.2), (15, .bool v0_6.1), (16, .int .i64 v0_6.2), (17, .bool v0_7.1), (18, .int .i64 v0_7.2), (82, .tup [.own 92000, .int .i64 v0_8.2])] [(5, .box 24 [.int .i64 a.1, .sl Y0 a.2]), (6, .box 24 [.int .i64 b.1, .sl Y0 b.2]), (7, .box 24 [.int .i64 c.1, .sl Y0 c.2]), (92000, .arr 3 (.int .i64) v0_8.1)] ?_
   refine zB [(3, .int .u8 label), (4, .int .u8 step), (5, .bp 5 0), (6, .bp 6 0), (7, .bp 7 0), (13, .bool v0_5.1), (14, .int .i64 v0_5.2), (15, .bool v0_6.1), (16, .int .i64 v0_6.2), (17, .bool v0_7.1), (18, .int .i64 v0_7.2), (20, .int .i64 v0_8.2)] [(5, .box 24 [.int .i64 a.1, .sl Y0 a.2]), (6, .box 24 [.int .i64 b.1, .sl Y0 b.2]), (7, .box 24 [.int .i64 c.1, .sl Y0 c.2])] ?_
   refine zo ?_
   refine zS 2 [(3, .int .u8 label), (4, .int .u8 step), (5, .bp 5 0), (6, .bp 6 0), (7, .bp 7 0), (13, .bool v0_5.1), (14, .int .i64 v0_5.2), (15, .bool v0_6.1), (16, .int .i64 v0_6.2), (17, .bool v0_7.1), (18, .int .i64 v0_7.2), (20, .int .i64 v0_8.2), (86, .agg [.int .i64 a.1, .sl Y0 a.2]), (87, .agg [.int .i64 c.1, .sl Y0 c.2])] [(5, .box 24 [.int .i64 a.1, .sl Y0 a.2]), (6, .box 24 [.int .i64 b.1, .sl Y0 b.2]), (7, .box 24 [.int .i64 c.1, .sl Y0 c.2])] ?_
   obtain ⟨v0_9, hv5, h⟩ := Option.bind_eq_some_iff.1 h
   refine zC [] [] (hc_refine_Shows a c hv5) [(3, .int .u8 label), (4, .int .u8 step), (5, .bp 5 0), (6, .bp 6 0), (7, .bp 7 0), (13, .bool v0_5.1), (14, .int .i64 v0_5.2), (15, .bool v0_6.1), (16, .int .i64 v0_6.2), (17, .bool v0_7.1), (18, .int .i64 v0_7.2), (20, .int .i64 v0_8.2), (88, .tup [.own 98000, .int .i64 v0_9.2])] [(5, .box 24 [.int .i64 a.1, .sl Y0 a.2]), (6, .box 24 [.int .i64 b.1, .sl Y0 b.2]), (7, .box 24 [.int .i64 c.1, .sl Y0 c.2]), (98000, .arr 3 (.int .i64) v0_9.1)] ?_
   refine zB [(3, .int .u8 label), (4, .int .u8 step), (5, .bp 5 0), (6, .bp 6 0), (7, .bp 7 0), (13, .bool v0_5.1), (14, .int .i64 v0_5.2), (15, .bool v0_6.1), (16, .int .i64 v0_6.2), (17, .bool v0_7.1), (18, .int .i64 v0_7.2), (20, .int .i64 v0_8.2), (22, .int .i64 v0_9.2)] [(5, .box 24 [.int .i64 a.1, .sl Y0 a.2]), (6, .box 24 [.int .i64 b.1, .sl Y0 b.2]), (7, .box 24 [.int .i64 c.1, .sl Y0 c.2])] ?_
   refine AW.have1 (fun b3 : Bool × Bool => linealtop_TopRefine_k3 a b c label step b3 = some r) (fun b3 => ⟨fr [(3, .int .u8 label), (4, .int .u8 step), (5, .bp 5 0), (6, .bp 6 0), (7, .bp 7 0), (13, .bool b3.1), (15, .bool b3.2)], hpGet [(5, .box 24 [.int .i64 a.1, .sl Y0 a.2]), (6, .box 24 [.int .i64 b.1, .sl Y0 b.2]), (7, .box 24 [.int .i64 c.1, .sl Y0 c.2])], gt⟩) (fun b3 h => ?_) (fun hk_linealtop_TopRefine_k3 => ?_)
   ·as_aux_lemma =>
     unfold linealtop_TopRefine_k3 at h
     refine AW.have2 (fun b4 : Bool => linealtop_TopRefine_k4 a b label step b4 = some r) (fun b4 => ⟨fr [(4, .int .u8 step), (5, .bp 5 0), (6, .bp 6 0), (13, .bool b4), (33, .int .i64 (1 + (label % 3)))], hpGet [(5, .box 24 [.int .i64 a.1, .sl Y0 a.2]), (6, .box 24 [.int .i64 b.1, .sl Y0 b.2])], gt⟩) (fun b4 h => ?_) (fun hk_linealtop_TopRefine_k4 => ?_)
     ·as_aux_lemma =>
       unfold linealtop_TopRefine_k4 at h
       refine zo ?_
       refine zS 2 [(4, .int .u8 step), (5, .bp 5 0), (6, .bp 6 0), (13, .bool b4), (33, .int .i64 (1 + (label % 3))), (199, .agg [.int .i64 a.1, .sl Y0 a.2]), (200, .int .i64 (1 + (label % 3)))] [(5, .box 24 [.int .i64 a.1, .sl Y0 a.2]), (6, .box 24 [.int .i64 b.1, .sl Y0 b.2])] ?_
       obtain ⟨v0_15, hv6, h⟩ := Option.bind_eq_some_iff.1 h
       refine zC [] [] (hc_refine_Hidden a (1 + (label % 3)) hv6) [(4, .int .u8 step), (5, .bp 5 0), (6, .bp 6 0), (13, .bool b4), (33, .int .i64 (1 + (label % 3))), (201, .tup [.agg [.int .i64 v0_15.1, .own 211000], .int .i64 v0_15.2.2])] [(5, .box 24 [.int .i64 a.1, .sl Y0 a.2]), (6, .box 24 [.int .i64 b.1, .sl Y0 b.2]), (211000, .arr 66 Y0 v0_15.2.1)] ?_
       refine zS 5 [(4, .int .u8 step), (5, .bp 5 0), (6, .bp 6 0), (13, .bool b4), (33, .int .i64 (1 + (label % 3))), (34, .bp 34 0), (203, .int .i64 v0_15.2.2)] [(5, .box 24 [.int .i64 a.1, .sl Y0 a.2]), (6, .box 24 [.int .i64 b.1, .sl Y0 b.2]), (34, .box 24 [.int .i64 v0_15.1, .own 211000]), (211000, .arr 66 Y0 v0_15.2.1)] ?_
       refine zB [(4, .int .u8 step), (5, .bp 5 0), (6, .bp 6 0), (13, .bool b4), (14, .int .i64 v0_15.2.2), (33, .int .i64 (1 + (label % 3))), (34, .bp 34 0)] [(5, .box 24 [.int .i64 a.1, .sl Y0 a.2]), (6, .box 24 [.int .i64 b.1, .sl Y0 b.2]), (34, .box 24 [.int .i64 v0_15.1, .own 211000]), (211000, .arr 66 Y0 v0_15.2.1)] ?_
       refine zo ?_
       refine zS 2 [(4, .int .u8 step), (5, .bp 5 0), (6, .bp 6 0), (13, .bool b4), (14, .int .i64 v0_15.2.2), (34, .bp 34 0), (205, .agg [.int .i64 b.1, .sl Y0 b.2]), (206, .int .i64 (1 + (label % 3)))] [(5, .box 24 [.int .i64 a.1, .sl Y0 a.2]), (6, .box 24 [.int .i64 b.1, .sl Y0 b.2]), (34, .box 24 [.int .i64 v0_15.1, .own 211000]), (211000, .arr 66 Y0 v0_15.2.1)] ?_
       obtain ⟨v0_16, hv7, h⟩ := Option.bind_eq_some_iff.1 h
       refine zC [] [] (hc_refine_Hidden b (1 + (label % 3)) hv7) [(4, .int .u8 step), (5, .bp 5 0), (6, .bp 6 0), (13, .bool b4), (14, .int .i64 v0_15.2.2), (34, .bp 34 0), (207, .tup [.agg [.int .i64 v0_16.1, .own 217000], .int .i64 v0_16.2.2])] [(5, .box 24 [.int .i64 a.1, .sl Y0 a.2]), (6, .box 24 [.int .i64 b.1, .sl Y0 b.2]), (34, .box 24 [.int .i64 v0_15.1, .own 211000]), (211000, .arr 66 Y0 v0_15.2.1), (217000, .arr 66 Y0 v0_16.2.1)] ?_
       refine zS 5 [(4, .int .u8 step), (5, .bp 5 0), (6, .bp 6 0), (13, .bool b4), (14, .int .i64 v0_15.2.2), (34, .bp 34 0), (35, .bp 35 0), (209, .int .i64 v0_16.2.2)] [(5, .box 24 [.int .i64 a.1, .sl Y0 a.2]), (6, .box 24 [.int .i64 b.1, .sl Y0 b.2]), (34, .box 24 [.int .i64 v0_15.1, .own 211000]), (35, .box 24 [.int .i64 v0_16.1, .own 217000]), (211000, .arr 66 Y0 v0_15.2.1), (217000, .arr 66 Y0 v0_16.2.1)] ?_
       refine zB [(4, .int .u8 step), (5, .bp 5 0), (6, .bp 6 0), (13, .bool b4), (14, .int .i64 v0_15.2.2), (16, .int .i64 v0_16.2.2), (34, .bp 34 0), (35, .bp 35 0)] [(5, .box 24 [.int .i64 a.1, .sl Y0 a.2]), (6, .box 24 [.int .i64 b.1, .sl Y0 b.2]), (34, .box 24 [.int .i64 v0_15.1, .own 211000]), (35, .box 24 [.int .i64 v0_16.1, .own 217000]), (211000, .arr 66 Y0 v0_15.2.1), (217000, .arr 66 Y0 v0_16.2.1)] ?_
       refine zo ?_
       refine zS 2 [(4, .int .u8 step), (5, .bp 5 0), (6, .bp 6 0), (13, .bool b4), (14, .int .i64 v0_15.2.2), (16, .int .i64 v0_16.2.2), (211, .agg [.int .i64 v0_15.1, .own 211000]), (212, .agg [.int .i64 v0_16.1, .own 217000])] [(5, .box 24 [.int .i64 a.1, .sl Y0 a.2]), (6, .box 24 [.int .i64 b.1, .sl Y0 b.2]), (211000, .arr 66 Y0 v0_15.2.1), (217000, .arr 66 Y0 v0_16.2.1)] ?_
       obtain ⟨v0_17, hv8, h⟩ := Option.bind_eq_some_iff.1 h
       refine zC [211000, 217000] [] (hc_refine_Refines (v0_15.1, v0_15.2.1) (v0_16.1, v0_16.2.1) hv8) [(4, .int .u8 step), (5, .bp 5 0), (6, .bp 6 0), (13, .bool b4), (14, .int .i64 v0_15.2.2), (16, .int .i64 v0_16.2.2), (213, .tup [.bool v0_17.1, .int .i64 v0_17.2])] [(5, .box 24 [.int .i64 a.1, .sl Y0 a.2]), (6, .box 24 [.int .i64 b.1, .sl Y0 b.2])] ?_
       refine zB [(4, .int .u8 step), (5, .bp 5 0), (6, .bp 6 0), (13, .bool b4), (14, .int .i64 v0_15.2.2), (16, .int .i64 v0_16.2.2), (18, .int .i64 v0_17.2), (36, .bool v0_17.1)] [(5, .box 24 [.int .i64 a.1, .sl Y0 a.2]), (6, .box 24 [.int .i64 b.1, .sl Y0 b.2])] ?_
       refine AW.have1 (fun b5 : Bool => linealtop_TopRefine_k5 a b step b5 = some r) (fun b5 => ⟨fr [(4, .int .u8 step), (5, .bp 5 0), (6, .bp 6 0), (13, .bool b5)], hpGet [(5, .box 24 [.int .i64 a.1, .sl Y0 a.2]), (6, .box 24 [.int .i64 b.1, .sl Y0 b.2])], gt⟩) (fun b5 h => ?_) (fun hk_linealtop_TopRefine_k5 => ?_)
       ·as_aux_lemma =>
         unfold linealtop_TopRefine_k5 at h
         refine AW.have1 (fun b6 : Bool => linealtop_TopRefine_k6 a b step b6 = some r) (fun b6 => ⟨fr [(4, .int .u8 step), (5, .bp 5 0), (6, .bp 6 0), (13, .bool b6)], hpGet [(5, .box 24 [.int .i64 a.1, .sl Y0 a.2]), (6, .box 24 [.int .i64 b.1, .sl Y0 b.2])], gt⟩) (fun b6 h => ?_) (fun hk_linealtop_TopRefine_k6 => ?_)
         ·as_aux_lemma =>
           unfold linealtop_TopRefine_k6 at h
           refine AW.seq ?_
           refine zo ?_
           refine zB [(4, .int .u8 step), (5, .bp 5 0), (6, .bp 6 0), (13, .bool b6), (272, .bool (decide ((a.2.length : Int) = 0)))] [(5, .box 24 [.int .i64 a.1, .sl Y0 a.2]), (6, .box 24 [.int .i64 b.1, .sl Y0 b.2])] ?_
           refine zQ h (fun hb9 h => ?_) (fun hb9 h => ?_)
           ·refine zo ?_
            obtain ⟨v0_21, hv10, h⟩ := Option.bind_eq_some_iff.1 h
            refine zC [] [] (hc_lineallaw05_Awake hv10) [(273, .bool v0_21)] [] ?_
            refine zB [(10, .bool v0_21)] [] ?_
            refine zr ?_
            obtain rfl := Option.some.inj h
            exact zR [] [] []
           ·refine zk ?_
            refine AW.seq ?_
            refine AW.draw tab_ok mixed_ok [(7, [292000]), (11, [43]), (12, [43])] [(0, [5]), (1, []), (2, []), (3, [5]), (4, [5]), (5, []), (6, []), (7, [292000]), (8, [292000]), (9, [292000]), (10, [292000]), (11, [43]), (100012, [])] (by decide) (lex_fast (by kernel_rfl)) ?_
            as_aux_lemma =>
             obtain ⟨c12, h⟩ := ck_some.1 h
             refine adops_cut 6 (fun K' hK11 => ?_)
             try dsimp only [List.drop_succ_cons, List.drop_zero, List.take_succ_cons, List.take_zero]
             simp only [go_sem, hb9]
             repeat with_reducible refine zN ?_
             refine hK11 _ ?_
             as_aux_lemma =>
              obtain ⟨c14, h⟩ := ck_some.1 h
              obtain ⟨c15, h⟩ := ck_some.1 h
              refine adops_cut 1 (fun K' hK13 => ?_)
              try dsimp only [List.drop_succ_cons, List.drop_zero, List.take_succ_cons, List.take_zero]
              simp only [go_sem, hb9]
              repeat with_reducible refine zN ?_
              refine hK13 _ ?_
              as_aux_lemma =>
               obtain ⟨v0_22, hv16, h⟩ := Option.bind_eq_some_iff.1 h
               refine adops.call (by first | trivial | rfl) rfl rfl rfl (fun _ h => h) [] [] (hc_refine_Without a (step % (a.2.length : Int)) hv16) rfl (by (simp only [go_sem, hb9]) <;> (with_reducible and_intros) <;> first | assumption | rfl | omega | (unfold maxLen; omega)) (by (simp only [go_sem, hb9]) <;> (with_reducible and_intros) <;> first | assumption | rfl | omega | (unfold maxLen; omega)) rfl ?_
               refine adops_cut 6 (fun K' hK17 => ?_)
               try dsimp only [List.drop_succ_cons, List.drop_zero, List.take_succ_cons, List.take_zero]
               simp only [go_sem, hb9]
               repeat with_reducible refine zN ?_
               refine hK17 _ ?_
               refine adops_nil ?_
               refine athen_n ?_
               refine zV [(6, .bp 6 0), (13, .bool b6), (14, .int .i64 v0_22.2.2), (43, .bp 43 0)] [(6, .box 24 [.int .i64 b.1, .sl Y0 b.2]), (43, .box 24 [.int .i64 v0_22.1, .own 292000]), (292000, .arr 66 Y0 v0_22.2.1)] gt ?_
               as_aux_lemma =>
                refine zo ?_
                refine zS 2 [(13, .bool b6), (14, .int .i64 v0_22.2.2), (286, .agg [.int .i64 v0_22.1, .own 292000]), (287, .agg [.int .i64 b.1, .sl Y0 b.2])] [(292000, .arr 66 Y0 v0_22.2.1)] ?_
                obtain ⟨v0_23, hv18, h⟩ := Option.bind_eq_some_iff.1 h
                refine zC [292000] [] (hc_refine_Refines (v0_22.1, v0_22.2.1) b hv18) [(13, .bool b6), (14, .int .i64 v0_22.2.2), (288, .tup [.bool v0_23.1, .int .i64 v0_23.2])] [] ?_
                refine zB [(13, .bool b6), (14, .int .i64 v0_22.2.2), (16, .int .i64 v0_23.2), (44, .bool v0_23.1)] [] ?_
                refine zo ?_
                refine zS 3 [(13, .bool b6), (16, .int .i64 v0_23.2), (44, .bool v0_23.1), (293, .bool (decide (v0_22.2.2 = 0)))] [] ?_
                rcases zI h with ⟨hb19, h⟩ | ⟨hb19, h⟩
                ·refine zS 4 [(13, .bool b6), (44, .bool v0_23.1), (297, .bool (decide (v0_23.2 = 0)))] [] ?_
                 rcases zI h with ⟨hb20, h⟩ | ⟨hb20, h⟩
                 ·refine zS 3 [(44, .bool v0_23.1), (297, .bool true), (300, .bool (!b6))] [] ?_
                  rcases zI h with ⟨hb21, h⟩ | ⟨hb21, h⟩
                  ·refine zS 4 [(304, .bool true)] [] ?_
                   obtain ⟨v0_24, hv22, h⟩ := Option.bind_eq_some_iff.1 h
                   refine zG [] [] (hc_lineallaw05_Awake hv22) [(304, .bool true), (305, .bool v0_24)] [] ?_
                   refine zB [(10, .bool v0_24)] [] ?_
                   refine AW.ret ?_
                   obtain rfl := Option.some.inj h
                   exact zR [] [] []
                  ·refine zS 4 [(304, .bool v0_23.1)] [] ?_
                   rcases zI h with ⟨hb23, h⟩ | ⟨hb23, h⟩
                   ·refine zT [(304, .bool true)] [] gt ?_
                    obtain ⟨v0_25, hv24, h⟩ := Option.bind_eq_some_iff.1 h
                    refine zG [] [] (hc_lineallaw05_Awake hv24) [(304, .bool true), (305, .bool v0_25)] [] ?_
                    refine zB [(10, .bool v0_25)] [] ?_
                    refine AW.ret ?_
                    obtain rfl := Option.some.inj h
                    exact zR [] [] []
                   ·refine zB [(10, .bool false)] [] ?_
                    refine AW.ret ?_
                    obtain rfl := Option.some.inj h
                    exact zR [] [] []
                 ·refine zS 4 [(297, .bool false), (300, .cv (undef)), (301, .cv (undef))] [] ?_
                  refine zS 5 [(306, .bool false)] [] ?_
                  refine zB [(10, .bool false)] [] ?_
                  refine AW.ret ?_
                  obtain rfl := Option.some.inj h
                  exact zR [] [] []
                ·refine zS 5 [(44, .bool v0_23.1), (297, .bool false), (298, .cv (undef))] [] ?_
                 refine zS 4 [(297, .bool false), (302, .cv (undef))] [] ?_
                 refine zB [(10, .bool false)] [] ?_
                 refine AW.ret ?_
                 obtain rfl := Option.some.inj h
                 exact zR [] [] []
         ·refine AW.seq ?_
          refine zo ?_
          refine zS 1 [(4, .int .u8 step), (5, .bp 5 0), (6, .bp 6 0), (13, .bool b5), (234, .agg [.int .i64 b.1, .sl Y0 b.2])] [(5, .box 24 [.int .i64 a.1, .sl Y0 a.2]), (6, .box 24 [.int .i64 b.1, .sl Y0 b.2])] ?_
          obtain ⟨v0_18, hv25, h⟩ := Option.bind_eq_some_iff.1 h
          refine zC [] [] (hc_refine_Seen b hv25) [(4, .int .u8 step), (5, .bp 5 0), (6, .bp 6 0), (13, .bool b5), (235, .tup [.agg [.int .i64 v0_18.1, .own 245000], .int .i64 v0_18.2.2])] [(5, .box 24 [.int .i64 a.1, .sl Y0 a.2]), (6, .box 24 [.int .i64 b.1, .sl Y0 b.2]), (245000, .arr 66 Y0 v0_18.2.1)] ?_
          refine zS 5 [(4, .int .u8 step), (5, .bp 5 0), (6, .bp 6 0), (13, .bool b5), (37, .bp 37 0), (237, .int .i64 v0_18.2.2)] [(5, .box 24 [.int .i64 a.1, .sl Y0 a.2]), (6, .box 24 [.int .i64 b.1, .sl Y0 b.2]), (37, .box 24 [.int .i64 v0_18.1, .own 245000]), (245000, .arr 66 Y0 v0_18.2.1)] ?_
          refine zB [(4, .int .u8 step), (5, .bp 5 0), (6, .bp 6 0), (13, .bool b5), (37, .bp 37 0), (38, .int .i64 v0_18.2.2)] [(5, .box 24 [.int .i64 a.1, .sl Y0 a.2]), (6, .box 24 [.int .i64 b.1, .sl Y0 b.2]), (37, .box 24 [.int .i64 v0_18.1, .own 245000]), (245000, .arr 66 Y0 v0_18.2.1)] ?_
          refine zo ?_
          refine zB [(4, .int .u8 step), (5, .bp 5 0), (6, .bp 6 0), (13, .bool b5), (37, .bp 37 0), (38, .int .i64 v0_18.2.2), (239, .bool (decide (v0_18.2.2 = 0)))] [(5, .box 24 [.int .i64 a.1, .sl Y0 a.2]), (6, .box 24 [.int .i64 b.1, .sl Y0 b.2]), (37, .box 24 [.int .i64 v0_18.1, .own 245000]), (245000, .arr 66 Y0 v0_18.2.1)] ?_
          refine zQ h (fun hb26 h => ?_) (fun hb26 h => ?_)
          ·refine zo ?_
           refine zS 2 [(4, .int .u8 step), (5, .bp 5 0), (6, .bp 6 0), (13, .bool b5), (241, .agg [.int .i64 a.1, .sl Y0 a.2]), (242, .agg [.int .i64 v0_18.1, .own 245000])] [(5, .box 24 [.int .i64 a.1, .sl Y0 a.2]), (6, .box 24 [.int .i64 b.1, .sl Y0 b.2]), (245000, .arr 66 Y0 v0_18.2.1)] ?_
           obtain ⟨v0_19, hv27, h⟩ := Option.bind_eq_some_iff.1 h
           refine zC [245000] [] (hc_refine_Refines a (v0_18.1, v0_18.2.1) hv27) [(4, .int .u8 step), (5, .bp 5 0), (6, .bp 6 0), (13, .bool b5), (243, .tup [.bool v0_19.1, .int .i64 v0_19.2])] [(5, .box 24 [.int .i64 a.1, .sl Y0 a.2]), (6, .box 24 [.int .i64 b.1, .sl Y0 b.2])] ?_
           refine zB [(4, .int .u8 step), (5, .bp 5 0), (6, .bp 6 0), (13, .bool b5), (39, .bool v0_19.1), (40, .int .i64 v0_19.2)] [(5, .box 24 [.int .i64 a.1, .sl Y0 a.2]), (6, .box 24 [.int .i64 b.1, .sl Y0 b.2])] ?_
           refine zo ?_
           refine zS 2 [(4, .int .u8 step), (5, .bp 5 0), (6, .bp 6 0), (13, .bool b5), (39, .bool v0_19.1), (40, .int .i64 v0_19.2), (247, .agg [.int .i64 a.1, .sl Y0 a.2]), (248, .agg [.int .i64 b.1, .sl Y0 b.2])] [(5, .box 24 [.int .i64 a.1, .sl Y0 a.2]), (6, .box 24 [.int .i64 b.1, .sl Y0 b.2])] ?_
           obtain ⟨v0_20, hv28, h⟩ := Option.bind_eq_some_iff.1 h
           refine zC [] [] (hc_refine_Shows a b hv28) [(4, .int .u8 step), (5, .bp 5 0), (6, .bp 6 0), (13, .bool b5), (39, .bool v0_19.1), (40, .int .i64 v0_19.2), (249, .tup [.own 259000, .int .i64 v0_20.2])] [(5, .box 24 [.int .i64 a.1, .sl Y0 a.2]), (6, .box 24 [.int .i64 b.1, .sl Y0 b.2]), (259000, .arr 3 (.int .i64) v0_20.1)] ?_
           refine zB [(4, .int .u8 step), (5, .bp 5 0), (6, .bp 6 0), (13, .bool b5), (39, .bool v0_19.1), (40, .int .i64 v0_19.2), (42, .int .i64 v0_20.2)] [(5, .box 24 [.int .i64 a.1, .sl Y0 a.2]), (6, .box 24 [.int .i64 b.1, .sl Y0 b.2])] ?_
           refine zo ?_
           refine zS 3 [(4, .int .u8 step), (5, .bp 5 0), (6, .bp 6 0), (13, .bool b5), (39, .bool v0_19.1), (42, .int .i64 v0_20.2), (254, .bool (!(decide (v0_19.2 = 0))))] [(5, .box 24 [.int .i64 a.1, .sl Y0 a.2]), (6, .box 24 [.int .i64 b.1, .sl Y0 b.2])] ?_
           rcases zI h with ⟨hb29, h⟩ | ⟨hb29, h⟩
           ·refine zS 4 [(4, .int .u8 step), (5, .bp 5 0), (6, .bp 6 0), (13, .bool b5), (39, .bool v0_19.1), (254, .bool true), (258, .cv (undef))] [(5, .box 24 [.int .i64 a.1, .sl Y0 a.2]), (6, .box 24 [.int .i64 b.1, .sl Y0 b.2])] ?_
            refine zS 5 [(4, .int .u8 step), (5, .bp 5 0), (6, .bp 6 0), (13, .bool b5), (260, .bool true), (262, .cv (undef)), (263, .cv (undef))] [(5, .box 24 [.int .i64 a.1, .sl Y0 a.2]), (6, .box 24 [.int .i64 b.1, .sl Y0 b.2])] ?_
            refine zB [(4, .int .u8 step), (5, .bp 5 0), (6, .bp 6 0), (13, .bool b5), (266, .bool true)] [(5, .box 24 [.int .i64 a.1, .sl Y0 a.2]), (6, .box 24 [.int .i64 b.1, .sl Y0 b.2])] ?_
            refine AW.cond (b := true) rfl (fun _ => ?_) (fun hb30 => by cases hb30)
            refine zo ?_
            refine zB [(10, .bool false)] [] ?_
            refine zr ?_
            obtain rfl := Option.some.inj h
            exact zR [] [] []
           ·refine zS 5 [(4, .int .u8 step), (5, .bp 5 0), (6, .bp 6 0), (13, .bool b5), (39, .bool v0_19.1), (259, .bool ((v0_19.1 == (decide (v0_20.2 = 5))) != true))] [(5, .box 24 [.int .i64 a.1, .sl Y0 a.2]), (6, .box 24 [.int .i64 b.1, .sl Y0 b.2])] ?_
            refine zS 1 [(4, .int .u8 step), (5, .bp 5 0), (6, .bp 6 0), (13, .bool b5), (39, .bool v0_19.1), (260, .bool ((v0_19.1 == (decide (v0_20.2 = 5))) != true))] [(5, .box 24 [.int .i64 a.1, .sl Y0 a.2]), (6, .box 24 [.int .i64 b.1, .sl Y0 b.2])] ?_
            rcases zI h with ⟨hb31, h⟩ | ⟨hb31, h⟩
            ·refine zS 4 [(4, .int .u8 step), (5, .bp 5 0), (6, .bp 6 0), (13, .bool b5), (260, .bool true), (262, .cv (undef)), (264, .cv (undef))] [(5, .box 24 [.int .i64 a.1, .sl Y0 a.2]), (6, .box 24 [.int .i64 b.1, .sl Y0 b.2])] ?_
             refine zB [(4, .int .u8 step), (5, .bp 5 0), (6, .bp 6 0), (13, .bool b5), (266, .bool true)] [(5, .box 24 [.int .i64 a.1, .sl Y0 a.2]), (6, .box 24 [.int .i64 b.1, .sl Y0 b.2])] ?_
             refine AW.cond (b := true) rfl (fun _ => ?_) (fun hb32 => by cases hb32)
             refine zo ?_
             refine zB [(10, .bool false)] [] ?_
             refine zr ?_
             obtain rfl := Option.some.inj h
             exact zR [] [] []
            ·refine zS 2 [(4, .int .u8 step), (5, .bp 5 0), (6, .bp 6 0), (13, .bool b5), (39, .bool v0_19.1), (260, .bool false), (262, .bool b5)] [(5, .box 24 [.int .i64 a.1, .sl Y0 a.2]), (6, .box 24 [.int .i64 b.1, .sl Y0 b.2])] ?_
             rcases zI h with ⟨hb33, h⟩ | ⟨hb33, h⟩
             ·refine zB [(4, .int .u8 step), (5, .bp 5 0), (6, .bp 6 0), (13, .bool true), (266, .bool (!v0_19.1))] [(5, .box 24 [.int .i64 a.1, .sl Y0 a.2]), (6, .box 24 [.int .i64 b.1, .sl Y0 b.2])] ?_
              refine zQ h (fun hb34 h => ?_) (fun hb34 h => ?_)
              ·refine zo ?_
               refine zB [(10, .bool false)] [] ?_
               refine zr ?_
               obtain rfl := Option.some.inj h
               exact zR [] [] []
              ·refine zk ?_
               exact AW.weaken (zL [] [] []) (hk_linealtop_TopRefine_k6 _ h)
             ·refine zB [(4, .int .u8 step), (5, .bp 5 0), (6, .bp 6 0), (13, .bool false), (266, .bool false)] [(5, .box 24 [.int .i64 a.1, .sl Y0 a.2]), (6, .box 24 [.int .i64 b.1, .sl Y0 b.2])] ?_
              refine AW.cond (b := false) rfl (fun hb35 => by cases hb35) (fun _ => ?_)
              refine zk ?_
              exact AW.weaken (zL [] [] []) (hk_linealtop_TopRefine_k6 _ h)
          ·refine zo ?_
           refine zB [(4, .int .u8 step), (5, .bp 5 0), (6, .bp 6 0), (13, .bool b5), (268, .bool (!(decide (v0_18.2.2 = 4))))] [(5, .box 24 [.int .i64 a.1, .sl Y0 a.2]), (6, .box 24 [.int .i64 b.1, .sl Y0 b.2])] ?_
           refine zQ h (fun hb36 h => ?_) (fun hb36 h => ?_)
           ·refine zo ?_
            refine zB [(10, .bool false)] [] ?_
            refine zr ?_
            obtain rfl := Option.some.inj h
            exact zR [] [] []
           ·refine zk ?_
            exact AW.weaken (zL [] [] []) (hk_linealtop_TopRefine_k6 _ h)
       ·refine AW.seq ?_
        refine zo ?_
        refine zS 3 [(4, .int .u8 step), (5, .bp 5 0), (6, .bp 6 0), (13, .bool b4), (16, .int .i64 v0_16.2.2), (18, .int .i64 v0_17.2), (36, .bool v0_17.1), (218, .bool (!(decide (v0_15.2.2 = 0))))] [(5, .box 24 [.int .i64 a.1, .sl Y0 a.2]), (6, .box 24 [.int .i64 b.1, .sl Y0 b.2])] ?_
        rcases zI h with ⟨hb37, h⟩ | ⟨hb37, h⟩
        ·refine zS 5 [(4, .int .u8 step), (5, .bp 5 0), (6, .bp 6 0), (13, .bool b4), (36, .bool v0_17.1), (222, .bool true), (223, .cv (undef))] [(5, .box 24 [.int .i64 a.1, .sl Y0 a.2]), (6, .box 24 [.int .i64 b.1, .sl Y0 b.2])] ?_
         refine zS 5 [(4, .int .u8 step), (5, .bp 5 0), (6, .bp 6 0), (13, .bool b4), (36, .bool v0_17.1), (226, .bool true), (228, .cv (undef))] [(5, .box 24 [.int .i64 a.1, .sl Y0 a.2]), (6, .box 24 [.int .i64 b.1, .sl Y0 b.2])] ?_
         refine zB [(4, .int .u8 step), (5, .bp 5 0), (6, .bp 6 0), (13, .bool b4), (232, .bool true)] [(5, .box 24 [.int .i64 a.1, .sl Y0 a.2]), (6, .box 24 [.int .i64 b.1, .sl Y0 b.2])] ?_
         refine AW.cond (b := true) rfl (fun _ => ?_) (fun hb38 => by cases hb38)
         refine zo ?_
         refine zB [(10, .bool false)] [] ?_
         refine zr ?_
         obtain rfl := Option.some.inj h
         exact zR [] [] []
        ·refine zS 4 [(4, .int .u8 step), (5, .bp 5 0), (6, .bp 6 0), (13, .bool b4), (18, .int .i64 v0_17.2), (36, .bool v0_17.1), (222, .bool (!(decide (v0_16.2.2 = 0))))] [(5, .box 24 [.int .i64 a.1, .sl Y0 a.2]), (6, .box 24 [.int .i64 b.1, .sl Y0 b.2])] ?_
         rcases zI h with ⟨hb39, h⟩ | ⟨hb39, h⟩
         ·refine zS 5 [(4, .int .u8 step), (5, .bp 5 0), (6, .bp 6 0), (13, .bool b4), (36, .bool v0_17.1), (226, .bool true), (227, .cv (undef))] [(5, .box 24 [.int .i64 a.1, .sl Y0 a.2]), (6, .box 24 [.int .i64 b.1, .sl Y0 b.2])] ?_
          refine zS 4 [(4, .int .u8 step), (5, .bp 5 0), (6, .bp 6 0), (13, .bool b4), (226, .bool true), (231, .cv (undef))] [(5, .box 24 [.int .i64 a.1, .sl Y0 a.2]), (6, .box 24 [.int .i64 b.1, .sl Y0 b.2])] ?_
          refine zB [(4, .int .u8 step), (5, .bp 5 0), (6, .bp 6 0), (13, .bool b4), (232, .bool true)] [(5, .box 24 [.int .i64 a.1, .sl Y0 a.2]), (6, .box 24 [.int .i64 b.1, .sl Y0 b.2])] ?_
          refine AW.cond (b := true) rfl (fun _ => ?_) (fun hb40 => by cases hb40)
          refine zo ?_
          refine zB [(10, .bool false)] [] ?_
          refine zr ?_
          obtain rfl := Option.some.inj h
          exact zR [] [] []
         ·refine zS 4 [(4, .int .u8 step), (5, .bp 5 0), (6, .bp 6 0), (13, .bool b4), (36, .bool v0_17.1), (226, .bool (!(decide (v0_17.2 = 0))))] [(5, .box 24 [.int .i64 a.1, .sl Y0 a.2]), (6, .box 24 [.int .i64 b.1, .sl Y0 b.2])] ?_
          rcases zI h with ⟨hb41, h⟩ | ⟨hb41, h⟩
          ·refine zS 4 [(4, .int .u8 step), (5, .bp 5 0), (6, .bp 6 0), (13, .bool b4), (226, .bool true), (228, .cv (undef)), (230, .cv (undef))] [(5, .box 24 [.int .i64 a.1, .sl Y0 a.2]), (6, .box 24 [.int .i64 b.1, .sl Y0 b.2])] ?_
           refine zB [(4, .int .u8 step), (5, .bp 5 0), (6, .bp 6 0), (13, .bool b4), (232, .bool true)] [(5, .box 24 [.int .i64 a.1, .sl Y0 a.2]), (6, .box 24 [.int .i64 b.1, .sl Y0 b.2])] ?_
           refine AW.cond (b := true) rfl (fun _ => ?_) (fun hb42 => by cases hb42)
           refine zo ?_
           refine zB [(10, .bool false)] [] ?_
           refine zr ?_
           obtain rfl := Option.some.inj h
           exact zR [] [] []
          ·refine zS 2 [(4, .int .u8 step), (5, .bp 5 0), (6, .bp 6 0), (13, .bool b4), (36, .bool v0_17.1), (226, .bool false), (228, .bool b4)] [(5, .box 24 [.int .i64 a.1, .sl Y0 a.2]), (6, .box 24 [.int .i64 b.1, .sl Y0 b.2])] ?_
           rcases zI h with ⟨hb43, h⟩ | ⟨hb43, h⟩
           ·refine zB [(4, .int .u8 step), (5, .bp 5 0), (6, .bp 6 0), (13, .bool true), (232, .bool (!v0_17.1))] [(5, .box 24 [.int .i64 a.1, .sl Y0 a.2]), (6, .box 24 [.int .i64 b.1, .sl Y0 b.2])] ?_
            refine zQ h (fun hb44 h => ?_) (fun hb44 h => ?_)
            ·refine zo ?_
             refine zB [(10, .bool false)] [] ?_
             refine zr ?_
             obtain rfl := Option.some.inj h
             exact zR [] [] []
            ·refine zk ?_
             exact AW.weaken (zL [] [] []) (hk_linealtop_TopRefine_k5 _ h)
           ·refine zB [(4, .int .u8 step), (5, .bp 5 0), (6, .bp 6 0), (13, .bool false), (232, .bool false)] [(5, .box 24 [.int .i64 a.1, .sl Y0 a.2]), (6, .box 24 [.int .i64 b.1, .sl Y0 b.2])] ?_
            refine AW.cond (b := false) rfl (fun hb45 => by cases hb45) (fun _ => ?_)
            refine zk ?_
            exact AW.weaken (zL [] [] []) (hk_linealtop_TopRefine_k5 _ h)
     ·refine AW.seq ?_
      refine zo ?_
      refine zS 2 [(3, .int .u8 label), (4, .int .u8 step), (5, .bp 5 0), (6, .bp 6 0), (7, .bp 7 0), (13, .bool b3.1), (15, .bool b3.2), (126, .bool b3.1)] [(5, .box 24 [.int .i64 a.1, .sl Y0 a.2]), (6, .box 24 [.int .i64 b.1, .sl Y0 b.2]), (7, .box 24 [.int .i64 c.1, .sl Y0 c.2])] ?_
      rcases zI h with ⟨hb46, h⟩ | ⟨hb46, h⟩
      ·refine zB [(3, .int .u8 label), (4, .int .u8 step), (5, .bp 5 0), (6, .bp 6 0), (7, .bp 7 0), (13, .bool true), (128, .bool b3.2)] [(5, .box 24 [.int .i64 a.1, .sl Y0 a.2]), (6, .box 24 [.int .i64 b.1, .sl Y0 b.2]), (7, .box 24 [.int .i64 c.1, .sl Y0 c.2])] ?_
       refine zQ h (fun hb47 h => ?_) (fun hb47 h => ?_)
       ·refine zo ?_
        refine zS 2 [(3, .int .u8 label), (4, .int .u8 step), (5, .bp 5 0), (6, .bp 6 0), (7, .bp 7 0), (13, .bool true), (130, .agg [.int .i64 a.1, .sl Y0 a.2]), (131, .agg [.int .i64 b.1, .sl Y0 b.2])] [(5, .box 24 [.int .i64 a.1, .sl Y0 a.2]), (6, .box 24 [.int .i64 b.1, .sl Y0 b.2]), (7, .box 24 [.int .i64 c.1, .sl Y0 c.2])] ?_
        obtain ⟨v0_10, hv48, h⟩ := Option.bind_eq_some_iff.1 h
        refine zC [] [] (hc_refine_Proof a b hv48) [(3, .int .u8 label), (4, .int .u8 step), (5, .bp 5 0), (6, .bp 6 0), (7, .bp 7 0), (13, .bool true), (132, .tup [.own 142000, .int .i64 v0_10.2])] [(5, .box 24 [.int .i64 a.1, .sl Y0 a.2]), (6, .box 24 [.int .i64 b.1, .sl Y0 b.2]), (7, .box 24 [.int .i64 c.1, .sl Y0 c.2]), (142000, .arr 58 (.pair (.int .i64) (.int .i64)) v0_10.1)] ?_
        refine zB [(3, .int .u8 label), (4, .int .u8 step), (5, .bp 5 0), (6, .bp 6 0), (7, .bp 7 0), (13, .bool true), (23, .own 142000), (24, .int .i64 v0_10.2)] [(5, .box 24 [.int .i64 a.1, .sl Y0 a.2]), (6, .box 24 [.int .i64 b.1, .sl Y0 b.2]), (7, .box 24 [.int .i64 c.1, .sl Y0 c.2]), (142000, .arr 58 (.pair (.int .i64) (.int .i64)) v0_10.1)] ?_
        refine zo ?_
        refine zS 2 [(3, .int .u8 label), (4, .int .u8 step), (5, .bp 5 0), (6, .bp 6 0), (7, .bp 7 0), (13, .bool true), (23, .own 142000), (24, .int .i64 v0_10.2), (136, .agg [.int .i64 b.1, .sl Y0 b.2]), (137, .agg [.int .i64 c.1, .sl Y0 c.2])] [(5, .box 24 [.int .i64 a.1, .sl Y0 a.2]), (6, .box 24 [.int .i64 b.1, .sl Y0 b.2]), (7, .box 24 [.int .i64 c.1, .sl Y0 c.2]), (142000, .arr 58 (.pair (.int .i64) (.int .i64)) v0_10.1)] ?_
        obtain ⟨v0_11, hv49, h⟩ := Option.bind_eq_some_iff.1 h
        refine zC [] [] (hc_refine_Proof b c hv49) [(3, .int .u8 label), (4, .int .u8 step), (5, .bp 5 0), (6, .bp 6 0), (7, .bp 7 0), (13, .bool true), (23, .own 142000), (24, .int .i64 v0_10.2), (138, .tup [.own 148000, .int .i64 v0_11.2])] [(5, .box 24 [.int .i64 a.1, .sl Y0 a.2]), (6, .box 24 [.int .i64 b.1, .sl Y0 b.2]), (7, .box 24 [.int .i64 c.1, .sl Y0 c.2]), (142000, .arr 58 (.pair (.int .i64) (.int .i64)) v0_10.1), (148000, .arr 58 (.pair (.int .i64) (.int .i64)) v0_11.1)] ?_
        refine zB [(3, .int .u8 label), (4, .int .u8 step), (5, .bp 5 0), (6, .bp 6 0), (7, .bp 7 0), (13, .bool true), (23, .own 142000), (24, .int .i64 v0_10.2), (25, .own 148000), (26, .int .i64 v0_11.2)] [(5, .box 24 [.int .i64 a.1, .sl Y0 a.2]), (6, .box 24 [.int .i64 b.1, .sl Y0 b.2]), (7, .box 24 [.int .i64 c.1, .sl Y0 c.2]), (142000, .arr 58 (.pair (.int .i64) (.int .i64)) v0_10.1), (148000, .arr 58 (.pair (.int .i64) (.int .i64)) v0_11.1)] ?_
        refine zo ?_
        refine zS 2 [(3, .int .u8 label), (4, .int .u8 step), (5, .bp 5 0), (6, .bp 6 0), (7, .bp 7 0), (13, .bool true), (23, .own 142000), (24, .int .i64 v0_10.2), (25, .own 148000), (26, .int .i64 v0_11.2), (142, .agg [.int .i64 b.1, .sl Y0 b.2]), (143, .agg [.int .i64 c.1, .sl Y0 c.2])] [(5, .box 24 [.int .i64 a.1, .sl Y0 a.2]), (6, .box 24 [.int .i64 b.1, .sl Y0 b.2]), (7, .box 24 [.int .i64 c.1, .sl Y0 c.2]), (142000, .arr 58 (.pair (.int .i64) (.int .i64)) v0_10.1), (148000, .arr 58 (.pair (.int .i64) (.int .i64)) v0_11.1)] ?_
        obtain ⟨v0_12, hv50, h⟩ := Option.bind_eq_some_iff.1 h
        refine zC [] [] (hc_refine_Best b c hv50) [(3, .int .u8 label), (4, .int .u8 step), (5, .bp 5 0), (6, .bp 6 0), (7, .bp 7 0), (13, .bool true), (23, .own 142000), (24, .int .i64 v0_10.2), (25, .own 148000), (26, .int .i64 v0_11.2), (144, .tup [.own 154000, .int .i64 v0_12.2])] [(5, .box 24 [.int .i64 a.1, .sl Y0 a.2]), (6, .box 24 [.int .i64 b.1, .sl Y0 b.2]), (7, .box 24 [.int .i64 c.1, .sl Y0 c.2]), (142000, .arr 58 (.pair (.int .i64) (.int .i64)) v0_10.1), (148000, .arr 58 (.pair (.int .i64) (.int .i64)) v0_11.1), (154000, .arr 58 (.pair (.int .i64) (.int .i64)) v0_12.1)] ?_
        refine zB [(3, .int .u8 label), (4, .int .u8 step), (5, .bp 5 0), (6, .bp 6 0), (7, .bp 7 0), (13, .bool true), (23, .own 142000), (24, .int .i64 v0_10.2), (25, .own 148000), (26, .int .i64 v0_11.2), (27, .own 154000), (28, .int .i64 v0_12.2)] [(5, .box 24 [.int .i64 a.1, .sl Y0 a.2]), (6, .box 24 [.int .i64 b.1, .sl Y0 b.2]), (7, .box 24 [.int .i64 c.1, .sl Y0 c.2]), (142000, .arr 58 (.pair (.int .i64) (.int .i64)) v0_10.1), (148000, .arr 58 (.pair (.int .i64) (.int .i64)) v0_11.1), (154000, .arr 58 (.pair (.int .i64) (.int .i64)) v0_12.1)] ?_
        refine zo ?_
        refine zS 2 [(3, .int .u8 label), (4, .int .u8 step), (5, .bp 5 0), (6, .bp 6 0), (7, .bp 7 0), (13, .bool true), (24, .int .i64 v0_10.2), (25, .own 148000), (26, .int .i64 v0_11.2), (27, .own 154000), (28, .int .i64 v0_12.2), (148, .own 142000), (149, .own 154000)] [(5, .box 24 [.int .i64 a.1, .sl Y0 a.2]), (6, .box 24 [.int .i64 b.1, .sl Y0 b.2]), (7, .box 24 [.int .i64 c.1, .sl Y0 c.2]), (142000, .arr 58 (.pair (.int .i64) (.int .i64)) v0_10.1), (148000, .arr 58 (.pair (.int .i64) (.int .i64)) v0_11.1), (154000, .arr 58 (.pair (.int .i64) (.int .i64)) v0_12.1)] ?_
        obtain ⟨v0_13, hv51, h⟩ := Option.bind_eq_some_iff.1 h
        refine zC [142000, 154000] [] (hc_refine_Composed v0_10.1 v0_12.1 hv51) [(3, .int .u8 label), (4, .int .u8 step), (5, .bp 5 0), (6, .bp 6 0), (7, .bp 7 0), (13, .bool true), (24, .int .i64 v0_10.2), (25, .own 148000), (26, .int .i64 v0_11.2), (27, .own 154000), (28, .int .i64 v0_12.2), (150, .tup [.own 160000, .int .i64 v0_13.2])] [(5, .box 24 [.int .i64 a.1, .sl Y0 a.2]), (6, .box 24 [.int .i64 b.1, .sl Y0 b.2]), (7, .box 24 [.int .i64 c.1, .sl Y0 c.2]), (148000, .arr 58 (.pair (.int .i64) (.int .i64)) v0_11.1), (154000, .arr 58 (.pair (.int .i64) (.int .i64)) v0_12.1), (160000, .arr 58 (.pair (.int .i64) (.int .i64)) v0_13.1)] ?_
        refine zB [(3, .int .u8 label), (4, .int .u8 step), (5, .bp 5 0), (6, .bp 6 0), (7, .bp 7 0), (13, .bool true), (24, .int .i64 v0_10.2), (25, .own 148000), (26, .int .i64 v0_11.2), (27, .own 154000), (28, .int .i64 v0_12.2), (29, .own 160000), (30, .int .i64 v0_13.2)] [(5, .box 24 [.int .i64 a.1, .sl Y0 a.2]), (6, .box 24 [.int .i64 b.1, .sl Y0 b.2]), (7, .box 24 [.int .i64 c.1, .sl Y0 c.2]), (148000, .arr 58 (.pair (.int .i64) (.int .i64)) v0_11.1), (154000, .arr 58 (.pair (.int .i64) (.int .i64)) v0_12.1), (160000, .arr 58 (.pair (.int .i64) (.int .i64)) v0_13.1)] ?_
        refine zo ?_
        refine zS 3 [(3, .int .u8 label), (4, .int .u8 step), (5, .bp 5 0), (6, .bp 6 0), (13, .bool true), (24, .int .i64 v0_10.2), (25, .own 148000), (26, .int .i64 v0_11.2), (27, .own 154000), (28, .int .i64 v0_12.2), (30, .int .i64 v0_13.2), (154, .agg [.int .i64 a.1, .sl Y0 a.2]), (155, .agg [.int .i64 c.1, .sl Y0 c.2]), (156, .own 160000)] [(5, .box 24 [.int .i64 a.1, .sl Y0 a.2]), (6, .box 24 [.int .i64 b.1, .sl Y0 b.2]), (148000, .arr 58 (.pair (.int .i64) (.int .i64)) v0_11.1), (154000, .arr 58 (.pair (.int .i64) (.int .i64)) v0_12.1), (160000, .arr 58 (.pair (.int .i64) (.int .i64)) v0_13.1)] ?_
        obtain ⟨v0_14, hv52, h⟩ := Option.bind_eq_some_iff.1 h
        refine zC [160000] [] (hc_linealref05_IsProof a c v0_13.1 hv52) [(3, .int .u8 label), (4, .int .u8 step), (5, .bp 5 0), (6, .bp 6 0), (13, .bool true), (24, .int .i64 v0_10.2), (25, .own 148000), (26, .int .i64 v0_11.2), (27, .own 154000), (28, .int .i64 v0_12.2), (30, .int .i64 v0_13.2), (157, .tup [.bool v0_14.1, .int .i64 v0_14.2])] [(5, .box 24 [.int .i64 a.1, .sl Y0 a.2]), (6, .box 24 [.int .i64 b.1, .sl Y0 b.2]), (148000, .arr 58 (.pair (.int .i64) (.int .i64)) v0_11.1), (154000, .arr 58 (.pair (.int .i64) (.int .i64)) v0_12.1)] ?_
        refine zB [(3, .int .u8 label), (4, .int .u8 step), (5, .bp 5 0), (6, .bp 6 0), (13, .bool true), (24, .int .i64 v0_10.2), (25, .own 148000), (26, .int .i64 v0_11.2), (27, .own 154000), (28, .int .i64 v0_12.2), (30, .int .i64 v0_13.2), (31, .bool v0_14.1), (32, .int .i64 v0_14.2)] [(5, .box 24 [.int .i64 a.1, .sl Y0 a.2]), (6, .box 24 [.int .i64 b.1, .sl Y0 b.2]), (148000, .arr 58 (.pair (.int .i64) (.int .i64)) v0_11.1), (154000, .arr 58 (.pair (.int .i64) (.int .i64)) v0_12.1)] ?_
        refine zo ?_
        refine zS 3 [(3, .int .u8 label), (4, .int .u8 step), (5, .bp 5 0), (6, .bp 6 0), (13, .bool true), (25, .own 148000), (26, .int .i64 v0_11.2), (27, .own 154000), (28, .int .i64 v0_12.2), (30, .int .i64 v0_13.2), (31, .bool v0_14.1), (32, .int .i64 v0_14.2), (162, .bool (!(decide (v0_10.2 = 0))))] [(5, .box 24 [.int .i64 a.1, .sl Y0 a.2]), (6, .box 24 [.int .i64 b.1, .sl Y0 b.2]), (148000, .arr 58 (.pair (.int .i64) (.int .i64)) v0_11.1), (154000, .arr 58 (.pair (.int .i64) (.int .i64)) v0_12.1)] ?_
        rcases zI h with ⟨hb53, h⟩ | ⟨hb53, h⟩
        ·refine zS 5 [(3, .int .u8 label), (4, .int .u8 step), (5, .bp 5 0), (6, .bp 6 0), (13, .bool true), (25, .own 148000), (27, .own 154000), (30, .int .i64 v0_13.2), (31, .bool v0_14.1), (32, .int .i64 v0_14.2), (166, .bool true), (167, .cv (undef))] [(5, .box 24 [.int .i64 a.1, .sl Y0 a.2]), (6, .box 24 [.int .i64 b.1, .sl Y0 b.2]), (148000, .arr 58 (.pair (.int .i64) (.int .i64)) v0_11.1), (154000, .arr 58 (.pair (.int .i64) (.int .i64)) v0_12.1)] ?_
         refine zS 5 [(3, .int .u8 label), (4, .int .u8 step), (5, .bp 5 0), (6, .bp 6 0), (13, .bool true), (25, .own 148000), (27, .own 154000), (31, .bool v0_14.1), (32, .int .i64 v0_14.2), (170, .bool true), (172, .cv (undef))] [(5, .box 24 [.int .i64 a.1, .sl Y0 a.2]), (6, .box 24 [.int .i64 b.1, .sl Y0 b.2]), (148000, .arr 58 (.pair (.int .i64) (.int .i64)) v0_11.1), (154000, .arr 58 (.pair (.int .i64) (.int .i64)) v0_12.1)] ?_
         refine zS 5 [(3, .int .u8 label), (4, .int .u8 step), (5, .bp 5 0), (6, .bp 6 0), (13, .bool true), (25, .own 148000), (27, .own 154000), (31, .bool v0_14.1), (177, .bool true)] [(5, .box 24 [.int .i64 a.1, .sl Y0 a.2]), (6, .box 24 [.int .i64 b.1, .sl Y0 b.2]), (148000, .arr 58 (.pair (.int .i64) (.int .i64)) v0_11.1), (154000, .arr 58 (.pair (.int .i64) (.int .i64)) v0_12.1)] ?_
         refine zS 5 [(3, .int .u8 label), (4, .int .u8 step), (5, .bp 5 0), (6, .bp 6 0), (13, .bool true), (25, .own 148000), (27, .own 154000), (182, .bool true)] [(5, .box 24 [.int .i64 a.1, .sl Y0 a.2]), (6, .box 24 [.int .i64 b.1, .sl Y0 b.2]), (148000, .arr 58 (.pair (.int .i64) (.int .i64)) v0_11.1), (154000, .arr 58 (.pair (.int .i64) (.int .i64)) v0_12.1)] ?_
         refine zS 5 [(3, .int .u8 label), (4, .int .u8 step), (5, .bp 5 0), (6, .bp 6 0), (13, .bool true), (25, .own 148000), (27, .own 154000), (187, .bool true)] [(5, .box 24 [.int .i64 a.1, .sl Y0 a.2]), (6, .box 24 [.int .i64 b.1, .sl Y0 b.2]), (148000, .arr 58 (.pair (.int .i64) (.int .i64)) v0_11.1), (154000, .arr 58 (.pair (.int .i64) (.int .i64)) v0_12.1)] ?_
         refine zS 4 [(3, .int .u8 label), (4, .int .u8 step), (5, .bp 5 0), (6, .bp 6 0), (13, .bool true), (187, .bool true), (189, .cv (undef)), (191, .cv (undef))] [(5, .box 24 [.int .i64 a.1, .sl Y0 a.2]), (6, .box 24 [.int .i64 b.1, .sl Y0 b.2])] ?_
         refine zB [(3, .int .u8 label), (4, .int .u8 step), (5, .bp 5 0), (6, .bp 6 0), (13, .bool true), (193, .bool true)] [(5, .box 24 [.int .i64 a.1, .sl Y0 a.2]), (6, .box 24 [.int .i64 b.1, .sl Y0 b.2])] ?_
         refine AW.cond (b := true) rfl (fun _ => ?_) (fun hb54 => by cases hb54)
         refine zo ?_
         refine zB [(10, .bool false)] [] ?_
         refine zr ?_
         obtain rfl := Option.some.inj h
         exact zR [] [] []
        ·refine zS 4 [(3, .int .u8 label), (4, .int .u8 step), (5, .bp 5 0), (6, .bp 6 0), (13, .bool true), (25, .own 148000), (27, .own 154000), (28, .int .i64 v0_12.2), (30, .int .i64 v0_13.2), (31, .bool v0_14.1), (32, .int .i64 v0_14.2), (166, .bool (!(decide (v0_11.2 = 0))))] [(5, .box 24 [.int .i64 a.1, .sl Y0 a.2]), (6, .box 24 [.int .i64 b.1, .sl Y0 b.2]), (148000, .arr 58 (.pair (.int .i64) (.int .i64)) v0_11.1), (154000, .arr 58 (.pair (.int .i64) (.int .i64)) v0_12.1)] ?_
         rcases zI h with ⟨hb55, h⟩ | ⟨hb55, h⟩
         ·refine zS 5 [(3, .int .u8 label), (4, .int .u8 step), (5, .bp 5 0), (6, .bp 6 0), (13, .bool true), (25, .own 148000), (27, .own 154000), (31, .bool v0_14.1), (32, .int .i64 v0_14.2), (170, .bool true), (171, .cv (undef))] [(5, .box 24 [.int .i64 a.1, .sl Y0 a.2]), (6, .box 24 [.int .i64 b.1, .sl Y0 b.2]), (148000, .arr 58 (.pair (.int .i64) (.int .i64)) v0_11.1), (154000, .arr 58 (.pair (.int .i64) (.int .i64)) v0_12.1)] ?_
          refine zS 5 [(3, .int .u8 label), (4, .int .u8 step), (5, .bp 5 0), (6, .bp 6 0), (13, .bool true), (25, .own 148000), (27, .own 154000), (31, .bool v0_14.1), (174, .bool true), (176, .cv (undef))] [(5, .box 24 [.int .i64 a.1, .sl Y0 a.2]), (6, .box 24 [.int .i64 b.1, .sl Y0 b.2]), (148000, .arr 58 (.pair (.int .i64) (.int .i64)) v0_11.1), (154000, .arr 58 (.pair (.int .i64) (.int .i64)) v0_12.1)] ?_
          refine zS 5 [(3, .int .u8 label), (4, .int .u8 step), (5, .bp 5 0), (6, .bp 6 0), (13, .bool true), (25, .own 148000), (27, .own 154000), (181, .bool true)] [(5, .box 24 [.int .i64 a.1, .sl Y0 a.2]), (6, .box 24 [.int .i64 b.1, .sl Y0 b.2]), (148000, .arr 58 (.pair (.int .i64) (.int .i64)) v0_11.1), (154000, .arr 58 (.pair (.int .i64) (.int .i64)) v0_12.1)] ?_
          refine zS 5 [(3, .int .u8 label), (4, .int .u8 step), (5, .bp 5 0), (6, .bp 6 0), (13, .bool true), (25, .own 148000), (27, .own 154000), (186, .bool true)] [(5, .box 24 [.int .i64 a.1, .sl Y0 a.2]), (6, .box 24 [.int .i64 b.1, .sl Y0 b.2]), (148000, .arr 58 (.pair (.int .i64) (.int .i64)) v0_11.1), (154000, .arr 58 (.pair (.int .i64) (.int .i64)) v0_12.1)] ?_
          refine zS 5 [(3, .int .u8 label), (4, .int .u8 step), (5, .bp 5 0), (6, .bp 6 0), (13, .bool true), (187, .bool true), (189, .cv (undef)), (191, .cv (undef))] [(5, .box 24 [.int .i64 a.1, .sl Y0 a.2]), (6, .box 24 [.int .i64 b.1, .sl Y0 b.2])] ?_
          refine zB [(3, .int .u8 label), (4, .int .u8 step), (5, .bp 5 0), (6, .bp 6 0), (13, .bool true), (193, .bool true)] [(5, .box 24 [.int .i64 a.1, .sl Y0 a.2]), (6, .box 24 [.int .i64 b.1, .sl Y0 b.2])] ?_
          refine AW.cond (b := true) rfl (fun _ => ?_) (fun hb56 => by cases hb56)
          refine zo ?_
          refine zB [(10, .bool false)] [] ?_
          refine zr ?_
          obtain rfl := Option.some.inj h
          exact zR [] [] []
         ·refine zS 4 [(3, .int .u8 label), (4, .int .u8 step), (5, .bp 5 0), (6, .bp 6 0), (13, .bool true), (25, .own 148000), (27, .own 154000), (30, .int .i64 v0_13.2), (31, .bool v0_14.1), (32, .int .i64 v0_14.2), (170, .bool (!(decide (v0_12.2 = 0))))] [(5, .box 24 [.int .i64 a.1, .sl Y0 a.2]), (6, .box 24 [.int .i64 b.1, .sl Y0 b.2]), (148000, .arr 58 (.pair (.int .i64) (.int .i64)) v0_11.1), (154000, .arr 58 (.pair (.int .i64) (.int .i64)) v0_12.1)] ?_
          rcases zI h with ⟨hb57, h⟩ | ⟨hb57, h⟩
          ·refine zS 5 [(3, .int .u8 label), (4, .int .u8 step), (5, .bp 5 0), (6, .bp 6 0), (13, .bool true), (25, .own 148000), (27, .own 154000), (31, .bool v0_14.1), (174, .bool true), (175, .cv (undef))] [(5, .box 24 [.int .i64 a.1, .sl Y0 a.2]), (6, .box 24 [.int .i64 b.1, .sl Y0 b.2]), (148000, .arr 58 (.pair (.int .i64) (.int .i64)) v0_11.1), (154000, .arr 58 (.pair (.int .i64) (.int .i64)) v0_12.1)] ?_
           refine zS 5 [(3, .int .u8 label), (4, .int .u8 step), (5, .bp 5 0), (6, .bp 6 0), (13, .bool true), (25, .own 148000), (27, .own 154000), (178, .bool true), (180, .cv (undef))] [(5, .box 24 [.int .i64 a.1, .sl Y0 a.2]), (6, .box 24 [.int .i64 b.1, .sl Y0 b.2]), (148000, .arr 58 (.pair (.int .i64) (.int .i64)) v0_11.1), (154000, .arr 58 (.pair (.int .i64) (.int .i64)) v0_12.1)] ?_
           refine zS 5 [(3, .int .u8 label), (4, .int .u8 step), (5, .bp 5 0), (6, .bp 6 0), (13, .bool true), (25, .own 148000), (27, .own 154000), (182, .bool true), (185, .cv (undef))] [(5, .box 24 [.int .i64 a.1, .sl Y0 a.2]), (6, .box 24 [.int .i64 b.1, .sl Y0 b.2]), (148000, .arr 58 (.pair (.int .i64) (.int .i64)) v0_11.1), (154000, .arr 58 (.pair (.int .i64) (.int .i64)) v0_12.1)] ?_
           refine zS 5 [(3, .int .u8 label), (4, .int .u8 step), (5, .bp 5 0), (6, .bp 6 0), (13, .bool true), (187, .bool true), (189, .cv (undef)), (190, .cv (undef))] [(5, .box 24 [.int .i64 a.1, .sl Y0 a.2]), (6, .box 24 [.int .i64 b.1, .sl Y0 b.2])] ?_
           refine zB [(3, .int .u8 label), (4, .int .u8 step), (5, .bp 5 0), (6, .bp 6 0), (13, .bool true), (193, .bool true)] [(5, .box 24 [.int .i64 a.1, .sl Y0 a.2]), (6, .box 24 [.int .i64 b.1, .sl Y0 b.2])] ?_
           refine AW.cond (b := true) rfl (fun _ => ?_) (fun hb58 => by cases hb58)
           refine zo ?_
           refine zB [(10, .bool false)] [] ?_
           refine zr ?_
           obtain rfl := Option.some.inj h
           exact zR [] [] []
          ·refine zS 4 [(3, .int .u8 label), (4, .int .u8 step), (5, .bp 5 0), (6, .bp 6 0), (13, .bool true), (25, .own 148000), (27, .own 154000), (31, .bool v0_14.1), (32, .int .i64 v0_14.2), (174, .bool (!(decide (v0_13.2 = 0))))] [(5, .box 24 [.int .i64 a.1, .sl Y0 a.2]), (6, .box 24 [.int .i64 b.1, .sl Y0 b.2]), (148000, .arr 58 (.pair (.int .i64) (.int .i64)) v0_11.1), (154000, .arr 58 (.pair (.int .i64) (.int .i64)) v0_12.1)] ?_
           rcases zI h with ⟨hb59, h⟩ | ⟨hb59, h⟩
           ·refine zS 5 [(3, .int .u8 label), (4, .int .u8 step), (5, .bp 5 0), (6, .bp 6 0), (13, .bool true), (25, .own 148000), (27, .own 154000), (178, .bool true), (179, .cv (undef))] [(5, .box 24 [.int .i64 a.1, .sl Y0 a.2]), (6, .box 24 [.int .i64 b.1, .sl Y0 b.2]), (148000, .arr 58 (.pair (.int .i64) (.int .i64)) v0_11.1), (154000, .arr 58 (.pair (.int .i64) (.int .i64)) v0_12.1)] ?_
            refine zS 5 [(3, .int .u8 label), (4, .int .u8 step), (5, .bp 5 0), (6, .bp 6 0), (13, .bool true), (25, .own 148000), (27, .own 154000), (182, .bool true), (184, .cv (undef))] [(5, .box 24 [.int .i64 a.1, .sl Y0 a.2]), (6, .box 24 [.int .i64 b.1, .sl Y0 b.2]), (148000, .arr 58 (.pair (.int .i64) (.int .i64)) v0_11.1), (154000, .arr 58 (.pair (.int .i64) (.int .i64)) v0_12.1)] ?_
            refine zS 5 [(3, .int .u8 label), (4, .int .u8 step), (5, .bp 5 0), (6, .bp 6 0), (13, .bool true), (27, .own 154000), (187, .bool true), (189, .cv (undef))] [(5, .box 24 [.int .i64 a.1, .sl Y0 a.2]), (6, .box 24 [.int .i64 b.1, .sl Y0 b.2]), (154000, .arr 58 (.pair (.int .i64) (.int .i64)) v0_12.1)] ?_
            refine zB [(3, .int .u8 label), (4, .int .u8 step), (5, .bp 5 0), (6, .bp 6 0), (13, .bool true), (193, .bool true)] [(5, .box 24 [.int .i64 a.1, .sl Y0 a.2]), (6, .box 24 [.int .i64 b.1, .sl Y0 b.2])] ?_
            refine AW.cond (b := true) rfl (fun _ => ?_) (fun hb60 => by cases hb60)
            refine zo ?_
            refine zB [(10, .bool false)] [] ?_
            refine zr ?_
            obtain rfl := Option.some.inj h
            exact zR [] [] []
           ·refine zS 4 [(3, .int .u8 label), (4, .int .u8 step), (5, .bp 5 0), (6, .bp 6 0), (13, .bool true), (25, .own 148000), (27, .own 154000), (31, .bool v0_14.1), (178, .bool (!(decide (v0_14.2 = 0))))] [(5, .box 24 [.int .i64 a.1, .sl Y0 a.2]), (6, .box 24 [.int .i64 b.1, .sl Y0 b.2]), (148000, .arr 58 (.pair (.int .i64) (.int .i64)) v0_11.1), (154000, .arr 58 (.pair (.int .i64) (.int .i64)) v0_12.1)] ?_
            rcases zI h with ⟨hb61, h⟩ | ⟨hb61, h⟩
            ·refine zS 5 [(3, .int .u8 label), (4, .int .u8 step), (5, .bp 5 0), (6, .bp 6 0), (13, .bool true), (25, .own 148000), (27, .own 154000), (182, .bool true), (183, .cv (undef))] [(5, .box 24 [.int .i64 a.1, .sl Y0 a.2]), (6, .box 24 [.int .i64 b.1, .sl Y0 b.2]), (148000, .arr 58 (.pair (.int .i64) (.int .i64)) v0_11.1), (154000, .arr 58 (.pair (.int .i64) (.int .i64)) v0_12.1)] ?_
             refine zS 5 [(3, .int .u8 label), (4, .int .u8 step), (5, .bp 5 0), (6, .bp 6 0), (13, .bool true), (27, .own 154000), (187, .bool true), (188, .cv (undef))] [(5, .box 24 [.int .i64 a.1, .sl Y0 a.2]), (6, .box 24 [.int .i64 b.1, .sl Y0 b.2]), (154000, .arr 58 (.pair (.int .i64) (.int .i64)) v0_12.1)] ?_
             refine zS 4 [(3, .int .u8 label), (4, .int .u8 step), (5, .bp 5 0), (6, .bp 6 0), (13, .bool true), (187, .bool true), (192, .cv (undef))] [(5, .box 24 [.int .i64 a.1, .sl Y0 a.2]), (6, .box 24 [.int .i64 b.1, .sl Y0 b.2])] ?_
             refine zB [(3, .int .u8 label), (4, .int .u8 step), (5, .bp 5 0), (6, .bp 6 0), (13, .bool true), (193, .bool true)] [(5, .box 24 [.int .i64 a.1, .sl Y0 a.2]), (6, .box 24 [.int .i64 b.1, .sl Y0 b.2])] ?_
             refine AW.cond (b := true) rfl (fun _ => ?_) (fun hb62 => by cases hb62)
             refine zo ?_
             refine zB [(10, .bool false)] [] ?_
             refine zr ?_
             obtain rfl := Option.some.inj h
             exact zR [] [] []
            ·refine zS 4 [(3, .int .u8 label), (4, .int .u8 step), (5, .bp 5 0), (6, .bp 6 0), (13, .bool true), (25, .own 148000), (27, .own 154000), (182, .bool (!v0_14.1))] [(5, .box 24 [.int .i64 a.1, .sl Y0 a.2]), (6, .box 24 [.int .i64 b.1, .sl Y0 b.2]), (148000, .arr 58 (.pair (.int .i64) (.int .i64)) v0_11.1), (154000, .arr 58 (.pair (.int .i64) (.int .i64)) v0_12.1)] ?_
             rcases zI h with ⟨hb63, h⟩ | ⟨hb63, h⟩
             ·refine zS 5 [(3, .int .u8 label), (4, .int .u8 step), (5, .bp 5 0), (6, .bp 6 0), (13, .bool true), (25, .own 148000), (27, .own 154000), (187, .bool true)] [(5, .box 24 [.int .i64 a.1, .sl Y0 a.2]), (6, .box 24 [.int .i64 b.1, .sl Y0 b.2]), (148000, .arr 58 (.pair (.int .i64) (.int .i64)) v0_11.1), (154000, .arr 58 (.pair (.int .i64) (.int .i64)) v0_12.1)] ?_
              refine zS 4 [(3, .int .u8 label), (4, .int .u8 step), (5, .bp 5 0), (6, .bp 6 0), (13, .bool true), (187, .bool true), (189, .cv (undef)), (191, .cv (undef))] [(5, .box 24 [.int .i64 a.1, .sl Y0 a.2]), (6, .box 24 [.int .i64 b.1, .sl Y0 b.2])] ?_
              refine zB [(3, .int .u8 label), (4, .int .u8 step), (5, .bp 5 0), (6, .bp 6 0), (13, .bool true), (193, .bool true)] [(5, .box 24 [.int .i64 a.1, .sl Y0 a.2]), (6, .box 24 [.int .i64 b.1, .sl Y0 b.2])] ?_
              refine AW.cond (b := true) rfl (fun _ => ?_) (fun hb64 => by cases hb64)
              refine zo ?_
              refine zB [(10, .bool false)] [] ?_
              refine zr ?_
              obtain rfl := Option.some.inj h
              exact zR [] [] []
             ·refine zS 5 [(3, .int .u8 label), (4, .int .u8 step), (5, .bp 5 0), (6, .bp 6 0), (13, .bool true), (25, .own 148000), (27, .own 154000), (187, .bool (decide ((v0_11.1.length : Int) = 0)))] [(5, .box 24 [.int .i64 a.1, .sl Y0 a.2]), (6, .box 24 [.int .i64 b.1, .sl Y0 b.2]), (148000, .arr 58 (.pair (.int .i64) (.int .i64)) v0_11.1), (154000, .arr 58 (.pair (.int .i64) (.int .i64)) v0_12.1)] ?_
              rcases zI h with ⟨hb65, h⟩ | ⟨hb65, h⟩
              ·refine zS 4 [(3, .int .u8 label), (4, .int .u8 step), (5, .bp 5 0), (6, .bp 6 0), (13, .bool true), (187, .bool true), (189, .cv (undef)), (191, .cv (undef))] [(5, .box 24 [.int .i64 a.1, .sl Y0 a.2]), (6, .box 24 [.int .i64 b.1, .sl Y0 b.2])] ?_
               refine zB [(3, .int .u8 label), (4, .int .u8 step), (5, .bp 5 0), (6, .bp 6 0), (13, .bool true), (193, .bool true)] [(5, .box 24 [.int .i64 a.1, .sl Y0 a.2]), (6, .box 24 [.int .i64 b.1, .sl Y0 b.2])] ?_
               refine AW.cond (b := true) rfl (fun _ => ?_) (fun hb66 => by cases hb66)
               refine zo ?_
               refine zB [(10, .bool false)] [] ?_
               refine zr ?_
               obtain rfl := Option.some.inj h
               exact zR [] [] []
              ·refine zS 5 [(3, .int .u8 label), (4, .int .u8 step), (5, .bp 5 0), (6, .bp 6 0), (13, .bool true), (187, .bool false), (192, .bool (decide ((v0_12.1.length : Int) < (v0_11.1.length : Int))))] [(5, .box 24 [.int .i64 a.1, .sl Y0 a.2]), (6, .box 24 [.int .i64 b.1, .sl Y0 b.2])] ?_
               refine zB [(3, .int .u8 label), (4, .int .u8 step), (5, .bp 5 0), (6, .bp 6 0), (13, .bool true), (193, .bool (decide ((v0_12.1.length : Int) < (v0_11.1.length : Int))))] [(5, .box 24 [.int .i64 a.1, .sl Y0 a.2]), (6, .box 24 [.int .i64 b.1, .sl Y0 b.2])] ?_
               refine zQ h (fun hb67 h => ?_) (fun hb67 h => ?_)
               ·refine zo ?_
                refine zB [(10, .bool false)] [] ?_
                refine zr ?_
                obtain rfl := Option.some.inj h
                exact zR [] [] []
               ·refine zk ?_
                refine zo ?_
                obtain ⟨c68, h⟩ := ck_some.1 h
                obtain ⟨c69, h⟩ := ck_some.1 h
                obtain ⟨c70, h⟩ := ck_some.1 h
                refine zB [(4, .int .u8 step), (5, .bp 5 0), (6, .bp 6 0), (13, .bool true), (33, .int .i64 (1 + (label % 3)))] [(5, .box 24 [.int .i64 a.1, .sl Y0 a.2]), (6, .box 24 [.int .i64 b.1, .sl Y0 b.2])] ?_
                exact AW.weaken (zL [] [] []) (hk_linealtop_TopRefine_k4 _ h)
       ·refine zk ?_
        refine zo ?_
        obtain ⟨c71, h⟩ := ck_some.1 h
        obtain ⟨c72, h⟩ := ck_some.1 h
        obtain ⟨c73, h⟩ := ck_some.1 h
        refine zB [(4, .int .u8 step), (5, .bp 5 0), (6, .bp 6 0), (13, .bool true), (33, .int .i64 (1 + (label % 3)))] [(5, .box 24 [.int .i64 a.1, .sl Y0 a.2]), (6, .box 24 [.int .i64 b.1, .sl Y0 b.2])] ?_
        exact AW.weaken (zL [] [] []) (hk_linealtop_TopRefine_k4 _ h)
      ·refine zB [(3, .int .u8 label), (4, .int .u8 step), (5, .bp 5 0), (6, .bp 6 0), (7, .bp 7 0), (13, .bool false), (128, .bool false)] [(5, .box 24 [.int .i64 a.1, .sl Y0 a.2]), (6, .box 24 [.int .i64 b.1, .sl Y0 b.2]), (7, .box 24 [.int .i64 c.1, .sl Y0 c.2])] ?_
       refine AW.cond (b := false) rfl (fun hb74 => by cases hb74) (fun _ => ?_)
       refine zk ?_
       refine zo ?_
       obtain ⟨c75, h⟩ := ck_some.1 h
       obtain ⟨c76, h⟩ := ck_some.1 h
       obtain ⟨c77, h⟩ := ck_some.1 h
       refine zB [(4, .int .u8 step), (5, .bp 5 0), (6, .bp 6 0), (13, .bool false), (33, .int .i64 (1 + (label % 3)))] [(5, .box 24 [.int .i64 a.1, .sl Y0 a.2]), (6, .box 24 [.int .i64 b.1, .sl Y0 b.2])] ?_
       exact AW.weaken (zL [] [] []) (hk_linealtop_TopRefine_k4 _ h)
   ·refine AW.seq ?_
    refine zo ?_
    refine zS 3 [(3, .int .u8 label), (4, .int .u8 step), (5, .bp 5 0), (6, .bp 6 0), (7, .bp 7 0), (13, .bool v0_5.1), (15, .bool v0_6.1), (16, .int .i64 v0_6.2), (17, .bool v0_7.1), (18, .int .i64 v0_7.2), (20, .int .i64 v0_8.2), (22, .int .i64 v0_9.2), (93, .bool (!(decide (v0_5.2 = 0))))] [(5, .box 24 [.int .i64 a.1, .sl Y0 a.2]), (6, .box 24 [.int .i64 b.1, .sl Y0 b.2]), (7, .box 24 [.int .i64 c.1, .sl Y0 c.2])] ?_
    rcases zI h with ⟨hb78, h⟩ | ⟨hb78, h⟩
    ·refine zS 5 [(3, .int .u8 label), (4, .int .u8 step), (5, .bp 5 0), (6, .bp 6 0), (7, .bp 7 0), (13, .bool v0_5.1), (15, .bool v0_6.1), (17, .bool v0_7.1), (20, .int .i64 v0_8.2), (22, .int .i64 v0_9.2), (97, .bool true), (98, .cv (undef))] [(5, .box 24 [.int .i64 a.1, .sl Y0 a.2]), (6, .box 24 [.int .i64 b.1, .sl Y0 b.2]), (7, .box 24 [.int .i64 c.1, .sl Y0 c.2])] ?_
     refine zS 5 [(3, .int .u8 label), (4, .int .u8 step), (5, .bp 5 0), (6, .bp 6 0), (7, .bp 7 0), (13, .bool v0_5.1), (15, .bool v0_6.1), (17, .bool v0_7.1), (20, .int .i64 v0_8.2), (22, .int .i64 v0_9.2), (101, .bool true), (103, .cv (undef))] [(5, .box 24 [.int .i64 a.1, .sl Y0 a.2]), (6, .box 24 [.int .i64 b.1, .sl Y0 b.2]), (7, .box 24 [.int .i64 c.1, .sl Y0 c.2])] ?_
     refine zS 5 [(3, .int .u8 label), (4, .int .u8 step), (5, .bp 5 0), (6, .bp 6 0), (7, .bp 7 0), (13, .bool v0_5.1), (15, .bool v0_6.1), (17, .bool v0_7.1), (22, .int .i64 v0_9.2), (108, .bool true)] [(5, .box 24 [.int .i64 a.1, .sl Y0 a.2]), (6, .box 24 [.int .i64 b.1, .sl Y0 b.2]), (7, .box 24 [.int .i64 c.1, .sl Y0 c.2])] ?_
     refine zS 4 [(3, .int .u8 label), (4, .int .u8 step), (5, .bp 5 0), (6, .bp 6 0), (7, .bp 7 0), (13, .bool v0_5.1), (15, .bool v0_6.1), (17, .bool v0_7.1), (108, .bool true), (110, .cv (undef)), (112, .cv (undef))] [(5, .box 24 [.int .i64 a.1, .sl Y0 a.2]), (6, .box 24 [.int .i64 b.1, .sl Y0 b.2]), (7, .box 24 [.int .i64 c.1, .sl Y0 c.2])] ?_
     refine zS 5 [(3, .int .u8 label), (4, .int .u8 step), (5, .bp 5 0), (6, .bp 6 0), (7, .bp 7 0), (13, .bool v0_5.1), (15, .bool v0_6.1), (17, .bool v0_7.1), (115, .bool true), (117, .cv (undef))] [(5, .box 24 [.int .i64 a.1, .sl Y0 a.2]), (6, .box 24 [.int .i64 b.1, .sl Y0 b.2]), (7, .box 24 [.int .i64 c.1, .sl Y0 c.2])] ?_
     refine zS 4 [(3, .int .u8 label), (4, .int .u8 step), (5, .bp 5 0), (6, .bp 6 0), (7, .bp 7 0), (13, .bool v0_5.1), (15, .bool v0_6.1), (115, .bool true), (120, .cv (undef)), (121, .cv (undef))] [(5, .box 24 [.int .i64 a.1, .sl Y0 a.2]), (6, .box 24 [.int .i64 b.1, .sl Y0 b.2]), (7, .box 24 [.int .i64 c.1, .sl Y0 c.2])] ?_
     refine zB [(3, .int .u8 label), (4, .int .u8 step), (5, .bp 5 0), (6, .bp 6 0), (7, .bp 7 0), (13, .bool v0_5.1), (15, .bool v0_6.1), (124, .bool true)] [(5, .box 24 [.int .i64 a.1, .sl Y0 a.2]), (6, .box 24 [.int .i64 b.1, .sl Y0 b.2]), (7, .box 24 [.int .i64 c.1, .sl Y0 c.2])] ?_
     refine AW.cond (b := true) rfl (fun _ => ?_) (fun hb79 => by cases hb79)
     refine zo ?_
     refine zB [(10, .bool false)] [] ?_
     refine zr ?_
     obtain rfl := Option.some.inj h
     exact zR [] [] []
    ·refine zS 4 [(3, .int .u8 label), (4, .int .u8 step), (5, .bp 5 0), (6, .bp 6 0), (7, .bp 7 0), (13, .bool v0_5.1), (15, .bool v0_6.1), (17, .bool v0_7.1), (18, .int .i64 v0_7.2), (20, .int .i64 v0_8.2), (22, .int .i64 v0_9.2), (97, .bool (!(decide (v0_6.2 = 0))))] [(5, .box 24 [.int .i64 a.1, .sl Y0 a.2]), (6, .box 24 [.int .i64 b.1, .sl Y0 b.2]), (7, .box 24 [.int .i64 c.1, .sl Y0 c.2])] ?_
     rcases zI h with ⟨hb80, h⟩ | ⟨hb80, h⟩
     ·refine zS 5 [(3, .int .u8 label), (4, .int .u8 step), (5, .bp 5 0), (6, .bp 6 0), (7, .bp 7 0), (13, .bool v0_5.1), (15, .bool v0_6.1), (17, .bool v0_7.1), (20, .int .i64 v0_8.2), (22, .int .i64 v0_9.2), (101, .bool true), (102, .cv (undef))] [(5, .box 24 [.int .i64 a.1, .sl Y0 a.2]), (6, .box 24 [.int .i64 b.1, .sl Y0 b.2]), (7, .box 24 [.int .i64 c.1, .sl Y0 c.2])] ?_
      refine zS 4 [(3, .int .u8 label), (4, .int .u8 step), (5, .bp 5 0), (6, .bp 6 0), (7, .bp 7 0), (13, .bool v0_5.1), (15, .bool v0_6.1), (17, .bool v0_7.1), (22, .int .i64 v0_9.2), (101, .bool true), (106, .cv (undef))] [(5, .box 24 [.int .i64 a.1, .sl Y0 a.2]), (6, .box 24 [.int .i64 b.1, .sl Y0 b.2]), (7, .box 24 [.int .i64 c.1, .sl Y0 c.2])] ?_
      refine zS 5 [(3, .int .u8 label), (4, .int .u8 step), (5, .bp 5 0), (6, .bp 6 0), (7, .bp 7 0), (13, .bool v0_5.1), (15, .bool v0_6.1), (17, .bool v0_7.1), (108, .bool true), (110, .cv (undef)), (111, .cv (undef))] [(5, .box 24 [.int .i64 a.1, .sl Y0 a.2]), (6, .box 24 [.int .i64 b.1, .sl Y0 b.2]), (7, .box 24 [.int .i64 c.1, .sl Y0 c.2])] ?_
      refine zS 5 [(3, .int .u8 label), (4, .int .u8 step), (5, .bp 5 0), (6, .bp 6 0), (7, .bp 7 0), (13, .bool v0_5.1), (15, .bool v0_6.1), (17, .bool v0_7.1), (115, .bool true), (116, .cv (undef))] [(5, .box 24 [.int .i64 a.1, .sl Y0 a.2]), (6, .box 24 [.int .i64 b.1, .sl Y0 b.2]), (7, .box 24 [.int .i64 c.1, .sl Y0 c.2])] ?_
      refine zS 4 [(3, .int .u8 label), (4, .int .u8 step), (5, .bp 5 0), (6, .bp 6 0), (7, .bp 7 0), (13, .bool v0_5.1), (15, .bool v0_6.1), (17, .bool v0_7.1), (115, .bool true), (120, .cv (undef))] [(5, .box 24 [.int .i64 a.1, .sl Y0 a.2]), (6, .box 24 [.int .i64 b.1, .sl Y0 b.2]), (7, .box 24 [.int .i64 c.1, .sl Y0 c.2])] ?_
      refine zB [(3, .int .u8 label), (4, .int .u8 step), (5, .bp 5 0), (6, .bp 6 0), (7, .bp 7 0), (13, .bool v0_5.1), (15, .bool v0_6.1), (124, .bool true)] [(5, .box 24 [.int .i64 a.1, .sl Y0 a.2]), (6, .box 24 [.int .i64 b.1, .sl Y0 b.2]), (7, .box 24 [.int .i64 c.1, .sl Y0 c.2])] ?_
      refine AW.cond (b := true) rfl (fun _ => ?_) (fun hb81 => by cases hb81)
      refine zo ?_
      refine zB [(10, .bool false)] [] ?_
      refine zr ?_
      obtain rfl := Option.some.inj h
      exact zR [] [] []
     ·refine zS 4 [(3, .int .u8 label), (4, .int .u8 step), (5, .bp 5 0), (6, .bp 6 0), (7, .bp 7 0), (13, .bool v0_5.1), (15, .bool v0_6.1), (17, .bool v0_7.1), (20, .int .i64 v0_8.2), (22, .int .i64 v0_9.2), (101, .bool (!(decide (v0_7.2 = 0))))] [(5, .box 24 [.int .i64 a.1, .sl Y0 a.2]), (6, .box 24 [.int .i64 b.1, .sl Y0 b.2]), (7, .box 24 [.int .i64 c.1, .sl Y0 c.2])] ?_
      rcases zI h with ⟨hb82, h⟩ | ⟨hb82, h⟩
      ·refine zS 4 [(3, .int .u8 label), (4, .int .u8 step), (5, .bp 5 0), (6, .bp 6 0), (7, .bp 7 0), (13, .bool v0_5.1), (15, .bool v0_6.1), (17, .bool v0_7.1), (22, .int .i64 v0_9.2), (101, .bool true), (103, .cv (undef)), (105, .cv (undef))] [(5, .box 24 [.int .i64 a.1, .sl Y0 a.2]), (6, .box 24 [.int .i64 b.1, .sl Y0 b.2]), (7, .box 24 [.int .i64 c.1, .sl Y0 c.2])] ?_
       refine zS 5 [(3, .int .u8 label), (4, .int .u8 step), (5, .bp 5 0), (6, .bp 6 0), (7, .bp 7 0), (13, .bool v0_5.1), (15, .bool v0_6.1), (17, .bool v0_7.1), (22, .int .i64 v0_9.2), (108, .bool true), (110, .cv (undef))] [(5, .box 24 [.int .i64 a.1, .sl Y0 a.2]), (6, .box 24 [.int .i64 b.1, .sl Y0 b.2]), (7, .box 24 [.int .i64 c.1, .sl Y0 c.2])] ?_
       refine zS 5 [(3, .int .u8 label), (4, .int .u8 step), (5, .bp 5 0), (6, .bp 6 0), (7, .bp 7 0), (13, .bool v0_5.1), (15, .bool v0_6.1), (17, .bool v0_7.1), (115, .bool true)] [(5, .box 24 [.int .i64 a.1, .sl Y0 a.2]), (6, .box 24 [.int .i64 b.1, .sl Y0 b.2]), (7, .box 24 [.int .i64 c.1, .sl Y0 c.2])] ?_
       refine zS 4 [(3, .int .u8 label), (4, .int .u8 step), (5, .bp 5 0), (6, .bp 6 0), (7, .bp 7 0), (13, .bool v0_5.1), (15, .bool v0_6.1), (17, .bool v0_7.1), (115, .bool true), (119, .cv (undef))] [(5, .box 24 [.int .i64 a.1, .sl Y0 a.2]), (6, .box 24 [.int .i64 b.1, .sl Y0 b.2]), (7, .box 24 [.int .i64 c.1, .sl Y0 c.2])] ?_
       refine zS 4 [(3, .int .u8 label), (4, .int .u8 step), (5, .bp 5 0), (6, .bp 6 0), (7, .bp 7 0), (13, .bool v0_5.1), (15, .bool v0_6.1), (115, .bool true), (123, .cv (undef))] [(5, .box 24 [.int .i64 a.1, .sl Y0 a.2]), (6, .box 24 [.int .i64 b.1, .sl Y0 b.2]), (7, .box 24 [.int .i64 c.1, .sl Y0 c.2])] ?_
       refine zB [(3, .int .u8 label), (4, .int .u8 step), (5, .bp 5 0), (6, .bp 6 0), (7, .bp 7 0), (13, .bool v0_5.1), (15, .bool v0_6.1), (124, .bool true)] [(5, .box 24 [.int .i64 a.1, .sl Y0 a.2]), (6, .box 24 [.int .i64 b.1, .sl Y0 b.2]), (7, .box 24 [.int .i64 c.1, .sl Y0 c.2])] ?_
       refine AW.cond (b := true) rfl (fun _ => ?_) (fun hb83 => by cases hb83)
       refine zo ?_
       refine zB [(10, .bool false)] [] ?_
       refine zr ?_
       obtain rfl := Option.some.inj h
       exact zR [] [] []
      ·refine zS 2 [(3, .int .u8 label), (4, .int .u8 step), (5, .bp 5 0), (6, .bp 6 0), (7, .bp 7 0), (13, .bool v0_5.1), (15, .bool v0_6.1), (17, .bool v0_7.1), (20, .int .i64 v0_8.2), (22, .int .i64 v0_9.2), (101, .bool false), (103, .bool v0_5.1)] [(5, .box 24 [.int .i64 a.1, .sl Y0 a.2]), (6, .box 24 [.int .i64 b.1, .sl Y0 b.2]), (7, .box 24 [.int .i64 c.1, .sl Y0 c.2])] ?_
       rcases zI h with ⟨hb84, h⟩ | ⟨hb84, h⟩
       ·refine zS 5 [(3, .int .u8 label), (4, .int .u8 step), (5, .bp 5 0), (6, .bp 6 0), (7, .bp 7 0), (13, .bool true), (15, .bool v0_6.1), (17, .bool v0_7.1), (22, .int .i64 v0_9.2), (108, .bool (!(decide (v0_8.2 = 5))))] [(5, .box 24 [.int .i64 a.1, .sl Y0 a.2]), (6, .box 24 [.int .i64 b.1, .sl Y0 b.2]), (7, .box 24 [.int .i64 c.1, .sl Y0 c.2])] ?_
        rcases zI h with ⟨hb85, h⟩ | ⟨hb85, h⟩
        ·refine zS 4 [(3, .int .u8 label), (4, .int .u8 step), (5, .bp 5 0), (6, .bp 6 0), (7, .bp 7 0), (13, .bool true), (15, .bool v0_6.1), (17, .bool v0_7.1), (108, .bool true), (110, .cv (undef)), (112, .cv (undef))] [(5, .box 24 [.int .i64 a.1, .sl Y0 a.2]), (6, .box 24 [.int .i64 b.1, .sl Y0 b.2]), (7, .box 24 [.int .i64 c.1, .sl Y0 c.2])] ?_
         refine zS 5 [(3, .int .u8 label), (4, .int .u8 step), (5, .bp 5 0), (6, .bp 6 0), (7, .bp 7 0), (13, .bool true), (15, .bool v0_6.1), (17, .bool v0_7.1), (115, .bool true), (117, .cv (undef))] [(5, .box 24 [.int .i64 a.1, .sl Y0 a.2]), (6, .box 24 [.int .i64 b.1, .sl Y0 b.2]), (7, .box 24 [.int .i64 c.1, .sl Y0 c.2])] ?_
         refine zS 4 [(3, .int .u8 label), (4, .int .u8 step), (5, .bp 5 0), (6, .bp 6 0), (7, .bp 7 0), (13, .bool true), (15, .bool v0_6.1), (115, .bool true), (120, .cv (undef)), (121, .cv (undef))] [(5, .box 24 [.int .i64 a.1, .sl Y0 a.2]), (6, .box 24 [.int .i64 b.1, .sl Y0 b.2]), (7, .box 24 [.int .i64 c.1, .sl Y0 c.2])] ?_
         refine zB [(3, .int .u8 label), (4, .int .u8 step), (5, .bp 5 0), (6, .bp 6 0), (7, .bp 7 0), (13, .bool true), (15, .bool v0_6.1), (124, .bool true)] [(5, .box 24 [.int .i64 a.1, .sl Y0 a.2]), (6, .box 24 [.int .i64 b.1, .sl Y0 b.2]), (7, .box 24 [.int .i64 c.1, .sl Y0 c.2])] ?_
         refine AW.cond (b := true) rfl (fun _ => ?_) (fun hb86 => by cases hb86)
         refine zo ?_
         refine zB [(10, .bool false)] [] ?_
         refine zr ?_
         obtain rfl := Option.some.inj h
         exact zR [] [] []
        ·refine zS 2 [(3, .int .u8 label), (4, .int .u8 step), (5, .bp 5 0), (6, .bp 6 0), (7, .bp 7 0), (13, .bool true), (15, .bool v0_6.1), (17, .bool v0_7.1), (22, .int .i64 v0_9.2), (108, .bool false), (110, .bool v0_7.1)] [(5, .box 24 [.int .i64 a.1, .sl Y0 a.2]), (6, .box 24 [.int .i64 b.1, .sl Y0 b.2]), (7, .box 24 [.int .i64 c.1, .sl Y0 c.2])] ?_
         rcases zI h with ⟨hb87, h⟩ | ⟨hb87, h⟩
         ·refine zS 5 [(3, .int .u8 label), (4, .int .u8 step), (5, .bp 5 0), (6, .bp 6 0), (7, .bp 7 0), (13, .bool true), (15, .bool v0_6.1), (17, .bool true), (115, .bool (!(decide (v0_9.2 = 5))))] [(5, .box 24 [.int .i64 a.1, .sl Y0 a.2]), (6, .box 24 [.int .i64 b.1, .sl Y0 b.2]), (7, .box 24 [.int .i64 c.1, .sl Y0 c.2])] ?_
          rcases zI h with ⟨hb88, h⟩ | ⟨hb88, h⟩
          ·refine zS 4 [(3, .int .u8 label), (4, .int .u8 step), (5, .bp 5 0), (6, .bp 6 0), (7, .bp 7 0), (13, .bool true), (15, .bool v0_6.1), (17, .bool true), (115, .bool true), (119, .cv (undef))] [(5, .box 24 [.int .i64 a.1, .sl Y0 a.2]), (6, .box 24 [.int .i64 b.1, .sl Y0 b.2]), (7, .box 24 [.int .i64 c.1, .sl Y0 c.2])] ?_
           refine zS 4 [(3, .int .u8 label), (4, .int .u8 step), (5, .bp 5 0), (6, .bp 6 0), (7, .bp 7 0), (13, .bool true), (15, .bool v0_6.1), (115, .bool true), (123, .cv (undef))] [(5, .box 24 [.int .i64 a.1, .sl Y0 a.2]), (6, .box 24 [.int .i64 b.1, .sl Y0 b.2]), (7, .box 24 [.int .i64 c.1, .sl Y0 c.2])] ?_
           refine zB [(3, .int .u8 label), (4, .int .u8 step), (5, .bp 5 0), (6, .bp 6 0), (7, .bp 7 0), (13, .bool true), (15, .bool v0_6.1), (124, .bool true)] [(5, .box 24 [.int .i64 a.1, .sl Y0 a.2]), (6, .box 24 [.int .i64 b.1, .sl Y0 b.2]), (7, .box 24 [.int .i64 c.1, .sl Y0 c.2])] ?_
           refine AW.cond (b := true) rfl (fun _ => ?_) (fun hb89 => by cases hb89)
           refine zo ?_
           refine zB [(10, .bool false)] [] ?_
           refine zr ?_
           obtain rfl := Option.some.inj h
           exact zR [] [] []
          ·refine zS 5 [(3, .int .u8 label), (4, .int .u8 step), (5, .bp 5 0), (6, .bp 6 0), (7, .bp 7 0), (13, .bool true), (15, .bool v0_6.1), (17, .bool true), (115, .bool false), (120, .bool v0_6.1)] [(5, .box 24 [.int .i64 a.1, .sl Y0 a.2]), (6, .box 24 [.int .i64 b.1, .sl Y0 b.2]), (7, .box 24 [.int .i64 c.1, .sl Y0 c.2])] ?_
           rcases zI h with ⟨hb90, h⟩ | ⟨hb90, h⟩
           ·refine zB [(3, .int .u8 label), (4, .int .u8 step), (5, .bp 5 0), (6, .bp 6 0), (7, .bp 7 0), (13, .bool true), (15, .bool true), (124, .bool false)] [(5, .box 24 [.int .i64 a.1, .sl Y0 a.2]), (6, .box 24 [.int .i64 b.1, .sl Y0 b.2]), (7, .box 24 [.int .i64 c.1, .sl Y0 c.2])] ?_
            refine AW.cond (b := false) rfl (fun hb91 => by cases hb91) (fun _ => ?_)
            refine zk ?_
            exact AW.weaken (zL [] [] []) (hk_linealtop_TopRefine_k3 _ h)
           ·refine zB [(3, .int .u8 label), (4, .int .u8 step), (5, .bp 5 0), (6, .bp 6 0), (7, .bp 7 0), (13, .bool true), (15, .bool false), (124, .bool false)] [(5, .box 24 [.int .i64 a.1, .sl Y0 a.2]), (6, .box 24 [.int .i64 b.1, .sl Y0 b.2]), (7, .box 24 [.int .i64 c.1, .sl Y0 c.2])] ?_
            refine AW.cond (b := false) rfl (fun hb92 => by cases hb92) (fun _ => ?_)
            refine zk ?_
            exact AW.weaken (zL [] [] []) (hk_linealtop_TopRefine_k3 _ h)
         ·refine zS 5 [(3, .int .u8 label), (4, .int .u8 step), (5, .bp 5 0), (6, .bp 6 0), (7, .bp 7 0), (13, .bool true), (15, .bool v0_6.1), (17, .bool false), (115, .bool false)] [(5, .box 24 [.int .i64 a.1, .sl Y0 a.2]), (6, .box 24 [.int .i64 b.1, .sl Y0 b.2]), (7, .box 24 [.int .i64 c.1, .sl Y0 c.2])] ?_
          refine zS 5 [(3, .int .u8 label), (4, .int .u8 step), (5, .bp 5 0), (6, .bp 6 0), (7, .bp 7 0), (13, .bool true), (15, .bool v0_6.1), (17, .bool false), (115, .bool false), (120, .bool v0_6.1)] [(5, .box 24 [.int .i64 a.1, .sl Y0 a.2]), (6, .box 24 [.int .i64 b.1, .sl Y0 b.2]), (7, .box 24 [.int .i64 c.1, .sl Y0 c.2])] ?_
          rcases zI h with ⟨hb93, h⟩ | ⟨hb93, h⟩
          ·refine zB [(3, .int .u8 label), (4, .int .u8 step), (5, .bp 5 0), (6, .bp 6 0), (7, .bp 7 0), (13, .bool true), (15, .bool true), (124, .bool true)] [(5, .box 24 [.int .i64 a.1, .sl Y0 a.2]), (6, .box 24 [.int .i64 b.1, .sl Y0 b.2]), (7, .box 24 [.int .i64 c.1, .sl Y0 c.2])] ?_
           refine AW.cond (b := true) rfl (fun _ => ?_) (fun hb94 => by cases hb94)
           refine zo ?_
           refine zB [(10, .bool false)] [] ?_
           refine zr ?_
           obtain rfl := Option.some.inj h
           exact zR [] [] []
          ·refine zB [(3, .int .u8 label), (4, .int .u8 step), (5, .bp 5 0), (6, .bp 6 0), (7, .bp 7 0), (13, .bool true), (15, .bool false), (124, .bool false)] [(5, .box 24 [.int .i64 a.1, .sl Y0 a.2]), (6, .box 24 [.int .i64 b.1, .sl Y0 b.2]), (7, .box 24 [.int .i64 c.1, .sl Y0 c.2])] ?_
           refine AW.cond (b := false) rfl (fun hb95 => by cases hb95) (fun _ => ?_)
           refine zk ?_
           exact AW.weaken (zL [] [] []) (hk_linealtop_TopRefine_k3 _ h)
       ·refine zS 5 [(3, .int .u8 label), (4, .int .u8 step), (5, .bp 5 0), (6, .bp 6 0), (7, .bp 7 0), (13, .bool false), (15, .bool v0_6.1), (17, .bool v0_7.1), (22, .int .i64 v0_9.2), (108, .bool false)] [(5, .box 24 [.int .i64 a.1, .sl Y0 a.2]), (6, .box 24 [.int .i64 b.1, .sl Y0 b.2]), (7, .box 24 [.int .i64 c.1, .sl Y0 c.2])] ?_
        refine zS 2 [(3, .int .u8 label), (4, .int .u8 step), (5, .bp 5 0), (6, .bp 6 0), (7, .bp 7 0), (13, .bool false), (15, .bool v0_6.1), (17, .bool v0_7.1), (22, .int .i64 v0_9.2), (108, .bool false), (110, .bool v0_7.1)] [(5, .box 24 [.int .i64 a.1, .sl Y0 a.2]), (6, .box 24 [.int .i64 b.1, .sl Y0 b.2]), (7, .box 24 [.int .i64 c.1, .sl Y0 c.2])] ?_
        rcases zI h with ⟨hb96, h⟩ | ⟨hb96, h⟩
        ·refine zS 5 [(3, .int .u8 label), (4, .int .u8 step), (5, .bp 5 0), (6, .bp 6 0), (7, .bp 7 0), (13, .bool false), (15, .bool v0_6.1), (17, .bool true), (115, .bool (!(decide (v0_9.2 = 5))))] [(5, .box 24 [.int .i64 a.1, .sl Y0 a.2]), (6, .box 24 [.int .i64 b.1, .sl Y0 b.2]), (7, .box 24 [.int .i64 c.1, .sl Y0 c.2])] ?_
         rcases zI h with ⟨hb97, h⟩ | ⟨hb97, h⟩
         ·refine zS 4 [(3, .int .u8 label), (4, .int .u8 step), (5, .bp 5 0), (6, .bp 6 0), (7, .bp 7 0), (13, .bool false), (15, .bool v0_6.1), (17, .bool true), (115, .bool true), (119, .cv (undef))] [(5, .box 24 [.int .i64 a.1, .sl Y0 a.2]), (6, .box 24 [.int .i64 b.1, .sl Y0 b.2]), (7, .box 24 [.int .i64 c.1, .sl Y0 c.2])] ?_
          refine zS 4 [(3, .int .u8 label), (4, .int .u8 step), (5, .bp 5 0), (6, .bp 6 0), (7, .bp 7 0), (13, .bool false), (15, .bool v0_6.1), (115, .bool true), (123, .cv (undef))] [(5, .box 24 [.int .i64 a.1, .sl Y0 a.2]), (6, .box 24 [.int .i64 b.1, .sl Y0 b.2]), (7, .box 24 [.int .i64 c.1, .sl Y0 c.2])] ?_
          refine zB [(3, .int .u8 label), (4, .int .u8 step), (5, .bp 5 0), (6, .bp 6 0), (7, .bp 7 0), (13, .bool false), (15, .bool v0_6.1), (124, .bool true)] [(5, .box 24 [.int .i64 a.1, .sl Y0 a.2]), (6, .box 24 [.int .i64 b.1, .sl Y0 b.2]), (7, .box 24 [.int .i64 c.1, .sl Y0 c.2])] ?_
          refine AW.cond (b := true) rfl (fun _ => ?_) (fun hb98 => by cases hb98)
          refine zo ?_
          refine zB [(10, .bool false)] [] ?_
          refine zr ?_
          obtain rfl := Option.some.inj h
          exact zR [] [] []
         ·refine zS 5 [(3, .int .u8 label), (4, .int .u8 step), (5, .bp 5 0), (6, .bp 6 0), (7, .bp 7 0), (13, .bool false), (15, .bool v0_6.1), (17, .bool true), (115, .bool false), (120, .bool false)] [(5, .box 24 [.int .i64 a.1, .sl Y0 a.2]), (6, .box 24 [.int .i64 b.1, .sl Y0 b.2]), (7, .box 24 [.int .i64 c.1, .sl Y0 c.2])] ?_
          refine zB [(3, .int .u8 label), (4, .int .u8 step), (5, .bp 5 0), (6, .bp 6 0), (7, .bp 7 0), (13, .bool false), (15, .bool v0_6.1), (124, .bool false)] [(5, .box 24 [.int .i64 a.1, .sl Y0 a.2]), (6, .box 24 [.int .i64 b.1, .sl Y0 b.2]), (7, .box 24 [.int .i64 c.1, .sl Y0 c.2])] ?_
          refine AW.cond (b := false) rfl (fun hb99 => by cases hb99) (fun _ => ?_)
          refine zk ?_
          exact AW.weaken (zL [] [] []) (hk_linealtop_TopRefine_k3 _ h)
        ·refine zS 5 [(3, .int .u8 label), (4, .int .u8 step), (5, .bp 5 0), (6, .bp 6 0), (7, .bp 7 0), (13, .bool false), (15, .bool v0_6.1), (17, .bool false), (115, .bool false)] [(5, .box 24 [.int .i64 a.1, .sl Y0 a.2]), (6, .box 24 [.int .i64 b.1, .sl Y0 b.2]), (7, .box 24 [.int .i64 c.1, .sl Y0 c.2])] ?_
         refine zS 5 [(3, .int .u8 label), (4, .int .u8 step), (5, .bp 5 0), (6, .bp 6 0), (7, .bp 7 0), (13, .bool false), (15, .bool v0_6.1), (17, .bool false), (115, .bool false), (120, .bool false)] [(5, .box 24 [.int .i64 a.1, .sl Y0 a.2]), (6, .box 24 [.int .i64 b.1, .sl Y0 b.2]), (7, .box 24 [.int .i64 c.1, .sl Y0 c.2])] ?_
         refine zB [(3, .int .u8 label), (4, .int .u8 step), (5, .bp 5 0), (6, .bp 6 0), (7, .bp 7 0), (13, .bool false), (15, .bool v0_6.1), (124, .bool false)] [(5, .box 24 [.int .i64 a.1, .sl Y0 a.2]), (6, .box 24 [.int .i64 b.1, .sl Y0 b.2]), (7, .box 24 [.int .i64 c.1, .sl Y0 c.2])] ?_
         refine AW.cond (b := false) rfl (fun hb100 => by cases hb100) (fun _ => ?_)
         refine zk ?_
         exact AW.weaken (zL [] [] []) (hk_linealtop_TopRefine_k3 _ h)
 ·refine AW.seq ?_
  refine zo ?_
  refine zB [(3, .int .u8 label), (4, .int .u8 step), (5, .bp 5 0), (6, .bp 6 0), (7, .bp 7 0), (48, .agg [.int .i64 a.1, .sl Y0 a.2, .int .i64 b.1, .sl Y0 b.2, .int .i64 c.1, .sl Y0 c.2]), (49, .int .i64 0)] [(5, .box 24 [.int .i64 a.1, .sl Y0 a.2]), (6, .box 24 [.int .i64 b.1, .sl Y0 b.2]), (7, .box 24 [.int .i64 c.1, .sl Y0 c.2])] ?_
  refine AW.block ?_
  obtain ⟨rv105, hw101, ho102⟩ := Option.bind_eq_some_iff.1 h
  refine AW.loopO (linealtop_TopRefine_b1 a b c) (fun st1 => ⟨fr [(3, .int .u8 label), (4, .int .u8 step), (5, .bp 5 0), (6, .bp 6 0), (7, .bp 7 0), (48, .agg [.int .i64 a.1, .sl Y0 a.2, .int .i64 b.1, .sl Y0 b.2, .int .i64 c.1, .sl Y0 c.2]), (49, .int .i64 st1)], hpGet [(5, .box 24 [.int .i64 a.1, .sl Y0 a.2]), (6, .box 24 [.int .i64 b.1, .sl Y0 b.2]), (7, .box 24 [.int .i64 c.1, .sl Y0 c.2])], gt⟩) 0 hw101 (zL [] [] []) ?_
  as_aux_lemma =>
   intro st1 x104 h hd103
   unfold linealtop_TopRefine_b1 at h
   refine zo ?_
   refine zB [(3, .int .u8 label), (4, .int .u8 step), (5, .bp 5 0), (6, .bp 6 0), (7, .bp 7 0), (48, .agg [.int .i64 a.1, .sl Y0 a.2, .int .i64 b.1, .sl Y0 b.2, .int .i64 c.1, .sl Y0 c.2]), (49, .int .i64 st1), (50, .bool (decide (st1 < 3)))] [(5, .box 24 [.int .i64 a.1, .sl Y0 a.2]), (6, .box 24 [.int .i64 b.1, .sl Y0 b.2]), (7, .box 24 [.int .i64 c.1, .sl Y0 c.2])] ?_
   refine AW.seq ?_
   refine zQ h (fun hb106 h => ?_) (fun hb106 h => ?_)
   ·refine zk ?_
    refine AW.seq ?_
    refine AW.block ?_
    refine AW.have1 (fun b2 : Int × (List (Int × Int × Int)) × Int => linealtop_TopRefine_k2 b2 = some x104) (fun b2 => ⟨fr [(3, .int .u8 label), (4, .int .u8 step), (5, .bp 5 0), (6, .bp 6 0), (7, .bp 7 0), (12, .bp 12 0), (48, .agg [.int .i64 a.1, .sl Y0 a.2, .int .i64 b.1, .sl Y0 b.2, .int .i64 c.1, .sl Y0 c.2]), (49, .int .i64 b2.2.2)], hpGet [(5, .box 24 [.int .i64 a.1, .sl Y0 a.2]), (6, .box 24 [.int .i64 b.1, .sl Y0 b.2]), (7, .box 24 [.int .i64 c.1, .sl Y0 c.2]), (12, .box 24 [.int .i64 b2.1, .sl Y0 b2.2.1])], gt⟩) (fun b2 h => ?_) (fun hk_linealtop_TopRefine_k2 => ?_)
    ·as_aux_lemma =>
      unfold linealtop_TopRefine_k2 at h
      refine zo ?_
      refine zS 1 [(3, .int .u8 label), (4, .int .u8 step), (5, .bp 5 0), (6, .bp 6 0), (7, .bp 7 0), (12, .bp 12 0), (48, .agg [.int .i64 a.1, .sl Y0 a.2, .int .i64 b.1, .sl Y0 b.2, .int .i64 c.1, .sl Y0 c.2]), (49, .int .i64 b2.2.2), (52, .agg [.int .i64 b2.1, .sl Y0 b2.2.1])] [(5, .box 24 [.int .i64 a.1, .sl Y0 a.2]), (6, .box 24 [.int .i64 b.1, .sl Y0 b.2]), (7, .box 24 [.int .i64 c.1, .sl Y0 c.2]), (12, .box 24 [.int .i64 b2.1, .sl Y0 b2.2.1])] ?_
      obtain ⟨v0, hv107, h⟩ := Option.bind_eq_some_iff.1 h
      refine zC [] [] (hc_lineallaw05_Long (b2.1, b2.2.1) hv107) [(3, .int .u8 label), (4, .int .u8 step), (5, .bp 5 0), (6, .bp 6 0), (7, .bp 7 0), (12, .bp 12 0), (48, .agg [.int .i64 a.1, .sl Y0 a.2, .int .i64 b.1, .sl Y0 b.2, .int .i64 c.1, .sl Y0 c.2]), (49, .int .i64 b2.2.2), (53, .bool (decide (100 < (b2.2.1.length : Int))))] [(5, .box 24 [.int .i64 a.1, .sl Y0 a.2]), (6, .box 24 [.int .i64 b.1, .sl Y0 b.2]), (7, .box 24 [.int .i64 c.1, .sl Y0 c.2]), (12, .box 24 [.int .i64 b2.1, .sl Y0 b2.2.1])] ?_
      refine zS 1 [(3, .int .u8 label), (4, .int .u8 step), (5, .bp 5 0), (6, .bp 6 0), (7, .bp 7 0), (12, .bp 12 0), (48, .agg [.int .i64 a.1, .sl Y0 a.2, .int .i64 b.1, .sl Y0 b.2, .int .i64 c.1, .sl Y0 c.2]), (49, .int .i64 b2.2.2), (54, .bool (decide (100 < (b2.2.1.length : Int))))] [(5, .box 24 [.int .i64 a.1, .sl Y0 a.2]), (6, .box 24 [.int .i64 b.1, .sl Y0 b.2]), (7, .box 24 [.int .i64 c.1, .sl Y0 c.2]), (12, .box 24 [.int .i64 b2.1, .sl Y0 b2.2.1])] ?_
      rcases zI h with ⟨hb108, h⟩ | ⟨hb108, h⟩
      ·refine zB [(3, .int .u8 label), (4, .int .u8 step), (5, .bp 5 0), (6, .bp 6 0), (7, .bp 7 0), (48, .agg [.int .i64 a.1, .sl Y0 a.2, .int .i64 b.1, .sl Y0 b.2, .int .i64 c.1, .sl Y0 c.2]), (49, .int .i64 b2.2.2), (58, .bool true)] [(5, .box 24 [.int .i64 a.1, .sl Y0 a.2]), (6, .box 24 [.int .i64 b.1, .sl Y0 b.2]), (7, .box 24 [.int .i64 c.1, .sl Y0 c.2])] ?_
       refine AW.cond (b := true) rfl (fun _ => ?_) (fun hb109 => by cases hb109)
       refine zo ?_
       obtain ⟨v0_2, hv110, h⟩ := Option.bind_eq_some_iff.1 h
       refine zC [] [] (hc_lineallaw05_Awake hv110) [(59, .bool v0_2)] [] ?_
       refine zB [(10, .bool v0_2)] [] ?_
       refine AW.ret ?_
       refine ablock_r ?_
       refine athen_r ?_
       obtain rfl := Option.some.inj h
       rw [← hd103 _ rfl] at ho102
       have h := ho102
       try simp only at h
       refine athen_r ?_
       refine ablock_r ?_
       refine athen_r ?_
       obtain rfl := Option.some.inj h
       exact zR [] [] []
      ·refine zS 1 [(3, .int .u8 label), (4, .int .u8 step), (5, .bp 5 0), (6, .bp 6 0), (7, .bp 7 0), (48, .agg [.int .i64 a.1, .sl Y0 a.2, .int .i64 b.1, .sl Y0 b.2, .int .i64 c.1, .sl Y0 c.2]), (49, .int .i64 b2.2.2), (54, .bool false), (55, .agg [.int .i64 b2.1, .sl Y0 b2.2.1])] [(5, .box 24 [.int .i64 a.1, .sl Y0 a.2]), (6, .box 24 [.int .i64 b.1, .sl Y0 b.2]), (7, .box 24 [.int .i64 c.1, .sl Y0 c.2])] ?_
       obtain ⟨v0_3, hv111, h⟩ := Option.bind_eq_some_iff.1 h
       refine zG [] [] (hc_linealref05_Valid (b2.1, b2.2.1) hv111) [(3, .int .u8 label), (4, .int .u8 step), (5, .bp 5 0), (6, .bp 6 0), (7, .bp 7 0), (48, .agg [.int .i64 a.1, .sl Y0 a.2, .int .i64 b.1, .sl Y0 b.2, .int .i64 c.1, .sl Y0 c.2]), (49, .int .i64 b2.2.2), (54, .bool false), (56, .bool v0_3)] [(5, .box 24 [.int .i64 a.1, .sl Y0 a.2]), (6, .box 24 [.int .i64 b.1, .sl Y0 b.2]), (7, .box 24 [.int .i64 c.1, .sl Y0 c.2])] ?_
       refine zB [(3, .int .u8 label), (4, .int .u8 step), (5, .bp 5 0), (6, .bp 6 0), (7, .bp 7 0), (48, .agg [.int .i64 a.1, .sl Y0 a.2, .int .i64 b.1, .sl Y0 b.2, .int .i64 c.1, .sl Y0 c.2]), (49, .int .i64 b2.2.2), (58, .bool (!v0_3))] [(5, .box 24 [.int .i64 a.1, .sl Y0 a.2]), (6, .box 24 [.int .i64 b.1, .sl Y0 b.2]), (7, .box 24 [.int .i64 c.1, .sl Y0 c.2])] ?_
       refine zQ h (fun hb112 h => ?_) (fun hb112 h => ?_)
       ·refine zo ?_
        obtain ⟨v0_4, hv113, h⟩ := Option.bind_eq_some_iff.1 h
        refine zC [] [] (hc_lineallaw05_Awake hv113) [(59, .bool v0_4)] [] ?_
        refine zB [(10, .bool v0_4)] [] ?_
        refine AW.ret ?_
        refine ablock_r ?_
        refine athen_r ?_
        obtain rfl := Option.some.inj h
        rw [← hd103 _ rfl] at ho102
        have h := ho102
        try simp only at h
        refine athen_r ?_
        refine ablock_r ?_
        refine athen_r ?_
        obtain rfl := Option.some.inj h
        exact zR [] [] []
       ·refine zm ?_
        refine athen_n ?_
        refine AW.ops ?_
        obtain ⟨c114, h⟩ := ck_some.1 h
        refine zA [(3, .int .u8 label), (4, .int .u8 step), (5, .bp 5 0), (6, .bp 6 0), (7, .bp 7 0), (48, .agg [.int .i64 a.1, .sl Y0 a.2, .int .i64 b.1, .sl Y0 b.2, .int .i64 c.1, .sl Y0 c.2]), (49, .int .i64 (b2.2.2 + 1))] [(5, .box 24 [.int .i64 a.1, .sl Y0 a.2]), (6, .box 24 [.int .i64 b.1, .sl Y0 b.2]), (7, .box 24 [.int .i64 c.1, .sl Y0 c.2])] ?_
        obtain rfl := Option.some.inj h
        exact ⟨_, rfl, zL [] [] []⟩
    ·refine zo ?_
     obtain ⟨c115, h⟩ := ck_some.1 h
     obtain ⟨c116, h⟩ := ck_some.1 h
     refine zS 0 [(3, .int .u8 label), (4, .int .u8 step), (5, .bp 5 0), (6, .bp 6 0), (7, .bp 7 0), (48, .agg [.int .i64 a.1, .sl Y0 a.2, .int .i64 b.1, .sl Y0 b.2, .int .i64 c.1, .sl Y0 c.2]), (49, .int .i64 st1)] [(5, .box 24 [.int .i64 a.1, .sl Y0 a.2]), (6, .box 24 [.int .i64 b.1, .sl Y0 b.2]), (7, .box 24 [.int .i64 c.1, .sl Y0 c.2])] ?_
     rcases Bool.eq_false_or_eq_true (decide (st1 = 0)) with hb117 | hb117
     ·rw [if_pos hb117] at h
      have hz118 : st1 = 0 := by simpa using hb117
      refine zT [(3, .int .u8 label), (4, .int .u8 step), (5, .bp 5 0), (6, .bp 6 0), (7, .bp 7 0), (48, .agg [.int .i64 a.1, .sl Y0 a.2, .int .i64 b.1, .sl Y0 b.2, .int .i64 c.1, .sl Y0 c.2]), (49, .int .i64 0)] [(5, .box 24 [.int .i64 a.1, .sl Y0 a.2]), (6, .box 24 [.int .i64 b.1, .sl Y0 b.2]), (7, .box 24 [.int .i64 c.1, .sl Y0 c.2])] gt ?_
      refine AO.idxA tab_ok (by decide) rfl rfl tab_63 rfl tab_24 rfl rfl (by first | assumption | omega | (simp only [go_sem, hb106, hb117, hz118]) <;> (with_reducible and_intros) <;> first | assumption | rfl | omega | (unfold maxLen; omega)) (by first | assumption | omega | (simp only [go_sem, hb106, hb117, hz118]) <;> (with_reducible and_intros) <;> first | assumption | rfl | omega | (unfold maxLen; omega)) (by first | assumption | omega | (simp only [go_sem, hb106, hb117, hz118]) <;> (with_reducible and_intros) <;> first | assumption | rfl | omega | (unfold maxLen; omega)) (.inl rfl) (v := .agg [.int .i64 a.1, .sl Y0 a.2]) (by first | assumption | omega | (simp only [go_sem, hb106, hb117, hz118]) <;> (with_reducible and_intros) <;> first | assumption | rfl | omega | (unfold maxLen; omega)) ?_
      refine zT [(3, .int .u8 label), (4, .int .u8 step), (5, .bp 5 0), (6, .bp 6 0), (7, .bp 7 0), (48, .agg [.int .i64 a.1, .sl Y0 a.2, .int .i64 b.1, .sl Y0 b.2, .int .i64 c.1, .sl Y0 c.2]), (49, .int .i64 0), (51, .agg [.int .i64 a.1, .sl Y0 a.2])] [(5, .box 24 [.int .i64 a.1, .sl Y0 a.2]), (6, .box 24 [.int .i64 b.1, .sl Y0 b.2]), (7, .box 24 [.int .i64 c.1, .sl Y0 c.2])] gt ?_
      refine zB [(3, .int .u8 label), (4, .int .u8 step), (5, .bp 5 0), (6, .bp 6 0), (7, .bp 7 0), (12, .bp 12 0), (48, .agg [.int .i64 a.1, .sl Y0 a.2, .int .i64 b.1, .sl Y0 b.2, .int .i64 c.1, .sl Y0 c.2]), (49, .int .i64 0)] [(5, .box 24 [.int .i64 a.1, .sl Y0 a.2]), (6, .box 24 [.int .i64 b.1, .sl Y0 b.2]), (7, .box 24 [.int .i64 c.1, .sl Y0 c.2]), (12, .box 24 [.int .i64 a.1, .sl Y0 a.2])] ?_
      exact AW.weaken (zL [] [] []) (hk_linealtop_TopRefine_k2 _ h)
     ·rw [if_neg (Bool.eq_false_iff.1 hb117)] at h
      refine zT [(3, .int .u8 label), (4, .int .u8 step), (5, .bp 5 0), (6, .bp 6 0), (7, .bp 7 0), (48, .agg [.int .i64 a.1, .sl Y0 a.2, .int .i64 b.1, .sl Y0 b.2, .int .i64 c.1, .sl Y0 c.2]), (49, .int .i64 st1)] [(5, .box 24 [.int .i64 a.1, .sl Y0 a.2]), (6, .box 24 [.int .i64 b.1, .sl Y0 b.2]), (7, .box 24 [.int .i64 c.1, .sl Y0 c.2])] gt ?_
      rcases Bool.eq_false_or_eq_true (decide (st1 = 1)) with hb119 | hb119
      ·rw [if_pos hb119] at h
       have hz120 : st1 = 1 := by simpa using hb119
       refine zT [(3, .int .u8 label), (4, .int .u8 step), (5, .bp 5 0), (6, .bp 6 0), (7, .bp 7 0), (48, .agg [.int .i64 a.1, .sl Y0 a.2, .int .i64 b.1, .sl Y0 b.2, .int .i64 c.1, .sl Y0 c.2]), (49, .int .i64 1)] [(5, .box 24 [.int .i64 a.1, .sl Y0 a.2]), (6, .box 24 [.int .i64 b.1, .sl Y0 b.2]), (7, .box 24 [.int .i64 c.1, .sl Y0 c.2])] gt ?_
       refine AO.idxA tab_ok (by decide) rfl rfl tab_63 rfl tab_24 rfl rfl (by first | assumption | omega | (simp only [go_sem, hb106, hb117, hb119, hz120]) <;> (with_reducible and_intros) <;> first | assumption | rfl | omega | (unfold maxLen; omega)) (by first | assumption | omega | (simp only [go_sem, hb106, hb117, hb119, hz120]) <;> (with_reducible and_intros) <;> first | assumption | rfl | omega | (unfold maxLen; omega)) (by first | assumption | omega | (simp only [go_sem, hb106, hb117, hb119, hz120]) <;> (with_reducible and_intros) <;> first | assumption | rfl | omega | (unfold maxLen; omega)) (.inl rfl) (v := .agg [.int .i64 b.1, .sl Y0 b.2]) (by first | assumption | omega | (simp only [go_sem, hb106, hb117, hb119, hz120]) <;> (with_reducible and_intros) <;> first | assumption | rfl | omega | (unfold maxLen; omega)) ?_
       refine zT [(3, .int .u8 label), (4, .int .u8 step), (5, .bp 5 0), (6, .bp 6 0), (7, .bp 7 0), (48, .agg [.int .i64 a.1, .sl Y0 a.2, .int .i64 b.1, .sl Y0 b.2, .int .i64 c.1, .sl Y0 c.2]), (49, .int .i64 1), (51, .agg [.int .i64 b.1, .sl Y0 b.2])] [(5, .box 24 [.int .i64 a.1, .sl Y0 a.2]), (6, .box 24 [.int .i64 b.1, .sl Y0 b.2]), (7, .box 24 [.int .i64 c.1, .sl Y0 c.2])] gt ?_
       refine zB [(3, .int .u8 label), (4, .int .u8 step), (5, .bp 5 0), (6, .bp 6 0), (7, .bp 7 0), (12, .bp 12 0), (48, .agg [.int .i64 a.1, .sl Y0 a.2, .int .i64 b.1, .sl Y0 b.2, .int .i64 c.1, .sl Y0 c.2]), (49, .int .i64 1)] [(5, .box 24 [.int .i64 a.1, .sl Y0 a.2]), (6, .box 24 [.int .i64 b.1, .sl Y0 b.2]), (7, .box 24 [.int .i64 c.1, .sl Y0 c.2]), (12, .box 24 [.int .i64 b.1, .sl Y0 b.2])] ?_
       exact AW.weaken (zL [] [] []) (hk_linealtop_TopRefine_k2 _ h)
      ·rw [if_neg (Bool.eq_false_iff.1 hb119)] at h
       have hz120 : st1 = 2 := by have := of_decide_eq_false hb117; have := of_decide_eq_false hb119; omega
       refine zT [(3, .int .u8 label), (4, .int .u8 step), (5, .bp 5 0), (6, .bp 6 0), (7, .bp 7 0), (48, .agg [.int .i64 a.1, .sl Y0 a.2, .int .i64 b.1, .sl Y0 b.2, .int .i64 c.1, .sl Y0 c.2]), (49, .int .i64 2)] [(5, .box 24 [.int .i64 a.1, .sl Y0 a.2]), (6, .box 24 [.int .i64 b.1, .sl Y0 b.2]), (7, .box 24 [.int .i64 c.1, .sl Y0 c.2])] gt ?_
       refine AO.idxA tab_ok (by decide) rfl rfl tab_63 rfl tab_24 rfl rfl (by first | assumption | omega | (simp only [go_sem, hb106, hb117, hb119, hz120]) <;> (with_reducible and_intros) <;> first | assumption | rfl | omega | (unfold maxLen; omega)) (by first | assumption | omega | (simp only [go_sem, hb106, hb117, hb119, hz120]) <;> (with_reducible and_intros) <;> first | assumption | rfl | omega | (unfold maxLen; omega)) (by first | assumption | omega | (simp only [go_sem, hb106, hb117, hb119, hz120]) <;> (with_reducible and_intros) <;> first | assumption | rfl | omega | (unfold maxLen; omega)) (.inl rfl) (v := .agg [.int .i64 c.1, .sl Y0 c.2]) (by first | assumption | omega | (simp only [go_sem, hb106, hb117, hb119, hz120]) <;> (with_reducible and_intros) <;> first | assumption | rfl | omega | (unfold maxLen; omega)) ?_
       refine zT [(3, .int .u8 label), (4, .int .u8 step), (5, .bp 5 0), (6, .bp 6 0), (7, .bp 7 0), (48, .agg [.int .i64 a.1, .sl Y0 a.2, .int .i64 b.1, .sl Y0 b.2, .int .i64 c.1, .sl Y0 c.2]), (49, .int .i64 2), (51, .agg [.int .i64 c.1, .sl Y0 c.2])] [(5, .box 24 [.int .i64 a.1, .sl Y0 a.2]), (6, .box 24 [.int .i64 b.1, .sl Y0 b.2]), (7, .box 24 [.int .i64 c.1, .sl Y0 c.2])] gt ?_
       refine zB [(3, .int .u8 label), (4, .int .u8 step), (5, .bp 5 0), (6, .bp 6 0), (7, .bp 7 0), (12, .bp 12 0), (48, .agg [.int .i64 a.1, .sl Y0 a.2, .int .i64 b.1, .sl Y0 b.2, .int .i64 c.1, .sl Y0 c.2]), (49, .int .i64 2)] [(5, .box 24 [.int .i64 a.1, .sl Y0 a.2]), (6, .box 24 [.int .i64 b.1, .sl Y0 b.2]), (7, .box 24 [.int .i64 c.1, .sl Y0 c.2]), (12, .box 24 [.int .i64 c.1, .sl Y0 c.2])] ?_
       exact AW.weaken (zL [] [] []) (hk_linealtop_TopRefine_k2 _ h)
   ·refine AW.exit ?_
    refine athen_e ?_
    obtain rfl := Option.some.inj h
    rw [← hd103 _ rfl] at ho102
    have h := ho102
    try simp only at h
    refine athen_e ?_
    refine ablock_s ?_
    refine athen_n ?_
    exact AW.weaken (zL [] [] []) (hk_linealtop_TopRefine_k1 () h)

end Go.Proofs.Ytifleoceebaooaa
