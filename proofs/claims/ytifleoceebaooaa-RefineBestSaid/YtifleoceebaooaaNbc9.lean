/-
  Made by wip/tool/dc.py out of the print of the program: contracts.
-/
import Derived.Test.YtifleoceebaooaaRfp
import Derived.Test.YtifleoceebaooaaShr
import Derived.Test.YtifleoceebaooaaNbc4
import Derived.Test.YtifleoceebaooaaNbc6
import Derived.Test.YtifleoceebaooaaNbc7
import Derived.Test.YtifleoceebaooaaNbc8
namespace Go.Proofs.Ytifleoceebaooaa
open Go.RowKit

set_option linter.unusedSimpArgs false
set_option linter.unusedVariables false
set_option linter.constructorNameAsVariable false

set_option maxRecDepth 100000
set_option maxHeartbeats 2000000

theorem hc_lineallaw05_RefineBest (c : Int × (List (Int × Int × Int))) (a : Int × (List (Int × Int × Int))) (r0 : List (Int × Int)) {r : Bool} (h : lineallaw05_RefineBest c a r0 = some r) : HC Try.prog 9 [] [.agg [.int .i64 c.1, .sl (.pair (.int .i64) (.pair (.int .i64) (.int .i64))) c.2], .agg [.int .i64 a.1, .sl (.pair (.int .i64) (.pair (.int .i64) (.int .i64))) a.2], .sl (.pair (.int .i64) (.int .i64)) r0] [] (.bool r) := by
 unfold lineallaw05_RefineBest at h
 refine zH Try.func9 [.tmp 6] 165 ?_
 refine zo ?_
 refine zB [(2, .sl (.pair (.int .i64) (.int .i64)) r0), (3, .bp 3 0), (4, .bp 4 0)] [(3, .box 24 [.int .i64 c.1, .sl (.pair (.int .i64) (.pair (.int .i64) (.int .i64))) c.2]), (4, .box 24 [.int .i64 a.1, .sl (.pair (.int .i64) (.pair (.int .i64) (.int .i64))) a.2])] ?_
 refine AW.seq ?_
 refine zo ?_
 refine zS 3 [(2, .sl (.pair (.int .i64) (.int .i64)) r0), (3, .bp 3 0), (4, .bp 4 0), (19, .own 19)] [(3, .box 24 [.int .i64 c.1, .sl (.pair (.int .i64) (.pair (.int .i64) (.int .i64))) c.2]), (4, .box 24 [.int .i64 a.1, .sl (.pair (.int .i64) (.pair (.int .i64) (.int .i64))) a.2]), (19, .arr 24 (.pair (.int .i64) (.sl (.pair (.int .i64) (.pair (.int .i64) (.int .i64))))) [c, a])] ?_
 obtain ⟨v0, hv1, h⟩ := Option.bind_eq_some_iff.1 h
 refine zC [19] [] (hc_lineallaw05_valid [c, a] hv1) [(2, .sl (.pair (.int .i64) (.int .i64)) r0), (3, .bp 3 0), (4, .bp 4 0), (20, .bool v0)] [(3, .box 24 [.int .i64 c.1, .sl (.pair (.int .i64) (.pair (.int .i64) (.int .i64))) c.2]), (4, .box 24 [.int .i64 a.1, .sl (.pair (.int .i64) (.pair (.int .i64) (.int .i64))) a.2])] ?_
 refine zS 2 [(2, .sl (.pair (.int .i64) (.int .i64)) r0), (3, .bp 3 0), (4, .bp 4 0), (22, .bool (!v0))] [(3, .box 24 [.int .i64 c.1, .sl (.pair (.int .i64) (.pair (.int .i64) (.int .i64))) c.2]), (4, .box 24 [.int .i64 a.1, .sl (.pair (.int .i64) (.pair (.int .i64) (.int .i64))) a.2])] ?_
 rcases zI h with ⟨hb2, h⟩ | ⟨hb2, h⟩
 ·refine zB [(2, .sl (.pair (.int .i64) (.int .i64)) r0), (3, .bp 3 0), (4, .bp 4 0), (26, .bool true)] [(3, .box 24 [.int .i64 c.1, .sl (.pair (.int .i64) (.pair (.int .i64) (.int .i64))) c.2]), (4, .box 24 [.int .i64 a.1, .sl (.pair (.int .i64) (.pair (.int .i64) (.int .i64))) a.2])] ?_
  refine AW.cond (b := true) rfl (fun _ => ?_) (fun hb3 => by cases hb3)
  refine zo ?_
  obtain ⟨v0_2, hv4, h⟩ := Option.bind_eq_some_iff.1 h
  refine zC [] [] (hc_lineallaw05_Awake hv4) [(27, .bool v0_2)] [] ?_
  refine zB [(6, .bool v0_2)] [] ?_
  refine zr ?_
  obtain rfl := Option.some.inj h
  exact zR [] [] []
 ·refine zB [(2, .sl (.pair (.int .i64) (.int .i64)) r0), (3, .bp 3 0), (4, .bp 4 0), (26, .bool (decide (100 < (r0.length : Int))))] [(3, .box 24 [.int .i64 c.1, .sl (.pair (.int .i64) (.pair (.int .i64) (.int .i64))) c.2]), (4, .box 24 [.int .i64 a.1, .sl (.pair (.int .i64) (.pair (.int .i64) (.int .i64))) a.2])] ?_
  refine zQ h (fun hb5 h => ?_) (fun hb5 h => ?_)
  ·refine zo ?_
   obtain ⟨v0_3, hv6, h⟩ := Option.bind_eq_some_iff.1 h
   refine zC [] [] (hc_lineallaw05_Awake hv6) [(27, .bool v0_3)] [] ?_
   refine zB [(6, .bool v0_3)] [] ?_
   refine zr ?_
   obtain rfl := Option.some.inj h
   exact zR [] [] []
  ·refine zk ?_
   refine zo ?_
   refine zS 2 [(2, .sl (.pair (.int .i64) (.int .i64)) r0), (3, .bp 3 0), (4, .bp 4 0), (29, .agg [.int .i64 c.1, .sl (.pair (.int .i64) (.pair (.int .i64) (.int .i64))) c.2]), (30, .agg [.int .i64 a.1, .sl (.pair (.int .i64) (.pair (.int .i64) (.int .i64))) a.2])] [(3, .box 24 [.int .i64 c.1, .sl (.pair (.int .i64) (.pair (.int .i64) (.int .i64))) c.2]), (4, .box 24 [.int .i64 a.1, .sl (.pair (.int .i64) (.pair (.int .i64) (.int .i64))) a.2])] ?_
   obtain ⟨v0_4, hv7, h⟩ := Option.bind_eq_some_iff.1 h
   refine zC [] [] (hc_refine_Best c a hv7) [(2, .sl (.pair (.int .i64) (.int .i64)) r0), (3, .bp 3 0), (4, .bp 4 0), (31, .tup [.own 41000, .int .i64 v0_4.2])] [(3, .box 24 [.int .i64 c.1, .sl (.pair (.int .i64) (.pair (.int .i64) (.int .i64))) c.2]), (4, .box 24 [.int .i64 a.1, .sl (.pair (.int .i64) (.pair (.int .i64) (.int .i64))) a.2]), (41000, .arr 58 (.pair (.int .i64) (.int .i64)) v0_4.1)] ?_
   refine zB [(2, .sl (.pair (.int .i64) (.int .i64)) r0), (3, .bp 3 0), (4, .bp 4 0), (7, .own 41000), (8, .int .i64 v0_4.2)] [(3, .box 24 [.int .i64 c.1, .sl (.pair (.int .i64) (.pair (.int .i64) (.int .i64))) c.2]), (4, .box 24 [.int .i64 a.1, .sl (.pair (.int .i64) (.pair (.int .i64) (.int .i64))) a.2]), (41000, .arr 58 (.pair (.int .i64) (.int .i64)) v0_4.1)] ?_
   refine zo ?_
   refine zS 3 [(2, .sl (.pair (.int .i64) (.int .i64)) r0), (3, .bp 3 0), (4, .bp 4 0), (7, .own 41000), (8, .int .i64 v0_4.2), (35, .agg [.int .i64 c.1, .sl (.pair (.int .i64) (.pair (.int .i64) (.int .i64))) c.2]), (36, .agg [.int .i64 a.1, .sl (.pair (.int .i64) (.pair (.int .i64) (.int .i64))) a.2]), (37, .own 41000)] [(3, .box 24 [.int .i64 c.1, .sl (.pair (.int .i64) (.pair (.int .i64) (.int .i64))) c.2]), (4, .box 24 [.int .i64 a.1, .sl (.pair (.int .i64) (.pair (.int .i64) (.int .i64))) a.2]), (41000, .arr 58 (.pair (.int .i64) (.int .i64)) v0_4.1)] ?_
   obtain ⟨v0_5, hv8, h⟩ := Option.bind_eq_some_iff.1 h
   refine zC [41000] [] (hc_refine_IsProof c a v0_4.1 hv8) [(2, .sl (.pair (.int .i64) (.int .i64)) r0), (3, .bp 3 0), (4, .bp 4 0), (7, .own 41000), (8, .int .i64 v0_4.2), (38, .tup [.bool v0_5.1, .int .i64 v0_5.2])] [(3, .box 24 [.int .i64 c.1, .sl (.pair (.int .i64) (.pair (.int .i64) (.int .i64))) c.2]), (4, .box 24 [.int .i64 a.1, .sl (.pair (.int .i64) (.pair (.int .i64) (.int .i64))) a.2]), (41000, .arr 58 (.pair (.int .i64) (.int .i64)) v0_4.1)] ?_
   refine zB [(2, .sl (.pair (.int .i64) (.int .i64)) r0), (3, .bp 3 0), (4, .bp 4 0), (7, .own 41000), (8, .int .i64 v0_4.2), (9, .bool v0_5.1), (10, .int .i64 v0_5.2)] [(3, .box 24 [.int .i64 c.1, .sl (.pair (.int .i64) (.pair (.int .i64) (.int .i64))) c.2]), (4, .box 24 [.int .i64 a.1, .sl (.pair (.int .i64) (.pair (.int .i64) (.int .i64))) a.2]), (41000, .arr 58 (.pair (.int .i64) (.int .i64)) v0_4.1)] ?_
   refine zo ?_
   refine zS 2 [(2, .sl (.pair (.int .i64) (.int .i64)) r0), (3, .bp 3 0), (4, .bp 4 0), (7, .own 41000), (8, .int .i64 v0_4.2), (9, .bool v0_5.1), (10, .int .i64 v0_5.2), (42, .agg [.int .i64 c.1, .sl (.pair (.int .i64) (.pair (.int .i64) (.int .i64))) c.2]), (43, .agg [.int .i64 a.1, .sl (.pair (.int .i64) (.pair (.int .i64) (.int .i64))) a.2])] [(3, .box 24 [.int .i64 c.1, .sl (.pair (.int .i64) (.pair (.int .i64) (.int .i64))) c.2]), (4, .box 24 [.int .i64 a.1, .sl (.pair (.int .i64) (.pair (.int .i64) (.int .i64))) a.2]), (41000, .arr 58 (.pair (.int .i64) (.int .i64)) v0_4.1)] ?_
   obtain ⟨v0_6, hv9, h⟩ := Option.bind_eq_some_iff.1 h
   refine zC [] [] (hc_refine_Refines c a hv9) [(2, .sl (.pair (.int .i64) (.int .i64)) r0), (3, .bp 3 0), (4, .bp 4 0), (7, .own 41000), (8, .int .i64 v0_4.2), (9, .bool v0_5.1), (10, .int .i64 v0_5.2), (44, .tup [.bool v0_6.1, .int .i64 v0_6.2])] [(3, .box 24 [.int .i64 c.1, .sl (.pair (.int .i64) (.pair (.int .i64) (.int .i64))) c.2]), (4, .box 24 [.int .i64 a.1, .sl (.pair (.int .i64) (.pair (.int .i64) (.int .i64))) a.2]), (41000, .arr 58 (.pair (.int .i64) (.int .i64)) v0_4.1)] ?_
   refine zB [(2, .sl (.pair (.int .i64) (.int .i64)) r0), (3, .bp 3 0), (4, .bp 4 0), (7, .own 41000), (8, .int .i64 v0_4.2), (9, .bool v0_5.1), (10, .int .i64 v0_5.2), (11, .bool v0_6.1), (12, .int .i64 v0_6.2)] [(3, .box 24 [.int .i64 c.1, .sl (.pair (.int .i64) (.pair (.int .i64) (.int .i64))) c.2]), (4, .box 24 [.int .i64 a.1, .sl (.pair (.int .i64) (.pair (.int .i64) (.int .i64))) a.2]), (41000, .arr 58 (.pair (.int .i64) (.int .i64)) v0_4.1)] ?_
   refine zo ?_
   refine zS 2 [(2, .sl (.pair (.int .i64) (.int .i64)) r0), (3, .bp 3 0), (4, .bp 4 0), (7, .own 41000), (8, .int .i64 v0_4.2), (9, .bool v0_5.1), (10, .int .i64 v0_5.2), (11, .bool v0_6.1), (12, .int .i64 v0_6.2), (48, .agg [.int .i64 c.1, .sl (.pair (.int .i64) (.pair (.int .i64) (.int .i64))) c.2]), (49, .agg [.int .i64 a.1, .sl (.pair (.int .i64) (.pair (.int .i64) (.int .i64))) a.2])] [(3, .box 24 [.int .i64 c.1, .sl (.pair (.int .i64) (.pair (.int .i64) (.int .i64))) c.2]), (4, .box 24 [.int .i64 a.1, .sl (.pair (.int .i64) (.pair (.int .i64) (.int .i64))) a.2]), (41000, .arr 58 (.pair (.int .i64) (.int .i64)) v0_4.1)] ?_
   obtain ⟨v0_7, hv10, h⟩ := Option.bind_eq_some_iff.1 h
   refine zC [] [] (hc_refine_Proof c a hv10) [(2, .sl (.pair (.int .i64) (.int .i64)) r0), (3, .bp 3 0), (4, .bp 4 0), (7, .own 41000), (8, .int .i64 v0_4.2), (9, .bool v0_5.1), (10, .int .i64 v0_5.2), (11, .bool v0_6.1), (12, .int .i64 v0_6.2), (50, .tup [.own 60000, .int .i64 v0_7.2])] [(3, .box 24 [.int .i64 c.1, .sl (.pair (.int .i64) (.pair (.int .i64) (.int .i64))) c.2]), (4, .box 24 [.int .i64 a.1, .sl (.pair (.int .i64) (.pair (.int .i64) (.int .i64))) a.2]), (41000, .arr 58 (.pair (.int .i64) (.int .i64)) v0_4.1), (60000, .arr 58 (.pair (.int .i64) (.int .i64)) v0_7.1)] ?_
   refine zB [(2, .sl (.pair (.int .i64) (.int .i64)) r0), (3, .bp 3 0), (4, .bp 4 0), (7, .own 41000), (8, .int .i64 v0_4.2), (9, .bool v0_5.1), (10, .int .i64 v0_5.2), (11, .bool v0_6.1), (12, .int .i64 v0_6.2), (13, .own 60000), (14, .int .i64 v0_7.2)] [(3, .box 24 [.int .i64 c.1, .sl (.pair (.int .i64) (.pair (.int .i64) (.int .i64))) c.2]), (4, .box 24 [.int .i64 a.1, .sl (.pair (.int .i64) (.pair (.int .i64) (.int .i64))) a.2]), (41000, .arr 58 (.pair (.int .i64) (.int .i64)) v0_4.1), (60000, .arr 58 (.pair (.int .i64) (.int .i64)) v0_7.1)] ?_
   refine zo ?_
   refine zS 2 [(2, .sl (.pair (.int .i64) (.int .i64)) r0), (3, .bp 3 0), (4, .bp 4 0), (7, .own 41000), (8, .int .i64 v0_4.2), (9, .bool v0_5.1), (10, .int .i64 v0_5.2), (11, .bool v0_6.1), (12, .int .i64 v0_6.2), (13, .own 60000), (14, .int .i64 v0_7.2), (54, .agg [.int .i64 a.1, .sl (.pair (.int .i64) (.pair (.int .i64) (.int .i64))) a.2]), (55, .agg [.int .i64 a.1, .sl (.pair (.int .i64) (.pair (.int .i64) (.int .i64))) a.2])] [(3, .box 24 [.int .i64 c.1, .sl (.pair (.int .i64) (.pair (.int .i64) (.int .i64))) c.2]), (4, .box 24 [.int .i64 a.1, .sl (.pair (.int .i64) (.pair (.int .i64) (.int .i64))) a.2]), (41000, .arr 58 (.pair (.int .i64) (.int .i64)) v0_4.1), (60000, .arr 58 (.pair (.int .i64) (.int .i64)) v0_7.1)] ?_
   obtain ⟨v0_8, hv11, h⟩ := Option.bind_eq_some_iff.1 h
   refine zC [] [] (hc_refine_Refines a a hv11) [(2, .sl (.pair (.int .i64) (.int .i64)) r0), (3, .bp 3 0), (4, .bp 4 0), (7, .own 41000), (8, .int .i64 v0_4.2), (9, .bool v0_5.1), (10, .int .i64 v0_5.2), (11, .bool v0_6.1), (12, .int .i64 v0_6.2), (13, .own 60000), (14, .int .i64 v0_7.2), (56, .tup [.bool v0_8.1, .int .i64 v0_8.2])] [(3, .box 24 [.int .i64 c.1, .sl (.pair (.int .i64) (.pair (.int .i64) (.int .i64))) c.2]), (4, .box 24 [.int .i64 a.1, .sl (.pair (.int .i64) (.pair (.int .i64) (.int .i64))) a.2]), (41000, .arr 58 (.pair (.int .i64) (.int .i64)) v0_4.1), (60000, .arr 58 (.pair (.int .i64) (.int .i64)) v0_7.1)] ?_
   refine zB [(2, .sl (.pair (.int .i64) (.int .i64)) r0), (3, .bp 3 0), (4, .bp 4 0), (7, .own 41000), (8, .int .i64 v0_4.2), (9, .bool v0_5.1), (10, .int .i64 v0_5.2), (11, .bool v0_6.1), (12, .int .i64 v0_6.2), (13, .own 60000), (14, .int .i64 v0_7.2), (15, .bool v0_8.1), (16, .int .i64 v0_8.2)] [(3, .box 24 [.int .i64 c.1, .sl (.pair (.int .i64) (.pair (.int .i64) (.int .i64))) c.2]), (4, .box 24 [.int .i64 a.1, .sl (.pair (.int .i64) (.pair (.int .i64) (.int .i64))) a.2]), (41000, .arr 58 (.pair (.int .i64) (.int .i64)) v0_4.1), (60000, .arr 58 (.pair (.int .i64) (.int .i64)) v0_7.1)] ?_
   refine AW.have1 (fun _ : Unit => lineallaw05_RefineBest_k1 c a r0 v0_4 v0_6 v0_7 = some r) (fun _ => ⟨fr [(2, .sl (.pair (.int .i64) (.int .i64)) r0), (3, .bp 3 0), (4, .bp 4 0), (7, .own 41000), (11, .bool v0_6.1), (13, .own 60000)], hpGet [(3, .box 24 [.int .i64 c.1, .sl (.pair (.int .i64) (.pair (.int .i64) (.int .i64))) c.2]), (4, .box 24 [.int .i64 a.1, .sl (.pair (.int .i64) (.pair (.int .i64) (.int .i64))) a.2]), (41000, .arr 58 (.pair (.int .i64) (.int .i64)) v0_4.1), (60000, .arr 58 (.pair (.int .i64) (.int .i64)) v0_7.1)], gt⟩) (fun _ h => ?_) (fun hk_lineallaw05_RefineBest_k1 => ?_)
   ·as_aux_lemma =>
     unfold lineallaw05_RefineBest_k1 at h
     refine zo ?_
     refine zS 3 [(2, .sl (.pair (.int .i64) (.int .i64)) r0), (3, .bp 3 0), (4, .bp 4 0), (7, .own 41000), (11, .bool v0_6.1), (13, .own 60000), (104, .agg [.int .i64 c.1, .sl (.pair (.int .i64) (.pair (.int .i64) (.int .i64))) c.2]), (105, .agg [.int .i64 a.1, .sl (.pair (.int .i64) (.pair (.int .i64) (.int .i64))) a.2]), (106, .sl (.pair (.int .i64) (.int .i64)) r0)] [(3, .box 24 [.int .i64 c.1, .sl (.pair (.int .i64) (.pair (.int .i64) (.int .i64))) c.2]), (4, .box 24 [.int .i64 a.1, .sl (.pair (.int .i64) (.pair (.int .i64) (.int .i64))) a.2]), (41000, .arr 58 (.pair (.int .i64) (.int .i64)) v0_4.1), (60000, .arr 58 (.pair (.int .i64) (.int .i64)) v0_7.1)] ?_
     obtain ⟨v0_10, hv12, h⟩ := Option.bind_eq_some_iff.1 h
     refine zC [] [] (hc_refine_IsProof c a r0 hv12) [(2, .sl (.pair (.int .i64) (.int .i64)) r0), (3, .bp 3 0), (4, .bp 4 0), (7, .own 41000), (11, .bool v0_6.1), (13, .own 60000), (107, .tup [.bool v0_10.1, .int .i64 v0_10.2])] [(3, .box 24 [.int .i64 c.1, .sl (.pair (.int .i64) (.pair (.int .i64) (.int .i64))) c.2]), (4, .box 24 [.int .i64 a.1, .sl (.pair (.int .i64) (.pair (.int .i64) (.int .i64))) a.2]), (41000, .arr 58 (.pair (.int .i64) (.int .i64)) v0_4.1), (60000, .arr 58 (.pair (.int .i64) (.int .i64)) v0_7.1)] ?_
     refine zB [(2, .sl (.pair (.int .i64) (.int .i64)) r0), (3, .bp 3 0), (4, .bp 4 0), (7, .own 41000), (8, .int .i64 v0_10.2), (9, .bool v0_10.1), (11, .bool v0_6.1), (13, .own 60000)] [(3, .box 24 [.int .i64 c.1, .sl (.pair (.int .i64) (.pair (.int .i64) (.int .i64))) c.2]), (4, .box 24 [.int .i64 a.1, .sl (.pair (.int .i64) (.pair (.int .i64) (.int .i64))) a.2]), (41000, .arr 58 (.pair (.int .i64) (.int .i64)) v0_4.1), (60000, .arr 58 (.pair (.int .i64) (.int .i64)) v0_7.1)] ?_
     refine AW.have1 (fun _ : Unit => lineallaw05_RefineBest_k2 c a v0_4 v0_6 v0_7 = some r) (fun _ => ⟨fr [(3, .bp 3 0), (4, .bp 4 0), (7, .own 41000), (11, .bool v0_6.1), (13, .own 60000)], hpGet [(3, .box 24 [.int .i64 c.1, .sl (.pair (.int .i64) (.pair (.int .i64) (.int .i64))) c.2]), (4, .box 24 [.int .i64 a.1, .sl (.pair (.int .i64) (.pair (.int .i64) (.int .i64))) a.2]), (41000, .arr 58 (.pair (.int .i64) (.int .i64)) v0_4.1), (60000, .arr 58 (.pair (.int .i64) (.int .i64)) v0_7.1)], gt⟩) (fun _ h => ?_) (fun hk_lineallaw05_RefineBest_k2 => ?_)
     ·as_aux_lemma =>
       unfold lineallaw05_RefineBest_k2 at h
       refine AW.seq ?_
       refine zo ?_
       refine zB [(3, .bp 3 0), (4, .bp 4 0), (7, .own 41000), (13, .own 60000), (132, .bool (!v0_6.1))] [(3, .box 24 [.int .i64 c.1, .sl (.pair (.int .i64) (.pair (.int .i64) (.int .i64))) c.2]), (4, .box 24 [.int .i64 a.1, .sl (.pair (.int .i64) (.pair (.int .i64) (.int .i64))) a.2]), (41000, .arr 58 (.pair (.int .i64) (.int .i64)) v0_4.1), (60000, .arr 58 (.pair (.int .i64) (.int .i64)) v0_7.1)] ?_
       refine zQ h (fun hb13 h => ?_) (fun hb13 h => ?_)
       ·refine zo ?_
        refine zS 4 [(136, .bool (decide ((v0_7.1.length : Int) = 0)))] [] ?_
        rcases zI h with ⟨hb14, h⟩ | ⟨hb14, h⟩
        ·refine zT [(136, .bool true)] [] gt ?_
         obtain ⟨v0_13, hv15, h⟩ := Option.bind_eq_some_iff.1 h
         refine zG [] [] (hc_lineallaw05_Awake hv15) [(136, .bool true), (137, .bool v0_13)] [] ?_
         refine zB [(6, .bool v0_13)] [] ?_
         refine zr ?_
         obtain rfl := Option.some.inj h
         exact zR [] [] []
        ·refine zB [(6, .bool false)] [] ?_
         refine zr ?_
         obtain rfl := Option.some.inj h
         exact zR [] [] []
       ·refine zk ?_
        refine zo ?_
        refine zS 3 [(7, .own 41000), (13, .own 60000), (140, .agg [.int .i64 c.1, .sl (.pair (.int .i64) (.pair (.int .i64) (.int .i64))) c.2]), (141, .agg [.int .i64 a.1, .sl (.pair (.int .i64) (.pair (.int .i64) (.int .i64))) a.2]), (142, .own 60000)] [(41000, .arr 58 (.pair (.int .i64) (.int .i64)) v0_4.1), (60000, .arr 58 (.pair (.int .i64) (.int .i64)) v0_7.1)] ?_
        obtain ⟨v0_14, hv16, h⟩ := Option.bind_eq_some_iff.1 h
        refine zC [60000] [] (hc_refine_IsProof c a v0_7.1 hv16) [(7, .own 41000), (13, .own 60000), (143, .tup [.bool v0_14.1, .int .i64 v0_14.2])] [(41000, .arr 58 (.pair (.int .i64) (.int .i64)) v0_4.1), (60000, .arr 58 (.pair (.int .i64) (.int .i64)) v0_7.1)] ?_
        refine zB [(7, .own 41000), (8, .int .i64 v0_14.2), (9, .bool v0_14.1), (13, .own 60000)] [(41000, .arr 58 (.pair (.int .i64) (.int .i64)) v0_4.1), (60000, .arr 58 (.pair (.int .i64) (.int .i64)) v0_7.1)] ?_
        refine zo ?_
        refine zS 3 [(7, .own 41000), (9, .bool v0_14.1), (13, .own 60000), (148, .bool (decide (v0_14.2 = 0)))] [(41000, .arr 58 (.pair (.int .i64) (.int .i64)) v0_4.1), (60000, .arr 58 (.pair (.int .i64) (.int .i64)) v0_7.1)] ?_
        rcases zI h with ⟨hb17, h⟩ | ⟨hb17, h⟩
        ·refine zS 3 [(7, .own 41000), (13, .own 60000), (151, .bool v0_14.1)] [(41000, .arr 58 (.pair (.int .i64) (.int .i64)) v0_4.1), (60000, .arr 58 (.pair (.int .i64) (.int .i64)) v0_7.1)] ?_
         rcases zI h with ⟨hb18, h⟩ | ⟨hb18, h⟩
         ·refine zS 2 [(13, .own 60000), (151, .bool true), (152, .own 41000), (153, .own 60000)] [(41000, .arr 58 (.pair (.int .i64) (.int .i64)) v0_4.1), (60000, .arr 58 (.pair (.int .i64) (.int .i64)) v0_7.1)] ?_
          obtain ⟨v0_15, hv19, h⟩ := Option.bind_eq_some_iff.1 h
          refine zG [41000, 60000] [] (hc_lineallaw05_has v0_4.1 v0_7.1 hv19) [(13, .own 60000), (151, .bool true), (154, .bool v0_15)] [(60000, .arr 58 (.pair (.int .i64) (.int .i64)) v0_7.1)] ?_
          refine zS 2 [(13, .own 60000), (156, .bool v0_15)] [(60000, .arr 58 (.pair (.int .i64) (.int .i64)) v0_7.1)] ?_
          rcases zI h with ⟨hb20, h⟩ | ⟨hb20, h⟩
          ·refine zS 3 [(156, .bool true), (157, .own 60000), (159, .own 159)] [(159, .arr 58 (.pair (.int .i64) (.int .i64)) [(0, 0)]), (60000, .arr 58 (.pair (.int .i64) (.int .i64)) v0_7.1)] ?_
           obtain ⟨v0_16, hv21, h⟩ := Option.bind_eq_some_iff.1 h
           refine zG [159, 60000] [] (hc_lineallaw05_has v0_7.1 [(0, 0)] hv21) [(156, .bool true), (160, .bool v0_16)] [] ?_
           refine zS 2 [(162, .bool v0_16)] [] ?_
           rcases zI h with ⟨hb22, h⟩ | ⟨hb22, h⟩
           ·refine zT [(162, .bool true)] [] gt ?_
            obtain ⟨v0_17, hv23, h⟩ := Option.bind_eq_some_iff.1 h
            refine zG [] [] (hc_lineallaw05_Awake hv23) [(162, .bool true), (163, .bool v0_17)] [] ?_
            refine zB [(6, .bool v0_17)] [] ?_
            refine AW.ret ?_
            obtain rfl := Option.some.inj h
            exact zR [] [] []
           ·refine zB [(6, .bool false)] [] ?_
            refine AW.ret ?_
            obtain rfl := Option.some.inj h
            exact zR [] [] []
          ·refine zS 4 [(156, .bool false), (160, .cv (undef))] [] ?_
           refine zB [(6, .bool false)] [] ?_
           refine AW.ret ?_
           obtain rfl := Option.some.inj h
           exact zR [] [] []
         ·refine zS 5 [(13, .own 60000), (156, .bool false)] [(60000, .arr 58 (.pair (.int .i64) (.int .i64)) v0_7.1)] ?_
          refine zS 4 [(156, .bool false), (160, .cv (undef))] [] ?_
          refine zB [(6, .bool false)] [] ?_
          refine AW.ret ?_
          obtain rfl := Option.some.inj h
          exact zR [] [] []
        ·refine zS 5 [(13, .own 60000), (151, .bool false), (152, .cv (undef)), (153, .cv (undef))] [(60000, .arr 58 (.pair (.int .i64) (.int .i64)) v0_7.1)] ?_
         refine zS 5 [(156, .bool false), (157, .cv (undef)), (158, .cv (undef))] [] ?_
         refine zS 5 [(162, .bool false), (163, .cv (undef))] [] ?_
         refine zB [(6, .bool false)] [] ?_
         refine AW.ret ?_
         obtain rfl := Option.some.inj h
         exact zR [] [] []
     ·refine AW.seq ?_
      refine zo ?_
      refine zS 2 [(2, .sl (.pair (.int .i64) (.int .i64)) r0), (3, .bp 3 0), (4, .bp 4 0), (7, .own 41000), (8, .int .i64 v0_10.2), (11, .bool v0_6.1), (13, .own 60000), (111, .bool v0_10.1)] [(3, .box 24 [.int .i64 c.1, .sl (.pair (.int .i64) (.pair (.int .i64) (.int .i64))) c.2]), (4, .box 24 [.int .i64 a.1, .sl (.pair (.int .i64) (.pair (.int .i64) (.int .i64))) a.2]), (41000, .arr 58 (.pair (.int .i64) (.int .i64)) v0_4.1), (60000, .arr 58 (.pair (.int .i64) (.int .i64)) v0_7.1)] ?_
      rcases zI h with ⟨hb24, h⟩ | ⟨hb24, h⟩
      ·refine zS 3 [(2, .sl (.pair (.int .i64) (.int .i64)) r0), (3, .bp 3 0), (4, .bp 4 0), (7, .own 41000), (11, .bool v0_6.1), (13, .own 60000), (111, .bool true), (114, .bool (!(decide (v0_10.2 = 0))))] [(3, .box 24 [.int .i64 c.1, .sl (.pair (.int .i64) (.pair (.int .i64) (.int .i64))) c.2]), (4, .box 24 [.int .i64 a.1, .sl (.pair (.int .i64) (.pair (.int .i64) (.int .i64))) a.2]), (41000, .arr 58 (.pair (.int .i64) (.int .i64)) v0_4.1), (60000, .arr 58 (.pair (.int .i64) (.int .i64)) v0_7.1)] ?_
       rcases zI h with ⟨hb25, h⟩ | ⟨hb25, h⟩
       ·refine zS 4 [(2, .sl (.pair (.int .i64) (.int .i64)) r0), (3, .bp 3 0), (4, .bp 4 0), (7, .own 41000), (11, .bool v0_6.1), (13, .own 60000), (111, .bool true), (114, .bool true), (118, .cv (undef))] [(3, .box 24 [.int .i64 c.1, .sl (.pair (.int .i64) (.pair (.int .i64) (.int .i64))) c.2]), (4, .box 24 [.int .i64 a.1, .sl (.pair (.int .i64) (.pair (.int .i64) (.int .i64))) a.2]), (41000, .arr 58 (.pair (.int .i64) (.int .i64)) v0_4.1), (60000, .arr 58 (.pair (.int .i64) (.int .i64)) v0_7.1)] ?_
        refine zS 5 [(2, .sl (.pair (.int .i64) (.int .i64)) r0), (3, .bp 3 0), (4, .bp 4 0), (7, .own 41000), (11, .bool v0_6.1), (13, .own 60000), (111, .bool true), (120, .bool true), (123, .cv (undef))] [(3, .box 24 [.int .i64 c.1, .sl (.pair (.int .i64) (.pair (.int .i64) (.int .i64))) c.2]), (4, .box 24 [.int .i64 a.1, .sl (.pair (.int .i64) (.pair (.int .i64) (.int .i64))) a.2]), (41000, .arr 58 (.pair (.int .i64) (.int .i64)) v0_4.1), (60000, .arr 58 (.pair (.int .i64) (.int .i64)) v0_7.1)] ?_
        refine zS 4 [(3, .bp 3 0), (4, .bp 4 0), (7, .own 41000), (11, .bool v0_6.1), (13, .own 60000), (111, .bool true), (120, .bool true), (123, .cv (undef)), (127, .cv (undef))] [(3, .box 24 [.int .i64 c.1, .sl (.pair (.int .i64) (.pair (.int .i64) (.int .i64))) c.2]), (4, .box 24 [.int .i64 a.1, .sl (.pair (.int .i64) (.pair (.int .i64) (.int .i64))) a.2]), (41000, .arr 58 (.pair (.int .i64) (.int .i64)) v0_4.1), (60000, .arr 58 (.pair (.int .i64) (.int .i64)) v0_7.1)] ?_
        refine zB [(3, .bp 3 0), (4, .bp 4 0), (7, .own 41000), (11, .bool v0_6.1), (13, .own 60000), (130, .bool true)] [(3, .box 24 [.int .i64 c.1, .sl (.pair (.int .i64) (.pair (.int .i64) (.int .i64))) c.2]), (4, .box 24 [.int .i64 a.1, .sl (.pair (.int .i64) (.pair (.int .i64) (.int .i64))) a.2]), (41000, .arr 58 (.pair (.int .i64) (.int .i64)) v0_4.1), (60000, .arr 58 (.pair (.int .i64) (.int .i64)) v0_7.1)] ?_
        refine AW.cond (b := true) rfl (fun _ => ?_) (fun hb26 => by cases hb26)
        refine zo ?_
        refine zB [(6, .bool false)] [] ?_
        refine zr ?_
        obtain rfl := Option.some.inj h
        exact zR [] [] []
       ·refine zS 2 [(2, .sl (.pair (.int .i64) (.int .i64)) r0), (3, .bp 3 0), (4, .bp 4 0), (7, .own 41000), (11, .bool v0_6.1), (13, .own 60000), (111, .bool true), (114, .bool false), (115, .own 41000), (116, .sl (.pair (.int .i64) (.int .i64)) r0)] [(3, .box 24 [.int .i64 c.1, .sl (.pair (.int .i64) (.pair (.int .i64) (.int .i64))) c.2]), (4, .box 24 [.int .i64 a.1, .sl (.pair (.int .i64) (.pair (.int .i64) (.int .i64))) a.2]), (41000, .arr 58 (.pair (.int .i64) (.int .i64)) v0_4.1), (60000, .arr 58 (.pair (.int .i64) (.int .i64)) v0_7.1)] ?_
        obtain ⟨v0_11, hv27, h⟩ := Option.bind_eq_some_iff.1 h
        refine zG [41000] [] (hc_lineallaw05_has v0_4.1 r0 hv27) [(2, .sl (.pair (.int .i64) (.int .i64)) r0), (3, .bp 3 0), (4, .bp 4 0), (7, .own 41000), (11, .bool v0_6.1), (13, .own 60000), (111, .bool true), (114, .bool false), (117, .bool v0_11)] [(3, .box 24 [.int .i64 c.1, .sl (.pair (.int .i64) (.pair (.int .i64) (.int .i64))) c.2]), (4, .box 24 [.int .i64 a.1, .sl (.pair (.int .i64) (.pair (.int .i64) (.int .i64))) a.2]), (41000, .arr 58 (.pair (.int .i64) (.int .i64)) v0_4.1), (60000, .arr 58 (.pair (.int .i64) (.int .i64)) v0_7.1)] ?_
        refine zS 3 [(2, .sl (.pair (.int .i64) (.int .i64)) r0), (3, .bp 3 0), (4, .bp 4 0), (7, .own 41000), (11, .bool v0_6.1), (13, .own 60000), (111, .bool true), (120, .bool (!v0_11))] [(3, .box 24 [.int .i64 c.1, .sl (.pair (.int .i64) (.pair (.int .i64) (.int .i64))) c.2]), (4, .box 24 [.int .i64 a.1, .sl (.pair (.int .i64) (.pair (.int .i64) (.int .i64))) a.2]), (41000, .arr 58 (.pair (.int .i64) (.int .i64)) v0_4.1), (60000, .arr 58 (.pair (.int .i64) (.int .i64)) v0_7.1)] ?_
        rcases zI h with ⟨hb28, h⟩ | ⟨hb28, h⟩
        ·refine zS 4 [(3, .bp 3 0), (4, .bp 4 0), (7, .own 41000), (11, .bool v0_6.1), (13, .own 60000), (111, .bool true), (120, .bool true), (123, .cv (undef)), (124, .cv (undef))] [(3, .box 24 [.int .i64 c.1, .sl (.pair (.int .i64) (.pair (.int .i64) (.int .i64))) c.2]), (4, .box 24 [.int .i64 a.1, .sl (.pair (.int .i64) (.pair (.int .i64) (.int .i64))) a.2]), (41000, .arr 58 (.pair (.int .i64) (.int .i64)) v0_4.1), (60000, .arr 58 (.pair (.int .i64) (.int .i64)) v0_7.1)] ?_
         refine zS 4 [(3, .bp 3 0), (4, .bp 4 0), (7, .own 41000), (11, .bool v0_6.1), (13, .own 60000), (111, .bool true), (120, .bool true), (128, .cv (undef))] [(3, .box 24 [.int .i64 c.1, .sl (.pair (.int .i64) (.pair (.int .i64) (.int .i64))) c.2]), (4, .box 24 [.int .i64 a.1, .sl (.pair (.int .i64) (.pair (.int .i64) (.int .i64))) a.2]), (41000, .arr 58 (.pair (.int .i64) (.int .i64)) v0_4.1), (60000, .arr 58 (.pair (.int .i64) (.int .i64)) v0_7.1)] ?_
         refine zB [(3, .bp 3 0), (4, .bp 4 0), (7, .own 41000), (11, .bool v0_6.1), (13, .own 60000), (130, .bool true)] [(3, .box 24 [.int .i64 c.1, .sl (.pair (.int .i64) (.pair (.int .i64) (.int .i64))) c.2]), (4, .box 24 [.int .i64 a.1, .sl (.pair (.int .i64) (.pair (.int .i64) (.int .i64))) a.2]), (41000, .arr 58 (.pair (.int .i64) (.int .i64)) v0_4.1), (60000, .arr 58 (.pair (.int .i64) (.int .i64)) v0_7.1)] ?_
         refine AW.cond (b := true) rfl (fun _ => ?_) (fun hb29 => by cases hb29)
         refine zo ?_
         refine zB [(6, .bool false)] [] ?_
         refine zr ?_
         obtain rfl := Option.some.inj h
         exact zR [] [] []
        ·refine zS 3 [(2, .sl (.pair (.int .i64) (.int .i64)) r0), (3, .bp 3 0), (4, .bp 4 0), (7, .own 41000), (11, .bool v0_6.1), (13, .own 60000), (111, .bool true), (120, .bool false), (123, .bool (!v0_6.1))] [(3, .box 24 [.int .i64 c.1, .sl (.pair (.int .i64) (.pair (.int .i64) (.int .i64))) c.2]), (4, .box 24 [.int .i64 a.1, .sl (.pair (.int .i64) (.pair (.int .i64) (.int .i64))) a.2]), (41000, .arr 58 (.pair (.int .i64) (.int .i64)) v0_4.1), (60000, .arr 58 (.pair (.int .i64) (.int .i64)) v0_7.1)] ?_
         rcases zI h with ⟨hb30, h⟩ | ⟨hb30, h⟩
         ·refine zS 3 [(3, .bp 3 0), (4, .bp 4 0), (7, .own 41000), (11, .bool v0_6.1), (13, .own 60000), (111, .bool true), (120, .bool false), (123, .bool true), (124, .sl (.pair (.int .i64) (.int .i64)) r0), (126, .own 126)] [(3, .box 24 [.int .i64 c.1, .sl (.pair (.int .i64) (.pair (.int .i64) (.int .i64))) c.2]), (4, .box 24 [.int .i64 a.1, .sl (.pair (.int .i64) (.pair (.int .i64) (.int .i64))) a.2]), (126, .arr 58 (.pair (.int .i64) (.int .i64)) [(0, 0)]), (41000, .arr 58 (.pair (.int .i64) (.int .i64)) v0_4.1), (60000, .arr 58 (.pair (.int .i64) (.int .i64)) v0_7.1)] ?_
          obtain ⟨v0_12, hv31, h⟩ := Option.bind_eq_some_iff.1 h
          refine zG [126] [] (hc_lineallaw05_has r0 [(0, 0)] hv31) [(3, .bp 3 0), (4, .bp 4 0), (7, .own 41000), (11, .bool v0_6.1), (13, .own 60000), (111, .bool true), (120, .bool false), (123, .bool true), (127, .bool v0_12)] [(3, .box 24 [.int .i64 c.1, .sl (.pair (.int .i64) (.pair (.int .i64) (.int .i64))) c.2]), (4, .box 24 [.int .i64 a.1, .sl (.pair (.int .i64) (.pair (.int .i64) (.int .i64))) a.2]), (41000, .arr 58 (.pair (.int .i64) (.int .i64)) v0_4.1), (60000, .arr 58 (.pair (.int .i64) (.int .i64)) v0_7.1)] ?_
          refine zB [(3, .bp 3 0), (4, .bp 4 0), (7, .own 41000), (11, .bool v0_6.1), (13, .own 60000), (130, .bool v0_12)] [(3, .box 24 [.int .i64 c.1, .sl (.pair (.int .i64) (.pair (.int .i64) (.int .i64))) c.2]), (4, .box 24 [.int .i64 a.1, .sl (.pair (.int .i64) (.pair (.int .i64) (.int .i64))) a.2]), (41000, .arr 58 (.pair (.int .i64) (.int .i64)) v0_4.1), (60000, .arr 58 (.pair (.int .i64) (.int .i64)) v0_7.1)] ?_
          refine zQ h (fun hb32 h => ?_) (fun hb32 h => ?_)
          ·refine zo ?_
           refine zB [(6, .bool false)] [] ?_
           refine zr ?_
           obtain rfl := Option.some.inj h
           exact zR [] [] []
          ·refine zk ?_
           exact AW.weaken (zL [] [] []) (hk_lineallaw05_RefineBest_k2 () h)
         ·refine zS 4 [(3, .bp 3 0), (4, .bp 4 0), (7, .own 41000), (11, .bool v0_6.1), (13, .own 60000), (111, .bool true), (120, .bool false), (123, .bool false), (127, .cv (undef))] [(3, .box 24 [.int .i64 c.1, .sl (.pair (.int .i64) (.pair (.int .i64) (.int .i64))) c.2]), (4, .box 24 [.int .i64 a.1, .sl (.pair (.int .i64) (.pair (.int .i64) (.int .i64))) a.2]), (41000, .arr 58 (.pair (.int .i64) (.int .i64)) v0_4.1), (60000, .arr 58 (.pair (.int .i64) (.int .i64)) v0_7.1)] ?_
          refine zB [(3, .bp 3 0), (4, .bp 4 0), (7, .own 41000), (11, .bool v0_6.1), (13, .own 60000), (130, .bool false)] [(3, .box 24 [.int .i64 c.1, .sl (.pair (.int .i64) (.pair (.int .i64) (.int .i64))) c.2]), (4, .box 24 [.int .i64 a.1, .sl (.pair (.int .i64) (.pair (.int .i64) (.int .i64))) a.2]), (41000, .arr 58 (.pair (.int .i64) (.int .i64)) v0_4.1), (60000, .arr 58 (.pair (.int .i64) (.int .i64)) v0_7.1)] ?_
          refine AW.cond (b := false) rfl (fun hb33 => by cases hb33) (fun _ => ?_)
          refine zk ?_
          exact AW.weaken (zL [] [] []) (hk_lineallaw05_RefineBest_k2 () h)
      ·refine zS 4 [(2, .sl (.pair (.int .i64) (.int .i64)) r0), (3, .bp 3 0), (4, .bp 4 0), (7, .own 41000), (11, .bool v0_6.1), (13, .own 60000), (111, .bool false), (114, .cv (undef)), (115, .cv (undef))] [(3, .box 24 [.int .i64 c.1, .sl (.pair (.int .i64) (.pair (.int .i64) (.int .i64))) c.2]), (4, .box 24 [.int .i64 a.1, .sl (.pair (.int .i64) (.pair (.int .i64) (.int .i64))) a.2]), (41000, .arr 58 (.pair (.int .i64) (.int .i64)) v0_4.1), (60000, .arr 58 (.pair (.int .i64) (.int .i64)) v0_7.1)] ?_
       refine zS 4 [(2, .sl (.pair (.int .i64) (.int .i64)) r0), (3, .bp 3 0), (4, .bp 4 0), (7, .own 41000), (11, .bool v0_6.1), (13, .own 60000), (111, .bool false), (119, .cv (undef))] [(3, .box 24 [.int .i64 c.1, .sl (.pair (.int .i64) (.pair (.int .i64) (.int .i64))) c.2]), (4, .box 24 [.int .i64 a.1, .sl (.pair (.int .i64) (.pair (.int .i64) (.int .i64))) a.2]), (41000, .arr 58 (.pair (.int .i64) (.int .i64)) v0_4.1), (60000, .arr 58 (.pair (.int .i64) (.int .i64)) v0_7.1)] ?_
       refine zS 4 [(2, .sl (.pair (.int .i64) (.int .i64)) r0), (3, .bp 3 0), (4, .bp 4 0), (7, .own 41000), (11, .bool v0_6.1), (13, .own 60000), (111, .bool false), (120, .cv (undef)), (123, .cv (undef))] [(3, .box 24 [.int .i64 c.1, .sl (.pair (.int .i64) (.pair (.int .i64) (.int .i64))) c.2]), (4, .box 24 [.int .i64 a.1, .sl (.pair (.int .i64) (.pair (.int .i64) (.int .i64))) a.2]), (41000, .arr 58 (.pair (.int .i64) (.int .i64)) v0_4.1), (60000, .arr 58 (.pair (.int .i64) (.int .i64)) v0_7.1)] ?_
       refine zS 4 [(3, .bp 3 0), (4, .bp 4 0), (7, .own 41000), (11, .bool v0_6.1), (13, .own 60000), (111, .bool false), (120, .cv (undef)), (123, .cv (undef)), (127, .cv (undef))] [(3, .box 24 [.int .i64 c.1, .sl (.pair (.int .i64) (.pair (.int .i64) (.int .i64))) c.2]), (4, .box 24 [.int .i64 a.1, .sl (.pair (.int .i64) (.pair (.int .i64) (.int .i64))) a.2]), (41000, .arr 58 (.pair (.int .i64) (.int .i64)) v0_4.1), (60000, .arr 58 (.pair (.int .i64) (.int .i64)) v0_7.1)] ?_
       refine zB [(3, .bp 3 0), (4, .bp 4 0), (7, .own 41000), (11, .bool v0_6.1), (13, .own 60000), (130, .bool false)] [(3, .box 24 [.int .i64 c.1, .sl (.pair (.int .i64) (.pair (.int .i64) (.int .i64))) c.2]), (4, .box 24 [.int .i64 a.1, .sl (.pair (.int .i64) (.pair (.int .i64) (.int .i64))) a.2]), (41000, .arr 58 (.pair (.int .i64) (.int .i64)) v0_4.1), (60000, .arr 58 (.pair (.int .i64) (.int .i64)) v0_7.1)] ?_
       refine AW.cond (b := false) rfl (fun hb34 => by cases hb34) (fun _ => ?_)
       refine zk ?_
       exact AW.weaken (zL [] [] []) (hk_lineallaw05_RefineBest_k2 () h)
   ·refine AW.seq ?_
    refine zo ?_
    refine zS 3 [(2, .sl (.pair (.int .i64) (.int .i64)) r0), (3, .bp 3 0), (4, .bp 4 0), (7, .own 41000), (9, .bool v0_5.1), (10, .int .i64 v0_5.2), (11, .bool v0_6.1), (12, .int .i64 v0_6.2), (13, .own 60000), (14, .int .i64 v0_7.2), (15, .bool v0_8.1), (16, .int .i64 v0_8.2), (61, .bool (!(decide (v0_4.2 = 0))))] [(3, .box 24 [.int .i64 c.1, .sl (.pair (.int .i64) (.pair (.int .i64) (.int .i64))) c.2]), (4, .box 24 [.int .i64 a.1, .sl (.pair (.int .i64) (.pair (.int .i64) (.int .i64))) a.2]), (41000, .arr 58 (.pair (.int .i64) (.int .i64)) v0_4.1), (60000, .arr 58 (.pair (.int .i64) (.int .i64)) v0_7.1)] ?_
    rcases zI h with ⟨hb35, h⟩ | ⟨hb35, h⟩
    ·refine zS 5 [(2, .sl (.pair (.int .i64) (.int .i64)) r0), (3, .bp 3 0), (4, .bp 4 0), (7, .own 41000), (9, .bool v0_5.1), (11, .bool v0_6.1), (13, .own 60000), (14, .int .i64 v0_7.2), (15, .bool v0_8.1), (16, .int .i64 v0_8.2), (65, .bool true), (66, .cv (undef))] [(3, .box 24 [.int .i64 c.1, .sl (.pair (.int .i64) (.pair (.int .i64) (.int .i64))) c.2]), (4, .box 24 [.int .i64 a.1, .sl (.pair (.int .i64) (.pair (.int .i64) (.int .i64))) a.2]), (41000, .arr 58 (.pair (.int .i64) (.int .i64)) v0_4.1), (60000, .arr 58 (.pair (.int .i64) (.int .i64)) v0_7.1)] ?_
     refine zS 5 [(2, .sl (.pair (.int .i64) (.int .i64)) r0), (3, .bp 3 0), (4, .bp 4 0), (7, .own 41000), (9, .bool v0_5.1), (11, .bool v0_6.1), (13, .own 60000), (14, .int .i64 v0_7.2), (15, .bool v0_8.1), (69, .bool true), (71, .cv (undef))] [(3, .box 24 [.int .i64 c.1, .sl (.pair (.int .i64) (.pair (.int .i64) (.int .i64))) c.2]), (4, .box 24 [.int .i64 a.1, .sl (.pair (.int .i64) (.pair (.int .i64) (.int .i64))) a.2]), (41000, .arr 58 (.pair (.int .i64) (.int .i64)) v0_4.1), (60000, .arr 58 (.pair (.int .i64) (.int .i64)) v0_7.1)] ?_
     refine zS 5 [(2, .sl (.pair (.int .i64) (.int .i64)) r0), (3, .bp 3 0), (4, .bp 4 0), (7, .own 41000), (11, .bool v0_6.1), (13, .own 60000), (14, .int .i64 v0_7.2), (15, .bool v0_8.1), (76, .bool true)] [(3, .box 24 [.int .i64 c.1, .sl (.pair (.int .i64) (.pair (.int .i64) (.int .i64))) c.2]), (4, .box 24 [.int .i64 a.1, .sl (.pair (.int .i64) (.pair (.int .i64) (.int .i64))) a.2]), (41000, .arr 58 (.pair (.int .i64) (.int .i64)) v0_4.1), (60000, .arr 58 (.pair (.int .i64) (.int .i64)) v0_7.1)] ?_
     refine zS 5 [(2, .sl (.pair (.int .i64) (.int .i64)) r0), (3, .bp 3 0), (4, .bp 4 0), (7, .own 41000), (11, .bool v0_6.1), (13, .own 60000), (14, .int .i64 v0_7.2), (81, .bool true)] [(3, .box 24 [.int .i64 c.1, .sl (.pair (.int .i64) (.pair (.int .i64) (.int .i64))) c.2]), (4, .box 24 [.int .i64 a.1, .sl (.pair (.int .i64) (.pair (.int .i64) (.int .i64))) a.2]), (41000, .arr 58 (.pair (.int .i64) (.int .i64)) v0_4.1), (60000, .arr 58 (.pair (.int .i64) (.int .i64)) v0_7.1)] ?_
     refine zS 4 [(2, .sl (.pair (.int .i64) (.int .i64)) r0), (3, .bp 3 0), (4, .bp 4 0), (7, .own 41000), (11, .bool v0_6.1), (13, .own 60000), (14, .int .i64 v0_7.2), (81, .bool true), (82, .cv (undef)), (83, .cv (undef)), (85, .cv (undef))] [(3, .box 24 [.int .i64 c.1, .sl (.pair (.int .i64) (.pair (.int .i64) (.int .i64))) c.2]), (4, .box 24 [.int .i64 a.1, .sl (.pair (.int .i64) (.pair (.int .i64) (.int .i64))) a.2]), (41000, .arr 58 (.pair (.int .i64) (.int .i64)) v0_4.1), (60000, .arr 58 (.pair (.int .i64) (.int .i64)) v0_7.1)] ?_
     refine zS 5 [(2, .sl (.pair (.int .i64) (.int .i64)) r0), (3, .bp 3 0), (4, .bp 4 0), (7, .own 41000), (11, .bool v0_6.1), (13, .own 60000), (14, .int .i64 v0_7.2), (89, .bool true), (90, .cv (undef))] [(3, .box 24 [.int .i64 c.1, .sl (.pair (.int .i64) (.pair (.int .i64) (.int .i64))) c.2]), (4, .box 24 [.int .i64 a.1, .sl (.pair (.int .i64) (.pair (.int .i64) (.int .i64))) a.2]), (41000, .arr 58 (.pair (.int .i64) (.int .i64)) v0_4.1), (60000, .arr 58 (.pair (.int .i64) (.int .i64)) v0_7.1)] ?_
     refine zS 5 [(2, .sl (.pair (.int .i64) (.int .i64)) r0), (3, .bp 3 0), (4, .bp 4 0), (7, .own 41000), (11, .bool v0_6.1), (13, .own 60000), (14, .int .i64 v0_7.2), (95, .bool true)] [(3, .box 24 [.int .i64 c.1, .sl (.pair (.int .i64) (.pair (.int .i64) (.int .i64))) c.2]), (4, .box 24 [.int .i64 a.1, .sl (.pair (.int .i64) (.pair (.int .i64) (.int .i64))) a.2]), (41000, .arr 58 (.pair (.int .i64) (.int .i64)) v0_4.1), (60000, .arr 58 (.pair (.int .i64) (.int .i64)) v0_7.1)] ?_
     refine zS 4 [(2, .sl (.pair (.int .i64) (.int .i64)) r0), (3, .bp 3 0), (4, .bp 4 0), (7, .own 41000), (11, .bool v0_6.1), (13, .own 60000), (95, .bool true), (98, .cv (undef)), (99, .cv (undef))] [(3, .box 24 [.int .i64 c.1, .sl (.pair (.int .i64) (.pair (.int .i64) (.int .i64))) c.2]), (4, .box 24 [.int .i64 a.1, .sl (.pair (.int .i64) (.pair (.int .i64) (.int .i64))) a.2]), (41000, .arr 58 (.pair (.int .i64) (.int .i64)) v0_4.1), (60000, .arr 58 (.pair (.int .i64) (.int .i64)) v0_7.1)] ?_
     refine zB [(2, .sl (.pair (.int .i64) (.int .i64)) r0), (3, .bp 3 0), (4, .bp 4 0), (7, .own 41000), (11, .bool v0_6.1), (13, .own 60000), (102, .bool true)] [(3, .box 24 [.int .i64 c.1, .sl (.pair (.int .i64) (.pair (.int .i64) (.int .i64))) c.2]), (4, .box 24 [.int .i64 a.1, .sl (.pair (.int .i64) (.pair (.int .i64) (.int .i64))) a.2]), (41000, .arr 58 (.pair (.int .i64) (.int .i64)) v0_4.1), (60000, .arr 58 (.pair (.int .i64) (.int .i64)) v0_7.1)] ?_
     refine AW.cond (b := true) rfl (fun _ => ?_) (fun hb36 => by cases hb36)
     refine zo ?_
     refine zB [(6, .bool false)] [] ?_
     refine zr ?_
     obtain rfl := Option.some.inj h
     exact zR [] [] []
    ·refine zS 4 [(2, .sl (.pair (.int .i64) (.int .i64)) r0), (3, .bp 3 0), (4, .bp 4 0), (7, .own 41000), (9, .bool v0_5.1), (11, .bool v0_6.1), (12, .int .i64 v0_6.2), (13, .own 60000), (14, .int .i64 v0_7.2), (15, .bool v0_8.1), (16, .int .i64 v0_8.2), (65, .bool (!(decide (v0_5.2 = 0))))] [(3, .box 24 [.int .i64 c.1, .sl (.pair (.int .i64) (.pair (.int .i64) (.int .i64))) c.2]), (4, .box 24 [.int .i64 a.1, .sl (.pair (.int .i64) (.pair (.int .i64) (.int .i64))) a.2]), (41000, .arr 58 (.pair (.int .i64) (.int .i64)) v0_4.1), (60000, .arr 58 (.pair (.int .i64) (.int .i64)) v0_7.1)] ?_
     rcases zI h with ⟨hb37, h⟩ | ⟨hb37, h⟩
     ·refine zS 5 [(2, .sl (.pair (.int .i64) (.int .i64)) r0), (3, .bp 3 0), (4, .bp 4 0), (7, .own 41000), (9, .bool v0_5.1), (11, .bool v0_6.1), (13, .own 60000), (14, .int .i64 v0_7.2), (15, .bool v0_8.1), (69, .bool true), (70, .cv (undef))] [(3, .box 24 [.int .i64 c.1, .sl (.pair (.int .i64) (.pair (.int .i64) (.int .i64))) c.2]), (4, .box 24 [.int .i64 a.1, .sl (.pair (.int .i64) (.pair (.int .i64) (.int .i64))) a.2]), (41000, .arr 58 (.pair (.int .i64) (.int .i64)) v0_4.1), (60000, .arr 58 (.pair (.int .i64) (.int .i64)) v0_7.1)] ?_
      refine zS 5 [(2, .sl (.pair (.int .i64) (.int .i64)) r0), (3, .bp 3 0), (4, .bp 4 0), (7, .own 41000), (11, .bool v0_6.1), (13, .own 60000), (14, .int .i64 v0_7.2), (15, .bool v0_8.1), (73, .bool true), (75, .cv (undef))] [(3, .box 24 [.int .i64 c.1, .sl (.pair (.int .i64) (.pair (.int .i64) (.int .i64))) c.2]), (4, .box 24 [.int .i64 a.1, .sl (.pair (.int .i64) (.pair (.int .i64) (.int .i64))) a.2]), (41000, .arr 58 (.pair (.int .i64) (.int .i64)) v0_4.1), (60000, .arr 58 (.pair (.int .i64) (.int .i64)) v0_7.1)] ?_
      refine zS 5 [(2, .sl (.pair (.int .i64) (.int .i64)) r0), (3, .bp 3 0), (4, .bp 4 0), (7, .own 41000), (11, .bool v0_6.1), (13, .own 60000), (14, .int .i64 v0_7.2), (80, .bool true)] [(3, .box 24 [.int .i64 c.1, .sl (.pair (.int .i64) (.pair (.int .i64) (.int .i64))) c.2]), (4, .box 24 [.int .i64 a.1, .sl (.pair (.int .i64) (.pair (.int .i64) (.int .i64))) a.2]), (41000, .arr 58 (.pair (.int .i64) (.int .i64)) v0_4.1), (60000, .arr 58 (.pair (.int .i64) (.int .i64)) v0_7.1)] ?_
      refine zS 5 [(2, .sl (.pair (.int .i64) (.int .i64)) r0), (3, .bp 3 0), (4, .bp 4 0), (7, .own 41000), (11, .bool v0_6.1), (13, .own 60000), (14, .int .i64 v0_7.2), (81, .bool true), (82, .cv (undef)), (83, .cv (undef)), (85, .cv (undef))] [(3, .box 24 [.int .i64 c.1, .sl (.pair (.int .i64) (.pair (.int .i64) (.int .i64))) c.2]), (4, .box 24 [.int .i64 a.1, .sl (.pair (.int .i64) (.pair (.int .i64) (.int .i64))) a.2]), (41000, .arr 58 (.pair (.int .i64) (.int .i64)) v0_4.1), (60000, .arr 58 (.pair (.int .i64) (.int .i64)) v0_7.1)] ?_
      refine zS 5 [(2, .sl (.pair (.int .i64) (.int .i64)) r0), (3, .bp 3 0), (4, .bp 4 0), (7, .own 41000), (11, .bool v0_6.1), (13, .own 60000), (14, .int .i64 v0_7.2), (89, .bool true), (90, .cv (undef))] [(3, .box 24 [.int .i64 c.1, .sl (.pair (.int .i64) (.pair (.int .i64) (.int .i64))) c.2]), (4, .box 24 [.int .i64 a.1, .sl (.pair (.int .i64) (.pair (.int .i64) (.int .i64))) a.2]), (41000, .arr 58 (.pair (.int .i64) (.int .i64)) v0_4.1), (60000, .arr 58 (.pair (.int .i64) (.int .i64)) v0_7.1)] ?_
      refine zS 5 [(2, .sl (.pair (.int .i64) (.int .i64)) r0), (3, .bp 3 0), (4, .bp 4 0), (7, .own 41000), (11, .bool v0_6.1), (13, .own 60000), (14, .int .i64 v0_7.2), (95, .bool true)] [(3, .box 24 [.int .i64 c.1, .sl (.pair (.int .i64) (.pair (.int .i64) (.int .i64))) c.2]), (4, .box 24 [.int .i64 a.1, .sl (.pair (.int .i64) (.pair (.int .i64) (.int .i64))) a.2]), (41000, .arr 58 (.pair (.int .i64) (.int .i64)) v0_4.1), (60000, .arr 58 (.pair (.int .i64) (.int .i64)) v0_7.1)] ?_
      refine zS 4 [(2, .sl (.pair (.int .i64) (.int .i64)) r0), (3, .bp 3 0), (4, .bp 4 0), (7, .own 41000), (11, .bool v0_6.1), (13, .own 60000), (95, .bool true), (98, .cv (undef)), (99, .cv (undef))] [(3, .box 24 [.int .i64 c.1, .sl (.pair (.int .i64) (.pair (.int .i64) (.int .i64))) c.2]), (4, .box 24 [.int .i64 a.1, .sl (.pair (.int .i64) (.pair (.int .i64) (.int .i64))) a.2]), (41000, .arr 58 (.pair (.int .i64) (.int .i64)) v0_4.1), (60000, .arr 58 (.pair (.int .i64) (.int .i64)) v0_7.1)] ?_
      refine zB [(2, .sl (.pair (.int .i64) (.int .i64)) r0), (3, .bp 3 0), (4, .bp 4 0), (7, .own 41000), (11, .bool v0_6.1), (13, .own 60000), (102, .bool true)] [(3, .box 24 [.int .i64 c.1, .sl (.pair (.int .i64) (.pair (.int .i64) (.int .i64))) c.2]), (4, .box 24 [.int .i64 a.1, .sl (.pair (.int .i64) (.pair (.int .i64) (.int .i64))) a.2]), (41000, .arr 58 (.pair (.int .i64) (.int .i64)) v0_4.1), (60000, .arr 58 (.pair (.int .i64) (.int .i64)) v0_7.1)] ?_
      refine AW.cond (b := true) rfl (fun _ => ?_) (fun hb38 => by cases hb38)
      refine zo ?_
      refine zB [(6, .bool false)] [] ?_
      refine zr ?_
      obtain rfl := Option.some.inj h
      exact zR [] [] []
     ·refine zS 4 [(2, .sl (.pair (.int .i64) (.int .i64)) r0), (3, .bp 3 0), (4, .bp 4 0), (7, .own 41000), (9, .bool v0_5.1), (11, .bool v0_6.1), (13, .own 60000), (14, .int .i64 v0_7.2), (15, .bool v0_8.1), (16, .int .i64 v0_8.2), (69, .bool (!(decide (v0_6.2 = 0))))] [(3, .box 24 [.int .i64 c.1, .sl (.pair (.int .i64) (.pair (.int .i64) (.int .i64))) c.2]), (4, .box 24 [.int .i64 a.1, .sl (.pair (.int .i64) (.pair (.int .i64) (.int .i64))) a.2]), (41000, .arr 58 (.pair (.int .i64) (.int .i64)) v0_4.1), (60000, .arr 58 (.pair (.int .i64) (.int .i64)) v0_7.1)] ?_
      rcases zI h with ⟨hb39, h⟩ | ⟨hb39, h⟩
      ·refine zS 5 [(2, .sl (.pair (.int .i64) (.int .i64)) r0), (3, .bp 3 0), (4, .bp 4 0), (7, .own 41000), (11, .bool v0_6.1), (13, .own 60000), (14, .int .i64 v0_7.2), (15, .bool v0_8.1), (73, .bool true), (74, .cv (undef))] [(3, .box 24 [.int .i64 c.1, .sl (.pair (.int .i64) (.pair (.int .i64) (.int .i64))) c.2]), (4, .box 24 [.int .i64 a.1, .sl (.pair (.int .i64) (.pair (.int .i64) (.int .i64))) a.2]), (41000, .arr 58 (.pair (.int .i64) (.int .i64)) v0_4.1), (60000, .arr 58 (.pair (.int .i64) (.int .i64)) v0_7.1)] ?_
       refine zS 5 [(2, .sl (.pair (.int .i64) (.int .i64)) r0), (3, .bp 3 0), (4, .bp 4 0), (7, .own 41000), (11, .bool v0_6.1), (13, .own 60000), (14, .int .i64 v0_7.2), (77, .bool true), (79, .cv (undef))] [(3, .box 24 [.int .i64 c.1, .sl (.pair (.int .i64) (.pair (.int .i64) (.int .i64))) c.2]), (4, .box 24 [.int .i64 a.1, .sl (.pair (.int .i64) (.pair (.int .i64) (.int .i64))) a.2]), (41000, .arr 58 (.pair (.int .i64) (.int .i64)) v0_4.1), (60000, .arr 58 (.pair (.int .i64) (.int .i64)) v0_7.1)] ?_
       refine zS 5 [(2, .sl (.pair (.int .i64) (.int .i64)) r0), (3, .bp 3 0), (4, .bp 4 0), (7, .own 41000), (11, .bool v0_6.1), (13, .own 60000), (14, .int .i64 v0_7.2), (81, .bool true), (82, .cv (undef)), (83, .cv (undef)), (84, .cv (undef))] [(3, .box 24 [.int .i64 c.1, .sl (.pair (.int .i64) (.pair (.int .i64) (.int .i64))) c.2]), (4, .box 24 [.int .i64 a.1, .sl (.pair (.int .i64) (.pair (.int .i64) (.int .i64))) a.2]), (41000, .arr 58 (.pair (.int .i64) (.int .i64)) v0_4.1), (60000, .arr 58 (.pair (.int .i64) (.int .i64)) v0_7.1)] ?_
       refine zS 5 [(2, .sl (.pair (.int .i64) (.int .i64)) r0), (3, .bp 3 0), (4, .bp 4 0), (7, .own 41000), (11, .bool v0_6.1), (13, .own 60000), (14, .int .i64 v0_7.2), (89, .bool true)] [(3, .box 24 [.int .i64 c.1, .sl (.pair (.int .i64) (.pair (.int .i64) (.int .i64))) c.2]), (4, .box 24 [.int .i64 a.1, .sl (.pair (.int .i64) (.pair (.int .i64) (.int .i64))) a.2]), (41000, .arr 58 (.pair (.int .i64) (.int .i64)) v0_4.1), (60000, .arr 58 (.pair (.int .i64) (.int .i64)) v0_7.1)] ?_
       refine zS 4 [(2, .sl (.pair (.int .i64) (.int .i64)) r0), (3, .bp 3 0), (4, .bp 4 0), (7, .own 41000), (11, .bool v0_6.1), (13, .own 60000), (14, .int .i64 v0_7.2), (89, .bool true), (93, .cv (undef))] [(3, .box 24 [.int .i64 c.1, .sl (.pair (.int .i64) (.pair (.int .i64) (.int .i64))) c.2]), (4, .box 24 [.int .i64 a.1, .sl (.pair (.int .i64) (.pair (.int .i64) (.int .i64))) a.2]), (41000, .arr 58 (.pair (.int .i64) (.int .i64)) v0_4.1), (60000, .arr 58 (.pair (.int .i64) (.int .i64)) v0_7.1)] ?_
       refine zS 5 [(2, .sl (.pair (.int .i64) (.int .i64)) r0), (3, .bp 3 0), (4, .bp 4 0), (7, .own 41000), (11, .bool v0_6.1), (13, .own 60000), (14, .int .i64 v0_7.2), (95, .bool true), (98, .cv (undef))] [(3, .box 24 [.int .i64 c.1, .sl (.pair (.int .i64) (.pair (.int .i64) (.int .i64))) c.2]), (4, .box 24 [.int .i64 a.1, .sl (.pair (.int .i64) (.pair (.int .i64) (.int .i64))) a.2]), (41000, .arr 58 (.pair (.int .i64) (.int .i64)) v0_4.1), (60000, .arr 58 (.pair (.int .i64) (.int .i64)) v0_7.1)] ?_
       refine zB [(2, .sl (.pair (.int .i64) (.int .i64)) r0), (3, .bp 3 0), (4, .bp 4 0), (7, .own 41000), (11, .bool v0_6.1), (13, .own 60000), (102, .bool true)] [(3, .box 24 [.int .i64 c.1, .sl (.pair (.int .i64) (.pair (.int .i64) (.int .i64))) c.2]), (4, .box 24 [.int .i64 a.1, .sl (.pair (.int .i64) (.pair (.int .i64) (.int .i64))) a.2]), (41000, .arr 58 (.pair (.int .i64) (.int .i64)) v0_4.1), (60000, .arr 58 (.pair (.int .i64) (.int .i64)) v0_7.1)] ?_
       refine AW.cond (b := true) rfl (fun _ => ?_) (fun hb40 => by cases hb40)
       refine zo ?_
       refine zB [(6, .bool false)] [] ?_
       refine zr ?_
       obtain rfl := Option.some.inj h
       exact zR [] [] []
      ·refine zS 4 [(2, .sl (.pair (.int .i64) (.int .i64)) r0), (3, .bp 3 0), (4, .bp 4 0), (7, .own 41000), (9, .bool v0_5.1), (11, .bool v0_6.1), (13, .own 60000), (14, .int .i64 v0_7.2), (15, .bool v0_8.1), (73, .bool (!(decide (v0_8.2 = 0))))] [(3, .box 24 [.int .i64 c.1, .sl (.pair (.int .i64) (.pair (.int .i64) (.int .i64))) c.2]), (4, .box 24 [.int .i64 a.1, .sl (.pair (.int .i64) (.pair (.int .i64) (.int .i64))) a.2]), (41000, .arr 58 (.pair (.int .i64) (.int .i64)) v0_4.1), (60000, .arr 58 (.pair (.int .i64) (.int .i64)) v0_7.1)] ?_
       rcases zI h with ⟨hb41, h⟩ | ⟨hb41, h⟩
       ·refine zS 5 [(2, .sl (.pair (.int .i64) (.int .i64)) r0), (3, .bp 3 0), (4, .bp 4 0), (7, .own 41000), (11, .bool v0_6.1), (13, .own 60000), (14, .int .i64 v0_7.2), (77, .bool true), (78, .cv (undef))] [(3, .box 24 [.int .i64 c.1, .sl (.pair (.int .i64) (.pair (.int .i64) (.int .i64))) c.2]), (4, .box 24 [.int .i64 a.1, .sl (.pair (.int .i64) (.pair (.int .i64) (.int .i64))) a.2]), (41000, .arr 58 (.pair (.int .i64) (.int .i64)) v0_4.1), (60000, .arr 58 (.pair (.int .i64) (.int .i64)) v0_7.1)] ?_
        refine zS 5 [(2, .sl (.pair (.int .i64) (.int .i64)) r0), (3, .bp 3 0), (4, .bp 4 0), (7, .own 41000), (11, .bool v0_6.1), (13, .own 60000), (14, .int .i64 v0_7.2), (81, .bool true), (82, .cv (undef)), (83, .cv (undef))] [(3, .box 24 [.int .i64 c.1, .sl (.pair (.int .i64) (.pair (.int .i64) (.int .i64))) c.2]), (4, .box 24 [.int .i64 a.1, .sl (.pair (.int .i64) (.pair (.int .i64) (.int .i64))) a.2]), (41000, .arr 58 (.pair (.int .i64) (.int .i64)) v0_4.1), (60000, .arr 58 (.pair (.int .i64) (.int .i64)) v0_7.1)] ?_
        refine zS 4 [(2, .sl (.pair (.int .i64) (.int .i64)) r0), (3, .bp 3 0), (4, .bp 4 0), (7, .own 41000), (11, .bool v0_6.1), (13, .own 60000), (14, .int .i64 v0_7.2), (81, .bool true), (87, .cv (undef))] [(3, .box 24 [.int .i64 c.1, .sl (.pair (.int .i64) (.pair (.int .i64) (.int .i64))) c.2]), (4, .box 24 [.int .i64 a.1, .sl (.pair (.int .i64) (.pair (.int .i64) (.int .i64))) a.2]), (41000, .arr 58 (.pair (.int .i64) (.int .i64)) v0_4.1), (60000, .arr 58 (.pair (.int .i64) (.int .i64)) v0_7.1)] ?_
        refine zS 5 [(2, .sl (.pair (.int .i64) (.int .i64)) r0), (3, .bp 3 0), (4, .bp 4 0), (7, .own 41000), (11, .bool v0_6.1), (13, .own 60000), (14, .int .i64 v0_7.2), (89, .bool true), (90, .cv (undef)), (92, .cv (undef))] [(3, .box 24 [.int .i64 c.1, .sl (.pair (.int .i64) (.pair (.int .i64) (.int .i64))) c.2]), (4, .box 24 [.int .i64 a.1, .sl (.pair (.int .i64) (.pair (.int .i64) (.int .i64))) a.2]), (41000, .arr 58 (.pair (.int .i64) (.int .i64)) v0_4.1), (60000, .arr 58 (.pair (.int .i64) (.int .i64)) v0_7.1)] ?_
        refine zS 5 [(2, .sl (.pair (.int .i64) (.int .i64)) r0), (3, .bp 3 0), (4, .bp 4 0), (7, .own 41000), (11, .bool v0_6.1), (13, .own 60000), (14, .int .i64 v0_7.2), (95, .bool true), (97, .cv (undef))] [(3, .box 24 [.int .i64 c.1, .sl (.pair (.int .i64) (.pair (.int .i64) (.int .i64))) c.2]), (4, .box 24 [.int .i64 a.1, .sl (.pair (.int .i64) (.pair (.int .i64) (.int .i64))) a.2]), (41000, .arr 58 (.pair (.int .i64) (.int .i64)) v0_4.1), (60000, .arr 58 (.pair (.int .i64) (.int .i64)) v0_7.1)] ?_
        refine zS 4 [(2, .sl (.pair (.int .i64) (.int .i64)) r0), (3, .bp 3 0), (4, .bp 4 0), (7, .own 41000), (11, .bool v0_6.1), (13, .own 60000), (95, .bool true), (101, .cv (undef))] [(3, .box 24 [.int .i64 c.1, .sl (.pair (.int .i64) (.pair (.int .i64) (.int .i64))) c.2]), (4, .box 24 [.int .i64 a.1, .sl (.pair (.int .i64) (.pair (.int .i64) (.int .i64))) a.2]), (41000, .arr 58 (.pair (.int .i64) (.int .i64)) v0_4.1), (60000, .arr 58 (.pair (.int .i64) (.int .i64)) v0_7.1)] ?_
        refine zB [(2, .sl (.pair (.int .i64) (.int .i64)) r0), (3, .bp 3 0), (4, .bp 4 0), (7, .own 41000), (11, .bool v0_6.1), (13, .own 60000), (102, .bool true)] [(3, .box 24 [.int .i64 c.1, .sl (.pair (.int .i64) (.pair (.int .i64) (.int .i64))) c.2]), (4, .box 24 [.int .i64 a.1, .sl (.pair (.int .i64) (.pair (.int .i64) (.int .i64))) a.2]), (41000, .arr 58 (.pair (.int .i64) (.int .i64)) v0_4.1), (60000, .arr 58 (.pair (.int .i64) (.int .i64)) v0_7.1)] ?_
        refine AW.cond (b := true) rfl (fun _ => ?_) (fun hb42 => by cases hb42)
        refine zo ?_
        refine zB [(6, .bool false)] [] ?_
        refine zr ?_
        obtain rfl := Option.some.inj h
        exact zR [] [] []
       ·refine zS 4 [(2, .sl (.pair (.int .i64) (.int .i64)) r0), (3, .bp 3 0), (4, .bp 4 0), (7, .own 41000), (11, .bool v0_6.1), (13, .own 60000), (14, .int .i64 v0_7.2), (15, .bool v0_8.1), (77, .bool (!v0_5.1))] [(3, .box 24 [.int .i64 c.1, .sl (.pair (.int .i64) (.pair (.int .i64) (.int .i64))) c.2]), (4, .box 24 [.int .i64 a.1, .sl (.pair (.int .i64) (.pair (.int .i64) (.int .i64))) a.2]), (41000, .arr 58 (.pair (.int .i64) (.int .i64)) v0_4.1), (60000, .arr 58 (.pair (.int .i64) (.int .i64)) v0_7.1)] ?_
        rcases zI h with ⟨hb43, h⟩ | ⟨hb43, h⟩
        ·refine zS 5 [(2, .sl (.pair (.int .i64) (.int .i64)) r0), (3, .bp 3 0), (4, .bp 4 0), (7, .own 41000), (11, .bool v0_6.1), (13, .own 60000), (14, .int .i64 v0_7.2), (81, .bool true), (82, .cv (undef))] [(3, .box 24 [.int .i64 c.1, .sl (.pair (.int .i64) (.pair (.int .i64) (.int .i64))) c.2]), (4, .box 24 [.int .i64 a.1, .sl (.pair (.int .i64) (.pair (.int .i64) (.int .i64))) a.2]), (41000, .arr 58 (.pair (.int .i64) (.int .i64)) v0_4.1), (60000, .arr 58 (.pair (.int .i64) (.int .i64)) v0_7.1)] ?_
         refine zS 4 [(2, .sl (.pair (.int .i64) (.int .i64)) r0), (3, .bp 3 0), (4, .bp 4 0), (7, .own 41000), (11, .bool v0_6.1), (13, .own 60000), (14, .int .i64 v0_7.2), (81, .bool true), (82, .cv (undef)), (86, .cv (undef))] [(3, .box 24 [.int .i64 c.1, .sl (.pair (.int .i64) (.pair (.int .i64) (.int .i64))) c.2]), (4, .box 24 [.int .i64 a.1, .sl (.pair (.int .i64) (.pair (.int .i64) (.int .i64))) a.2]), (41000, .arr 58 (.pair (.int .i64) (.int .i64)) v0_4.1), (60000, .arr 58 (.pair (.int .i64) (.int .i64)) v0_7.1)] ?_
         refine zS 5 [(2, .sl (.pair (.int .i64) (.int .i64)) r0), (3, .bp 3 0), (4, .bp 4 0), (7, .own 41000), (11, .bool v0_6.1), (13, .own 60000), (14, .int .i64 v0_7.2), (89, .bool true), (90, .cv (undef)), (91, .cv (undef))] [(3, .box 24 [.int .i64 c.1, .sl (.pair (.int .i64) (.pair (.int .i64) (.int .i64))) c.2]), (4, .box 24 [.int .i64 a.1, .sl (.pair (.int .i64) (.pair (.int .i64) (.int .i64))) a.2]), (41000, .arr 58 (.pair (.int .i64) (.int .i64)) v0_4.1), (60000, .arr 58 (.pair (.int .i64) (.int .i64)) v0_7.1)] ?_
         refine zS 5 [(2, .sl (.pair (.int .i64) (.int .i64)) r0), (3, .bp 3 0), (4, .bp 4 0), (7, .own 41000), (11, .bool v0_6.1), (13, .own 60000), (14, .int .i64 v0_7.2), (95, .bool true), (96, .cv (undef))] [(3, .box 24 [.int .i64 c.1, .sl (.pair (.int .i64) (.pair (.int .i64) (.int .i64))) c.2]), (4, .box 24 [.int .i64 a.1, .sl (.pair (.int .i64) (.pair (.int .i64) (.int .i64))) a.2]), (41000, .arr 58 (.pair (.int .i64) (.int .i64)) v0_4.1), (60000, .arr 58 (.pair (.int .i64) (.int .i64)) v0_7.1)] ?_
         refine zS 4 [(2, .sl (.pair (.int .i64) (.int .i64)) r0), (3, .bp 3 0), (4, .bp 4 0), (7, .own 41000), (11, .bool v0_6.1), (13, .own 60000), (95, .bool true), (98, .cv (undef)), (100, .cv (undef))] [(3, .box 24 [.int .i64 c.1, .sl (.pair (.int .i64) (.pair (.int .i64) (.int .i64))) c.2]), (4, .box 24 [.int .i64 a.1, .sl (.pair (.int .i64) (.pair (.int .i64) (.int .i64))) a.2]), (41000, .arr 58 (.pair (.int .i64) (.int .i64)) v0_4.1), (60000, .arr 58 (.pair (.int .i64) (.int .i64)) v0_7.1)] ?_
         refine zB [(2, .sl (.pair (.int .i64) (.int .i64)) r0), (3, .bp 3 0), (4, .bp 4 0), (7, .own 41000), (11, .bool v0_6.1), (13, .own 60000), (102, .bool true)] [(3, .box 24 [.int .i64 c.1, .sl (.pair (.int .i64) (.pair (.int .i64) (.int .i64))) c.2]), (4, .box 24 [.int .i64 a.1, .sl (.pair (.int .i64) (.pair (.int .i64) (.int .i64))) a.2]), (41000, .arr 58 (.pair (.int .i64) (.int .i64)) v0_4.1), (60000, .arr 58 (.pair (.int .i64) (.int .i64)) v0_7.1)] ?_
         refine AW.cond (b := true) rfl (fun _ => ?_) (fun hb44 => by cases hb44)
         refine zo ?_
         refine zB [(6, .bool false)] [] ?_
         refine zr ?_
         obtain rfl := Option.some.inj h
         exact zR [] [] []
        ·refine zS 4 [(2, .sl (.pair (.int .i64) (.int .i64)) r0), (3, .bp 3 0), (4, .bp 4 0), (7, .own 41000), (11, .bool v0_6.1), (13, .own 60000), (14, .int .i64 v0_7.2), (81, .bool (!v0_8.1))] [(3, .box 24 [.int .i64 c.1, .sl (.pair (.int .i64) (.pair (.int .i64) (.int .i64))) c.2]), (4, .box 24 [.int .i64 a.1, .sl (.pair (.int .i64) (.pair (.int .i64) (.int .i64))) a.2]), (41000, .arr 58 (.pair (.int .i64) (.int .i64)) v0_4.1), (60000, .arr 58 (.pair (.int .i64) (.int .i64)) v0_7.1)] ?_
         rcases zI h with ⟨hb45, h⟩ | ⟨hb45, h⟩
         ·refine zS 4 [(2, .sl (.pair (.int .i64) (.int .i64)) r0), (3, .bp 3 0), (4, .bp 4 0), (7, .own 41000), (11, .bool v0_6.1), (13, .own 60000), (14, .int .i64 v0_7.2), (81, .bool true), (82, .cv (undef)), (83, .cv (undef)), (85, .cv (undef))] [(3, .box 24 [.int .i64 c.1, .sl (.pair (.int .i64) (.pair (.int .i64) (.int .i64))) c.2]), (4, .box 24 [.int .i64 a.1, .sl (.pair (.int .i64) (.pair (.int .i64) (.int .i64))) a.2]), (41000, .arr 58 (.pair (.int .i64) (.int .i64)) v0_4.1), (60000, .arr 58 (.pair (.int .i64) (.int .i64)) v0_7.1)] ?_
          refine zS 5 [(2, .sl (.pair (.int .i64) (.int .i64)) r0), (3, .bp 3 0), (4, .bp 4 0), (7, .own 41000), (11, .bool v0_6.1), (13, .own 60000), (14, .int .i64 v0_7.2), (89, .bool true), (90, .cv (undef))] [(3, .box 24 [.int .i64 c.1, .sl (.pair (.int .i64) (.pair (.int .i64) (.int .i64))) c.2]), (4, .box 24 [.int .i64 a.1, .sl (.pair (.int .i64) (.pair (.int .i64) (.int .i64))) a.2]), (41000, .arr 58 (.pair (.int .i64) (.int .i64)) v0_4.1), (60000, .arr 58 (.pair (.int .i64) (.int .i64)) v0_7.1)] ?_
          refine zS 5 [(2, .sl (.pair (.int .i64) (.int .i64)) r0), (3, .bp 3 0), (4, .bp 4 0), (7, .own 41000), (11, .bool v0_6.1), (13, .own 60000), (14, .int .i64 v0_7.2), (95, .bool true)] [(3, .box 24 [.int .i64 c.1, .sl (.pair (.int .i64) (.pair (.int .i64) (.int .i64))) c.2]), (4, .box 24 [.int .i64 a.1, .sl (.pair (.int .i64) (.pair (.int .i64) (.int .i64))) a.2]), (41000, .arr 58 (.pair (.int .i64) (.int .i64)) v0_4.1), (60000, .arr 58 (.pair (.int .i64) (.int .i64)) v0_7.1)] ?_
          refine zS 4 [(2, .sl (.pair (.int .i64) (.int .i64)) r0), (3, .bp 3 0), (4, .bp 4 0), (7, .own 41000), (11, .bool v0_6.1), (13, .own 60000), (95, .bool true), (98, .cv (undef)), (99, .cv (undef))] [(3, .box 24 [.int .i64 c.1, .sl (.pair (.int .i64) (.pair (.int .i64) (.int .i64))) c.2]), (4, .box 24 [.int .i64 a.1, .sl (.pair (.int .i64) (.pair (.int .i64) (.int .i64))) a.2]), (41000, .arr 58 (.pair (.int .i64) (.int .i64)) v0_4.1), (60000, .arr 58 (.pair (.int .i64) (.int .i64)) v0_7.1)] ?_
          refine zB [(2, .sl (.pair (.int .i64) (.int .i64)) r0), (3, .bp 3 0), (4, .bp 4 0), (7, .own 41000), (11, .bool v0_6.1), (13, .own 60000), (102, .bool true)] [(3, .box 24 [.int .i64 c.1, .sl (.pair (.int .i64) (.pair (.int .i64) (.int .i64))) c.2]), (4, .box 24 [.int .i64 a.1, .sl (.pair (.int .i64) (.pair (.int .i64) (.int .i64))) a.2]), (41000, .arr 58 (.pair (.int .i64) (.int .i64)) v0_4.1), (60000, .arr 58 (.pair (.int .i64) (.int .i64)) v0_7.1)] ?_
          refine AW.cond (b := true) rfl (fun _ => ?_) (fun hb46 => by cases hb46)
          refine zo ?_
          refine zB [(6, .bool false)] [] ?_
          refine zr ?_
          obtain rfl := Option.some.inj h
          exact zR [] [] []
         ·refine zS 4 [(2, .sl (.pair (.int .i64) (.int .i64)) r0), (3, .bp 3 0), (4, .bp 4 0), (7, .own 41000), (11, .bool v0_6.1), (13, .own 60000), (14, .int .i64 v0_7.2), (81, .bool false), (82, .bool v0_6.1), (83, .own 41000), (85, .own 85)] [(3, .box 24 [.int .i64 c.1, .sl (.pair (.int .i64) (.pair (.int .i64) (.int .i64))) c.2]), (4, .box 24 [.int .i64 a.1, .sl (.pair (.int .i64) (.pair (.int .i64) (.int .i64))) a.2]), (85, .arr 58 (.pair (.int .i64) (.int .i64)) [(0, 0)]), (41000, .arr 58 (.pair (.int .i64) (.int .i64)) v0_4.1), (60000, .arr 58 (.pair (.int .i64) (.int .i64)) v0_7.1)] ?_
          obtain ⟨v0_9, hv47, h⟩ := Option.bind_eq_some_iff.1 h
          refine zG [85, 41000] [] (hc_lineallaw05_has v0_4.1 [(0, 0)] hv47) [(2, .sl (.pair (.int .i64) (.int .i64)) r0), (3, .bp 3 0), (4, .bp 4 0), (7, .own 41000), (11, .bool v0_6.1), (13, .own 60000), (14, .int .i64 v0_7.2), (81, .bool false), (82, .bool v0_6.1), (86, .bool v0_9)] [(3, .box 24 [.int .i64 c.1, .sl (.pair (.int .i64) (.pair (.int .i64) (.int .i64))) c.2]), (4, .box 24 [.int .i64 a.1, .sl (.pair (.int .i64) (.pair (.int .i64) (.int .i64))) a.2]), (41000, .arr 58 (.pair (.int .i64) (.int .i64)) v0_4.1), (60000, .arr 58 (.pair (.int .i64) (.int .i64)) v0_7.1)] ?_
          refine zS 3 [(2, .sl (.pair (.int .i64) (.int .i64)) r0), (3, .bp 3 0), (4, .bp 4 0), (7, .own 41000), (11, .bool v0_6.1), (13, .own 60000), (14, .int .i64 v0_7.2), (89, .bool ((v0_6.1 == v0_9) != true))] [(3, .box 24 [.int .i64 c.1, .sl (.pair (.int .i64) (.pair (.int .i64) (.int .i64))) c.2]), (4, .box 24 [.int .i64 a.1, .sl (.pair (.int .i64) (.pair (.int .i64) (.int .i64))) a.2]), (41000, .arr 58 (.pair (.int .i64) (.int .i64)) v0_4.1), (60000, .arr 58 (.pair (.int .i64) (.int .i64)) v0_7.1)] ?_
          rcases zI h with ⟨hb48, h⟩ | ⟨hb48, h⟩
          ·refine zS 4 [(2, .sl (.pair (.int .i64) (.int .i64)) r0), (3, .bp 3 0), (4, .bp 4 0), (7, .own 41000), (11, .bool v0_6.1), (13, .own 60000), (14, .int .i64 v0_7.2), (89, .bool true), (93, .cv (undef))] [(3, .box 24 [.int .i64 c.1, .sl (.pair (.int .i64) (.pair (.int .i64) (.int .i64))) c.2]), (4, .box 24 [.int .i64 a.1, .sl (.pair (.int .i64) (.pair (.int .i64) (.int .i64))) a.2]), (41000, .arr 58 (.pair (.int .i64) (.int .i64)) v0_4.1), (60000, .arr 58 (.pair (.int .i64) (.int .i64)) v0_7.1)] ?_
           refine zS 5 [(2, .sl (.pair (.int .i64) (.int .i64)) r0), (3, .bp 3 0), (4, .bp 4 0), (7, .own 41000), (11, .bool v0_6.1), (13, .own 60000), (14, .int .i64 v0_7.2), (95, .bool true), (98, .cv (undef))] [(3, .box 24 [.int .i64 c.1, .sl (.pair (.int .i64) (.pair (.int .i64) (.int .i64))) c.2]), (4, .box 24 [.int .i64 a.1, .sl (.pair (.int .i64) (.pair (.int .i64) (.int .i64))) a.2]), (41000, .arr 58 (.pair (.int .i64) (.int .i64)) v0_4.1), (60000, .arr 58 (.pair (.int .i64) (.int .i64)) v0_7.1)] ?_
           refine zB [(2, .sl (.pair (.int .i64) (.int .i64)) r0), (3, .bp 3 0), (4, .bp 4 0), (7, .own 41000), (11, .bool v0_6.1), (13, .own 60000), (102, .bool true)] [(3, .box 24 [.int .i64 c.1, .sl (.pair (.int .i64) (.pair (.int .i64) (.int .i64))) c.2]), (4, .box 24 [.int .i64 a.1, .sl (.pair (.int .i64) (.pair (.int .i64) (.int .i64))) a.2]), (41000, .arr 58 (.pair (.int .i64) (.int .i64)) v0_4.1), (60000, .arr 58 (.pair (.int .i64) (.int .i64)) v0_7.1)] ?_
           refine AW.cond (b := true) rfl (fun _ => ?_) (fun hb49 => by cases hb49)
           refine zo ?_
           refine zB [(6, .bool false)] [] ?_
           refine zr ?_
           obtain rfl := Option.some.inj h
           exact zR [] [] []
          ·refine zS 5 [(2, .sl (.pair (.int .i64) (.int .i64)) r0), (3, .bp 3 0), (4, .bp 4 0), (7, .own 41000), (11, .bool v0_6.1), (13, .own 60000), (14, .int .i64 v0_7.2), (94, .bool ((v0_6.1 == (decide (v0_7.2 = 0))) != true))] [(3, .box 24 [.int .i64 c.1, .sl (.pair (.int .i64) (.pair (.int .i64) (.int .i64))) c.2]), (4, .box 24 [.int .i64 a.1, .sl (.pair (.int .i64) (.pair (.int .i64) (.int .i64))) a.2]), (41000, .arr 58 (.pair (.int .i64) (.int .i64)) v0_4.1), (60000, .arr 58 (.pair (.int .i64) (.int .i64)) v0_7.1)] ?_
           refine zS 1 [(2, .sl (.pair (.int .i64) (.int .i64)) r0), (3, .bp 3 0), (4, .bp 4 0), (7, .own 41000), (11, .bool v0_6.1), (13, .own 60000), (14, .int .i64 v0_7.2), (95, .bool ((v0_6.1 == (decide (v0_7.2 = 0))) != true))] [(3, .box 24 [.int .i64 c.1, .sl (.pair (.int .i64) (.pair (.int .i64) (.int .i64))) c.2]), (4, .box 24 [.int .i64 a.1, .sl (.pair (.int .i64) (.pair (.int .i64) (.int .i64))) a.2]), (41000, .arr 58 (.pair (.int .i64) (.int .i64)) v0_4.1), (60000, .arr 58 (.pair (.int .i64) (.int .i64)) v0_7.1)] ?_
           rcases zI h with ⟨hb50, h⟩ | ⟨hb50, h⟩
           ·refine zS 4 [(2, .sl (.pair (.int .i64) (.int .i64)) r0), (3, .bp 3 0), (4, .bp 4 0), (7, .own 41000), (11, .bool v0_6.1), (13, .own 60000), (95, .bool true), (98, .cv (undef)), (99, .cv (undef))] [(3, .box 24 [.int .i64 c.1, .sl (.pair (.int .i64) (.pair (.int .i64) (.int .i64))) c.2]), (4, .box 24 [.int .i64 a.1, .sl (.pair (.int .i64) (.pair (.int .i64) (.int .i64))) a.2]), (41000, .arr 58 (.pair (.int .i64) (.int .i64)) v0_4.1), (60000, .arr 58 (.pair (.int .i64) (.int .i64)) v0_7.1)] ?_
            refine zB [(2, .sl (.pair (.int .i64) (.int .i64)) r0), (3, .bp 3 0), (4, .bp 4 0), (7, .own 41000), (11, .bool v0_6.1), (13, .own 60000), (102, .bool true)] [(3, .box 24 [.int .i64 c.1, .sl (.pair (.int .i64) (.pair (.int .i64) (.int .i64))) c.2]), (4, .box 24 [.int .i64 a.1, .sl (.pair (.int .i64) (.pair (.int .i64) (.int .i64))) a.2]), (41000, .arr 58 (.pair (.int .i64) (.int .i64)) v0_4.1), (60000, .arr 58 (.pair (.int .i64) (.int .i64)) v0_7.1)] ?_
            refine AW.cond (b := true) rfl (fun _ => ?_) (fun hb51 => by cases hb51)
            refine zo ?_
            refine zB [(6, .bool false)] [] ?_
            refine zr ?_
            obtain rfl := Option.some.inj h
            exact zR [] [] []
           ·refine zS 3 [(2, .sl (.pair (.int .i64) (.int .i64)) r0), (3, .bp 3 0), (4, .bp 4 0), (7, .own 41000), (11, .bool v0_6.1), (13, .own 60000), (14, .int .i64 v0_7.2), (95, .bool false), (98, .bool (!v0_6.1))] [(3, .box 24 [.int .i64 c.1, .sl (.pair (.int .i64) (.pair (.int .i64) (.int .i64))) c.2]), (4, .box 24 [.int .i64 a.1, .sl (.pair (.int .i64) (.pair (.int .i64) (.int .i64))) a.2]), (41000, .arr 58 (.pair (.int .i64) (.int .i64)) v0_4.1), (60000, .arr 58 (.pair (.int .i64) (.int .i64)) v0_7.1)] ?_
            rcases zI h with ⟨hb52, h⟩ | ⟨hb52, h⟩
            ·refine zB [(2, .sl (.pair (.int .i64) (.int .i64)) r0), (3, .bp 3 0), (4, .bp 4 0), (7, .own 41000), (11, .bool v0_6.1), (13, .own 60000), (102, .bool (!(decide (v0_7.2 = 5))))] [(3, .box 24 [.int .i64 c.1, .sl (.pair (.int .i64) (.pair (.int .i64) (.int .i64))) c.2]), (4, .box 24 [.int .i64 a.1, .sl (.pair (.int .i64) (.pair (.int .i64) (.int .i64))) a.2]), (41000, .arr 58 (.pair (.int .i64) (.int .i64)) v0_4.1), (60000, .arr 58 (.pair (.int .i64) (.int .i64)) v0_7.1)] ?_
             refine zQ h (fun hb53 h => ?_) (fun hb53 h => ?_)
             ·refine zo ?_
              refine zB [(6, .bool false)] [] ?_
              refine zr ?_
              obtain rfl := Option.some.inj h
              exact zR [] [] []
             ·refine zk ?_
              exact AW.weaken (zL [] [] []) (hk_lineallaw05_RefineBest_k1 () h)
            ·refine zB [(2, .sl (.pair (.int .i64) (.int .i64)) r0), (3, .bp 3 0), (4, .bp 4 0), (7, .own 41000), (11, .bool v0_6.1), (13, .own 60000), (102, .bool false)] [(3, .box 24 [.int .i64 c.1, .sl (.pair (.int .i64) (.pair (.int .i64) (.int .i64))) c.2]), (4, .box 24 [.int .i64 a.1, .sl (.pair (.int .i64) (.pair (.int .i64) (.int .i64))) a.2]), (41000, .arr 58 (.pair (.int .i64) (.int .i64)) v0_4.1), (60000, .arr 58 (.pair (.int .i64) (.int .i64)) v0_7.1)] ?_
             refine AW.cond (b := false) rfl (fun hb54 => by cases hb54) (fun _ => ?_)
             refine zk ?_
             exact AW.weaken (zL [] [] []) (hk_lineallaw05_RefineBest_k1 () h)

end Go.Proofs.Ytifleoceebaooaa
