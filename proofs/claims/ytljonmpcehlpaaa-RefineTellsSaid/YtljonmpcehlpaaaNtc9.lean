/-
  Made by wip/tool/dc.py out of the print of the program: contracts.
-/
import Derived.Test.YtljonmpcehlpaaaRfp
import Derived.Test.YtljonmpcehlpaaaShr
import Derived.Test.YtljonmpcehlpaaaAvd
import Derived.Test.YtljonmpcehlpaaaNtc3
import Derived.Test.YtljonmpcehlpaaaNtc4
import Derived.Test.YtljonmpcehlpaaaNtc6
import Derived.Test.YtljonmpcehlpaaaNtc7
import Derived.Test.YtljonmpcehlpaaaNtc8
namespace Go.Proofs.Ytljonmpcehlpaaa
open Go.RowKit

set_option linter.unusedSimpArgs false
set_option linter.unusedVariables false
set_option linter.constructorNameAsVariable false

set_option maxRecDepth 100000
set_option maxHeartbeats 2000000

theorem hc_lineallaw05_RefineTells (c : Int × (List (Int × Int × Int))) (a : Int × (List (Int × Int × Int))) (trace : List Int) {r : Bool} (h : lineallaw05_RefineTells c a trace = some r) : HC Try.prog 12 [] [.agg [.int .i64 c.1, .sl (.pair (.int .i64) (.pair (.int .i64) (.int .i64))) c.2], .agg [.int .i64 a.1, .sl (.pair (.int .i64) (.pair (.int .i64) (.int .i64))) a.2], .sl (.int .i64) trace] [] (.bool r) := by
 unfold lineallaw05_RefineTells at h
 refine zH Try.func12 [.tmp 6] 213 ?_
 refine zo ?_
 refine zB [(2, .sl (.int .i64) trace), (3, .bp 3 0), (4, .bp 4 0)] [(3, .box 24 [.int .i64 c.1, .sl (.pair (.int .i64) (.pair (.int .i64) (.int .i64))) c.2]), (4, .box 24 [.int .i64 a.1, .sl (.pair (.int .i64) (.pair (.int .i64) (.int .i64))) a.2])] ?_
 refine AW.seq ?_
 refine zo ?_
 refine zS 3 [(2, .sl (.int .i64) trace), (3, .bp 3 0), (4, .bp 4 0), (26, .own 26)] [(3, .box 24 [.int .i64 c.1, .sl (.pair (.int .i64) (.pair (.int .i64) (.int .i64))) c.2]), (4, .box 24 [.int .i64 a.1, .sl (.pair (.int .i64) (.pair (.int .i64) (.int .i64))) a.2]), (26, .arr 24 (.pair (.int .i64) (.sl (.pair (.int .i64) (.pair (.int .i64) (.int .i64))))) [c, a])] ?_
 obtain ⟨v0, hv1, h⟩ := Option.bind_eq_some_iff.1 h
 refine zC [26] [] (hc_lineallaw05_valid [c, a] hv1) [(2, .sl (.int .i64) trace), (3, .bp 3 0), (4, .bp 4 0), (27, .bool v0)] [(3, .box 24 [.int .i64 c.1, .sl (.pair (.int .i64) (.pair (.int .i64) (.int .i64))) c.2]), (4, .box 24 [.int .i64 a.1, .sl (.pair (.int .i64) (.pair (.int .i64) (.int .i64))) a.2])] ?_
 refine zS 2 [(2, .sl (.int .i64) trace), (3, .bp 3 0), (4, .bp 4 0), (29, .bool (!v0))] [(3, .box 24 [.int .i64 c.1, .sl (.pair (.int .i64) (.pair (.int .i64) (.int .i64))) c.2]), (4, .box 24 [.int .i64 a.1, .sl (.pair (.int .i64) (.pair (.int .i64) (.int .i64))) a.2])] ?_
 rcases zI h with ⟨hb2, h⟩ | ⟨hb2, h⟩
 ·refine zB [(2, .sl (.int .i64) trace), (3, .bp 3 0), (4, .bp 4 0), (33, .bool true)] [(3, .box 24 [.int .i64 c.1, .sl (.pair (.int .i64) (.pair (.int .i64) (.int .i64))) c.2]), (4, .box 24 [.int .i64 a.1, .sl (.pair (.int .i64) (.pair (.int .i64) (.int .i64))) a.2])] ?_
  refine AW.cond (b := true) rfl (fun _ => ?_) (fun hb3 => by cases hb3)
  refine zo ?_
  obtain ⟨v0_2, hv4, h⟩ := Option.bind_eq_some_iff.1 h
  refine zC [] [] (hc_lineallaw05_Awake hv4) [(34, .bool v0_2)] [] ?_
  refine zB [(6, .bool v0_2)] [] ?_
  refine zr ?_
  obtain rfl := Option.some.inj h
  exact zR [] [] []
 ·refine zB [(2, .sl (.int .i64) trace), (3, .bp 3 0), (4, .bp 4 0), (33, .bool (decide (100 < (trace.length : Int))))] [(3, .box 24 [.int .i64 c.1, .sl (.pair (.int .i64) (.pair (.int .i64) (.int .i64))) c.2]), (4, .box 24 [.int .i64 a.1, .sl (.pair (.int .i64) (.pair (.int .i64) (.int .i64))) a.2])] ?_
  refine zQ h (fun hb5 h => ?_) (fun hb5 h => ?_)
  ·refine zo ?_
   obtain ⟨v0_3, hv6, h⟩ := Option.bind_eq_some_iff.1 h
   refine zC [] [] (hc_lineallaw05_Awake hv6) [(34, .bool v0_3)] [] ?_
   refine zB [(6, .bool v0_3)] [] ?_
   refine zr ?_
   obtain rfl := Option.some.inj h
   exact zR [] [] []
  ·refine zk ?_
   refine zo ?_
   refine zS 2 [(2, .sl (.int .i64) trace), (3, .bp 3 0), (4, .bp 4 0), (36, .agg [.int .i64 c.1, .sl (.pair (.int .i64) (.pair (.int .i64) (.int .i64))) c.2]), (37, .agg [.int .i64 a.1, .sl (.pair (.int .i64) (.pair (.int .i64) (.int .i64))) a.2])] [(3, .box 24 [.int .i64 c.1, .sl (.pair (.int .i64) (.pair (.int .i64) (.int .i64))) c.2]), (4, .box 24 [.int .i64 a.1, .sl (.pair (.int .i64) (.pair (.int .i64) (.int .i64))) a.2])] ?_
   obtain ⟨v0_4, hv7, h⟩ := Option.bind_eq_some_iff.1 h
   refine zC [] [] (hc_refine_Refines c a hv7) [(2, .sl (.int .i64) trace), (3, .bp 3 0), (4, .bp 4 0), (38, .tup [.bool v0_4.1, .int .i64 v0_4.2])] [(3, .box 24 [.int .i64 c.1, .sl (.pair (.int .i64) (.pair (.int .i64) (.int .i64))) c.2]), (4, .box 24 [.int .i64 a.1, .sl (.pair (.int .i64) (.pair (.int .i64) (.int .i64))) a.2])] ?_
   refine zB [(2, .sl (.int .i64) trace), (3, .bp 3 0), (4, .bp 4 0), (7, .bool v0_4.1), (8, .int .i64 v0_4.2)] [(3, .box 24 [.int .i64 c.1, .sl (.pair (.int .i64) (.pair (.int .i64) (.int .i64))) c.2]), (4, .box 24 [.int .i64 a.1, .sl (.pair (.int .i64) (.pair (.int .i64) (.int .i64))) a.2])] ?_
   refine zo ?_
   refine zS 2 [(2, .sl (.int .i64) trace), (3, .bp 3 0), (4, .bp 4 0), (7, .bool v0_4.1), (8, .int .i64 v0_4.2), (42, .agg [.int .i64 c.1, .sl (.pair (.int .i64) (.pair (.int .i64) (.int .i64))) c.2]), (43, .agg [.int .i64 a.1, .sl (.pair (.int .i64) (.pair (.int .i64) (.int .i64))) a.2])] [(3, .box 24 [.int .i64 c.1, .sl (.pair (.int .i64) (.pair (.int .i64) (.int .i64))) c.2]), (4, .box 24 [.int .i64 a.1, .sl (.pair (.int .i64) (.pair (.int .i64) (.int .i64))) a.2])] ?_
   obtain ⟨v0_5, hv8, h⟩ := Option.bind_eq_some_iff.1 h
   refine zC [] [] (hc_refine_Shows c a hv8) [(2, .sl (.int .i64) trace), (3, .bp 3 0), (4, .bp 4 0), (7, .bool v0_4.1), (8, .int .i64 v0_4.2), (44, .tup [.own 54000, .int .i64 v0_5.2])] [(3, .box 24 [.int .i64 c.1, .sl (.pair (.int .i64) (.pair (.int .i64) (.int .i64))) c.2]), (4, .box 24 [.int .i64 a.1, .sl (.pair (.int .i64) (.pair (.int .i64) (.int .i64))) a.2]), (54000, .arr 3 (.int .i64) v0_5.1)] ?_
   refine zB [(2, .sl (.int .i64) trace), (3, .bp 3 0), (4, .bp 4 0), (7, .bool v0_4.1), (8, .int .i64 v0_4.2), (9, .own 54000), (10, .int .i64 v0_5.2)] [(3, .box 24 [.int .i64 c.1, .sl (.pair (.int .i64) (.pair (.int .i64) (.int .i64))) c.2]), (4, .box 24 [.int .i64 a.1, .sl (.pair (.int .i64) (.pair (.int .i64) (.int .i64))) a.2]), (54000, .arr 3 (.int .i64) v0_5.1)] ?_
   refine zo ?_
   refine zS 1 [(2, .sl (.int .i64) trace), (3, .bp 3 0), (4, .bp 4 0), (7, .bool v0_4.1), (8, .int .i64 v0_4.2), (9, .own 54000), (10, .int .i64 v0_5.2), (48, .agg [.int .i64 a.1, .sl (.pair (.int .i64) (.pair (.int .i64) (.int .i64))) a.2])] [(3, .box 24 [.int .i64 c.1, .sl (.pair (.int .i64) (.pair (.int .i64) (.int .i64))) c.2]), (4, .box 24 [.int .i64 a.1, .sl (.pair (.int .i64) (.pair (.int .i64) (.int .i64))) a.2]), (54000, .arr 3 (.int .i64) v0_5.1)] ?_
   obtain ⟨v0_6, hv9, h⟩ := Option.bind_eq_some_iff.1 h
   refine zC [] [] (hc_refine_Plain a hv9) [(2, .sl (.int .i64) trace), (3, .bp 3 0), (4, .bp 4 0), (7, .bool v0_4.1), (8, .int .i64 v0_4.2), (9, .own 54000), (10, .int .i64 v0_5.2), (49, .tup [.bool v0_6.1, .int .i64 v0_6.2])] [(3, .box 24 [.int .i64 c.1, .sl (.pair (.int .i64) (.pair (.int .i64) (.int .i64))) c.2]), (4, .box 24 [.int .i64 a.1, .sl (.pair (.int .i64) (.pair (.int .i64) (.int .i64))) a.2]), (54000, .arr 3 (.int .i64) v0_5.1)] ?_
   refine zB [(2, .sl (.int .i64) trace), (3, .bp 3 0), (4, .bp 4 0), (7, .bool v0_4.1), (8, .int .i64 v0_4.2), (9, .own 54000), (10, .int .i64 v0_5.2), (11, .bool v0_6.1), (12, .int .i64 v0_6.2)] [(3, .box 24 [.int .i64 c.1, .sl (.pair (.int .i64) (.pair (.int .i64) (.int .i64))) c.2]), (4, .box 24 [.int .i64 a.1, .sl (.pair (.int .i64) (.pair (.int .i64) (.int .i64))) a.2]), (54000, .arr 3 (.int .i64) v0_5.1)] ?_
   refine AW.have1 (fun _ : Unit => lineallaw05_RefineTells_k1 c a trace v0_5 = some r) (fun _ => ⟨fr [(2, .sl (.int .i64) trace), (3, .bp 3 0), (4, .bp 4 0), (9, .own 54000), (10, .int .i64 v0_5.2)], hpGet [(3, .box 24 [.int .i64 c.1, .sl (.pair (.int .i64) (.pair (.int .i64) (.int .i64))) c.2]), (4, .box 24 [.int .i64 a.1, .sl (.pair (.int .i64) (.pair (.int .i64) (.int .i64))) a.2]), (54000, .arr 3 (.int .i64) v0_5.1)], gt⟩) (fun _ h => ?_) (fun hk_lineallaw05_RefineTells_k1 => ?_)
   ·as_aux_lemma =>
     unfold lineallaw05_RefineTells_k1 at h
     refine zo ?_
     refine zS 2 [(2, .sl (.int .i64) trace), (3, .bp 3 0), (4, .bp 4 0), (9, .own 54000), (10, .int .i64 v0_5.2), (83, .agg [.int .i64 c.1, .sl (.pair (.int .i64) (.pair (.int .i64) (.int .i64))) c.2]), (84, .sl (.int .i64) trace)] [(3, .box 24 [.int .i64 c.1, .sl (.pair (.int .i64) (.pair (.int .i64) (.int .i64))) c.2]), (4, .box 24 [.int .i64 a.1, .sl (.pair (.int .i64) (.pair (.int .i64) (.int .i64))) a.2]), (54000, .arr 3 (.int .i64) v0_5.1)] ?_
     obtain ⟨v0_7, hv10, h⟩ := Option.bind_eq_some_iff.1 h
     refine zC [] [] (hc_refine_IsTrace c trace hv10) [(2, .sl (.int .i64) trace), (3, .bp 3 0), (4, .bp 4 0), (9, .own 54000), (10, .int .i64 v0_5.2), (85, .tup [.bool v0_7.1, .int .i64 v0_7.2])] [(3, .box 24 [.int .i64 c.1, .sl (.pair (.int .i64) (.pair (.int .i64) (.int .i64))) c.2]), (4, .box 24 [.int .i64 a.1, .sl (.pair (.int .i64) (.pair (.int .i64) (.int .i64))) a.2]), (54000, .arr 3 (.int .i64) v0_5.1)] ?_
     refine zB [(2, .sl (.int .i64) trace), (3, .bp 3 0), (4, .bp 4 0), (8, .int .i64 v0_7.2), (9, .own 54000), (10, .int .i64 v0_5.2), (13, .bool v0_7.1)] [(3, .box 24 [.int .i64 c.1, .sl (.pair (.int .i64) (.pair (.int .i64) (.int .i64))) c.2]), (4, .box 24 [.int .i64 a.1, .sl (.pair (.int .i64) (.pair (.int .i64) (.int .i64))) a.2]), (54000, .arr 3 (.int .i64) v0_5.1)] ?_
     refine zo ?_
     refine zS 2 [(2, .sl (.int .i64) trace), (3, .bp 3 0), (4, .bp 4 0), (8, .int .i64 v0_7.2), (9, .own 54000), (10, .int .i64 v0_5.2), (13, .bool v0_7.1), (89, .agg [.int .i64 a.1, .sl (.pair (.int .i64) (.pair (.int .i64) (.int .i64))) a.2]), (90, .sl (.int .i64) trace)] [(3, .box 24 [.int .i64 c.1, .sl (.pair (.int .i64) (.pair (.int .i64) (.int .i64))) c.2]), (4, .box 24 [.int .i64 a.1, .sl (.pair (.int .i64) (.pair (.int .i64) (.int .i64))) a.2]), (54000, .arr 3 (.int .i64) v0_5.1)] ?_
     obtain ⟨v0_8, hv11, h⟩ := Option.bind_eq_some_iff.1 h
     refine zC [] [] (hc_refine_IsTrace a trace hv11) [(2, .sl (.int .i64) trace), (3, .bp 3 0), (4, .bp 4 0), (8, .int .i64 v0_7.2), (9, .own 54000), (10, .int .i64 v0_5.2), (13, .bool v0_7.1), (91, .tup [.bool v0_8.1, .int .i64 v0_8.2])] [(3, .box 24 [.int .i64 c.1, .sl (.pair (.int .i64) (.pair (.int .i64) (.int .i64))) c.2]), (4, .box 24 [.int .i64 a.1, .sl (.pair (.int .i64) (.pair (.int .i64) (.int .i64))) a.2]), (54000, .arr 3 (.int .i64) v0_5.1)] ?_
     refine zB [(2, .sl (.int .i64) trace), (3, .bp 3 0), (4, .bp 4 0), (8, .int .i64 v0_7.2), (9, .own 54000), (10, .int .i64 v0_5.2), (13, .bool v0_7.1), (14, .bool v0_8.1), (15, .int .i64 v0_8.2)] [(3, .box 24 [.int .i64 c.1, .sl (.pair (.int .i64) (.pair (.int .i64) (.int .i64))) c.2]), (4, .box 24 [.int .i64 a.1, .sl (.pair (.int .i64) (.pair (.int .i64) (.int .i64))) a.2]), (54000, .arr 3 (.int .i64) v0_5.1)] ?_
     refine AW.have1 (fun b2 : Bool => lineallaw05_RefineTells_k2 c a trace v0_5 v0_8 b2 = some r) (fun b2 => ⟨fr [(2, .sl (.int .i64) trace), (3, .bp 3 0), (4, .bp 4 0), (9, .own 54000), (10, .int .i64 v0_5.2), (13, .bool b2), (14, .bool v0_8.1)], hpGet [(3, .box 24 [.int .i64 c.1, .sl (.pair (.int .i64) (.pair (.int .i64) (.int .i64))) c.2]), (4, .box 24 [.int .i64 a.1, .sl (.pair (.int .i64) (.pair (.int .i64) (.int .i64))) a.2]), (54000, .arr 3 (.int .i64) v0_5.1)], gt⟩) (fun b2 h => ?_) (fun hk_lineallaw05_RefineTells_k2 => ?_)
     ·as_aux_lemma =>
       unfold lineallaw05_RefineTells_k2 at h
       refine AW.seq ?_
       refine zo ?_
       refine zB [(2, .sl (.int .i64) trace), (3, .bp 3 0), (4, .bp 4 0), (9, .own 54000), (13, .bool b2), (14, .bool v0_8.1), (109, .bool (!(decide (v0_5.2 = 0))))] [(3, .box 24 [.int .i64 c.1, .sl (.pair (.int .i64) (.pair (.int .i64) (.int .i64))) c.2]), (4, .box 24 [.int .i64 a.1, .sl (.pair (.int .i64) (.pair (.int .i64) (.int .i64))) a.2]), (54000, .arr 3 (.int .i64) v0_5.1)] ?_
       refine zQ h (fun hb12 h => ?_) (fun hb12 h => ?_)
       ·refine zo ?_
        refine zS 4 [(113, .bool (decide ((v0_5.1.length : Int) = 0)))] [] ?_
        rcases zI h with ⟨hb13, h⟩ | ⟨hb13, h⟩
        ·refine zT [(113, .bool true)] [] gt ?_
         obtain ⟨v0_9, hv14, h⟩ := Option.bind_eq_some_iff.1 h
         refine zG [] [] (hc_lineallaw05_Awake hv14) [(113, .bool true), (114, .bool v0_9)] [] ?_
         refine zB [(6, .bool v0_9)] [] ?_
         refine zr ?_
         obtain rfl := Option.some.inj h
         exact zR [] [] []
        ·refine zB [(6, .bool false)] [] ?_
         refine zr ?_
         obtain rfl := Option.some.inj h
         exact zR [] [] []
       ·refine zk ?_
        refine AW.have1 (fun _ : Unit => lineallaw05_RefineTells_k3 c a v0_5 = some r) (fun _ => ⟨fr [(3, .bp 3 0), (4, .bp 4 0), (9, .own 54000)], hpGet [(3, .box 24 [.int .i64 c.1, .sl (.pair (.int .i64) (.pair (.int .i64) (.int .i64))) c.2]), (4, .box 24 [.int .i64 a.1, .sl (.pair (.int .i64) (.pair (.int .i64) (.int .i64))) a.2]), (54000, .arr 3 (.int .i64) v0_5.1)], gt⟩) (fun _ h => ?_) (fun hk_lineallaw05_RefineTells_k3 => ?_)
        ·as_aux_lemma =>
          unfold lineallaw05_RefineTells_k3 at h
          refine zo ?_
          refine zS 2 [(3, .bp 3 0), (4, .bp 4 0), (9, .own 54000), (139, .agg [.int .i64 c.1, .sl (.pair (.int .i64) (.pair (.int .i64) (.int .i64))) c.2]), (140, .own 54000)] [(3, .box 24 [.int .i64 c.1, .sl (.pair (.int .i64) (.pair (.int .i64) (.int .i64))) c.2]), (4, .box 24 [.int .i64 a.1, .sl (.pair (.int .i64) (.pair (.int .i64) (.int .i64))) a.2]), (54000, .arr 3 (.int .i64) v0_5.1)] ?_
          obtain ⟨v0_10, hv15, h⟩ := Option.bind_eq_some_iff.1 h
          refine zC [54000] [] (hc_refine_IsTrace c v0_5.1 hv15) [(3, .bp 3 0), (4, .bp 4 0), (9, .own 54000), (141, .tup [.bool v0_10.1, .int .i64 v0_10.2])] [(3, .box 24 [.int .i64 c.1, .sl (.pair (.int .i64) (.pair (.int .i64) (.int .i64))) c.2]), (4, .box 24 [.int .i64 a.1, .sl (.pair (.int .i64) (.pair (.int .i64) (.int .i64))) a.2]), (54000, .arr 3 (.int .i64) v0_5.1)] ?_
          refine zB [(3, .bp 3 0), (4, .bp 4 0), (8, .int .i64 v0_10.2), (9, .own 54000), (16, .bool v0_10.1)] [(3, .box 24 [.int .i64 c.1, .sl (.pair (.int .i64) (.pair (.int .i64) (.int .i64))) c.2]), (4, .box 24 [.int .i64 a.1, .sl (.pair (.int .i64) (.pair (.int .i64) (.int .i64))) a.2]), (54000, .arr 3 (.int .i64) v0_5.1)] ?_
          refine zo ?_
          refine zS 2 [(3, .bp 3 0), (4, .bp 4 0), (8, .int .i64 v0_10.2), (9, .own 54000), (16, .bool v0_10.1), (145, .agg [.int .i64 a.1, .sl (.pair (.int .i64) (.pair (.int .i64) (.int .i64))) a.2]), (146, .own 54000)] [(3, .box 24 [.int .i64 c.1, .sl (.pair (.int .i64) (.pair (.int .i64) (.int .i64))) c.2]), (4, .box 24 [.int .i64 a.1, .sl (.pair (.int .i64) (.pair (.int .i64) (.int .i64))) a.2]), (54000, .arr 3 (.int .i64) v0_5.1)] ?_
          obtain ⟨v0_11, hv16, h⟩ := Option.bind_eq_some_iff.1 h
          refine zC [54000] [] (hc_refine_IsTrace a v0_5.1 hv16) [(3, .bp 3 0), (4, .bp 4 0), (8, .int .i64 v0_10.2), (9, .own 54000), (16, .bool v0_10.1), (147, .tup [.bool v0_11.1, .int .i64 v0_11.2])] [(3, .box 24 [.int .i64 c.1, .sl (.pair (.int .i64) (.pair (.int .i64) (.int .i64))) c.2]), (4, .box 24 [.int .i64 a.1, .sl (.pair (.int .i64) (.pair (.int .i64) (.int .i64))) a.2]), (54000, .arr 3 (.int .i64) v0_5.1)] ?_
          refine zB [(3, .bp 3 0), (4, .bp 4 0), (8, .int .i64 v0_10.2), (9, .own 54000), (15, .int .i64 v0_11.2), (16, .bool v0_10.1), (17, .bool v0_11.1)] [(3, .box 24 [.int .i64 c.1, .sl (.pair (.int .i64) (.pair (.int .i64) (.int .i64))) c.2]), (4, .box 24 [.int .i64 a.1, .sl (.pair (.int .i64) (.pair (.int .i64) (.int .i64))) a.2]), (54000, .arr 3 (.int .i64) v0_5.1)] ?_
          refine AW.seq ?_
          refine AW.draw tab_ok mixed_ok [(5, [54000])] [(0, [4])] (by decide) (lex_fast (by kernel_rfl)) ?_
          as_aux_lemma =>
           obtain ⟨c18, h⟩ := ck_some.1 h
           obtain ⟨c19, h⟩ := ck_some.1 h
           obtain ⟨c20, h⟩ := ck_some.1 h
           refine adops_cut 6 (fun K' hK17 => ?_)
           try dsimp only [List.drop_succ_cons, List.drop_zero, List.take_succ_cons, List.take_zero]
           simp only [go_sem, hb2, hb5, hb12]
           repeat with_reducible refine zN ?_
           refine hK17 _ ?_
           as_aux_lemma =>
            obtain ⟨v0_12, hv21, h⟩ := Option.bind_eq_some_iff.1 h
            refine adops.call (by first | trivial | rfl) rfl rfl rfl (fun _ h => h) [] [] (hc_refine_IsTrace a (v0_5.1.take ((v0_5.1.length : Int) - 1).toNat) hv21) rfl (by (simp only [go_sem, hb2, hb5, hb12]) <;> (with_reducible and_intros) <;> first | assumption | rfl | omega | (unfold maxLen; omega)) (by (simp only [go_sem, hb2, hb5, hb12]) <;> (with_reducible and_intros) <;> first | assumption | rfl | omega | (unfold maxLen; omega)) rfl ?_
            refine adops_cut 5 (fun K' hK22 => ?_)
            try dsimp only [List.drop_succ_cons, List.drop_zero, List.take_succ_cons, List.take_zero]
            simp only [go_sem, hb2, hb5, hb12]
            repeat with_reducible refine zN ?_
            refine hK22 _ ?_
            refine adops_nil ?_
            refine athen_n ?_
            refine zV [(3, .bp 3 0), (8, .int .i64 v0_10.2), (9, .own 54000), (15, .int .i64 v0_11.2), (16, .bool v0_10.1), (17, .bool v0_11.1), (18, .bool v0_12.1), (19, .int .i64 v0_12.2)] [(3, .box 24 [.int .i64 c.1, .sl (.pair (.int .i64) (.pair (.int .i64) (.int .i64))) c.2]), (54000, .imm (.int .i64) v0_5.1)] gt ?_
            as_aux_lemma =>
             refine AW.seq ?_
             refine zo ?_
             refine zS 3 [(3, .bp 3 0), (9, .own 54000), (15, .int .i64 v0_11.2), (16, .bool v0_10.1), (17, .bool v0_11.1), (18, .bool v0_12.1), (19, .int .i64 v0_12.2), (162, .bool (!(decide (v0_10.2 = 0))))] [(3, .box 24 [.int .i64 c.1, .sl (.pair (.int .i64) (.pair (.int .i64) (.int .i64))) c.2]), (54000, .imm (.int .i64) v0_5.1)] ?_
             rcases zI h with ⟨hb23, h⟩ | ⟨hb23, h⟩
             ·refine zS 5 [(3, .bp 3 0), (9, .own 54000), (16, .bool v0_10.1), (17, .bool v0_11.1), (18, .bool v0_12.1), (166, .bool true), (167, .cv (undef))] [(3, .box 24 [.int .i64 c.1, .sl (.pair (.int .i64) (.pair (.int .i64) (.int .i64))) c.2]), (54000, .imm (.int .i64) v0_5.1)] ?_
              refine zS 5 [(3, .bp 3 0), (9, .own 54000), (17, .bool v0_11.1), (18, .bool v0_12.1), (170, .bool true), (172, .cv (undef))] [(3, .box 24 [.int .i64 c.1, .sl (.pair (.int .i64) (.pair (.int .i64) (.int .i64))) c.2]), (54000, .imm (.int .i64) v0_5.1)] ?_
              refine zS 5 [(3, .bp 3 0), (9, .own 54000), (18, .bool v0_12.1), (177, .bool true)] [(3, .box 24 [.int .i64 c.1, .sl (.pair (.int .i64) (.pair (.int .i64) (.int .i64))) c.2]), (54000, .imm (.int .i64) v0_5.1)] ?_
              refine zB [(3, .bp 3 0), (9, .own 54000), (180, .bool true)] [(3, .box 24 [.int .i64 c.1, .sl (.pair (.int .i64) (.pair (.int .i64) (.int .i64))) c.2]), (54000, .imm (.int .i64) v0_5.1)] ?_
              refine AW.cond (b := true) rfl (fun _ => ?_) (fun hb24 => by cases hb24)
              refine zo ?_
              refine zB [(6, .bool false)] [] ?_
              refine zr ?_
              obtain rfl := Option.some.inj h
              exact zR [] [] []
             ·refine zS 4 [(3, .bp 3 0), (9, .own 54000), (16, .bool v0_10.1), (17, .bool v0_11.1), (18, .bool v0_12.1), (19, .int .i64 v0_12.2), (166, .bool (!(decide (v0_11.2 = 0))))] [(3, .box 24 [.int .i64 c.1, .sl (.pair (.int .i64) (.pair (.int .i64) (.int .i64))) c.2]), (54000, .imm (.int .i64) v0_5.1)] ?_
              rcases zI h with ⟨hb25, h⟩ | ⟨hb25, h⟩
              ·refine zS 5 [(3, .bp 3 0), (9, .own 54000), (17, .bool v0_11.1), (18, .bool v0_12.1), (170, .bool true), (171, .cv (undef))] [(3, .box 24 [.int .i64 c.1, .sl (.pair (.int .i64) (.pair (.int .i64) (.int .i64))) c.2]), (54000, .imm (.int .i64) v0_5.1)] ?_
               refine zS 5 [(3, .bp 3 0), (9, .own 54000), (18, .bool v0_12.1), (176, .bool true)] [(3, .box 24 [.int .i64 c.1, .sl (.pair (.int .i64) (.pair (.int .i64) (.int .i64))) c.2]), (54000, .imm (.int .i64) v0_5.1)] ?_
               refine zB [(3, .bp 3 0), (9, .own 54000), (180, .bool true)] [(3, .box 24 [.int .i64 c.1, .sl (.pair (.int .i64) (.pair (.int .i64) (.int .i64))) c.2]), (54000, .imm (.int .i64) v0_5.1)] ?_
               refine AW.cond (b := true) rfl (fun _ => ?_) (fun hb26 => by cases hb26)
               refine zo ?_
               refine zB [(6, .bool false)] [] ?_
               refine zr ?_
               obtain rfl := Option.some.inj h
               exact zR [] [] []
              ·refine zS 4 [(3, .bp 3 0), (9, .own 54000), (16, .bool v0_10.1), (17, .bool v0_11.1), (18, .bool v0_12.1), (170, .bool (!(decide (v0_12.2 = 0))))] [(3, .box 24 [.int .i64 c.1, .sl (.pair (.int .i64) (.pair (.int .i64) (.int .i64))) c.2]), (54000, .imm (.int .i64) v0_5.1)] ?_
               rcases zI h with ⟨hb27, h⟩ | ⟨hb27, h⟩
               ·refine zS 5 [(3, .bp 3 0), (9, .own 54000), (18, .bool v0_12.1), (174, .bool true), (175, .cv (undef))] [(3, .box 24 [.int .i64 c.1, .sl (.pair (.int .i64) (.pair (.int .i64) (.int .i64))) c.2]), (54000, .imm (.int .i64) v0_5.1)] ?_
                refine zB [(3, .bp 3 0), (9, .own 54000), (180, .bool true)] [(3, .box 24 [.int .i64 c.1, .sl (.pair (.int .i64) (.pair (.int .i64) (.int .i64))) c.2]), (54000, .imm (.int .i64) v0_5.1)] ?_
                refine AW.cond (b := true) rfl (fun _ => ?_) (fun hb28 => by cases hb28)
                refine zo ?_
                refine zB [(6, .bool false)] [] ?_
                refine zr ?_
                obtain rfl := Option.some.inj h
                exact zR [] [] []
               ·refine zS 4 [(3, .bp 3 0), (9, .own 54000), (17, .bool v0_11.1), (18, .bool v0_12.1), (174, .bool (!v0_10.1))] [(3, .box 24 [.int .i64 c.1, .sl (.pair (.int .i64) (.pair (.int .i64) (.int .i64))) c.2]), (54000, .imm (.int .i64) v0_5.1)] ?_
                rcases zI h with ⟨hb29, h⟩ | ⟨hb29, h⟩
                ·refine zS 5 [(3, .bp 3 0), (9, .own 54000), (177, .bool true), (179, .cv (undef))] [(3, .box 24 [.int .i64 c.1, .sl (.pair (.int .i64) (.pair (.int .i64) (.int .i64))) c.2]), (54000, .imm (.int .i64) v0_5.1)] ?_
                 refine zB [(3, .bp 3 0), (9, .own 54000), (180, .bool true)] [(3, .box 24 [.int .i64 c.1, .sl (.pair (.int .i64) (.pair (.int .i64) (.int .i64))) c.2]), (54000, .imm (.int .i64) v0_5.1)] ?_
                 refine AW.cond (b := true) rfl (fun _ => ?_) (fun hb30 => by cases hb30)
                 refine zo ?_
                 refine zB [(6, .bool false)] [] ?_
                 refine zr ?_
                 obtain rfl := Option.some.inj h
                 exact zR [] [] []
                ·refine zS 3 [(3, .bp 3 0), (9, .own 54000), (18, .bool v0_12.1), (177, .bool v0_11.1)] [(3, .box 24 [.int .i64 c.1, .sl (.pair (.int .i64) (.pair (.int .i64) (.int .i64))) c.2]), (54000, .imm (.int .i64) v0_5.1)] ?_
                 rcases zI h with ⟨hb31, h⟩ | ⟨hb31, h⟩
                 ·refine zB [(3, .bp 3 0), (9, .own 54000), (180, .bool true)] [(3, .box 24 [.int .i64 c.1, .sl (.pair (.int .i64) (.pair (.int .i64) (.int .i64))) c.2]), (54000, .imm (.int .i64) v0_5.1)] ?_
                  refine AW.cond (b := true) rfl (fun _ => ?_) (fun hb32 => by cases hb32)
                  refine zo ?_
                  refine zB [(6, .bool false)] [] ?_
                  refine zr ?_
                  obtain rfl := Option.some.inj h
                  exact zR [] [] []
                 ·refine zB [(3, .bp 3 0), (9, .own 54000), (180, .bool (!v0_12.1))] [(3, .box 24 [.int .i64 c.1, .sl (.pair (.int .i64) (.pair (.int .i64) (.int .i64))) c.2]), (54000, .imm (.int .i64) v0_5.1)] ?_
                  refine zQ h (fun hb33 h => ?_) (fun hb33 h => ?_)
                  ·refine zo ?_
                   refine zB [(6, .bool false)] [] ?_
                   refine zr ?_
                   obtain rfl := Option.some.inj h
                   exact zR [] [] []
                  ·refine zk ?_
                   refine AW.seq ?_
                   refine zo ?_
                   refine zB [(3, .bp 3 0), (9, .own 54000), (183, .bool (decide (5 < (v0_5.1.length : Int))))] [(3, .box 24 [.int .i64 c.1, .sl (.pair (.int .i64) (.pair (.int .i64) (.int .i64))) c.2]), (54000, .imm (.int .i64) v0_5.1)] ?_
                   refine zQ h (fun hb34 h => ?_) (fun hb34 h => ?_)
                   ·refine zo ?_
                    obtain ⟨v0_13, hv35, h⟩ := Option.bind_eq_some_iff.1 h
                    refine zC [] [] (hc_lineallaw05_Awake hv35) [(184, .bool v0_13)] [] ?_
                    refine zB [(6, .bool v0_13)] [] ?_
                    refine zr ?_
                    obtain rfl := Option.some.inj h
                    exact zR [] [] []
                   ·refine zk ?_
                    refine zo ?_
                    refine zS 3 [(9, .own 54000), (186, .agg [.int .i64 c.1, .sl (.pair (.int .i64) (.pair (.int .i64) (.int .i64))) c.2]), (188, .int .i64 (v0_5.1.length : Int))] [(54000, .imm (.int .i64) v0_5.1)] ?_
                    obtain ⟨v0_14, hv36, h⟩ := Option.bind_eq_some_iff.1 h
                    refine zC [] [] (hc_refine_Traces c (v0_5.1.length : Int) hv36) [(9, .own 54000), (189, .tup [.own 199000, .int .i64 v0_14.2])] [(54000, .imm (.int .i64) v0_5.1), (199000, .arr 27 (.sl (.int .i64)) v0_14.1)] ?_
                    refine zB [(8, .int .i64 v0_14.2), (9, .own 54000), (20, .own 199000)] [(54000, .imm (.int .i64) v0_5.1), (199000, .arr 27 (.sl (.int .i64)) v0_14.1)] ?_
                    refine zo ?_
                    refine zB [(8, .int .i64 v0_14.2), (9, .own 54000), (20, .own 199000), (21, .bool false)] [(54000, .imm (.int .i64) v0_5.1), (199000, .arr 27 (.sl (.int .i64)) v0_14.1)] ?_
                    refine AW.have1 (fun b4 : Bool => lineallaw05_RefineTells_k4 v0_14 b4 = some r) (fun b4 => ⟨fr [(8, .int .i64 v0_14.2), (21, .bool b4)], hpGet [], gt⟩) (fun b4 h => ?_) (fun hk_lineallaw05_RefineTells_k4 => ?_)
                    ·as_aux_lemma =>
                      unfold lineallaw05_RefineTells_k4 at h
                      refine zo ?_
                      refine zS 3 [(21, .bool b4), (207, .bool (decide (v0_14.2 = 0)))] [] ?_
                      rcases zI h with ⟨hb37, h⟩ | ⟨hb37, h⟩
                      ·refine zS 3 [(210, .bool b4)] [] ?_
                       rcases zI h with ⟨hb38, h⟩ | ⟨hb38, h⟩
                       ·refine zT [(210, .bool true)] [] gt ?_
                        obtain ⟨v0_16, hv39, h⟩ := Option.bind_eq_some_iff.1 h
                        refine zG [] [] (hc_lineallaw05_Awake hv39) [(210, .bool true), (211, .bool v0_16)] [] ?_
                        refine zB [(6, .bool v0_16)] [] ?_
                        refine AW.ret ?_
                        obtain rfl := Option.some.inj h
                        exact zR [] [] []
                       ·refine zB [(6, .bool false)] [] ?_
                        refine AW.ret ?_
                        obtain rfl := Option.some.inj h
                        exact zR [] [] []
                      ·refine zS 5 [(212, .bool false)] [] ?_
                       refine zB [(6, .bool false)] [] ?_
                       refine AW.ret ?_
                       obtain rfl := Option.some.inj h
                       exact zR [] [] []
                    ·refine AW.seq ?_
                     refine zo ?_
                     refine zB [(8, .int .i64 v0_14.2), (9, .own 54000), (21, .bool false), (192, .own 199000), (193, .int .i64 (v0_14.1.length : Int)), (194, .int .i64 0)] [(54000, .imm (.int .i64) v0_5.1), (199000, .arr 27 (.sl (.int .i64)) v0_14.1)] ?_
                     refine AW.block ?_
                     obtain ⟨rv44, hw40, ho41⟩ := Option.bind_eq_some_iff.1 h
                     refine AW.loopO (lineallaw05_RefineTells_b1 v0_5 v0_14) (fun st1 => ⟨fr [(8, .int .i64 v0_14.2), (9, .sl (.int .i64) v0_5.1), (21, .bool st1.1), (192, .own 199000), (193, .int .i64 (v0_14.1.length : Int)), (194, .int .i64 st1.2)], hpGet [(199000, .arr 27 (.sl (.int .i64)) v0_14.1)], gt⟩) (false, 0) hw40 (zL [] [] []) ?_
                     as_aux_lemma =>
                      intro st1 x43 h hd42
                      unfold lineallaw05_RefineTells_b1 at h
                      refine zo ?_
                      refine zB [(8, .int .i64 v0_14.2), (9, .sl (.int .i64) v0_5.1), (21, .bool st1.1), (192, .own 199000), (193, .int .i64 (v0_14.1.length : Int)), (194, .int .i64 st1.2), (195, .bool (decide (st1.2 < (v0_14.1.length : Int))))] [(199000, .arr 27 (.sl (.int .i64)) v0_14.1)] ?_
                      refine AW.seq ?_
                      refine zQ h (fun hb45 h => ?_) (fun hb45 h => ?_)
                      ·refine zk ?_
                       refine AW.seq ?_
                       refine AW.block ?_
                       refine zo ?_
                       obtain ⟨c46, h⟩ := ck_some.1 h
                       obtain ⟨c47, h⟩ := ck_some.1 h
                       refine zB [(8, .int .i64 v0_14.2), (9, .sl (.int .i64) v0_5.1), (21, .bool st1.1), (23, .sl (.int .i64) (v0_14.1.getD st1.2.toNat [])), (192, .own 199000), (193, .int .i64 (v0_14.1.length : Int)), (194, .int .i64 st1.2)] [(199000, .arr 27 (.sl (.int .i64)) v0_14.1)] ?_
                       refine AW.ops ?_
                       refine zS 2 [(8, .int .i64 v0_14.2), (9, .sl (.int .i64) v0_5.1), (23, .sl (.int .i64) (v0_14.1.getD st1.2.toNat [])), (192, .own 199000), (193, .int .i64 (v0_14.1.length : Int)), (194, .int .i64 st1.2), (199, .bool st1.1)] [(199000, .arr 27 (.sl (.int .i64)) v0_14.1)] ?_
                       rcases zI h with ⟨hb48, h⟩ | ⟨hb48, h⟩
                       ·refine zA [(8, .int .i64 v0_14.2), (9, .sl (.int .i64) v0_5.1), (21, .bool true), (192, .own 199000), (193, .int .i64 (v0_14.1.length : Int)), (194, .int .i64 st1.2)] [(199000, .arr 27 (.sl (.int .i64)) v0_14.1)] ?_
                        refine ablock_n ?_
                        refine athen_n ?_
                        refine AW.ops ?_
                        obtain ⟨c49, h⟩ := ck_some.1 h
                        refine zA [(8, .int .i64 v0_14.2), (9, .sl (.int .i64) v0_5.1), (21, .bool true), (192, .own 199000), (193, .int .i64 (v0_14.1.length : Int)), (194, .int .i64 (st1.2 + 1))] [(199000, .arr 27 (.sl (.int .i64)) v0_14.1)] ?_
                        obtain rfl := Option.some.inj h
                        exact ⟨_, rfl, zL [] [] []⟩
                       ·refine zS 2 [(8, .int .i64 v0_14.2), (9, .sl (.int .i64) v0_5.1), (192, .own 199000), (193, .int .i64 (v0_14.1.length : Int)), (194, .int .i64 st1.2), (199, .bool false), (200, .sl (.int .i64) (v0_14.1.getD st1.2.toNat [])), (201, .sl (.int .i64) v0_5.1)] [(199000, .arr 27 (.sl (.int .i64)) v0_14.1)] ?_
                        obtain ⟨v0_15, hv50, h⟩ := Option.bind_eq_some_iff.1 h
                        refine zG [] [] (hc_linealref05_SameInts (v0_14.1.getD st1.2.toNat []) v0_5.1 hv50) [(8, .int .i64 v0_14.2), (9, .sl (.int .i64) v0_5.1), (192, .own 199000), (193, .int .i64 (v0_14.1.length : Int)), (194, .int .i64 st1.2), (199, .bool false), (202, .bool v0_15)] [(199000, .arr 27 (.sl (.int .i64)) v0_14.1)] ?_
                        refine zA [(8, .int .i64 v0_14.2), (9, .sl (.int .i64) v0_5.1), (21, .bool v0_15), (192, .own 199000), (193, .int .i64 (v0_14.1.length : Int)), (194, .int .i64 st1.2)] [(199000, .arr 27 (.sl (.int .i64)) v0_14.1)] ?_
                        refine ablock_n ?_
                        refine athen_n ?_
                        refine AW.ops ?_
                        obtain ⟨c51, h⟩ := ck_some.1 h
                        refine zA [(8, .int .i64 v0_14.2), (9, .sl (.int .i64) v0_5.1), (21, .bool v0_15), (192, .own 199000), (193, .int .i64 (v0_14.1.length : Int)), (194, .int .i64 (st1.2 + 1))] [(199000, .arr 27 (.sl (.int .i64)) v0_14.1)] ?_
                        obtain rfl := Option.some.inj h
                        exact ⟨_, rfl, zL [] [] []⟩
                      ·refine AW.exit ?_
                       refine athen_e ?_
                       obtain rfl := Option.some.inj h
                       rw [← hd42 _ rfl] at ho41
                       have h := ho41
                       refine athen_e ?_
                       refine ablock_s ?_
                       refine athen_n ?_
                       exact AW.weaken (zL [] [] []) (hk_lineallaw05_RefineTells_k4 _ h)
        ·refine AW.seq ?_
         refine zo ?_
         refine zS 4 [(2, .sl (.int .i64) trace), (3, .bp 3 0), (4, .bp 4 0), (9, .own 54000), (13, .bool b2), (14, .bool v0_8.1), (119, .bool (decide ((v0_5.1.length : Int) = 0)))] [(3, .box 24 [.int .i64 c.1, .sl (.pair (.int .i64) (.pair (.int .i64) (.int .i64))) c.2]), (4, .box 24 [.int .i64 a.1, .sl (.pair (.int .i64) (.pair (.int .i64) (.int .i64))) a.2]), (54000, .arr 3 (.int .i64) v0_5.1)] ?_
         rcases zI h with ⟨hb52, h⟩ | ⟨hb52, h⟩
         ·refine zS 5 [(2, .sl (.int .i64) trace), (3, .bp 3 0), (4, .bp 4 0), (9, .own 54000), (13, .bool b2), (14, .bool v0_8.1), (124, .bool true)] [(3, .box 24 [.int .i64 c.1, .sl (.pair (.int .i64) (.pair (.int .i64) (.int .i64))) c.2]), (4, .box 24 [.int .i64 a.1, .sl (.pair (.int .i64) (.pair (.int .i64) (.int .i64))) a.2]), (54000, .arr 3 (.int .i64) v0_5.1)] ?_
          refine zS 4 [(2, .sl (.int .i64) trace), (3, .bp 3 0), (4, .bp 4 0), (9, .own 54000), (124, .bool true), (126, .cv (undef)), (128, .cv (undef))] [(3, .box 24 [.int .i64 c.1, .sl (.pair (.int .i64) (.pair (.int .i64) (.int .i64))) c.2]), (4, .box 24 [.int .i64 a.1, .sl (.pair (.int .i64) (.pair (.int .i64) (.int .i64))) a.2]), (54000, .arr 3 (.int .i64) v0_5.1)] ?_
          refine zS 4 [(3, .bp 3 0), (4, .bp 4 0), (9, .own 54000), (124, .bool true), (130, .cv (undef)), (132, .cv (undef))] [(3, .box 24 [.int .i64 c.1, .sl (.pair (.int .i64) (.pair (.int .i64) (.int .i64))) c.2]), (4, .box 24 [.int .i64 a.1, .sl (.pair (.int .i64) (.pair (.int .i64) (.int .i64))) a.2]), (54000, .arr 3 (.int .i64) v0_5.1)] ?_
          refine zS 4 [(3, .bp 3 0), (4, .bp 4 0), (9, .own 54000), (124, .bool true), (136, .cv (undef))] [(3, .box 24 [.int .i64 c.1, .sl (.pair (.int .i64) (.pair (.int .i64) (.int .i64))) c.2]), (4, .box 24 [.int .i64 a.1, .sl (.pair (.int .i64) (.pair (.int .i64) (.int .i64))) a.2]), (54000, .arr 3 (.int .i64) v0_5.1)] ?_
          refine zB [(3, .bp 3 0), (4, .bp 4 0), (9, .own 54000), (137, .bool true)] [(3, .box 24 [.int .i64 c.1, .sl (.pair (.int .i64) (.pair (.int .i64) (.int .i64))) c.2]), (4, .box 24 [.int .i64 a.1, .sl (.pair (.int .i64) (.pair (.int .i64) (.int .i64))) a.2]), (54000, .arr 3 (.int .i64) v0_5.1)] ?_
          refine AW.cond (b := true) rfl (fun _ => ?_) (fun hb53 => by cases hb53)
          refine zo ?_
          refine zB [(6, .bool false)] [] ?_
          refine zr ?_
          obtain rfl := Option.some.inj h
          exact zR [] [] []
         ·refine zS 5 [(2, .sl (.int .i64) trace), (3, .bp 3 0), (4, .bp 4 0), (9, .own 54000), (13, .bool b2), (14, .bool v0_8.1), (124, .bool (decide (1000 < (v0_5.1.length : Int))))] [(3, .box 24 [.int .i64 c.1, .sl (.pair (.int .i64) (.pair (.int .i64) (.int .i64))) c.2]), (4, .box 24 [.int .i64 a.1, .sl (.pair (.int .i64) (.pair (.int .i64) (.int .i64))) a.2]), (54000, .arr 3 (.int .i64) v0_5.1)] ?_
          rcases zI h with ⟨hb54, h⟩ | ⟨hb54, h⟩
          ·refine zS 4 [(2, .sl (.int .i64) trace), (3, .bp 3 0), (4, .bp 4 0), (9, .own 54000), (124, .bool true), (126, .cv (undef)), (128, .cv (undef))] [(3, .box 24 [.int .i64 c.1, .sl (.pair (.int .i64) (.pair (.int .i64) (.int .i64))) c.2]), (4, .box 24 [.int .i64 a.1, .sl (.pair (.int .i64) (.pair (.int .i64) (.int .i64))) a.2]), (54000, .arr 3 (.int .i64) v0_5.1)] ?_
           refine zS 4 [(3, .bp 3 0), (4, .bp 4 0), (9, .own 54000), (124, .bool true), (130, .cv (undef)), (132, .cv (undef))] [(3, .box 24 [.int .i64 c.1, .sl (.pair (.int .i64) (.pair (.int .i64) (.int .i64))) c.2]), (4, .box 24 [.int .i64 a.1, .sl (.pair (.int .i64) (.pair (.int .i64) (.int .i64))) a.2]), (54000, .arr 3 (.int .i64) v0_5.1)] ?_
           refine zS 4 [(3, .bp 3 0), (4, .bp 4 0), (9, .own 54000), (124, .bool true), (136, .cv (undef))] [(3, .box 24 [.int .i64 c.1, .sl (.pair (.int .i64) (.pair (.int .i64) (.int .i64))) c.2]), (4, .box 24 [.int .i64 a.1, .sl (.pair (.int .i64) (.pair (.int .i64) (.int .i64))) a.2]), (54000, .arr 3 (.int .i64) v0_5.1)] ?_
           refine zB [(3, .bp 3 0), (4, .bp 4 0), (9, .own 54000), (137, .bool true)] [(3, .box 24 [.int .i64 c.1, .sl (.pair (.int .i64) (.pair (.int .i64) (.int .i64))) c.2]), (4, .box 24 [.int .i64 a.1, .sl (.pair (.int .i64) (.pair (.int .i64) (.int .i64))) a.2]), (54000, .arr 3 (.int .i64) v0_5.1)] ?_
           refine AW.cond (b := true) rfl (fun _ => ?_) (fun hb55 => by cases hb55)
           refine zo ?_
           refine zB [(6, .bool false)] [] ?_
           refine zr ?_
           obtain rfl := Option.some.inj h
           exact zR [] [] []
          ·refine zS 2 [(2, .sl (.int .i64) trace), (3, .bp 3 0), (4, .bp 4 0), (9, .own 54000), (14, .bool v0_8.1), (124, .bool false), (126, .bool b2)] [(3, .box 24 [.int .i64 c.1, .sl (.pair (.int .i64) (.pair (.int .i64) (.int .i64))) c.2]), (4, .box 24 [.int .i64 a.1, .sl (.pair (.int .i64) (.pair (.int .i64) (.int .i64))) a.2]), (54000, .arr 3 (.int .i64) v0_5.1)] ?_
           rcases zI h with ⟨hb56, h⟩ | ⟨hb56, h⟩
           ·refine zS 4 [(2, .sl (.int .i64) trace), (3, .bp 3 0), (4, .bp 4 0), (9, .own 54000), (124, .bool false), (130, .bool (!v0_8.1))] [(3, .box 24 [.int .i64 c.1, .sl (.pair (.int .i64) (.pair (.int .i64) (.int .i64))) c.2]), (4, .box 24 [.int .i64 a.1, .sl (.pair (.int .i64) (.pair (.int .i64) (.int .i64))) a.2]), (54000, .arr 3 (.int .i64) v0_5.1)] ?_
            rcases zI h with ⟨hb57, h⟩ | ⟨hb57, h⟩
            ·refine zS 5 [(3, .bp 3 0), (4, .bp 4 0), (9, .own 54000), (124, .bool false), (130, .bool true), (135, .bool (decide ((trace.length : Int) < (v0_5.1.length : Int))))] [(3, .box 24 [.int .i64 c.1, .sl (.pair (.int .i64) (.pair (.int .i64) (.int .i64))) c.2]), (4, .box 24 [.int .i64 a.1, .sl (.pair (.int .i64) (.pair (.int .i64) (.int .i64))) a.2]), (54000, .arr 3 (.int .i64) v0_5.1)] ?_
             refine zB [(3, .bp 3 0), (4, .bp 4 0), (9, .own 54000), (137, .bool (decide ((trace.length : Int) < (v0_5.1.length : Int))))] [(3, .box 24 [.int .i64 c.1, .sl (.pair (.int .i64) (.pair (.int .i64) (.int .i64))) c.2]), (4, .box 24 [.int .i64 a.1, .sl (.pair (.int .i64) (.pair (.int .i64) (.int .i64))) a.2]), (54000, .arr 3 (.int .i64) v0_5.1)] ?_
             refine zQ h (fun hb58 h => ?_) (fun hb58 h => ?_)
             ·refine zo ?_
              refine zB [(6, .bool false)] [] ?_
              refine zr ?_
              obtain rfl := Option.some.inj h
              exact zR [] [] []
             ·refine zk ?_
              exact AW.weaken (zL [] [] []) (hk_lineallaw05_RefineTells_k3 () h)
            ·refine zS 4 [(3, .bp 3 0), (4, .bp 4 0), (9, .own 54000), (124, .bool false), (130, .bool false), (132, .cv (undef)), (134, .cv (undef))] [(3, .box 24 [.int .i64 c.1, .sl (.pair (.int .i64) (.pair (.int .i64) (.int .i64))) c.2]), (4, .box 24 [.int .i64 a.1, .sl (.pair (.int .i64) (.pair (.int .i64) (.int .i64))) a.2]), (54000, .arr 3 (.int .i64) v0_5.1)] ?_
             refine zB [(3, .bp 3 0), (4, .bp 4 0), (9, .own 54000), (137, .bool false)] [(3, .box 24 [.int .i64 c.1, .sl (.pair (.int .i64) (.pair (.int .i64) (.int .i64))) c.2]), (4, .box 24 [.int .i64 a.1, .sl (.pair (.int .i64) (.pair (.int .i64) (.int .i64))) a.2]), (54000, .arr 3 (.int .i64) v0_5.1)] ?_
             refine AW.cond (b := false) rfl (fun hb59 => by cases hb59) (fun _ => ?_)
             refine zk ?_
             exact AW.weaken (zL [] [] []) (hk_lineallaw05_RefineTells_k3 () h)
           ·refine zS 5 [(3, .bp 3 0), (4, .bp 4 0), (9, .own 54000), (124, .bool false), (130, .bool false), (131, .cv (undef))] [(3, .box 24 [.int .i64 c.1, .sl (.pair (.int .i64) (.pair (.int .i64) (.int .i64))) c.2]), (4, .box 24 [.int .i64 a.1, .sl (.pair (.int .i64) (.pair (.int .i64) (.int .i64))) a.2]), (54000, .arr 3 (.int .i64) v0_5.1)] ?_
            refine zS 4 [(3, .bp 3 0), (4, .bp 4 0), (9, .own 54000), (124, .bool false), (130, .bool false), (135, .cv (undef))] [(3, .box 24 [.int .i64 c.1, .sl (.pair (.int .i64) (.pair (.int .i64) (.int .i64))) c.2]), (4, .box 24 [.int .i64 a.1, .sl (.pair (.int .i64) (.pair (.int .i64) (.int .i64))) a.2]), (54000, .arr 3 (.int .i64) v0_5.1)] ?_
            refine zB [(3, .bp 3 0), (4, .bp 4 0), (9, .own 54000), (137, .bool false)] [(3, .box 24 [.int .i64 c.1, .sl (.pair (.int .i64) (.pair (.int .i64) (.int .i64))) c.2]), (4, .box 24 [.int .i64 a.1, .sl (.pair (.int .i64) (.pair (.int .i64) (.int .i64))) a.2]), (54000, .arr 3 (.int .i64) v0_5.1)] ?_
            refine AW.cond (b := false) rfl (fun hb60 => by cases hb60) (fun _ => ?_)
            refine zk ?_
            exact AW.weaken (zL [] [] []) (hk_lineallaw05_RefineTells_k3 () h)
     ·refine AW.seq ?_
      refine zo ?_
      refine zS 4 [(2, .sl (.int .i64) trace), (3, .bp 3 0), (4, .bp 4 0), (9, .own 54000), (10, .int .i64 v0_5.2), (13, .bool v0_7.1), (14, .bool v0_8.1), (97, .bool (!(decide (v0_7.2 = v0_8.2))))] [(3, .box 24 [.int .i64 c.1, .sl (.pair (.int .i64) (.pair (.int .i64) (.int .i64))) c.2]), (4, .box 24 [.int .i64 a.1, .sl (.pair (.int .i64) (.pair (.int .i64) (.int .i64))) a.2]), (54000, .arr 3 (.int .i64) v0_5.1)] ?_
      rcases zI h with ⟨hb61, h⟩ | ⟨hb61, h⟩
      ·refine zS 4 [(2, .sl (.int .i64) trace), (3, .bp 3 0), (4, .bp 4 0), (9, .own 54000), (10, .int .i64 v0_5.2), (13, .bool v0_7.1), (14, .bool v0_8.1), (97, .bool true), (99, .cv (undef)), (101, .cv (undef))] [(3, .box 24 [.int .i64 c.1, .sl (.pair (.int .i64) (.pair (.int .i64) (.int .i64))) c.2]), (4, .box 24 [.int .i64 a.1, .sl (.pair (.int .i64) (.pair (.int .i64) (.int .i64))) a.2]), (54000, .arr 3 (.int .i64) v0_5.1)] ?_
       refine zS 4 [(2, .sl (.int .i64) trace), (3, .bp 3 0), (4, .bp 4 0), (9, .own 54000), (10, .int .i64 v0_5.2), (13, .bool v0_7.1), (14, .bool v0_8.1), (97, .bool true), (103, .cv (undef)), (105, .cv (undef))] [(3, .box 24 [.int .i64 c.1, .sl (.pair (.int .i64) (.pair (.int .i64) (.int .i64))) c.2]), (4, .box 24 [.int .i64 a.1, .sl (.pair (.int .i64) (.pair (.int .i64) (.int .i64))) a.2]), (54000, .arr 3 (.int .i64) v0_5.1)] ?_
       refine zB [(2, .sl (.int .i64) trace), (3, .bp 3 0), (4, .bp 4 0), (9, .own 54000), (10, .int .i64 v0_5.2), (13, .bool v0_7.1), (14, .bool v0_8.1), (107, .bool true)] [(3, .box 24 [.int .i64 c.1, .sl (.pair (.int .i64) (.pair (.int .i64) (.int .i64))) c.2]), (4, .box 24 [.int .i64 a.1, .sl (.pair (.int .i64) (.pair (.int .i64) (.int .i64))) a.2]), (54000, .arr 3 (.int .i64) v0_5.1)] ?_
       refine AW.cond (b := true) rfl (fun _ => ?_) (fun hb62 => by cases hb62)
       refine zo ?_
       refine zB [(6, .bool false)] [] ?_
       refine zr ?_
       obtain rfl := Option.some.inj h
       exact zR [] [] []
      ·refine zS 2 [(2, .sl (.int .i64) trace), (3, .bp 3 0), (4, .bp 4 0), (9, .own 54000), (10, .int .i64 v0_5.2), (13, .bool v0_7.1), (14, .bool v0_8.1), (97, .bool false), (99, .bool v0_7.1)] [(3, .box 24 [.int .i64 c.1, .sl (.pair (.int .i64) (.pair (.int .i64) (.int .i64))) c.2]), (4, .box 24 [.int .i64 a.1, .sl (.pair (.int .i64) (.pair (.int .i64) (.int .i64))) a.2]), (54000, .arr 3 (.int .i64) v0_5.1)] ?_
       rcases zI h with ⟨hb63, h⟩ | ⟨hb63, h⟩
       ·refine zS 4 [(2, .sl (.int .i64) trace), (3, .bp 3 0), (4, .bp 4 0), (9, .own 54000), (10, .int .i64 v0_5.2), (13, .bool true), (14, .bool v0_8.1), (97, .bool false), (103, .bool (!v0_8.1))] [(3, .box 24 [.int .i64 c.1, .sl (.pair (.int .i64) (.pair (.int .i64) (.int .i64))) c.2]), (4, .box 24 [.int .i64 a.1, .sl (.pair (.int .i64) (.pair (.int .i64) (.int .i64))) a.2]), (54000, .arr 3 (.int .i64) v0_5.1)] ?_
        rcases zI h with ⟨hb64, h⟩ | ⟨hb64, h⟩
        ·refine zB [(2, .sl (.int .i64) trace), (3, .bp 3 0), (4, .bp 4 0), (9, .own 54000), (10, .int .i64 v0_5.2), (13, .bool true), (14, .bool v0_8.1), (107, .bool (!(decide (v0_5.2 = 0))))] [(3, .box 24 [.int .i64 c.1, .sl (.pair (.int .i64) (.pair (.int .i64) (.int .i64))) c.2]), (4, .box 24 [.int .i64 a.1, .sl (.pair (.int .i64) (.pair (.int .i64) (.int .i64))) a.2]), (54000, .arr 3 (.int .i64) v0_5.1)] ?_
         refine zQ h (fun hb65 h => ?_) (fun hb65 h => ?_)
         ·refine zo ?_
          refine zB [(6, .bool false)] [] ?_
          refine zr ?_
          obtain rfl := Option.some.inj h
          exact zR [] [] []
         ·refine zk ?_
          exact AW.weaken (zL [] [] []) (hk_lineallaw05_RefineTells_k2 _ h)
        ·refine zB [(2, .sl (.int .i64) trace), (3, .bp 3 0), (4, .bp 4 0), (9, .own 54000), (10, .int .i64 v0_5.2), (13, .bool true), (14, .bool v0_8.1), (107, .bool false)] [(3, .box 24 [.int .i64 c.1, .sl (.pair (.int .i64) (.pair (.int .i64) (.int .i64))) c.2]), (4, .box 24 [.int .i64 a.1, .sl (.pair (.int .i64) (.pair (.int .i64) (.int .i64))) a.2]), (54000, .arr 3 (.int .i64) v0_5.1)] ?_
         refine AW.cond (b := false) rfl (fun hb66 => by cases hb66) (fun _ => ?_)
         refine zk ?_
         exact AW.weaken (zL [] [] []) (hk_lineallaw05_RefineTells_k2 _ h)
       ·refine zS 5 [(2, .sl (.int .i64) trace), (3, .bp 3 0), (4, .bp 4 0), (9, .own 54000), (10, .int .i64 v0_5.2), (13, .bool false), (14, .bool v0_8.1), (97, .bool false), (103, .bool false), (104, .cv (undef))] [(3, .box 24 [.int .i64 c.1, .sl (.pair (.int .i64) (.pair (.int .i64) (.int .i64))) c.2]), (4, .box 24 [.int .i64 a.1, .sl (.pair (.int .i64) (.pair (.int .i64) (.int .i64))) a.2]), (54000, .arr 3 (.int .i64) v0_5.1)] ?_
        refine zB [(2, .sl (.int .i64) trace), (3, .bp 3 0), (4, .bp 4 0), (9, .own 54000), (10, .int .i64 v0_5.2), (13, .bool false), (14, .bool v0_8.1), (107, .bool false)] [(3, .box 24 [.int .i64 c.1, .sl (.pair (.int .i64) (.pair (.int .i64) (.int .i64))) c.2]), (4, .box 24 [.int .i64 a.1, .sl (.pair (.int .i64) (.pair (.int .i64) (.int .i64))) a.2]), (54000, .arr 3 (.int .i64) v0_5.1)] ?_
        refine AW.cond (b := false) rfl (fun hb67 => by cases hb67) (fun _ => ?_)
        refine zk ?_
        exact AW.weaken (zL [] [] []) (hk_lineallaw05_RefineTells_k2 _ h)
   ·refine AW.seq ?_
    refine zo ?_
    refine zS 3 [(2, .sl (.int .i64) trace), (3, .bp 3 0), (4, .bp 4 0), (7, .bool v0_4.1), (9, .own 54000), (10, .int .i64 v0_5.2), (11, .bool v0_6.1), (12, .int .i64 v0_6.2), (54, .bool (!(decide (v0_4.2 = 0))))] [(3, .box 24 [.int .i64 c.1, .sl (.pair (.int .i64) (.pair (.int .i64) (.int .i64))) c.2]), (4, .box 24 [.int .i64 a.1, .sl (.pair (.int .i64) (.pair (.int .i64) (.int .i64))) a.2]), (54000, .arr 3 (.int .i64) v0_5.1)] ?_
    rcases zI h with ⟨hb68, h⟩ | ⟨hb68, h⟩
    ·refine zS 5 [(2, .sl (.int .i64) trace), (3, .bp 3 0), (4, .bp 4 0), (7, .bool v0_4.1), (9, .own 54000), (10, .int .i64 v0_5.2), (11, .bool v0_6.1), (58, .bool true), (59, .cv (undef))] [(3, .box 24 [.int .i64 c.1, .sl (.pair (.int .i64) (.pair (.int .i64) (.int .i64))) c.2]), (4, .box 24 [.int .i64 a.1, .sl (.pair (.int .i64) (.pair (.int .i64) (.int .i64))) a.2]), (54000, .arr 3 (.int .i64) v0_5.1)] ?_
     refine zS 4 [(2, .sl (.int .i64) trace), (3, .bp 3 0), (4, .bp 4 0), (7, .bool v0_4.1), (9, .own 54000), (10, .int .i64 v0_5.2), (11, .bool v0_6.1), (58, .bool true), (61, .cv (undef)), (63, .cv (undef))] [(3, .box 24 [.int .i64 c.1, .sl (.pair (.int .i64) (.pair (.int .i64) (.int .i64))) c.2]), (4, .box 24 [.int .i64 a.1, .sl (.pair (.int .i64) (.pair (.int .i64) (.int .i64))) a.2]), (54000, .arr 3 (.int .i64) v0_5.1)] ?_
     refine zS 5 [(2, .sl (.int .i64) trace), (3, .bp 3 0), (4, .bp 4 0), (7, .bool v0_4.1), (9, .own 54000), (10, .int .i64 v0_5.2), (11, .bool v0_6.1), (66, .bool true), (68, .cv (undef))] [(3, .box 24 [.int .i64 c.1, .sl (.pair (.int .i64) (.pair (.int .i64) (.int .i64))) c.2]), (4, .box 24 [.int .i64 a.1, .sl (.pair (.int .i64) (.pair (.int .i64) (.int .i64))) a.2]), (54000, .arr 3 (.int .i64) v0_5.1)] ?_
     refine zS 5 [(2, .sl (.int .i64) trace), (3, .bp 3 0), (4, .bp 4 0), (7, .bool v0_4.1), (9, .own 54000), (10, .int .i64 v0_5.2), (11, .bool v0_6.1), (73, .bool true)] [(3, .box 24 [.int .i64 c.1, .sl (.pair (.int .i64) (.pair (.int .i64) (.int .i64))) c.2]), (4, .box 24 [.int .i64 a.1, .sl (.pair (.int .i64) (.pair (.int .i64) (.int .i64))) a.2]), (54000, .arr 3 (.int .i64) v0_5.1)] ?_
     refine zS 4 [(2, .sl (.int .i64) trace), (3, .bp 3 0), (4, .bp 4 0), (9, .own 54000), (10, .int .i64 v0_5.2), (73, .bool true), (75, .cv (undef)), (76, .cv (undef)), (77, .cv (undef))] [(3, .box 24 [.int .i64 c.1, .sl (.pair (.int .i64) (.pair (.int .i64) (.int .i64))) c.2]), (4, .box 24 [.int .i64 a.1, .sl (.pair (.int .i64) (.pair (.int .i64) (.int .i64))) a.2]), (54000, .arr 3 (.int .i64) v0_5.1)] ?_
     refine zB [(2, .sl (.int .i64) trace), (3, .bp 3 0), (4, .bp 4 0), (9, .own 54000), (10, .int .i64 v0_5.2), (81, .bool true)] [(3, .box 24 [.int .i64 c.1, .sl (.pair (.int .i64) (.pair (.int .i64) (.int .i64))) c.2]), (4, .box 24 [.int .i64 a.1, .sl (.pair (.int .i64) (.pair (.int .i64) (.int .i64))) a.2]), (54000, .arr 3 (.int .i64) v0_5.1)] ?_
     refine AW.cond (b := true) rfl (fun _ => ?_) (fun hb69 => by cases hb69)
     refine zo ?_
     refine zB [(6, .bool false)] [] ?_
     refine zr ?_
     obtain rfl := Option.some.inj h
     exact zR [] [] []
    ·refine zS 4 [(2, .sl (.int .i64) trace), (3, .bp 3 0), (4, .bp 4 0), (7, .bool v0_4.1), (9, .own 54000), (10, .int .i64 v0_5.2), (11, .bool v0_6.1), (58, .bool (!(decide (v0_6.2 = 0))))] [(3, .box 24 [.int .i64 c.1, .sl (.pair (.int .i64) (.pair (.int .i64) (.int .i64))) c.2]), (4, .box 24 [.int .i64 a.1, .sl (.pair (.int .i64) (.pair (.int .i64) (.int .i64))) a.2]), (54000, .arr 3 (.int .i64) v0_5.1)] ?_
     rcases zI h with ⟨hb70, h⟩ | ⟨hb70, h⟩
     ·refine zS 4 [(2, .sl (.int .i64) trace), (3, .bp 3 0), (4, .bp 4 0), (7, .bool v0_4.1), (9, .own 54000), (10, .int .i64 v0_5.2), (11, .bool v0_6.1), (58, .bool true), (61, .cv (undef)), (62, .cv (undef))] [(3, .box 24 [.int .i64 c.1, .sl (.pair (.int .i64) (.pair (.int .i64) (.int .i64))) c.2]), (4, .box 24 [.int .i64 a.1, .sl (.pair (.int .i64) (.pair (.int .i64) (.int .i64))) a.2]), (54000, .arr 3 (.int .i64) v0_5.1)] ?_
      refine zS 5 [(2, .sl (.int .i64) trace), (3, .bp 3 0), (4, .bp 4 0), (7, .bool v0_4.1), (9, .own 54000), (10, .int .i64 v0_5.2), (11, .bool v0_6.1), (66, .bool true), (67, .cv (undef))] [(3, .box 24 [.int .i64 c.1, .sl (.pair (.int .i64) (.pair (.int .i64) (.int .i64))) c.2]), (4, .box 24 [.int .i64 a.1, .sl (.pair (.int .i64) (.pair (.int .i64) (.int .i64))) a.2]), (54000, .arr 3 (.int .i64) v0_5.1)] ?_
      refine zS 4 [(2, .sl (.int .i64) trace), (3, .bp 3 0), (4, .bp 4 0), (7, .bool v0_4.1), (9, .own 54000), (10, .int .i64 v0_5.2), (11, .bool v0_6.1), (66, .bool true), (71, .cv (undef))] [(3, .box 24 [.int .i64 c.1, .sl (.pair (.int .i64) (.pair (.int .i64) (.int .i64))) c.2]), (4, .box 24 [.int .i64 a.1, .sl (.pair (.int .i64) (.pair (.int .i64) (.int .i64))) a.2]), (54000, .arr 3 (.int .i64) v0_5.1)] ?_
      refine zS 5 [(2, .sl (.int .i64) trace), (3, .bp 3 0), (4, .bp 4 0), (9, .own 54000), (10, .int .i64 v0_5.2), (73, .bool true), (75, .cv (undef)), (76, .cv (undef))] [(3, .box 24 [.int .i64 c.1, .sl (.pair (.int .i64) (.pair (.int .i64) (.int .i64))) c.2]), (4, .box 24 [.int .i64 a.1, .sl (.pair (.int .i64) (.pair (.int .i64) (.int .i64))) a.2]), (54000, .arr 3 (.int .i64) v0_5.1)] ?_
      refine zS 4 [(2, .sl (.int .i64) trace), (3, .bp 3 0), (4, .bp 4 0), (9, .own 54000), (10, .int .i64 v0_5.2), (73, .bool true), (80, .cv (undef))] [(3, .box 24 [.int .i64 c.1, .sl (.pair (.int .i64) (.pair (.int .i64) (.int .i64))) c.2]), (4, .box 24 [.int .i64 a.1, .sl (.pair (.int .i64) (.pair (.int .i64) (.int .i64))) a.2]), (54000, .arr 3 (.int .i64) v0_5.1)] ?_
      refine zB [(2, .sl (.int .i64) trace), (3, .bp 3 0), (4, .bp 4 0), (9, .own 54000), (10, .int .i64 v0_5.2), (81, .bool true)] [(3, .box 24 [.int .i64 c.1, .sl (.pair (.int .i64) (.pair (.int .i64) (.int .i64))) c.2]), (4, .box 24 [.int .i64 a.1, .sl (.pair (.int .i64) (.pair (.int .i64) (.int .i64))) a.2]), (54000, .arr 3 (.int .i64) v0_5.1)] ?_
      refine AW.cond (b := true) rfl (fun _ => ?_) (fun hb71 => by cases hb71)
      refine zo ?_
      refine zB [(6, .bool false)] [] ?_
      refine zr ?_
      obtain rfl := Option.some.inj h
      exact zR [] [] []
     ·refine zS 3 [(2, .sl (.int .i64) trace), (3, .bp 3 0), (4, .bp 4 0), (7, .bool v0_4.1), (9, .own 54000), (10, .int .i64 v0_5.2), (11, .bool v0_6.1), (58, .bool false), (61, .bool (!(decide (v0_5.2 = 0))))] [(3, .box 24 [.int .i64 c.1, .sl (.pair (.int .i64) (.pair (.int .i64) (.int .i64))) c.2]), (4, .box 24 [.int .i64 a.1, .sl (.pair (.int .i64) (.pair (.int .i64) (.int .i64))) a.2]), (54000, .arr 3 (.int .i64) v0_5.1)] ?_
      rcases zI h with ⟨hb72, h⟩ | ⟨hb72, h⟩
      ·refine zS 5 [(2, .sl (.int .i64) trace), (3, .bp 3 0), (4, .bp 4 0), (7, .bool v0_4.1), (9, .own 54000), (10, .int .i64 v0_5.2), (11, .bool v0_6.1), (66, .bool (!(decide (v0_5.2 = 5))))] [(3, .box 24 [.int .i64 c.1, .sl (.pair (.int .i64) (.pair (.int .i64) (.int .i64))) c.2]), (4, .box 24 [.int .i64 a.1, .sl (.pair (.int .i64) (.pair (.int .i64) (.int .i64))) a.2]), (54000, .arr 3 (.int .i64) v0_5.1)] ?_
       rcases zI h with ⟨hb73, h⟩ | ⟨hb73, h⟩
       ·refine zS 4 [(2, .sl (.int .i64) trace), (3, .bp 3 0), (4, .bp 4 0), (7, .bool v0_4.1), (9, .own 54000), (10, .int .i64 v0_5.2), (11, .bool v0_6.1), (66, .bool true), (68, .cv (undef)), (70, .cv (undef))] [(3, .box 24 [.int .i64 c.1, .sl (.pair (.int .i64) (.pair (.int .i64) (.int .i64))) c.2]), (4, .box 24 [.int .i64 a.1, .sl (.pair (.int .i64) (.pair (.int .i64) (.int .i64))) a.2]), (54000, .arr 3 (.int .i64) v0_5.1)] ?_
        refine zS 5 [(2, .sl (.int .i64) trace), (3, .bp 3 0), (4, .bp 4 0), (7, .bool v0_4.1), (9, .own 54000), (10, .int .i64 v0_5.2), (73, .bool true), (75, .cv (undef))] [(3, .box 24 [.int .i64 c.1, .sl (.pair (.int .i64) (.pair (.int .i64) (.int .i64))) c.2]), (4, .box 24 [.int .i64 a.1, .sl (.pair (.int .i64) (.pair (.int .i64) (.int .i64))) a.2]), (54000, .arr 3 (.int .i64) v0_5.1)] ?_
        refine zS 4 [(2, .sl (.int .i64) trace), (3, .bp 3 0), (4, .bp 4 0), (9, .own 54000), (10, .int .i64 v0_5.2), (73, .bool true), (75, .cv (undef)), (79, .cv (undef))] [(3, .box 24 [.int .i64 c.1, .sl (.pair (.int .i64) (.pair (.int .i64) (.int .i64))) c.2]), (4, .box 24 [.int .i64 a.1, .sl (.pair (.int .i64) (.pair (.int .i64) (.int .i64))) a.2]), (54000, .arr 3 (.int .i64) v0_5.1)] ?_
        refine zB [(2, .sl (.int .i64) trace), (3, .bp 3 0), (4, .bp 4 0), (9, .own 54000), (10, .int .i64 v0_5.2), (81, .bool true)] [(3, .box 24 [.int .i64 c.1, .sl (.pair (.int .i64) (.pair (.int .i64) (.int .i64))) c.2]), (4, .box 24 [.int .i64 a.1, .sl (.pair (.int .i64) (.pair (.int .i64) (.int .i64))) a.2]), (54000, .arr 3 (.int .i64) v0_5.1)] ?_
        refine AW.cond (b := true) rfl (fun _ => ?_) (fun hb74 => by cases hb74)
        refine zo ?_
        refine zB [(6, .bool false)] [] ?_
        refine zr ?_
        obtain rfl := Option.some.inj h
        exact zR [] [] []
       ·refine zS 2 [(2, .sl (.int .i64) trace), (3, .bp 3 0), (4, .bp 4 0), (7, .bool v0_4.1), (9, .own 54000), (10, .int .i64 v0_5.2), (11, .bool v0_6.1), (66, .bool false), (68, .bool v0_4.1)] [(3, .box 24 [.int .i64 c.1, .sl (.pair (.int .i64) (.pair (.int .i64) (.int .i64))) c.2]), (4, .box 24 [.int .i64 a.1, .sl (.pair (.int .i64) (.pair (.int .i64) (.int .i64))) a.2]), (54000, .arr 3 (.int .i64) v0_5.1)] ?_
        rcases zI h with ⟨hb75, h⟩ | ⟨hb75, h⟩
        ·refine zS 5 [(2, .sl (.int .i64) trace), (3, .bp 3 0), (4, .bp 4 0), (7, .bool true), (9, .own 54000), (10, .int .i64 v0_5.2), (11, .bool v0_6.1), (73, .bool (decide (v0_5.2 = 0)))] [(3, .box 24 [.int .i64 c.1, .sl (.pair (.int .i64) (.pair (.int .i64) (.int .i64))) c.2]), (4, .box 24 [.int .i64 a.1, .sl (.pair (.int .i64) (.pair (.int .i64) (.int .i64))) a.2]), (54000, .arr 3 (.int .i64) v0_5.1)] ?_
         rcases zI h with ⟨hb76, h⟩ | ⟨hb76, h⟩
         ·refine zS 4 [(2, .sl (.int .i64) trace), (3, .bp 3 0), (4, .bp 4 0), (9, .own 54000), (10, .int .i64 v0_5.2), (73, .bool true), (75, .cv (undef)), (76, .cv (undef)), (77, .cv (undef))] [(3, .box 24 [.int .i64 c.1, .sl (.pair (.int .i64) (.pair (.int .i64) (.int .i64))) c.2]), (4, .box 24 [.int .i64 a.1, .sl (.pair (.int .i64) (.pair (.int .i64) (.int .i64))) a.2]), (54000, .arr 3 (.int .i64) v0_5.1)] ?_
          refine zB [(2, .sl (.int .i64) trace), (3, .bp 3 0), (4, .bp 4 0), (9, .own 54000), (10, .int .i64 v0_5.2), (81, .bool true)] [(3, .box 24 [.int .i64 c.1, .sl (.pair (.int .i64) (.pair (.int .i64) (.int .i64))) c.2]), (4, .box 24 [.int .i64 a.1, .sl (.pair (.int .i64) (.pair (.int .i64) (.int .i64))) a.2]), (54000, .arr 3 (.int .i64) v0_5.1)] ?_
          refine AW.cond (b := true) rfl (fun _ => ?_) (fun hb77 => by cases hb77)
          refine zo ?_
          refine zB [(6, .bool false)] [] ?_
          refine zr ?_
          obtain rfl := Option.some.inj h
          exact zR [] [] []
         ·refine zS 2 [(2, .sl (.int .i64) trace), (3, .bp 3 0), (4, .bp 4 0), (7, .bool true), (9, .own 54000), (10, .int .i64 v0_5.2), (73, .bool false), (75, .bool v0_6.1)] [(3, .box 24 [.int .i64 c.1, .sl (.pair (.int .i64) (.pair (.int .i64) (.int .i64))) c.2]), (4, .box 24 [.int .i64 a.1, .sl (.pair (.int .i64) (.pair (.int .i64) (.int .i64))) a.2]), (54000, .arr 3 (.int .i64) v0_5.1)] ?_
          rcases zI h with ⟨hb78, h⟩ | ⟨hb78, h⟩
          ·refine zS 5 [(2, .sl (.int .i64) trace), (3, .bp 3 0), (4, .bp 4 0), (9, .own 54000), (10, .int .i64 v0_5.2), (73, .bool false), (80, .bool ((true == (decide (v0_5.2 = 5))) != true))] [(3, .box 24 [.int .i64 c.1, .sl (.pair (.int .i64) (.pair (.int .i64) (.int .i64))) c.2]), (4, .box 24 [.int .i64 a.1, .sl (.pair (.int .i64) (.pair (.int .i64) (.int .i64))) a.2]), (54000, .arr 3 (.int .i64) v0_5.1)] ?_
           refine zB [(2, .sl (.int .i64) trace), (3, .bp 3 0), (4, .bp 4 0), (9, .own 54000), (10, .int .i64 v0_5.2), (81, .bool ((true == (decide (v0_5.2 = 5))) != true))] [(3, .box 24 [.int .i64 c.1, .sl (.pair (.int .i64) (.pair (.int .i64) (.int .i64))) c.2]), (4, .box 24 [.int .i64 a.1, .sl (.pair (.int .i64) (.pair (.int .i64) (.int .i64))) a.2]), (54000, .arr 3 (.int .i64) v0_5.1)] ?_
           refine zQ h (fun hb79 h => ?_) (fun hb79 h => ?_)
           ·refine zo ?_
            refine zB [(6, .bool false)] [] ?_
            refine zr ?_
            obtain rfl := Option.some.inj h
            exact zR [] [] []
           ·refine zk ?_
            exact AW.weaken (zL [] [] []) (hk_lineallaw05_RefineTells_k1 () h)
          ·refine zS 4 [(2, .sl (.int .i64) trace), (3, .bp 3 0), (4, .bp 4 0), (9, .own 54000), (10, .int .i64 v0_5.2), (73, .bool false), (75, .bool false), (79, .cv (undef))] [(3, .box 24 [.int .i64 c.1, .sl (.pair (.int .i64) (.pair (.int .i64) (.int .i64))) c.2]), (4, .box 24 [.int .i64 a.1, .sl (.pair (.int .i64) (.pair (.int .i64) (.int .i64))) a.2]), (54000, .arr 3 (.int .i64) v0_5.1)] ?_
           refine zB [(2, .sl (.int .i64) trace), (3, .bp 3 0), (4, .bp 4 0), (9, .own 54000), (10, .int .i64 v0_5.2), (81, .bool false)] [(3, .box 24 [.int .i64 c.1, .sl (.pair (.int .i64) (.pair (.int .i64) (.int .i64))) c.2]), (4, .box 24 [.int .i64 a.1, .sl (.pair (.int .i64) (.pair (.int .i64) (.int .i64))) a.2]), (54000, .arr 3 (.int .i64) v0_5.1)] ?_
           refine AW.cond (b := false) rfl (fun hb80 => by cases hb80) (fun _ => ?_)
           refine zk ?_
           exact AW.weaken (zL [] [] []) (hk_lineallaw05_RefineTells_k1 () h)
        ·refine zS 5 [(2, .sl (.int .i64) trace), (3, .bp 3 0), (4, .bp 4 0), (7, .bool false), (9, .own 54000), (10, .int .i64 v0_5.2), (11, .bool v0_6.1), (73, .bool false)] [(3, .box 24 [.int .i64 c.1, .sl (.pair (.int .i64) (.pair (.int .i64) (.int .i64))) c.2]), (4, .box 24 [.int .i64 a.1, .sl (.pair (.int .i64) (.pair (.int .i64) (.int .i64))) a.2]), (54000, .arr 3 (.int .i64) v0_5.1)] ?_
         refine zS 2 [(2, .sl (.int .i64) trace), (3, .bp 3 0), (4, .bp 4 0), (7, .bool false), (9, .own 54000), (10, .int .i64 v0_5.2), (73, .bool false), (75, .bool v0_6.1)] [(3, .box 24 [.int .i64 c.1, .sl (.pair (.int .i64) (.pair (.int .i64) (.int .i64))) c.2]), (4, .box 24 [.int .i64 a.1, .sl (.pair (.int .i64) (.pair (.int .i64) (.int .i64))) a.2]), (54000, .arr 3 (.int .i64) v0_5.1)] ?_
         rcases zI h with ⟨hb81, h⟩ | ⟨hb81, h⟩
         ·refine zS 5 [(2, .sl (.int .i64) trace), (3, .bp 3 0), (4, .bp 4 0), (9, .own 54000), (10, .int .i64 v0_5.2), (73, .bool false), (80, .bool ((false == (decide (v0_5.2 = 5))) != true))] [(3, .box 24 [.int .i64 c.1, .sl (.pair (.int .i64) (.pair (.int .i64) (.int .i64))) c.2]), (4, .box 24 [.int .i64 a.1, .sl (.pair (.int .i64) (.pair (.int .i64) (.int .i64))) a.2]), (54000, .arr 3 (.int .i64) v0_5.1)] ?_
          refine zB [(2, .sl (.int .i64) trace), (3, .bp 3 0), (4, .bp 4 0), (9, .own 54000), (10, .int .i64 v0_5.2), (81, .bool ((false == (decide (v0_5.2 = 5))) != true))] [(3, .box 24 [.int .i64 c.1, .sl (.pair (.int .i64) (.pair (.int .i64) (.int .i64))) c.2]), (4, .box 24 [.int .i64 a.1, .sl (.pair (.int .i64) (.pair (.int .i64) (.int .i64))) a.2]), (54000, .arr 3 (.int .i64) v0_5.1)] ?_
          refine zQ h (fun hb82 h => ?_) (fun hb82 h => ?_)
          ·refine zo ?_
           refine zB [(6, .bool false)] [] ?_
           refine zr ?_
           obtain rfl := Option.some.inj h
           exact zR [] [] []
          ·refine zk ?_
           exact AW.weaken (zL [] [] []) (hk_lineallaw05_RefineTells_k1 () h)
         ·refine zS 4 [(2, .sl (.int .i64) trace), (3, .bp 3 0), (4, .bp 4 0), (9, .own 54000), (10, .int .i64 v0_5.2), (73, .bool false), (75, .bool false), (79, .cv (undef))] [(3, .box 24 [.int .i64 c.1, .sl (.pair (.int .i64) (.pair (.int .i64) (.int .i64))) c.2]), (4, .box 24 [.int .i64 a.1, .sl (.pair (.int .i64) (.pair (.int .i64) (.int .i64))) a.2]), (54000, .arr 3 (.int .i64) v0_5.1)] ?_
          refine zB [(2, .sl (.int .i64) trace), (3, .bp 3 0), (4, .bp 4 0), (9, .own 54000), (10, .int .i64 v0_5.2), (81, .bool false)] [(3, .box 24 [.int .i64 c.1, .sl (.pair (.int .i64) (.pair (.int .i64) (.int .i64))) c.2]), (4, .box 24 [.int .i64 a.1, .sl (.pair (.int .i64) (.pair (.int .i64) (.int .i64))) a.2]), (54000, .arr 3 (.int .i64) v0_5.1)] ?_
          refine AW.cond (b := false) rfl (fun hb83 => by cases hb83) (fun _ => ?_)
          refine zk ?_
          exact AW.weaken (zL [] [] []) (hk_lineallaw05_RefineTells_k1 () h)
      ·refine zS 5 [(2, .sl (.int .i64) trace), (3, .bp 3 0), (4, .bp 4 0), (7, .bool v0_4.1), (9, .own 54000), (10, .int .i64 v0_5.2), (11, .bool v0_6.1), (66, .bool false)] [(3, .box 24 [.int .i64 c.1, .sl (.pair (.int .i64) (.pair (.int .i64) (.int .i64))) c.2]), (4, .box 24 [.int .i64 a.1, .sl (.pair (.int .i64) (.pair (.int .i64) (.int .i64))) a.2]), (54000, .arr 3 (.int .i64) v0_5.1)] ?_
       refine zS 2 [(2, .sl (.int .i64) trace), (3, .bp 3 0), (4, .bp 4 0), (7, .bool v0_4.1), (9, .own 54000), (10, .int .i64 v0_5.2), (11, .bool v0_6.1), (66, .bool false), (68, .bool v0_4.1)] [(3, .box 24 [.int .i64 c.1, .sl (.pair (.int .i64) (.pair (.int .i64) (.int .i64))) c.2]), (4, .box 24 [.int .i64 a.1, .sl (.pair (.int .i64) (.pair (.int .i64) (.int .i64))) a.2]), (54000, .arr 3 (.int .i64) v0_5.1)] ?_
       rcases zI h with ⟨hb84, h⟩ | ⟨hb84, h⟩
       ·refine zS 5 [(2, .sl (.int .i64) trace), (3, .bp 3 0), (4, .bp 4 0), (7, .bool true), (9, .own 54000), (10, .int .i64 v0_5.2), (11, .bool v0_6.1), (73, .bool (decide (v0_5.2 = 0)))] [(3, .box 24 [.int .i64 c.1, .sl (.pair (.int .i64) (.pair (.int .i64) (.int .i64))) c.2]), (4, .box 24 [.int .i64 a.1, .sl (.pair (.int .i64) (.pair (.int .i64) (.int .i64))) a.2]), (54000, .arr 3 (.int .i64) v0_5.1)] ?_
        rcases zI h with ⟨hb85, h⟩ | ⟨hb85, h⟩
        ·refine zS 4 [(2, .sl (.int .i64) trace), (3, .bp 3 0), (4, .bp 4 0), (9, .own 54000), (10, .int .i64 v0_5.2), (73, .bool true), (75, .cv (undef)), (76, .cv (undef)), (77, .cv (undef))] [(3, .box 24 [.int .i64 c.1, .sl (.pair (.int .i64) (.pair (.int .i64) (.int .i64))) c.2]), (4, .box 24 [.int .i64 a.1, .sl (.pair (.int .i64) (.pair (.int .i64) (.int .i64))) a.2]), (54000, .arr 3 (.int .i64) v0_5.1)] ?_
         refine zB [(2, .sl (.int .i64) trace), (3, .bp 3 0), (4, .bp 4 0), (9, .own 54000), (10, .int .i64 v0_5.2), (81, .bool true)] [(3, .box 24 [.int .i64 c.1, .sl (.pair (.int .i64) (.pair (.int .i64) (.int .i64))) c.2]), (4, .box 24 [.int .i64 a.1, .sl (.pair (.int .i64) (.pair (.int .i64) (.int .i64))) a.2]), (54000, .arr 3 (.int .i64) v0_5.1)] ?_
         refine AW.cond (b := true) rfl (fun _ => ?_) (fun hb86 => by cases hb86)
         refine zo ?_
         refine zB [(6, .bool false)] [] ?_
         refine zr ?_
         obtain rfl := Option.some.inj h
         exact zR [] [] []
        ·refine zS 2 [(2, .sl (.int .i64) trace), (3, .bp 3 0), (4, .bp 4 0), (7, .bool true), (9, .own 54000), (10, .int .i64 v0_5.2), (73, .bool false), (75, .bool v0_6.1)] [(3, .box 24 [.int .i64 c.1, .sl (.pair (.int .i64) (.pair (.int .i64) (.int .i64))) c.2]), (4, .box 24 [.int .i64 a.1, .sl (.pair (.int .i64) (.pair (.int .i64) (.int .i64))) a.2]), (54000, .arr 3 (.int .i64) v0_5.1)] ?_
         rcases zI h with ⟨hb87, h⟩ | ⟨hb87, h⟩
         ·refine zS 5 [(2, .sl (.int .i64) trace), (3, .bp 3 0), (4, .bp 4 0), (9, .own 54000), (10, .int .i64 v0_5.2), (73, .bool false), (80, .bool ((true == (decide (v0_5.2 = 5))) != true))] [(3, .box 24 [.int .i64 c.1, .sl (.pair (.int .i64) (.pair (.int .i64) (.int .i64))) c.2]), (4, .box 24 [.int .i64 a.1, .sl (.pair (.int .i64) (.pair (.int .i64) (.int .i64))) a.2]), (54000, .arr 3 (.int .i64) v0_5.1)] ?_
          refine zB [(2, .sl (.int .i64) trace), (3, .bp 3 0), (4, .bp 4 0), (9, .own 54000), (10, .int .i64 v0_5.2), (81, .bool ((true == (decide (v0_5.2 = 5))) != true))] [(3, .box 24 [.int .i64 c.1, .sl (.pair (.int .i64) (.pair (.int .i64) (.int .i64))) c.2]), (4, .box 24 [.int .i64 a.1, .sl (.pair (.int .i64) (.pair (.int .i64) (.int .i64))) a.2]), (54000, .arr 3 (.int .i64) v0_5.1)] ?_
          refine zQ h (fun hb88 h => ?_) (fun hb88 h => ?_)
          ·refine zo ?_
           refine zB [(6, .bool false)] [] ?_
           refine zr ?_
           obtain rfl := Option.some.inj h
           exact zR [] [] []
          ·refine zk ?_
           exact AW.weaken (zL [] [] []) (hk_lineallaw05_RefineTells_k1 () h)
         ·refine zS 4 [(2, .sl (.int .i64) trace), (3, .bp 3 0), (4, .bp 4 0), (9, .own 54000), (10, .int .i64 v0_5.2), (73, .bool false), (75, .bool false), (79, .cv (undef))] [(3, .box 24 [.int .i64 c.1, .sl (.pair (.int .i64) (.pair (.int .i64) (.int .i64))) c.2]), (4, .box 24 [.int .i64 a.1, .sl (.pair (.int .i64) (.pair (.int .i64) (.int .i64))) a.2]), (54000, .arr 3 (.int .i64) v0_5.1)] ?_
          refine zB [(2, .sl (.int .i64) trace), (3, .bp 3 0), (4, .bp 4 0), (9, .own 54000), (10, .int .i64 v0_5.2), (81, .bool false)] [(3, .box 24 [.int .i64 c.1, .sl (.pair (.int .i64) (.pair (.int .i64) (.int .i64))) c.2]), (4, .box 24 [.int .i64 a.1, .sl (.pair (.int .i64) (.pair (.int .i64) (.int .i64))) a.2]), (54000, .arr 3 (.int .i64) v0_5.1)] ?_
          refine AW.cond (b := false) rfl (fun hb89 => by cases hb89) (fun _ => ?_)
          refine zk ?_
          exact AW.weaken (zL [] [] []) (hk_lineallaw05_RefineTells_k1 () h)
       ·refine zS 5 [(2, .sl (.int .i64) trace), (3, .bp 3 0), (4, .bp 4 0), (7, .bool false), (9, .own 54000), (10, .int .i64 v0_5.2), (11, .bool v0_6.1), (73, .bool false)] [(3, .box 24 [.int .i64 c.1, .sl (.pair (.int .i64) (.pair (.int .i64) (.int .i64))) c.2]), (4, .box 24 [.int .i64 a.1, .sl (.pair (.int .i64) (.pair (.int .i64) (.int .i64))) a.2]), (54000, .arr 3 (.int .i64) v0_5.1)] ?_
        refine zS 2 [(2, .sl (.int .i64) trace), (3, .bp 3 0), (4, .bp 4 0), (7, .bool false), (9, .own 54000), (10, .int .i64 v0_5.2), (73, .bool false), (75, .bool v0_6.1)] [(3, .box 24 [.int .i64 c.1, .sl (.pair (.int .i64) (.pair (.int .i64) (.int .i64))) c.2]), (4, .box 24 [.int .i64 a.1, .sl (.pair (.int .i64) (.pair (.int .i64) (.int .i64))) a.2]), (54000, .arr 3 (.int .i64) v0_5.1)] ?_
        rcases zI h with ⟨hb90, h⟩ | ⟨hb90, h⟩
        ·refine zS 5 [(2, .sl (.int .i64) trace), (3, .bp 3 0), (4, .bp 4 0), (9, .own 54000), (10, .int .i64 v0_5.2), (73, .bool false), (80, .bool ((false == (decide (v0_5.2 = 5))) != true))] [(3, .box 24 [.int .i64 c.1, .sl (.pair (.int .i64) (.pair (.int .i64) (.int .i64))) c.2]), (4, .box 24 [.int .i64 a.1, .sl (.pair (.int .i64) (.pair (.int .i64) (.int .i64))) a.2]), (54000, .arr 3 (.int .i64) v0_5.1)] ?_
         refine zB [(2, .sl (.int .i64) trace), (3, .bp 3 0), (4, .bp 4 0), (9, .own 54000), (10, .int .i64 v0_5.2), (81, .bool ((false == (decide (v0_5.2 = 5))) != true))] [(3, .box 24 [.int .i64 c.1, .sl (.pair (.int .i64) (.pair (.int .i64) (.int .i64))) c.2]), (4, .box 24 [.int .i64 a.1, .sl (.pair (.int .i64) (.pair (.int .i64) (.int .i64))) a.2]), (54000, .arr 3 (.int .i64) v0_5.1)] ?_
         refine zQ h (fun hb91 h => ?_) (fun hb91 h => ?_)
         ·refine zo ?_
          refine zB [(6, .bool false)] [] ?_
          refine zr ?_
          obtain rfl := Option.some.inj h
          exact zR [] [] []
         ·refine zk ?_
          exact AW.weaken (zL [] [] []) (hk_lineallaw05_RefineTells_k1 () h)
        ·refine zS 4 [(2, .sl (.int .i64) trace), (3, .bp 3 0), (4, .bp 4 0), (9, .own 54000), (10, .int .i64 v0_5.2), (73, .bool false), (75, .bool false), (79, .cv (undef))] [(3, .box 24 [.int .i64 c.1, .sl (.pair (.int .i64) (.pair (.int .i64) (.int .i64))) c.2]), (4, .box 24 [.int .i64 a.1, .sl (.pair (.int .i64) (.pair (.int .i64) (.int .i64))) a.2]), (54000, .arr 3 (.int .i64) v0_5.1)] ?_
         refine zB [(2, .sl (.int .i64) trace), (3, .bp 3 0), (4, .bp 4 0), (9, .own 54000), (10, .int .i64 v0_5.2), (81, .bool false)] [(3, .box 24 [.int .i64 c.1, .sl (.pair (.int .i64) (.pair (.int .i64) (.int .i64))) c.2]), (4, .box 24 [.int .i64 a.1, .sl (.pair (.int .i64) (.pair (.int .i64) (.int .i64))) a.2]), (54000, .arr 3 (.int .i64) v0_5.1)] ?_
         refine AW.cond (b := false) rfl (fun hb92 => by cases hb92) (fun _ => ?_)
         refine zk ?_
         exact AW.weaken (zL [] [] []) (hk_lineallaw05_RefineTells_k1 () h)

end Go.Proofs.Ytljonmpcehlpaaa
