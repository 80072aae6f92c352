/-
  Made by wip/tool/dc.py out of the print of the program: contracts.
-/
import Derived.Test.YtljonmpcehlpaaaRfp
import Derived.Test.YtljonmpcehlpaaaShr
import Derived.Test.YtljonmpcehlpaaaAvd
import Derived.Test.YtljonmpcehlpaaaNhc1
import Derived.Test.YtljonmpcehlpaaaNhc4
import Derived.Test.YtljonmpcehlpaaaNhc5
import Derived.Test.YtljonmpcehlpaaaNhc6
namespace Go.Proofs.Ytljonmpcehlpaaa
open Go.RowKit

set_option linter.unusedSimpArgs false
set_option linter.unusedVariables false
set_option linter.constructorNameAsVariable false

set_option maxRecDepth 100000
set_option maxHeartbeats 2000000

theorem hc_refine_Without (s : Int × (List (Int × Int × Int))) (step : Int) {r : Int × (List (Int × Int × Int)) × Int} (h : refine_Without s step = some r) : HC Try.prog 50 [] [.agg [.int .i64 s.1, .sl (.pair (.int .i64) (.pair (.int .i64) (.int .i64))) s.2], .int .i64 step] [(2000, .arr 66 (.pair (.int .i64) (.pair (.int .i64) (.int .i64))) r.2.1)] (.tup [.agg [.int .i64 r.1, .own 2000], .int .i64 r.2.2]) := by
 unfold refine_Without at h
 refine zH Try.func50 [.cell 4 24, .tmp 5] 34 ?_
 refine zo ?_
 refine zB [(1, .int .i64 step), (2, .bp 2 0), (4, .bp 4 0)] [(2, .box 24 [.int .i64 s.1, .sl (.pair (.int .i64) (.pair (.int .i64) (.int .i64))) s.2]), (4, .box 24 [.int .i64 0, .cv (.slice none 0 0)])] ?_
 refine AW.seq ?_
 refine zo ?_
 refine zS 1 [(1, .int .i64 step), (2, .bp 2 0), (4, .bp 4 0), (6, .agg [.int .i64 s.1, .sl (.pair (.int .i64) (.pair (.int .i64) (.int .i64))) s.2])] [(2, .box 24 [.int .i64 s.1, .sl (.pair (.int .i64) (.pair (.int .i64) (.int .i64))) s.2]), (4, .box 24 [.int .i64 0, .cv (.slice none 0 0)])] ?_
 obtain ⟨v0, hv1, h⟩ := Option.bind_eq_some_iff.1 h
 refine zC [] [] (hc_refine_Valid s hv1) [(1, .int .i64 step), (2, .bp 2 0), (4, .bp 4 0), (7, .bool v0)] [(2, .box 24 [.int .i64 s.1, .sl (.pair (.int .i64) (.pair (.int .i64) (.int .i64))) s.2]), (4, .box 24 [.int .i64 0, .cv (.slice none 0 0)])] ?_
 refine zB [(1, .int .i64 step), (2, .bp 2 0), (4, .bp 4 0), (8, .bool (!v0))] [(2, .box 24 [.int .i64 s.1, .sl (.pair (.int .i64) (.pair (.int .i64) (.int .i64))) s.2]), (4, .box 24 [.int .i64 0, .cv (.slice none 0 0)])] ?_
 refine zQ h (fun hb2 h => ?_) (fun hb2 h => ?_)
 ·refine zo ?_
  refine zB [(4, .bp 4 0), (5, .int .i64 50)] [(4, .box 24 [.int .i64 0, .cv (.slice none 0 0)])] ?_
  refine zr ?_
  obtain rfl := Option.some.inj h
  exact zR [] [2000] []
 ·refine zk ?_
  refine AW.seq ?_
  refine zo ?_
  refine zS 3 [(1, .int .i64 step), (2, .bp 2 0), (4, .bp 4 0), (12, .bool (decide (step < 0)))] [(2, .box 24 [.int .i64 s.1, .sl (.pair (.int .i64) (.pair (.int .i64) (.int .i64))) s.2]), (4, .box 24 [.int .i64 0, .cv (.slice none 0 0)])] ?_
  rcases zI h with ⟨hb3, h⟩ | ⟨hb3, h⟩
  ·refine zS 4 [(1, .int .i64 step), (2, .bp 2 0), (4, .bp 4 0), (12, .bool true), (13, .cv (undef)), (16, .cv (undef))] [(2, .box 24 [.int .i64 s.1, .sl (.pair (.int .i64) (.pair (.int .i64) (.int .i64))) s.2]), (4, .box 24 [.int .i64 0, .cv (.slice none 0 0)])] ?_
   refine zB [(1, .int .i64 step), (2, .bp 2 0), (4, .bp 4 0), (18, .bool true)] [(2, .box 24 [.int .i64 s.1, .sl (.pair (.int .i64) (.pair (.int .i64) (.int .i64))) s.2]), (4, .box 24 [.int .i64 0, .cv (.slice none 0 0)])] ?_
   refine AW.cond (b := true) rfl (fun _ => ?_) (fun hb4 => by cases hb4)
   refine zo ?_
   refine zB [(4, .bp 4 0), (5, .int .i64 2)] [(4, .box 24 [.int .i64 0, .cv (.slice none 0 0)])] ?_
   refine zr ?_
   obtain rfl := Option.some.inj h
   exact zR [] [2000] []
  ·refine zS 5 [(1, .int .i64 step), (2, .bp 2 0), (4, .bp 4 0), (12, .bool false), (17, .bool (decide ((s.2.length : Int) ≤ step)))] [(2, .box 24 [.int .i64 s.1, .sl (.pair (.int .i64) (.pair (.int .i64) (.int .i64))) s.2]), (4, .box 24 [.int .i64 0, .cv (.slice none 0 0)])] ?_
   refine zB [(1, .int .i64 step), (2, .bp 2 0), (4, .bp 4 0), (18, .bool (decide ((s.2.length : Int) ≤ step)))] [(2, .box 24 [.int .i64 s.1, .sl (.pair (.int .i64) (.pair (.int .i64) (.int .i64))) s.2]), (4, .box 24 [.int .i64 0, .cv (.slice none 0 0)])] ?_
   refine zQ h (fun hb5 h => ?_) (fun hb5 h => ?_)
   ·refine zo ?_
    refine zB [(4, .bp 4 0), (5, .int .i64 2)] [(4, .box 24 [.int .i64 0, .cv (.slice none 0 0)])] ?_
    refine zr ?_
    obtain rfl := Option.some.inj h
    exact zR [] [2000] []
   ·refine zk ?_
    refine AW.seq ?_
    refine AW.draw tab_ok mixed_ok [(11, [31]), (12, [42000]), (14, [4])] [(0, [2]), (1, [2]), (100014, [])] (by decide) (lex_fast (by kernel_rfl)) ?_
    as_aux_lemma =>
     obtain ⟨c7, h⟩ := ck_some.1 h
     obtain ⟨c8, h⟩ := ck_some.1 h
     refine adops_cut 6 (fun K' hK6 => ?_)
     try dsimp only [List.drop_succ_cons, List.drop_zero, List.take_succ_cons, List.take_zero]
     simp only [go_sem, hb2, hb3, hb5]
     repeat with_reducible refine zN ?_
     refine hK6 _ ?_
     as_aux_lemma =>
      obtain ⟨c10, h⟩ := ck_some.1 h
      obtain ⟨c11, h⟩ := ck_some.1 h
      obtain ⟨c12, h⟩ := ck_some.1 h
      refine adops_cut 6 (fun K' hK9 => ?_)
      try dsimp only [List.drop_succ_cons, List.drop_zero, List.take_succ_cons, List.take_zero]
      simp only [go_sem, hb2, hb3, hb5]
      repeat with_reducible refine zN ?_
      refine hK9 _ ?_
      as_aux_lemma =>
       obtain ⟨v0_2, hv13, h⟩ := Option.bind_eq_some_iff.1 h
       refine adops.call (by first | trivial | rfl) rfl rfl rfl (fun _ h => h) [31] [] (hc_slices_Concat [(s.2.take step.toNat), (s.2.drop (step + 1).toNat)] hv13) rfl (by (simp only [go_sem, hb2, hb3, hb5]) <;> (with_reducible and_intros) <;> first | assumption | rfl | omega | (unfold maxLen; omega)) (by (simp only [go_sem, hb2, hb3, hb5]) <;> (with_reducible and_intros) <;> first | assumption | rfl | omega | (unfold maxLen; omega)) rfl ?_
       refine adops_cut 3 (fun K' hK14 => ?_)
       try dsimp only [List.drop_succ_cons, List.drop_zero, List.take_succ_cons, List.take_zero]
       simp only [go_sem, hb2, hb3, hb5]
       repeat with_reducible refine zN ?_
       refine hK14 _ ?_
       refine adops_nil ?_
       refine athen_n ?_
       refine zV [(4, .bp 4 0), (5, .int .i64 0)] [(4, .box 24 [.int .i64 s.1, .own 42000]), (42000, .arr 66 (.pair (.int .i64) (.pair (.int .i64) (.int .i64))) v0_2)] gt ?_
       as_aux_lemma =>
        refine AW.ret ?_
        obtain rfl := Option.some.inj h
        exact zR [] [] [(2000, 42000)]

theorem hc_lineallaw05_RefineHides (c : Int × (List (Int × Int × Int))) (a : Int × (List (Int × Int × Int))) (label : Int) (step : Int) {r : Bool} (h : lineallaw05_RefineHides c a label step = some r) : HC Try.prog 13 [] [.agg [.int .i64 c.1, .sl (.pair (.int .i64) (.pair (.int .i64) (.int .i64))) c.2], .agg [.int .i64 a.1, .sl (.pair (.int .i64) (.pair (.int .i64) (.int .i64))) a.2], .int .u8 label, .int .u8 step] [] (.bool r) := by
 unfold lineallaw05_RefineHides at h
 refine zH Try.func13 [.tmp 8] 137 ?_
 refine zo ?_
 refine zB [(2, .int .u8 label), (3, .int .u8 step), (4, .bp 4 0), (5, .bp 5 0)] [(4, .box 24 [.int .i64 c.1, .sl (.pair (.int .i64) (.pair (.int .i64) (.int .i64))) c.2]), (5, .box 24 [.int .i64 a.1, .sl (.pair (.int .i64) (.pair (.int .i64) (.int .i64))) a.2])] ?_
 refine AW.seq ?_
 refine zo ?_
 refine zS 3 [(2, .int .u8 label), (3, .int .u8 step), (4, .bp 4 0), (5, .bp 5 0), (24, .own 24)] [(4, .box 24 [.int .i64 c.1, .sl (.pair (.int .i64) (.pair (.int .i64) (.int .i64))) c.2]), (5, .box 24 [.int .i64 a.1, .sl (.pair (.int .i64) (.pair (.int .i64) (.int .i64))) a.2]), (24, .arr 24 (.pair (.int .i64) (.sl (.pair (.int .i64) (.pair (.int .i64) (.int .i64))))) [c, a])] ?_
 obtain ⟨v0, hv1, h⟩ := Option.bind_eq_some_iff.1 h
 refine zC [24] [] (hc_lineallaw05_valid [c, a] hv1) [(2, .int .u8 label), (3, .int .u8 step), (4, .bp 4 0), (5, .bp 5 0), (25, .bool v0)] [(4, .box 24 [.int .i64 c.1, .sl (.pair (.int .i64) (.pair (.int .i64) (.int .i64))) c.2]), (5, .box 24 [.int .i64 a.1, .sl (.pair (.int .i64) (.pair (.int .i64) (.int .i64))) a.2])] ?_
 refine zB [(2, .int .u8 label), (3, .int .u8 step), (4, .bp 4 0), (5, .bp 5 0), (26, .bool (!v0))] [(4, .box 24 [.int .i64 c.1, .sl (.pair (.int .i64) (.pair (.int .i64) (.int .i64))) c.2]), (5, .box 24 [.int .i64 a.1, .sl (.pair (.int .i64) (.pair (.int .i64) (.int .i64))) a.2])] ?_
 refine zQ h (fun hb2 h => ?_) (fun hb2 h => ?_)
 ·refine zo ?_
  obtain ⟨v0_2, hv3, h⟩ := Option.bind_eq_some_iff.1 h
  refine zC [] [] (hc_lineallaw05_Awake hv3) [(27, .bool v0_2)] [] ?_
  refine zB [(8, .bool v0_2)] [] ?_
  refine zr ?_
  obtain rfl := Option.some.inj h
  exact zR [] [] []
 ·refine zk ?_
  refine zo ?_
  obtain ⟨c4, h⟩ := ck_some.1 h
  obtain ⟨c5, h⟩ := ck_some.1 h
  obtain ⟨c6, h⟩ := ck_some.1 h
  refine zB [(3, .int .u8 step), (4, .bp 4 0), (5, .bp 5 0), (9, .int .i64 (1 + (label % 3)))] [(4, .box 24 [.int .i64 c.1, .sl (.pair (.int .i64) (.pair (.int .i64) (.int .i64))) c.2]), (5, .box 24 [.int .i64 a.1, .sl (.pair (.int .i64) (.pair (.int .i64) (.int .i64))) a.2])] ?_
  refine zo ?_
  refine zS 2 [(3, .int .u8 step), (4, .bp 4 0), (5, .bp 5 0), (9, .int .i64 (1 + (label % 3))), (33, .agg [.int .i64 c.1, .sl (.pair (.int .i64) (.pair (.int .i64) (.int .i64))) c.2]), (34, .int .i64 (1 + (label % 3)))] [(4, .box 24 [.int .i64 c.1, .sl (.pair (.int .i64) (.pair (.int .i64) (.int .i64))) c.2]), (5, .box 24 [.int .i64 a.1, .sl (.pair (.int .i64) (.pair (.int .i64) (.int .i64))) a.2])] ?_
  obtain ⟨v0_3, hv7, h⟩ := Option.bind_eq_some_iff.1 h
  refine zC [] [] (hc_refine_Hidden c (1 + (label % 3)) hv7) [(3, .int .u8 step), (4, .bp 4 0), (5, .bp 5 0), (9, .int .i64 (1 + (label % 3))), (35, .tup [.agg [.int .i64 v0_3.1, .own 45000], .int .i64 v0_3.2.2])] [(4, .box 24 [.int .i64 c.1, .sl (.pair (.int .i64) (.pair (.int .i64) (.int .i64))) c.2]), (5, .box 24 [.int .i64 a.1, .sl (.pair (.int .i64) (.pair (.int .i64) (.int .i64))) a.2]), (45000, .arr 66 (.pair (.int .i64) (.pair (.int .i64) (.int .i64))) v0_3.2.1)] ?_
  refine zS 5 [(3, .int .u8 step), (4, .bp 4 0), (5, .bp 5 0), (9, .int .i64 (1 + (label % 3))), (10, .bp 10 0), (37, .int .i64 v0_3.2.2)] [(4, .box 24 [.int .i64 c.1, .sl (.pair (.int .i64) (.pair (.int .i64) (.int .i64))) c.2]), (5, .box 24 [.int .i64 a.1, .sl (.pair (.int .i64) (.pair (.int .i64) (.int .i64))) a.2]), (10, .box 24 [.int .i64 v0_3.1, .own 45000]), (45000, .arr 66 (.pair (.int .i64) (.pair (.int .i64) (.int .i64))) v0_3.2.1)] ?_
  refine zB [(3, .int .u8 step), (4, .bp 4 0), (5, .bp 5 0), (9, .int .i64 (1 + (label % 3))), (10, .bp 10 0), (11, .int .i64 v0_3.2.2)] [(4, .box 24 [.int .i64 c.1, .sl (.pair (.int .i64) (.pair (.int .i64) (.int .i64))) c.2]), (5, .box 24 [.int .i64 a.1, .sl (.pair (.int .i64) (.pair (.int .i64) (.int .i64))) a.2]), (10, .box 24 [.int .i64 v0_3.1, .own 45000]), (45000, .arr 66 (.pair (.int .i64) (.pair (.int .i64) (.int .i64))) v0_3.2.1)] ?_
  refine zo ?_
  refine zS 2 [(3, .int .u8 step), (4, .bp 4 0), (5, .bp 5 0), (9, .int .i64 (1 + (label % 3))), (10, .bp 10 0), (11, .int .i64 v0_3.2.2), (39, .agg [.int .i64 a.1, .sl (.pair (.int .i64) (.pair (.int .i64) (.int .i64))) a.2]), (40, .int .i64 (1 + (label % 3)))] [(4, .box 24 [.int .i64 c.1, .sl (.pair (.int .i64) (.pair (.int .i64) (.int .i64))) c.2]), (5, .box 24 [.int .i64 a.1, .sl (.pair (.int .i64) (.pair (.int .i64) (.int .i64))) a.2]), (10, .box 24 [.int .i64 v0_3.1, .own 45000]), (45000, .arr 66 (.pair (.int .i64) (.pair (.int .i64) (.int .i64))) v0_3.2.1)] ?_
  obtain ⟨v0_4, hv8, h⟩ := Option.bind_eq_some_iff.1 h
  refine zC [] [] (hc_refine_Hidden a (1 + (label % 3)) hv8) [(3, .int .u8 step), (4, .bp 4 0), (5, .bp 5 0), (9, .int .i64 (1 + (label % 3))), (10, .bp 10 0), (11, .int .i64 v0_3.2.2), (41, .tup [.agg [.int .i64 v0_4.1, .own 51000], .int .i64 v0_4.2.2])] [(4, .box 24 [.int .i64 c.1, .sl (.pair (.int .i64) (.pair (.int .i64) (.int .i64))) c.2]), (5, .box 24 [.int .i64 a.1, .sl (.pair (.int .i64) (.pair (.int .i64) (.int .i64))) a.2]), (10, .box 24 [.int .i64 v0_3.1, .own 45000]), (45000, .arr 66 (.pair (.int .i64) (.pair (.int .i64) (.int .i64))) v0_3.2.1), (51000, .arr 66 (.pair (.int .i64) (.pair (.int .i64) (.int .i64))) v0_4.2.1)] ?_
  refine zS 5 [(3, .int .u8 step), (4, .bp 4 0), (5, .bp 5 0), (9, .int .i64 (1 + (label % 3))), (10, .bp 10 0), (11, .int .i64 v0_3.2.2), (12, .bp 12 0), (43, .int .i64 v0_4.2.2)] [(4, .box 24 [.int .i64 c.1, .sl (.pair (.int .i64) (.pair (.int .i64) (.int .i64))) c.2]), (5, .box 24 [.int .i64 a.1, .sl (.pair (.int .i64) (.pair (.int .i64) (.int .i64))) a.2]), (10, .box 24 [.int .i64 v0_3.1, .own 45000]), (12, .box 24 [.int .i64 v0_4.1, .own 51000]), (45000, .arr 66 (.pair (.int .i64) (.pair (.int .i64) (.int .i64))) v0_3.2.1), (51000, .arr 66 (.pair (.int .i64) (.pair (.int .i64) (.int .i64))) v0_4.2.1)] ?_
  refine zB [(3, .int .u8 step), (4, .bp 4 0), (5, .bp 5 0), (9, .int .i64 (1 + (label % 3))), (10, .bp 10 0), (11, .int .i64 v0_3.2.2), (12, .bp 12 0), (13, .int .i64 v0_4.2.2)] [(4, .box 24 [.int .i64 c.1, .sl (.pair (.int .i64) (.pair (.int .i64) (.int .i64))) c.2]), (5, .box 24 [.int .i64 a.1, .sl (.pair (.int .i64) (.pair (.int .i64) (.int .i64))) a.2]), (10, .box 24 [.int .i64 v0_3.1, .own 45000]), (12, .box 24 [.int .i64 v0_4.1, .own 51000]), (45000, .arr 66 (.pair (.int .i64) (.pair (.int .i64) (.int .i64))) v0_3.2.1), (51000, .arr 66 (.pair (.int .i64) (.pair (.int .i64) (.int .i64))) v0_4.2.1)] ?_
  refine zo ?_
  refine zS 2 [(3, .int .u8 step), (4, .bp 4 0), (9, .int .i64 (1 + (label % 3))), (10, .bp 10 0), (11, .int .i64 v0_3.2.2), (12, .bp 12 0), (13, .int .i64 v0_4.2.2), (45, .agg [.int .i64 c.1, .sl (.pair (.int .i64) (.pair (.int .i64) (.int .i64))) c.2]), (46, .agg [.int .i64 a.1, .sl (.pair (.int .i64) (.pair (.int .i64) (.int .i64))) a.2])] [(4, .box 24 [.int .i64 c.1, .sl (.pair (.int .i64) (.pair (.int .i64) (.int .i64))) c.2]), (10, .box 24 [.int .i64 v0_3.1, .own 45000]), (12, .box 24 [.int .i64 v0_4.1, .own 51000]), (45000, .arr 66 (.pair (.int .i64) (.pair (.int .i64) (.int .i64))) v0_3.2.1), (51000, .arr 66 (.pair (.int .i64) (.pair (.int .i64) (.int .i64))) v0_4.2.1)] ?_
  obtain ⟨v0_5, hv9, h⟩ := Option.bind_eq_some_iff.1 h
  refine zC [] [] (hc_refine_Refines c a hv9) [(3, .int .u8 step), (4, .bp 4 0), (9, .int .i64 (1 + (label % 3))), (10, .bp 10 0), (11, .int .i64 v0_3.2.2), (12, .bp 12 0), (13, .int .i64 v0_4.2.2), (47, .tup [.bool v0_5.1, .int .i64 v0_5.2])] [(4, .box 24 [.int .i64 c.1, .sl (.pair (.int .i64) (.pair (.int .i64) (.int .i64))) c.2]), (10, .box 24 [.int .i64 v0_3.1, .own 45000]), (12, .box 24 [.int .i64 v0_4.1, .own 51000]), (45000, .arr 66 (.pair (.int .i64) (.pair (.int .i64) (.int .i64))) v0_3.2.1), (51000, .arr 66 (.pair (.int .i64) (.pair (.int .i64) (.int .i64))) v0_4.2.1)] ?_
  refine zB [(3, .int .u8 step), (4, .bp 4 0), (9, .int .i64 (1 + (label % 3))), (10, .bp 10 0), (11, .int .i64 v0_3.2.2), (12, .bp 12 0), (13, .int .i64 v0_4.2.2), (14, .bool v0_5.1), (15, .int .i64 v0_5.2)] [(4, .box 24 [.int .i64 c.1, .sl (.pair (.int .i64) (.pair (.int .i64) (.int .i64))) c.2]), (10, .box 24 [.int .i64 v0_3.1, .own 45000]), (12, .box 24 [.int .i64 v0_4.1, .own 51000]), (45000, .arr 66 (.pair (.int .i64) (.pair (.int .i64) (.int .i64))) v0_3.2.1), (51000, .arr 66 (.pair (.int .i64) (.pair (.int .i64) (.int .i64))) v0_4.2.1)] ?_
  refine zo ?_
  refine zS 2 [(3, .int .u8 step), (4, .bp 4 0), (9, .int .i64 (1 + (label % 3))), (10, .bp 10 0), (11, .int .i64 v0_3.2.2), (13, .int .i64 v0_4.2.2), (14, .bool v0_5.1), (15, .int .i64 v0_5.2), (51, .agg [.int .i64 v0_3.1, .own 45000]), (52, .agg [.int .i64 v0_4.1, .own 51000])] [(4, .box 24 [.int .i64 c.1, .sl (.pair (.int .i64) (.pair (.int .i64) (.int .i64))) c.2]), (10, .box 24 [.int .i64 v0_3.1, .own 45000]), (45000, .arr 66 (.pair (.int .i64) (.pair (.int .i64) (.int .i64))) v0_3.2.1), (51000, .arr 66 (.pair (.int .i64) (.pair (.int .i64) (.int .i64))) v0_4.2.1)] ?_
  obtain ⟨v0_6, hv10, h⟩ := Option.bind_eq_some_iff.1 h
  refine zC [45000, 51000] [] (hc_refine_Refines (v0_3.1, v0_3.2.1) (v0_4.1, v0_4.2.1) hv10) [(3, .int .u8 step), (4, .bp 4 0), (9, .int .i64 (1 + (label % 3))), (10, .bp 10 0), (11, .int .i64 v0_3.2.2), (13, .int .i64 v0_4.2.2), (14, .bool v0_5.1), (15, .int .i64 v0_5.2), (53, .tup [.bool v0_6.1, .int .i64 v0_6.2])] [(4, .box 24 [.int .i64 c.1, .sl (.pair (.int .i64) (.pair (.int .i64) (.int .i64))) c.2]), (10, .box 24 [.int .i64 v0_3.1, .own 45000]), (45000, .arr 66 (.pair (.int .i64) (.pair (.int .i64) (.int .i64))) v0_3.2.1)] ?_
  refine zB [(3, .int .u8 step), (4, .bp 4 0), (9, .int .i64 (1 + (label % 3))), (10, .bp 10 0), (11, .int .i64 v0_3.2.2), (13, .int .i64 v0_4.2.2), (14, .bool v0_5.1), (15, .int .i64 v0_5.2), (16, .bool v0_6.1), (17, .int .i64 v0_6.2)] [(4, .box 24 [.int .i64 c.1, .sl (.pair (.int .i64) (.pair (.int .i64) (.int .i64))) c.2]), (10, .box 24 [.int .i64 v0_3.1, .own 45000]), (45000, .arr 66 (.pair (.int .i64) (.pair (.int .i64) (.int .i64))) v0_3.2.1)] ?_
  refine zo ?_
  refine zS 2 [(3, .int .u8 step), (4, .bp 4 0), (10, .bp 10 0), (11, .int .i64 v0_3.2.2), (13, .int .i64 v0_4.2.2), (14, .bool v0_5.1), (15, .int .i64 v0_5.2), (16, .bool v0_6.1), (17, .int .i64 v0_6.2), (57, .agg [.int .i64 v0_3.1, .own 45000]), (58, .int .i64 (1 + (label % 3)))] [(4, .box 24 [.int .i64 c.1, .sl (.pair (.int .i64) (.pair (.int .i64) (.int .i64))) c.2]), (10, .box 24 [.int .i64 v0_3.1, .own 45000]), (45000, .arr 66 (.pair (.int .i64) (.pair (.int .i64) (.int .i64))) v0_3.2.1)] ?_
  obtain ⟨v0_7, hv11, h⟩ := Option.bind_eq_some_iff.1 h
  refine zC [45000] [] (hc_refine_Hidden (v0_3.1, v0_3.2.1) (1 + (label % 3)) hv11) [(3, .int .u8 step), (4, .bp 4 0), (10, .bp 10 0), (11, .int .i64 v0_3.2.2), (13, .int .i64 v0_4.2.2), (14, .bool v0_5.1), (15, .int .i64 v0_5.2), (16, .bool v0_6.1), (17, .int .i64 v0_6.2), (59, .tup [.agg [.int .i64 v0_7.1, .own 69000], .int .i64 v0_7.2.2])] [(4, .box 24 [.int .i64 c.1, .sl (.pair (.int .i64) (.pair (.int .i64) (.int .i64))) c.2]), (10, .box 24 [.int .i64 v0_3.1, .own 45000]), (45000, .arr 66 (.pair (.int .i64) (.pair (.int .i64) (.int .i64))) v0_3.2.1), (69000, .arr 66 (.pair (.int .i64) (.pair (.int .i64) (.int .i64))) v0_7.2.1)] ?_
  refine zS 5 [(3, .int .u8 step), (4, .bp 4 0), (10, .bp 10 0), (11, .int .i64 v0_3.2.2), (13, .int .i64 v0_4.2.2), (14, .bool v0_5.1), (15, .int .i64 v0_5.2), (16, .bool v0_6.1), (17, .int .i64 v0_6.2), (18, .bp 18 0), (61, .int .i64 v0_7.2.2)] [(4, .box 24 [.int .i64 c.1, .sl (.pair (.int .i64) (.pair (.int .i64) (.int .i64))) c.2]), (10, .box 24 [.int .i64 v0_3.1, .own 45000]), (18, .box 24 [.int .i64 v0_7.1, .own 69000]), (45000, .arr 66 (.pair (.int .i64) (.pair (.int .i64) (.int .i64))) v0_3.2.1), (69000, .arr 66 (.pair (.int .i64) (.pair (.int .i64) (.int .i64))) v0_7.2.1)] ?_
  refine zB [(3, .int .u8 step), (4, .bp 4 0), (10, .bp 10 0), (11, .int .i64 v0_3.2.2), (13, .int .i64 v0_4.2.2), (14, .bool v0_5.1), (15, .int .i64 v0_5.2), (16, .bool v0_6.1), (17, .int .i64 v0_6.2), (18, .bp 18 0), (19, .int .i64 v0_7.2.2)] [(4, .box 24 [.int .i64 c.1, .sl (.pair (.int .i64) (.pair (.int .i64) (.int .i64))) c.2]), (10, .box 24 [.int .i64 v0_3.1, .own 45000]), (18, .box 24 [.int .i64 v0_7.1, .own 69000]), (45000, .arr 66 (.pair (.int .i64) (.pair (.int .i64) (.int .i64))) v0_3.2.1), (69000, .arr 66 (.pair (.int .i64) (.pair (.int .i64) (.int .i64))) v0_7.2.1)] ?_
  refine AW.have1 (fun _ : Unit => lineallaw05_RefineHides_k1 c step = some r) (fun _ => ⟨fr [(3, .int .u8 step), (4, .bp 4 0)], hpGet [(4, .box 24 [.int .i64 c.1, .sl (.pair (.int .i64) (.pair (.int .i64) (.int .i64))) c.2])], gt⟩) (fun _ h => ?_) (fun hk_lineallaw05_RefineHides_k1 => ?_)
  ·as_aux_lemma =>
    unfold lineallaw05_RefineHides_k1 at h
    refine AW.seq ?_
    refine zo ?_
    refine zB [(3, .int .u8 step), (4, .bp 4 0), (96, .bool (decide ((c.2.length : Int) = 0)))] [(4, .box 24 [.int .i64 c.1, .sl (.pair (.int .i64) (.pair (.int .i64) (.int .i64))) c.2])] ?_
    refine zQ h (fun hb12 h => ?_) (fun hb12 h => ?_)
    ·refine zo ?_
     obtain ⟨v0_10, hv13, h⟩ := Option.bind_eq_some_iff.1 h
     refine zC [] [] (hc_lineallaw05_Awake hv13) [(97, .bool v0_10)] [] ?_
     refine zB [(8, .bool v0_10)] [] ?_
     refine zr ?_
     obtain rfl := Option.some.inj h
     exact zR [] [] []
    ·refine zk ?_
     refine AW.seq ?_
     refine AW.draw tab_ok mixed_ok [(7, [116000]), (11, [20]), (12, [20])] [(0, [4]), (1, []), (2, []), (3, [4]), (4, [4]), (5, []), (6, []), (7, [116000]), (8, [116000]), (9, [116000]), (10, [116000]), (11, [20]), (100012, [])] (by decide) (lex_fast (by kernel_rfl)) ?_
     as_aux_lemma =>
      obtain ⟨c15, h⟩ := ck_some.1 h
      refine adops_cut 6 (fun K' hK14 => ?_)
      try dsimp only [List.drop_succ_cons, List.drop_zero, List.take_succ_cons, List.take_zero]
      simp only [go_sem, hb2, hb12]
      repeat with_reducible refine zN ?_
      refine hK14 _ ?_
      as_aux_lemma =>
       obtain ⟨c17, h⟩ := ck_some.1 h
       obtain ⟨c18, h⟩ := ck_some.1 h
       refine adops_cut 1 (fun K' hK16 => ?_)
       try dsimp only [List.drop_succ_cons, List.drop_zero, List.take_succ_cons, List.take_zero]
       simp only [go_sem, hb2, hb12]
       repeat with_reducible refine zN ?_
       refine hK16 _ ?_
       as_aux_lemma =>
        obtain ⟨v0_11, hv19, h⟩ := Option.bind_eq_some_iff.1 h
        refine adops.call (by first | trivial | rfl) rfl rfl rfl (fun _ h => h) [] [] (hc_refine_Without c (step % (c.2.length : Int)) hv19) rfl (by (simp only [go_sem, hb2, hb12]) <;> (with_reducible and_intros) <;> first | assumption | rfl | omega | (unfold maxLen; omega)) (by (simp only [go_sem, hb2, hb12]) <;> (with_reducible and_intros) <;> first | assumption | rfl | omega | (unfold maxLen; omega)) rfl ?_
        refine adops_cut 6 (fun K' hK20 => ?_)
        try dsimp only [List.drop_succ_cons, List.drop_zero, List.take_succ_cons, List.take_zero]
        simp only [go_sem, hb2, hb12]
        repeat with_reducible refine zN ?_
        refine hK20 _ ?_
        refine adops_nil ?_
        refine athen_n ?_
        refine zV [(4, .bp 4 0), (11, .int .i64 v0_11.2.2), (20, .bp 20 0)] [(4, .box 24 [.int .i64 c.1, .sl (.pair (.int .i64) (.pair (.int .i64) (.int .i64))) c.2]), (20, .box 24 [.int .i64 v0_11.1, .own 116000]), (116000, .arr 66 (.pair (.int .i64) (.pair (.int .i64) (.int .i64))) v0_11.2.1)] gt ?_
        as_aux_lemma =>
         refine zo ?_
         refine zS 2 [(4, .bp 4 0), (11, .int .i64 v0_11.2.2), (20, .bp 20 0), (110, .agg [.int .i64 v0_11.1, .own 116000]), (111, .agg [.int .i64 c.1, .sl (.pair (.int .i64) (.pair (.int .i64) (.int .i64))) c.2])] [(4, .box 24 [.int .i64 c.1, .sl (.pair (.int .i64) (.pair (.int .i64) (.int .i64))) c.2]), (20, .box 24 [.int .i64 v0_11.1, .own 116000]), (116000, .arr 66 (.pair (.int .i64) (.pair (.int .i64) (.int .i64))) v0_11.2.1)] ?_
         obtain ⟨v0_12, hv21, h⟩ := Option.bind_eq_some_iff.1 h
         refine zC [116000] [] (hc_refine_Refines (v0_11.1, v0_11.2.1) c hv21) [(4, .bp 4 0), (11, .int .i64 v0_11.2.2), (20, .bp 20 0), (112, .tup [.bool v0_12.1, .int .i64 v0_12.2])] [(4, .box 24 [.int .i64 c.1, .sl (.pair (.int .i64) (.pair (.int .i64) (.int .i64))) c.2]), (20, .box 24 [.int .i64 v0_11.1, .own 116000]), (116000, .arr 66 (.pair (.int .i64) (.pair (.int .i64) (.int .i64))) v0_11.2.1)] ?_
         refine zB [(4, .bp 4 0), (11, .int .i64 v0_11.2.2), (13, .int .i64 v0_12.2), (20, .bp 20 0), (21, .bool v0_12.1)] [(4, .box 24 [.int .i64 c.1, .sl (.pair (.int .i64) (.pair (.int .i64) (.int .i64))) c.2]), (20, .box 24 [.int .i64 v0_11.1, .own 116000]), (116000, .arr 66 (.pair (.int .i64) (.pair (.int .i64) (.int .i64))) v0_11.2.1)] ?_
         refine zo ?_
         refine zS 3 [(4, .bp 4 0), (13, .int .i64 v0_12.2), (20, .bp 20 0), (21, .bool v0_12.1), (117, .bool (decide (v0_11.2.2 = 0)))] [(4, .box 24 [.int .i64 c.1, .sl (.pair (.int .i64) (.pair (.int .i64) (.int .i64))) c.2]), (20, .box 24 [.int .i64 v0_11.1, .own 116000]), (116000, .arr 66 (.pair (.int .i64) (.pair (.int .i64) (.int .i64))) v0_11.2.1)] ?_
         rcases zI h with ⟨hb22, h⟩ | ⟨hb22, h⟩
         ·refine zS 4 [(4, .bp 4 0), (20, .bp 20 0), (21, .bool v0_12.1), (121, .bool (decide (v0_12.2 = 0)))] [(4, .box 24 [.int .i64 c.1, .sl (.pair (.int .i64) (.pair (.int .i64) (.int .i64))) c.2]), (20, .box 24 [.int .i64 v0_11.1, .own 116000]), (116000, .arr 66 (.pair (.int .i64) (.pair (.int .i64) (.int .i64))) v0_11.2.1)] ?_
          rcases zI h with ⟨hb23, h⟩ | ⟨hb23, h⟩
          ·refine zS 3 [(4, .bp 4 0), (20, .bp 20 0), (124, .bool v0_12.1)] [(4, .box 24 [.int .i64 c.1, .sl (.pair (.int .i64) (.pair (.int .i64) (.int .i64))) c.2]), (20, .box 24 [.int .i64 v0_11.1, .own 116000]), (116000, .arr 66 (.pair (.int .i64) (.pair (.int .i64) (.int .i64))) v0_11.2.1)] ?_
           rcases zI h with ⟨hb24, h⟩ | ⟨hb24, h⟩
           ·refine zS 5 [(124, .bool true), (127, .int .i64 (v0_11.2.1.length : Int)), (129, .sl (.pair (.int .i64) (.pair (.int .i64) (.int .i64))) c.2)] [] ?_
            obtain ⟨c25, h⟩ := ck_some.1 h
            refine zS 5 [(134, .bool (decide ((v0_11.2.1.length : Int) = ((c.2.length : Int) - 1))))] [] ?_
            rcases zI h with ⟨hb26, h⟩ | ⟨hb26, h⟩
            ·refine zT [(134, .bool true)] [] gt ?_
             obtain ⟨v0_13, hv27, h⟩ := Option.bind_eq_some_iff.1 h
             refine zG [] [] (hc_lineallaw05_Awake hv27) [(134, .bool true), (135, .bool v0_13)] [] ?_
             refine zB [(8, .bool v0_13)] [] ?_
             refine AW.ret ?_
             obtain rfl := Option.some.inj h
             exact zR [] [] []
            ·refine zB [(8, .bool false)] [] ?_
             refine AW.ret ?_
             obtain rfl := Option.some.inj h
             exact zR [] [] []
           ·refine zS 4 [(124, .bool false), (127, .cv (undef)), (128, .cv (undef))] [] ?_
            refine zS 4 [(124, .bool false), (132, .cv (undef))] [] ?_
            refine zB [(8, .bool false)] [] ?_
            refine AW.ret ?_
            obtain rfl := Option.some.inj h
            exact zR [] [] []
          ·refine zS 5 [(4, .bp 4 0), (124, .bool false), (126, .cv (undef))] [(4, .box 24 [.int .i64 c.1, .sl (.pair (.int .i64) (.pair (.int .i64) (.int .i64))) c.2])] ?_
           refine zS 4 [(124, .bool false), (127, .cv (undef)), (130, .cv (undef))] [] ?_
           refine zS 5 [(134, .bool false), (135, .cv (undef))] [] ?_
           refine zB [(8, .bool false)] [] ?_
           refine AW.ret ?_
           obtain rfl := Option.some.inj h
           exact zR [] [] []
         ·refine zS 5 [(4, .bp 4 0), (20, .bp 20 0), (121, .bool false), (122, .cv (undef))] [(4, .box 24 [.int .i64 c.1, .sl (.pair (.int .i64) (.pair (.int .i64) (.int .i64))) c.2]), (20, .box 24 [.int .i64 v0_11.1, .own 116000]), (116000, .arr 66 (.pair (.int .i64) (.pair (.int .i64) (.int .i64))) v0_11.2.1)] ?_
          refine zS 5 [(4, .bp 4 0), (124, .bool false), (127, .cv (undef))] [(4, .box 24 [.int .i64 c.1, .sl (.pair (.int .i64) (.pair (.int .i64) (.int .i64))) c.2])] ?_
          refine zS 4 [(124, .bool false), (127, .cv (undef)), (131, .cv (undef))] [] ?_
          refine zS 5 [(136, .bool false)] [] ?_
          refine zB [(8, .bool false)] [] ?_
          refine AW.ret ?_
          obtain rfl := Option.some.inj h
          exact zR [] [] []
  ·refine AW.seq ?_
   refine zo ?_
   refine zS 3 [(3, .int .u8 step), (4, .bp 4 0), (10, .bp 10 0), (13, .int .i64 v0_4.2.2), (14, .bool v0_5.1), (15, .int .i64 v0_5.2), (16, .bool v0_6.1), (17, .int .i64 v0_6.2), (18, .bp 18 0), (19, .int .i64 v0_7.2.2), (64, .bool (!(decide (v0_3.2.2 = 0))))] [(4, .box 24 [.int .i64 c.1, .sl (.pair (.int .i64) (.pair (.int .i64) (.int .i64))) c.2]), (10, .box 24 [.int .i64 v0_3.1, .own 45000]), (18, .box 24 [.int .i64 v0_7.1, .own 69000]), (45000, .arr 66 (.pair (.int .i64) (.pair (.int .i64) (.int .i64))) v0_3.2.1), (69000, .arr 66 (.pair (.int .i64) (.pair (.int .i64) (.int .i64))) v0_7.2.1)] ?_
   rcases zI h with ⟨hb28, h⟩ | ⟨hb28, h⟩
   ·refine zS 5 [(3, .int .u8 step), (4, .bp 4 0), (10, .bp 10 0), (14, .bool v0_5.1), (16, .bool v0_6.1), (17, .int .i64 v0_6.2), (18, .bp 18 0), (19, .int .i64 v0_7.2.2), (68, .bool true), (69, .cv (undef))] [(4, .box 24 [.int .i64 c.1, .sl (.pair (.int .i64) (.pair (.int .i64) (.int .i64))) c.2]), (10, .box 24 [.int .i64 v0_3.1, .own 45000]), (18, .box 24 [.int .i64 v0_7.1, .own 69000]), (45000, .arr 66 (.pair (.int .i64) (.pair (.int .i64) (.int .i64))) v0_3.2.1), (69000, .arr 66 (.pair (.int .i64) (.pair (.int .i64) (.int .i64))) v0_7.2.1)] ?_
    refine zS 5 [(3, .int .u8 step), (4, .bp 4 0), (10, .bp 10 0), (14, .bool v0_5.1), (16, .bool v0_6.1), (18, .bp 18 0), (19, .int .i64 v0_7.2.2), (72, .bool true), (74, .cv (undef))] [(4, .box 24 [.int .i64 c.1, .sl (.pair (.int .i64) (.pair (.int .i64) (.int .i64))) c.2]), (10, .box 24 [.int .i64 v0_3.1, .own 45000]), (18, .box 24 [.int .i64 v0_7.1, .own 69000]), (45000, .arr 66 (.pair (.int .i64) (.pair (.int .i64) (.int .i64))) v0_3.2.1), (69000, .arr 66 (.pair (.int .i64) (.pair (.int .i64) (.int .i64))) v0_7.2.1)] ?_
    refine zS 5 [(3, .int .u8 step), (4, .bp 4 0), (10, .bp 10 0), (14, .bool v0_5.1), (16, .bool v0_6.1), (18, .bp 18 0), (79, .bool true)] [(4, .box 24 [.int .i64 c.1, .sl (.pair (.int .i64) (.pair (.int .i64) (.int .i64))) c.2]), (10, .box 24 [.int .i64 v0_3.1, .own 45000]), (18, .box 24 [.int .i64 v0_7.1, .own 69000]), (45000, .arr 66 (.pair (.int .i64) (.pair (.int .i64) (.int .i64))) v0_3.2.1), (69000, .arr 66 (.pair (.int .i64) (.pair (.int .i64) (.int .i64))) v0_7.2.1)] ?_
    refine zS 5 [(3, .int .u8 step), (4, .bp 4 0), (10, .bp 10 0), (18, .bp 18 0), (80, .bool true), (82, .cv (undef)), (84, .cv (undef))] [(4, .box 24 [.int .i64 c.1, .sl (.pair (.int .i64) (.pair (.int .i64) (.int .i64))) c.2]), (10, .box 24 [.int .i64 v0_3.1, .own 45000]), (18, .box 24 [.int .i64 v0_7.1, .own 69000]), (45000, .arr 66 (.pair (.int .i64) (.pair (.int .i64) (.int .i64))) v0_3.2.1), (69000, .arr 66 (.pair (.int .i64) (.pair (.int .i64) (.int .i64))) v0_7.2.1)] ?_
    refine zS 5 [(3, .int .u8 step), (4, .bp 4 0), (87, .bool true), (88, .cv (undef)), (89, .cv (undef))] [(4, .box 24 [.int .i64 c.1, .sl (.pair (.int .i64) (.pair (.int .i64) (.int .i64))) c.2])] ?_
    refine zB [(3, .int .u8 step), (4, .bp 4 0), (92, .bool true)] [(4, .box 24 [.int .i64 c.1, .sl (.pair (.int .i64) (.pair (.int .i64) (.int .i64))) c.2])] ?_
    refine AW.cond (b := true) rfl (fun _ => ?_) (fun hb29 => by cases hb29)
    refine zo ?_
    refine zB [(8, .bool false)] [] ?_
    refine zr ?_
    obtain rfl := Option.some.inj h
    exact zR [] [] []
   ·refine zS 4 [(3, .int .u8 step), (4, .bp 4 0), (10, .bp 10 0), (14, .bool v0_5.1), (15, .int .i64 v0_5.2), (16, .bool v0_6.1), (17, .int .i64 v0_6.2), (18, .bp 18 0), (19, .int .i64 v0_7.2.2), (68, .bool (!(decide (v0_4.2.2 = 0))))] [(4, .box 24 [.int .i64 c.1, .sl (.pair (.int .i64) (.pair (.int .i64) (.int .i64))) c.2]), (10, .box 24 [.int .i64 v0_3.1, .own 45000]), (18, .box 24 [.int .i64 v0_7.1, .own 69000]), (45000, .arr 66 (.pair (.int .i64) (.pair (.int .i64) (.int .i64))) v0_3.2.1), (69000, .arr 66 (.pair (.int .i64) (.pair (.int .i64) (.int .i64))) v0_7.2.1)] ?_
    rcases zI h with ⟨hb30, h⟩ | ⟨hb30, h⟩
    ·refine zS 5 [(3, .int .u8 step), (4, .bp 4 0), (10, .bp 10 0), (14, .bool v0_5.1), (16, .bool v0_6.1), (18, .bp 18 0), (19, .int .i64 v0_7.2.2), (72, .bool true), (73, .cv (undef))] [(4, .box 24 [.int .i64 c.1, .sl (.pair (.int .i64) (.pair (.int .i64) (.int .i64))) c.2]), (10, .box 24 [.int .i64 v0_3.1, .own 45000]), (18, .box 24 [.int .i64 v0_7.1, .own 69000]), (45000, .arr 66 (.pair (.int .i64) (.pair (.int .i64) (.int .i64))) v0_3.2.1), (69000, .arr 66 (.pair (.int .i64) (.pair (.int .i64) (.int .i64))) v0_7.2.1)] ?_
     refine zS 5 [(3, .int .u8 step), (4, .bp 4 0), (10, .bp 10 0), (14, .bool v0_5.1), (16, .bool v0_6.1), (18, .bp 18 0), (76, .bool true), (78, .cv (undef))] [(4, .box 24 [.int .i64 c.1, .sl (.pair (.int .i64) (.pair (.int .i64) (.int .i64))) c.2]), (10, .box 24 [.int .i64 v0_3.1, .own 45000]), (18, .box 24 [.int .i64 v0_7.1, .own 69000]), (45000, .arr 66 (.pair (.int .i64) (.pair (.int .i64) (.int .i64))) v0_3.2.1), (69000, .arr 66 (.pair (.int .i64) (.pair (.int .i64) (.int .i64))) v0_7.2.1)] ?_
     refine zS 5 [(3, .int .u8 step), (4, .bp 4 0), (10, .bp 10 0), (18, .bp 18 0), (80, .bool true), (82, .cv (undef)), (83, .cv (undef))] [(4, .box 24 [.int .i64 c.1, .sl (.pair (.int .i64) (.pair (.int .i64) (.int .i64))) c.2]), (10, .box 24 [.int .i64 v0_3.1, .own 45000]), (18, .box 24 [.int .i64 v0_7.1, .own 69000]), (45000, .arr 66 (.pair (.int .i64) (.pair (.int .i64) (.int .i64))) v0_3.2.1), (69000, .arr 66 (.pair (.int .i64) (.pair (.int .i64) (.int .i64))) v0_7.2.1)] ?_
     refine zS 5 [(3, .int .u8 step), (4, .bp 4 0), (10, .bp 10 0), (87, .bool true), (88, .cv (undef))] [(4, .box 24 [.int .i64 c.1, .sl (.pair (.int .i64) (.pair (.int .i64) (.int .i64))) c.2]), (10, .box 24 [.int .i64 v0_3.1, .own 45000]), (45000, .arr 66 (.pair (.int .i64) (.pair (.int .i64) (.int .i64))) v0_3.2.1)] ?_
     refine zB [(3, .int .u8 step), (4, .bp 4 0), (92, .bool true)] [(4, .box 24 [.int .i64 c.1, .sl (.pair (.int .i64) (.pair (.int .i64) (.int .i64))) c.2])] ?_
     refine AW.cond (b := true) rfl (fun _ => ?_) (fun hb31 => by cases hb31)
     refine zo ?_
     refine zB [(8, .bool false)] [] ?_
     refine zr ?_
     obtain rfl := Option.some.inj h
     exact zR [] [] []
    ·refine zS 4 [(3, .int .u8 step), (4, .bp 4 0), (10, .bp 10 0), (14, .bool v0_5.1), (16, .bool v0_6.1), (17, .int .i64 v0_6.2), (18, .bp 18 0), (19, .int .i64 v0_7.2.2), (72, .bool (!(decide (v0_5.2 = 0))))] [(4, .box 24 [.int .i64 c.1, .sl (.pair (.int .i64) (.pair (.int .i64) (.int .i64))) c.2]), (10, .box 24 [.int .i64 v0_3.1, .own 45000]), (18, .box 24 [.int .i64 v0_7.1, .own 69000]), (45000, .arr 66 (.pair (.int .i64) (.pair (.int .i64) (.int .i64))) v0_3.2.1), (69000, .arr 66 (.pair (.int .i64) (.pair (.int .i64) (.int .i64))) v0_7.2.1)] ?_
     rcases zI h with ⟨hb32, h⟩ | ⟨hb32, h⟩
     ·refine zS 5 [(3, .int .u8 step), (4, .bp 4 0), (10, .bp 10 0), (14, .bool v0_5.1), (16, .bool v0_6.1), (18, .bp 18 0), (76, .bool true), (77, .cv (undef))] [(4, .box 24 [.int .i64 c.1, .sl (.pair (.int .i64) (.pair (.int .i64) (.int .i64))) c.2]), (10, .box 24 [.int .i64 v0_3.1, .own 45000]), (18, .box 24 [.int .i64 v0_7.1, .own 69000]), (45000, .arr 66 (.pair (.int .i64) (.pair (.int .i64) (.int .i64))) v0_3.2.1), (69000, .arr 66 (.pair (.int .i64) (.pair (.int .i64) (.int .i64))) v0_7.2.1)] ?_
      refine zS 5 [(3, .int .u8 step), (4, .bp 4 0), (10, .bp 10 0), (16, .bool v0_6.1), (18, .bp 18 0), (80, .bool true), (82, .cv (undef))] [(4, .box 24 [.int .i64 c.1, .sl (.pair (.int .i64) (.pair (.int .i64) (.int .i64))) c.2]), (10, .box 24 [.int .i64 v0_3.1, .own 45000]), (18, .box 24 [.int .i64 v0_7.1, .own 69000]), (45000, .arr 66 (.pair (.int .i64) (.pair (.int .i64) (.int .i64))) v0_3.2.1), (69000, .arr 66 (.pair (.int .i64) (.pair (.int .i64) (.int .i64))) v0_7.2.1)] ?_
      refine zS 5 [(3, .int .u8 step), (4, .bp 4 0), (10, .bp 10 0), (18, .bp 18 0), (87, .bool true)] [(4, .box 24 [.int .i64 c.1, .sl (.pair (.int .i64) (.pair (.int .i64) (.int .i64))) c.2]), (10, .box 24 [.int .i64 v0_3.1, .own 45000]), (18, .box 24 [.int .i64 v0_7.1, .own 69000]), (45000, .arr 66 (.pair (.int .i64) (.pair (.int .i64) (.int .i64))) v0_3.2.1), (69000, .arr 66 (.pair (.int .i64) (.pair (.int .i64) (.int .i64))) v0_7.2.1)] ?_
      refine zS 4 [(3, .int .u8 step), (4, .bp 4 0), (87, .bool true), (91, .cv (undef))] [(4, .box 24 [.int .i64 c.1, .sl (.pair (.int .i64) (.pair (.int .i64) (.int .i64))) c.2])] ?_
      refine zB [(3, .int .u8 step), (4, .bp 4 0), (92, .bool true)] [(4, .box 24 [.int .i64 c.1, .sl (.pair (.int .i64) (.pair (.int .i64) (.int .i64))) c.2])] ?_
      refine AW.cond (b := true) rfl (fun _ => ?_) (fun hb33 => by cases hb33)
      refine zo ?_
      refine zB [(8, .bool false)] [] ?_
      refine zr ?_
      obtain rfl := Option.some.inj h
      exact zR [] [] []
     ·refine zS 4 [(3, .int .u8 step), (4, .bp 4 0), (10, .bp 10 0), (14, .bool v0_5.1), (16, .bool v0_6.1), (18, .bp 18 0), (19, .int .i64 v0_7.2.2), (76, .bool (!(decide (v0_6.2 = 0))))] [(4, .box 24 [.int .i64 c.1, .sl (.pair (.int .i64) (.pair (.int .i64) (.int .i64))) c.2]), (10, .box 24 [.int .i64 v0_3.1, .own 45000]), (18, .box 24 [.int .i64 v0_7.1, .own 69000]), (45000, .arr 66 (.pair (.int .i64) (.pair (.int .i64) (.int .i64))) v0_3.2.1), (69000, .arr 66 (.pair (.int .i64) (.pair (.int .i64) (.int .i64))) v0_7.2.1)] ?_
      rcases zI h with ⟨hb34, h⟩ | ⟨hb34, h⟩
      ·refine zS 5 [(3, .int .u8 step), (4, .bp 4 0), (10, .bp 10 0), (16, .bool v0_6.1), (18, .bp 18 0), (80, .bool true), (81, .cv (undef))] [(4, .box 24 [.int .i64 c.1, .sl (.pair (.int .i64) (.pair (.int .i64) (.int .i64))) c.2]), (10, .box 24 [.int .i64 v0_3.1, .own 45000]), (18, .box 24 [.int .i64 v0_7.1, .own 69000]), (45000, .arr 66 (.pair (.int .i64) (.pair (.int .i64) (.int .i64))) v0_3.2.1), (69000, .arr 66 (.pair (.int .i64) (.pair (.int .i64) (.int .i64))) v0_7.2.1)] ?_
       refine zS 4 [(3, .int .u8 step), (4, .bp 4 0), (10, .bp 10 0), (18, .bp 18 0), (80, .bool true), (85, .cv (undef))] [(4, .box 24 [.int .i64 c.1, .sl (.pair (.int .i64) (.pair (.int .i64) (.int .i64))) c.2]), (10, .box 24 [.int .i64 v0_3.1, .own 45000]), (18, .box 24 [.int .i64 v0_7.1, .own 69000]), (45000, .arr 66 (.pair (.int .i64) (.pair (.int .i64) (.int .i64))) v0_3.2.1), (69000, .arr 66 (.pair (.int .i64) (.pair (.int .i64) (.int .i64))) v0_7.2.1)] ?_
       refine zS 5 [(3, .int .u8 step), (4, .bp 4 0), (87, .bool true), (90, .cv (undef))] [(4, .box 24 [.int .i64 c.1, .sl (.pair (.int .i64) (.pair (.int .i64) (.int .i64))) c.2])] ?_
       refine zB [(3, .int .u8 step), (4, .bp 4 0), (92, .bool true)] [(4, .box 24 [.int .i64 c.1, .sl (.pair (.int .i64) (.pair (.int .i64) (.int .i64))) c.2])] ?_
       refine AW.cond (b := true) rfl (fun _ => ?_) (fun hb35 => by cases hb35)
       refine zo ?_
       refine zB [(8, .bool false)] [] ?_
       refine zr ?_
       obtain rfl := Option.some.inj h
       exact zR [] [] []
      ·refine zS 4 [(3, .int .u8 step), (4, .bp 4 0), (10, .bp 10 0), (14, .bool v0_5.1), (16, .bool v0_6.1), (18, .bp 18 0), (80, .bool (!(decide (v0_7.2.2 = 0))))] [(4, .box 24 [.int .i64 c.1, .sl (.pair (.int .i64) (.pair (.int .i64) (.int .i64))) c.2]), (10, .box 24 [.int .i64 v0_3.1, .own 45000]), (18, .box 24 [.int .i64 v0_7.1, .own 69000]), (45000, .arr 66 (.pair (.int .i64) (.pair (.int .i64) (.int .i64))) v0_3.2.1), (69000, .arr 66 (.pair (.int .i64) (.pair (.int .i64) (.int .i64))) v0_7.2.1)] ?_
       rcases zI h with ⟨hb36, h⟩ | ⟨hb36, h⟩
       ·refine zS 4 [(3, .int .u8 step), (4, .bp 4 0), (10, .bp 10 0), (18, .bp 18 0), (80, .bool true), (82, .cv (undef)), (84, .cv (undef))] [(4, .box 24 [.int .i64 c.1, .sl (.pair (.int .i64) (.pair (.int .i64) (.int .i64))) c.2]), (10, .box 24 [.int .i64 v0_3.1, .own 45000]), (18, .box 24 [.int .i64 v0_7.1, .own 69000]), (45000, .arr 66 (.pair (.int .i64) (.pair (.int .i64) (.int .i64))) v0_3.2.1), (69000, .arr 66 (.pair (.int .i64) (.pair (.int .i64) (.int .i64))) v0_7.2.1)] ?_
        refine zS 5 [(3, .int .u8 step), (4, .bp 4 0), (87, .bool true), (88, .cv (undef)), (89, .cv (undef))] [(4, .box 24 [.int .i64 c.1, .sl (.pair (.int .i64) (.pair (.int .i64) (.int .i64))) c.2])] ?_
        refine zB [(3, .int .u8 step), (4, .bp 4 0), (92, .bool true)] [(4, .box 24 [.int .i64 c.1, .sl (.pair (.int .i64) (.pair (.int .i64) (.int .i64))) c.2])] ?_
        refine AW.cond (b := true) rfl (fun _ => ?_) (fun hb37 => by cases hb37)
        refine zo ?_
        refine zB [(8, .bool false)] [] ?_
        refine zr ?_
        obtain rfl := Option.some.inj h
        exact zR [] [] []
       ·refine zS 2 [(3, .int .u8 step), (4, .bp 4 0), (10, .bp 10 0), (16, .bool v0_6.1), (18, .bp 18 0), (80, .bool false), (82, .bool v0_5.1)] [(4, .box 24 [.int .i64 c.1, .sl (.pair (.int .i64) (.pair (.int .i64) (.int .i64))) c.2]), (10, .box 24 [.int .i64 v0_3.1, .own 45000]), (18, .box 24 [.int .i64 v0_7.1, .own 69000]), (45000, .arr 66 (.pair (.int .i64) (.pair (.int .i64) (.int .i64))) v0_3.2.1), (69000, .arr 66 (.pair (.int .i64) (.pair (.int .i64) (.int .i64))) v0_7.2.1)] ?_
        rcases zI h with ⟨hb38, h⟩ | ⟨hb38, h⟩
        ·refine zS 5 [(3, .int .u8 step), (4, .bp 4 0), (10, .bp 10 0), (18, .bp 18 0), (87, .bool (!v0_6.1))] [(4, .box 24 [.int .i64 c.1, .sl (.pair (.int .i64) (.pair (.int .i64) (.int .i64))) c.2]), (10, .box 24 [.int .i64 v0_3.1, .own 45000]), (18, .box 24 [.int .i64 v0_7.1, .own 69000]), (45000, .arr 66 (.pair (.int .i64) (.pair (.int .i64) (.int .i64))) v0_3.2.1), (69000, .arr 66 (.pair (.int .i64) (.pair (.int .i64) (.int .i64))) v0_7.2.1)] ?_
         rcases zI h with ⟨hb39, h⟩ | ⟨hb39, h⟩
         ·refine zS 4 [(3, .int .u8 step), (4, .bp 4 0), (87, .bool true), (91, .cv (undef))] [(4, .box 24 [.int .i64 c.1, .sl (.pair (.int .i64) (.pair (.int .i64) (.int .i64))) c.2])] ?_
          refine zB [(3, .int .u8 step), (4, .bp 4 0), (92, .bool true)] [(4, .box 24 [.int .i64 c.1, .sl (.pair (.int .i64) (.pair (.int .i64) (.int .i64))) c.2])] ?_
          refine AW.cond (b := true) rfl (fun _ => ?_) (fun hb40 => by cases hb40)
          refine zo ?_
          refine zB [(8, .bool false)] [] ?_
          refine zr ?_
          obtain rfl := Option.some.inj h
          exact zR [] [] []
         ·refine zS 2 [(3, .int .u8 step), (4, .bp 4 0), (87, .bool false), (88, .agg [.int .i64 v0_7.1, .own 69000]), (89, .agg [.int .i64 v0_3.1, .own 45000])] [(4, .box 24 [.int .i64 c.1, .sl (.pair (.int .i64) (.pair (.int .i64) (.int .i64))) c.2]), (45000, .arr 66 (.pair (.int .i64) (.pair (.int .i64) (.int .i64))) v0_3.2.1), (69000, .arr 66 (.pair (.int .i64) (.pair (.int .i64) (.int .i64))) v0_7.2.1)] ?_
          obtain ⟨v0_8, hv41, h⟩ := Option.bind_eq_some_iff.1 h
          refine zG [45000, 69000] [] (hc_linealref05_Same (v0_7.1, v0_7.2.1) (v0_3.1, v0_3.2.1) hv41) [(3, .int .u8 step), (4, .bp 4 0), (87, .bool false), (90, .bool v0_8)] [(4, .box 24 [.int .i64 c.1, .sl (.pair (.int .i64) (.pair (.int .i64) (.int .i64))) c.2])] ?_
          refine zB [(3, .int .u8 step), (4, .bp 4 0), (92, .bool (!v0_8))] [(4, .box 24 [.int .i64 c.1, .sl (.pair (.int .i64) (.pair (.int .i64) (.int .i64))) c.2])] ?_
          refine zQ h (fun hb42 h => ?_) (fun hb42 h => ?_)
          ·refine zo ?_
           refine zB [(8, .bool false)] [] ?_
           refine zr ?_
           obtain rfl := Option.some.inj h
           exact zR [] [] []
          ·refine zk ?_
           exact AW.weaken (zL [] [] []) (hk_lineallaw05_RefineHides_k1 () h)
        ·refine zS 5 [(3, .int .u8 step), (4, .bp 4 0), (10, .bp 10 0), (18, .bp 18 0), (87, .bool false)] [(4, .box 24 [.int .i64 c.1, .sl (.pair (.int .i64) (.pair (.int .i64) (.int .i64))) c.2]), (10, .box 24 [.int .i64 v0_3.1, .own 45000]), (18, .box 24 [.int .i64 v0_7.1, .own 69000]), (45000, .arr 66 (.pair (.int .i64) (.pair (.int .i64) (.int .i64))) v0_3.2.1), (69000, .arr 66 (.pair (.int .i64) (.pair (.int .i64) (.int .i64))) v0_7.2.1)] ?_
         refine zS 2 [(3, .int .u8 step), (4, .bp 4 0), (87, .bool false), (88, .agg [.int .i64 v0_7.1, .own 69000]), (89, .agg [.int .i64 v0_3.1, .own 45000])] [(4, .box 24 [.int .i64 c.1, .sl (.pair (.int .i64) (.pair (.int .i64) (.int .i64))) c.2]), (45000, .arr 66 (.pair (.int .i64) (.pair (.int .i64) (.int .i64))) v0_3.2.1), (69000, .arr 66 (.pair (.int .i64) (.pair (.int .i64) (.int .i64))) v0_7.2.1)] ?_
         obtain ⟨v0_9, hv43, h⟩ := Option.bind_eq_some_iff.1 h
         refine zG [45000, 69000] [] (hc_linealref05_Same (v0_7.1, v0_7.2.1) (v0_3.1, v0_3.2.1) hv43) [(3, .int .u8 step), (4, .bp 4 0), (87, .bool false), (90, .bool v0_9)] [(4, .box 24 [.int .i64 c.1, .sl (.pair (.int .i64) (.pair (.int .i64) (.int .i64))) c.2])] ?_
         refine zB [(3, .int .u8 step), (4, .bp 4 0), (92, .bool (!v0_9))] [(4, .box 24 [.int .i64 c.1, .sl (.pair (.int .i64) (.pair (.int .i64) (.int .i64))) c.2])] ?_
         refine zQ h (fun hb44 h => ?_) (fun hb44 h => ?_)
         ·refine zo ?_
          refine zB [(8, .bool false)] [] ?_
          refine zr ?_
          obtain rfl := Option.some.inj h
          exact zR [] [] []
         ·refine zk ?_
          exact AW.weaken (zL [] [] []) (hk_lineallaw05_RefineHides_k1 () h)

end Go.Proofs.Ytljonmpcehlpaaa
