/-
  Made by wip/tool/dc.py out of the print of the program: contracts.
-/
import Derived.Test.YtifleoceebaooaaRfp
import Derived.Test.YtifleoceebaooaaShr
import Derived.Test.YtifleoceebaooaaAvd
import Derived.Test.YtifleoceebaooaaNfc1
import Derived.Test.YtifleoceebaooaaNfc4
import Derived.Test.YtifleoceebaooaaNfc5
import Derived.Test.YtifleoceebaooaaNfc6
import Derived.Test.YtifleoceebaooaaNfc8
namespace Go.Proofs.Ytifleoceebaooaa
open Go.RowKit

set_option linter.unusedSimpArgs false
set_option linter.unusedVariables false
set_option linter.constructorNameAsVariable false

set_option maxRecDepth 100000
set_option maxHeartbeats 2000000

theorem hc_refine_Both (s : Int × (List (Int × Int × Int))) (t : Int × (List (Int × Int × Int))) {r : Int × (List (Int × Int × Int)) × Int} (h : refine_Both s t = some r) : HC Try.prog 52 [] [.agg [.int .i64 s.1, .sl (.pair (.int .i64) (.pair (.int .i64) (.int .i64))) s.2], .agg [.int .i64 t.1, .sl (.pair (.int .i64) (.pair (.int .i64) (.int .i64))) t.2]] [(2000, .arr 66 (.pair (.int .i64) (.pair (.int .i64) (.int .i64))) r.2.1)] (.tup [.agg [.int .i64 r.1, .own 2000], .int .i64 r.2.2]) := by
 unfold refine_Both at h
 refine zH Try.func52 [.cell 4 24, .tmp 5] 36 ?_
 refine zo ?_
 refine zB [(2, .bp 2 0), (3, .bp 3 0), (4, .bp 4 0)] [(2, .box 24 [.int .i64 s.1, .sl (.pair (.int .i64) (.pair (.int .i64) (.int .i64))) s.2]), (3, .box 24 [.int .i64 t.1, .sl (.pair (.int .i64) (.pair (.int .i64) (.int .i64))) t.2]), (4, .box 24 [.int .i64 0, .cv (.slice none 0 0)])] ?_
 refine AW.seq ?_
 refine zo ?_
 refine zS 1 [(2, .bp 2 0), (3, .bp 3 0), (4, .bp 4 0), (7, .agg [.int .i64 s.1, .sl (.pair (.int .i64) (.pair (.int .i64) (.int .i64))) s.2])] [(2, .box 24 [.int .i64 s.1, .sl (.pair (.int .i64) (.pair (.int .i64) (.int .i64))) s.2]), (3, .box 24 [.int .i64 t.1, .sl (.pair (.int .i64) (.pair (.int .i64) (.int .i64))) t.2]), (4, .box 24 [.int .i64 0, .cv (.slice none 0 0)])] ?_
 obtain ⟨v0, hv1, h⟩ := Option.bind_eq_some_iff.1 h
 refine zC [] [] (hc_refine_Valid s hv1) [(2, .bp 2 0), (3, .bp 3 0), (4, .bp 4 0), (8, .bool v0)] [(2, .box 24 [.int .i64 s.1, .sl (.pair (.int .i64) (.pair (.int .i64) (.int .i64))) s.2]), (3, .box 24 [.int .i64 t.1, .sl (.pair (.int .i64) (.pair (.int .i64) (.int .i64))) t.2]), (4, .box 24 [.int .i64 0, .cv (.slice none 0 0)])] ?_
 refine zS 2 [(2, .bp 2 0), (3, .bp 3 0), (4, .bp 4 0), (10, .bool (!v0))] [(2, .box 24 [.int .i64 s.1, .sl (.pair (.int .i64) (.pair (.int .i64) (.int .i64))) s.2]), (3, .box 24 [.int .i64 t.1, .sl (.pair (.int .i64) (.pair (.int .i64) (.int .i64))) t.2]), (4, .box 24 [.int .i64 0, .cv (.slice none 0 0)])] ?_
 rcases zI h with ⟨hb2, h⟩ | ⟨hb2, h⟩
 ·refine zB [(2, .bp 2 0), (3, .bp 3 0), (4, .bp 4 0), (14, .bool true)] [(2, .box 24 [.int .i64 s.1, .sl (.pair (.int .i64) (.pair (.int .i64) (.int .i64))) s.2]), (3, .box 24 [.int .i64 t.1, .sl (.pair (.int .i64) (.pair (.int .i64) (.int .i64))) t.2]), (4, .box 24 [.int .i64 0, .cv (.slice none 0 0)])] ?_
  refine AW.cond (b := true) rfl (fun _ => ?_) (fun hb3 => by cases hb3)
  refine zo ?_
  refine zB [(4, .bp 4 0), (5, .int .i64 50)] [(4, .box 24 [.int .i64 0, .cv (.slice none 0 0)])] ?_
  refine zr ?_
  obtain rfl := Option.some.inj h
  exact zR [] [2000] []
 ·refine zS 1 [(2, .bp 2 0), (3, .bp 3 0), (4, .bp 4 0), (10, .bool false), (11, .agg [.int .i64 t.1, .sl (.pair (.int .i64) (.pair (.int .i64) (.int .i64))) t.2])] [(2, .box 24 [.int .i64 s.1, .sl (.pair (.int .i64) (.pair (.int .i64) (.int .i64))) s.2]), (3, .box 24 [.int .i64 t.1, .sl (.pair (.int .i64) (.pair (.int .i64) (.int .i64))) t.2]), (4, .box 24 [.int .i64 0, .cv (.slice none 0 0)])] ?_
  obtain ⟨v0_2, hv4, h⟩ := Option.bind_eq_some_iff.1 h
  refine zG [] [] (hc_refine_Valid t hv4) [(2, .bp 2 0), (3, .bp 3 0), (4, .bp 4 0), (10, .bool false), (12, .bool v0_2)] [(2, .box 24 [.int .i64 s.1, .sl (.pair (.int .i64) (.pair (.int .i64) (.int .i64))) s.2]), (3, .box 24 [.int .i64 t.1, .sl (.pair (.int .i64) (.pair (.int .i64) (.int .i64))) t.2]), (4, .box 24 [.int .i64 0, .cv (.slice none 0 0)])] ?_
  refine zB [(2, .bp 2 0), (3, .bp 3 0), (4, .bp 4 0), (14, .bool (!v0_2))] [(2, .box 24 [.int .i64 s.1, .sl (.pair (.int .i64) (.pair (.int .i64) (.int .i64))) s.2]), (3, .box 24 [.int .i64 t.1, .sl (.pair (.int .i64) (.pair (.int .i64) (.int .i64))) t.2]), (4, .box 24 [.int .i64 0, .cv (.slice none 0 0)])] ?_
  refine zQ h (fun hb5 h => ?_) (fun hb5 h => ?_)
  ·refine zo ?_
   refine zB [(4, .bp 4 0), (5, .int .i64 50)] [(4, .box 24 [.int .i64 0, .cv (.slice none 0 0)])] ?_
   refine zr ?_
   obtain rfl := Option.some.inj h
   exact zR [] [2000] []
  ·refine zk ?_
   refine AW.seq ?_
   refine AW.draw tab_ok mixed_ok [(7, [33000]), (9, [6]), (10, [6])] [(0, [2]), (1, [2]), (2, [3]), (3, [3]), (4, []), (5, [2]), (6, [3]), (7, [33000]), (8, [33000]), (9, [6]), (100010, [])] (by decide) (lex_fast (by kernel_rfl)) ?_
   as_aux_lemma =>
    obtain ⟨c7, h⟩ := ck_some.1 h
    refine adops_cut 6 (fun K' hK6 => ?_)
    try dsimp only [List.drop_succ_cons, List.drop_zero, List.take_succ_cons, List.take_zero]
    simp only [go_sem, hb2, hb5]
    repeat with_reducible refine zN ?_
    refine hK6 _ ?_
    as_aux_lemma =>
     refine adops_cut 1 (fun K' hK8 => ?_)
     try dsimp only [List.drop_succ_cons, List.drop_zero, List.take_succ_cons, List.take_zero]
     simp only [go_sem, hb2, hb5]
     repeat with_reducible refine zN ?_
     refine hK8 _ ?_
     as_aux_lemma =>
      obtain ⟨v0_3, hv9, h⟩ := Option.bind_eq_some_iff.1 h
      refine adops.call (by first | trivial | rfl) rfl rfl rfl (fun _ h => h) [] [] (hc_refine_together s t hv9) rfl (by (simp only [go_sem, hb2, hb5]) <;> (with_reducible and_intros) <;> first | assumption | rfl | omega | (unfold maxLen; omega)) (by (simp only [go_sem, hb2, hb5]) <;> (with_reducible and_intros) <;> first | assumption | rfl | omega | (unfold maxLen; omega)) rfl ?_
      refine adops_cut 3 (fun K' hK10 => ?_)
      try dsimp only [List.drop_succ_cons, List.drop_zero, List.take_succ_cons, List.take_zero]
      simp only [go_sem, hb2, hb5]
      repeat with_reducible refine zN ?_
      refine hK10 _ ?_
      refine adops_nil ?_
      refine athen_n ?_
      refine zV [(4, .bp 4 0), (6, .bp 6 0)] [(4, .box 24 [.int .i64 0, .cv (.slice none 0 0)]), (6, .box 24 [.int .i64 (s.1 * t.1), .own 33000]), (33000, .arr 66 (.pair (.int .i64) (.pair (.int .i64) (.int .i64))) v0_3)] gt ?_
      as_aux_lemma =>
       refine AW.seq ?_
       refine zo ?_
       refine zS 4 [(4, .bp 4 0), (6, .bp 6 0), (28, .bool (decide (6 < (s.1 * t.1))))] [(4, .box 24 [.int .i64 0, .cv (.slice none 0 0)]), (6, .box 24 [.int .i64 (s.1 * t.1), .own 33000]), (33000, .arr 66 (.pair (.int .i64) (.pair (.int .i64) (.int .i64))) v0_3)] ?_
       rcases zI h with ⟨hb11, h⟩ | ⟨hb11, h⟩
       ·refine zS 4 [(4, .bp 4 0), (6, .bp 6 0), (28, .bool true), (32, .cv (undef))] [(4, .box 24 [.int .i64 0, .cv (.slice none 0 0)]), (6, .box 24 [.int .i64 (s.1 * t.1), .own 33000]), (33000, .arr 66 (.pair (.int .i64) (.pair (.int .i64) (.int .i64))) v0_3)] ?_
        refine zB [(4, .bp 4 0), (6, .bp 6 0), (33, .bool true)] [(4, .box 24 [.int .i64 0, .cv (.slice none 0 0)]), (6, .box 24 [.int .i64 (s.1 * t.1), .own 33000]), (33000, .arr 66 (.pair (.int .i64) (.pair (.int .i64) (.int .i64))) v0_3)] ?_
        refine AW.cond (b := true) rfl (fun _ => ?_) (fun hb12 => by cases hb12)
        refine zo ?_
        refine zB [(4, .bp 4 0), (5, .int .i64 4)] [(4, .box 24 [.int .i64 0, .cv (.slice none 0 0)])] ?_
        refine zr ?_
        obtain rfl := Option.some.inj h
        exact zR [] [2000] []
       ·refine zB [(4, .bp 4 0), (6, .bp 6 0), (33, .bool (decide (24 < (v0_3.length : Int))))] [(4, .box 24 [.int .i64 0, .cv (.slice none 0 0)]), (6, .box 24 [.int .i64 (s.1 * t.1), .own 33000]), (33000, .arr 66 (.pair (.int .i64) (.pair (.int .i64) (.int .i64))) v0_3)] ?_
        refine zQ h (fun hb13 h => ?_) (fun hb13 h => ?_)
        ·refine zo ?_
         refine zB [(4, .bp 4 0), (5, .int .i64 4)] [(4, .box 24 [.int .i64 0, .cv (.slice none 0 0)])] ?_
         refine zr ?_
         obtain rfl := Option.some.inj h
         exact zR [] [2000] []
        ·refine zk ?_
         refine zo ?_
         refine zB [(4, .bp 4 0), (5, .int .i64 0)] [(4, .box 24 [.int .i64 (s.1 * t.1), .own 33000]), (33000, .arr 66 (.pair (.int .i64) (.pair (.int .i64) (.int .i64))) v0_3)] ?_
         refine AW.ret ?_
         obtain rfl := Option.some.inj h
         exact zR [] [] [(2000, 33000)]

theorem hc_lineallaw05_RefineBoth (s : Int × (List (Int × Int × Int))) (t : Int × (List (Int × Int × Int))) (trace : List Int) {r : Bool} (h : lineallaw05_RefineBoth s t trace = some r) : HC Try.prog 14 [] [.agg [.int .i64 s.1, .sl (.pair (.int .i64) (.pair (.int .i64) (.int .i64))) s.2], .agg [.int .i64 t.1, .sl (.pair (.int .i64) (.pair (.int .i64) (.int .i64))) t.2], .sl (.int .i64) trace] [] (.bool r) := by
 unfold lineallaw05_RefineBoth at h
 refine zH Try.func14 [.tmp 6] 118 ?_
 refine zo ?_
 refine zB [(2, .sl (.int .i64) trace), (3, .bp 3 0), (4, .bp 4 0)] [(3, .box 24 [.int .i64 s.1, .sl (.pair (.int .i64) (.pair (.int .i64) (.int .i64))) s.2]), (4, .box 24 [.int .i64 t.1, .sl (.pair (.int .i64) (.pair (.int .i64) (.int .i64))) t.2])] ?_
 refine AW.seq ?_
 refine zo ?_
 refine zS 3 [(2, .sl (.int .i64) trace), (3, .bp 3 0), (4, .bp 4 0), (20, .own 20)] [(3, .box 24 [.int .i64 s.1, .sl (.pair (.int .i64) (.pair (.int .i64) (.int .i64))) s.2]), (4, .box 24 [.int .i64 t.1, .sl (.pair (.int .i64) (.pair (.int .i64) (.int .i64))) t.2]), (20, .arr 24 (.pair (.int .i64) (.sl (.pair (.int .i64) (.pair (.int .i64) (.int .i64))))) [s, t])] ?_
 obtain ⟨v0, hv1, h⟩ := Option.bind_eq_some_iff.1 h
 refine zC [20] [] (hc_lineallaw05_valid [s, t] hv1) [(2, .sl (.int .i64) trace), (3, .bp 3 0), (4, .bp 4 0), (21, .bool v0)] [(3, .box 24 [.int .i64 s.1, .sl (.pair (.int .i64) (.pair (.int .i64) (.int .i64))) s.2]), (4, .box 24 [.int .i64 t.1, .sl (.pair (.int .i64) (.pair (.int .i64) (.int .i64))) t.2])] ?_
 refine zS 2 [(2, .sl (.int .i64) trace), (3, .bp 3 0), (4, .bp 4 0), (23, .bool (!v0))] [(3, .box 24 [.int .i64 s.1, .sl (.pair (.int .i64) (.pair (.int .i64) (.int .i64))) s.2]), (4, .box 24 [.int .i64 t.1, .sl (.pair (.int .i64) (.pair (.int .i64) (.int .i64))) t.2])] ?_
 rcases zI h with ⟨hb2, h⟩ | ⟨hb2, h⟩
 ·refine zB [(2, .sl (.int .i64) trace), (3, .bp 3 0), (4, .bp 4 0), (27, .bool true)] [(3, .box 24 [.int .i64 s.1, .sl (.pair (.int .i64) (.pair (.int .i64) (.int .i64))) s.2]), (4, .box 24 [.int .i64 t.1, .sl (.pair (.int .i64) (.pair (.int .i64) (.int .i64))) t.2])] ?_
  refine AW.cond (b := true) rfl (fun _ => ?_) (fun hb3 => by cases hb3)
  refine zo ?_
  obtain ⟨v0_2, hv4, h⟩ := Option.bind_eq_some_iff.1 h
  refine zC [] [] (hc_lineallaw05_Awake hv4) [(28, .bool v0_2)] [] ?_
  refine zB [(6, .bool v0_2)] [] ?_
  refine zr ?_
  obtain rfl := Option.some.inj h
  exact zR [] [] []
 ·refine zB [(2, .sl (.int .i64) trace), (3, .bp 3 0), (4, .bp 4 0), (27, .bool (decide (100 < (trace.length : Int))))] [(3, .box 24 [.int .i64 s.1, .sl (.pair (.int .i64) (.pair (.int .i64) (.int .i64))) s.2]), (4, .box 24 [.int .i64 t.1, .sl (.pair (.int .i64) (.pair (.int .i64) (.int .i64))) t.2])] ?_
  refine zQ h (fun hb5 h => ?_) (fun hb5 h => ?_)
  ·refine zo ?_
   obtain ⟨v0_3, hv6, h⟩ := Option.bind_eq_some_iff.1 h
   refine zC [] [] (hc_lineallaw05_Awake hv6) [(28, .bool v0_3)] [] ?_
   refine zB [(6, .bool v0_3)] [] ?_
   refine zr ?_
   obtain rfl := Option.some.inj h
   exact zR [] [] []
  ·refine zk ?_
   refine zo ?_
   refine zS 2 [(2, .sl (.int .i64) trace), (3, .bp 3 0), (4, .bp 4 0), (30, .agg [.int .i64 s.1, .sl (.pair (.int .i64) (.pair (.int .i64) (.int .i64))) s.2]), (31, .agg [.int .i64 t.1, .sl (.pair (.int .i64) (.pair (.int .i64) (.int .i64))) t.2])] [(3, .box 24 [.int .i64 s.1, .sl (.pair (.int .i64) (.pair (.int .i64) (.int .i64))) s.2]), (4, .box 24 [.int .i64 t.1, .sl (.pair (.int .i64) (.pair (.int .i64) (.int .i64))) t.2])] ?_
   obtain ⟨v0_4, hv7, h⟩ := Option.bind_eq_some_iff.1 h
   refine zC [] [] (hc_refine_Both s t hv7) [(2, .sl (.int .i64) trace), (3, .bp 3 0), (4, .bp 4 0), (32, .tup [.agg [.int .i64 v0_4.1, .own 42000], .int .i64 v0_4.2.2])] [(3, .box 24 [.int .i64 s.1, .sl (.pair (.int .i64) (.pair (.int .i64) (.int .i64))) s.2]), (4, .box 24 [.int .i64 t.1, .sl (.pair (.int .i64) (.pair (.int .i64) (.int .i64))) t.2]), (42000, .arr 66 (.pair (.int .i64) (.pair (.int .i64) (.int .i64))) v0_4.2.1)] ?_
   refine zS 5 [(2, .sl (.int .i64) trace), (3, .bp 3 0), (4, .bp 4 0), (7, .bp 7 0), (34, .int .i64 v0_4.2.2)] [(3, .box 24 [.int .i64 s.1, .sl (.pair (.int .i64) (.pair (.int .i64) (.int .i64))) s.2]), (4, .box 24 [.int .i64 t.1, .sl (.pair (.int .i64) (.pair (.int .i64) (.int .i64))) t.2]), (7, .box 24 [.int .i64 v0_4.1, .own 42000]), (42000, .arr 66 (.pair (.int .i64) (.pair (.int .i64) (.int .i64))) v0_4.2.1)] ?_
   refine zB [(2, .sl (.int .i64) trace), (3, .bp 3 0), (4, .bp 4 0), (7, .bp 7 0), (8, .int .i64 v0_4.2.2)] [(3, .box 24 [.int .i64 s.1, .sl (.pair (.int .i64) (.pair (.int .i64) (.int .i64))) s.2]), (4, .box 24 [.int .i64 t.1, .sl (.pair (.int .i64) (.pair (.int .i64) (.int .i64))) t.2]), (7, .box 24 [.int .i64 v0_4.1, .own 42000]), (42000, .arr 66 (.pair (.int .i64) (.pair (.int .i64) (.int .i64))) v0_4.2.1)] ?_
   refine AW.seq ?_
   refine zo ?_
   refine zB [(2, .sl (.int .i64) trace), (3, .bp 3 0), (4, .bp 4 0), (7, .bp 7 0), (8, .int .i64 v0_4.2.2), (36, .bool (!(decide (v0_4.2.2 = 0))))] [(3, .box 24 [.int .i64 s.1, .sl (.pair (.int .i64) (.pair (.int .i64) (.int .i64))) s.2]), (4, .box 24 [.int .i64 t.1, .sl (.pair (.int .i64) (.pair (.int .i64) (.int .i64))) t.2]), (7, .box 24 [.int .i64 v0_4.1, .own 42000]), (42000, .arr 66 (.pair (.int .i64) (.pair (.int .i64) (.int .i64))) v0_4.2.1)] ?_
   refine zQ h (fun hb8 h => ?_) (fun hb8 h => ?_)
   ·refine zo ?_
    refine zS 3 [(39, .bool (decide (v0_4.2.2 = 4)))] [] ?_
    rcases zI h with ⟨hb9, h⟩ | ⟨hb9, h⟩
    ·refine zT [(39, .bool true)] [] gt ?_
     obtain ⟨v0_5, hv10, h⟩ := Option.bind_eq_some_iff.1 h
     refine zG [] [] (hc_lineallaw05_Awake hv10) [(39, .bool true), (40, .bool v0_5)] [] ?_
     refine zB [(6, .bool v0_5)] [] ?_
     refine zr ?_
     obtain rfl := Option.some.inj h
     exact zR [] [] []
    ·refine zB [(6, .bool false)] [] ?_
     refine zr ?_
     obtain rfl := Option.some.inj h
     exact zR [] [] []
   ·refine zk ?_
    refine AW.seq ?_
    refine zo ?_
    refine zS 1 [(2, .sl (.int .i64) trace), (3, .bp 3 0), (4, .bp 4 0), (7, .bp 7 0), (42, .agg [.int .i64 v0_4.1, .own 42000])] [(3, .box 24 [.int .i64 s.1, .sl (.pair (.int .i64) (.pair (.int .i64) (.int .i64))) s.2]), (4, .box 24 [.int .i64 t.1, .sl (.pair (.int .i64) (.pair (.int .i64) (.int .i64))) t.2]), (7, .box 24 [.int .i64 v0_4.1, .own 42000]), (42000, .arr 66 (.pair (.int .i64) (.pair (.int .i64) (.int .i64))) v0_4.2.1)] ?_
    obtain ⟨v0_6, hv11, h⟩ := Option.bind_eq_some_iff.1 h
    refine zC [42000] [] (hc_linealref05_Valid (v0_4.1, v0_4.2.1) hv11) [(2, .sl (.int .i64) trace), (3, .bp 3 0), (4, .bp 4 0), (7, .bp 7 0), (43, .bool v0_6)] [(3, .box 24 [.int .i64 s.1, .sl (.pair (.int .i64) (.pair (.int .i64) (.int .i64))) s.2]), (4, .box 24 [.int .i64 t.1, .sl (.pair (.int .i64) (.pair (.int .i64) (.int .i64))) t.2]), (7, .box 24 [.int .i64 v0_4.1, .own 42000]), (42000, .arr 66 (.pair (.int .i64) (.pair (.int .i64) (.int .i64))) v0_4.2.1)] ?_
    refine zS 2 [(2, .sl (.int .i64) trace), (3, .bp 3 0), (4, .bp 4 0), (7, .bp 7 0), (45, .bool (!v0_6))] [(3, .box 24 [.int .i64 s.1, .sl (.pair (.int .i64) (.pair (.int .i64) (.int .i64))) s.2]), (4, .box 24 [.int .i64 t.1, .sl (.pair (.int .i64) (.pair (.int .i64) (.int .i64))) t.2]), (7, .box 24 [.int .i64 v0_4.1, .own 42000]), (42000, .arr 66 (.pair (.int .i64) (.pair (.int .i64) (.int .i64))) v0_4.2.1)] ?_
    rcases zI h with ⟨hb12, h⟩ | ⟨hb12, h⟩
    ·refine zS 4 [(2, .sl (.int .i64) trace), (3, .bp 3 0), (4, .bp 4 0), (7, .bp 7 0), (45, .bool true), (47, .cv (undef)), (49, .cv (undef))] [(3, .box 24 [.int .i64 s.1, .sl (.pair (.int .i64) (.pair (.int .i64) (.int .i64))) s.2]), (4, .box 24 [.int .i64 t.1, .sl (.pair (.int .i64) (.pair (.int .i64) (.int .i64))) t.2]), (7, .box 24 [.int .i64 v0_4.1, .own 42000]), (42000, .arr 66 (.pair (.int .i64) (.pair (.int .i64) (.int .i64))) v0_4.2.1)] ?_
     refine zS 4 [(2, .sl (.int .i64) trace), (3, .bp 3 0), (4, .bp 4 0), (7, .bp 7 0), (45, .bool true), (53, .cv (undef))] [(3, .box 24 [.int .i64 s.1, .sl (.pair (.int .i64) (.pair (.int .i64) (.int .i64))) s.2]), (4, .box 24 [.int .i64 t.1, .sl (.pair (.int .i64) (.pair (.int .i64) (.int .i64))) t.2]), (7, .box 24 [.int .i64 v0_4.1, .own 42000]), (42000, .arr 66 (.pair (.int .i64) (.pair (.int .i64) (.int .i64))) v0_4.2.1)] ?_
     refine zB [(2, .sl (.int .i64) trace), (3, .bp 3 0), (4, .bp 4 0), (7, .bp 7 0), (54, .bool true)] [(3, .box 24 [.int .i64 s.1, .sl (.pair (.int .i64) (.pair (.int .i64) (.int .i64))) s.2]), (4, .box 24 [.int .i64 t.1, .sl (.pair (.int .i64) (.pair (.int .i64) (.int .i64))) t.2]), (7, .box 24 [.int .i64 v0_4.1, .own 42000]), (42000, .arr 66 (.pair (.int .i64) (.pair (.int .i64) (.int .i64))) v0_4.2.1)] ?_
     refine AW.cond (b := true) rfl (fun _ => ?_) (fun hb13 => by cases hb13)
     refine zo ?_
     refine zB [(6, .bool false)] [] ?_
     refine zr ?_
     obtain rfl := Option.some.inj h
     exact zR [] [] []
    ·refine zS 5 [(2, .sl (.int .i64) trace), (3, .bp 3 0), (4, .bp 4 0), (7, .bp 7 0), (45, .bool false), (47, .int .i64 v0_4.1), (49, .int .i64 s.1), (50, .bp 4 0)] [(3, .box 24 [.int .i64 s.1, .sl (.pair (.int .i64) (.pair (.int .i64) (.int .i64))) s.2]), (4, .box 24 [.int .i64 t.1, .sl (.pair (.int .i64) (.pair (.int .i64) (.int .i64))) t.2]), (7, .box 24 [.int .i64 v0_4.1, .own 42000]), (42000, .arr 66 (.pair (.int .i64) (.pair (.int .i64) (.int .i64))) v0_4.2.1)] ?_
     obtain ⟨c14, h⟩ := ck_some.1 h
     refine zB [(2, .sl (.int .i64) trace), (3, .bp 3 0), (4, .bp 4 0), (7, .bp 7 0), (54, .bool (!(decide (v0_4.1 = (s.1 * t.1)))))] [(3, .box 24 [.int .i64 s.1, .sl (.pair (.int .i64) (.pair (.int .i64) (.int .i64))) s.2]), (4, .box 24 [.int .i64 t.1, .sl (.pair (.int .i64) (.pair (.int .i64) (.int .i64))) t.2]), (7, .box 24 [.int .i64 v0_4.1, .own 42000]), (42000, .arr 66 (.pair (.int .i64) (.pair (.int .i64) (.int .i64))) v0_4.2.1)] ?_
     refine zQ h (fun hb15 h => ?_) (fun hb15 h => ?_)
     ·refine zo ?_
      refine zB [(6, .bool false)] [] ?_
      refine zr ?_
      obtain rfl := Option.some.inj h
      exact zR [] [] []
     ·refine zk ?_
      refine zo ?_
      refine zS 2 [(2, .sl (.int .i64) trace), (3, .bp 3 0), (4, .bp 4 0), (7, .bp 7 0), (56, .agg [.int .i64 v0_4.1, .own 42000]), (57, .agg [.int .i64 s.1, .sl (.pair (.int .i64) (.pair (.int .i64) (.int .i64))) s.2])] [(3, .box 24 [.int .i64 s.1, .sl (.pair (.int .i64) (.pair (.int .i64) (.int .i64))) s.2]), (4, .box 24 [.int .i64 t.1, .sl (.pair (.int .i64) (.pair (.int .i64) (.int .i64))) t.2]), (7, .box 24 [.int .i64 v0_4.1, .own 42000]), (42000, .arr 66 (.pair (.int .i64) (.pair (.int .i64) (.int .i64))) v0_4.2.1)] ?_
      obtain ⟨v0_7, hv16, h⟩ := Option.bind_eq_some_iff.1 h
      refine zC [42000] [] (hc_refine_Refines (v0_4.1, v0_4.2.1) s hv16) [(2, .sl (.int .i64) trace), (3, .bp 3 0), (4, .bp 4 0), (7, .bp 7 0), (58, .tup [.bool v0_7.1, .int .i64 v0_7.2])] [(3, .box 24 [.int .i64 s.1, .sl (.pair (.int .i64) (.pair (.int .i64) (.int .i64))) s.2]), (4, .box 24 [.int .i64 t.1, .sl (.pair (.int .i64) (.pair (.int .i64) (.int .i64))) t.2]), (7, .box 24 [.int .i64 v0_4.1, .own 42000]), (42000, .arr 66 (.pair (.int .i64) (.pair (.int .i64) (.int .i64))) v0_4.2.1)] ?_
      refine zB [(2, .sl (.int .i64) trace), (3, .bp 3 0), (4, .bp 4 0), (7, .bp 7 0), (8, .int .i64 v0_7.2), (9, .bool v0_7.1)] [(3, .box 24 [.int .i64 s.1, .sl (.pair (.int .i64) (.pair (.int .i64) (.int .i64))) s.2]), (4, .box 24 [.int .i64 t.1, .sl (.pair (.int .i64) (.pair (.int .i64) (.int .i64))) t.2]), (7, .box 24 [.int .i64 v0_4.1, .own 42000]), (42000, .arr 66 (.pair (.int .i64) (.pair (.int .i64) (.int .i64))) v0_4.2.1)] ?_
      refine zo ?_
      refine zS 2 [(2, .sl (.int .i64) trace), (3, .bp 3 0), (4, .bp 4 0), (7, .bp 7 0), (8, .int .i64 v0_7.2), (9, .bool v0_7.1), (62, .agg [.int .i64 v0_4.1, .own 42000]), (63, .agg [.int .i64 t.1, .sl (.pair (.int .i64) (.pair (.int .i64) (.int .i64))) t.2])] [(3, .box 24 [.int .i64 s.1, .sl (.pair (.int .i64) (.pair (.int .i64) (.int .i64))) s.2]), (4, .box 24 [.int .i64 t.1, .sl (.pair (.int .i64) (.pair (.int .i64) (.int .i64))) t.2]), (7, .box 24 [.int .i64 v0_4.1, .own 42000]), (42000, .arr 66 (.pair (.int .i64) (.pair (.int .i64) (.int .i64))) v0_4.2.1)] ?_
      obtain ⟨v0_8, hv17, h⟩ := Option.bind_eq_some_iff.1 h
      refine zC [42000] [] (hc_refine_Refines (v0_4.1, v0_4.2.1) t hv17) [(2, .sl (.int .i64) trace), (3, .bp 3 0), (4, .bp 4 0), (7, .bp 7 0), (8, .int .i64 v0_7.2), (9, .bool v0_7.1), (64, .tup [.bool v0_8.1, .int .i64 v0_8.2])] [(3, .box 24 [.int .i64 s.1, .sl (.pair (.int .i64) (.pair (.int .i64) (.int .i64))) s.2]), (4, .box 24 [.int .i64 t.1, .sl (.pair (.int .i64) (.pair (.int .i64) (.int .i64))) t.2]), (7, .box 24 [.int .i64 v0_4.1, .own 42000]), (42000, .arr 66 (.pair (.int .i64) (.pair (.int .i64) (.int .i64))) v0_4.2.1)] ?_
      refine zB [(2, .sl (.int .i64) trace), (3, .bp 3 0), (4, .bp 4 0), (7, .bp 7 0), (8, .int .i64 v0_7.2), (9, .bool v0_7.1), (10, .bool v0_8.1), (11, .int .i64 v0_8.2)] [(3, .box 24 [.int .i64 s.1, .sl (.pair (.int .i64) (.pair (.int .i64) (.int .i64))) s.2]), (4, .box 24 [.int .i64 t.1, .sl (.pair (.int .i64) (.pair (.int .i64) (.int .i64))) t.2]), (7, .box 24 [.int .i64 v0_4.1, .own 42000]), (42000, .arr 66 (.pair (.int .i64) (.pair (.int .i64) (.int .i64))) v0_4.2.1)] ?_
      refine zo ?_
      refine zS 2 [(2, .sl (.int .i64) trace), (3, .bp 3 0), (4, .bp 4 0), (8, .int .i64 v0_7.2), (9, .bool v0_7.1), (10, .bool v0_8.1), (11, .int .i64 v0_8.2), (68, .agg [.int .i64 v0_4.1, .own 42000]), (69, .sl (.int .i64) trace)] [(3, .box 24 [.int .i64 s.1, .sl (.pair (.int .i64) (.pair (.int .i64) (.int .i64))) s.2]), (4, .box 24 [.int .i64 t.1, .sl (.pair (.int .i64) (.pair (.int .i64) (.int .i64))) t.2]), (42000, .arr 66 (.pair (.int .i64) (.pair (.int .i64) (.int .i64))) v0_4.2.1)] ?_
      obtain ⟨v0_9, hv18, h⟩ := Option.bind_eq_some_iff.1 h
      refine zC [42000] [] (hc_refine_IsTrace (v0_4.1, v0_4.2.1) trace hv18) [(2, .sl (.int .i64) trace), (3, .bp 3 0), (4, .bp 4 0), (8, .int .i64 v0_7.2), (9, .bool v0_7.1), (10, .bool v0_8.1), (11, .int .i64 v0_8.2), (70, .tup [.bool v0_9.1, .int .i64 v0_9.2])] [(3, .box 24 [.int .i64 s.1, .sl (.pair (.int .i64) (.pair (.int .i64) (.int .i64))) s.2]), (4, .box 24 [.int .i64 t.1, .sl (.pair (.int .i64) (.pair (.int .i64) (.int .i64))) t.2])] ?_
      refine zB [(2, .sl (.int .i64) trace), (3, .bp 3 0), (4, .bp 4 0), (8, .int .i64 v0_7.2), (9, .bool v0_7.1), (10, .bool v0_8.1), (11, .int .i64 v0_8.2), (12, .bool v0_9.1), (13, .int .i64 v0_9.2)] [(3, .box 24 [.int .i64 s.1, .sl (.pair (.int .i64) (.pair (.int .i64) (.int .i64))) s.2]), (4, .box 24 [.int .i64 t.1, .sl (.pair (.int .i64) (.pair (.int .i64) (.int .i64))) t.2])] ?_
      refine zo ?_
      refine zS 2 [(2, .sl (.int .i64) trace), (4, .bp 4 0), (8, .int .i64 v0_7.2), (9, .bool v0_7.1), (10, .bool v0_8.1), (11, .int .i64 v0_8.2), (12, .bool v0_9.1), (13, .int .i64 v0_9.2), (74, .agg [.int .i64 s.1, .sl (.pair (.int .i64) (.pair (.int .i64) (.int .i64))) s.2]), (75, .sl (.int .i64) trace)] [(4, .box 24 [.int .i64 t.1, .sl (.pair (.int .i64) (.pair (.int .i64) (.int .i64))) t.2])] ?_
      obtain ⟨v0_10, hv19, h⟩ := Option.bind_eq_some_iff.1 h
      refine zC [] [] (hc_refine_IsTrace s trace hv19) [(2, .sl (.int .i64) trace), (4, .bp 4 0), (8, .int .i64 v0_7.2), (9, .bool v0_7.1), (10, .bool v0_8.1), (11, .int .i64 v0_8.2), (12, .bool v0_9.1), (13, .int .i64 v0_9.2), (76, .tup [.bool v0_10.1, .int .i64 v0_10.2])] [(4, .box 24 [.int .i64 t.1, .sl (.pair (.int .i64) (.pair (.int .i64) (.int .i64))) t.2])] ?_
      refine zB [(2, .sl (.int .i64) trace), (4, .bp 4 0), (8, .int .i64 v0_7.2), (9, .bool v0_7.1), (10, .bool v0_8.1), (11, .int .i64 v0_8.2), (12, .bool v0_9.1), (13, .int .i64 v0_9.2), (14, .bool v0_10.1), (15, .int .i64 v0_10.2)] [(4, .box 24 [.int .i64 t.1, .sl (.pair (.int .i64) (.pair (.int .i64) (.int .i64))) t.2])] ?_
      refine zo ?_
      refine zS 2 [(8, .int .i64 v0_7.2), (9, .bool v0_7.1), (10, .bool v0_8.1), (11, .int .i64 v0_8.2), (12, .bool v0_9.1), (13, .int .i64 v0_9.2), (14, .bool v0_10.1), (15, .int .i64 v0_10.2), (80, .agg [.int .i64 t.1, .sl (.pair (.int .i64) (.pair (.int .i64) (.int .i64))) t.2]), (81, .sl (.int .i64) trace)] [] ?_
      obtain ⟨v0_11, hv20, h⟩ := Option.bind_eq_some_iff.1 h
      refine zC [] [] (hc_refine_IsTrace t trace hv20) [(8, .int .i64 v0_7.2), (9, .bool v0_7.1), (10, .bool v0_8.1), (11, .int .i64 v0_8.2), (12, .bool v0_9.1), (13, .int .i64 v0_9.2), (14, .bool v0_10.1), (15, .int .i64 v0_10.2), (82, .tup [.bool v0_11.1, .int .i64 v0_11.2])] [] ?_
      refine zB [(8, .int .i64 v0_7.2), (9, .bool v0_7.1), (10, .bool v0_8.1), (11, .int .i64 v0_8.2), (12, .bool v0_9.1), (13, .int .i64 v0_9.2), (14, .bool v0_10.1), (15, .int .i64 v0_10.2), (16, .bool v0_11.1), (17, .int .i64 v0_11.2)] [] ?_
      refine zo ?_
      refine zS 3 [(9, .bool v0_7.1), (10, .bool v0_8.1), (11, .int .i64 v0_8.2), (12, .bool v0_9.1), (13, .int .i64 v0_9.2), (14, .bool v0_10.1), (15, .int .i64 v0_10.2), (16, .bool v0_11.1), (17, .int .i64 v0_11.2), (87, .bool (decide (v0_7.2 = 0)))] [] ?_
      rcases zI h with ⟨hb21, h⟩ | ⟨hb21, h⟩
      ·refine zS 4 [(9, .bool v0_7.1), (10, .bool v0_8.1), (12, .bool v0_9.1), (13, .int .i64 v0_9.2), (14, .bool v0_10.1), (15, .int .i64 v0_10.2), (16, .bool v0_11.1), (17, .int .i64 v0_11.2), (91, .bool (decide (v0_8.2 = 0)))] [] ?_
       rcases zI h with ⟨hb22, h⟩ | ⟨hb22, h⟩
       ·refine zS 3 [(10, .bool v0_8.1), (12, .bool v0_9.1), (13, .int .i64 v0_9.2), (14, .bool v0_10.1), (15, .int .i64 v0_10.2), (16, .bool v0_11.1), (17, .int .i64 v0_11.2), (94, .bool v0_7.1)] [] ?_
        rcases zI h with ⟨hb23, h⟩ | ⟨hb23, h⟩
        ·refine zS 3 [(12, .bool v0_9.1), (13, .int .i64 v0_9.2), (14, .bool v0_10.1), (15, .int .i64 v0_10.2), (16, .bool v0_11.1), (17, .int .i64 v0_11.2), (97, .bool v0_8.1)] [] ?_
         rcases zI h with ⟨hb24, h⟩ | ⟨hb24, h⟩
         ·refine zS 5 [(12, .bool v0_9.1), (14, .bool v0_10.1), (15, .int .i64 v0_10.2), (16, .bool v0_11.1), (17, .int .i64 v0_11.2), (102, .bool (decide (v0_9.2 = v0_10.2)))] [] ?_
          rcases zI h with ⟨hb25, h⟩ | ⟨hb25, h⟩
          ·refine zS 5 [(12, .bool v0_9.1), (14, .bool v0_10.1), (16, .bool v0_11.1), (107, .bool (decide (v0_10.2 = v0_11.2)))] [] ?_
           rcases zI h with ⟨hb26, h⟩ | ⟨hb26, h⟩
           ·refine zS 3 [(16, .bool v0_11.1), (107, .bool true), (108, .bool v0_9.1), (110, .bool v0_10.1)] [] ?_
            rcases zI h with ⟨hb27, h⟩ | ⟨hb27, h⟩
            ·refine zS 5 [(115, .bool ((v0_9.1 == v0_11.1) != false))] [] ?_
             rcases zI h with ⟨hb28, h⟩ | ⟨hb28, h⟩
             ·refine zT [(115, .bool true)] [] gt ?_
              obtain ⟨v0_12, hv29, h⟩ := Option.bind_eq_some_iff.1 h
              refine zG [] [] (hc_lineallaw05_Awake hv29) [(115, .bool true), (116, .bool v0_12)] [] ?_
              refine zB [(6, .bool v0_12)] [] ?_
              refine AW.ret ?_
              obtain rfl := Option.some.inj h
              exact zR [] [] []
             ·refine zB [(6, .bool false)] [] ?_
              refine AW.ret ?_
              obtain rfl := Option.some.inj h
              exact zR [] [] []
            ·refine zS 5 [(115, .bool ((v0_9.1 == false) != false))] [] ?_
             rcases zI h with ⟨hb30, h⟩ | ⟨hb30, h⟩
             ·refine zT [(115, .bool true)] [] gt ?_
              obtain ⟨v0_13, hv31, h⟩ := Option.bind_eq_some_iff.1 h
              refine zG [] [] (hc_lineallaw05_Awake hv31) [(115, .bool true), (116, .bool v0_13)] [] ?_
              refine zB [(6, .bool v0_13)] [] ?_
              refine AW.ret ?_
              obtain rfl := Option.some.inj h
              exact zR [] [] []
             ·refine zB [(6, .bool false)] [] ?_
              refine AW.ret ?_
              obtain rfl := Option.some.inj h
              exact zR [] [] []
           ·refine zS 4 [(107, .bool false), (108, .cv (undef)), (110, .cv (undef)), (111, .cv (undef))] [] ?_
            refine zS 5 [(115, .bool false), (116, .cv (undef))] [] ?_
            refine zB [(6, .bool false)] [] ?_
            refine AW.ret ?_
            obtain rfl := Option.some.inj h
            exact zR [] [] []
          ·refine zS 5 [(12, .bool v0_9.1), (14, .bool v0_10.1), (16, .bool v0_11.1), (107, .bool false)] [] ?_
           refine zS 4 [(107, .bool false), (108, .cv (undef)), (110, .cv (undef)), (111, .cv (undef))] [] ?_
           refine zS 5 [(115, .bool false), (116, .cv (undef))] [] ?_
           refine zB [(6, .bool false)] [] ?_
           refine AW.ret ?_
           obtain rfl := Option.some.inj h
           exact zR [] [] []
         ·refine zS 5 [(12, .bool v0_9.1), (14, .bool v0_10.1), (15, .int .i64 v0_10.2), (16, .bool v0_11.1), (17, .int .i64 v0_11.2), (102, .bool false)] [] ?_
          refine zS 5 [(12, .bool v0_9.1), (14, .bool v0_10.1), (16, .bool v0_11.1), (107, .bool false)] [] ?_
          refine zS 4 [(107, .bool false), (108, .cv (undef)), (110, .cv (undef)), (111, .cv (undef))] [] ?_
          refine zS 5 [(115, .bool false), (116, .cv (undef))] [] ?_
          refine zB [(6, .bool false)] [] ?_
          refine AW.ret ?_
          obtain rfl := Option.some.inj h
          exact zR [] [] []
        ·refine zS 5 [(12, .bool v0_9.1), (14, .bool v0_10.1), (15, .int .i64 v0_10.2), (16, .bool v0_11.1), (17, .int .i64 v0_11.2), (97, .bool false), (98, .cv (undef)), (99, .cv (undef))] [] ?_
         refine zS 5 [(12, .bool v0_9.1), (14, .bool v0_10.1), (16, .bool v0_11.1), (102, .bool false), (103, .cv (undef)), (104, .cv (undef))] [] ?_
         refine zS 5 [(16, .bool v0_11.1), (107, .bool false), (108, .cv (undef)), (109, .cv (undef))] [] ?_
         refine zS 4 [(107, .bool false), (113, .cv (undef))] [] ?_
         refine zB [(6, .bool false)] [] ?_
         refine AW.ret ?_
         obtain rfl := Option.some.inj h
         exact zR [] [] []
       ·refine zS 5 [(12, .bool v0_9.1), (13, .int .i64 v0_9.2), (14, .bool v0_10.1), (15, .int .i64 v0_10.2), (16, .bool v0_11.1), (17, .int .i64 v0_11.2), (96, .bool false)] [] ?_
        refine zS 5 [(12, .bool v0_9.1), (14, .bool v0_10.1), (15, .int .i64 v0_10.2), (16, .bool v0_11.1), (17, .int .i64 v0_11.2), (101, .bool false)] [] ?_
        refine zS 5 [(12, .bool v0_9.1), (14, .bool v0_10.1), (16, .bool v0_11.1), (106, .bool false)] [] ?_
        refine zS 5 [(107, .bool false), (108, .cv (undef)), (110, .cv (undef)), (111, .cv (undef))] [] ?_
        refine zS 5 [(115, .bool false), (116, .cv (undef))] [] ?_
        refine zB [(6, .bool false)] [] ?_
        refine AW.ret ?_
        obtain rfl := Option.some.inj h
        exact zR [] [] []
      ·refine zS 5 [(10, .bool v0_8.1), (12, .bool v0_9.1), (13, .int .i64 v0_9.2), (14, .bool v0_10.1), (15, .int .i64 v0_10.2), (16, .bool v0_11.1), (17, .int .i64 v0_11.2), (91, .bool false), (92, .cv (undef))] [] ?_
       refine zS 5 [(12, .bool v0_9.1), (13, .int .i64 v0_9.2), (14, .bool v0_10.1), (15, .int .i64 v0_10.2), (16, .bool v0_11.1), (17, .int .i64 v0_11.2), (97, .bool false)] [] ?_
       refine zS 5 [(12, .bool v0_9.1), (14, .bool v0_10.1), (15, .int .i64 v0_10.2), (16, .bool v0_11.1), (17, .int .i64 v0_11.2), (102, .bool false)] [] ?_
       refine zS 5 [(12, .bool v0_9.1), (14, .bool v0_10.1), (16, .bool v0_11.1), (107, .bool false)] [] ?_
       refine zS 4 [(107, .bool false), (108, .cv (undef)), (110, .cv (undef)), (111, .cv (undef))] [] ?_
       refine zS 5 [(115, .bool false), (116, .cv (undef))] [] ?_
       refine zB [(6, .bool false)] [] ?_
       refine AW.ret ?_
       obtain rfl := Option.some.inj h
       exact zR [] [] []

end Go.Proofs.Ytifleoceebaooaa
